import PyProof.Rows.All
import Wide.All
import OpenK.AllK
import PySem.Challenge.RW_hushwise_k34_rules_as_a_row_is_done
set_option Elab.async false
set_option linter.all false
set_option bootstrap.genMatcherCode false
set_option genSizeOf false
set_option compiler.extract_closed false
set_option maxRecDepth 100000
set_option maxHeartbeats 8000000
noncomputable section
namespace L2
open PySem Spec PyProof.Rows
def byText(w:World):=w.params.followText "set-order"
abbrev yj6(w:World):Obj:={cls:=.type "set",dict:=none,data:=.set #[] 0 (.fresh 0 0 (!byText w)),slots:=#[]}
section
variable{prog:Program}{w:World}{A:Around}{E:Value->Shared->Prop}{s:Shared}{R:Result->Shared->Prop}{T:Nat->Heap->Prop}
theorem P0(a:Value){Q}(h:Q (.ref s.heap.objs.size) {s with heap:=s.heap.push (yj6 w)}):codeAny (model prog w) A (.call (.builtin "set.__new__") ⟨[.type "set",a],[]⟩) (wants Q E) s:=by
 refine codeAny_of_tree (show wpAny _ A.in1 (do checkBuiltinCall "set.__new__" ⟨[.type "set",a],[]⟩;again (.builtin "set.__new__" ⟨[.type "set",a],[]⟩)) _ _ s from wpAny_bind (wpAny_of_eq (F.newCall_set_1 a) (wpAny_pure ⟨plainId_quiet F.plain_set_new _,codeAny_builtin F.entry_set_new (?_:wpAny _ _ _ _ _ _)⟩)))
 rw[Around.under_plainId F.plain_set_new _];unfold Builtin.«set.__new__» Builtin.Frozenset.newClass;have hs:=sub_set_self;obtain⟨x1,x2,x3,x4,x5⟩:=s;dsimp only
 wp_walk
 refine wpAny_askSetting (wpAny_pure ?_);dsimp only;simp only[newObj];exact wpAny_bind (wpAny_alloc (wpAny_pure (wpAny_pure h)))
theorem loop_G(W:WalksS prog w A.in1 I fp wr G n P U)(hD:D∉fp)(mv:∀{i h h'},T i h->(∀b o,b∉wr->h.get? b=some o->h'.get? b=some o)->T i h')(ad:∀{i v s Q E},i<n->P i v->T i s.heap->(∀b h' k,Heap.SameBut D s.heap h'->T (i+1) h'->Q b {s with heap:=h',toks:=s.toks+k})->wpAny (model prog w) A.in1 (setAdd D v) Q E s):∀(k i:Nat)s,n-i=k->i<=n->U i s->T i s.heap->(∀s',Moved (D::wr) G s s'->T n s'.heap->R (.ok (.ret .none)) s')->codeAny (model prog w) A (.builtin "set.update.loop" ⟨[.ref D,.ref I],[]⟩) R s:=by
 have mw:∀b∈wr,b∈D::wr:=λb=>.tail _
 intro k;induction k with
 |zero=>
  intro i s hk hi st S hR;obtain rfl:i=n:=by omega
  refine codeAny_builtin F.entry_set_update_loop ?_;rw[Around.under_plainId F.plain_set_update_loop _];exact wpAny_bind (m:=pyNext (.ref I)) (W.done s _ _ st λs' m=>wpAny_pure (hR s' (m.mono mw) (mv S m.heap)))
 |succ k ih=>
  intro i s hk hi st S hR;have lt:i<n:=by omega
  refine codeAny_builtin F.entry_set_update_loop ?_;rw[Around.under_plainId F.plain_set_update_loop _];refine wpAny_bind (m:=pyNext (.ref I)) (W.item i s _ _ lt st λv s' hP st' m=>wpAny_bind (m:=holding [v] (setAdd D v)) (wpAny_holding (ad lt hP (mv S m.heap) λb h' j sb S2=>wpAny_pure ⟨plainId_quiet F.plain_set_update_loop _,ih (i+1) _ (by omega) lt (W.frame _ s' _ _ st' (Nat.le_add_right _ _) λc hc o q=>?_) S2 λs'' m2 S3=>hR s'' (Moved.trans W.gtrans ((m.mono mw).then_heap (Nat.le_add_right _ _) λc o hc q=>?_) m2) S3⟩)))
  . rw[sb.2 c (λz=>hD (z▸hc))];exact q
  . rw[sb.2 c (λz=>hc (z▸.head _))];exact q
theorem set_of_G(hh:A.handled=none)(hl:s.heap.IsList l items)(z:∀{h'},h'.get? s.heap.objs.size=some (yj6 w)->(∀b o,s.heap.get? b=some o->h'.get? b=some o)->T 0 h')(mv:∀{i h h'},T i h->(∀b o,b≠s.heap.objs.size+1->h.get? b=some o->h'.get? b=some o)->T i h')(ad:∀{i v s' Q E},i<items.size->items[i]?=some v->T i s'.heap->(∀b h' k,Heap.SameBut s.heap.objs.size s'.heap h'->T (i+1) h'->Q b {s' with heap:=h',toks:=s'.toks+k})->wpAny (model prog w) A.in1.in1.in1 (setAdd s.heap.objs.size v) Q E s')(h:∀h' tk,T items.size h'->(∀b o,b<s.heap.objs.size->s.heap.get? b=some o->h'.get? b=some o)->Q (.ref s.heap.objs.size) {s with heap:=h',toks:=tk}):wpAny (model prog w) A (call (.type "set") [.ref l]) Q E s:=by
 obtain⟨c,tl,hm⟩:=F.called_set.mro;have m1:=F.called_set.made;have m2:=F.called_set.sub
 refine wpAny_call (codeAny_of_tree (show wpAny _ _ (callAny (.type "set") _) _ _ _ from wpAny_pure ⟨Code.quiet_builtin _ (by decide +kernel),codeAny_builtin F.entry_type_call (?_:wpAny _ _ _ _ _ _)⟩))
 rw[Around.under_plain (weight_type_call_type "set" [.ref l] []) rfl];have m3:=F.called_set.notType;have m4:=F.called_set.canCreate;have m5:=F.typeCall_set_1 (.ref l)
 repeat any_goals first|assumption|wp_step
 refine codeAny_mono (P0 (.ref l) (E:=E) (Q:=λo t=>o=.ref s.heap.objs.size/\t={s with heap:=s.heap.push (yj6 w)}) ⟨rfl,rfl⟩) λr t hr=>?_
 cases r with
 |error e=>exact hr
 |ok fl=>
  cases fl with
  |ret obj=>
   obtain⟨rfl,rfl⟩:=hr;have g0:(s.heap.push (yj6 w)).get? s.heap.objs.size=some (yj6 w):=Heap.get?_push_size _ rfl
   have hT:Shared.TypeIs {s with heap:=s.heap.push (yj6 w)} (.ref s.heap.objs.size) "set":=⟨_,g0,rfl⟩
   have m6:=F.called_set.init.lookup;have m7:=F.called_set.init.bind (.ref s.heap.objs.size)
   repeat any_goals first|assumption|wp_step
   refine codeAny_mono (codeAny_call_builtin (R:=wants (λr t=>r=.none/\∃h' tk,t={s with heap:=h',toks:=tk}/\T items.size h'/\(∀b o,b<s.heap.objs.size->s.heap.get? b=some o->h'.get? b=some o)) E) F.called_set.init.plain F.entry_set_init (check_set_init_1 hT ?_)) λr t hr=>?_
   . obtain⟨⟨c1,c2,c3,c4⟩,ho,hc,nl,hd⟩:=hl;simp only at hc hd;subst hc;subst hd;have hp:=Heap.get?_push_of_some (yj6 w) ho
     have n1:=F.sub_list_set;have n2:=F.sub_list_frozenset;have n3:(Value.type "list"==.type "dict")=false:=by decide
     have hl:(s.heap.push (yj6 w)).IsList l items:=⟨_,hp,rfl,nl,rfl⟩
     unfold Builtin.«set.__init__» noKeywords Builtin.Frozenset.updateFrom;generalize e:pyIter=PI
     wp_walk
     subst e;refine wpAny_pyIter_list hl (wpAny_bind (wpAny_runValue ?_));have lS:=Heap.lt_size ho;have h3:A.in1.in1.in1.handled=none:=by simp[hh]
     have eI:(s.heap.push (yj6 w)).objs.size=s.heap.objs.size+1:=Heap.size_push ..
     have nI:l≠(s.heap.push (yj6 w)).objs.size:=by rw[eI];exact Nat.ne_of_lt (Nat.lt_succ_of_lt lS)
     refine loop_G (T:=T) (Walks.list h3 _ l nI items).toS (by rw[eI];simp;exact Nat.ne_of_gt lS) (λp q=>mv p λb o nb=>q b o (by simpa[eI] using nb)) ad (items.size-0) 0 _ rfl (Nat.zero_le _) ⟨⟨_,Heap.get?_push_size _ rfl,rfl,rfl⟩,hl.push _⟩ (z (Heap.get?_push_of_some _ g0) λb o q=>Heap.get?_push_of_some _ (Heap.get?_push_of_some _ q)) λt m S=>?_
     obtain⟨h',g',d',tk',os'⟩:=t;obtain rfl:g'=s.gens:=m.gens
     obtain rfl:d'=s.drawn:=m.drawn
     obtain rfl:os'=s.os:=m.os
     exact wpAny_pure (show wpAny _ _ (ret Value.none) _ _ _ from wpAny_pure ⟨rfl,h',tk',rfl,S,λb o hb q=>m.heap b o (by rw[eI];simp;exact⟨Nat.ne_of_lt hb,Nat.ne_of_lt (Nat.lt_succ_of_lt hb)⟩) (Heap.get?_push_of_some _ (Heap.get?_push_of_some _ q))⟩)
   . cases r with
     |error e=>exact hr
     |ok fl=>
      cases fl with
      |ret r=>
       obtain⟨rfl,h',tk,rfl,q1,q4⟩:=hr
       repeat any_goals first|assumption|wp_step
       exact h _ _ q1 q4
      |_=>exact hr.elim
  |_=>exact hr.elim
end
end L2
def A2{a b g:Prop}(h:a/\b)(z:a->b->g):g:=z h.1 h.2
def A3{a b c g:Prop}(h:a/\b/\c)(z:a->b->c->g):g:=z h.1 h.2.1 h.2.2
def A4{a b c d g:Prop}(h:a/\b/\c/\d)(z:a->b->c->d->g):g:=z h.1 h.2.1 h.2.2.1 h.2.2.2
def A5{a b c d e g:Prop}(h:a/\b/\c/\d/\e)(z:a->b->c->d->e->g):g:=z h.1 h.2.1 h.2.2.1 h.2.2.2.1 h.2.2.2.2
def A6{a b c d e f g:Prop}(h:a/\b/\c/\d/\e/\f)(z:a->b->c->d->e->f->g):g:=z h.1 h.2.1 h.2.2.1 h.2.2.2.1 h.2.2.2.2.1 h.2.2.2.2.2
def A7{a b c d e f k g:Prop}(h:a/\b/\c/\d/\e/\f/\k)(z:a->b->c->d->e->f->k->g):g:=z h.1 h.2.1 h.2.2.1 h.2.2.2.1 h.2.2.2.2.1 h.2.2.2.2.2.1 h.2.2.2.2.2.2
def E1{α:Sort _}{p:α->Prop}{g:Prop}(h:∃a,p a)(z:∀a,p a->g):g:=match h with|⟨a,h⟩=>z a h
def E2{α β:Sort _}{p:α->β->Prop}{g:Prop}(h:∃a b,p a b)(z:∀a b,p a b->g):g:=match h with|⟨a,b,h⟩=>z a b h
def E3{α β γ:Sort _}{p:α->β->γ->Prop}{g:Prop}(h:∃a b c,p a b c)(z:∀a b c,p a b c->g):g:=match h with|⟨a,b,c,h⟩=>z a b c h
def E4{α β γ δ:Sort _}{p:α->β->γ->δ->Prop}{g:Prop}(h:∃a b c d,p a b c d)(z:∀a b c d,p a b c d->g):g:=match h with|⟨a,b,c,d,h⟩=>z a b c d h
def E5{α β γ δ ε:Sort _}{p:α->β->γ->δ->ε->Prop}{g:Prop}(h:∃a b c d e,p a b c d e)(z:∀a b c d e,p a b c d e->g):g:=match h with|⟨a,b,c,d,e,h⟩=>z a b c d e h
def E6{α β γ δ ε ζ:Sort _}{p:α->β->γ->δ->ε->ζ->Prop}{g:Prop}(h:∃a b c d e f,p a b c d e f)(z:∀a b c d e f,p a b c d e f->g):g:=match h with|⟨a,b,c,d,e,f,h⟩=>z a b c d e f h
def X2{α β:Sort _}{p:α->β->Prop}(a:α)(b:β)(h:p a b):∃a b,p a b:=⟨a,b,h⟩
def X3{α β γ:Sort _}{p:α->β->γ->Prop}(a:α)(b:β)(c:γ)(h:p a b c):∃a b c,p a b c:=⟨a,b,c,h⟩
def X4{α β γ δ:Sort _}{p:α->β->γ->δ->Prop}(a:α)(b:β)(c:γ)(d:δ)(h:p a b c d):∃a b c d,p a b c d:=⟨a,b,c,d,h⟩
def X5{α β γ δ ε:Sort _}{p:α->β->γ->δ->ε->Prop}(a:α)(b:β)(c:γ)(d:δ)(e:ε)(h:p a b c d e):∃a b c d e,p a b c d e:=⟨a,b,c,d,e,h⟩
def X6{α β γ δ ε ζ:Sort _}{p:α->β->γ->δ->ε->ζ->Prop}(a:α)(b:β)(c:γ)(d:δ)(e:ε)(f:ζ)(h:p a b c d e f):∃a b c d e f,p a b c d e f:=⟨a,b,c,d,e,f,h⟩
def X7{α β γ δ ε ζ η:Sort _}{p:α->β->γ->δ->ε->ζ->η->Prop}(a:α)(b:β)(c:γ)(d:δ)(e:ε)(f:ζ)(k:η)(h:p a b c d e f k):∃a b c d e f k,p a b c d e f k:=⟨a,b,c,d,e,f,k,h⟩
local macro_rules | `(tactic| let $p:term:=$e)=>do
  let rec f (n:Nat)(p:Lean.Term):Lean.MacroM (Lean.TSyntax `rcasesPat):=do
   match n with
   | 0=>`(rcasesPat| _)
   | n+1=>
    match p with
    | `(($a,$q,*))=>`(rcasesPat| ⟨$(<-(#[a]++q.getElems).mapM λx=>do `(Lean.Parser.Tactic.rcasesPatLo| $(<-f n x):rcasesPat)),*⟩)
    | `($i:ident)=>`(rcasesPat| $i:ident)
    | _=>`(rcasesPat| _)
  let o<-`(tactic| obtain $(<-f 9 p):rcasesPat:=$e)
  let `(($a,$q,*)):=p | return o
  let y:=#[a]++q.getElems
  let n:=y.size
  let v<-`(v)
  let s:=y.any (·.raw.getId == e.raw.getId)
  let e2:=if e.raw.isIdent && s then v else e
  let b<-if e.raw.isIdent && s then `(tactic| (revert $e:term;intro v)) else `(tactic| skip)
  let c<-if e.raw.isIdent then `(tactic| try clear $e2:term) else `(tactic| skip)
  let z (m:String)(k:Nat):Lean.MacroM (Lean.TSyntax `tactic):=do
   let t:Array Lean.Term:=(y.extract 0 k).mapIdx λi x=>if x.raw.getNumArgs>1 then ⟨(Lean.mkIdent (.mkSimple s!"✝{i}")).raw⟩ else x
   let r<-if k=n then pure c else `(tactic| let ($(y[k]!),$(y.extract (k+1) n),*):=w)
   let r<-(y.zip t).foldlM (λr (x,i)=>if x.raw == i.raw then pure r else `(tactic| ($r:tactic;let $x:term:=$i))) r
   let t<-if k=n then pure t else pure (t.push (<-`(w)))
   `(tactic| ($b:tactic;refine $(Lean.mkIdent (.mkSimple m)) $e2 λ $t*=>?_;$c:tactic;$r:tactic;repeat subst $(Lean.mkIdent `rfl):ident))
  let rec g (k:Nat):Lean.MacroM (Lean.TSyntax `tactic):=do
   match k with
   | 0=>if n>2 then `(tactic| first | $(<-z "A2" 1):tactic | $o:tactic) else return o
   | k+1=>`(tactic| first | $(<-z s!"E{k+1}" (k+1+(k+2)/n)):tactic | $(<-g k):tactic)
  `(tactic| first | $(<-z s!"A{n}" n):tactic | $(<-g (min 6 (n-1))):tactic)
local macro_rules | `(tactic| let $i:ident:=$e)=>`(tactic| have $i:ident:=$e)
local macro_rules | `(tactic| show $e)=>`(tactic| first | refine $e | fail)
local macro_rules | `(tactic| lia)=>`(tactic| first | omega | grind)
local macro_rules | `(#[$p,*])=>if p.getElems.isEmpty then Lean.Macro.throwUnsupported else `(⟨$p,*⟩)
local macro_rules | `(tactic| show #[$p,*])=>do
  let p:=p.getElems
  let rec g (k:Nat):Lean.MacroM (Lean.TSyntax `tactic):=do
   match k with
   | 0=>`(tactic| refine ⟨$p,*⟩)
   | k+1=>
    let r:=p.extract (k+2) p.size
    let r<-if k+3=p.size then pure r[0]! else `(⟨$r,*⟩)
    `(tactic| first | refine $(Lean.mkIdent (.mkSimple s!"X{k+2}")) $(p.extract 0 (k+2))* $r | $(<-g k):tactic)
  g (min 6 (p.size-2))
local macro_rules | `(!$x)=>`(some $x)
local macro_rules | `(tactic| omega)=>`(tactic| first | with_reducible first | assumption | contradiction | exact Nat.le_trans (by assumption) (by decide) | exact Nat.lt_of_le_of_lt (by assumption) (by decide) | exact Nat.lt_of_lt_of_le (by assumption) (by decide) | exact Nat.le_add_left _ _ | exact Nat.le_add_right _ _ | exact Nat.sub_le _ _ | exact Nat.zero_le _ | exact Nat.le_of_lt (by assumption) | exact Nat.le_of_lt_succ (by assumption) | exact Nat.le_of_not_lt (by assumption) | exact Nat.add_le_add_left (by assumption) _ | exact Nat.add_le_add_right (by assumption) _ | exact Nat.sub_lt_left_of_lt_add (by assumption) (by assumption) | (refine (?_:(_:Nat)=_);simp;done) | (refine (?_:(_:Nat)≤_);simp;done) | lia -verbose)
local macro_rules | `(tactic| grind)=>`(tactic| first | (simp_all;done) | omega | grind -verbose)
local macro_rules | `(())=>`(by first | omega | assumption | decide | rfl | exact .inl rfl | exact .inr rfl | decide +kernel)
local macro_rules | `(∅)=>`(by grind)
local macro_rules | `(~~~$x)=>`(($x).size)
local macro_rules | `(-$x)=>if x.raw.isOfKind `num then Lean.Macro.throwUnsupported else `(($x).length)
abbrev O:=@rfl
open Option renaming none→J
open Bool renaming true→G,false→M
open Or renaming inl→Zl,inr→YY
open PySem.Value renaming ref→YV
abbrev FG:=PySem.W.Frag
section
open PySem PySem.Spec PyProof.Rows
def d6:=@List.length_cons
def ed:=@List.mem_cons_self
def eH:=@Option.bind_some
def eI:=@List.length_map
def eM:=@List.length_append
def eK:=@Nat.le_refl
def d5:=@List.mem_cons
def eQ:=@List.length_nil
def fz:=@Heap.get?_push_of_some
def e_:=@List.mem_cons_of_mem
def fS:=@List.getElem?_eq_some_iff
def fm:=@List.append_assoc
def gX:=@List.size_toArray
def fI:=@List.getElem?_map
def fw:=@List.mem_append
def fx:=@List.map_append
def eP:=@Heap.lt_size
def ge:=@Heap.get?_push_size
def gz:=@List.getElem?_eq_getElem
def fU:=@List.map_cons
def fy:=@List.mem_map
def gI:=@List.sublist_cons_self
def gt:=@Option.some.inj
def hG:=@Bool.false_eq_true
def hW:=@List.getElem?_append_right
def f_:=@List.append_nil
def ga:=@Nat.ne_of_lt
def g7:=@List.mem_of_getElem?
def hY:=@Array.length_toList
def gT:=@List.mem_singleton
def h_:=@List.mem_append_right
def g9:=@Nat.lt_of_lt_of_le
def gy:=@Nat.zero_le
def gW:=@List.perm_middle
def hJ:=@List.nil_append
def gN:=@PassesOwn.never
def gL:=@Nat.le_trans
def ik:=@List.length_range
def jS:=@List.filterMap_cons_none
def jp:=@List.getElem?_append_left
def i6:=@List.mem_append_left
def k_:=@List.getElem?_set_self
def j3:=@Nat.lt_succ_of_lt
def ip:=@List.nodup_cons
def kt:=@Array.getElem?_eq_none
def j1:=@List.sublist_append_left
def iX:=@Bool.and_eq_true
def im:=@List.map_map
def js:=@List.lookup_cons
def ms:=@List.mem_filterMap
def kM:=@List.not_mem_nil
def ku:=@Int.emod_lt_of_pos
def ky:=@List.perm_append_comm
def mw:=@Heap.size_push
def ot:=@Bool.false_ne_true
def j6:=@Int.emod_nonneg
def kN:=@List.cons_append
def mx:=@Nat.lt_irrefl
def i8:=@Nat.sub_self
def lg:=@PySem.F.plainAttrs_list
def mB:=@Nat.lt_succ_self
def j_:=@List.length_take
def kc:=@Nat.ne_of_gt
def mE:=@List.drop_eq_getElem_cons
def mM:=@List.sublist_append_right
def nr:=@List.getElem?_eq_none
def mN:=@List.zip_cons_cons
def kz:=@List.of_mem_zip
def kA:=@Option.map_some
def lh:=@Heap.SameBut.update
def ox:=@Nat.le_succ
def mP:=@Heap.get?_update_other
def j2:=@List.set_set
def mS:=@List.length_drop
def kP:=@List.prefix_refl
def mT:=@Heap.get?_update_self
def kQ:=@List.foldl_cons
def ke:=@Nat.zero_add
def rT:=@Nat.le_of_succ_le
def nv:=@List.length_set
def lm:=@List.zip_append
def oy:=@List.getElem?_set_ne
def nw:=@Nat.le_of_lt
def oz:=@Nat.le_add_right
def oB:=@PySem.F.slot_list_append
def oC:=@PySem.F.type_list_append
def ny:=@PySem.mem_of_lookup
def oI:=@List.take_of_length_le
def nz:=@List.Sublist.refl
def oP:=@List.map_nil
def oQ:=@List.nodup_nil
def xi:=@Nat.le_of_not_lt
def rV:=@List.any_cons
def rX:=@Option.isSome_iff_exists
def oS:=@Nat.lt_of_le_of_lt
def oT:=@List.prefix_append
def o_:=@List.nodup_append
def xj:=@List.eq_nil_of_length_eq_zero
def r9:=@List.filterMap_cons
def r_:=@List.map_congr_left
def pb:=@PySem.boot_len
def sd:=@Int.toNat_natCast
def se:=@W.cellsFrom_some
def pc:=@Nat.succ.inj
def xl:=@W.methodCall_KW
def da:=@wpAny_bind
def dA:=@if_pos
def dQ:=@if_neg
def d0:=@wpAny_pure
def kf:=@decide_eq_false
def kR:=@decide_eq_true
def nB:=@beq_eq_false_iff_ne
def kg:=@beq_self_eq_true
end
namespace L2
open PySem PySem.Spec PyProof.Rows
variable {a_:List (Addr×Obj)}{E:Value->Shared->Prop}{s:Shared}{A:Around}{w:World}{P:Program}
abbrev fR:=Sum Int Str
noncomputable def vA:fR->Value->Bool
 |.inl k,v=>Value.isInt k v
 |.inr x,v=>Value.isStrOf x v
def xo(w:World):fR->Int
 |.inl k=>hashInt k
 |.inr x=>hashStr w x
theorem dB:∀{k:fR}{v:Value},vA k v=G->(∃i t,k=Sum.inl i/\v=Value.int i t)\/(∃x t,k=Sum.inr x/\v=Value.str x t)
 |.inl i,v,h=>by let(t,e):=Value.isInt_shape h;grind
 |.inr x,v,h=>by let(t,e):=Value.isStrOf_shape h;grind
def Tq(i:Int)(t:Tok):vA (.inl i) (.int i t)=G:=by simp[vA,Value.isInt]
def Tr(x:Str)(t:Tok):vA (.inr x) (.str x t)=G:=by simp[vA,Value.isStrOf]
def F2(a b:Int):decide ((Sum.inl a:fR)=Sum.inl b)=(a==b):=by
 by_cases e:a=b
 . grind
 . grind
def F3(a b:Str):decide ((Sum.inr a:fR)=Sum.inr b)=decide (a=b):=by
 by_cases e:a=b
 .  simp
 . grind
def F4(a:Int)(b:Str):decide ((Sum.inl a:fR)=Sum.inr b)=M:=kf (λq=>nomatch q)
def F5(a:Str)(b:Int):decide ((Sum.inr a:fR)=Sum.inl b)=M:=kf (λq=>nomatch q)
def fW(prog:Program)(w:World):PySem.KeyKind prog w fR where
 is:=vA
 hash:=xo w
 inj:=λv a b ha hb=>by
  obtain⟨i,t,rfl,rfl⟩|⟨x,t,rfl,rfl⟩:=dB ha
  . obtain⟨j,u,rfl,e⟩|⟨y,u,rfl,e⟩:=dB hb
    . injection e with e1 _;rw[e1]
    . show nomatch e
  . obtain⟨j,u,rfl,e⟩|⟨y,u,rfl,e⟩:=dB hb
    . show nomatch e
    . injection e with e1 _;rw[e1]
 byValue:=λk v h=>by rcases dB h with ⟨i,t,rfl,rfl⟩|⟨x,t,rfl,rfl⟩<;>rfl
 pyHash:=λhv h=>by
  obtain⟨i,t,rfl,rfl⟩|⟨x,t,rfl,rfl⟩:=dB hv
  . show wpAny_pyHash_int h
  . show wpAny_pyHash_str h
 eqBool:=λhu hv h=>by
  obtain⟨i,t,rfl,rfl⟩|⟨x,t,rfl,rfl⟩:=dB hu
  . obtain⟨j,u,rfl,rfl⟩|⟨y,u,rfl,rfl⟩:=dB hv
    . rw[F2]at h;show wpAny_eqBool_int h
    . rw[F4]at h;show SeqAt.EqAt.int_str i t y u _ _ _ _ h
  . obtain⟨j,u,rfl,rfl⟩|⟨y,u,rfl,rfl⟩:=dB hv
    . rw[F5]at h;show SeqAt.EqAt.str_int x t j u _ _ _ _ h
    . rw[F3]at h;show wpAny_eqBool_str h
 «strs»:=λk x t v h=>by
  obtain⟨i,u,rfl,e⟩|⟨y,u,rfl,e⟩:=dB h
  . show nomatch e
  . injection e with e1 _;subst e1;cases v<;>rfl
def Oo(prog:Program)(w:World)(i:Int)(t:Tok):(fW prog w).is (.inl i) (.int i t)=G:=Tq i t
def Oq(prog:Program)(w:World)(x:Str)(t:Tok):(fW prog w).is (.inr x) (.str x t)=G:=Tr x t
inductive V where
 |non |bl (b:Bool) |int (i:Int) |str (x:Str) |byt (b:Array UInt8) |flt (b:UInt64) |ref (a:Addr) |ty (n:String)
 deriving DecidableEq
def dE:V->Value->Prop
 |.non,u=>u=Value.none
 |.bl b,u=>u=Value.bool b
 |.int i,u=>∃t,u=Value.int i t
 |.str x,u=>∃t,u=Value.str x t
 |.byt b,u=>∃t,u=Value.bytes b t
 |.flt b,u=>∃t,u=Value.float b t
 |.ref a,u=>u=Value.ref a
 |.ty n,u=>u=Value.type n
abbrev db:List V->List Value->Prop:=Paired dE
theorem db.length(r:db xs us):-xs=-us:=Paired.length r
theorem db.get:∀{xs:List V}{j:List Value}{i:Nat}{x:V},db xs j->xs[i]?=!x->∃u,j[i]?=!u/\dE x u
 |_,_,_,_,.nil,e=>by grind
 |_,_,0,_,.cons r _,e=>by grind
 |_,_,i+1,x,.cons _ t,e=>by let(u,h1,h2):=db.get t ();grind
theorem db.set(r:dE x u):∀{xs:List V}{j:List Value}(i:Nat),db xs j->db (xs.set i x) (j.set i u)
 |_,_,_,.nil=>.nil
 |_,_,0,.cons _ t=>.cons r t
 |_,_,i+1,.cons q t=>.cons q (db.set r i t)
theorem db.append:∀{xs ys:List V}{i ws:List Value},db xs i->db ys ws->db (xs++ys) (i++ws)
 |_,_,_,_,.nil=>λs=>s
 |_,_,_,_,.cons r t=>λs=>.cons r (db.append t s)
theorem db.take:∀{xs:List V}{i:List Value}(n:Nat),db xs i->db (xs.take n) (i.take n)
 |_,_,0,_=>.nil
 |_,_,_+1,.nil=>.nil
 |_,_,n+1,.cons r t=>.cons r (db.take n t)
theorem db.drop:∀{xs:List V}{i:List Value}(n:Nat),db xs i->db (xs.drop n) (i.drop n)
 |_,_,0,r=>r
 |_,_,_+1,.nil=>.nil
 |_,_,n+1,.cons _ t=>db.drop n t
def nH:Option V->Option Value->Prop
 |some v,!u=>dE v u
 |none,J=>True
 |_,_=>False
def KV{κ:Type}:List (κ×V)->List (κ×Value)->Prop:=Paired λ(p:κ×V)(q:κ×Value)=>p.1=q.1/\dE p.2 q.2
noncomputable def kV:fR->V
 |.inl i=>.int i
 |.inr x=>.str x
inductive HO where
 |lst (xs:List V)
 |tup (xs:List V)
 |dK (d3:List (fR×V)) |dT (d3:List (List fR×V))
 |set (S:Int->Bool) (n:Nat)
 |ins (C dx:Addr) (fs:List (Str×V))
 |own (x:Addr)
 |xd (fs:List (Str×V))
 |met (f x:Addr)
 |rng (lo hi:Int)
 |frz (o:Obj) (u:HO)
 |tbl (ps:Array Value)
 |ext (φ:Heap->Prop)
abbrev Hp:=Addr->Option HO
noncomputable def dW (H:Hp) (a:Addr) (o:HO):Hp:=λb=>if b=a then !o else H b
def bZ:dW H a o a=!o:=by unfold dW;grind
def cV(h:b≠a):dW H a o b=H b:=by unfold dW;grind
def fD{H:Hp}(h:H a=!o)(h':H b=J):a≠b:=by grind
section
variable (P:Program)(w:World)
def fG(H:Hp)(h:Heap)(a:Addr):HO->Prop
 |.lst xs=>-xs<=sizeLine/\∃(eJ:List Value)(n:Nat),db xs eJ/\h.get? a=some { cls:=.type "list",data:=.seq eJ.toArray n }
 |.tup xs=>-xs<=sizeLine/\∃eJ:List Value,db xs eJ/\IsTup h a eJ.toArray
 |.dK d3=>-d3<=sizeLine/\(a==sysModules)=M/\∃vs,KV d3 vs/\h.DictOf (fW P w) a vs
 |.dT d3=>-d3<=sizeLine/\(a==sysModules)=M/\∃xs:List (List fR×Addr×Value),
  Paired (λ(p:List fR×V)(q:List fR×Addr×Value)=>p.1=q.1/\H q.2.1=!(.tup (p.1.map kV))/\dE p.2 q.2.2) d3 xs/\
  ∃o es ep,h.get? a=!o/\o.ExactDict/\o.data=.dict es ep/\es.toList=xs.map (entryOfKey (tupleKind (fW P w)))/\(xs.map (·.1)).Nodup
 |.set S n=>h.SetOf (intKind P w) a S n
 |.ins C dx fs=>H dx=!(.own a)/\-fs<=1000/\dx≠a/\h.get? a=!(W.instObj C dx)/\
  ∃mA,h.Ns1 dx mA/\(∀f,nH (fs.lookup f) (mA f))/\PySem.Within mA (fs.map (·.1))
 |.own _=>∃o,h.get? a=!o
 |.xd fs=>∃mA,h.Ns1 a mA/\∀f,nH (fs.lookup f) (mA f)
 |.rng lo hi=>∃t u v,h.get? a=some { cls:=.type "range",data:=.fields (List.toArray [.int lo t,.int hi u,.int 1 v]) }
 |.frz o u=>h.get? a=!o/\fG H h a u
 |.tbl ps=>h.get? a=some { cls:=.none,data:=.fields ps }
 |.met f x=>h.get? a=!(W.methodObj (YV f) (YV x))
 |.ext φ=>φ h/\(∃o,h.get? a=!o)/\∀h1 h2:Heap,φ h1->(∀o,h1.get? a=!o->h2.get? a=!o)->φ h2
def jm(H:Hp)(h:Heap):Prop:=∀a o,H a=!o->fG P w H h a o
end
section
variable {P:Program}{w:World}{H H':Hp}{h h':Heap}{a:Addr}{o:HO}
theorem fG.lt(x:fG P w H h a o):a< ~~~h.objs:=by
 cases o with
 |lst xs=>let(_,_,_,_,e):=x;show eP e
 |tup xs=>let(_,_,_,p):=x;show p.lt
 |dK i=>let(_,_,_,_,o,_,_,e,_):=x;show eP e
 |dT i=>let(_,_,_,_,o,_,_,e,_):=x;show eP e
 |set S n=>let(o,_,_,_,e,_):=x;show eP e
 |ins C dx fs=>let(_,_,_,e,_):=x;show eP e
 |own y=>let(_,e):=x;show eP e
 |xd fs=>let(_,(_,_,_,e,_),_):=x;show eP e
 |rng lo hi=>let(_,_,_,e):=x;show eP e
 |frz N u=>let(e,_):=x;show eP e
 |tbl ps=>show eP (x)
 |met f y=>show eP (x)
 |ext φ=>let(_,(_,e),_):=x;show eP e
theorem Paired.mapP:∀{l₁:List α}{l₂:List β},Paired F l₁ l₂->(∀a b,F a b->ZT a b)->Paired ZT l₁ l₂
 |_,_,.nil=>λ_=>.nil
 |_,_,.cons r t=>λf=>.cons (f _ _ r) (Paired.mapP t f)
def fG.stay(x:fG P w H h a o)(k:∀b u,(b=a\/H b=!(.own a))->h.get? b=!u->h'.get? b=!u)
 (ho:∀b,H b=!(.own a)->H' b=!(.own a)) (ht:∀b xs,H b=!(.tup xs)->H' b=!(.tup xs)):fG P w H' h' a o:=by
 induction o with
 |lst xs=>let(z,D,n,r,e):=x;show#[z,D,n,r,k _ _ (Zl O) e]
 |tup xs=>let(z,D,r,i,e,c):=x;show#[z,D,r,i,k _ _ (Zl O) e,c]
 |dK N=>let(z,y,W,r,i,es,j,e,c):=x;show#[z,y,W,r,i,es,j,k _ _ (Zl O) e,c]
 |dT N=>
  let(z,y,xs,r,i,es,j,e,c):=x;show#[z,y,xs,Paired.mapP r λp q z=>#[z.1,ht _ _ z.2.1,z.2.2],i,es,j,k _ _ (Zl O) e,c]
 |set S n=>let(i,es,j,t,e,c):=x;show#[i,es,j,t,k _ _ (Zl O) e,c]
 |ins C dx fs=>
  let(d,z,ne,e,mA,(F,es,j,e2,c),r):=x;show#[ho _ d,z,ne,k _ _ (Zl O) e,mA,#[F,es,j,k _ _ (YY d) e2,c],r]
 |own y=>let(i,e):=x;show#[i,k _ _ (Zl O) e]
 |xd fs=>let(mA,(F,es,j,e,c),r):=x;show#[mA,#[F,es,j,k _ _ (Zl O) e,c],r]
 |rng lo hi=>let(t,u,v,e):=x;show#[t,u,v,k _ _ (Zl O) e]
 |frz i u ih=>let(e,q):=x;show#[k _ _ (Zl O) e,ih q]
 |tbl ps=>
  let e:=x;show k a _ (Zl O) e
 |met f y=>
  let e:=x;show k a _ (Zl O) e
 |ext φ=>let(p,(o,e),st):=x;show#[st _ _ p λo q=>k _ _ (Zl O) q,#[o,k _ _ (Zl O) e],st]
theorem jm.lt(x:jm P w H h)(e:H a=!o):a< ~~~h.objs:=(x a o e).lt
def jm.fresh(x:jm P w H h)(e: ~~~h.objs<=a):H a=J:=by
 cases q:H a with
 |none=>rfl
 |some u=>show absurd (g9 (x.lt q) e) (mx _)
def jm.kept(x:jm P w H h)(k:∀b u,h.get? b=!u->h'.get? b=!u):jm P w H h':=λa o e=>
 (x a o e).stay (λb u _ q=>k b u q) (λ_ q=>q) λ_ _ q=>q
def jm.laid(x:jm P w H h)(k:∀b u,h.get? b=!u->h'.get? b=!u)(z: ~~~h.objs<=a)(new:fG P w (dW H a o) h' a o):jm P w (dW H a o) h':=λb u e=>by
 let i:=x.fresh z;by_cases j:b=a
 . subst j;rw[bZ]at e;grind
 . rw[cV j]at e;show(x b u e).stay (λc v _ q=>k c v q) (λc q=>by rw[cV (fD q i)];show q) λc xs q=>by rw[cV (fD q i)];show q
end
def Rd(H:Hp)(a:Addr)(u:HO):Prop:=H a=!u\/∃o,H a=!(.frz o u)
def Rd.ok(r:Rd H a u)(x:jm P w H h):fG P w H h a u:=by
 obtain r|⟨o,r⟩:=r
 . show x a u r
 . let(_,q):=x a _ r;show q
def Tt:Option HO->Prop
 |some (.lst _)=>True
 |some (.dK _)=>True
 |some (.dT _)=>True
 |some (.set _ _)=>True
 |some (.ins _ _ _)=>True
 |some (.ext _)=>True
 |_=>False
section
variable {P:Program}{w:World}{H:Hp}{h h':Heap}{x e:Addr}{o':HO}
def jm.write(ok:jm P w H h)(mu:Tt (H x))(he:e=x\/H e=!(.own x))(k:∀b u,b≠e->h.get? b=!u->h'.get? b=!u)(D:∃u,h'.get? e=!u)
 (new:fG P w (dW H x o') h' x o'):jm P w (dW H x o') h':=λb u q=>by
 have i:∀c y,H c=!(.own y)->c≠x:=λc y r z=>by subst z;rw[r]at mu;show mu
 have j:∀c xs,H c=!(.tup xs)->c≠x:=λc xs r z=>by subst z;rw[r]at mu;show mu
 by_cases Q:b=x
 . subst Q;rw[bZ]at q;grind
 . rw[cV Q]at q;by_cases F:b=e
   . have N:H b=!(.own x):=by
      obtain z|z:=he
      . grind
      . grind
     rw[q]at N;cases N;let(v,hv):=D;show#[v,by rw[F];show hv]
   . show(ok b u q).stay (λc v W r=>k c v ?_ r) (λc r=>by rw[cV (i c b r)];show r) λc xs r=>by rw[cV (j c xs r)];show r
     obtain rfl|W:=W
     . grind
     . rintro rfl;obtain z|z:=he
       . grind
       . grind
end
structure Un(fs ex:List Addr)(H H':Hp)(h h':Heap):Prop where
 keep:∀b o,h.get? b=!o->H b=none->b∉fs->b∉ex->h'.get? b=!o
 slot:∀b o,h.get? b=!o->H b=none->b∈fs->b∉ex->∃sl,h'.get? b=some { o with slots:=sl }
 free:∀b o,h.get? b=!o->H b=none->b∉ex->H' b=none
 there:∀b o,h.get? b=!o->b∉ex->∃o',h'.get? b=!o'
 tups:∀b xs,H b=!(.tup xs)->H' b=!(.tup xs)
 frzs:∀b o u,H b=!(.frz o u)->H' b=!(.frz o u)
 tbls:∀b ps,H b=!(.tbl ps)->∃more,H' b=!(.tbl (ps++more))
section
variable {fs g_ ex ex':List Addr}{H H1 H2:Hp}{h h1 h2 h':Heap}{a x e:Addr}{o:HO}
def Un.any(u:Un fs ex H H1 h h1)(q:h.get? b=!ob)(n:H b=J)(j:b∉ex):∃sl,h1.get? b=some { ob with slots:=sl }:=by
 by_cases z:b∈fs
 . show u.slot b ob q n z j
 . show#[ob.slots,u.keep b ob q n z j]
def Un.kept(k:∀b u,h.get? b=!u->h'.get? b=!u):Un fs ex H H h h':=
 #[λb i q _ _ _=>k b i q,λb i q _ _ _=>#[i.slots,k b i q],λ_ _ _ n _=>n,λb i q _=>#[i,k b i q],λ_ _ q=>q,λ_ _ _ q=>q,λ_ ps q=>#[#[],by rw[q];simp]]
def Un.refl:Un fs ex H H h h:=Un.kept λ_ _ q=>q
def Un.laid(k:∀b u,h.get? b=!u->h'.get? b=!u)(j: ~~~h.objs<=a)(i:H a=J):Un fs ex H (dW H a o) h h' where
 keep:=λb u q _ _ _=>k b u q
 slot:=λb u q _ _ _=>#[u.slots,k b u q]
 free:=λb u q n _=>by rw[cV (ga (g9 (eP q) j))];show n
 there:=λb u q _=>#[u,k b u q]
 tups:=λb xs q=>by rw[cV (fD q i)];show q
 frzs:=λb u xs q=>by rw[cV (fD q i)];show q
 tbls:=λb ps q=>#[#[],by rw[cV (fD q i),q];simp]
def Un.write(mu:Tt (H x))(he:e=x\/H e=!(.own x))(k:∀b u,b≠e->h.get? b=!u->h'.get? b=!u)(D:∃u,h'.get? e=!u):Un fs ex H (dW H x o) h h':=by
 have N:∀b,H b=J->b≠x:=λb n z=>by subst z;rw[n]at mu;show mu
 have j:∀b,H b=J->b≠e:=λb n z=>by
  subst z;obtain r|r:=he
  . grind
  . grind
 have i:∀b u,H b=!u->¬ Tt (!u)->b≠x:=λb u q nm z=>by subst z;rw[q]at mu;show nm mu
 show#[λb u q n _ _=>k b u (j b n) q,λb u q n _ _=>#[u.slots,k b u (j b n) q],λb u q n _=>by rw[cV (N b n)];show n,λb u q _=>?_,
  λb xs q=>by rw[cV (i b _ q λz=>z)];show q,λb u xs q=>by rw[cV (i b _ q λz=>z)];show q,λb ps q=>#[#[],by rw[cV (i b _ q λz=>z),q];simp]]
 by_cases F:b=e
 . grind
 . grind
end
def YG(h:Heap)(H:Hp):List Addr:=(List.range h.objs.size).filter λa=>(H a).isSome
def xT(h:Heap)(H:Hp):Heap:=W.hideAll h (YG h H)
def Tu(h:Heap)(H:Hp):(xT h H).objs.size= ~~~h.objs:=W.hideAll_size _ _
def Wf(e:h.get? b=!o)(n:H b=J):(xT h H).get? b=!o:=
 W.hideAll_get _ e λi=>by let q:=(List.mem_filter.mp i).2;rw[n]at q;simp at q
def ZC(e:(xT h H).get? b=!o):h.get? b=!o/\H b=J:=by
 let i:=W.of_hideAll (YG h H) e;show#[i,?_];cases q:H b with
 |none=>rfl
 |some x=>
  have j:b∈YG h H:=List.mem_filter.mpr #[List.mem_range.mpr (eP i),by simp[q]];have z:(xT h H).get? b=J:=W.hideAll_none (YG h H) j;rw[z]at e;cases e
def ZD(g h:Heap)(L:Addr):List (Addr×Obj):=(List.range h.objs.size).filterMap λa=>if a=L\/(g.get? a).isSome=G then J else (h.get? a).map λo=>(a,o)
def dP(g h:Heap)(L d:Addr):List (Addr×Obj):=(ZD g h L).filter λp=>decide (p.1≠d)
structure Mod(K:FG)(mg:Str->Option Value)(base:Heap):Prop where
 kin:K.In base
 glob:base.Ns mainGlobals mg
 blt:∃mb,base.Ns builtinsNs mb/\∀x:Str,x ≠ "__name__"->mb x=bootBuiltins x
 nolimit:base.NoLimit
structure Cx where
 prog:Program
 w:World
 K:FG
 mg:Str->Option Value
 base:Heap
 A:Around
 N:List Str
 s₀:Shared
 H0:Hp
 env:Env
 outer:List Env
 stack:List Env
 ex:List Addr
 fn:Str->Bool
 calm:Bool
 pn:List (Addr×Obj)
 xe:Value->Shared->Prop
noncomputable def frs (l:List Env):List Addr:=l.filterMap (·.frame)
abbrev Cx.fs(X:Cx):List Addr:=frs X.outer
def Tv(sc:Scope)(x:Str):Prop:=sc.names.lookup x=!.local\/sc.names.lookup x=!.cell\/sc.names.lookup x=!.free
def Loc(sc:Scope)(x:Str):Prop:=sc.names.lookup x=!.local\/sc.names.lookup x=!.cell
def sf(env:Env)(h:Heap)(m:Str->Option Value)(x:Str)(u:Value):Prop:=
 (env.kindOf x=!.local/\m x=!u)\/((env.kindOf x=!.cell\/env.kindOf x=!.free)/\∃c,env.cells.lookup x=!c/\h.IsCell c (!u))
structure Cx.Ok(X:Cx):Prop where
 mod:Mod X.K X.mg X.base
 kind:X.env.scope.kind=.function
 glob:X.env.globals=mainGlobals
 blt:X.env.builtins=builtinsNs
 above: ~~~X.s₀.heap.objs<=X.env.locals
 inj:∀x y c,X.env.cells.lookup x=!c->X.env.cells.lookup y=!c->x=y
 has:∀x,(X.env.kindOf x=!.cell\/X.env.kindOf x=!.free)->∃c,X.env.cells.lookup x=!c
 cab:∀x c,X.fn x=true->X.env.cells.lookup x=!c-> ~~~X.s₀.heap.objs<=c
 hd:X.calm=true->X.A.handled=none
 frames:X.A.frames=!X.stack
 stk:X.stack=X.outer\/(X.stack=X.env::X.outer/\X.env.frame=!X.env.locals)
 exf:∀b∈X.ex,b≠X.env.locals/\∀x c,X.env.cells.lookup x=!c->c≠b
 bs:∀b o,X.base.get? b=!o->X.s₀.heap.get? b=!o/\X.H0 b=none
 bsz: ~~~X.base.objs<= ~~~X.s₀.heap.objs
 noex:∀b o,X.base.get? b=!o->b∉X.ex
 exfs:∀b∈X.ex,b∉X.fs
 funs:X.s₀.heap.FunFrames X.base X.outer
 frf:∀b∈X.fs,X.H0 b=none
structure c_(X:Cx)(a_:List (Addr×Obj))(U:List (Option V))(H:Hp)(s:Shared):Prop where
 ok:X.Ok
 os:s.os=X.s₀.os
 bare:AllBare s.gens
 base:Un X.fs X.ex X.H0 H X.s₀.heap s.heap
 loc:∃m,s.heap.Ns X.env.locals m/\∀(i:Nat)(x:Str)(v:V),X.N[i]?=!x->U[i]?=!(!v)->Tv X.env.scope x->∃u,dE v u/\sf X.env s.heap m x u
 cell:∀x c,X.env.cells.lookup x=!c->∃v,s.heap.IsCell c v
 free:H X.env.locals=none
 freeC:∀x c,X.env.cells.lookup x=!c->H c=none
 pin:∀p∈X.pn++a_,s.heap.get? p.1=!p.2/\H p.1=none/\p.1≠X.env.locals/\p.1∉X.fs/\∀v,p.2.data≠.cell v
 hok:jm X.prog X.w H s.heap
 len:-U=-X.N
section
variable {X:Cx}{a_:List (Addr×Obj)}{U:List (Option V)}{H H':Hp}{s:Shared}{h':Heap}
def Cx.Ok.nofr(ok:X.Ok)(e:X.base.get? b=!o):b∉X.fs:=λi=>by have:=(ok.funs.mem i).1;rw[e]at this;cases this
theorem c_.bs(I:c_ X a_ U H s):∀b o,X.base.get? b=!o->s.heap.get? b=!o/\H b=J:=λb o e=>
 #[I.base.keep b o (I.ok.bs b o e).1 (I.ok.bs b o e).2 (I.ok.nofr e) (I.ok.noex b o e),I.base.free b o (I.ok.bs b o e).1 (I.ok.bs b o e).2 (I.ok.noex b o e)]
def c_.bk(I:c_ X a_ U H s):∀b o,X.base.get? b=!o->s.heap.get? b=!o:=λb o e=>(I.bs b o e).1
theorem c_.mod(I:c_ X a_ U H s):Mod X.K X.mg X.base:=I.ok.mod
def c_.kIn(I:c_ X a_ U H s):X.K.In s.heap:=I.ok.mod.kin.keeps I.bk
theorem c_.lt(I:c_ X a_ U H s):X.env.locals< ~~~s.heap.objs:=let #[_,hn,_]:=I.loc;hn.lt
def c_.sz(I:c_ X a_ U H s): ~~~X.s₀.heap.objs<= ~~~s.heap.objs:=gL I.ok.above (nw I.lt)
def c_.nofs(I:c_ X a_ U H s){a:Addr}(h: ~~~s.heap.objs<=a):a∉X.fs:=λj=>by let(_,o,i,_):=I.ok.funs.mem j;show absurd (g9 (eP i) (gL I.sz h)) ()
def c_.cne(I:c_ X a_ U H s):∀x c,X.env.cells.lookup x=!c->c≠X.env.locals:=λx c e z=>by let(v,o,q,D):=I.cell x c e;let(m,(o',es,F,i,j,_),_):=I.loc;rw[z,i]at q;cases q;rw[j]at D;cases D
theorem c_.funs(I:c_ X a_ U H s):s.heap.FunFrames X.base X.outer:=by
 have all:∀(l:List Env),(∀b∈frs l,b∈X.fs)->X.s₀.heap.FunFrames X.base l->s.heap.FunFrames X.base l:=by
  intro l;induction l with
  |nil=>intro _ _;trivial
  |cons F r ih=>
   intro hs W;let(hk,(L,o,i,N,Q,D),hr):=W;let q:=hs L (by unfold frs;rw[r9,i];show ed);let(sl,e):=I.base.slot L o Q (I.ok.frf L q) q λz=>I.ok.exfs L z q;show#[hk,#[L,_,i,N,e,D],ih (λb j=>hs b (by unfold frs;rw[r9,i];show e_ _ j)) hr]
 show all X.outer (λ_ j=>j) I.ok.funs
theorem c_.stack(I:c_ X a_ U H s):s.heap.FunFrames X.base X.stack:=by
 obtain e|⟨e,i⟩:=I.ok.stk
 . rw[e];show I.funs
 . rw[e];let(m,j,_):=I.loc;show .cons (by rw[I.ok.kind];decide) i j ?_ I.funs;show Heap.get?_none_of_le (gL I.ok.bsz I.ok.above)
def c_.stkSub(I:c_ X a_ U H s):∀b∈frs X.stack,b∈X.env.locals::X.fs:=λb i=>by
 obtain e|⟨e,j⟩:=I.ok.stk
 . grind
 . rw[e]at i;unfold frs at i;rw[r9,j]at i;show i
def c_.stkFree(I:c_ X a_ U H s):∀b∈frs X.stack,H b=J:=λb i=>by
 obtain e|i:=d5.mp (I.stkSub b i)
 . rw[e];show I.free
 . let(_,o,j,_):=I.ok.funs.mem i;show I.base.free b o j (I.ok.frf b i) λz=>I.ok.exfs b z i
def c_.step{ch:List Addr}(I:c_ X a_ U H s)
 (F:∀b∈ch,(b∈X.ex\/X.s₀.heap.objs.size<=b)/\b≠X.env.locals/\(∀x c,X.env.cells.lookup x=!c->c≠b)/\∀p∈X.pn++a_,p.1≠b)
 (keep:∀b o,b≠X.env.locals->b∉X.fs->b∉ch->s.heap.get? b=!o->H b=J->h'.get? b=!o)
 (N:∀b o,b≠X.env.locals->b∈X.fs->b∉ch->s.heap.get? b=!o->H b=J->∃sl,h'.get? b=some { o with slots:=sl }) (free:∀b o,b∉ch->s.heap.get? b=!o->H b=J->H' b=J)
 (there:∀b o,b∉ch->s.heap.get? b=!o->∃o',h'.get? b=!o')
 (tups:∀b xs,H b=!(.tup xs)->H' b=!(.tup xs)) (frzs:∀b o u,H b=!(.frz o u)->H' b=!(.frz o u)) (tbls:∀b ps,H b=!(.tbl ps)->∃more,H' b=!(.tbl (ps++more)))
 (ns:∀m,s.heap.Ns X.env.locals m->h'.Ns X.env.locals m) (hok:jm X.prog X.w H' h') (hg:AllBare g'):
 c_ X a_ U H' { s with heap:=h',gens:=g',drawn:=d',toks:=t' }:=by
 have xp:∀b o,X.s₀.heap.get? b=!o->b≠X.env.locals:=λb o e=>ga (g9 (eP e) I.ok.above);have sg:∀b o,X.s₀.heap.get? b=!o->b∉X.ex->b∉ch:=λb o e j hb=>by
  obtain z|z:=(F b hb).1
  . grind
  . show absurd (g9 (eP e) z) ()
 have Q:∀x c,X.env.cells.lookup x=!c->∀v,s.heap.IsCell c v->h'.IsCell c v:=λx c e v ⟨o,ho,hd⟩=>by
  let D:=λz=>(F c z).2.2.1 x c e O;by_cases hc:c∈X.fs
  . let(sl,q):=N c o (I.cne x c e) hc D ho (I.freeC x c e);show#[_,q,hd]
  . show#[o,keep c o (I.cne x c e) hc D ho (I.freeC x c e),hd]
 show#[I.ok,I.os,hg,#[λb o e n hb j=>?_,λb o e n hb j=>?_,λb o e n j=>?_,λb o e j=>?_,λb xs e=>tups b xs (I.base.tups b xs e),λb o xs e=>frzs b o xs (I.base.frzs b o xs e),λb ps e=>?_],?_,λx c e=>?_,?_,λx c e=>?_,λp hp=>?_,hok,I.len]
 . show keep b o (xp b o e) hb (sg b o e j) (I.base.keep b o e n hb j) (I.base.free b o e n j)
 . let(sl,W):=I.base.slot b o e n hb j;let(sl',e2):=N b _ (xp b o e) hb (sg b o e j) W (I.base.free b o e n j);grind
 . let(o',W):=I.base.there b o e j;show free b o' (sg b o e j) W (I.base.free b o e n j)
 . let(o',W):=I.base.there b o e j;grind
 . let(m1,W):=I.base.tbls b ps e;grind
 . let(m,hn,hl):=I.loc;show#[m,ns m hn,λi x v W e2 e3=>?_];let(u,r,l):=hl i x v W e2 e3;show#[u,r,?_];obtain l|⟨k,c,e,z⟩:=l
   . show Zl l
   . show YY #[k,c,e,Q x c e _ z]
 . let(v,z):=I.cell x c e;grind
 . let(m,(o,_,_,ho,_),_):=I.loc;show free _ o (λz=>(F _ z).2.1 O) ho I.free
 . let(v,o,ho,hd):=I.cell x c e;show free c o (λz=>(F c z).2.2.1 x c e O) ho (I.freeC x c e)
 . let(e,n,ne,nf,d):=I.pin p hp;let D:=λz=>(F p.1 z).2.2.2 p hp O;show#[keep p.1 p.2 ne nf D e n,free p.1 p.2 D e n,ne,nf,d]
def c_.un(I:c_ X a_ U H s)(u:Un X.fs [] H H' s.heap h')(F:jm X.prog X.w H' h'):c_ X a_ U H' { s with heap:=h',toks:=t' }:=by
 let(m,(o,es,ep,W,r),_):=id I.loc;let(sl,hL):=u.any W I.free (by simp);show I.step (ch:=[]) (λ_ z=>nomatch z) (λb o _ D _ e n=>u.keep b o e n D ()) (λb o _ D _ e n=>u.slot b o e n D ()) (λb o _ e n=>u.free b o e n ()) (λb o _ e=>u.there b o e ()) u.tups u.frzs u.tbls (λm' hm=>by let(o',q,j,i,r'):=hm;rw[W]at i;cases i;show#[_,q,j,hL,r']) F I.bare
def c_.call(I:c_ X a_ U H s)(u:Un (frs X.stack) ch H H' s.heap h')(N:jm X.prog X.w H' h')(hg:AllBare g')
 (j:∀b∈ch,(b∈X.ex\/X.s₀.heap.objs.size<=b)/\b≠X.env.locals/\(∀x c,X.env.cells.lookup x=!c->c≠b)/\∀p∈X.pn++a_,p.1≠b):
 c_ X a_ U H' { s with heap:=h',gens:=g',drawn:=d',toks:=t' }:=by
 let(m,(o,es,ep,ho,r),_):=id I.loc;let(sl,W):=u.any ho I.free λz=>(j _ z).2.1 O;show I.step j (λb o W hb i e n=>u.keep b o e n (λz=>(d5.mp (I.stkSub b z)).elim W hb) i) (λb o _ _ i e n=>u.any e n i) (λb o i e n=>u.free b o e n i) (λb o i e=>u.there b o e i) u.tups u.frzs u.tbls (λm' hm=>by let(o',F,Q,q,r'):=hm;rw[ho]at q;cases q;show#[_,F,Q,W,r']) N hg
def c_.turned(I:c_ X a_ U H s)(k:∀b o,b≠it->s.heap.get? b=!o->h'.get? b=!o)(Q:H it=J)(hL:it≠X.env.locals)
 (h1:it∈X.ex\/X.s₀.heap.objs.size<=it) (h2:∀x c,X.env.cells.lookup x=!c->c≠it) (h3:∀p∈X.pn++a_,p.1≠it):c_ X a_ U H { s with heap:=h',toks:=t' }:=by
 have F:∀b u,H b=!u->b≠it:=λb u e z=>by rw[z,Q]at e;cases e
 show I.step (ch:=[it]) (λb hb=>?_) (λb o _ _ i e _=>k b o (λz=>i ∅) e) (λb o _ _ i e _=>#[o.slots,k b o (λz=>i ∅) e]) (λ_ _ _ _ n=>n)
  (λb o i e=>#[o,k b o (λz=>i ∅) e]) (λ_ _ e=>e) (λ_ _ _ e=>e) (λb ps e=>#[#[],by rw[e];simp]) (λm hm=>?_) (λb u e=>?_) I.bare
 . have e:b=it:=by simpa using hb
   grind
 . let(o,es,N,W,r):=hm;show#[o,es,N,k _ o ∅ W,r]
 . show(I.hok b u e).stay (λc v i q=>k c v ?_ q) (λ_ q=>q) λ_ _ q=>q;obtain z|z:=i
   . grind
   . grind
def c_.tok(I:c_ X a_ U H s)(t:Nat):c_ X a_ U H { s with toks:=t }:=I.un Un.refl I.hok
theorem c_.kept(I:c_ X a_ U H s)(k:∀b u,s.heap.get? b=!u->h'.get? b=!u):c_ X a_ U H { s with heap:=h',toks:=t' }:=I.un (Un.kept k) (I.hok.kept k)
theorem c_.laid{a:Addr}(I:c_ X a_ U H s)(k:∀b u,s.heap.get? b=!u->h'.get? b=!u)(i: ~~~s.heap.objs<=a)(new:fG X.prog X.w (dW H a o) h' a o):
 c_ X a_ U (dW H a o) { s with heap:=h',toks:=t' }:=I.un (Un.laid k i (I.hok.fresh i)) (I.hok.laid k i new)
theorem c_.write(I:c_ X a_ U H s)(mu:Tt (H x))(he:e=x\/H e=!(.own x))(k:∀b u,b≠e->s.heap.get? b=!u->h'.get? b=!u)(i:∃u,h'.get? e=!u)
 (new:fG X.prog X.w (dW H x o) h' x o):c_ X a_ U (dW H x o) { s with heap:=h',toks:=t' }:=I.un (Un.write mu he k i) (I.hok.write mu he k i new)
def c_.pins_of(I:c_ X a_ U H s)(h:∀p∈pins',s.heap.get? p.1=!p.2/\H p.1=J/\p.1≠X.env.locals/\p.1∉X.fs/\∀v,p.2.data≠.cell v):c_ X pins' U H s:=
 #[I.ok,I.os,I.bare,I.base,I.loc,I.cell,I.free,I.freeC,λp i=>(fw.mp i).elim (λz=>I.pin p (i6 _ z)) (h p),I.hok,I.len]
def Ky{N:List Str}(z:N.Nodup){i j:Nat}(a:N[i]?=!x)(b:N[j]?=!x):i=j:=by let(h1,D):=fS.mp a;let(h2,q):=fS.mp b;show(List.getElem_inj z).mp (D.trans q.symm)
def HF(I:c_ X a_ U H s)(hN:X.N.Nodup)(hi:X.N[i]?=!x)(W:Loc X.env.scope x)(r:dE v u)
 (h:∀s',c_ X a_ (U.set i (!v)) H s'->(∃a,Heap.SameBut a s.heap s'.heap/\(a=X.env.locals\/X.env.cells.lookup x=!a))->Q ⟨⟩ s') (hf:X.fn x=G\/X.env.scope.names.lookup x=!.local:=by first |show Zl O |show YY O |assumption):wpAny ZO A (storeName X.env x u) Q E s:=by
 let(m,hn,hl):=id I.loc;have hcls:(X.env.scope.kind==.class||(X.env.scope.kind==.module&&X.env.locals != X.env.globals))=M:=by rw[I.ok.kind];rfl
 have xq:i< -U:=by rw[I.len];show(fS.mp hi).1
 let cne:=I.cne;have D:∀{a:Addr}{h':Heap},(∃o,s.heap.get? a=!o/\H a=J)->Heap.SameBut a s.heap h'->jm X.prog X.w H h':=λ{a h'} ha hs b ob e=>by
  let(_,_,hfree):=ha;show(I.hok b ob e).stay (λc w' hc q=>(hs.2 c ?_).trans q) (λ_ q=>q) λ_ _ q=>q;rintro rfl;obtain rfl|hc:=hc
  . grind
  . grind
 obtain hk|hk:=W
 . show wpAny_storeName_local hk hn (λh' m5 hs=>?_) hcls;let(oL,_,_,F6,_):=id hn;show h _ #[I.ok,I.os,I.bare,#[λb o e n hb W=>?_,λb o e n hb W=>?_,I.base.free,λb o e W=>?_,I.base.tups,I.base.frzs,I.base.tbls],#[_,m5,λj y v' F e2 e3=>?_],λy c e=>?_,I.free,I.freeC,λp hp=>?_,D #[oL,F6,I.free] hs,by simpa using I.len] #[_,hs,Zl O]
   . show(hs.2 b (ga (g9 (eP e) I.ok.above))).trans (I.base.keep b o e n hb W)
   . let(sl,F):=I.base.slot b o e n hb W;show#[sl,(hs.2 b (ga (g9 (eP e) I.ok.above))).trans F]
   . let(o',F):=I.base.there b o e W;show#[o',(hs.2 b (ga (g9 (eP e) I.ok.above))).trans F]
   . by_cases hj:j=i
     . subst hj;rw[hi]at F;cases F;rw[k_ xq]at e2;cases e2;show#[u,r,Zl #[hk,by simp]]
     . rw[oy ()]at e2;let(u',r',q):=hl j y v' F e2 e3;show#[u',r',?_];obtain⟨k,e⟩|⟨k,c,e,z⟩:=q
       . show Zl #[k,?_];have:y≠x:=λe=>hj (Ky hN F (e▸hi));grind
       . show YY #[k,c,e,z.sameBut hs (cne y c e)]
   . let(w',z):=I.cell y c e;show#[w',z.sameBut hs (cne y c e)]
   . let(e,n,ne,nf,d):=I.pin p hp;show#[(hs.2 p.1 ne).trans e,n,ne,nf,d]
 . have lq:X.fn x=G:=by
    obtain z|z:=hf
    . show z
    . grind
   let(c,hc):=I.ok.has x (Zl hk);let(w',z):=I.cell x c hc;show wpAny_storeName_cell I.ok.kind hk hc z (λh' sj hs=>?_);let(oc,F7,hocd):=id z;show h { s with heap:=h' } #[I.ok,I.os,I.bare,#[λb o e n hb W=>?_,λb o e n hb W=>?_,I.base.free,λb o e W=>?_,I.base.tups,I.base.frzs,I.base.tbls],#[m,hn.sameBut hs ∅,λj y v' F e2 e3=>?_],λy c' e=>?_,I.free,I.freeC,λp hp=>?_,D #[oc,F7,I.freeC x c hc] hs,by simpa using I.len] #[c,hs,YY hc]
   . show(hs.2 b (ga (g9 (eP e) (I.ok.cab x c lq hc)))).trans (I.base.keep b o e n hb W)
   . let(sl,F):=I.base.slot b o e n hb W;show#[sl,(hs.2 b (ga (g9 (eP e) (I.ok.cab x c lq hc)))).trans F]
   . let(o',F):=I.base.there b o e W;show#[o',(hs.2 b (ga (g9 (eP e) (I.ok.cab x c lq hc)))).trans F]
   . by_cases hj:j=i
     . subst hj;rw[hi]at F;cases F;rw[k_ xq]at e2;cases e2;show#[u,r,YY #[Zl hk,c,hc,sj]]
     . rw[oy ()]at e2;let(u',r',q):=hl j y v' F e2 e3;show#[u',r',?_];obtain q|⟨k,c',e,z'⟩:=q
       . show Zl q
       . show YY #[k,c',e,z'.sameBut hs ?_];rintro rfl;show hj (Ky hN F (I.ok.inj _ _ _ e hc▸hi))
   . by_cases nE:c'=c
     . grind
     . let(w2,z2):=I.cell y c' e;show#[w2,z2.sameBut hs nE]
   . let(e,n,ne,nf,d):=I.pin p hp;show#[(hs.2 p.1 ?_).trans e,n,ne,nf,d];grind
def Kz(I:c_ X a_ U H s)(z:X.N.Nodup)(hi:X.N[i]?=!x)(D:Loc X.env.scope x)(r:dE v u)
 (h:∀s',c_ X a_ (U.set i (!v)) H s'->Q ⟨⟩ s') (j:X.fn x=G\/X.env.scope.names.lookup x=!.local:=by first |show Zl O |show YY O |assumption):wpAny ZO A (storeName X.env x u) Q E s:=
 HF I z hi D r (λs' q _=>h s' q) j
def c_.call'(I:c_ X a_ U H s)(q:s'.os=s.os)(u:Un (frs X.stack) ch H H' s.heap s'.heap)(i:jm X.prog X.w H' s'.heap)(z:AllBare s'.gens)
 (j:∀b∈ch,(b∈X.ex\/X.s₀.heap.objs.size<=b)/\b≠X.env.locals/\(∀x c,X.env.cells.lookup x=!c->c≠b)/\∀p∈X.pn++a_,p.1≠b):c_ X a_ U H' s':=by
 let(h',D,N,F,o'):=s';let e:=q;subst e;show I.call u i z j
end
abbrev XK:=Value->Option Addr->Hp->Prop
abbrev St:=List (Option V)
abbrev VK:=V->Hp->Prop
abbrev TE:=St->Hp->VK->Prop
abbrev TT:=St->Hp->(Bool->Hp->Prop)->Prop
abbrev TA:=St->Hp->(List V->Hp->Prop)->Prop
structure iq where
 nx:St->Hp->Prop
 rt:VK
 bk:St->Hp->Prop:=λ_ _=>False
 ct:St->Hp->Prop:=λ_ _=>False
abbrev TS:=iq->St->Hp->Prop
def EP(X:Cx)(a_:List (Addr×Obj))(U:St)(Q:VK)(u:Value)(s':Shared):Prop:=∃v H',c_ X a_ U H' s'/\dE v u/\Q v H'
def TP(X:Cx)(a_:List (Addr×Obj))(U:St)(Q:Bool->Hp->Prop)(b:Bool)(s':Shared):Prop:=∃H',c_ X a_ U H' s'/\Q b H'
def AP(X:Cx)(a_:List (Addr×Obj))(U:St)(Q:List V->Hp->Prop)(us:List Value)(s':Shared):Prop:=∃vs H',c_ X a_ U H' s'/\db vs us/\Q vs H'
def SP(X:Cx)(a_:List (Addr×Obj))(D:iq)(f:Flow)(s':Shared):Prop:=
 match f with
 |.next=>∃U' H',c_ X a_ U' H' s'/\D.nx U' H'
 |.brk=>∃U' H',c_ X a_ U' H' s'/\D.bk U' H'
 |.cont=>∃U' H',c_ X a_ U' H' s'/\D.ct U' H'
 |.ret u=>∃v U' H',c_ X a_ U' H' s'/\dE v u/\D.rt v H'
def PE(X:Cx)(e:Expr)(t:TE):Prop:=
 ∀(a_:List (Addr×Obj))(s:Shared)(U:St)(H:Hp)(Q:VK),c_ X a_ U H s->t U H Q->wpAny (model X.prog X.w) X.A (eval e X.env) (EP X a_ U Q) X.xe s
def PT(X:Cx)(e:Expr)(t:TT):Prop:=
 ∀(a_:List (Addr×Obj))(s:Shared)(U:St)(H:Hp)(Q:Bool->Hp->Prop),c_ X a_ U H s->t U H Q->wpAny (model X.prog X.w) X.A (isTrue e X.env (eval e X.env)) (TP X a_ U Q) X.xe s
def PW(X:Cx)(e:Expr)(t:TT):Prop:=
 ∀(whole:Sem Value)(a_:List (Addr×Obj))(s:Shared)(U:St)(H:Hp)(Q:Bool->Hp->Prop),c_ X a_ U H s->t U H Q->wpAny (model X.prog X.w) X.A (isTrue e X.env whole) (TP X a_ U Q) X.xe s
def PW.pt(h:PW X e t):PT X e t:=h _
def PA(X:Cx)(es:List Expr)(t:TA):Prop:=
 ∀(pos:Pos)(a_:List (Addr×Obj))(s:Shared)(U:St)(H:Hp)(Q:List V->Hp->Prop),c_ X a_ U H s->t U H Q->wpAny (model X.prog X.w) X.A (spliced (backTo pos (starEach es X.env))) (AP X a_ U Q) X.xe s
def PS(X:Cx)(st:Stmt)(t:TS):Prop:=
 ∀(a_:List (Addr×Obj))(s:Shared)(U:St)(H:Hp)(D:iq),c_ X a_ U H s->t D U H->wpAny (model X.prog X.w) X.A (exec st X.env) (SP X a_ D) X.xe s
def jP(X:Cx)(st:List Stmt)(t:TS):Prop:=
 ∀(a_:List (Addr×Obj))(s:Shared)(U:St)(H:Hp)(D:iq),c_ X a_ U H s->t D U H->wpAny (model X.prog X.w) X.A (execs st X.env) (SP X a_ D) X.xe s
def dg(h:wpAny ZO A t Q E s)(i:∀a s,Q a s->Q' a s):wpAny ZO A t Q' E s:=wpAny_mono h i λ_ _ x=>x
section
variable {X:Cx}
def sk(j:PE X a ta)(D:PE X b tb){U:St}{ZN:V->V->Hp->Prop}(I:c_ X a_ U H s)(h:ta U H λx H1=>tb U H1 λy H2=>ZN x y H2)
 {f:Value->Value->Sem α}
 (N:∀v u i x y H2,c_ X a_ U H2 i->dE x v->dE y u->ZN x y H2->wpAny (model X.prog X.w) X.A (f v u) Q X.xe i):
 wpAny (model X.prog X.w) X.A (eval a X.env) (λv q=>wpAny (model X.prog X.w) X.A (eval b X.env) (λu F=>wpAny (model X.prog X.w) X.A (f v u) Q X.xe F) X.xe q) X.xe s:=by
 show dg (j a_ s U H _ I h) λv z z1=>?_;let(x,H1,I1,r1,q1):=z1;show dg (D a_ z U H1 _ I1 q1) λu i z2=>?_;let(y,H2,I2,r2,q2):=z2;grind
def uH(i:Nat):TE:=λU H Q=>∃v,U[i]?=!(!v)/\Q v H
def tC(v:V):TE:=λ_ H Q=>Q v H
def F8{pos:Pos}(hN:X.N[i]?=!x)(hv:Tv X.env.scope x)(q:(x==("__debug__" : Str))=M:=by decide)(z:(x==("__classdict__" : Str))=M:=by decide):PE X (.Name x pos) (uH i):=by
 intro a_ s U H Q I h;let(v,e,h):=h;let(m,W,hl):=I.loc;let(u,r,l):=hl i x v hN e hv;have fin:EP X a_ U Q u s:=#[v,H,I,r,h];obtain⟨hk,F⟩|⟨hk,c,D,j⟩:=l
 . show wpAny_Name (wpAny_loadName_local I.ok.kind hk W F fin) q
 . obtain hk|hk:=hk
   . show wpAny_Name (wpAny_loadName_cell I.ok.kind hk D j fin) q
   . show wpAny_Name (wpAny_loadName_free I.ok.kind hk D j fin z) q
def F9{i j pos}:PE X (.Constant (.int i) j pos) (tC (.int i)):=λ_ _ _ H _ I h=>wpAny_Constant_int #[.int i,H,I.tok _,#[_,O],h]
def F_{j pos}:PE X (.Constant .none j pos) (tC .non):=λ_ _ _ H _ I h=>Constant_none #[.non,H,I,O,h]
def Gc{x j pos}:PE X (.Constant (.str x) j pos) (tC (.str x)):=λ_ _ _ H _ I h=>Calls.Constant_str #[.str x,H,I.tok _,#[_,O],h]
def Gl(X:Cx)(x:Str):Prop:=X.env.kindOf x=!.globalImplicit
def Pz{U:St}(I:c_ X a_ U H s)(i:Gl X x)(q:X.mg x=!u)(h:Q u s)
 (j:(x==("__debug__" : Str))=M:=by decide):wpAny (model X.prog X.w) X.A (eval (.Name x pos) X.env) Q E s:=
 Calls.Name_function_global I.ok.kind i (Calls.loadGlobal_global (by rw[I.ok.glob];show I.mod.glob.keeps I.bk) q h) j
def zE{U:St}{pos:Pos}(I:c_ X a_ U H s)(j:Gl X x)(D:X.mg x=J)(q:bootBuiltins x=!u)(h:Q u s)
 (i:x ≠ "__name__":=by decide) (z:(x==("__debug__" : Str))=M:=by decide):wpAny (model X.prog X.w) X.A (eval (.Name x pos) X.env) Q E s:=by
 let(F,h1,h2):=I.mod.blt;show Calls.Name_function_global I.ok.kind j (Calls.loadGlobal_builtin (by rw[I.ok.glob];show I.mod.glob.keeps I.bk) D (by rw[I.ok.blt];show h1.keeps I.bk) ((h2 x i).trans q) h) z
variable {a b:Expr}{ta tb:TE}{pos:Pos}
variable {tA pf:TT}{dP:List Expr}
def xt(t u:TT):TT:=λU H Q=>t U H λc H1=>if c=G then u U H1 Q else Q M H1
def xw(t u:TT):TT:=λU H Q=>t U H λc H1=>if c=G then Q G H1 else u U H1 Q
def Go(t:TT):TT:=λU H Q=>t U H λc H1=>Q (not c) H1
def ZF(i:PT X a tA):PW X (.BoolOp .And [a] pos) tA:=by
 intro wh a_ s U H Q I h;show isTrue_and (dg (i a_ s U H Q I h) λc j e=>?_);cases c with
 |true=>show isTrue_and_nil e
 |false=>show e
def Gz(i:PT X a tA):PW X (.BoolOp .Or [a] pos) tA:=by
 intro wh a_ s U H Q I h;show isTrue_or (dg (i a_ s U H Q I h) λc j e=>?_);cases c with
 |false=>show isTrue_or_nil e
 |true=>show e
def GA(i:PT X a tA)(q:PW X (.BoolOp .And (b::dP) pos) pf):PW X (.BoolOp .And (a::b::dP) pos) (xt tA pf):=by
 intro wh a_ s U H Q I h;show isTrue_and (dg (i a_ s U H _ I h) λc j z3=>?_);let(H1,I1,q1):=z3;cases c with
 |true=>show q wh a_ j U H1 Q I1 q1
 |false=>show#[H1,I1,q1]
def GB(i:PT X a tA)(q:PW X (.BoolOp .Or (b::dP) pos) pf):PW X (.BoolOp .Or (a::b::dP) pos) (xw tA pf):=by
 intro wh a_ s U H Q I h;show isTrue_or (dg (i a_ s U H _ I h) λc j z4=>?_);let(H1,I1,q1):=z4;cases c with
 |true=>show#[H1,I1,q1]
 |false=>show q wh a_ j U H1 Q I1 q1
def GG(i:PT X a tA):PT X (.UnaryOp .Not a pos) (Go tA):=by intro a_ s U H Q I h;show isTrue_not (i a_ s U H (λc H1=>Q (not c) H1) I h)
def GH(ta tb:TE):TE:=λU H Q=>ta U H λx H1=>∃c,x=.bl c/\if c=G then tb U H1 Q else Q (.bl M) H1
def GI{op}(h:PE X a t):PE X (.BoolOp op [a] pos) t:=λa_ s U H Q I i=>BoolOp_one (h a_ s U H Q I i)
def GN(j:PE X a ta)(z:PE X (.BoolOp .And (b::dP) pos) tb):PE X (.BoolOp .And (a::b::dP) pos) (GH ta tb):=by
 intro a_ s U H Q I h;show BoolOp_and (dg (j a_ s U H _ I h) λv q z5=>?_);let(x,H1,I1,r1,i):=z5;let(c,rfl,i):=i;cases r1;show wpAny_truthy_bool ?_;cases c with
 |true=>show z a_ q U H1 Q I1 i
 |false=>show#[.bl M,H1,I1,O,i]
def GO(t:TT)(ta tb:TE):TE:=λU H Q=>t U H λc H1=>if c=G then ta U H1 Q else tb U H1 Q
def Wg(z:PT X c tA)(j:PE X a ta)(q:PE X b tb):PE X (.IfExp c a b pos) (GO tA ta tb):=by
 intro a_ s U H Q I h;show wpAny_IfExp (dg (z a_ s U H _ I h) λd i z6=>?_);let(H1,I1,q1):=z6;cases d with
 |true=>show j a_ i U H1 Q I1 q1
 |false=>show q a_ i U H1 Q I1 q1
end
def bY(K:FG)(H:Hp)(a:Addr)(xs:List V):Prop:=
 Rd H a (.lst xs)\/
  ∃(o:Obj)(eJ:Array Value)(n:Nat),K.lookup a=!o/\o.cls=.type "list"/\o.dict=J/\o.data=.seq eJ n/\eJ.size<=sizeLine/\db xs eJ.toList
def cW(K:FG)(H:Hp)(a:Addr)(xs:List V):Prop:=
 Rd H a (.tup xs)\/
  ∃(o:Obj)(eJ:Array Value)(n:Nat),K.lookup a=!o/\o.cls=.type "tuple"/\o.data=.seq eJ n/\eJ.size<=sizeLine/\db xs eJ.toList
noncomputable def GU:Value->Option V
 |.none=>!.non
 |.bool b=>!(.bl b)
 |.int i _=>!(.int i)
 |.str x _=>!(.str x)
 |.bytes b _=>!(.byt b)
 |.float b _=>!(.flt b)
 |YV a=>!(.ref a)
 |.type n=>!(.ty n)
 |_=>J
def dE.abs(r:dE x u):GU u=!x:=by
 cases x with
 |non=>cases r;rfl
 |bl _=>cases r;rfl
 |int _=>let(t,rfl):=r;rfl
 |str _=>let(t,rfl):=r;rfl
 |byt _=>let(t,rfl):=r;rfl
 |flt _=>let(t,rfl):=r;rfl
 |ref _=>cases r;rfl
 |ty _=>cases r;rfl
def dE.inj(r:dE x u)(q:dE y u):x=y:=gt (r.abs.symm.trans q.abs)
theorem db.inj:∀{xs ys:List V}{i:List Value},db xs i->db ys i->xs=ys
 |_,_,_,.nil,.nil=>rfl
 |_,_,_,.cons r t,.cons q j=>by rw[r.inj q,db.inj t j]
section
variable {X:Cx}{a_:List (Addr×Obj)}{U:St}{H:Hp}{s:Shared}{a:Addr}{xs ys:List V}
def bY.of{K:FG}(h:H a=!(.lst xs)):bY K H a xs:=Zl (Zl h)
def cW.of{K:FG}(h:H a=!(.tup xs)):cW K H a xs:=Zl (Zl h)
def c_.list(I:c_ X a_ U H s)(h:bY X.K H a xs):∃i:List Value,db xs i/\PlainL s.heap a i.toArray/\-xs<=sizeLine:=by
 obtain h|⟨o,i,n,hk,q,j,hs,D,r⟩:=h
 . let(z,i,n,r,e):=h.ok I.hok;show#[i,r,#[_,n,e,O,O,O],z]
 . show#[i.toList,r,#[o,n,I.kIn a o hk,q,j,by simpa using hs],?_];let e:=-r;grind
def c_.tuple(I:c_ X a_ U H s)(h:cW X.K H a xs):∃i:List Value,db xs i/\IsTup s.heap a i.toArray/\-xs<=sizeLine:=by
 obtain h|⟨o,i,n,hk,j,hs,q,r⟩:=h
 . let(z,i,r,p):=h.ok I.hok;grind
 . show#[i.toList,r,#[o,I.kIn a o hk,j,n,by simpa using hs],?_];let e:=-r;grind
def c_.list_inj(I:c_ X a_ U H s)(h:bY X.K H a xs)(h':bY X.K H a ys):xs=ys:=by
 let(j,r,(o,n,e,_,_,d),_):=I.list h;let(i,F,(o',N,q,_,_,z),_):=I.list h';rw[e]at q;cases q;rw[d]at z;injection z with D _;have:j=i:=by simpa using congrArg Array.toList D
 subst this;show r.inj F
def c_.tuple_inj(I:c_ X a_ U H s)(h:cW X.K H a xs)(h':cW X.K H a ys):xs=ys:=by
 let(j,r,(o,e,_,n,d),_):=I.tuple h;let(i,F,(o',q,_,N,z),_):=I.tuple h';rw[e]at q;cases q;rw[d]at z;injection z with D _;have:j=i:=by simpa using congrArg Array.toList D
 subst this;show r.inj F
end
noncomputable abbrev Cx.wish (X:Cx) (E:Value->Shared->Prop):Cx:={ X with xe:=E }
abbrev Cx.nox(X:Cx):Cx:=X.wish λ_ _=>False
theorem Cx.Ok.wish{X:Cx}(ok:X.Ok)(E:Value->Shared->Prop):(X.wish E).Ok:=
 #[ok.mod,ok.kind,ok.glob,ok.blt,ok.above,ok.inj,ok.has,ok.cab,ok.hd,ok.frames,ok.stk,ok.exf,ok.bs,ok.bsz,ok.noex,ok.exfs,ok.funs,ok.frf]
def Cx.Ok.unwish{X:Cx}(ok:(X.wish E).Ok):X.Ok:=
 #[ok.mod,ok.kind,ok.glob,ok.blt,ok.above,ok.inj,ok.has,ok.cab,ok.hd,ok.frames,ok.stk,ok.exf,ok.bs,ok.bsz,ok.noex,ok.exfs,ok.funs,ok.frf]
section
variable {X:Cx}{a_:List (Addr×Obj)}{U:St}{H:Hp}{s:Shared}{E:Value->Shared->Prop}
theorem c_.wish(I:c_ X a_ U H s)(E:Value->Shared->Prop):c_ (X.wish E) a_ U H s:=#[I.ok.wish E,I.os,I.bare,I.base,I.loc,I.cell,I.free,I.freeC,I.pin,I.hok,I.len]
theorem c_.unwish(I:c_ (X.wish E) a_ U H s):c_ X a_ U H s:=#[I.ok.unwish,I.os,I.bare,I.base,I.loc,I.cell,I.free,I.freeC,I.pin,I.hok,I.len]
theorem SP.unwish(h:SP (X.wish E) a_ D f s'):SP X a_ D f s':=by
 cases f with
 |next=>let(i,H',I,q):=h;show#[i,H',I.unwish,q]
 |brk=>let(i,H',I,q):=h;show#[i,H',I.unwish,q]
 |cont=>let(i,H',I,q):=h;show#[i,H',I.unwish,q]
 |ret u=>let(v,i,H',I,r,q):=h;show#[v,i,H',I.unwish,r,q]
theorem jP.nox{st:List Stmt}(h:jP X.nox st t):jP X st t:=λa_ s U H D I i=>
 wpAny_mono (h a_ s U H D (I.wish _) i) (λ_ _ q=>q.unwish) λ_ _ z=>False.elim z
end
section
variable {X:Cx}{st:Stmt}{dP:List Stmt}{t u:TS}{e:Expr}{te:TE}{pos:Pos}
def GV:TS:=λD U H=>D.nx U H
def GW(t u:TS):TS:=λD U H=>t { D with nx:=u D } U H
def ZJ:jP X [] GV:=λ_ _ U H _ I h=>wpAny_execs_nil #[U,H,I,h]
def Wh(h1:PS X st t)(h2:jP X dP u):jP X (st::dP) (GW t u):=by
 intro a_ s U H D I h;show wpAny_execs_cons (dg (h1 a_ s U H { D with nx:=u D } I h) λf z q=>?_);cases f with
 |next=>
  let(F,H',j,q):=q;show h2 a_ z F H' D j q
 |ret v=>show q
 |brk=>show q
 |cont=>show q
def ZK(h1:PS X st t):jP X [st] t:=by
 intro a_ s U H D I h;show wpAny_execs_cons (dg (h1 a_ s U H D I h) λf F q=>?_);cases f with
 |next=>show wpAny_execs_nil q
 |ret v=>show q
 |brk=>show q
 |cont=>show q
def c_.quiet{U:St}(I:c_ X a_ U H s):interactive X.env=M:=by simp[interactive,I.ok.kind]
def J3(te:TE):TS:=λD U H=>te U H λ_ H1=>D.nx U H1
def qK(he:PE X e te)(hs:swapsWith e J pos.line X.env=pure M:=by rfl):PS X (.Expr e pos) (J3 te):=by intro a_ s U H D I h;show wpAny_Expr_any (dg (he a_ s U H _ I h) λv i ⟨x,H1,I1,r1,q1⟩=>#[U,H1,I1,q1]) I.quiet hs
def GY(te:TE):TS:=λD U H=>te U H D.rt
def Tz(he:PE X e te):PS X (.Return (!e) pos) (GY te):=by intro a_ s U H D I h;show wpAny_Return_some (dg (he a_ s U H _ I h) λv i ⟨x,H1,I1,r1,q1⟩=>#[x,U,H1,I1,r1,q1])
def G0(c:TT)(t u:TS):TS:=λD U H=>c U H λb H1=>if b=G then t D U H1 else u D U H1
def G1(z:PT X c tc)(j:jP X a t)(q:jP X b u):PS X (.If c a b pos) (G0 tc t u):=by
 intro a_ s U H D I h;show wpAny_If (dg (z a_ s U H _ I h) λd i Nb=>?_);let(H1,I1,q1):=Nb;cases d with
 |true=>show j a_ i U H1 D I1 q1
 |false=>show q a_ i U H1 D I1 q1
end
abbrev TG:=V->St->Hp->(St->Hp->Prop)->Prop
abbrev yU:=List V->St->Hp->(St->Hp->Prop)->Prop
def PG(X:Cx)(target:Expr)(t:TG):Prop:=
 ∀(a_:List (Addr×Obj))(s:Shared)(U:St)(H:Hp)(v:V)(u:Value)(Q:St->Hp->Prop),c_ X a_ U H s->dE v u->t v U H Q->
  wpAny (model X.prog X.w) X.A (assign target X.env u) (λ_ s'=>∃U' H',c_ X a_ U' H' s'/\Q U' H') X.xe s
def TQ(X:Cx)(ts:List Expr)(t:yU):Prop:=
 ∀(a_:List (Addr×Obj))(s:Shared)(U:St)(H:Hp)(vs:List V)(us:List Value)(Q:St->Hp->Prop),c_ X a_ U H s->db vs us->t vs U H Q->
  wpAny (model X.prog X.w) X.A (assignInOrder ((assignEach ts X.env).map (·.2)) us) (λ_ s'=>∃U' H',c_ X a_ U' H' s'/\Q U' H') X.xe s
abbrev Wi:=V->V->V->Hp->(Hp->Prop)->Prop
def Wj(X:Cx)(t:Wi):Prop:=
 ∀(a_:List (Addr×Obj))(s:Shared)(U:St)(H:Hp)(o i v:V)(ov iv u:Value)(Q:Hp->Prop),c_ X a_ U H s->dE o ov->dE i iv->dE v u->t o i v H Q->
  wpAny (model X.prog X.w) X.A (setItem ov iv u) (λ_ s'=>∃H',c_ X a_ U H' s'/\Q H') X.xe s
section
variable {X:Cx}{pos:Pos}
def J4(i:Nat):TG:=λv U H Q=>Q (U.set i (!v)) H
def PB(D:X.N.Nodup)(hi:X.N[i]?=!x)(z:Loc X.env.scope x)(j:X.fn x=G\/X.env.scope.names.lookup x=!.local:=by first |show Zl O |show YY O |assumption):PG X (.Name x pos) (J4 i):=by intro a_ s U H v u Q I r h;show wpAny_assign_Name (Kz I D hi z r (λs' q=>#[_,H,q,h]) j)
def xy:yU:=λvs U H Q=>vs=[]/\Q U H
def YJ(t:TG)(u:yU):yU:=λvs U H Q=>∃v r,vs=v::r/\t v U H λU' H'=>u r U' H' Q
def gR:TQ X [] xy:=by intro a_ s U H j i Q I r h;let(e,h):=h;subst e;show assignInOrder_nil #[U,H,I,h]
def bM(h1:PG X e t)(h2:TQ X es u)
 (hs:(assignEach (e::es) X.env).map (·.2)=assign e X.env::(assignEach es X.env).map (·.2):=by rfl):TQ X (e::es) (YJ t u):=by
 intro a_ s U H z D Q I r h;let(v,F,i,h):=h;subst i;cases r with
 |cons r q=>
  rw[hs];show assignInOrder_cons (dg (h1 a_ s U H _ _ _ I r h) λ_ j ⟨U1,H1,I1,q1⟩=>?_);show h2 a_ j U1 H1 _ _ Q I1 q q1
def G2(K:FG)(n:Nat)(t:yU):TG:=λv U H Q=>∃a xs,v=.ref a/\cW K H a xs/\-xs=n/\t xs U H Q
def G_{k:Nat}(hc:X.calm=true)(h:TQ X es t)
 (hn:-(assignEach es X.env)=n:=by rfl) (Hc:(assignEach es X.env).findIdx? (·.1)=none:=by rfl):PG X (.Tuple es k pos) (G2 X.K n t):=by
 intro a_ s U H v u Q I r hw;let(a,xs,e1,hq,hl,hw):=hw;subst e1;cases r;let(eJ,rv,ht,hz):=I.tuple hq;show assign_Tuple_tuple (I.ok.hd hc) ht (by simp[hn,<-hl,rv.length]) Hc λh' hx=>?_;let I1:=I.kept (t':=s.toks) λb o e=>hx b o (ga (eP e)) e;show h a_ _ U H xs _ Q I1 () hw
def Wk(to ti:TE)(t:Wi):TG:=λv U H Q=>to U H λo H1=>ti U H1 λi H2=>t o i v H2 λH3=>Q U H3
def Eo(N:PE X o to)(hi:PE X i ti)(hs:Wj X t)
 (z:∀v,assign (.Subscript o i pos) X.env v=(do
   let j <-holding [v] (eval o X.env)
   let q <-holding [v,j] (eval i X.env)
   standAt pos
   holding [v,j,q] (setItem j q v)
   release [v,j,q] []):=by intro _;rfl):PG X (.Subscript o i pos) (Wk to ti t):=by
 intro a_ s U H v u Q I r h
 rw[z]
 show da (wpAny_holding (dg (N a_ s U H _ I h) λj F ⟨x,H1,I1,r1,q1⟩=>?_))
 show da (wpAny_holding (dg (hi a_ F U H1 _ I1 q1) λq D ⟨y,H2,I2,r2,q2⟩=>?_))
 show da (wpAny_standAt (da (wpAny_holding (dg (hs a_ D U H2 x y v j q u _ I2 r1 r2 r q2) λ_ W ⟨H3,I3,q3⟩=>?_))))
 show wpAny_release #[U,H3,I3,q3]
def Rz(te:TE)(g:TG):TS:=λD U H=>te U H λx H1=>g x U H1 D.nx
def KH(he:PE X e te)(j:PG X tg g)(hs:swapsWithSole [tg] e pos.line X.env=pure M:=by rfl)(z:swappedStores [tg] e X.env=pure J:=by rfl)
 (h1:(assignEach [tg] X.env).map (·.2)=[assign tg X.env]:=by rfl):PS X (.Assign [tg] e pos) (Rz te g):=by
 intro a_ s U H D I h;show wpAny_Assign_stores (dg (he a_ s U H _ I h) λv i He=>?_) hs z;let(x,H1,I1,r1,q1):=He;rw[h1];show dg (j a_ i U H1 x v _ I1 r1 q1) λ_ F q=>q
def Hg(z:X.N.Nodup)(hi:X.N[i]?=!x)(F:Loc X.env.scope x)(he:PE X e te)(hs:swapsWith e (!(.Name x pos')) pos.line X.env=pure M:=by rfl)(j:X.fn x=G\/X.env.scope.names.lookup x=!.local:=by first |show Zl O |show YY O |assumption):
 PS X (.Assign [.Name x pos'] e pos) (Rz te (J4 i)):=by
 intro a_ s U H D I h;show wpAny_Assign_Name (dg (he a_ s U H _ I h) λv Q Hj=>?_) hs;let(y,H1,I1,r1,q1):=Hj;show Kz I1 z hi F r1 (λW q=>#[_,H1,q,q1]) j
end
structure It where
 go:Nat->Hp->Prop
 yld:Nat->Hp->V->Hp->Prop
 stop:Nat->Hp->Prop
def nJ(X:Cx)(a_:List (Addr×Obj))(H:Hp)(b:Addr):Prop:=
 H b=J/\b≠X.env.locals/\b∉X.fs/\(b∈X.ex\/X.s₀.heap.objs.size<=b)/\(∀x c,X.env.cells.lookup x=!c->c≠b)/\∀p∈X.pn++a_,p.1≠b
def c_.fpOk{U:St}{b:Addr}(I:c_ X a_ U H s)(i: ~~~s.heap.objs<=b)(j:H' b=J):nJ X a_ H' b:=by
 show#[j,kc (g9 I.lt i),I.nofs i,YY (gL I.sz i),λx c e z=>?_,λp D z=>?_]
 . let(v,q):=I.cell x c e;show absurd (g9 q.lt ∅) (mx _)
 . show absurd (g9 (eP (I.pin p D).1) ∅) (mx _)
structure io(P:Program)(w:World)(K:FG)(tg:Expr)(ZU:It)(fp:List Addr)(it:Addr)(tn:Nat->Heap->Prop):Prop where
 mem:it∈fp
 obj:∀i h,tn i h->∀b∈fp,∃o,h.get? b=!o/\∀v,o.data≠.cell v
 keep:∀i h h',tn i h->(∀b∈fp,∀o,h.get? b=!o->h'.get? b=!o)->tn i h'
 item:∀(X:Cx),X.prog=P->X.w=w->X.K=K->X.calm=true->∀(i:Nat)(a_:List (Addr×Obj))(s:Shared)(U:St)(H:Hp)(E:Value->Shared->Prop),c_ X a_ U H s->(∀b∈fp,nJ X a_ H b)->tn i s.heap->ZU.go i H->
  wpAny (model P w) X.A (pyNext (.ref it)) (λr s1=>∃u,r=!u/\
   wpAny (model P w) X.A (letOwnedTupleGo tg (.ref it) u) (λ_ s2=>∃x H',c_ X a_ U H' s2/\dE x u/\ZU.yld i H x H'/\tn (i+1) s2.heap/\∀b∈fp,H' b=none) E s1) E s
 done:∀(X:Cx),X.prog=P->X.w=w->X.K=K->X.calm=true->∀(i:Nat)(a_:List (Addr×Obj))(s:Shared)(U:St)(H:Hp)(E:Value->Shared->Prop),c_ X a_ U H s->(∀b∈fp,nJ X a_ H b)->tn i s.heap->ZU.stop i H->
  wpAny (model P w) X.A (pyNext (.ref it)) (λr s1=>r=none/\c_ X a_ U H s1) E s
 self:∀(A:Around)(i:Nat)(s:Shared)(Q:Value->Shared->Prop)(E:Value->Shared->Prop),tn i s.heap->Q (.ref it) s->wpAny (model P w) A (pyIter (.ref it)) Q E s
abbrev TI:=St->Hp->(It->Hp->Prop)->Prop
def pj(X:Cx)(a_:List (Addr×Obj))(U:St)(tg:Expr)(ZN:It->Hp->Prop)(px:Value)(s2:Shared):Prop:=
 ∃(it:Addr)(fp:List Addr)(tn:Nat->Heap->Prop)(ZU:It)(H':Hp),px=YV it/\c_ X a_ U H' s2/\io X.prog X.w X.K tg ZU fp it tn/\tn 0 s2.heap/\(∀b∈fp,nJ X a_ H' b)/\ZN ZU H'
def PI(X:Cx)(tg iter:Expr)(wi:TI):Prop:=
 ∀(a_:List (Addr×Obj))(s:Shared)(U:St)(H:Hp)(ZN:It->Hp->Prop),c_ X a_ U H s->wi U H ZN->
  wpAny (model X.prog X.w) X.A (eval iter X.env) (λv s1=>wpAny (model X.prog X.w) X.A (pyIter v) (pj X a_ U tg ZN) X.xe s1) X.xe s
def RB(q:s.heap.get? it=!o)(j:o.cls=.type n)(z:o.data=.fields vs)
 (D:["enumerate","zip","dict_itemiterator","dict_reverseitemiterator","odict_iterator","itertools.zip_longest","itertools.pairwise"].contains n=M) (i:Q ⟨⟩ s):wpAny ZO A (letOwnedTupleGo tg (YV it) u) Q E s:=by
 cases tg<;>first
  |show d0 i
  | (cases u<;>first
      |show d0 i
      | (show da (wpAny_load q ?_)
         rw[j,z];show wpAny ZO A (if (["enumerate","zip","dict_itemiterator","dict_reverseitemiterator","odict_iterator","itertools.zip_longest","itertools.pairwise"].contains n&&vs[0]?==!(rawInt _))=G then _ else _) Q E s;rw[dQ ∅];show d0 i))
def YK(K:FG)(a:Addr):It:=
 #[λi H=>∃xs x,bY K H a xs/\xs[i]?=!x,λi H x H'=>H'=H/\∀xs,bY K H a xs->xs[i]?=!x,λi H=>∃xs,bY K H a xs/\-xs<=i]
def YL(K:FG)(a:Addr):It:=
 #[λi H=>∃xs x,cW K H a xs/\xs[i]?=!x,λi H x H'=>H'=H/\∀xs,cW K H a xs->xs[i]?=!x,λi H=>∃xs,cW K H a xs/\-xs<=i]
def YM(lo:Int)(n:Nat):It:=#[λi _=>i<n,λi H x H'=>H'=H/\x=.int (lo+i),λi _=>n<=i]
def TV{K:FG}(a q:Addr):io P w K tg (YK K a) [q] q (λi h=>h.IsListIter q a i) where
 mem:=by simp
 obj:=λi h st b j=>by
  have e:b=q:=by simpa using j
  subst e;let(o,e,c,d):=st;show#[o,e,λv z=>by rw[d]at z;cases z]
 keep:=λi h h' st k=>st.at λo e=>k q (by simp) o e
 item:=by intro X hP hw hK hc i a_ s U H E I F st hg;subst hP hw hK;let(xs,x,N,hx):=hg;let(eJ,rv,p,hz):=I.list N;let(u,hu,ru):=rv.get hx;let(Q,f1,f2,f3,f4,W):=F q (by simp);show wpAny_pyNext_list_item st p.isList (by simpa using hu) λh' D sb=>?_;let I1:=I.turned (t':=s.toks) (λb o j e=>(sb.2 b j).trans e) Q f1 f3 f4 W;let(o,e,c,d):=id D;show#[u,O,RB e c d () #[x,H,I1,ru,#[O,λys hy=>by rw[I.list_inj hy N];show hx],D,λb j=>(F b j).1]]
 done:=by intro X hP hw hK hc i a_ s U H E I F st hg;subst hP hw hK;let(xs,N,hx):=hg;let(eJ,rv,p,hz):=I.list N;let(Q,f1,f2,f3,f4,W):=F q (by simp);let hl:=-rv;show wpAny_pyNext_list_end (I.ok.hd hc) st p.isList ∅ λh' eb=>#[O,I.turned (λb o j e=>eb b o j e) Q f1 f3 f4 W]
 self:=λ_ _ _ _ _ st h=>wpAny_pyIter_listiter st h
def RC{K:FG}(a q:Addr):io P w K tg (YL K a) [q] q (λi h=>h.IsTupleIter q a i) where
 mem:=by simp
 obj:=λi h st b j=>by
  have e:b=q:=by simpa using j
  subst e;let(o,e,c,d):=st;show#[o,e,λv z=>by rw[d]at z;cases z]
 keep:=λi h h' st k=>st.at λo e=>k q (by simp) o e
 item:=by intro X hP hw hK hc i a_ s U H E I F st hg;subst hP hw hK;let(xs,x,N,hx):=hg;let(eJ,rv,p,hz):=I.tuple N;let(u,hu,ru):=rv.get hx;let(Q,f1,f2,f3,f4,W):=F q (by simp);show wpAny_pyNext_tuple_item st (p) (by simpa using hu) λh' D sb=>?_;let I1:=I.turned (t':=s.toks) (λb o j e=>(sb.2 b j).trans e) Q f1 f3 f4 W;let(o,e,c,d):=id D;show#[u,O,RB e c d () #[x,H,I1,ru,#[O,λys hy=>by rw[I.tuple_inj hy N];show hx],D,λb j=>(F b j).1]]
 done:=by intro X hP hw hK hc i a_ s U H E I F st hg;subst hP hw hK;let(xs,N,hx):=hg;let(eJ,rv,p,hz):=I.tuple N;let(Q,f1,f2,f3,f4,W):=F q (by simp);let hl:=-rv;show wpAny_pyNext_tuple_end (I.ok.hd hc) st (p) ∅ λh' eb=>#[O,I.turned (λb o j e=>eb b o j e) Q f1 f3 f4 W]
 self:=λ_ _ _ _ _ st h=>wpAny_pyIter_tupleiter st h
def RD{K:FG}(j:Addr)(lo:Int)(n:Nat):io P w K tg (YM lo n) [j] j (λi h=>IsRangeIter h j (lo+(i:Nat)*1) ((n:Int)-(i:Nat)) 1) where
 mem:=by simp
 obj:=λi h st b q=>by
  have e:b=j:=by simpa using q
  subst e;show#[_,st,λv z=>by let z':=z;cases z']
 keep:=λi h h' st k=>k j (by simp) _ st
 item:=by intro X hP hw hK hc i a_ s U H E I F st hg;subst hP hw hK;let(N,f1,f2,f3,f4,Q):=F j (by simp);let W:=Walks.range (prog:=X.prog) (w:=X.w) (I.ok.hd hc) j lo 1 n;show W.item i s _ _ hg st λv h' tk hv D kk=>?_;let(t,rfl):=hv;have I1:c_ X a_ U H { s with heap:=h',toks:=tk }:=I.turned (λb o q e=>kk b o ∅ e) N f1 f3 f4 Q;show#[_,O,RB (n:="range_iterator") D O O () #[.int (lo+i),H,I1,#[t,?_],#[O,O],D,λb q=>(F b q).1]];rw[Int.mul_one]
 done:=by intro X hP hw hK hc i a_ s U H E I F st hg;let(N,f1,f2,f3,f4,Q):=F j (by simp);show wpAny_pyNext_range_end (I.ok.hd hc) st (by have:n<=i:=hg;lia) λh' eb=>#[O,I.turned (λb o q e=>eb b o q e) N f1 f3 f4 Q]
 self:=λ_ _ _ _ _ st h=>wpAny_pyIter_rangeiter st h
section
variable {X:Cx}{tg:Expr}
def Wl{U:St}{lo hi:Int}(I:c_ X a_ U H s)(h1:(Neg.neg (2 ^ 62))<=lo)(h2:lo<2 ^ 62)(h3:(Neg.neg (2 ^ 62))<=hi)(h4:hi<2 ^ 62)
 (q:ZN (YM lo (hi-lo).toNat) H):wpAny (model X.prog X.w) X.A (pyIter (YV s.heap.objs.size)) (pj X a_ U tg ZN) E { s with heap:=s.heap.push { cls:=.type "range",data:=.fields (List.toArray [.int lo t,.int hi u,.int 1 v]) },toks:=W }:=by
 show wpAny_pyIter_range (IsRange.new ..) (small_one h1 h2 h3 h4) ?_;have D:c_ X a_ U H { s with heap:=s.heap.push { cls:=.type "range",data:=.fields (List.toArray [.int lo t,.int hi u,.int 1 v]) },toks:=W }:=I.kept λb o e=>fz _ e;show#[(s.heap.push { cls:=.type "range",data:=.fields (List.toArray [.int lo t,.int hi u,.int 1 v]) }).objs.size,[(s.heap.push { cls:=.type "range",data:=.fields (List.toArray [.int lo t,.int hi u,.int 1 v]) }).objs.size],_,_,H,O,
  D.kept λb o e=>fz _ e,RD _ lo (hi-lo).toNat,?_,λb Q=>?_,q]
 . have F:lo+((0:Nat):Int)*1=lo:=by simp
   have N:(((hi-lo).toNat:Nat):Int)-((0:Nat):Int)=Builtin.Range.rangeSize lo hi 1:=by rw[rangeSize_one];split<;>lia
   rw[F,N];show ge _ O
 . have e:b=(s.heap.push { cls:=.type "range",data:=.fields (List.toArray [.int lo t,.int hi u,.int 1 v]) }).objs.size:=by simpa using Q
   subst e;show D.fpOk (eK _) (D.hok.fresh (eK _))
def Ho(ta:TA):TI:=λU H ZN=>ta U H λvs H1=>∃j:Int,vs=[.int j]/\(Neg.neg (2 ^ 62))<=j/\j<2 ^ 62/\ZN (YM 0 j.toNat) H1
def TX(D:Gl X "range")(N:X.mg "range"=J)(z:PA X [a] ta)(hs:starEach [a] X.env=[(M,eval a X.env)]:=by rfl):PI X tg (.Call (.Name "range" p) [a] [] pos) (Ho ta):=by
 intro a_ s U H ZN I h;show Call_ (zE I D N boot_range (PyProof.Rows.callWith_type1 (dg (z pos a_ s U H _ I h) λus W Hq=>?_) hs O));let(vs,H1,I1,r1,i):=Hq;let(j,e,i,F,q):=i;subst e;cases r1 with
 |cons r Q=>
  cases Q;let(t,rfl):=r;show call_range_1 (Wl I1 () () i F ∅)
def HA(wi:TI)(g:TG)(tb:TS):TS:=λD U H=>wi U H λZU H1=>∃W:Nat->Nat->St->Hp->Prop,(∃m,W 0 m U H1)/\∀i m U H,W i m U H->
 (ZU.stop i H/\D.nx U H)\/(ZU.go i H/\∃N:St->Hp->Prop,(∀U' H',N U' H'->∃m',m'<m/\W (i+1) m' U' H')/\∀x H',ZU.yld i H x H'->g x U H' λU2 H2=>tb { D with nx:=N,ct:=N,bk:=D.nx } U2 H2)
def zF(fp:List Addr)(h:Heap):List (Addr×Obj):=fp.filterMap λb=>(h.get? b).map λo=>(b,o)
def xU(i:b∈fp)(e:h.get? b=!o):(b,o)∈zF fp h:=ms.mpr #[b,i,by rw[e];rfl]
def TY(i:p∈zF fp h):p.1∈fp/\h.get? p.1=!p.2:=by
 let(b,j,e):=ms.mp i;cases q:h.get? b with
 |none=>grind
 |some o=>
  grind
def c_.pinned{U:St}(I:c_ X a_ U H s)(i:∀b∈fp,nJ X a_ H b)(D:∀b∈fp,∃o,s.heap.get? b=!o/\∀v,o.data≠.cell v):c_ X (a_++zF fp s.heap) U H s:=
 I.pins_of λp j=>(fw.mp j).elim (λz=>I.pin p (h_ _ z)) λz=>by let(q,e):=TY z;let(F,N,Q,_):=i p.1 q;grind
def c_.unpinned{U:St}(I:c_ X (a_++pl) U H s):c_ X a_ U H s:=I.pins_of λp i=>I.pin p ∅
def HC(hp:PassesOwn (model X.prog X.w) X.A X.env X.xe)(hc:X.calm=G)(hi:PI X tg iter wi)(hg:PG X tg g)(F:jP X body tb)
 (hs:∀x,foldedSetIterable iter X.env x=pure x:=by intro _;rfl):PS X (.For tg iter body [] pos) (HA wi g tb):=by
 intro a_ s U H D I h;show wpAny_For (dg (hi a_ s U H _ I h) λv s1 h1=>dg h1 λpx s2 h2=>?_) hs;let(it,fp,tn,ZU,H2,e,I2,T,kl,f2,W,(m0,w0),turn):=h2;subst e;have Q:∀{H':Hp},(∀b∈fp,H' b=J)->∀b∈fp,nJ X a_ H' b:=λhn b F=>#[hn b F,(f2 b F).2];show codeAny_forLoop_any (λn s'=>∃i U' H',c_ X a_ U' H' s'/\tn i s'.heap/\(∀b∈fp,H' b=J)/\W i n U' H') ?_ m0 #[0,U,H2,I2,kl,λb F=>(f2 b F).1,w0];intro n s3 q0;let(i,U3,H3,I3,lv,xz,w3):=q0;obtain⟨stop,qn⟩|⟨go,N,hN,step⟩:=turn i n U3 H3 w3
 . show wpAny_passesOwn hp (dg (T.done X O O O hc i a_ s3 U3 H3 X.xe I3 (Q xz) lv stop) λr s4 ⟨hr,I4⟩=>?_);subst hr;show wpAny_execs_nil #[U3,H3,I4,qn]
 . show wpAny_passesOwn hp (dg (T.item X O O O hc i a_ s3 U3 H3 X.xe I3 (Q xz) lv go) λr s4 ⟨u,hr,h4⟩=>?_);subst hr;show wpAny_passesOwn hp (dg h4 λ_ s5 ⟨x,H5,I5,r5,y5,lI,sw⟩=>?_);let HG:=I5.pinned (Q sw) (T.obj _ _ lI);show wpAny_passesOwn hp (dg (hg _ s5 U3 H5 x u _ HG r5 (step x H5 y5)) λ_ s6 ⟨U6,H6,I6,q6⟩=>?_);show wpAny_passesOwn hp (dg (F _ s6 U6 H6 _ I6 q6) λf s7 q7=>?_);have q:∀{z:St}{H7:Hp},c_ X (a_++zF fp s5.heap) z H7 s7->N z H7->∃m,m<n/\∃i U' H',c_ X a_ U' H' s7/\tn i s7.heap/\(∀b∈fp,H' b=J)/\W i m U' H':=λ{z H7} j n7=>by let(m',hm,w7):=hN z H7 n7;show#[m',hm,i+1,z,H7,j.unpinned,T.keep _ _ _ lI λb F o e=>(j.pin (b,o) (h_ _ (h_ _ (xU F e)))).1,λb F=>?_,w7];let(o,e,d):=T.obj _ _ lI b F;show(j.pin (b,o) (h_ _ (h_ _ (xU F e)))).2.1
   cases f with
   |next=>let(z,H7,j,n7):=q7;show q j n7
   |cont=>let(z,H7,j,n7):=q7;show q j n7
   |brk=>let(z,H7,j,q7):=q7;show#[z,H7,j.unpinned,q7]
   |ret v=>let(x7,z,H7,j,r7,q7):=q7;show#[x7,z,H7,j.unpinned,r7,q7]
end
abbrev R2:=V->V->Hp->VK->Prop
def ju(X:Cx)(f:Value->Value->Sem Value)(r:R2):Prop:=
 ∀(a_:List (Addr×Obj))(s:Shared)(U:St)(H:Hp)(x y:V)(v u:Value)(Q:VK),c_ X a_ U H s->dE x v->dE y u->r x y H Q->
  wpAny (model X.prog X.w) X.A (f v u) (EP X a_ U Q) X.xe s
def sA(X:Cx)(f:Value->Sem Value)(r:V->Hp->VK->Prop):Prop:=
 ∀(a_:List (Addr×Obj))(s:Shared)(U:St)(H:Hp)(x:V)(v:Value)(Q:VK),c_ X a_ U H s->dE x v->r x H Q->
  wpAny (model X.prog X.w) X.A (f v) (EP X a_ U Q) X.xe s
def lO(X:Cx)(f:Value)(r:List V->Hp->VK->Prop):Prop:=
 ∀(a_:List (Addr×Obj))(s:Shared)(U:St)(H:Hp)(xs:List V)(us:List Value)(Q:VK),c_ X a_ U H s->db xs us->r xs H Q->
  wpAny (model X.prog X.w) X.A (call f us) (EP X a_ U Q) X.xe s
def HI(X:Cx)(r:V->Hp->(Bool->Hp->Prop)->Prop):Prop:=
 ∀(a_:List (Addr×Obj))(s:Shared)(U:St)(H:Hp)(x:V)(v:Value)(Q:Bool->Hp->Prop),c_ X a_ U H s->dE x v->r x H Q->
  wpAny (model X.prog X.w) X.A (truthy v) (TP X a_ U Q) X.xe s
def T3(r:R2)(ta tb:TE):TE:=λU H Q=>ta U H λx H1=>tb U H1 λy H2=>r x y H2 Q
def HM(r:V->Hp->VK->Prop)(ta:TE):TE:=λU H Q=>ta U H λx H1=>r x H1 Q
def rI(C:Int->Int->Prop)(g:Int->Int->V):R2:=λx y H Q=>∃i j,x=.int i/\y=.int j/\C i j/\Q (g i j) H
def zG(g:Int->Int->V):R2:=λx y H Q=>∃i j,x=.int i/\y=.int j/\Q (g i j) H
def rU(g:Int->V):V->Hp->VK->Prop:=λx H Q=>∃i,x=.int i/\Q (g i) H
section
variable {X:Cx}{a b c:Expr}{ta tb tc:TE}{pos:Pos}
def Wm(j:PE X a ta)(D:PE X b tb){U:St}{ZN:V->V->Hp->Prop}(I:c_ X a_ U H s)
 (h:ta U H λx H1=>tb U H1 λy H2=>ZN x y H2) {f:Value->Value->Sem Value}
 (N:∀v u i x y H2,c_ X a_ U H2 i->dE x v->dE y u->ZN x y H2->wpAny (model X.prog X.w) X.A (f v u) Q X.xe i):
 wpAny (model X.prog X.w) X.A (eval a X.env) (λv q=>wpAny (model X.prog X.w) X.A (eval b X.env) (λu F=>wpAny (model X.prog X.w) X.A (f v u) Q X.xe F) X.xe q) X.xe s:=by
 show dg (j a_ s U H _ I h) λv z HP=>?_;let(x,H1,I1,r1,q1):=HP;show dg (D a_ z U H1 _ I1 q1) λu i HU=>?_;let(y,H2,I2,r2,q2):=HU;grind
def HV(N:ju X (binaryOp op) r)(i:PE X a ta)(W:PE X b tb):PE X (.BinOp a op b pos) (T3 r ta tb):=by intro a_ s U H Q I h;show wpAny_BinOp (Wm i W I h λv u D x y H2 j F z q=>N a_ D U H2 x y v u Q j F z q)
def HZ(q:sA X (unaryOp op) r)(i:PE X a ta):PE X (.UnaryOp op a pos) (HM r ta):=by intro a_ s U H Q I h;show UnaryOp_ (dg (i a_ s U H _ I h) λv j ⟨x,H1,I1,r1,q1⟩=>q a_ j U H1 x v Q I1 r1 q1)
def YQ{g:Int->Int->Int}
 (rule:∀(i j:Int)(t u:Tok)(s:Shared)(Q:Value->Shared->Prop)(E:Value->Shared->Prop),C i j->Q (.int (g i j) s.toks) { s with toks:=s.toks+1 }->wpAny (model X.prog X.w) X.A (f (.int i t) (.int j u)) Q E s):
 ju X f (rI C λi j=>.int (g i j)):=by
 intro a_ s U H x y v u Q I W N h;let(i,j,rfl,rfl,hc,q):=h;let(t,rfl):=W;let(t',rfl):=N;show rule i j t t' s _ _ hc #[.int (g i j),H,I.tok _,#[_,O],q]
def xA{g:Int->Int->Int}
 (rule:∀(i j:Int)(t u:Tok)(s:Shared)(Q:Value->Shared->Prop)(E:Value->Shared->Prop),Q (.int (g i j) s.toks) { s with toks:=s.toks+1 }->wpAny (model X.prog X.w) X.A (f (.int i t) (.int j u)) Q E s):
 ju X f (zG λi j=>.int (g i j)):=by
 intro a_ s U H x y v u Q I W N h;let(i,j,rfl,rfl,q):=h;let(t,rfl):=W;let(t',rfl):=N;show rule i j t t' s _ _ #[.int (g i j),H,I.tok _,#[_,O],q]
def xB{g:Int->Int->Bool}
 (rule:∀(i j:Int)(t u:Tok)(s:Shared)(Q:Value->Shared->Prop)(E:Value->Shared->Prop),Q (.bool (g i j)) s->wpAny (model X.prog X.w) X.A (f (.int i t) (.int j u)) Q E s):
 ju X f (zG λi j=>.bl (g i j)):=by
 intro a_ s U H x y v u Q I D z h;let(i,j,rfl,rfl,q):=h;let(t,rfl):=D;let(F,rfl):=z;show rule i j t F s _ _ #[.bl (g i j),H,I,O,q]
def xC(i j:Int):Prop:=0<j/\j<1073741824
def xD(i j:Int):Prop:=0<=j/\j<=1000000/\i.natAbs<2 ^ 64
def RG(i j:Int):Prop:=((Neg.neg (2 ^ 64))<i/\i<2 ^ 64)\/((Neg.neg (2 ^ 64))<j/\j<2 ^ 64)
def RG.ok(h:RG i j):IntMulOk i j:=by
 obtain⟨h1,h2⟩|⟨h1,h2⟩:=h
 . show .of_left (intBits_le_64 h1 h2)
 . show .of_right (intBits_le_64 h1 h2)
def H_:ju X (binaryOp .Add) (zG λi j=>.int (i+j)):=xA λ_ _ _ _ _ _ _ q=>add_int q
def T4:ju X (binaryOp .Sub) (zG λi j=>.int (i-j)):=xA λ_ _ _ _ _ _ _ q=>sub_int q
def nP:ju X (binaryOp .Mult) (rI RG λi j=>.int (i*j)):=YQ λ_ _ _ _ _ _ _ z q=>mul_int q z.ok
def dM:ju X (binaryOp .FloorDiv) (rI xC λi j=>.int (i/j)):=YQ λi j _ _ _ _ _ z q=>by let h1:=z.1;let h2:=z.2;show floordiv_int () ∅ (Zl (PyProof.noPylong_small ()))
def cg:ju X (binaryOp .Mod) (rI (λ_ j=>0<j) λi j=>.int (i%j)):=YQ λi j _ _ _ _ _ z q=>by let h1:=z;show mod_int' () ∅
def Ic:ju X (binaryOp .Pow) (rI xD λi j=>.int (i ^ j.toNat)):=YQ λ_ _ _ _ _ _ _ z q=>pow_int_small z.1 z.2.1 z.2.2 q
def Iq{g:Int->Int}
 (rule:∀(i:Int)(t:Tok)(s:Shared)(Q:Value->Shared->Prop)(E:Value->Shared->Prop),Q (.int (g i) s.toks) { s with toks:=s.toks+1 }->wpAny (model X.prog X.w) X.A (f (.int i t)) Q E s):
 sA X f (rU λi=>.int (g i)):=by
 intro a_ s U H x v Q I F h;let(i,rfl,q):=h;let(t,rfl):=F;show rule i t s _ _ #[.int (g i),H,I.tok _,#[_,O],q]
def Ix:sA X (unaryOp .USub) (rU λi=>.int ((Neg.neg i))):=Iq λ_ _ _ _ _ q=>neg_int q
end
noncomputable def scal:V->V->Bool
 |.non,.non=>G |.non,.int _=>G |.int _,.non=>G |.non,.bl _=>G |.bl _,.non=>G |.non,.str _=>G |.str _,.non=>G
 |.int _,.int _=>G |.bl _,.bl _=>G |.str _,.str _=>G |.byt _,.byt _=>G
 |.int _,.str _=>G |.str _,.int _=>G |.bl _,.str _=>G |.str _,.bl _=>G
 |_,_=>M
section
variable {X:Cx}{a b c:Expr}{ta tb tc:TE}{pos:Pos}
def T5{U:St}(I:c_ X a_ U H s)(q:Q (.bl k) H)(e:k=k'):EP X a_ U Q (.bool k') s:=by subst e;show#[.bl k,H,I,O,q]
def YS:ju X (compareOp .Lt) (zG λi j=>.bl (decide (i<j))):=xB λ_ _ _ _ _ _ _ q=>lt_int q
def pL:ju X (compareOp .Gt) (zG λi j=>.bl (decide (j<i))):=xB λ_ _ _ _ _ _ _ q=>gt_int q
def T6:ju X (compareOp .In) (λx y H Q=>∃i j,x=.str i/\y=.str j/\Q (.bl (not (Builtin.Str.occurrences j i 0 (-j) 1).isEmpty)) H):=by intro a_ s U H x y v u Q I D z h;let(i,j,rfl,rfl,q):=h;let(t,rfl):=D;let(F,rfl):=z;show in_str (T5 I q O)
def T7:ju X (compareOp .Is) (λx y H Q=>y=.non/\Q (.bl (decide (x=.non))) H):=by
 intro a_ s U H x y v u Q I i j h;let(rfl,q):=h;cases j;show is_none_gen (T5 I q ?_);cases x<;>first
  |(cases i;rfl)
  |(let(t,rfl):=i;rfl)
def ju.or(h:ju X f r)(h':ju X f r'):ju X f (λx y H Q=>r x y H Q\/r' x y H Q):=by
 intro a_ s U H x y v u Q I j i q;obtain q|q:=q
 . show h a_ s U H x y v u Q I j i q
 . show h' a_ s U H x y v u Q I j i q
def bA(b:Expr)(h:op≠.In:=by decide)(h2:op≠.NotIn:=by decide):behindInMarks op b=M:=by
 have j:(op==CmpOp.In)=M:=by cases op<;>first |rfl |show absurd O h
 have i:(op==CmpOp.NotIn)=M:=by cases op<;>first |rfl |show absurd O h2
 cases b<;>simp[behindInMarks,j,i]
def ZL(N:ju X (compareOp op) r)(i:PE X a ta)(W:PE X b tb)(hm:behindInMarks op b=M):PE X (.Compare a [op] [b] pos) (T3 r ta tb):=by intro a_ s U H Q I h;show wpAny_Compare1 (Wm i W I h λv u D x y H2 j F z q=>N a_ D U H2 x y v u Q j F z q) hm
def YT(t:TE):TT:=λU H Q=>t U H λx H'=>∃k,x=.bl k/\Q k H'
def ZM(q:ju X (compareOp op) r)(i:PE X a ta)(D:PE X b tb)(N:behindInMarks op b=M):PT X (.Compare a [op] [b] pos) (YT (T3 r ta tb)):=by
 intro a_ s U H Q I h;show wpAny_isTrue_Compare1 (dg (i a_ s U H _ I h) λv j ⟨x,H1,I1,r1,q1⟩=>dg (D a_ j U H1 _ I1 q1) λu F ⟨y,H2,I2,r2,q2⟩=>
  dg (q a_ F U H2 x y v u _ I2 r1 r2 q2) λc W ⟨z,H3,I3,r3,k,e,q3⟩=>?_) N
 subst e;cases r3;show wpAny_truthy_bool #[H3,I3,q3]
def Wn(K:FG)(x:V)(H:Hp)(k:Bool):Prop:=
 match x with
 |.non=>k=M
 |.bl b=>k=b
 |.int i=>k=(i != 0)
 |.str y=>-y<=sizeLine/\k=((-y:Int) != 0)
 |.byt y=> ~~~y<=sizeLine/\k=((~~~y:Int) != 0)
 |.ref p=>(∃xs,bY K H p xs/\k=not xs.isEmpty)\/(∃xs,cW K H p xs/\k=not xs.isEmpty)\/∃d3,H p=!(.dK d3)/\k=not d3.isEmpty
 |_=>False
def RJ(r:KV d3 vs):(not vs.isEmpty)=not d3.isEmpty:=by cases r<;>rfl
def Ep(r:db xs eJ):(not eJ.toArray.isEmpty)=not xs.isEmpty:=by cases r<;>simp
def wy:(sizeLine:Nat)<2 ^ 63:=by  decide
def Iy:HI X (λx H Q=>∃k,Wn X.K x H k/\Q k H):=by
 intro a_ s U H x v Q I D h;let(k,e,q):=h;let hs:=sizeLine_eq;cases x with
 |non=>
  cases D;let j:=e;subst j;show truthy_none #[H,I,q]
 |bl b=>
  cases D;let j:=e;subst j;show wpAny_truthy_bool #[H,I,q]
 |int i=>
  let(t,rfl):=D;let j:=e;subst j;show PySem.P.truthy_int #[H,I,q]
 |str y=>
  let(t,rfl):=D;obtain⟨hy,j⟩:-y<=sizeLine/\k=((-y:Int) != 0):=e;subst j;show PySem.P.truthy_str () #[H,I.tok _,q]
 |byt y=>
  let(t,rfl):=D;obtain⟨hy,j⟩: ~~~y<=sizeLine/\k=((~~~y:Int) != 0):=e;subst j;show W.truthy_bytes () #[H,I.tok _,q]
 |ref p=>
  cases D;let j:=e;obtain⟨xs,N,j⟩|⟨xs,N,j⟩|⟨F,N,j⟩:=j
  . subst j;let(eJ,r,pl,hz):=I.list N;let z:=-r;show wpAny_truthy_list pl.isList ∅ #[H,I.tok _,by rw[Ep r];show q]
  . subst j;let(eJ,r,pl,hz):=I.tuple N;let z:=-r;show truthy_tuple pl ∅ #[H,I.tok _,by rw[Ep r];show q]
  . subst j;obtain⟨hz,hS,vs,r,m⟩:-F<=sizeLine/\(p==sysModules)=M/\∃vs,KV F vs/\s.heap.DictOf (fW X.prog X.w) p vs:=I.hok p _ N;let z:=Paired.length r;show wpAny_truthy_dict hS m () #[H,I.tok _,by rw[RJ r];show q]
 |_=>show(e).elim
def Wo(j:PE X a ta)(he:∀i,isTrue a X.env i=(do let v <-i;standAt a.pos;holding [v] (truthy v))):
 PT X a (λU H Q=>ta U H λx H'=>∃k,Wn X.K x H' k/\Q k H'):=by
 intro a_ s U H Q I h;show isTrue_plain (dg (j a_ s U H _ I h) λv q ⟨x,H1,I1,r1,q1⟩=>Iy a_ q U H1 x v Q I1 r1 q1) (he _)
def RK:ju X (binaryOp .Add) (λx y H Q=>∃i j,x=.str i/\y=.str j/\-i+-j<=sizeLine/\Q (.str (i++j)) H):=by intro a_ s U H x y v u Q I F z h;let(i,j,rfl,rfl,D,q):=h;let(t,rfl):=F;let(N,rfl):=z;show add_str (λN W=>#[.str (i++j),H,I.tok _,#[_,O],q]) D
def gg(r:db [x] us):∃u,us=[u]/\dE x u:=by
 cases r with
 |cons j i=>cases i;grind
def uI:lO X (.type "str") (λxs H Q=>∃i,xs=[.int i]/\i.natAbs.log2<1920/\Q (.str (toString i)) H):=by intro a_ s U H xs z Q I r h;let(i,rfl,j,q):=h;let(u,rfl,t,rfl):=gg r;show PySem.P.str_of_int j #[.str _,H,I.tok _,#[_,O],q]
def Wq(K:FG)(x:V)(H:Hp)(n:Nat):Prop:=
 match x with
 |.str y=>-y<=sizeLine/\n=-y
 |.byt y=> ~~~y<=sizeLine/\n= ~~~y
 |.ref p=>(∃xs,bY K H p xs/\n=-xs)\/∃xs,cW K H p xs/\n=-xs
 |_=>False
def uJ:lO X (.builtin "len") (λxs H Q=>∃x n,xs=[x]/\Wq X.K x H n/\Q (.int n) H):=by
 intro a_ s U H xs us Q I r h;let(x,n,rfl,e,q):=h;let(u,rfl,F):=gg r;let hs:=sizeLine_eq;cases x with
 |str y=>
  let(t,rfl):=F;obtain⟨hy,j⟩:-y<=sizeLine/\n=-y:=e;subst j;show len_str () #[.int _,H,I.tok _,#[_,O],q]
 |byt y=>
  let(t,rfl):=F;obtain⟨hy,j⟩: ~~~y<=sizeLine/\n= ~~~y:=e;subst j;show W.len_bytes () #[.int _,H,I.tok _,#[_,O],q]
 |ref p=>
  cases F;let j:=e;obtain⟨xs,z,j⟩|⟨xs,z,j⟩:=j
  . subst j;let(D,N,pl,hz):=I.list z;let i:=-N;show Calls.call_len_list pl.isList ∅ #[.int (-xs),H,I.tok _,#[_,by simp only[gX];rw[i]],q]
  . subst j;let(D,N,pl,hz):=I.tuple z;let i:=-N;show len_tuple pl ∅ #[.int (-xs),H,I.tok _,#[_,by simp only[gX];rw[i]],q]
 |_=>show(e).elim
end
structure Dj(h:Heap)(x dx C:Addr)(mA:Str->Option Value):Prop where
 obj:h.get? x=!(W.instObj C dx)
 ns:h.Ns1 dx mA
 ne:dx≠x
def T8{h:Heap}(n:h.Ns1 dx mA):∃j,h.get? dx=!j/\∀name,W.lookIn name j=!(mA name):=by
 let(o,es,ep,F,D,hk,_,N):=n;show#[o,F,λname=>?_];let e:=N name;unfold nsFind findBy at e;rw[<-Array.find?_toList]at e;unfold W.lookIn;rw[D];dsimp only;split
 . grind
 . rename_i q;rw[q]at e;have a:es.toList.any (·.refKey)=M:=by rw[List.any_eq_false];intro y hy;let(z,t,i):=hk y ∅;simp[DictEntry.refKey,i]
   have Q:¬ es.toList.any (·.refKey)=G:=by rw[a];show ot
   grind
def Dj.look(I:Dj h x dx C mA):∃i,W.InstAt h x (W.instObj C dx) C (!i)/\∀name,W.lookIn name i=!(mA name):=
 let #[i,ho,hl]:=T8 I.ns
 #[i,#[I.obj,O,O,ho],hl]
section
variable {prog:Program}{w:World}{A:Around}{E:Value->Shared->Prop}{s:Shared}{K:FG}{x dx C f:Addr}{mA:Str->Option Value}{name:Str}{v:Value}
def ZP(X:K.In s.heap)(I:Dj s.heap x dx C mA)(z:W.plainGet K C name=G)(F:W.hasDictIn K C=G)
 (q:W.findIn K (YV C) name=!J) (N:mA name=!v) (i:W.handedIn v=G) (h:Q v { s with toks:=s.toks+1 }):
 wpAny (model prog w) A (getAttr (YV x) name expr) Q E s:=by
 let(od,D,hl):=I.look;show W.get_value X D (W.plainGet_of z).1 (W.findObj_own F q O ∅) i h
def Wr(X:K.In s.heap)(I:Dj s.heap x dx C mA)(i:W.plainGet K C name=G)
 (j:W.findIn K (YV C) name=!(!(YV f))) (N:W.isFn K (YV f)=G) (q:mA name=J) (h:Q (YV f,[YV x]) s):
 wpAny (model prog w) A (getMethod (YV x) name pl) Q E s:=by
 let(F,z,D):=I.look;show W.method_fn X z (W.plainGet_of i).1 (W.plainGet_of i).2 j (beq_iff_eq.mp N) (by show (W.lookIn name F).map (·.isSome)=!M;rw[D,q];rfl) h
def ZQ(X:K.In s.heap)(I:Dj s.heap x dx C mA)
 (hs:W.findIn K (YV C) "__setattr__"=!(!(.builtin "object.__setattr__"))) (hp:W.plainOver K C=G) (ht:W.takerIn K C name=!J) (hh:W.hasDictIn K C=G)
 (hw:PySem.Within mA ns) (ic:-ns<=sizeLine)
 (h:∀h',Dj h' x dx C (λy=>if y=name then !v else mA y)->Heap.SameBut dx s.heap h'->Q ⟨⟩ { s with heap:=h',toks:=s.toks+2 }):
 wpAny (model prog w) A (setAttr (YV x) name v) Q E s:=by
 let(od,ZU,hl):=I.look;show W.set_plain X ZU hs (W.osa_open X ZU hp ht λb=>?_);let(cd,hc,q):=W.any_some hh;let hx:=I.obj;show da (d0 (da (da (wpAny_loadPart hx (da (W.Looks.here (W.looks_clsIn X hc) ?_))))));rw[q];show d0 (da (d0 (da ?_)));show wpAny_nsSet1 I.ns λh' i j=>?_;let(oD,esD,epD,D,z,hcD):=i.count (PySem.Within.cons name v hw);show da (wpAny_lookBehind D (by rw[z];show pastItsLine_dict ∅) ?_);show d0 (h _ #[(j.2 _ (Ne.symm I.ne)).trans I.obj,i,I.ne] j)
def Ws(X:K.In s.heap)(z:W.makesIn K C=G)
 (hi:W.findIn K (YV C) "__init__"=!(!(YV f))) (q:W.typeIn K (YV f)=!(.type "function"))
 (h:codeAny (model prog w) (A.under (.builtin "type.__call__" #[YV C::vs,kw])) (.call (YV f) #[YV (~~~s.heap.objs+1)::vs,kw]) (W.InitBack (~~~s.heap.objs+1) ZN)
   { s with heap:=(s.heap.push W.emptyDict).push (W.instObj C s.heap.objs.size) }):
 codeAny (model prog w) A (.call (YV C) #[vs,kw]) ZN s:=by
 show W.make_core (W.makes_of X z) (W.looks_findIn X hi) (λi=>W.bind_fn X i q) (Zl O) h
end
noncomputable def jz (f:Str) (v:V):List (Str×V)->List (Str×V)
 |[]=>[(f,v)]
 |(g,x)::r=>if g=f then (g,v)::r else (g,x)::jz f v r
theorem CJ(f g:Str)(v:V):∀fs:List (Str×V),(jz f v fs).lookup g=if g=f then !v else fs.lookup g
 |[]=>by
  show List.lookup g [(f,v)]=_;by_cases h:g=f
  . grind
  . grind
 |(k,x)::r=>by
  let i:=CJ f g v r;rw[show jz f v ((k,x)::r)=(if k=f then (k,v)::r else (k,x)::jz f v r) from O];by_cases hk:k=f
  . rw[dA hk];by_cases h:g=k
    . grind
    . grind
  . rw[dQ hk];by_cases h:g=k
    . grind
    . grind
theorem zH(f:Str)(v:V):∀fs:List (Str×V),f∈(jz f v fs).map (·.1)/\∀g,g∈fs.map (·.1)->g∈(jz f v fs).map (·.1)
 |[]=>#[by simp[jz],λg h=>by simp at h]
 |(k,x)::r=>by
  let(i,j):=zH f v r;rw[show jz f v ((k,x)::r)=(if k=f then (k,v)::r else (k,x)::jz f v r) from O];by_cases hk:k=f
  . grind
  . rw[dQ hk];show#[?_,λg h=>?_]
    . grind
    . obtain e|e:=d5.mp h
      . grind
      . grind
theorem CK(f:Str)(v:V):∀fs:List (Str×V),-(jz f v fs)<=-fs+1
 |[]=>by simp[jz]
 |(k,x)::r=>by
  let i:=CK f v r;rw[show jz f v ((k,x)::r)=(if k=f then (k,v)::r else (k,x)::jz f v r) from O];by_cases hk:k=f
  . grind
  . grind
def nH.some_of(r:nH (!v) o):∃u,o=!u/\dE v u:=by
 cases o with
 |none=>show(r).elim
 |some u=>show#[u,O,r]
def nH.none_of(r:nH J o):o=J:=by
 cases o with
 |none=>rfl
 |some u=>show(r).elim
def T9(r:dE v u):W.handedIn u=G:=by
 cases v with
 |non=>cases (r);rfl
 |bl b=>cases (r);rfl
 |int i=>let(t,e):=(r);cases e;rfl
 |str x=>let(t,e):=(r);cases e;rfl
 |byt b=>let(t,e):=(r);cases e;rfl
 |flt b=>let(t,e):=(r);cases e;rfl
 |ref a=>cases (r);rfl
 |ty n=>cases (r);rfl
section
variable {P:Program}{w:World}{H H':Hp}{h h':Heap}{a C dx:Addr}{fs g_:List (Str×V)}
def GJ(i:jm P w H h)(e:H a=!(.ins C dx fs)):∃mA,Dj h a dx C mA/\(∀f,nH (fs.lookup f) (mA f))/\PySem.Within mA (fs.map (·.1))/\-fs<=1000/\H dx=!(.own a):=by let(d,z,ne,j,mA,n,r,q):=(i a _ e);show#[mA,#[j,n,ne],r,q,z,d]
end
structure zJ(K:FG)(C:Addr):Prop where
 pg:W.plainGet K C Str.empty=true
 hd:W.hasDictIn K C=true
 po:W.plainOver K C=true
 sa:W.findIn K (.ref C) "__setattr__"=!(!(.builtin "object.__setattr__"))
def zJ.get{K:FG}(c:zJ K C)(f:Str):W.plainGet K C f=G:=c.pg
def kW(K:FG)(C:Addr)(f:Str):Prop:=W.findIn K (YV C) f=!J
def kW.taker{K:FG}(n:kW K C f):W.takerIn K C f=!J:=by unfold W.takerIn;rw[show W.findIn K (YV C) f=some J from n];rfl
structure kB(K:FG)(C:Addr)(m:Str)(f:Addr):Prop where
 at_:W.findIn K (.ref C) m=!(!(.ref f))
 fn:W.isFn K (.ref f)=true
 kp:W.keepIn K (.ref f)=true
section
variable {X:Cx}{a_:List (Addr×Obj)}{U:St}{H:Hp}{s:Shared}{a C dx:Addr}{fs:List (Str×V)}{f:Str}{v:V}{A:Around}{E:Value->Shared->Prop}
def RM(I:c_ X a_ U H s)(e:H a=!(.ins C dx fs))(c:zJ X.K C)(n:kW X.K C f)(l:fs.lookup f=!v)
 (h:∀u s',c_ X a_ U H s'->dE v u->Q u s'):wpAny (model X.prog X.w) A (getAttr (YV a) f b) Q E s:=by
 let(mA,j,r,_):=GJ I.hok e;let(u,q,i):=nH.some_of (by rw[<-l];show r f);show ZP I.kIn j (c.get f) c.hd n q (T9 i) (h u _ (I.tok _) i)
def xV(I:c_ X a_ U H s)(e:H a=!(.ins C dx fs))(c:zJ X.K C)(k:kB X.K C m g)(l:fs.lookup m=J)
 (h:Q (YV g,[YV a]) s):wpAny (model X.prog X.w) A (getMethod (YV a) m pl) Q E s:=by
 let(mA,j,r,_):=GJ I.hok e;let i:=nH.none_of (by rw[<-l];show r m);show Wr I.kIn j (c.get m) k.at_ k.fn i h
def RN(I:c_ X a_ U H s)(e:H a=!(.ins C dx fs))(c:zJ X.K C)(n:kW X.K C f)(hl:-fs<1000)(W:dE y u)
 (h:∀s',c_ X a_ U (dW H a (.ins C dx (jz f y fs))) s'->Q ⟨⟩ s'):wpAny (model X.prog X.w) A (setAttr (YV a) f u) Q E s:=by
 let(mA,i,r,D,_,F):=GJ I.hok e;have hz:-(fs.map (·.1))<=sizeLine:=by rw[eI,sizeLine_eq];lia
 show ZQ I.kIn i c.sa c.po n.taker c.hd D hz λh' j sb=>h _ ?_;have hd:∃o,h'.get? dx=!o:=let #[o,_,_,e',_]:=j.ns;#[o,e'];show I.write (by rw[e];show True.intro) (YY F) (λb q hb z=>(sb.2 b hb).trans z) hd ?_;show#[by rw[cV i.ne];show F,?_,i.ne,j.obj,_,j.ns,λg=>?_,λg N=>?_]
 . have:=CK f y fs;lia
 . rw[CJ];by_cases q:g=f
   . rw[dA q,dA q];show W
   . grind
 . by_cases q:g=f
   . rw[q];show(zH f y fs).1
   . show(zH f y fs).2 g (D g λz=>N ?_);grind
def c_.made(I:c_ X a_ U H s):c_ X a_ U (dW (dW H s.heap.objs.size (.own (~~~s.heap.objs+1))) (~~~s.heap.objs+1) (.ins C s.heap.objs.size []))
 { s with heap:=(s.heap.push W.emptyDict).push (W.instObj C s.heap.objs.size) }:=by
 have e1:(s.heap.push W.emptyDict).get? s.heap.objs.size=!W.emptyDict:=ge s.heap rfl;have e2:((s.heap.push W.emptyDict).push (W.instObj C s.heap.objs.size)).get? (~~~s.heap.objs+1)=!(W.instObj C s.heap.objs.size):=by
  have:=ge (s.heap.push W.emptyDict) (o:=W.instObj C s.heap.objs.size) rfl
  rwa [mw]at this
 let I1:=I.laid (o:=.own (~~~s.heap.objs+1)) (t':=s.toks) (λb u q=>fz _ q) () #[_,e1];show I1.laid (λb u q=>fz _ q) (Nat.le_of_eq (mw _ _)) ?_;have ne: ~~~s.heap.objs≠s.heap.objs.size+1:=ga ();show#[by rw[cV ne,bZ],gy _,ne,e2,λ_=>none,(Heap.Ns1.of_empty #[W.emptyDict,#[],_,e1,rfl,(λe he=>absurd he (by simp)),λ_=>rfl]).at λo q=>fz _ q,λ_=>True.intro,λy hy=>absurd rfl hy]
def ZR(j:attributeBase e f env (eval e env)=eval e env)
 (h:wpAny (model prog w) A (eval e env) (λo i=>wpAny (model prog w) A (getAttr o f G) Q E i) E s):wpAny (model prog w) A (eval (.Attribute e f pos) env) Q E s:=
 Attribute_any_ h (by rw[arm_eval_Attribute,j])
end
def IA(K:FG)(ta:TE)(f:Str):TE:=λU H Q=>ta U H λx H1=>∃a C dx fs v,x=.ref a/\H1 a=!(.ins C dx fs)/\zJ K C/\kW K C f/\fs.lookup f=!v/\Q v H1
def IB(K:FG)(ta tv:TE)(f:Str):TS:=λD U H=>tv U H λy H1=>ta U H1 λx H2=>∃a C dx fs,x=.ref a/\H2 a=!(.ins C dx fs)/\zJ K C/\kW K C f/\-fs<1000/\
 D.nx U (dW H2 a (.ins C dx (jz f y fs)))
section
variable {X:Cx}{o e value:Expr}{f:Str}{pos pos' tpos:Pos}{ta tv:TE}
def IC(he:PE X e ta)(j:attributeBase e f X.env (eval e X.env)=eval e X.env):PE X (.Attribute e f pos) (IA X.K ta f):=by intro a_ s U H Q I h;show ZR j (dg (he a_ s U H _ I h) λu D ID=>?_);let(x,H1,I1,rx,a,C,dx,fs,v,ex,ea,c,n,l,q):=ID;subst ex;obtain rfl:u=Value.ref a:=rx;show RM I1 ea c n l λF N i z=>#[v,H1,i,z,q]
def IG(i:PE X o ta)(F:PE X value tv)(hs:swapsWith value (!(.Attribute o f pos')) pos.line X.env=pure M):PS X (.Assign [.Attribute o f pos'] value pos) (IB X.K ta tv f):=by intro a_ s U H D I h;show plainObj_wpAny_Assign_Attribute (dg (F a_ s U H _ I h) λu z IH=>?_) hs;let(y,H1,I1,ry,q):=IH;show dg (i a_ z U H1 _ I1 q) λN W II=>?_;let(x,H2,I2,rx,a,C,dx,fs,ex,ea,c,n,l,q2):=II;subst ex;obtain rfl:N=Value.ref a:=rx;show RN I2 ea c n l ry λQ j=>#[U,_,j,q2]
def Wt:V->V->Hp->VK->Prop:=λx y H Q=>∃i j,x=.int i/\y=.int j/\Q (.int (i+j)) H
end
structure gn(b:Bool)(k:Nat)(A:Around):Prop where
 hd:b=true->A.handled=none
 dp:A.depth+3*k+5<recursionLimit
 un:A.units+16*k+200<cLine
 gd:A.guards=![]
abbrev qM:=gn G
def gn.mono(r:gn b k A)(h:j<=k):gn b j A:=#[r.hd,by have:=r.dp;lia,by have:=r.un;lia,r.gd]
theorem gn.deeper(r:gn b (k+1) A)(env:Env):gn b k (A.deeper env):=
 #[r.hd,by have:=r.dp;show A.depth+1+3*k+5<_;lia,by have:=r.un;show A.units+3+16*k+200<_;lia,r.gd]
def RP:(A.under (.builtin "type.__call__" #[YV C::us,kw])).depth=A.depth+1:=by
 first |rfl |simp[Code.weight]
def RQ:(A.under (.builtin "type.__call__" #[YV C::us,kw])).units=A.units+1:=by
 first |rfl |simp[Code.cUnits]
def gn.make(r:gn b (k+1) A)(C:Addr)(i:List Value)(j:List (Str×Value)):gn b k (A.under (.builtin "type.__call__" #[YV C::i,j])):=
 #[r.hd,by have:=r.dp;rw[RP];lia,by have:=r.un;rw[RQ];lia,by first |show r.gd |(simpa [Around.under,Code.isGuard,guardIds] using r.gd)]
theorem gn.depth(r:gn b k A):A.depth<recursionLimit:=by have:=r.dp;lia
theorem gn.units(r:gn b k A):A.units+64<cLine:=by have:=r.un;lia
def KJ:TA:=λ_ H Q=>Q [] H
def J5(ta:TE)(tr:TA):TA:=λU H Q=>ta U H λx H1=>tr U H1 λxs H2=>Q (x::xs) H2
section
variable {X:Cx}{e:Expr}{es:List Expr}{te:TE}{t:TA}{pos:Pos}
def zK:PA X [] KJ:=λ_ _ _ _ H Q I h=>Calls.spliced_nil #[[],H,I,.nil,h]
def wz(i:PE X e te)(q:PA X es t)(hs:starEach (e::es) X.env=(M,eval e X.env)::starEach es X.env:=by rfl):PA X (e::es) (J5 te t):=by intro pos a_ s U H Q I h;rw[hs];show Calls.spliced_cons (dg (i a_ s U H _ I h) λu j ⟨x,H1,I1,r1,q1⟩=>?_);show dg (q pos a_ j U H1 _ I1 q1) λD z ⟨xs,H2,I2,r2,q2⟩=>#[x::xs,H2,I2,.cons r1 r2,q2]
def IJ(t:TA):TE:=λU H Q=>t U H λxs H1=>-xs<=sizeLine/\∀p,H1 p=J->Q (.ref p) (dW H1 p (.tup xs))
def IL(t:TA):TE:=λU H Q=>t U H λxs H1=>-xs<=sizeLine/\∀p,H1 p=J->Q (.ref p) (dW H1 p (.lst xs))
def IM{x1}(h:PA X es t):PE X (.Tuple es x1 pos) (IJ t):=by intro a_ s U H Q I F;show wpAny_Tuple_spliced (dg (h pos a_ s U H _ I F) λD i ⟨xs,H1,I1,r,z,q⟩=>#[by rw[<-(-r)];show z,?_]);let j:=I1.hok.fresh (eK _);show#[.ref i.heap.objs.size,dW H1 i.heap.objs.size (.tup xs),I1.laid (λb u e=>fz _ e) () ?_,O,q _ j];show#[z,D,r,#[_,ge _ O,O,_,O]]
def IN(h:PA X es t):PE X (.List es pos) (IL t):=by intro a_ s U H Q I F;show wpAny_List_spliced (dg (h pos a_ s U H _ I F) λD i ⟨xs,H1,I1,r,z,q⟩=>#[by rw[<-(-r)];show z,?_]);let j:=I1.hok.fresh (eK _);show#[.ref i.heap.objs.size,dW H1 i.heap.objs.size (.lst xs),I1.laid (λb u e=>fz _ e) () ?_,O,q _ j];show#[z,D,0,r,ge _ O]
end
abbrev Sp:=List V->Hp->VK->XK->Prop
abbrev yV:=List Env->Hp->Shared->XK->Value->Shared->Prop
structure Dk(P:Program)(w:World)(K:FG)(mg:Str->Option Value)(base:Heap)(A:Around)(outer:List Env)(s:Shared)(H:Hp):Prop where
 frames:A.frames=!outer
 mod:Mod K mg base
 bs:∀b o,base.get? b=!o->s.heap.get? b=!o/\H b=none
 bsz: ~~~base.objs<= ~~~s.heap.objs
 funs:s.heap.FunFrames base outer
 frf:∀b∈frs outer,H b=none
 hok:jm P w H s.heap
 bare:AllBare s.gens
def CE(outer:List Env)(P:Program)(w:World)(H:Hp)(s:Shared)(Q:VK)(u:Value)(s':Shared):Prop:=
 ∃v H',s'.os=s.os/\AllBare s'.gens/\Un (frs outer) [] H H' s.heap s'.heap/\jm P w H' s'.heap/\dE v u/\Q v H'
def CR(CX:yV)(outer:List Env)(P:Program)(w:World)(H:Hp)(s:Shared)(Q:VK)(E:XK)(r:Result)(s':Shared):Prop:=
 match r with
 |.ok (.ret u)=>CE outer P w H s Q u s'
 |.ok _=>False
 |.error e=>CX outer H s E e s'
structure t6(b:Bool)(P:Program)(w:World)(K:FG)(mg:Str->Option Value)(base:Heap)(CX:yV)(k:Nat)(f:Addr)(fd:FuncData)(ps:List Str)(sp:Sp):Prop where
 len:∀vs H Q E,sp vs H Q E->-vs=-ps
 run:∀(A:Around)(outer:List Env)(s:Shared)(H:Hp)(args:Args)(us:List Value)(vs:List V)(Q:VK)(E:XK),gn b k A->Dk P w K mg base A outer s H->BindsTo s fd args (ps.zip us)->db vs us->sp vs H Q E->
  codeAny (model P w) A (.call (.ref f) args) (CR CX outer P w H s Q E) s
abbrev oK:=t6 G
def t6.imp{K:FG}(F:t6 b P w K mg base CX k f fd ps sp)
 (h:∀vs H Q E,IP vs H Q E->sp vs H Q E):t6 b P w K mg base CX k f fd ps IP:=
 #[λvs H Q E q=>F.len vs H Q E ∅,λA i s H z N vs Q E W he hb D hs=>F.run A i s H z N vs Q E W he hb D ∅]
def Dk.make{K:FG}(e:Dk P w K mg base A outer s H)(C:Addr)(j:List Value)(i:List (Str×Value)):
 Dk P w K mg base (A.under (.builtin "type.__call__" #[YV C::j,i])) outer s H:=#[by first |show e.frames |(simpa [Around.under,Code.envs,Code.isFrame,pushEnvs] using e.frames),e.mod,e.bs,e.bsz,e.funs,e.frf,e.hok,e.bare]
section
variable {X:Cx}{a_:List (Addr×Obj)}{U:St}{H:Hp}{s s':Shared}
def c_.env0(I:c_ X a_ U H s):Dk X.prog X.w X.K X.mg X.base X.A X.stack s H:=
 #[I.ok.frames,I.ok.mod,I.bs,gL I.ok.bsz I.sz,I.stack,I.stkFree,I.hok,I.bare]
def c_.after(I:c_ X a_ U H s)(h:CE X.stack X.prog X.w H s Q u s'):EP X a_ U Q u s':=by let(v,H',F,i,un,D,r,q):=h;let(N,g,d,t,j):=s';obtain rfl:j=s.os:=F;show#[v,H',I.call un D i (λb z=>absurd z (by simp)),r,q]
end
def YW(sp:Sp)(ii:List V)(E:XK)(t:TA):TE:=λU H Q=>t U H λvs H1=>sp (vs++ii) H1 Q E
def RT(C:Addr)(m:Str)(sp:Sp)(ii:List V)(E:XK)(ta:TE)(t:TA):TE:=λU H Q=>ta U H λx H1=>∃a dx fs,x=.ref a/\H1 a=!(.ins C dx fs)/\fs.lookup m=J/\
 t U H1 λvs H2=>sp (x::(vs++ii)) H2 Q E
def YX(C:Addr)(sp:Sp)(ii:List V)(E:XK)(t:TA):TE:=λU H Q=>t U H λvs H1=>∀x dx,H1 x=J->H1 dx=J->dx≠x->
 sp (.ref x::(vs++ii)) (dW (dW H1 dx (.own x)) x (.ins C dx [])) (λv H2=>v=.non/\Q (.ref x) H2) E
def fA(K:FG)(fd:FuncData)(ps:List Str)(ds:List Value):Prop:=
 ∀(s:Shared)(us:List Value),K.In s.heap->-(us++ds)=-ps->BindsTo s fd #[us,[]] (ps.zip (us++ds))
def fA.all{K:FG}(h:∀i:List Value,-i=-ps->bindArgs fd #[i,[]]=pure (ps.zip i)):fA K fd ps []:=λs i _ j=>by rw[f_]at j ⊢;show .of_eq (h i j)
def zM(CX:yV)(X:Cx)(E:XK):Prop:=∀(a_:List (Addr×Obj))(U:St)(H:Hp)(s:Shared)(e:Value)(s':Shared),c_ X a_ U H s->CX X.stack H s E e s'->X.xe e s'
section
variable {X:Cx}{CX:yV}{k:Nat}{f C:Addr}{fd:FuncData}{ps:List Str}{sp:Sp}{ii:List V}{ds:List Value}{E:XK}{x m:Str}{p pos apos:Pos}{e o:Expr}{es:List Expr}{ta:TE}{t:TA}
def KN{U:St}(F:t6 b X.prog X.w X.K X.mg X.base CX k f fd ps sp)(hr:gn b k X.A)(W:fA X.K fd ps ds)(z:db ii ds)(D:∀H s e s',c_ X a_ U H s->CX X.stack H s E e s'->X.xe e s')
 (I:c_ X a_ U H s) (r:db vs us) (h:sp (vs++ii) H Q E):wpAny (model X.prog X.w) X.A (call (YV f) us) (EP X a_ U Q) X.xe s:=by
 let j:=r.append z;have N:-(us++ds)=-ps:=by rw[<-(-j)];show F.len _ _ _ _ h
 show wpAny_call (codeAny_mono (F.run X.A X.stack s H #[us,[]] (us++ds) (vs++ii) Q E hr I.env0 (W s us I.kIn N) j h) λr s' i=>?_);cases r with
 |error e=>show D H s e s' I i
 |ok fl=>
  cases fl with
  |ret u=>show I.after i
  |next=>show False.elim i
  |brk=>show False.elim i
  |cont=>show False.elim i
def ZS(F:t6 b X.prog X.w X.K X.mg X.base CX k f fd ps sp)(hr:gn b k X.A)(D:Gl X x)(hm:X.mg x=!(YV f))(hk:W.keepIn X.K (YV f)=G)(hb:fA X.K fd ps ds)(N:db ii ds)(hx:zM CX X E)
 (z:PA X (e::es) t) (j:(x==("__debug__" : Str))=M:=by decide) (he:starEach (e::es) X.env=(M,eval e X.env)::starEach es X.env:=by rfl) (i:(backTo pos (starEach es X.env)).any (·.1)=M:=by rfl):
 PE X (.Call (.Name x p) (e::es) [] pos) (YW sp ii E t):=by
 intro a_ s U H Q I h;show wpAny_Call_Name_kw (Pz I D hm ?_ j);show W.callWith_K I.ok.mod.kin hk (dg (z pos a_ s U H _ I h) λus s1 ⟨vs,H1,I1,r,q⟩=>#[I1.kIn,?_]) he i;show KN F hr hb N (hx _ _) I1 r q
def ZV{pl:Sem Bool}(he:PE X o ta)(c:zJ X.K C)(z:kB X.K C m f)(F:oK X.prog X.w X.K X.mg X.base CX k f fd ps sp)(hr:qM k X.A)(hb:fA X.K fd ps ds)(N:db ii ds)(hx:zM CX X E)(D:PA X (e::es) t)
 (i:starEach (e::es) X.env=(M,eval e X.env)::starEach es X.env:=by rfl) (j:(backTo pos (starEach es X.env)).any (·.1)=M:=by rfl)
 (ht:eval (.Call (.Attribute o m apos) (e::es) [] pos) X.env=(do
   let ov <-eval o X.env
   standAt apos.atName
   let (f,first) <-holding [ov] (getMethod ov m pl)
   callWith pos f first (backTo pos (starEach (e::es) X.env)) (backToKw pos (keywordEach [] X.env))):=by rfl):
 PE X (.Call (.Attribute o m apos) (e::es) [] pos) (RT C m sp ii E ta t):=by
 intro a_ s U H Q I h
 show xl (dg (he a_ s U H _ I h) λu s1 IQ=>?_) ht;let(x,H1,I1,rx,a,dx,fs,ex,ea,l,q):=IQ
 subst ex
 obtain rfl:u=Value.ref a:=rx
 show xV I1 ea c z l ?_
 show W.callWith_K I.ok.mod.kin z.kp (dg (D pos a_ s1 U H1 _ I1 q) λus s2 IR=>?_) i j;let(vs,H2,I2,r,q2):=IR;show #[I2.kIn,?_]
 show KN (vs:=.ref a::vs) F hr hb N (hx _ _) I2 (.cons O r) q2
def Wu(he:PE X o ta)(c:zJ X.K C)(i:kB X.K C m f)(F:oK X.prog X.w X.K X.mg X.base CX k f fd ps sp)(N:qM k X.A)(D:fA X.K fd ps ds)(j:db ii ds)(z:zM CX X E)
 (ht:eval (.Call (.Attribute o m apos) [] [] pos) X.env=(do
   let ov <-eval o X.env
   standAt apos.atName
   let (f,first) <-holding [ov] (getMethod ov m pl)
   callWith pos f first (backTo pos (starEach [] X.env)) (backToKw pos (keywordEach [] X.env))):=by rfl):
 PE X (.Call (.Attribute o m apos) [] [] pos) (RT C m sp ii E ta KJ):=by
 intro a_ s U H Q I h
 show xl (dg (he a_ s U H _ I h) λu s1 IS=>?_) ht;let(x,H1,I1,rx,a,dx,fs,ex,ea,l,q):=IS
 subst ex
 obtain rfl:u=Value.ref a:=rx
 show xV I1 ea c i l ?_
 show W.callWith_K0 I1.kIn i.kp (KN (vs:=[.ref a]) F N D j (z _ _) I1 (.cons O .nil) q)
structure Mk(K:FG)(C f:Addr):Prop where
 makes:W.makesIn K C=true
 init:W.findIn K (.ref C) "__init__"=!(!(.ref f))
 fn:W.isFn K (.ref f)=true
 kp:W.keepIn K (.ref C)=true
def Wv{U:St}(q:Mk X.K C f)(F:oK X.prog X.w X.K X.mg X.base CX k f fd ps sp)(hr:qM (k+1) X.A)(hb:fA X.K fd ps ds)(hd:db ii ds)
 (hx:∀H s e s',c_ X a_ U H s->CX X.stack H s E e s'->X.xe e s') (I:c_ X a_ U H s) (r:db vs us)
 (h:∀x dx,H x=J->H dx=J->dx≠x->sp (.ref x::(vs++ii)) (dW (dW H dx (.own x)) x (.ins C dx [])) (λv H2=>v=.non/\Q (.ref x) H2) E):
 wpAny (model X.prog X.w) X.A (call (YV C) us) (EP X a_ U Q) X.xe s:=by
 let N:=h (~~~s.heap.objs+1) s.heap.objs.size (I.hok.fresh ()) (I.hok.fresh ()) ∅;let j:=c_.made (C:=C) I;have z:db (V.ref (~~~s.heap.objs+1)::(vs++ii)) (Value.ref (~~~s.heap.objs+1)::(us++ds)):=.cons O (r.append hd);have hl:-(Value.ref ()::us++ds)=-ps:=by let e:=-z;rw[F.len _ _ _ _ N]at e;show e.symm
 show wpAny_call (Ws I.kIn q.makes q.init (beq_iff_eq.mp q.fn) (codeAny_mono (F.run _ X.stack _ _ #[Value.ref (~~~s.heap.objs+1)::us,[]] (Value.ref (~~~s.heap.objs+1)::(us++ds)) _ _ E (hr.make C us [])
  (j.env0.make C us []) (hb _ (Value.ref (~~~s.heap.objs+1)::us) j.kIn hl) z N) λr s' i=>?_))
 cases r with
 |error e=>show hx _ _ e s' j i
 |ok fl=>
  cases fl with
  |ret u=>
   let(v,H',W,rv,ev,q3):=j.after i;subst ev;show#[rv,#[V.ref (~~~s.heap.objs+1),H',W,O,q3]]
  |next=>show False.elim i
  |brk=>show False.elim i
  |cont=>show False.elim i
def ZW(z:Mk X.K C f)(F:oK X.prog X.w X.K X.mg X.base CX k f fd ps sp)(hr:qM (k+1) X.A)(N:Gl X x)(hm:X.mg x=!(YV C))(hb:fA X.K fd ps ds)(hd:db ii ds)(hx:zM CX X E)
 (D:PA X (e::es) t) (j:(x==("__debug__" : Str))=M:=by decide) (he:starEach (e::es) X.env=(M,eval e X.env)::starEach es X.env:=by rfl) (i:(backTo pos (starEach es X.env)).any (·.1)=M:=by rfl):
 PE X (.Call (.Name x p) (e::es) [] pos) (YX C sp ii E t):=by
 intro a_ s U H Q I h;show wpAny_Call_Name_kw (Pz I N hm ?_ j);show W.callWith_K I.ok.mod.kin z.kp (dg (D pos a_ s U H _ I h) λus s1 IT=>?_) he i;let(vs,H1,I1,r,q):=IT;show #[I1.kIn,?_];show Wv z F hr hb hd (hx _ _) I1 r q
end
structure bz(N P:List Str)(sc:Scope):Prop where
 kind:sc.kind=.function
 co:sc.isCoroutine=false
 gen:sc.isGenerator=false
 nd:N.Nodup
 pre:N.take (-P)=P
 par:∀x∈P,sc.names.lookup x=!.local\/sc.names.lookup x=!.cell
 nofree:∀y∈sc.names,y.2≠.free
theorem HH{i:Str->Option NameKind}:∀{binds:List (Str×Value)}{m:Str->Option Value},(∀v,(x,v)∉binds)->bindL i binds m x=m x
 |[],_=>λ_=>rfl
 |(n,v)::r,m=>λh=>by
  unfold bindL;rw[HH λw j=>h w (e_ _ j)];split
  . have:x≠n:=by rintro rfl;show h v ed
    grind
  . rfl
theorem HJ{i:Str->Option NameKind}:∀{binds:List (Str×Value)}{m:Str->Option Value},(∀v,(x,v)∉binds)->bindC i binds m x=m x
 |[],_=>λ_=>rfl
 |(n,v)::r,m=>λh=>by
  unfold bindC;rw[HJ λw j=>h w (e_ _ j)];split
  . rfl
  . have:x≠n:=by rintro rfl;show h v ed
    grind
theorem HN{j:Str->Option NameKind}:∀{P:List Str}{vs:List Value}{i:Nat}{m:Str->Option Value},P.Nodup->P[i]?=!x->vs[i]?=!v->j x=!.local->
 bindL j (P.zip vs) m x=!v
 |[],_,_,_=>λ_ h _ _=>by grind
 |_::_,[],_,_=>λ_ _ h _=>by grind
 |p::P,w::vs,0,m=>λq h1 h2 hk=>by simp at h1 h2;subst h1;subst h2;show bindL j ((p,w)::P.zip vs) m p=_;unfold bindL;rw[HH λv z=>(ip.mp q).1 (kz z).1,dA hk];simp
 |p::P,w::vs,i+1,m=>λq h1 h2 hk=>by unfold bindL;show HN (ip.mp q).2 () () hk
theorem HR{j:Str->Option NameKind}:∀{P:List Str}{vs:List Value}{i:Nat}{m:Str->Option Value},P.Nodup->P[i]?=!x->vs[i]?=!v->j x≠!.local->
 bindC j (P.zip vs) m x=!v
 |[],_,_,_=>λ_ h _ _=>by grind
 |_::_,[],_,_=>λ_ _ h _=>by grind
 |p::P,w::vs,0,m=>λq h1 h2 hk=>by simp at h1 h2;subst h1;subst h2;show bindC j ((p,w)::P.zip vs) m p=_;unfold bindC;rw[HJ λv z=>(ip.mp q).1 (kz z).1,dQ hk];simp
 |p::P,w::vs,i+1,m=>λq h1 h2 hk=>by unfold bindC;show HR (ip.mp q).2 () () hk
def start(N:List Str)(vs:List V):St:=vs.map some++List.replicate (-N-(-vs)) J
noncomputable def vC (b:Bool) (CX:yV) (P:Program) (w:World) (K:FG) (mg:Str->Option Value) (base:Heap) (N:List Str) (qual:Str) (scope:Scope) (f:Addr) (cd:Value) (A:Around) (outer:List Env) (s:Shared) (H:Hp) (E:XK):Cx where
 prog:=P
 w:=w
 K:=K
 mg:=mg
 base:=base
 A:=A.deeper (envOfC qual scope s.heap.objs.size f cd)
 N:=N
 s₀:=s
 H0:=H
 env:=envOfC qual scope s.heap.objs.size f cd
 outer:=outer
 stack:=envOfC qual scope s.heap.objs.size f cd::outer
 ex:=[]
 calm:=b
 fn:=λ_=>G
 pn:=[]
 xe:=λe s'=>wpAny (model P w) (A.deeper (envOfC qual scope s.heap.objs.size f cd)) (leaving (envOfC qual scope s.heap.objs.size f cd) e) (λ_ s''=>CX outer H s E e s'') (λe' s''=>CX outer H s E e' s'') s'
abbrev Ww:=vC G
def KQ{sc:Scope}(h:sc.names.lookup x=!.cell):∃c,(cellsFrom n sc.names []).lookup x=!c:=by let q:=se sc.names n [] (Zl h);show rX.mp q
def Ua{K:FG}{E:XK}
 (S:bz N ps scope) (hd:cm=G->A.handled=J) (j:Dk P w K mg base A outer s H) (hl:-vs=-ps) (r:db vs us)
 (x:InCallC s s.heap.objs.size (bindL (envOfC qual scope s.heap.objs.size f cd).kindOf (ps.zip us) λ_=>J) (cellsFrom (~~~s.heap.objs+1) scope.names []) (bindC (envOfC qual scope s.heap.objs.size f cd).kindOf (ps.zip us) λ_=>J) s1):
 c_ (vC cm CX P w K mg base N qual scope f cd A outer s H E) [] (start N vs) H s1:=by
 have hpl:-ps<=-N:=by have:=congrArg List.length S.pre;rw[j_]at this;lia
 let(h1,tk,rfl,hk):=x.done;have D:∀b:Addr,b∉(vC cm CX P w K mg base N qual scope f cd A outer s H E).ex:=λb z=>absurd (show b∈([]:List Addr) from z) (by simp);show#[#[j.mod,S.kind,O,O,eK _,λy z c h1 h2=>?_,λy F=>?_,λy c _ h=>?_,hd,Around.frames_deeper j.frames,YY #[O,O],λb z=>absurd z (D b),j.bs,j.bsz,λb _ _=>D b,λb z=>absurd z (D b),j.funs,j.frf],
  rfl,j.bare,Un.kept hk,#[_,x.toInCall.ns,λi y v h1 h2 h3=>?_],λy c h=>#[_,x.cell y c h],j.hok.fresh (eK _),λy c h=>?_,λp W=>absurd (show p∈([]:List (Addr×Obj)) from W) (by simp),j.hok.kept hk,?_]
 . show name_of_addr x.apart (ny h1) (ny h2)
 . obtain F|F:=F
   . show KQ F
   . show absurd O (S.nofree _ (ny F))
 . show nw (x.above y c (ny h))
 . have hi:i< -vs:=by
    unfold start at h2;by_cases hi:i< -vs
    . show hi
    . grind
   have ha:vs[i]?=!v:=by
    unfold start at h2;rw[jp ∅,fI]at h2;cases e:vs[i]? with
    |none=>grind
    |some a=>grind
   let(u,hu,rv):=r.get ha;have W:ps[i]?=!y:=by rw[<-S.pre,List.getElem?_take_of_lt ()];show h1
   have Q:ps.Nodup:=by rw[<-S.pre];show S.nd.sublist ∅
   show#[u,rv,?_];obtain k|k:=S.par y (g7 W)
   . show Zl #[k,HN Q W hu k]
   . let(c,e):=KQ k;show YY #[Zl k,c,e,?_];let q:=x.cell y c e;rw[HR Q W hu (by show scope.names.lookup y≠_;rw[k];decide)]at q;show q
 . show j.hok.fresh (nw (x.above y c (ny h)))
 . unfold start;show _=-N;grind
def IU{K:FG}{dV kV kS pm j ct oc:Value}
 (lk:K.lookup f=!#[oc,od,.func (W.fnOf name qual params body scope dV kV kS pm an j ct),m6]) (py:W.codeIn K j qual=G) (S:bz N ps scope)
 (len:∀vs H Q E,sp vs H Q E->-vs=-ps)
 (D:∀(A:Around)(i:List Env)(s:Shared)(H:Hp)(vs:List V)(Q:VK)(E:XK),gn b k (A.deeper (envOfC qual scope s.heap.objs.size f j))->sp vs H Q E->
   ∃t,jP (vC b CX P w K mg base N qual scope f j A i s H E) body t/\t { nx:=λ_ H'=>Q .non H',rt:=Q } (start N vs) H):
 t6 b P w K mg base CX (k+1) f (W.fnOf name qual params body scope dV kV kS pm an j ct) ps sp:=by
 show#[len,λA i s H args us vs Q E hr e0 hb r m7=>?_];let hl:=len _ _ _ _ m7;let KX:=e0.mod.kin.keeps λb o e=>(e0.bs b o e).1;let IV:=e0.mod.nolimit.keeps λb o e=>(e0.bs b o e).1;have F:∀y∈ps.zip us,scope.names.lookup y.1=!.local\/(scope.names.lookup y.1=!.cell/\((cellsFrom (~~~s.heap.objs+1) scope.names []).lookup y.1).isSome=G):=λ⟨n,v⟩ hy=>by
  obtain q|q:=S.par n (kz hy).1
  . grind
  . show YY #[q,se _ _ _ (Zl q)]
 show codeAny_call_function hr.depth (KX _ _ lk) O S.co S.gen O (W.codeRec_of KX py) (hb _ _ _ _ ?_);show wpAny_newFunctionEnv_cells S.kind F λenv he s1 x=>?_;subst he;show#[IV.keeps x.toInCall.keep,codeAny_func ?_];let(t,ht,hq):=D A i s H vs Q E (hr.deeper _) m7;show wpAny_mono (ht [] s1 (start N vs) H _ (Ua S hr.hd e0 hl r x) hq) (λfl s' hs=>?_) λe s' hs=>hs;have fin:∀{U':St}{H':Hp}{v:V}{u:Value},c_ (vC b CX P w K mg base N qual scope f j A i s H E) [] U' H' s'->dE v u->Q v H'->CE i P w H s Q u s':=
  λ{U' H' v u} z rv q=>#[v,H',z.os,z.bare,z.base,z.hok,rv,q]
 cases fl with
 |ret u=>
  let(v,U',H',z,rv,q):=hs;show fin z rv q
 |next=>
  let(U',H',z,q):=hs;show fin (v:=V.non) z O q
 |brk=>
  let(_,_,_,q):=hs;grind
 |cont=>
  let(_,_,_,q):=hs;grind
section
variable {X:Cx}{x:Str}{p pos:Pos}{e:Expr}{es:List Expr}{t:TA}{id T:String}{r:List V->Hp->VK->Prop}
def zN(r:List V->Hp->VK->Prop)(t:TA):TE:=λU H Q=>t U H λvs H1=>r vs H1 Q
def iQ(hc:lO X (.builtin id) r)(z:Gl X x)(hm:X.mg x=J)(N:bootBuiltins x=!(.builtin id))(q:PA X (e::es) t)(D:x ≠ "__name__":=by decide)(j:(x==("__debug__" : Str))=M:=by decide)
 (he:starEach (e::es) X.env=(M,eval e X.env)::starEach es X.env:=by rfl) (i:(backTo pos (starEach es X.env)).any (·.1)=M:=by rfl):PE X (.Call (.Name x p) (e::es) [] pos) (zN r t):=by
 intro a_ s U H Q I h;show wpAny_Call_Name_kw (zE I z hm N ?_ D j);show PyProof.Rows.callWith_builtin1 (dg (q pos a_ s U H _ I h) λW F ⟨vs,H1,I1,r1,q1⟩=>hc a_ F U H1 vs W Q I1 r1 q1) he i
def gA(hc:lO X (.type T) r)(z:Gl X x)(hm:X.mg x=J)(N:bootBuiltins x=!(.type T))(q:PA X (e::es) t)(D:x ≠ "__name__":=by decide)(j:(x==("__debug__" : Str))=M:=by decide)
 (he:starEach (e::es) X.env=(M,eval e X.env)::starEach es X.env:=by rfl) (i:(backTo pos (starEach es X.env)).any (·.1)=M:=by rfl):PE X (.Call (.Name x p) (e::es) [] pos) (zN r t):=by
 intro a_ s U H Q I h;show wpAny_Call_Name_kw (zE I z hm N ?_ D j);show PyProof.Rows.callWith_type1 (dg (q pos a_ s U H _ I h) λW F ⟨vs,H1,I1,r1,q1⟩=>hc a_ F U H1 vs W Q I1 r1 q1) he i
end
end L2
namespace HT
open PySem PySem.Spec PyProof.Rows
section
variable {prog:Program}{w:World}{A:Around}{E:Value->Shared->Prop}{s:Shared}
def cat_tup(ht:IsTup s.heap t vs.toArray)(hb:IsTup s.heap b ws.toArray)(hv:vs≠[])
 (h1:ws=[]->Q (YV t) s) (h2:ws≠[]->Q (YV s.heap.objs.size) { s with heap:=s.heap.push { cls:=.type "tuple",data:=.seq (vs++ws).toArray } })
 (ic:-vs+-ws<=sizeLine):wpAny (model prog w) A (binaryOp .Add (YV t) (YV b)) Q E s:=by
 let((cls,dd,data,sl),N,hc,n,hd):=id ht;let((cls2,q,data2,z),i,W,n2,sB):=id hb;subst hc hd W sB;have e:vs.toArray++ws.toArray=(vs++ws).toArray:=by simp
 by_cases hw:ws=[]
 . show concat_meets #[_,N,O] #[_,i,O] noFill_tuple_add seq_tuple_add F.slot_tuple_add F.entry_tuple_add (F.args_tuple_add_2 _ _)
    (tuple_addW1 t b vs.toArray ws.toArray n n2 dd q sl z ∅ ∅) #[N,i,h1 hw]
 . show concat_meets #[_,N,O] #[_,i,O] noFill_tuple_add seq_tuple_add F.slot_tuple_add F.entry_tuple_add (F.args_tuple_add_2 _ _)
    (tuple_addW2 t b vs.toArray ws.toArray n n2 dd q sl z ∅ ∅ ()) #[N,i,?_]
   grind
noncomputable def sIx (n d:Nat):Option Int->Nat
 |none=>d
 |some v=>if v<0 then (v+(n:Int)).toNat else min v.toNat n
def sIx_nat(n d k:Nat):sIx n d (!(k:Int))=min k n:=by show (if (k:Int)<0 then ((k:Int)+(n:Int)).toNat else min (k:Int).toNat n)=min k n;rw[dQ (),sd]
def sIx_le(n d:Nat)(hd:d<=n)(o:Option Int):sIx n d o<=n:=by
 cases o with
 |none=>show hd
 |some v=>
  show (if v<0 then (v+(n:Int)).toNat else min v.toNat n)<=n;by_cases hv:v<0
  . rw[dA hv];lia
  . rw[dQ hv];show Nat.min_le_right _ _
def PJ(v:Int)(n d:Nat):(if v<0 then max (v+(n:Int)) 0 else min v (n:Int))=((sIx n d (!v):Nat):Int):=by
 show (if v<0 then max (v+(n:Int)) 0 else min v (n:Int))=(((if v<0 then (v+(n:Int)).toNat else min v.toNat n):Nat):Int);by_cases i:v<0
 . grind
 . grind
def RV(lo hi:Option Int)(n:Nat):Builtin.Slice.sliceAdjust lo hi 1 (n:Int)=(((sIx n 0 lo:Nat):Int),((sIx n n hi:Nat):Int)):=by
 have h1:¬ ((1:Int)<0):=()
 unfold Builtin.Slice.sliceAdjust;show Prod.ext ?_ ?_
 . cases lo with
   |none=>rfl
   |some v=>show PJ v n 0
 . cases hi with
   |none=>rfl
   |some v=>show PJ v n n
def RW(i j:Nat):Builtin.Slice.slicePlaces (i:Int) (j:Int) 1=j-i:=by
 unfold Builtin.Slice.slicePlaces;have h1:(1:Int)>0:=()
 simp only[h1,if_true,Int.ediv_one];split<;>lia
def Er(p:IsPart v o)(h:Q o s):wpAny (model prog w) A (Builtin.Slice.slicePartIndex v) Q E s:=by
 cases p with
 |none=>show slicePart_none h
 |int i t=>show slicePart_int h
def Dl{lo hi:Option Int}{Q:Int×Int×Nat->Shared->Prop}(hs:s.heap.IsSliceOf sl vl vu .none)(pl:IsPart vl lo)(D:IsPart vu hi)
 (h:Q (((sIx n 0 lo:Nat):Int),1,sIx n n hi-sIx n 0 lo) s):wpAny (model prog w) A (Builtin.Slice.sliceApplied (YV sl) (pure (n:Int))) Q E s:=by
 let(F,j,z,q):=id hs;show da (da (wpAny_field j q O (da (wpAny_field j q O (da (wpAny_field j q O (d0 ?_)))))));show da (slicePart_none ?_);show da (Er pl (da (Er D (da (d0 ?_)))));show wpAny _ _ (match Builtin.Slice.sliceAdjust lo hi 1 (n:Int) with |(lo,hi)=>pure (lo,(1:Int),Builtin.Slice.slicePlaces lo hi 1)) _ _ s;rw[RV lo hi n];show wpAny _ _ (pure (((sIx n 0 lo:Nat):Int),(1:Int),Builtin.Slice.slicePlaces ((sIx n 0 lo:Nat):Int) ((sIx n n hi:Nat):Int) 1)) _ _ s;rw[RW];show d0 h
def Wx(xs:Array Value)(i k:Nat):((List.range k).filterMap λ(m:Nat)=>xs[((i:Int)+(m:Int)*1).toNat]?).toArray=((xs.toList.drop i).take k).toArray:=by
 have e:(λ(m:Nat)=>xs[((i:Int)+(m:Int)*1).toNat]?)=λm=>xs[i+m]?:=by
  funext m;have:((i:Int)+(m:Int)*1).toNat=i+m:=()
  rw[this]
 rw[e];have:=pick_run xs i k;rw[List.filterMap_map]at this;have j:((λx=>xs[x]?) ∘ λx=>i+x)=λm=>xs[i+m]?:=O;grind
def getItem_tuple_cut{lo hi:Option Int}(j:IsTup s.heap t items)(hs:s.heap.IsSliceOf sl vl vu .none)(pl:IsPart vl lo)(pu:IsPart vu hi)
 (hw:¬ (sIx items.size 0 lo=0/\sIx items.size items.size hi= ~~~items))
 (h:Q (YV s.heap.objs.size) { s with heap:=s.heap.push { cls:=.type "tuple",data:=.seq ((items.toList.drop (sIx items.size 0 lo)).take (sIx items.size items.size hi-sIx items.size 0 lo)).toArray } })
 (ic: ~~~items<=sizeLine):wpAny (model prog w) A (getItem (YV t) (YV sl)) Q E s:=by
 have i:sizeOk (.seq ((items.toList.drop (sIx items.size 0 lo)).take (sIx items.size items.size hi-sIx items.size 0 lo)).toArray):=by show ((items.toList.drop (sIx items.size 0 lo)).take (sIx items.size items.size hi-sIx items.size 0 lo)).toArray.size<=sizeLine;rw[gX,j_,List.length_drop,hY];lia
 let(os,D,F,xE):=id hs;unfold getItem
 try with_reducible show wpAny_holding ?_
 first |show da () |skip
 show da (wpAny_sequenceKey j.typeIs () ?_);show da (wpAny_callSpecial?_slot j.typeIs PyProof.Rows.slot_tuple_getitem
  (wpAny_call_entry PyProof.Rows.slot_tuple_getitem j.typeIs entry_tuple_getitem ?_ (args_tuple_getitem _ _)))
 show wpAny _ _ (Builtin.Tuple.tupleItemsOf (YV t) >>= _) _ _ s;show da (tupleItemsOf_ j ?_);show da (wpAny_typeOf (#[os,D,F]) ?_);show da (Dl hs pl pu ?_);have z:¬ ((((sIx items.size 0 lo:Nat):Int)==0&&(1:Int)==1&&(sIx items.size items.size hi-sIx items.size 0 lo)== ~~~items)=G):=by intro q;rw[iX,iX]at q;let q1:=eq_of_beq q.1.1;let q2:=eq_of_beq q.2;show hw #[(),()]
 show wpAny _ _ (if (((sIx items.size 0 lo:Nat):Int)==0&&(1:Int)==1&&(sIx items.size items.size hi-sIx items.size 0 lo)== ~~~items)=G then _ else _) _ _ s;rw[dQ z,Wx]
 first
  |show da (wpAny_newObj_type () i)
  |show da (wpAny_newObj_type (da (d0 (d0 #[_,rfl,d0 h]))) i)
  |show da ()
  |show da ()
end
end HT
namespace L2
open PySem PySem.Spec PyProof.Rows
variable {a_:List (Addr×Obj)}{E:Value->Shared->Prop}{s:Shared}{A:Around}{w:World}{P:Program}
abbrev TO:=St->Hp->(Option Int->Hp->Prop)->Prop
def PO(X:Cx)(e:Option Expr)(t:TO):Prop:=
 ∀(a_:List (Addr×Obj))(s:Shared)(U:St)(H:Hp)(Q:Option Int->Hp->Prop),c_ X a_ U H s->t U H Q->
  wpAny (model X.prog X.w) X.A (evalPart e X.env) (λu s'=>∃o H',c_ X a_ U H' s'/\IsPart u o/\Q o H') X.xe s
def ZX:TO:=λ_ H Q=>Q J H
def IX(t:TE):TO:=λU H Q=>t U H λx H1=>∃i,x=.int i/\Q (!i) H1
section
variable {X:Cx}{e:Expr}{te:TE}{lo hi:Option Expr}{tl th:TO}{pos p2:Pos}
def ZZ:PO X J ZX:=by intro a_ s U H Q I h;show d0 #[J,H,I,.none,h]
def Z3(h:PE X e te):PO X (!e) (IX te):=by intro a_ s U H Q I j;show dg (h a_ s U H _ I j) λu z IY=>?_;let(x,H1,I1,r1,q1):=IY;let(i,rfl,q):=q1;let(t,rfl):=r1;show#[!i,H1,I1,.int i t,q]
def HS(X:Cx)(r:V->Option Int->Option Int->Hp->VK->Prop):Prop:=
 ∀(a_:List (Addr×Obj))(s:Shared)(U:St)(H:Hp)(x:V)(v vl vu:Value)(lo hi:Option Int)(sl:Addr)(Q:VK),c_ X a_ U H s->dE x v->s.heap.IsSliceOf sl vl vu .none->IsPart vl lo->IsPart vu hi->r x lo hi H Q->
  ∃T id,typeLookup (.type T) "__getitem__"=pure (!(.builtin id))/\s.TypeIs v T/\wpAny (model X.prog X.w) X.A (getItem v (YV sl)) (EP X a_ U Q) X.xe s
def HS.or(h:HS X r)(h':HS X r'):HS X (λx lo hi H Q=>r x lo hi H Q\/r' x lo hi H Q):=by
 intro a_ s U H x v j D lo hi sl Q I z hs pl i q;obtain q|q:=q
 . show h a_ s U H x v j D lo hi sl Q I z hs pl i q
 . show h' a_ s U H x v j D lo hi sl Q I z hs pl i q
def IZ(r:V->Option Int->Option Int->Hp->VK->Prop)(te:TE)(tl th:TO):TE:=λU H Q=>te U H λx H1=>tl U H1 λl H2=>th U H2 λu H3=>r x l u H3 Q
def KR(hr:HS X r)(he:PE X e te)(hl:PO X lo tl)(hu:PO X hi th):PE X (.Subscript e (.Slice lo hi J p2) pos) (IZ r te tl th):=by intro a_ s U H Q I h;show Subscript_ (dg (he a_ s U H _ I h) λv s1 ⟨x,H1,I1,W,q1⟩=>?_);show wpAny_Slice (dg (hl a_ s1 U H1 _ I1 q1) λF s2 ⟨l,H2,I2,pl,q2⟩=>dg (hu a_ s2 U H2 _ I2 q2) λD i ⟨u,H3,N,pu,q3⟩=>?_);show d0 ?_;let(T,id,hT,ht,hg):=hr a_ { i with heap:=i.heap.push { cls:=.type "slice",data:=.fields (List.toArray [F,D,.none]) } } U H3 x v F D l u i.heap.objs.size Q (N.kept λb ob q=>fz _ q) W (Heap.IsSliceOf.new ..) pl pu q3;show tail_any ht hT hg ()
def uK(xs:List V)(lo hi:Option Int):List V:=(xs.drop (HT.sIx (-xs) 0 lo)).take (HT.sIx (-xs) (-xs) hi-HT.sIx (-xs) 0 lo)
def CP(xs:List V)(lo hi:Option Int):-(uK xs lo hi)<=-xs:=by unfold uK;rw[j_,mS];lia
def I_(K:FG):V->Option Int->Option Int->Hp->VK->Prop:=λx lo hi H Q=>∃a xs,x=.ref a/\cW K H a xs/\
 ¬ (HT.sIx (-xs) 0 lo=0/\HT.sIx (-xs) (-xs) hi=-xs)/\∀p,H p=J->Q (.ref p) (dW H p (.tup (uK xs lo hi)))
def Je:HS X (I_ X.K):=by
 intro a_ s U H x v vl vu lo hi sl Q I W hs pl D h;let(a,xs,rfl,N,hw,q):=h;cases W;let(j,r,z,F):=I.tuple N;have i: ~~~j.toArray=-xs:=by rw[gX];show r.length.symm
 show#["tuple",_,PyProof.Rows.slot_tuple_getitem.lookup,z.typeIs,?_];show HT.getItem_tuple_cut z hs pl D ∅ ?_ ();rw[i];show#[.ref s.heap.objs.size,_,I.laid (λb ob q=>fz _ q) () ?_,O,q _ (I.hok.fresh ())];show#[gL (CP xs lo hi) F,_,(r.drop (HT.sIx (-xs) 0 lo)).take (HT.sIx (-xs) (-xs) hi-HT.sIx (-xs) 0 lo),IsTup.new _ _]
def YZ(K:FG):R2:=λx y H Q=>∃a b xs ys,x=.ref a/\y=.ref b/\cW K H a xs/\cW K H b ys/\xs≠[]/\-xs+-ys<=sizeLine/\
 (ys=[]->Q (.ref a) H)/\(ys≠[]->∀p,H p=J->Q (.ref p) (dW H p (.tup (xs++ys))))
def db.nil_iff(r:db xs us):us=[] ↔ xs=[]:=by
 cases r with
 |nil=>simp
 |cons _ _=>simp
def Z4:ju X (binaryOp .Add) (YZ X.K):=by intro a_ s U H x y v u Q I rx ry h;let(a,b,xs,ys,rfl,rfl,N,hb,hx,D,W,q2):=h;cases rx;cases ry;let(eJ,j,p1,_):=I.tuple N;let(F,i,p2,_):=I.tuple hb;show HT.cat_tup p1 p2 (λz=>hx (j.nil_iff.mp z)) (λz=>#[.ref a,H,I,O,W (i.nil_iff.mp z)]) (λz=>?_) (by rw[<-(-j),<-(-i)];show D);show#[.ref s.heap.objs.size,_,I.laid (λb ob q=>fz _ q) () ?_,O,q2 (λw=>z (i.nil_iff.mpr w)) _ (I.hok.fresh ())];show#[by rw[eM];show D,_,j.append i,IsTup.new _ _]
end
noncomputable def uL (n:Nat) (i:Int):Option Nat:=if 0<=i then (if i<n then !i.toNat else J) else if (Neg.neg (n:Int))<=i then !(i+n).toNat else J
def fO{α:Type}(xs:List α)(i:Int):Option α:=(uL (-xs) i).bind λj=>xs[j]?
def PK(h:uL n i=!j):seqIndex? i n=!j/\j<n/\(Neg.neg (n:Int))<=i/\i<n:=by
 unfold uL at h;by_cases q:0<=i
 . rw[dA q]at h;by_cases h1:i<n
   . rw[dA h1]at h;let e:=gt h;show#[by rw[seqIndex_of q h1,e],(),(),h1]
   . grind
 . rw[dQ q]at h;by_cases h1:(Neg.neg (n:Int))<=i
   . rw[dA h1]at h;let e:=gt h;show#[by rw[seqIndex_neg () h1,e],(),h1,()]
   . grind
def GK(h:fO xs i=!v):∃j,seqIndex? i (-xs)=!j/\xs[j]?=!v/\j< -xs/\(Neg.neg (-xs:Int))<=i/\i< -xs:=by
 unfold fO at h;cases e:uL (-xs) i with
 |none=>grind
 |some j=>
  rw[e]at h;let(h1,h2,q,z):=PK e;grind
def PN{j:Nat}(h:xs[j]?=!v):fO xs (j:Int)=!v:=by
 let i:=(fS.mp h).1;have e:uL (-xs) (j:Int)=!j:=by unfold uL;rw[dA (),dA ()];simp
 unfold fO;rw[e];show h
def qN(xs:List α)(v:α):fO (xs++[v]) (-1)=!v:=by
 have i:-(xs++[v])=-xs+1:=by simp
 have e:uL (-(xs++[v])) (-1)=!(-xs):=by unfold uL;rw[i,dQ (),dA ()];congr 1;lia
 unfold fO;rw[e];simp
def Bh(b:Expr):Prop:=∀o i,subscripted b M o i=operate [o,i] (getItem o i)
def zP(X:Cx)(r:R2):Prop:=
 ∀(value slice:Expr)(a_:List (Addr×Obj))(s:Shared)(U:St)(H:Hp)(x y:V)(v u:Value)(Q:VK),c_ X a_ U H s->dE x v->dE y u->r x y H Q->
  subscripted slice M v u=operate [v,u] (getItem v u)->wpAny (model X.prog X.w) X.A (subscriptTail value slice v u) (EP X a_ U Q) X.xe s
def PP(X:Cx)(id:String)(r:V->List V->Hp->VK->Prop):Prop:=
 ∀(a_:List (Addr×Obj))(s:Shared)(U:St)(H:Hp)(x:V)(xs:List V)(v:Value)(us:List Value)(Q:VK),c_ X a_ U H s->dE x v->db xs us->r x xs H Q->
  wpAny (model X.prog X.w) X.A (call (.builtin id) (v::us)) (EP X a_ U Q) X.xe s
section
variable {X:Cx}{a b:Expr}{ta tb:TE}{pos:Pos}
def zP.or(h:zP X r)(h':zP X r'):zP X (λx y H Q=>r x y H Q\/r' x y H Q):=by
 intro value i a_ s U H x y v u Q I z j q hs;obtain q|q:=q
 . show h value i a_ s U H x y v u Q I z j q hs
 . show h' value i a_ s U H x y v u Q I z j q hs
def RX(W:zP X r)(i:PE X a ta)(N:PE X b tb)(hs:Bh b):PE X (.Subscript a b pos) (T3 r ta tb):=by intro a_ s U H Q I h;show Subscript_ (Wm i N I h λv u D x y H2 j F z q=>W a b a_ D U H2 x y v u Q j F z q (hs _ _))
def xI(K:FG):R2:=λx y H Q=>∃p xs i v,x=.ref p/\y=.int i/\bY K H p xs/\fO xs i=!v/\Q v H
def xK(K:FG):R2:=λx y H Q=>∃p xs i v,x=.ref p/\y=.int i/\cW K H p xs/\fO xs i=!v/\Q v H
def xL:R2:=λx y H Q=>∃z i c,x=.str z/\y=.int i/\-z<=sizeLine/\fO z.cps.toList i=!c/\Q (.str #[(List.toArray [c])]) H
def Z5:zP X (xI X.K):=by
 intro value D a_ s U H x y v u Q I rx ry h hs;let(p,xs,i,z,rfl,rfl,hq,he,q):=h;cases rx;let(t,rfl):=ry;let(N,r,pl,hz):=I.list hq;let(j,h1,h2,h3,h4,h5):=GK he;let(w,ew,F):=r.get h2;let hl:=-r;let hn:=wy;have fin:EP X a_ U Q w s:=#[z,H,I,F,q];by_cases W:0<=i
 . have hj:i.toNat=j:=by rw[seqIndex_of W h5]at h1;show gt h1
   show item_listR pl.isList W () ∅ fin hs
 . have hj:(i+(~~~N.toArray:Int)).toNat=j:=by rw[seqIndex_neg () h4]at h1;rw[gX,<-hl];show gt h1
   show subscriptTail_builtinR pl.isList.typeIs slot_list_getitem.lookup
    (wpAny_getItem_list_neg pl.isList () ∅ () ∅ #[O,fin]) hs
def Jn:zP X (xK X.K):=by
 intro value D a_ s U H x y v u Q I rx N h hs;let(p,xs,i,z,rfl,rfl,hq,he,q):=h;cases rx;let(t,rfl):=N;let(eJ,r,pl,hz):=I.tuple hq;let(j,h1,h2,h3,h4,h5):=GK he;let(w,ew,F):=r.get h2;let W:=-r;let hn:=wy;show subscriptTail_builtinR pl.typeIs slot_tuple_getitem.lookup
  (getItem_tuple pl () () (by rw[gX,<-W];show h1) ∅ #[O,#[z,H,I,F,q]]) hs
def JA:zP X xL:=by
 intro value D a_ s U H x y v u Q I N F h hs;let(z,i,c,rfl,rfl,hz,he,q):=h;let(t,rfl):=N;let(t',rfl):=F;let(j,h1,h2,h3,h4,h5):=GK he;have W:-z.cps.toList=-z:=by simp[Str.length]
 rw[W]at h1 h4 h5;let hn:=wy;show tail_any (typeIs_str s z t) slot_str_getitem.lookup (getItem_str (by rw[(kf ()),(kf ()),Bool.or_false]) ∅ #[.str #[(List.toArray [c])],H,I.tok _,#[_,O],q]) hs
def sC(K:FG):R2:=λx y H Q=>xI K x y H Q\/xK K x y H Q\/xL x y H Q
def Ub:zP X (sC X.K):=Z5.or (Jn.or JA)
def RZ(i:List Value)(n j:Nat)(u:Value):Obj.mapSeq (·.setIfInBounds j u) { cls:=.type "list",data:=.seq i.toArray n }={ cls:=.type "list",data:=.seq (i.set j u).toArray n }:=by simp[Obj.mapSeq]
theorem c_.lst{U:St}{H:Hp}{p:Addr}{xs:List V}(I:c_ X a_ U H s)(h:H p=!(.lst xs)):
 ∃(i:List Value)(n:Nat),db xs i/\s.heap.get? p=some { cls:=.type "list",data:=.seq i.toArray n }/\-xs<=sizeLine:=by
 let(z,i,n,r,e):=I.hok p _ h;grind
def c_.lstUpd{U:St}{j i:List Value}(I:c_ X a_ U H s)(h:H p=!(.lst xs))
 (Q:s.heap.get? p=some { cls:=.type "list",data:=.seq j.toArray n }) (z:f { cls:=.type "list",data:=.seq j.toArray n }={ cls:=.type "list",data:=.seq i.toArray n' }) (r:db ys i) (N:-ys<=sizeLine) (t:Nat):
 c_ X a_ U (dW H p (.lst ys)) { s with heap:=s.heap.update p f,toks:=t }:=by
 have e:(s.heap.update p f).get? p=some { cls:=.type "list",data:=.seq i.toArray n' }:=by rw[mT f Q (by rw[z]<;>rfl),z]
 show I.write (by rw[h];trivial) (Zl O) (λb u W q=>(mP _ _ ∅).trans q) #[_,e] ?_;show#[N,i,n',r,e]
def Y0_:V->V->V->Hp->(Hp->Prop)->Prop:=λo i v H Q=>∃p xs k j,o=.ref p/\i=.int k/\H p=!(.lst xs)/\uL (-xs) k=!j/\Q (dW H p (.lst (xs.set j v)))
def set_list:Wj X Y0_:=by
 intro a_ s U H o i v ov iv u Q I ro ri rv h;let(p,xs,k,j,rfl,rfl,N,hj,q):=h;cases ro;let(t,rfl):=ri;let(z,n,r,D,hz):=I.lst N;let(h1,h2,h3,h4):=PK hj;let hl:=-r;let hn:=wy;let I':=
  I.lstUpd N D (RZ z n j u) (r.set rv j) ∅ s.toks
 by_cases F:0<=k
 . have hk:k.toNat=j:=by rw[seqIndex_of F h4]at h1;show gt h1
   show W.ki_setAt D F () ∅ ∅
 . have hk:(k+(~~~z.toArray:Int)).toNat=j:=by rw[seqIndex_neg () h3]at h1;rw[gX,<-hl];show gt h1
   show W.ki_setBack D () ∅ () ∅
def KY(lo hi:Option Int)(n:Nat):(sliceBounds lo hi J n).1=((HT.sIx n 0 lo:Nat):Int)/\(sliceBounds lo hi J n).2.1=((HT.sIx n n hi:Nat):Int)/\(sliceBounds lo hi J n).2.2=1:=by
 show#[?_,?_,O]
 . cases lo with
   |none=>simp[sliceBounds,HT.sIx]
   |some i=>
    simp only[sliceBounds,HT.sIx,Option.getD_none];by_cases h:i<0
    . grind
    . grind
 . cases hi with
   |none=>simp[sliceBounds,HT.sIx]
   |some i=>
    simp only[sliceBounds,HT.sIx,Option.getD_none];by_cases h:i<0
    . grind
    . grind
def JH(i:List Value)(lo hi:Option Int):slicePick i.toArray lo hi J=((i.drop (HT.sIx (-i) 0 lo)).take (HT.sIx (-i) (-i) hi-HT.sIx (-i) 0 lo)).toArray:=by let(h1,h2,j):=KY lo hi i.toArray.size;unfold slicePick;rw[h1,h2,j];simp only[sliceRange_one,pick_run]<;>rfl
def JE(K:FG):V->Option Int->Option Int->Hp->VK->Prop:=λx lo hi H Q=>∃a xs,x=.ref a/\bY K H a xs/\∀p,H p=J->Q (.ref p) (dW H p (.lst (uK xs lo hi)))
def Z6:HS X (JE X.K):=by intro a_ s U H x v vl vu lo hi sl Q I W hs pl z h;let(a,xs,rfl,F,q):=h;cases W;let(N,r,j,D):=I.list F;let i:=-r;show#["list",_,slot_list_getitem.lookup,j.isList.typeIs,?_];show wpAny_getItem_list_slice j.isList hs pl z .none () ?_ ∅;rw[JH,<-i];show#[.ref s.heap.objs.size,_,I.laid (λb ob q=>fz _ q) () ?_,O,q _ (I.hok.fresh ())];show#[gL (CP xs lo hi) D,_,0,(r.drop (HT.sIx (-xs) 0 lo)).take (HT.sIx (-xs) (-xs) hi-HT.sIx (-xs) 0 lo),ge _ O]
noncomputable def Y4_:V->Bool
 |.non=>G
 |.bl _=>G
 |.int _=>G
 |.str _=>G
 |_=>M
def lX:lO X (.type "list") (λxs H Q=>∃p ys,xs=[.ref p]/\(bY X.K H p ys\/cW X.K H p ys)/\∀l,H l=J->Q (.ref l) (dW H l (.lst ys))):=by
 intro a_ s U H xs us Q I r h;let(p,ys,rfl,N,q):=h;let(u,rfl,rx):=gg r;cases rx;have fin:∀(i:List Value),db ys i->-ys<=sizeLine->∀(h':Heap)(j:Nat),(∀b o',s.heap.get? b=!o'->h'.get? b=!o')->
  h'.get? s.heap.objs.size=some { cls:=.type "list",dict:=J,data:=.seq i.toArray j,slots:=#[] }->EP X a_ U Q (YV s.heap.objs.size) { s with heap:=h' }:=λi z D h' j kp e=>
  #[.ref s.heap.objs.size,_,I.laid kp () (show fG X.prog X.w _ h' _ (.lst ys) from #[D,i,j,z,e]),O,q _ (I.hok.fresh ())]
 obtain N|N:=N
 . let(i,z,pl,D):=I.list N;let F:=-z;let(o,ho,hc,n,W):=pl.isList;show call_list_seq p (Zl O) ho hc W (λh' j kp e=>fin i z D h' j kp e) ∅
 . let(i,z,pl,D):=I.tuple N;let F:=-z;let(o,ho,hc,n,W):=pl;show call_list_seq p (YY O) ho hc W (λh' j kp e=>fin i z D h' j kp e) ∅
def sD(K:FG)(T:String)(x:V)(H:Hp):Prop:=match x with
 |.str _=>T="str"
 |.int _=>T="int"
 |.ref p=>(T="list"/\∃xs,bY K H p xs)\/(T="tuple"/\∃o,K.lookup p=!o/\o.cls=.type "tuple"/\o.dict=J)\/
  (T="dict"/\((∃d3,H p=!(.dK d3))\/∃d3,H p=!(.dT d3)))\/(T="set"/\∃S n,H p=!(.set S n))
 |_=>False
def Uc{U:St}(I:c_ X a_ U H s)(r:dE x v)(j:sD X.K T x H):
 s.TypeIs v T/\∀a,v=YV a->∃N,s.heap.get? a=!N/\N.dict=J:=by
 cases x with
 |str z=>
  let(t,rfl):=r;cases (j);show#[typeIs_str s z t,λ_ e=>nomatch e]
 |int i=>
  let(t,rfl):=r;cases (j);show#[typeIs_int s i t,λ_ e=>nomatch e]
 |ref p=>
  cases r;obtain⟨rfl,xs,W⟩|⟨rfl,o,hk,hc,F⟩|⟨rfl,hk⟩|⟨rfl,S,n,hk⟩:=j
  . let(eJ,_,pl,_):=I.list W;show#[pl.isList.typeIs,λa e=>?_];cases e;let(o,n,e,c,F,_):=pl;grind
  . show#[#[o,I.kIn p o hk,hc],λa e=>?_];cases e;show#[o,I.kIn _ o hk,F]
  . have z:∃o,s.heap.get? p=!o/\o.ExactDict:=by
     obtain⟨D,hk⟩|⟨D,hk⟩:=hk
     . let(_,_,_,_,o,_,_,e,ex,_):=I.hok p _ hk;grind
     . let(_,_,_,_,o,_,_,e,ex,_):=I.hok p _ hk;grind
    let(o,e,ex):=z;show#[#[o,e,ex.1],λa q=>?_];cases q;show#[o,e,ex.2.1]
  . let(o,_,_,_,e,ex,_):=I.hok p _ hk;show#[#[o,e,ex.1],λa q=>?_];cases q;show#[o,e,ex.2.1]
 |_=>show False.elim j
def xQ(K:FG)(T:String)(r:V->List V->Hp->VK->Prop)(to:TE):TE:=λU H Q=>to U H λx H1=>sD K T x H1/\r x [] H1 Q
def KZ(K:FG)(T:String)(r:V->List V->Hp->VK->Prop)(to:TE)(t:TA):TE:=λU H Q=>to U H λx H1=>sD K T x H1/\t U H1 λxs H2=>r x xs H2 Q
variable {o e:Expr}{es:List Expr}{to:TE}{t:TA}{name:Str}{apos cpos:Pos}{T id:String}{r:V->List V->Hp->VK->Prop}
def JI(W:PlainAttrs T)(q:Slot T name id)(z:typeOf (.builtin id)=pure (.type "method_descriptor"))(N:PP X id r)(F:PE X o to)
 (j:attributeBase o name X.env (eval o X.env)=eval o X.env:=by rfl) (i:(apos.endLine==cpos.line)=G:=by rfl):PE X (.Call (.Attribute o name apos) [] [] cpos) (xQ X.K T r to):=by
 intro a_ s U H Q I h;show wpAny_Call_method0_late j i (dg (F a_ s U H _ I h) λv D JJ=>?_);let(x,H1,I1,r1,ty,q1):=JJ;let(h1,h2):=Uc I1 r1 ty;show#[T,id,W,q,z,h1,h2,Calls.callWith_builtin O (PySem.evalArgs_none (N a_ D U H1 x [] v [] Q I1 r1 .nil q1))]
def rR(pa:PlainAttrs T)(q:Slot T name id)(F:typeOf (.builtin id)=pure (.type "method_descriptor"))(hm:PP X id r)(ho:PE X o to)(W:PA X (e::es) t)
 (i:attributeBase o name X.env (eval o X.env)=eval o X.env:=by rfl)
 (z:((backTo cpos (starEach (e::es) X.env)).all (λx=>not x.1)&&(backToKw cpos (keywordEach [] X.env)).all (λx=>x.1.isSome)
   && decide (-(e::es)+-([]:List Keyword)+(if ([]:List Keyword).isEmpty then 0 else 1)<30))=G:=by rfl)
 (j:(apos.endLine==cpos.line)=G:=by rfl) (hs:starEach (e::es) X.env=(M,eval e X.env)::starEach es X.env:=by rfl) (D:(backTo cpos (starEach es X.env)).any (·.1)=M:=by rfl):
 PE X (.Call (.Attribute o name apos) (e::es) [] cpos) (KZ X.K T r to t):=by
 intro a_ s U H Q I h;show wpAny_Call_method_late i z j O (dg (ho a_ s U H _ I h) λv s1 JO=>?_);let(x,H1,I1,r1,ty,q1):=JO;let(h1,h2):=Uc I1 r1 ty;show#[T,id,pa,q,F,h1,h2,?_];let N:=W cpos a_ s1 U H1 _ I1 q1;rw[hs]at N ⊢;show Calls.callWith_builtin () (Calls.evalArgs_plain ?_);show dg N λus s2 JU=>by let(vs,H2,I2,r2,q2):=JU;show hm a_ s2 U H2 x vs v us Q I2 r1 r2 q2
end
def Ud(X:Cx)(id:String)(r:V->List V->Hp->VK->Prop):Prop:=
 ∀(a_:List (Addr×Obj))(s:Shared)(U:St)(H:Hp)(x:V)(xs:List V)(v:Value)(us:List Value)(Q:VK),c_ X a_ U H s->dE x v->db xs us->r x xs H Q->
  wpAny (model X.prog X.w) X.A (call (.builtin id) (v::us)) (EP X a_ U Q) X.xe s
theorem db.one:∀{x:V}{i:List Value},db [x] i->∃u,i=[u]/\dE x u
 |_,_,.cons r .nil=>#[_,O,r]
theorem db.two:∀{x y:V}{i:List Value},db [x,y] i->∃u v,i=[u,v]/\dE x u/\dE y v
 |_,_,_,.cons r (.cons q .nil)=>#[_,_,O,r,q]
theorem db.zero:∀{i:List Value},db [] i->i=[]
 |_,.nil=>rfl
theorem db.dropLast(h:db xs us):db xs.dropLast us.dropLast:=by
 induction h with
 |nil=>show .nil
 |cons r t i=>
  cases t with
  |nil=>grind
  |cons q j=>show .cons r i
theorem db.eraseIdx:∀{xs:List V}{j:List Value}(i:Nat),db xs j->db (xs.eraseIdx i) (j.eraseIdx i)
 |_,_,_,.nil=>.nil
 |_,_,0,.cons _ t=>t
 |_,_,i+1,.cons r t=>.cons r (db.eraseIdx i t)
def R0{α:Type}(l:List α):l.eraseIdx (-l-1)=l.dropLast:=by
 induction l with
 |nil=>rfl
 |cons a r i=>
  cases r with
  |nil=>rfl
  |cons b r=>
   have e:-(a::b::r)-1=(-(b::r)-1)+1:=by have h1:-(a::b::r)=-r+2:=O;have h2:-(b::r)=-r+1:=O;lia
   rw[e,List.eraseIdx_cons_succ,i]
   grind
theorem HW{α:Type}:∀(l:List α)(i:Nat),-(l.eraseIdx i)<=-l
 |[],_=>eK _
 |_::_,0=>ox _
 |_::r,i+1=>Nat.succ_le_succ (HW r i)
section
variable {X:Cx}{a_:List (Addr×Obj)}{U:St}{H:Hp}{s:Shared}{l b:Addr}{xs ys zs:List V}
def c_.lset{j i:List Value}(I:c_ X a_ U H s)(hH:H l=!(.lst xs))
 (e:s.heap.get? l=some { cls:=.type "list",data:=.seq j.toArray n }) (F:f j.toArray=i.toArray) (W:db ys i) (N:-ys<=sizeLine):
 c_ X a_ U (dW H l (.lst ys)) { s with heap:=s.heap.update l (Obj.mapSeq f),toks:=t' }:=by
 let q:=PySem.IsL.update e f;rw[F]at q;show I.write (by rw[hH];show trivial) (Zl O) (λb' u hb Q=>(mP s.heap (Obj.mapSeq f) ∅).trans Q) #[_,q] ?_;show#[N,i,_,W,q]
def c_.lnew(I:c_ X a_ U H s)(F:db ys i)(N:-ys<=sizeLine):
 c_ X a_ U (dW H s.heap.objs.size (.lst ys)) { s with heap:=s.heap.push { cls:=.type "list",data:=.seq i.toArray },toks:=t' }:=
 I.laid (λ_ _ q=>fz _ q) () #[N,i,0,F,ge _ O]
theorem c_.fresh(I:c_ X a_ U H s):H s.heap.objs.size=J:=I.hok.fresh ()
def c_.lstM(I:c_ X a_ U H s)(j:H l=!(.lst xs)):-xs<=sizeLine/\∃(i:List Value)(n:Nat),db xs i/\-xs=-i/\s.heap.get? l=some { cls:=.type "list",data:=.seq i.toArray n }:=by let(z,i,n,r,e):=I.hok l _ j;show#[z,i,n,r,-r,e]
def Wy(h:n<=sizeLine):Builtin.List.listTooLong n=M:=by show kf ()
end
section
variable {X:Cx}
def GP:V->List V->Hp->VK->Prop:=λx vs H Q=>∃l xs y,x=.ref l/\vs=[y]/\H l=!(.lst xs)/\-xs<sizeLine/\Q .non (dW H l (.lst (xs++[y])))
def oY:Ud X "list.append" GP:=by intro a_ s U H x vs v us Q I D N h;let(l,xs,y,rfl,rfl,j,hz,q):=h;cases D;let(u,rfl,W):=N.one;let(z,i,n,r,hl,e):=I.lstM j;show call_meets F.slot_list_append #[_,e,O] F.entry_list_append (F.args_list_append_2 _ _) (PySem.list_append l i.toArray n u ∅) #[e,?_];show#[.non,_,I.lset j e (by simp) (r.append (.cons W .nil)) ?_,O,q];rw[eM,List.length_singleton];lia
def xS:V->List V->Hp->VK->Prop:=λx vs H Q=>∃l xs y,x=.ref l/\vs=[]/\H l=!(.lst xs)/\xs[-xs-1]?=!y/\Q y (dW H l (.lst xs.dropLast))
def JY:Ud X "list.pop" xS:=by
 intro a_ s U H x vs v us Q I rx rv h;let(l,xs,y,rfl,rfl,N,W,q):=h;cases rx;let j:=rv.zero;subst j;let(z,i,n,r,hl,e):=I.lstM N;let(u,hu,ru):=r.get W;have D:i.toArray[i.toArray.size-1]?=!u:=by show i.toArray[-i-1]?=!u;rw[<-Array.getElem?_toList,<-hl];show hu
 show call_meets F.slot_list_pop #[_,e,O] F.entry_list_pop (F.args_list_pop_1 _) (MeetsSeq.list_pop_last l i.toArray n u D ∅) #[e,?_];show#[y,_,I.lset N e ?_ r.dropLast ?_,ru,q]
 . rw[gX,List.eraseIdxIfInBounds_toArray,R0]
 . rw[List.length_dropLast];lia
def Ue:V->List V->Hp->VK->Prop:=λx vs H Q=>∃l xs i k y,x=.ref l/\vs=[.int i]/\H l=!(.lst xs)/\(Neg.neg (2 ^ 63))<=i/\i<2 ^ 63/\seqIndex? i (-xs)=!k/\xs[k]?=!y/\Q y (dW H l (.lst (xs.eraseIdx k)))
def Wz:Ud X "list.pop" Ue:=by
 intro a_ s U H x vs v us Q I rx rv h;let(l,xs,i,k,y,rfl,rfl,N,h1,h2,hk,W,q):=h;cases rx;let(u,rfl,ru):=rv.one;let(t,rfl):=ru;let(z,D,n,r,hl,e):=I.lstM N;let(w,hw,j):=r.get W;show call_meets F.slot_list_pop #[_,e,O] F.entry_list_pop (F.args_list_pop_2 _ _)
  (MeetsSeq.list_pop_at l D.toArray n i t k w (fitsIndex_both h1 h2) ∅ ∅ ∅) #[e,?_]
 show#[y,_,I.lset N e ?_ (r.eraseIdx k) ?_,j,q]
 . rw[List.eraseIdxIfInBounds_toArray]
 . have:=HW xs k;lia
end
end L2
namespace x0
open PySem PySem.W PySem.Calls PyProof.Rows
def Es:∀(ns:List Int)(vs:List Value),WellAll P h vs (ns.map WData.int)->IntsAre vs ns:=by
 intro ns;induction ns with
 |nil=>
  intro vs w;cases w;show .nil
 |cons n ns i=>
  intro vs w;cases w with
  |cons a b=>
   cases a;show .cons _ _ (i _ b)
def Ug{l:OpenLaw}(hn:l.most=!n)
 (j:l.row.toRowW.claim.pre args=G) (N:WellAll P h vals args):
 ∃a vs ns,vals=[Value.ref a]/\args=[WData.list (ns.map WData.int)]/\h.get? a=some { cls:=.type "list",data:=.seq vs.toArray }/\IntsAre vs ns/\ -ns<=n:=by
 let Q:=(pre_splitW j).1;let(d,r,rfl,h1,h2):=hasAllW_cons Q;obtain rfl:=hasAllW_nil h2;let(xs,rfl,h3):=hasW_list h1;let(ns,rfl):=items_int h3;have z:-ns<=n:=by
  have F:(WTm.not (.lt (.lit (.int (n:Int))) (.len (.arg 0)))).holds [] { args:=[.list (ns.map .int)] }=G:=by let F:=(holds_andW ((pre_splitW j).2)).1;rw[hn]at F;show F
  let W:=condW_of F (w_not (w_lt w_lit (w_len_list (w_arg O))));show xi λq=>?_
  first
   |(rw[kR q']at W;show absurd W ())
   |(simp at W;lia)
 cases N with
 |cons w1 w2=>
  cases w2;cases w1 with
  |list ho D=>show#[_,_,ns,O,O,ho,Es ns _ D,z]
def Uh(l:OpenLaw)(i:List WData):l.row.toRowW.claim.post i (.bool G) i=G:=
 postW_of
  (show WShape.has [] (.bool G) .bool=G by first |rfl |decide |simp[WShape.arms])
  (w_eq_bool (w_res O) w_lit) O
def attach_call{l:OpenLaw}
 (hn:l.most=!n) (sF:d.params.defaults=[])
 (call:∀(w:World)(s₀ i:Shared)(mg mb:Str->Option Value)(fa:Addr)(o:Obj)(pm Q j:Value)(a:Addr)(vs:List Value)(ns:List Int),
   Ground q loose [] XP w s₀ mg mb i.heap->YP w i.heap->
   i.heap.get? fa=!o->o.data=.func (docDef d.name d.params d.body d.scope pm Q j)->i.heap.CodeRec Q d.name->mg d.name=!(YV fa)->
   i.heap.get? a=some { cls:=.type "list",data:=.seq vs.toArray }->IntsAre vs ns->-ns<=n->i.gens=#[]->
   codeAny (model l.prog w) callerA (.call (YV fa) #[[YV a],[]]) (λr s'=>r=.ok (.ret (.bool G))/\OldK i.heap s'.heap/\s'.os=i.os/\AllBare s'.gens) i):
 WalkO q loose XP YP l.row.toRowW d [] (λf vs=>PySem.call f vs):=by
 intro w s₀ i mg mb ZT Y_ fa o pm Q j dV kV ho hd py hD W hg args vals as F hlay hrd J_ hlo;obtain rfl:dV=.none:=Dflts.none hD sF;obtain rfl:kV=.none:=Dflts.noKw hD;let(a,vs,ns,rfl,rfl,N,z,D):=Ug hn F J_;show enter_call (codeAny_mono (call w s₀ i mg mb fa o pm Q j a vs ns ZT Y_ ho (fd_plain hd) py W N z D hg) λr s' hq=>?_);let(rfl,h2,h3,h4):=hq;show#[Zl #[.bool G,.bool G,[],O,λ_=>O,.bool G,Uh l _,λ_=>#[List.Pairwise.nil,λ_ hm=>(nomatch hm)]],h2,h3,h4]
end x0
namespace L2
open PySem PySem.Spec PyProof.Rows
variable {a_:List (Addr×Obj)}{E:Value->Shared->Prop}{s:Shared}{A:Around}{w:World}{P:Program}
theorem HX:∀{vs:List Value}{ns:List Int},IntsAre vs ns->db (ns.map V.int) vs
 |_,_,.nil=>.nil
 |_,_,.cons n t h=>.cons #[t,O] (HX h)
def lP(H:Hp):Prop:=∀b,H b=J\/∃o xs,H b=!(.frz o (.lst xs))
def WD{K:FG}
 (KX:K.In s₁.heap) (m_:s₁.heap.Ns mainGlobals mg) (j:s₁.heap.Ns builtinsNs mb) (Kb:∀x:Str,x ≠ "__name__"->mb x=bootBuiltins x) (hlim:s₁.heap.NoLimit) (hg:s₁.gens=#[])
 (ha:s₁.heap.get? a=some { cls:=.type "list",data:=.seq vs.toArray }) (hi:IntsAre vs ns) (hl:-ns<=sizeLine) (hr:qM k callerA)
 (F:∀base:Heap,K.In base->base.Ns mainGlobals mg->oK P w K mg base CX k fa fd [x] sp) (Q:∀(s:Shared)(u:Value),BindsTo s fd #[[u],[]] [(x,u)])
 (m7:∀H:Hp,lP H->bY K H a (ns.map V.int)->sp [.ref a] H (λv _=>v=.bl G) λ_ _ _=>False)
 (Ki:∀H e s',CX [] H s₁ (λ_ _ _=>False) e s'->False):
 codeAny (model P w) callerA (.call (YV fa) #[[YV a],[]]) (λr s'=>r=.ok (.ret (.bool G))/\OldK s₁.heap s'.heap/\s'.os=s₁.os/\AllBare s'.gens) s₁:=by
 let rv:=HX hi;let W:=-hi;have N:∀H:Hp,lP H->bY K H a (ns.map V.int)->jm P w H s₁.heap->(∀b,H b≠J->b=a)->(H a≠J->K.lookup a=J)->
  codeAny (model P w) callerA (.call (YV fa) #[[YV a],[]]) (λr s'=>r=.ok (.ret (.bool G))/\OldK s₁.heap s'.heap/\s'.os=s₁.os/\AllBare s'.gens) s₁:=by
  intro H hO hS hok hA hK;have i:∀{b:Addr}{o:Obj},s₁.heap.get? b=!o->H b=J->(xT s₁.heap H).get? b=!o:=λe n=>Wf e n;have Kj:∀{b:Addr}{o:Obj}{es:Array DictEntry}{ep:Nat},s₁.heap.get? b=!o->o.data=.dict es ep->H b=J:=λ{b o es ep} e d=>by
   cases q:H b with
   |none=>rfl
   |some u=>
    let e':=hA b ∅;subst e';rw[ha]at e;cases e;let d':=d;cases d'
  have D:∀{b:Addr}{m:Str->Option Value},s₁.heap.Ns b m->(xT s₁.heap H).Ns b m:=λ{b m} ⟨o,es,ep,e,d,r⟩=>#[o,es,ep,i e (Kj e d),d,r];let x6:=λb o e=>i (KX b o e) (by
   cases q:H b with
   |none=>rfl
   |some u=>
    let e':=hA b ∅;subst e';rw[hK ∅]at e;cases e)
  have hM:Mod K mg (xT s₁.heap H):=#[x6,D m_,#[mb,D j,Kb],let #[mc,h1,h2]:=hlim;#[mc,D h1,h2]];have e0:Dk P w K mg (xT s₁.heap H) callerA [] s₁ H:=#[O,hM,λb o e=>ZC e,Nat.le_of_eq (Tu _ _),trivial,λb j=>absurd (show b∈([]:List Addr) from j) (by simp),hok,.of_eq hg];show codeAny_mono ((F _ x6 (D m_)).run callerA [] s₁ H #[[YV a],[]] [YV a] [.ref a] _ _ hr e0 (Q s₁ (YV a)) (.cons O .nil) (m7 H hO hS)) λr s' h=>?_;cases r with
  |error e=>show(Ki H e s' h).elim
  |ok fl=>
   cases fl with
   |next=>show False.elim h
   |brk=>show False.elim h
   |cont=>show False.elim h
   |ret u=>
    let(v,H',os,bare,un,hok',r',q):=h;let q':=q;subst q';obtain rfl:u=Value.bool G:=r';show#[O,OldK.of_keep λb o e=>?_,os,bare];cases q:H b with
    |none=>show un.keep b o e q (by intro z;show absurd (show b∈([]:List Addr) from z) (by simp)) (by simp)
    |some u=>
     obtain z|⟨ob,xs,z⟩:=hO b
     . rw[q]at z;cases z
     . let z2:=un.frzs b ob _ z;let(e1,_):=hok b _ z;let(e2,_):=hok' b _ z2;rw[e]at e1;cases e1;show e2
 cases hk:K.lookup a with
 |some o=>
  let e:=KX a o hk;rw[ha]at e;cases e;show N (λ_=>J) (λ_=>Zl O) (YY #[_,vs.toArray,_,hk,O,O,O,by rw[gX,W];show hl,by simpa using rv]) (λb u z=>by let z':=z;cases z') (λb z=>absurd O z) λz=>absurd O z
 |none=>
  show N (λb=>if b=a then !(.frz { cls:=.type "list",data:=.seq vs.toArray } (.lst (ns.map V.int))) else J) (λb=>?_) (Zl (YY #[{ cls:=.type "list",data:=.seq vs.toArray },dA O])) (λb u z=>?_) (λb z=>?_) λ_=>hk
  . by_cases j:b=a
    . show YY #[_,_,dA j]
    . show Zl (dQ j)
  . by_cases j:b=a
    . let z':=(dA j).symm.trans z;cases z';subst j;show#[ha,by rw[eI];show hl,vs,_,rv,ha]
    . let z':=(dQ j).symm.trans z;cases z'
  . by_cases j:b=a
    . show j
    . show absurd (dQ j) z
def walk_of{l:W.OpenLaw}{K:Params->FG}{CX:World->yV}{sp:World->Sp}
 (hn:l.most=!n) (pE:n<=sizeLine) (sF:d.params.defaults=[]) (hr:qM k callerA)
 (N:∀(w:World)(h:Heap),YP w h->(K w.params).In h)
 (F:∀(w:World)(mg:Str->Option Value)(fa:Addr)(h:Heap),(K w.params).In h->h.Ns mainGlobals mg->mg d.name=!(YV fa)->
   ∃fd:FuncData,(∀(s:Shared)(u:Value),BindsTo s fd #[[u],[]] [(x,u)])/\
    ∀base:Heap,(K w.params).In base->base.Ns mainGlobals mg->oK l.prog w (K w.params) mg base (CX w) k fa fd [x] (sp w))
 (m7:∀(w:World)(H:Hp)(a:Addr)(ns:List Int),-ns<=n->lP H->bY (K w.params) H a (ns.map V.int)->sp w [.ref a] H (λv _=>v=.bl G) λ_ _ _=>False)
 (D:∀(w:World)(H:Hp)(s:Shared)(e:Value)(s':Shared),CX w [] H s (λ_ _ _=>False) e s'->False):
 W.WalkO q loose XP YP l.row.toRowW d [] (λf vs=>PySem.call f vs):=by
 show x0.attach_call hn sF λw s₀ s₁ mg mb fa o pm cd kS a vs ns ZT Y_ ho hd py Q z i j hg=>?_;let KX:=N w _ Y_;let(fd,hb,hF):=F w mg fa _ KX ZT.T.g Q;show WD KX ZT.T.g ZT.T.b ZT.T.builtins ZT.T.nolimit hg z i () hr hF hb (λH hO hS=>m7 w H a ns j hO hS) λH e s'=>D w H s₁ e s'
def eS(s:Stmt)(j:Nat):Stmt:=match s with
 |.ClassDef _ _ _ body _ _ _ _ _ _ _=>body.getD j (.Pass #[0,0,0,0])
 |_=>.Pass #[0,0,0,0]
def qO(s:Stmt):Arguments:=match s with
 |.FunctionDef _ a _ _ _ _ _ _ _ _=>a
 |_=>{ posonlyargs:=[],args:=[],vararg:=J,kwonlyargs:=[],kw_defaults:=[],kwarg:=J,defaults:=[] }
def jC(s:Stmt):List Stmt:=match s with
 |.FunctionDef _ _ b _ _ _ _ _ _ _=>b
 |_=>[]
def aG(s:Stmt):Scope:=match s with
 |.FunctionDef _ _ _ _ _ _ sc _ _ _=>sc
 |_=>{ kind:=.function,names:=[],isGenerator:=M,isCoroutine:=M }
abbrev qD:yV:=λ_ _ _ _ _ _=>False
abbrev E0:XK:=λ_ _ _=>False
def J6:zM qD X E0:=λ_ _ _ _ _ _ _ h=>h.elim
structure vD(K:FG)(x qual:Str)(st:Stmt)(f:Addr)(fd:FuncData):Prop where
 ex:∃(oc:Value)(od:Option Addr)(kV kS pm:Value)(an:Option Addr)(hZ ct:Value)(m6:Array (Option Value)),
  fd=W.fnOf x qual (qO st) (jC st) (aG st) .none kV kS pm an hZ ct/\K.lookup f=!#[oc,od,.func fd,m6]/\W.codeIn K hZ qual=true
 kp:W.keepIn K (.ref f)=true
section
variable {P:Program}{w:World}{K:FG}{mg:Str->Option Value}{base:Heap}
def vD.ok{st:Stmt}(F:vD K x qual st f fd)(S:bz N ps (aG st))(len:∀vs H Q E,sp vs H Q E->-vs=-ps)
 (z:∀(j:Value)(A:Around)(i:List Env)(s:Shared)(H:Hp)(vs:List V)(Q:VK)(E:XK),gn b k (A.deeper (envOfC qual (aG st) s.heap.objs.size f j))->sp vs H Q E->
   ∃t,jP (vC b qD P w K mg base N qual (aG st) f j A i s H E).nox (jC st) t/\t { nx:=λ_ H'=>Q .non H',rt:=Q } (start N vs) H):t6 b P w K mg base qD (k+1) f fd ps sp:=by
 let(oc,od,kV,kS,pm,an,j,ct,m6,rfl,lk,D):=F.ex;show IU lk D S len λA i s H vs Q E hr W=>?_;let(t,h,q):=z j A i s H vs Q E hr W;show#[t,h.nox,q]
def vD.binds{st:Stmt}(F:vD K x qual st f fd)
 (h:∀(kV i z:Value)(N:Option Addr)(j D:Value)(q:List Value),-q=-ps->bindArgs (W.fnOf x qual (qO st) (jC st) (aG st) .none kV i z N j D) #[q,[]]=pure (ps.zip q)):fA K fd ps []:=by
 let(oc,od,kV,i,z,N,j,D,m6,rfl,lk,Q):=F.ex;show .all ∅
def zQ{st:Stmt}{kV j z i q:Value}(l:K.lookup f=!#[oc,od,.func (W.fnOf x qual (qO st) (jC st) (aG st) .none kV j z an i q),m6])
 (c:W.codeIn K i qual=G) (k:W.keepIn K (YV f)=G):vD K x qual st f (W.fnOf x qual (qO st) (jC st) (aG st) .none kV j z an i q):=#[#[oc,od,kV,j,z,an,i,q,m6,O,l,c],k]
end
def Bj(i:gn b k A):A.units+1<cLine:=oS () i.units
section
variable {X:Cx}
def pv(i:Nat){pos:Pos}(D:X.N[i]?=!x:=by rfl)(q:Tv X.env.scope x:=by first |show Or.inl O |show Or.inr (Or.inl O) |show Or.inr (Or.inr O))(z:(x==("__debug__" : Str))=M:=by decide)
 (j:(x==("__classdict__" : Str))=M:=by decide):PE X (.Name x pos) (uH i):=F8 D q z j
end
def eY_(H H':Hp):Prop:=∀b o,H b=!o->H' b=!o
def eY_.refl(H:Hp):eY_ H H:=λ_ _ h=>h
def eY_.trans(a:eY_ H H1)(b:eY_ H1 H2):eY_ H H2:=λc o h=>b c o (a c o h)
def eY_.free(e:eY_ H H')(h:H' l=Option.none):H l=Option.none:=by
 cases q:H l with
 |none=>rfl
 |some o=>
  rw[e l o q]at h;cases h
def eY_.seq{K:FG}(e:eY_ H H')(h:bY K H a xs):bY K H' a xs:=by
 obtain (h|⟨o,h⟩)|h:=h
 . show Zl (Zl (e _ _ h))
 . show Zl (YY #[o,e _ _ h])
 . show YY h
section
variable {κ:Type}[DecidableEq κ]
noncomputable def qP (d3:List (κ×V)) (k:κ):Option V:=(d3.find? λkv=>decide (kv.1=k)).map (·.2)
noncomputable def f7 (d3:List (κ×V)) (k:κ) (v:V):List (κ×V):=
 if (d3.any λkv=>decide (kv.1=k))=G then d3.map (λkv=>if kv.1=k then (kv.1,v) else kv) else d3++[(k,v)]
def xW{k:κ}(e:p.1=k):qP (p::r) k=!p.2:=by simp[qP,e]
def xX{k:κ}(e:¬ p.1=k):qP (p::r) k=qP r k:=by simp[qP,e]
theorem xY(k:κ):∀i:List (κ×V),(i.any λj=>decide (j.1=k))=(qP i k).isSome
 |[]=>rfl
 |p::r=>by
  rw[rV];by_cases e:p.1=k
  . simp only[xW e,kR e,Bool.true_or,Option.isSome_some]
  . rw[xX e,kf e,Bool.false_or];show xY k r
def CQ(i:List (κ×V))(k:κ)(v:V):-(f7 i k v)<=-i+1:=by
 unfold f7;split
 . grind
 . grind
def WF{k:κ}(v:V)(h:qP d3 k=J):f7 d3 k v=d3++[(k,v)]:=by unfold f7;rw[xY,h];grind
def nH.isSome_eq(r:nH o u):o.isSome=u.isSome:=by
 cases o with
 |none=>cases u with
  |none=>rfl
  |some _=>show(r).elim
 |some _=>cases u with
  |none=>show(r).elim
  |some _=>rfl
def KV.val(r:KV d3 vs)(k:κ):nH (qP d3 k) (valueAt vs k):=by
 induction r with
 |nil=>show True.intro
 | @cons p q ps j h t D=>
  let(h1,h2):=h;by_cases e:p.1=k
  . let i:=h1.symm.trans e;have b:valueAt (q::j) k=!q.2:=by simp[valueAt,i]
    rw[xW e,b];show h2
  . have i:¬ q.1=k:=λz=>e ∅;have b:valueAt (q::j) k=valueAt j k:=by simp[valueAt,i]
    rw[xX e,b];grind
theorem KV.any(r:KV d3 vs)(k:κ):(d3.any λi=>decide (i.1=k))=vs.any λi=>decide (i.1=k):=by
 induction r with
 |nil=>rfl
 |cons h t j=>grind
def KV.repl(r:KV d3 vs)(k:κ)(z:dE y u):
 KV (d3.map λi=>if i.1=k then (i.1,y) else i) (vs.map λi=>if i.1=k then (i.1,u) else i):=by
 induction r with
 |nil=>show .nil
 | @cons p q ps D h t j=>
  rw[fU,fU];show .cons ?_ j;let(h1,h2):=h;by_cases e:p.1=k
  . grind
  . grind
def KV.put(r:KV d3 vs)(k:κ)(i:dE y u):KV (f7 d3 k y) (stored vs k u):=by
 unfold f7 stored;rw[r.any k];by_cases e:(vs.any λj=>decide (j.1=k))=G
 . rw[dA e,dA e];show r.repl k i
 . rw[dQ e,dQ e];show Paired.snoc r #[O,i]
theorem KV.length{vs:List (κ×Value)}(r:KV d3 vs):-d3=-vs:=Paired.length r
end
def J7(r:dE (kV k) u):(fW P w).is k u=G:=by
 cases k with
 |inl i=>let(t,e):=(r);subst e;show Oo P w i t
 |inr x=>let(t,e):=(r);subst e;show Oq P w x t
theorem HY:∀{ks:List fR}{i:List Value},db (ks.map kV) i->ItemsAre (fW P w) ks i
 |[],_,r=>by  cases r;show .nil
 |k::ks,_,r=>by
  cases r with
  |cons h t=>show .cons (J7 h) (HY t)
abbrev KT(H:Hp):List (List fR×V)->List (List fR×Addr×Value)->Prop:=Paired λp q=>p.1=q.1/\H q.2.1=!(.tup (p.1.map kV))/\dE p.2 q.2.2
def KT.val(r:KT H d3 xs)(k:List fR):nH (qP d3 k) ((atKey xs k).map (·.2)):=by
 induction r with
 |nil=>show True.intro
 | @cons p q ps j h t D=>
  let(h1,_,h2):=h;by_cases e:p.1=k
  . let i:=h1.symm.trans e;have b:atKey (q::j) k=!q.2:=by simp[atKey,i]
    rw[xW e,b];show h2
  . have i:¬ q.1=k:=λz=>e ∅;have b:atKey (q::j) k=atKey j k:=by simp[atKey,i]
    rw[xX e,b];grind
def KT.repl(r:KT H d3 xs)(k:List fR)(D:dE y u):
 KT H (d3.map λi=>if i.1=k then (i.1,y) else i) (xs.map (putAt k u)):=by
 induction r with
 |nil=>show .nil
 | @cons p q ps F h t j=>
  rw[fU,fU];show .cons ?_ j;let(h1,h2,z):=h;unfold putAt;by_cases e:p.1=k
  . grind
  . grind
def KT.put(r:KT H d3 xs)(k:List fR)(z:H b=!(.tup (k.map kV)))(i:dE y u):
 KT H (f7 d3 k y) (storedH xs k b u):=by
 have e:(d3.any λj=>decide (j.1=k))=(atKey xs k).isSome:=by rw[xY,(r.val k).isSome_eq,Option.isSome_map]
 unfold f7 storedH;rw[e];by_cases q:(atKey xs k).isSome=G
 . rw[dA q,dA q];show r.repl k i
 . rw[dQ q,dQ q];show Paired.snoc r #[O,z,i]
def KT.keeps(r:KT H d3 xs)(i:∀b ys,H b=!(.tup ys)->H' b=!(.tup ys)):KT H' d3 xs:=
 Paired.mapP r λ_ _ z=>#[z.1,i _ _ z.2.1,z.2.2]
section
variable {P:Program}{w:World}{H:Hp}{h:Heap}{a:Addr}
def Y5(ok:jm P w H h)(e:Rd H a u):fG P w H h a u:=e.ok ok
def R1(ok:jm P w H h)(e:Rd H a (.dK d3)):-d3<=sizeLine/\(a==sysModules)=M/\∃vs,KV d3 vs/\h.DictOf (fW P w) a vs:=
 show fG P w H h a (.dK d3) from Y5 ok e
def Kk(ok:jm P w H h)(e:H a=!(.dK d3)):-d3<=sizeLine/\(a==sysModules)=M/\∃vs,KV d3 vs/\h.DictOf (fW P w) a vs:=R1 ok (Zl e)
def K1(ok:jm P w H h)(e:H a=!(.tup (ks.map kV))):(tupleKind (fW P w)).is h ks a:=by let(_,i,r,o,h1,h2,n,j):=(ok a _ e);show#[o,i.toArray,n,h1,h2,j,by simpa using HY r]
def R3(ok:jm P w H h)(e:Rd H a (.dT d3)):-d3<=sizeLine/\(a==sysModules)=M/\
 ∃xs,KT H d3 xs/\h.DictOfH (tupleKind (fW P w)) a xs:=by
 let(z,y,xs,r,o,es,D,h1,h2,j,N,F):=(Y5 ok e);show#[z,y,xs,r,o,es,D,h1,h2,j,N,λx i=>?_,F];have all:∀{l:List (List fR×V)}{m:List (List fR×Addr×Value)},KT H l m->∀x∈m,(tupleKind (fW P w)).is h x.1 x.2.1:=by
  intro l m q;induction q with
  |nil=>grind
  | @cons p q ps W Q t ih=>
   intro x i;obtain e|i:=d5.mp i
   . subst e;show K1 ok ∅
   . grind
 grind
def Kn(ok:jm P w H h)(e:H a=!(.dT d3)):-d3<=sizeLine/\(a==sysModules)=M/\
 ∃xs,KT H d3 xs/\h.DictOfH (tupleKind (fW P w)) a xs:=R3 ok (Zl e)
end
def WK(H:Hp)(a:Addr)(y:V)(r:Option V):Prop:=
 (∃d3 k,Rd H a (.dK d3)/\y=kV k/\r=qP d3 k)\/∃d3 k b,Rd H a (.dT d3)/\y=.ref b/\H b=!(.tup (k.map kV))/\r=qP d3 k
def x8(H:Hp)(a:Addr)(y v:V)(H':Hp):Prop:=
 (∃d3 k,H a=!(.dK d3)/\y=kV k/\-d3<sizeLine/\H'=dW H a (.dK (f7 d3 k v)))\/
 ∃d3 k b,H a=!(.dT d3)/\y=.ref b/\H b=!(.tup (k.map kV))/\-d3<sizeLine/\H'=dW H a (.dT (f7 d3 k v))
section
variable {X:Cx}{a_:List (Addr×Obj)}{U:St}{H:Hp}{s:Shared}{a:Addr}{y v:V}{u r:Value}{o:Option V}{A:Around}{E:Value->Shared->Prop}
def c_.big(I:c_ X a_ U H s):sysModules< ~~~s.heap.objs:=by let h:=(I.mod.glob.keeps I.bk).lt;show Nat.lt_trans () h
def Ui(hu:A.units+1<cLine)(I:c_ X a_ U H s)(g:WK H a y (!v))(ry:dE y u)(h:∀q s',c_ X a_ U H s'->dE v q->Q q s'):
 wpAny (model X.prog X.w) A (getItem (YV a) u) Q E s:=by
 obtain⟨W,k,e,N,l⟩|⟨W,k,b,e,N,eb,l⟩:=g
 . subst N;let(z,hd,vs,j,D):=R1 I.hok e;let(q,hw,i):=nH.some_of (by rw[l];show j.val k);show wpAny_getItem_of (J7 ry) D.mapOf hw (h q _ (I.tok _) i)
 . subst N;cases (ry);let(z,hd,xs,j,D):=R3 I.hok e;let(q,hw,i):=nH.some_of (by rw[l];show j.val k);let(p,hp,F):=Option.map_eq_some_iff.mp hw;show wpAny_getItem_heap (tupleKind_room_in1 hu) (K1 I.hok eb) D hp ?_;rw[F];show h q _ (I.tok _) i
def GQ(I:c_ X a_ U H s)(mu:Tt (H a))(hs:Heap.SameBut a s.heap h')(he:∃q,h'.get? a=!q)(new:fG X.prog X.w (dW H a ob) h' a ob):
 c_ X a_ U (dW H a ob) { s with heap:=h',toks:=t' }:=
 I.write mu (Zl O) (λb q D z=>(hs.2 b D).trans z) he new
def Kt(z:-d3<=sizeLine)(j:(a==sysModules)=M)(i:KV d3 vs)(q:h'.DictOf (fW P w) a vs):
 fG P w H' h' a (.dK d3):=#[z,j,vs,i,q]
def Uj(hu:A.units+1<cLine)(I:c_ X a_ U H s)(g:x8 H a y v H')(ry:dE y u)(rv:dE v r)(h:∀s',c_ X a_ U H' s'->Q ⟨⟩ s'):
 wpAny (model X.prog X.w) A (setItem (YV a) u r) Q E s:=by
 obtain⟨j,k,e,ey,l,W⟩|⟨j,k,b,e,ey,eb,l,W⟩:=g
 . subst ey W;let(z,hd,vs,i,N):=Kk I.hok e;have hz:-vs<=sizeLine:=by rw[<-(-i)];show z
   have hl:-(f7 j k v)<=sizeLine:=by have:=CQ j k v;lia
   show wpAny_setItem_pairs (J7 ry) N λh' D hs=>h _ ?_;have he:∃q,h'.get? a=!q:=let #[q,_,_,F,_]:=D;#[q,F];show GQ I (by rw[e];show True.intro) hs he (Kt hl hd (i.put k rv) D)
 . subst ey W;cases (ry);let(z,hd,xs,i,N):=Kn I.hok e;have hz:-xs<=sizeLine:=by rw[<-Paired.length i];show z
   have hl:-(f7 j k v)<=sizeLine:=by have:=CQ j k v;lia
   show wpAny_setItem_heap (tupleKind_room_in1 hu) (K1 I.hok eb) N λh' D hs=>h _ ?_;let(q,es,ep,F,h2,h3,h4,_,h5):=D;show GQ I (by rw[e];show True.intro) hs #[q,F] #[hl,hd,_,(i.put k eb rv).keeps λc ys ec=>?_,q,es,ep,F,h2,h3,h4,h5];rw[cV ∅];show ec
end
def Ot{U:St}(I:c_ X a_ U H s)(g:WK H a y o):s.TypeIs (YV a) "dict":=by
 obtain⟨i,k,e,_⟩|⟨i,k,b,e,_⟩:=g
 . let(_,_,q,_,j):=R1 I.hok e;show j.typeIs
 . let(_,_,xs,_,j):=R3 I.hok e;show j.typeIs
def WL(h:Heap)(i:sysModules< ~~~h.objs):fG P w H (h.push { cls:=.type "dict",data:=.dict #[] }) h.objs.size (.dK []):=
 #[gy _,nB.mpr ∅,[],.nil,Heap.DictOf.new h]
def Kv:TE:=λ_ H Q=>∀p,H p=J->Q (.ref p) (dW H p (.dK []))
section
variable {X:Cx}{pos:Pos}
def WM:PE X (.Dict [] [] pos) Kv:=λa_ s U H Q I h=>
 wpAny_Dict_empty #[.ref s.heap.objs.size,_,I.laid (λ_ _ q=>fz _ q) () (WL s.heap I.big),O,h _ (I.hok.fresh ())]
end
noncomputable def vG (names:List (Str×NameKind)) (env:Env):List (Str×Addr):=names.foldl (λcs p=>if (p.2==NameKind.free)=G then (p.1,(env.cells.lookup p.1).getD 0)::cs else cs) []
theorem zR{env:Env}:∀(i:List (Str×NameKind))(cs:List (Str×Addr))(x:Str)(c:Addr),
 (∀y d,cs.lookup y=!d->d=(env.cells.lookup y).getD 0)->
 (i.foldl (λcs p=>if (p.2==NameKind.free)=G then (p.1,(env.cells.lookup p.1).getD 0)::cs else cs) cs).lookup x=!c->c=(env.cells.lookup x).getD 0
 |[]=>λcs x c h e=>h x c e
 |(n,k)::r=>λcs x c h e=>by
  simp only[kQ]at e;show zR r _ x c ?_ e;intro y d q;split at q
  . simp only[js]at q;split at q
    . rename_i z;have j:y=n:=by simpa using z
      grind
    . grind
  . grind
theorem Et{env:Env}:∀(i:List (Str×NameKind))(cs:List (Str×Addr))(x:Str)(c:Addr),
 (i.foldl (λcs p=>if (p.2==NameKind.free)=G then (p.1,(env.cells.lookup p.1).getD 0)::cs else cs) cs).lookup x=!c->(∃d,cs.lookup x=!d)\/(x,NameKind.free)∈i
 |[]=>λcs x c e=>Zl #[c,e]
 |(n,k)::r=>λcs x c e=>by
  simp only[kQ]at e;obtain⟨d,q⟩|q:=Et r _ x c e
  . split at q
    . rename_i hk;simp only[js]at q;split at q
      . rename_i z;have j:x=n:=by simpa using z
        have D:k=NameKind.free:=by simpa using hk
        grind
      . grind
    . grind
  . grind
theorem zU{env:Env}:∀(i:List (Str×NameKind))(cs:List (Str×Addr))(x:Str),
 ((∃d,cs.lookup x=!d)\/(x,NameKind.free)∈i)->∃c,(i.foldl (λcs p=>if (p.2==NameKind.free)=G then (p.1,(env.cells.lookup p.1).getD 0)::cs else cs) cs).lookup x=!c
 |[]=>λcs x h=>by
  obtain h|h:=h
  . show h
  . cases h
 |(n,k)::r=>λcs x h=>by
  simp only[kQ];show zU r _ x ?_;obtain⟨d,h⟩|h:=h
  . left;split
    . simp only[js];split
      . grind
      . grind
    . grind
  . obtain e|h:=d5.mp h
    . left;cases e;simp
    . grind
theorem tH:∀(i:List (Str×NameKind))(cs:List (Str×Addr)),(∀p∈i,p.2=NameKind.free->∃c,env.cells.lookup p.1=!c)->
 (forIn i cs λp r=>if (p.2==NameKind.free)=G then do let a <-cellOf env p.1;pure (ForInStep.yield ((p.1,a)::r)) else pure (ForInStep.yield r):Sem (List (Str×Addr)))=
  pure (i.foldl (λcs p=>if (p.2==NameKind.free)=G then (p.1,(env.cells.lookup p.1).getD 0)::cs else cs) cs)
 |[]=>λcs _=>by simp
 |(n,k)::r=>λcs h=>by
  rw[List.forIn_cons,kQ];by_cases hk:(k==NameKind.free)=G
  . let(c,z):=h (n,k) ed ∅;let q:=z;simp only[hk,cellOf,q];show tH r _ λp j=>h p (e_ _ j)
  . simp only[hk];show tH r _ λp j=>h p (e_ _ j)
def yW(h:∀p∈sc.names,p.2=NameKind.free->∃c,env.cells.lookup p.1=!c):closureFor sc env=pure (vG sc.names env):=by have:=tH sc.names [] h;unfold closureFor vG;grind
theorem qQ{env:Env}:∀(names:List (Str×NameKind))(x:Str),
 (names.map λ(n,k)=>if (k==NameKind.free&&env.scope.kind==.function&&env.kindOf n==!.cell) then (n,NameKind.cell) else (n,k)).lookup x=
  (names.lookup x).map λk=>if (k==NameKind.free&&env.scope.kind==.function&&env.kindOf x==!.cell) then NameKind.cell else k
 |[],x=>rfl
 |(n,k)::r,x=>by
  let ih:=qQ (env:=env) r x;simp only[fU];by_cases hx:x=n
  . subst hx;split<;>simp_all
  . have hb:(x==n)=false:=nB.mpr hx;split<;>simp only[js,hb,ih]
theorem jK:∀(i:List (Str×NameKind))(n:Nat)(acc:List (Str×Addr)),(cellsFrom n i acc).lookup x=!a->n<=a\/acc.lookup x=!a
 |[]=>λ_ _ h=>YY h
 |(y,k)::r=>λn acc h=>by
  unfold cellsFrom at h;split at h
  . obtain q|q:=jK r _ _ h
    . grind
    . rw[js]at q;split at q
      . grind
      . grind
  . show jK r _ _ h
theorem zV:∀(i:List (Str×NameKind))(n:Nat)(acc:List (Str×Addr)),(∀z b,acc.lookup z=!b->b<n)->(cellsFrom n i acc).lookup x=!a->(cellsFrom n i acc).lookup y=!a->n<=a->x=y
 |[]=>λ_ _ h h1 h2 j=>absurd (h _ _ h1) ∅
 |(z,k)::r=>λn acc h h1 h2 j=>by
  unfold cellsFrom at h1 h2;split at h1
  . rename_i hk;rw[dA hk]at h2;have one:∀{w:Str},(cellsFrom (n+1) r ((z,n)::acc)).lookup w=!a->a=n->w=z:=λ{w} e e'=>by
     obtain q|q:=jK r _ _ e
     . grind
     . rw[js]at q;split at q
       . grind
       . grind
    by_cases e:a=n
    . grind
    . show zV r (n+1) _ (λw b q=>?_) h1 h2 ∅;rw[js]at q;split at q
      . grind
      . grind
  . rename_i hk;rw[dQ hk]at h2;show zV r n acc h h1 h2 j
theorem zW:∀(i:List (Str×NameKind))(n:Nat)(acc:List (Str×Addr)),i.lookup x=!.cell->(cellsFrom n i acc).lookup x=!a->n<=a
 |[]=>λ_ _ h _=>by cases h
 |(y,k)::r=>λn acc h h1=>by
  rw[js]at h;unfold cellsFrom at h1;split at h
  . rename_i j;cases h;obtain q|q:=jK r _ _ h1
    . grind
    . grind
  . split at h1
    . show rT (zW r _ _ h h1)
    . show zW r _ _ h h1
theorem zX:∀(i:List (Str×NameKind))(n:Nat)(acc:List (Str×Addr)),(∀p∈i,p.2=.cell->p.1≠x)->(cellsFrom n i acc).lookup x=acc.lookup x
 |[]=>λ_ _ _=>rfl
 |(y,k)::r=>λn acc h=>by
  unfold cellsFrom;split
  . rename_i hk;rw[zX r _ _ λp j=>h p (e_ _ j),js,show (x==y)=M from nB.mpr λe=>h _ ed ∅ e.symm]
  . show zX r _ _ λp j=>h p (e_ _ j)
theorem xZ:∀(i:List (Str×NameKind))(h:Heap)(acc:List (Str×Addr))(x:Str)(a:Addr),(cellsFrom h.objs.size i acc).lookup x=!a-> ~~~h.objs<=a->(∀z b,acc.lookup z=!b->b< ~~~h.objs)->(pushCells h i).IsCell a J
 |[]=>λh acc x a e F j=>absurd (j _ _ e) ∅
 |(y,k)::r=>λh acc x a e F j=>by
  unfold cellsFrom at e;unfold pushCells;split at e
  . rename_i hk;rw[dA hk];let N:=mw h ({ cls:=.type "cell",data:=.cell J }:Obj);by_cases q:a= ~~~h.objs
    . subst q;show#[_,pushCells_keeps r _ _ _ (ge _ O),O]
    . show xZ r _ ((y,~~~h.objs)::acc) x a ∅ ∅ λz b D=>?_;rw[N];rw[js]at D;split at D
      . grind
      . grind
  . rename_i hk;rw[dQ hk];show xZ r h acc x a e F j
abbrev oM(sc:Scope)(C:Addr)(env:Env):List (Str×Addr):=cellsFrom (C+1) sc.names (vG sc.names env)
structure jE(X:Cx)(ZO F:List Str)(ixs:List Nat)(sc:Scope):Prop where
 kind:sc.kind=.function
 locs:∀y∈sc.names,y.2=.local->sc.names.lookup y.1=!.local
 cel:∀y∈sc.names,y.2=.cell->sc.names.lookup y.1=!.cell
 own:∀p∈sc.names,p.2=.free->X.env.scope.names.lookup p.1=!.cell\/X.env.scope.names.lookup p.1=!.free
 frs:∀x∈F,sc.names.lookup x=!.free
 ixl:-ixs=-F
 ixn:∀(j i:Nat),ixs[j]?=!i->X.N[i]?=F[j]?
abbrev zY(m:Nat)(ixs:List Nat)(U:St):St:=List.replicate m J++ixs.map λi=>(U[i]?).join
def gC(X:Cx)(ZO F:List Str)(sc:Scope)(C:Addr)(fp:List Addr)(s:Shared)(H:Hp):Cx where
 prog:=X.prog
 w:=X.w
 K:=X.K
 mg:=X.mg
 base:=X.base
 A:=X.A
 N:=ZO++F
 s₀:=s
 H0:=H
 env:=compEnvC sc (oM sc C X.env) C X.env
 outer:=X.stack
 stack:=X.stack
 ex:=fp
 fn:=λx=>sc.names.lookup x==!.cell
 calm:=X.calm
 pn:=[]
 xe:=λ_ _=>False
section
variable {X:Cx}{a_:List (Addr×Obj)}{U:St}{H:Hp}{s:Shared}
def jE.free_of(c:jE X ZO F ixs sc)(h:sc.names.lookup x=!k):(x,k)∈sc.names:=by
 generalize sc.names=l at h;induction l with
 |nil=>cases h
 |cons p r j=>
  rw[js]at h;split at h
  . rename_i z;have i:x=p.1:=by simpa using z
    grind
  . grind
def Dm(I:c_ X a_ U H s)(c:jE X ZO F ixs sc):∀p∈sc.names,p.2=NameKind.free->∃a,X.env.cells.lookup p.1=!a:=λp i e=>
 I.ok.has p.1 (by obtain h|h:=c.own p i e;show Zl h;show YY h)
def je(I:c_ X a_ U H s)(c:jE X ZO F ixs sc)(h:(vG sc.names X.env).lookup x=!a):X.env.cells.lookup x=!a:=by
 let e:=zR sc.names [] x a (λy d q=>by cases q) h;obtain⟨d,q⟩|q:=Et sc.names [] x a h
 . cases q
 . let(b,i):=Dm I c _ q O;grind
def Uk(I:c_ X a_ U H s)(c:jE X ZO F ixs sc)(h:(vG sc.names X.env).lookup x=!a):a< ~~~s.heap.objs:=by let(v,o,i,_):=I.cell x a (je I c h);show eP i
def Z7(I:c_ X a_ U H s)(c:jE X ZO F ixs sc){C:Addr}(N: ~~~s.heap.objs<=C)(Q:∀b∈fp,nJ X a_ H b)(ho:∀b∈fp,∃o,s.heap.get? b=!o):(gC X ZO F sc C fp s H).Ok where
 mod:=I.ok.mod
 kind:=c.kind
 glob:=I.ok.glob
 blt:=I.ok.blt
 above:=N
 inj:=λx y a e1 e2=>by
  let j:=e1;let D:=e2;have lt:∀z b,(vG sc.names X.env).lookup z=!b->b<C+1:=λz b q=>j3 (g9 (Uk I c q) N);obtain q|q:=jK _ _ _ j
  . show zV _ _ _ lt j D q
  . obtain W|W:=jK _ _ _ D
    . grind
    . show I.ok.inj x y a (je I c q) (je I c W)
 has:=λx h=>by
  have h':((sc.names.lookup x).map λk=>if (k==NameKind.free&&X.env.scope.kind==.function&&X.env.kindOf x==!.cell) then NameKind.cell else k)=!.cell\/((sc.names.lookup x).map λk=>if (k==NameKind.free&&X.env.scope.kind==.function&&X.env.kindOf x==!.cell) then NameKind.cell else k)=!.free:=by rw[<-qQ];show h
  show rX.mp (se _ _ _ ?_);cases e:sc.names.lookup x with
  |none=>grind
  |some k=>
   rw[e]at h';let m:=c.free_of e;cases k with
   |free=>show YY (rX.mpr (zU sc.names [] x (YY m)))
   |cell=>grind
   |_=>grind
 cab:=λx a h e=>gL N (rT (zW _ _ _ (beq_iff_eq.mp h) e))
 hd:=I.ok.hd
 frames:=I.ok.frames
 stk:=Zl O
 exf:=λb i=>#[by
  let(o,e):=ho b i;show ga (g9 (eP e) N),λx a e=>by
  let(o,eo):=ho b i;obtain q|q:=jK _ _ _ (e)
  . show kc (g9 (eP eo) ())
  . show(Q b i).2.2.2.2.1 x a (je I c q)]
 bs:=I.bs
 bsz:=gL I.ok.bsz I.sz
 noex:=λb o e i=>by
  let(_,_,_,h,_):=Q b i;obtain h|h:=h
  . show I.ok.noex b o e h
  . show absurd (g9 (eP (I.ok.bs b o e).1) h) ()
 exfs:=λb i z=>by
  let(_,h1,h2,_):=Q b i;obtain z|z:=d5.mp (I.stkSub b z)
  . grind
  . grind
 funs:=I.stack
 frf:=I.stkFree
def WN(I:c_ X a_ U H s)(c:jE X ZO F ixs sc)(hf:∀b∈fp,nJ X a_ H b)(ho:∀b∈fp,∃o,s.heap.get? b=!o)
 {C:Addr} (hC:C= ~~~s.heap.objs+1) (m_:h₁.Ns C m1) (Q:∀b o,s.heap.get? b=!o->h₁.get? b=!o)
 (hD:h₁.get? s.heap.objs.size=some { cls:=.type "list",data:=.seq #[] 0 }) (sK:∀x a,(oM sc C X.env).lookup x=!a->C+1<=a->h₁.IsCell a J):
 c_ (gC X ZO F sc C fp s H) [] (zY (-ZO) ixs U) (dW H s.heap.objs.size (.lst [])) { s with heap:=h₁,toks:=tk }:=by
 let ng:=I.hok.fresh (eK _);have j: ~~~s.heap.objs<=C:=by rw[hC];show ox _
 let sL:=I.hok.fresh j;let hok:=Z7 I c j hf ho;show#[hok,O,I.bare,Un.laid Q (eK _) ng,#[m1,m_,?_],?_,?_,?_,?_,?_,?_]
 . intro i x v e1 e2 hv;have nI:(ZO++F)[i]?=!x:=e1;by_cases hi:i< -ZO
   . grind
   . rw[hW ()]at nI;rw[hW ∅]at e2;simp only[List.length_replicate,fI]at e2;cases q:ixs[i-(-ZO)]? with
     |none=>grind
     |some i'=>
      rw[q]at e2;have e2':(U[i']?).join=!v:=by simpa using e2
      have e3:U[i']?=!(!v):=by
       cases z:U[i']? with
       |none=>grind
       |some y=>grind
      let xF:=g7 nI;let W:=c.frs x xF;let hm:=c.free_of W;let hX:=c.own _ hm O;have hN:X.N[i']?=!x:=by rw[c.ixn _ _ q];show nI
      let(m,hn,hl):=I.loc;have Kw:Tv X.env.scope x:=by
       obtain h|h:=hX
       . show YY (Zl h)
       . show YY (YY h)
      let(u,r,l):=hl i' x v hN e3 Kw;show#[u,r,YY #[?_,?_]]
      . show (Env.kindOf (compEnvC sc (oM sc C X.env) C X.env) x=_)\/(Env.kindOf (compEnvC sc (oM sc C X.env) C X.env) x=_);have:Env.kindOf (compEnvC sc (oM sc C X.env) C X.env) x=(sc.names.lookup x).map λk=>if (k==NameKind.free&&X.env.scope.kind==.function&&X.env.kindOf x==!.cell) then NameKind.cell else k:=qQ sc.names x
        rw[this,W];simp only[kA];split
        . grind
        . grind
      . obtain⟨hk,_⟩|⟨_,cc,nE,hcell⟩:=l
        . obtain h|h:=hX
          . have Kx:X.env.scope.names.lookup x=!.local:=hk;grind
          . have Kx:X.env.scope.names.lookup x=!.local:=hk;grind
        . let(a,ha):=zU sc.names [] x (YY hm);let x9:=je I c ha;rw[nE]at x9;cases x9;let(oc,D,hd):=hcell;show#[cc,(zX _ _ _ λp hp e z=>by have:=c.cel p hp e;rw[z,W]at this;cases this).trans ha,oc,Q _ _ D,hd]
 . intro x a e;let e':=e;obtain q|q:=jK _ _ _ e'
   . show#[J,sK x a e' q]
   . let(v,oc,D,hd):=I.cell x a (je I c q);show#[v,oc,Q _ _ D,hd]
 . rw[cV (by rw[hC];show Nat.succ_ne_self _)];show sL
 . intro x a e;obtain q|q:=jK _ _ _ (e)
   . let q':=oS j q;rw[cV (kc q')];show I.hok.fresh ()
   . let(v,oc,D,hd):=I.cell x a (je I c q);rw[cV ∅];show I.freeC x a (je I c q)
 . intro p hp;cases hp
 . show I.hok.laid Q () #[gy _,[],0,.nil,hD]
 . show -(List.replicate ZO.length J++_)=-(ZO++F);simp[c.ixl]
def v5(X:Cx)(iA:List Expr)(t:TT):Prop:=
 ∀(a_:List (Addr×Obj))(s:Shared)(U:St)(H:Hp)(Q:Bool->Hp->Prop),c_ X a_ U H s->t U H Q->
  wpAny (model X.prog X.w) X.A (forIn iA G λc r=>if r=G then do let ok <-isTrue c X.env (eval c X.env);pure (ForInStep.yield ok) else pure (ForInStep.yield r)) (TP X a_ U Q) X.xe s
def WP:v5 X [] (λ_ H Q=>Q G H):=λ_ s U H Q I h=>wpAny_tests_nil #[H,I,h]
def WQ(h:PT X c t):v5 X [c] t:=λa_ s U H Q I q=>wpAny_tests_one (h a_ s U H Q I q)
def R4(wi:TI)(m:Nat)(ixs:List Nat)(g:TG)(tc:TT)(te:TE):TE:=λU H Q=>wi U H λZU H1=>∀p,H1 p=J->
 ∃W:Nat->Nat->St->Hp->Prop,(∃n,W 0 n (zY m ixs U) (dW H1 p (.lst [])))/\∀i n U' H',W i n U' H'->
  ((ZU.stop i H'/\Q (.ref p) H')\/(ZU.go i H'/\∀x H2,ZU.yld i H' x H2->g x U' H2 λU3 H3=>tc U3 H3 λb H4=>
    if b=G then te U3 H4 λv H5=>∃ys,H5 p=!(.lst ys)/\-ys<sizeLine/\∃n',n'<n/\W (i+1) n' U3 (dW H5 p (.lst (ys++[v])))
    else ∃n',n'<n/\W (i+1) n' U3 H4))
def CI(X:Cx)(fp:List Addr)(tn:Nat->Heap->Prop)(W:Nat->Nat->St->Hp->Prop)(n:Nat)(s:Shared):Prop:=∃i U H,c_ X [] U H s/\tn i s.heap/\(∀b∈fp,H b=J)/\W i n U H
def zZ{P:Prop}(h:∀G:Prop,(P->G)->G):P:=h P id
def Ul{F:Hp->Prop}(Q:X.calm=G)(T:io X.prog X.w X.K tg ZU fp it tn)(hg:PG X tg g)(hc:v5 X iA tc)(he:PE X elt te)(hx:∀u s,X.xe u s->False)
 (z:∀{H':Hp},(∀b∈fp,H' b=J)->∀b∈fp,nJ X [] H' b)
 (turn:∀i n U' H',W i n U' H'->((ZU.stop i H'/\F H')\/(ZU.go i H'/\∀x H2,ZU.yld i H' x H2->g x U' H2 λU3 H3=>tc U3 H3 λb H4=>
   if b=G then te U3 H4 λv H5=>∃ys,H5 D=!(.lst ys)/\-ys<sizeLine/\∃n',n'<n/\W (i+1) n' U3 (dW H5 D (.lst (ys++[v])))
   else ∃n',n'<n/\W (i+1) n' U3 H4)))
 {ZN:Result->Shared->Prop} (hR:∀U' H' s',c_ X [] U' H' s'->F H'->ZN (.ok .next) s') (n:Nat) (s':Shared) (hI:CI X fp tn W n s'):
 wpAny (model X.prog X.w) X.A (compTurn (.ListComp elt [#[tg,iter,iA,0]] sc pos) 0 (YV it) (YV D) X.env)
  (λfin s'=>match fin with |.done f=>ZN (.ok f) s' |.again c'=>c'=.compLoop (.ListComp elt [#[tg,iter,iA,0]] sc pos) 0 (YV it) (YV D) X.env/\∃m,m<n/\CI X fp tn W m s') (λ_ _=>False) s':=by
 show zZ λZT q=>?_;let(i,U',H',I',f6,x_,w'):=hI;obtain⟨stop,qn⟩|⟨go,step⟩:=turn i n U' H' w'
 . show q (da (wpAny_standAt (da (wpAny_mono (T.done X O O O Q i [] s' U' H' (λ_ _=>False) I' (z x_) f6 stop) (λr s4 h4=>?_) λ_ _ f=>f))));let(hr,I4):=h4;subst hr;show d0 (hR U' H' _ I4 qn)
 . show q (da (wpAny_standAt (da (wpAny_mono (T.item X O O O Q i [] s' U' H' (λ_ _=>False) I' (z x_) f6 go) (λr s4 h4=>?_) λ_ _ f=>f))));let(u,hr,h4):=h4;subst hr;show da (wpAny_mono h4 (λ_ s5 h5=>?_) λ_ _ f=>f);show zZ λZT q=>?_;let(x,H5,I5,r5,y5,lI,sw):=h5;have N:∀{s7:Shared}{U7:St}{H7:Hp}{n':Nat},c_ X ([]++zF fp s5.heap) U7 H7 s7->W (i+1) n' U7 H7->CI X fp tn W n' s7:=λ{s7 U7 H7 n'} I7 w7=>by
    have pn:∀b∈fp,∀o,s5.heap.get? b=!o->s7.heap.get? b=!o/\H7 b=J:=λb hb o e=>by have:=I7.pin (b,o) (h_ _ (h_ _ (xU hb e)));show#[this.1,this.2.1]
    show#[i+1,U7,H7,I7.unpinned,T.keep _ _ _ lI λb hb o e=>(pn b hb o e).1,λb hb=>?_,w7];let(o,e,d):=T.obj _ _ lI b hb;show(pn b hb o e).2
   show q (da (wpAny_mono (hg _ s5 U' H5 x u _ (I5.pinned (z sw) (T.obj _ _ lI)) r5 (step x H5 y5)) (λ_ s6 h6=>?_) hx));show zZ λZT q=>?_;let(U6,H6,I6,q6):=h6;show q (da (wpAny_mono (hc _ s6 U6 H6 _ I6 q6) (λok s7 h7=>?_) hx));show zZ λZT q=>?_;let(H7,I7,q7):=h7;cases ok with
   |false=>
    let(n',m5,w7):=q7;show q (d0 #[O,n',m5,N I7 w7])
   |true=>
    show q (da (da (wpAny_mono (he _ s7 U6 H7 _ I7 q7) (λv s8 h8=>?_) hx)));show zZ λZT q=>?_;let(y,H8,I8,r8,ys,KD,hz,n',m5,w8):=h8;show q (da (wpAny_mono (oY _ s8 U6 H8 (.ref D) [y] (YV D) [v] (λ_ H9=>W (i+1) n' U6 H9) I8 O (.cons r8 .nil) #[_,ys,y,O,O,KD,hz,w8]) (λ_ s9 h9=>?_) hx));let(_,H9,I9,_,w9):=h9;show d0 (d0 #[O,n',m5,N I9 w9])
def Z8
 (h:Q (newEnv sc s.heap.objs.size gl (cellsFrom (~~~s.heap.objs+1) sc.names KG) qual J .none (!env) builtinsNs) { s with heap:=pushCells (s.heap.push { cls:=.type "dict",data:=.dict #[] }) sc.names }):
 wpAny Md A (newFunctionEnv sc gl KG [] qual J .none (!env)) Q E s:=by
 simp only[newFunctionEnv,Option.isSome_some,if_true];show da (wpAny_alloc ?_);show da (wpAny_layCells _ (λname j cells=>by cases D:j==NameKind.cell<;>simp[D]) _ _ _ _ ?_);rw[show ({ s with heap:=s.heap.push { cls:=.type "dict",data:=.dict #[] } }:Shared).heap.objs.size= ~~~s.heap.objs+1 from mw ..];show da (d0 (d0 h))
def Eu(hcalm:X.calm=G)(c:jE X ZO F ixs sc)
 (hg:∀C fp s H,PG (gC X ZO F sc C fp s H) tg g) (hc:∀C fp s H,v5 (gC X ZO F sc C fp s H) iA tc) (he:∀C fp s H,PE (gC X ZO F sc C fp s H) elt te)
 {Q:VK} (I:c_ X a_ U H s) (T:io X.prog X.w X.K tg ZU fp it tn) (st:tn 0 s.heap) (hf:∀b∈fp,nJ X a_ H b)
 (h:∀p,H p=J->∃W:Nat->Nat->St->Hp->Prop,(∃n,W 0 n (zY (-ZO) ixs U) (dW H p (.lst [])))/\∀i n U' H',W i n U' H'->
   ((ZU.stop i H'/\Q (.ref p) H')\/(ZU.go i H'/\∀x H2,ZU.yld i H' x H2->g x U' H2 λj H3=>tc j H3 λb H4=>
     if b=G then te j H4 λv H5=>∃ys,H5 p=!(.lst ys)/\-ys<sizeLine/\∃n',n'<n/\W (i+1) n' j (dW H5 p (.lst (ys++[v])))
     else ∃n',n'<n/\W (i+1) n' j H4)))
 {RR:Value->Addr->Result->Shared->Prop}
 (hR:∀D C s' H' m,s.heap.get? D=J->s.heap.get? C=J-> ~~~s.heap.objs<=C->H D=J->D≠C->H' C=J->s'.heap.Ns C m->s'.os=s.os->AllBare s'.gens->Un (frs X.stack) fp H H' s.heap s'.heap->jm X.prog X.w H' s'.heap->Q (.ref D) H'->RR (YV D) C (.ok .next) s'):
 wpAny (model X.prog X.w) X.A (newList []) (λacc s₃=>wpAny (model X.prog X.w) X.A (newFunctionEnv sc X.env.globals (vG sc.names X.env) [] X.env.qual J .none (!X.env)) (λcenv s₄=>
  codeAny (model X.prog X.w) X.A (.compStart (.ListComp elt [#[tg,iter,iA,0]] sc pos) 0 (YV it) acc { cenv with scope:=relabel sc X.env }) (RR acc cenv.locals) s₄) E s₃) E s:=by
 show wpAny_newObj_type (Z8 ?_);generalize sM:s.heap.push { cls:=.type "list",dict:=J,data:=.seq ([]:List Value).toArray }=H2;generalize sN:pushCells (H2.push { cls:=.type "dict",data:=.dict #[] }) sc.names=h₁;have kp:∀b o,H2.get? b=!o->h₁.get? b=!o:=λb o e=>by rw[<-sN];show pushCells_keeps _ _ _ _ (fz _ e)
 have hns₁:h₁.Ns H2.objs.size (λ_=>J):=by rw[<-sN];show(Heap.Ns.new H2 (.type "dict")).keeps (pushCells_keeps _ _)
 have hC: ~~~H2.objs= ~~~s.heap.objs+1:=by rw[<-sM,mw]
 have sP: ~~~s.heap.objs≠H2.objs.size:=by rw[hC];show ga ()
 have below:∀b,b< ~~~s.heap.objs->b≠H2.objs.size:=λb N=>by rw[hC];show ga ()
 let ya:=λb o e=>kp b o (sM▸fz _ e);let hD:=kp _ _ (sM▸ge _ O);have fresh:∀a,~~~s.heap.objs<=a->s.heap.get? a=J:=λa ha=>by
  cases e:s.heap.get? a with
  |none=>rfl
  |some o'=>show absurd (eP e) ∅
 let ng:=I.hok.fresh (eK _);have sQ:∀b∈fp,∃o,s.heap.get? b=!o:=λb N=>let #[o,e,_]:=T.obj 0 _ st b N;#[o,e];have pG:(H2.push { cls:=.type "dict",data:=.dict #[] }).objs.size= ~~~H2.objs+1:=mw ..;have sK:∀x a,(oM sc H2.objs.size X.env).lookup x=!a-> ~~~H2.objs+1<=a->h₁.IsCell a J:=λx a e q=>by rw[<-sN];show xZ _ _ (vG sc.names X.env) x a ∅ () λz b q'=>by rw[pG,hC];show j3 (j3 (Uk I c q'))
 let I0:=WN I c hf sQ (tk:=s.toks) hC hns₁ ya hD sK;let(W,(n0,w0),turn):=h _ ng;have nf:∀b∈fp,b≠s.heap.objs.size:=λb N=>by let(o,e):=sQ b N;show ga (eP e)
 have stat:∀{H':Hp},(∀b∈fp,H' b=J)->∀b∈fp,nJ (gC X ZO F sc H2.objs.size fp s H) [] H' b:=λ{H'} hn b N=>by
  let(f0,f1,f2,f3,f4,f5):=hf b N;let(o,e):=sQ b N;show#[hn b N,below b (eP e),λz=>?_,Zl N,λx a e'=>by
   obtain q|q:=jK _ _ _ (e')
   . grind
   . show f4 x a (je I c q),λp hp=>by cases hp]
  obtain z|z:=d5.mp (I.stkSub b z)
  . grind
  . grind
 let yb:=T.keep 0 _ _ st λb N o e=>ya b o e;have loop:codeAny (model X.prog X.w) X.A (.compLoop (.ListComp elt [#[tg,iter,iA,0]] sc pos) 0 (YV it) (YV s.heap.objs.size) (compEnvC sc (oM sc H2.objs.size X.env) H2.objs.size X.env))
  (RR (YV s.heap.objs.size) H2.objs.size) { s with heap:=h₁ }:=by
  show codeAny_loop O (CI (gC X ZO F sc H2.objs.size fp s H) fp tn W) (λn s' hI=>?_) n0 #[0,_,_,I0,yb,λb N=>by rw[cV (nf b N)];show(hf b N).1,w0];show wpAny_noted (wpAny_mono (Ul (X:=gC X ZO F sc H2.objs.size fp s H) hcalm T (hg _ fp s H) (hc _ fp s H) (he _ fp s H) (λ_ _ f=>f) stat turn (λU' H' s4 I4 qn=>?_) n s' hI) (λ_ _ h=>h) λ_ _ f=>f.elim);let(m4,KI,_):=I4.loc;show hR _ _ _ H' m4 (fresh _ ()) (fresh _ ()) () ng sP I4.free KI I4.os I4.bare I4.base I4.hok qn
 show codeAny_compStart_list loop (T.self _ 0 _ _ _ yb loop)
end
section
variable {X:Cx}
def PQ{U q:St}(I:c_ X a_ U H s)(D:s.heap.get? C=J)(F:c_ X a_ q H' s')(N:H' C=J){m:Str->Option Value}(hs:Heap.SameBut C s'.heap h')
 (i: ~~~s.heap.objs<=C):c_ X a_ q H' { s' with heap:=h' }:=by
 have ne:∀a o,s.heap.get? a=!o->C≠a:=λa o e z=>by rw[z,e]at D;cases D
 show F.turned (λb o W e=>(hs.2 b W).trans e) N ?_ (YY (gL I.sz i)) (λx c e=>?_) (λp Q=>?_)
 . show kc (g9 I.lt i)
 . let(v,o,ho,_):=I.cell x c e;grind
 . show Ne.symm (ne _ _ (I.pin p Q).1)
def Z9(z F:List Str)(ixs:List Nat)(i:X.calm=G)(c:jE X z F ixs sc)(hi:PI X tg iter wi)
 (hg:∀C fp s H,PG (gC X z F sc C fp s H) tg g) (hc:∀C fp s H,v5 (gC X z F sc C fp s H) iA tc) (he:∀C fp s H,PE (gC X z F sc C fp s H) elt te)
 (hs:∀x,foldedSetIterable iter X.env x=pure x:=by intro _;rfl):PE X (.ListComp elt [#[tg,iter,iA,0]] sc pos) (R4 wi (-z) ixs g tc te):=by
 intro a_ s U H Q I h;show wpAny_comprehension_free O hs (yW (Dm I c)) c.kind c.locs (dg (hi a_ s U H _ I h) λv s1 h1=>dg h1 λpx s2 h2=>?_);let(it,fp,tn,ZU,H2,e,I2,T,kl,f2,q):=h2;subst e;show Eu i c hg hc he I2 T kl f2 q ?_;intro D C s' H' m hD hC ic ng sP W N sR j sT hok q';let I3:=I2.call' sR sT hok j λb hb=>by let(_,g1,g2,g3,g4,g5):=f2 b hb;show#[g3,g1,g4,g5]
 show#[m,N,λh' jv=>#[.ref D,H',PQ (m:=m) I2 hC I3 W jv ic,O,q']]
def KL(ZO F:List Str)(ixs:List Nat){pos pos' j:Pos}(hN:X.N.Nodup)(s_:X.N[i]?=!x)(hx:X.env.scope.names.lookup x=!.local)
 (z:X.calm=G) (c:jE X ZO F ixs sc) (hi:PI X tg iter wi)
 (hg:∀C fp s H,PG (gC X ZO F sc C fp s H) tg g) (hc:∀C fp s H,v5 (gC X ZO F sc C fp s H) iA tc) (he:∀C fp s H,PE (gC X ZO F sc C fp s H) elt te)
 (KO:swapsWith (.ListComp elt [#[tg,iter,iA,0]] sc pos) (!(.Name x pos')) j.line X.env=pure G:=by rfl)
 (hs:∀x,foldedSetIterable iter X.env x=pure x:=by intro _;rfl):PS X (.Assign [.Name x pos'] (.ListComp elt [#[tg,iter,iA,0]] sc pos) j) (λD U H=>R4 wi (-ZO) ixs g tc te U H λv H1=>D.nx (U.set i (!v)) H1):=by
 intro a_ s U H D I h;rw[exec_Assign_Name_used _ _ _ _ KO];show da (wpAny_standAt (da ?_));show da (wpAny_mono (wpAny_comprehension_free O hs (yW (Dm I c)) c.kind c.locs
  (dg (hi a_ s U H _ I h) λv s1 h1=>dg h1 λpx s2 h2=>?_)) (λ_ s' hq=>d0 (d0 hq)) λ_ _ e=>e)
 let(it,fp,tn,ZU,H2,e,I2,T,kl,f2,q):=h2;subst e;show Eu (Q:=λv H1=>D.nx (U.set i (!v)) H1) z c hg hc he I2 T kl f2 q ?_;intro D' C s' H' m hD hC ic ng sP sL m_ sR W sT hok q';let I3:=I2.call' sR sT hok W λb hb=>by let(_,g1,g2,g3,g4,g5):=f2 b hb;show#[g3,g1,g4,g5]
 let hLC:=kc (g9 I2.lt ic);show wpAny_assign_Name (HF (v:=.ref D') I3 hN s_ (Zl hx) O (λs'' I4 ⟨a,KP,ha⟩=>?_) (YY hx));have KS:C≠a:=by
  obtain ha|ha:=ha
  . grind
  . let(v,o,ho,_):=I2.cell x a ha;grind
 show#[m,m_.sameBut KP KS,λh' jv=>#[_,H',PQ (m:=m) I2 hC I4 sL jv ic,q']]
end
def K3(l:Addr)(items:Array Value)(n:Nat)(b:Addr)(i:Array Value)(n2:Nat)(j:Option Addr)(q:Array (Option Value))(Q:¬(not items.isEmpty&&Builtin.List.listTooLong (~~~items+ ~~~i))=G)(yi: ~~~items<=sizeLine)(z: ~~~items+ ~~~i<=sizeLine+1):
 Meets (Builtin.«list.extend» #[[YV l,YV b],[]]) (λ_ ZN s=>s.heap.get? l=some { cls:=.type "list",dict:=J,data:=.seq items n,slots:=#[] }/\s.heap.get? b=some { cls:=.type "list",dict:=j,data:=.seq i n2,slots:=q }/\ZN (.ok (.ret Value.none)) { s with heap:=s.heap.update l (Obj.mapSeq λx=>x++i),toks:=s.toks }):=
 .of_wp λprog w A ZN s h=>by
  let(hp,g,d,tk,os):=s;let(N,hb,h):=h;let f1:=AutoSeq1.idx_int;let f2:=AutoSeq1.sub_tuple_tuple;let f3:=AutoSeq1.sub_list_list;let f4:=AutoSeq1.sub_tuple_list;let f5:=AutoSeq1.sub_list_tuple;have W: ~~~(items++i)<=sizeLine+1:=by rw[Array.size_append];show z
  wp_walk using (wpAny_updateSeq N O),AutoSeq1.wpAny_loadPart' N,AutoSeq1.wpAny_loadPart' hb;grind
section
variable {X:Cx}
def KU:ju X (binaryOp .Add) (λx y H Q=>∃a b xs ys,x=.ref a/\y=.ref b/\bY X.K H a xs/\bY X.K H b ys/\-xs+-ys<=sizeLine/\∀p,H p=J->Q (.ref p) (dW H p (.lst (xs++ys)))):=by
 intro a_ s U H x y v u Q I rx ry h;let(a,b,xs,ys,rfl,rfl,ha,hb,hz,q):=h;cases rx;cases ry;let(j,z,((c1,d1,dt1,s1),n1,W,e1,e2,e3),_):=I.list ha;let(i,N,((c2,d2,KW,s2),n2,D,f1,f2,f3),_):=I.list hb;subst e1 e2 e3 f1 f2 f3;let yn:=-z;let kT:=-N;show concat_meets #[_,W,O] #[_,D,O] noFill_list_add seq_list_add F.slot_list_add F.entry_list_add (F.args_list_add_2 _ _) (list_addW a b j.toArray i.toArray n1 n2 J J s1 s2 ∅) #[W,D,?_];have ea:j.toArray++i.toArray=(j++i).toArray:=by simp
 rw[ea];show#[.ref _,_,I.lnew (z.append N) ∅,O,q _ I.fresh]
def K4(K:FG):V->List V->Hp->VK->Prop:=λx vs H Q=>∃l b xs zs,x=.ref l/\vs=[.ref b]/\H l=!(.lst xs)/\bY K H b zs/\-xs+-zs<=sizeLine/\Q .non (dW H l (.lst (xs++zs)))
def R5:Ud X "list.extend" (K4 X.K):=by
 intro a_ s U H x vs v us Q I rx rv h;let(l,b,xs,zs,rfl,rfl,hH,hB,hz,q):=h;cases rx;let(u,rfl,ru):=rv.one;cases ru;let(z,j,n,r,hl,e):=I.lstM hH;let(i,W,((c2,d2,KW,s2),n2,g2,f1,f2,f3),_):=I.list hB;subst f1 f2 f3;let kT:=-W;have N: ~~~j.toArray+ ~~~i.toArray<=sizeLine:=by rw[gX,gX];lia
 have D:¬ (not j.toArray.isEmpty&&Builtin.List.listTooLong (~~~j.toArray+ ~~~i.toArray))=G:=by rw[Wy N,Bool.and_false];show ot
 show call_meets F.slot_list_extend #[_,e,O] F.entry_list_extend (F.args_list_extend_2 _ _)
  (K3 l j.toArray n b i.toArray n2 J s2 D () ()) #[e,g2,?_]
 show#[.non,_,I.lset hH e (by simp) (r.append W) ?_,O,q];rw[eM];lia
end
def lY(z:Str)(lo hi:Option Int):Str:=#[((z.cps.toList.drop (HT.sIx (-z) 0 lo)).take (HT.sIx (-z) (-z) hi-HT.sIx (-z) 0 lo)).toArray]
def K0(lo hi:Option Int)(n:Nat):Builtin.Str.strSliceIndices lo hi 1 n=(List.range (HT.sIx n n hi-HT.sIx n 0 lo)).map (HT.sIx n 0 lo+·):=by
 have q:∀(o:Option Int)(d:Nat),d<=n->(match o with |none=>(d:Int) |some i=>max 0 (min (if i<0 then i+(n:Int) else i) (n:Int)))=((HT.sIx n d o:Nat):Int):=λo d z=>by
  cases o with
  |none=>rfl
  |some i=>
   simp only[HT.sIx];by_cases h:i<0
   . grind
   . grind
 rw[<-sliceRange_one];let D:=q lo 0 ();let F:=q hi n ();unfold Builtin.Str.strSliceIndices;grind
def Um(z:Str)(lo hi:Option Int):Txt.slice z lo hi=lY z lo hi:=by
 unfold Txt.slice lY;rw[K0];let i:=pick_run z.cps (HT.sIx (-z) 0 lo) (HT.sIx (-z) (-z) hi-HT.sIx (-z) 0 lo);split
 . rename_i h;have h2:-(List.map (HT.sIx z.length 0 lo+·) (List.range (HT.sIx z.length z.length hi-HT.sIx z.length 0 lo)))=-z:=by simpa using h
   rw[eI,ik]at h2;have D:HT.sIx (-z) (-z) hi<=-z:=HT.sIx_le _ _ () hi;have q:HT.sIx (-z) 0 lo<=-z:=HT.sIx_le _ _ () lo;have j:HT.sIx (-z) 0 lo=0:=()
   rw[h2,j,List.drop_zero,oI (by rw[hY];show eK _)]
 . rw[i]
def K2:V->Option Int->Option Int->Hp->VK->Prop:=λx lo hi H Q=>∃z,x=.str z/\-z<=sizeLine/\Q (.str (lY z lo hi)) H
section
variable {X:Cx}
def K_:HS X K2:=by
 intro a_ s U H x v vl vu lo hi sl Q I rx hs pl pu h;let(z,rfl,hz,q):=h;let(t,rfl):=rx;show#["str",_,F.slot_str_getitem.lookup,typeIs_str _ _ _,?_];have N:∀(l u:Option (Int×Tok)),vl=partValue l->vu=partValue u->l.map (·.1)=lo->u.map (·.1)=hi->wpAny (model X.prog X.w) X.A (getItem (.str z t) (YV sl)) (EP X a_ U Q) X.xe s:=λl u e1 e2 e3 e4=>by subst e1 e2 e3 e4;show wpAny_getItem_str_slice (st:=J) hs O (post_val_or_str #[gL (Txt.slice_le z _ _) hz,λt' k=>?_]);show#[.str (lY z (l.map (·.1)) (u.map (·.1))),H,I.tok _,#[t',?_],q];rw[<-Um];rfl
 cases pl with
 |none=>cases pu with
  |none=>show N J J O O O O
  |int j W=>show N J (!(j,W)) O O O O
 |int i ti=>cases pu with
  |none=>show N (!(i,ti)) J O O O O
  |int j W=>show N (!(i,ti)) (!(j,W)) O O O O
end
section
variable {X:Cx}{a_:List (Addr×Obj)}{U:St}{H:Hp}{s:Shared}{h':Heap}
def WR{h:Heap}(e:h.get? a=!o):o.isFreed=M:=by
 unfold Heap.get? at e;split at e
 . cases e
 . rename_i i;let(c,d,j,sl):=o;cases j<;>first |rfl |show(i _ _ _ e).elim
def c_.turned2(I:c_ X a_ U H s)(hei:e≠it)(k:∀b o,b≠e->b≠it->s.heap.get? b=!o->h'.get? b=!o)(fe:nJ X a_ H e)(fi:nJ X a_ H it)(he:∃o,h'.get? e=!o)(z:∃o,s.heap.get? e=!o):c_ X a_ U H { s with heap:=h',toks:=t' }:=by
 let(o,ho):=he;let(o0,D):=z;let(a0,a1,a2,a3,a4,a5):=fe;let(W,b1,b2,b3,Q,b5):=fi;have I1:c_ X a_ U H { s with heap:=s.heap.update e (λ_=>o),toks:=s.toks }:=I.turned (λb u hb q=>(mP s.heap (λ_=>o) ∅).trans q) a0 a1 a3 a4 a5;show c_.turned (s:={ s with heap:=s.heap.update e (λ_=>o),toks:=s.toks }) I1 (λb u hb q=>?_) W b1 b3 Q b5;by_cases F:b=e
 . subst F;let N:=q;rw[mT (λ_=>o) D (WR ho)]at N;grind
 . let N:=q;rw[mP s.heap (λ_=>o) ∅]at N;grind
end
def td(K:FG)(a:Addr):It:=
 #[λi H=>∃xs x,bY K H a xs/\xs[i]?=!x,λi H x H'=>∃T y,H T=J/\x=.ref T/\H'=dW H T (.tup [.int i,y])/\∀xs,bY K H a xs->xs[i]?=!y,λi H=>∃xs,bY K H a xs/\-xs<=i]
def Uo{K:FG}{x1}(a e D:Addr)(Q:e≠D):io P w K (.Tuple gS x1 pos) (td K a) [e,D] e (λi h=>(∃z,IsEnum h e D i z)/\h.IsListIter D a i) where
 mem:=by simp
 obj:=λi h st b F=>by
  let((z,N),j):=st;obtain rfl|F:=d5.mp F
  . grind
  . have eb:b=D:=by simpa using F
    subst eb;let(o,ho,c,d):=j;grind
 keep:=λi h h' st k=>by let((z,N),j):=st;show#[#[z,k e (by simp) _ N],j.at λo q=>k D (by simp) o q]
 item:=by
  intro X hP hw hK hc i a_ s U H E I hf st hg;subst hP hw hK;let((z,N),j):=st;let(xs,x,hq,hx):=hg;let(eJ,rv,p,hz):=I.list hq;let(u,hu,ru):=rv.get hx;let fe:=hf e (by simp);let fi:=hf D (by simp);let W:=eP N;have hilt:D< ~~~s.heap.objs:=by let(_,q,_):=j;show eP q
  let tf:=I.hok.fresh (eK _);show wpAny_pyNext_enum_item N j p.isList (by simpa using hu) Q λh1 ho hit' hT ic hk=>?_;show#[_,O,wpAny_letOwnedTupleGo_enum ho λh2 yv jv=>?_];let yy:=kc W;let yA:=kc hilt;have I1:c_ X a_ U (dW H s.heap.objs.size (.tup [.int i,x])) { s with heap:=s.heap.push { cls:=.type "tuple",data:=.seq (List.toArray [.int i s.toks,u]) },toks:=s.toks+1 }:=by show I.laid (λb o q=>fz _ q) () #[by simp only[d6];rw[sizeLine_eq];decide,[.int i s.toks,u],.cons #[_,O] (.cons ru .nil),?_];show#[_,ge s.heap O,O,0,O]
  have up:∀b,b≠s.heap.objs.size->H b=J->dW H s.heap.objs.size (.tup [.int i,x]) b=J:=λb F q=>by rw[cV F];show q
  have I2:c_ X a_ U (dW H s.heap.objs.size (.tup [.int i,x])) { s with heap:=h2,toks:=s.toks+1 }:=by
   show I1.turned2 Q (λb o kC Le q=>?_) #[up e yy.symm fe.1,fe.2] #[up D yA.symm fi.1,fi.2] #[_,yv] #[_,fz _ N];rw[jv.2 b kC];by_cases yB:b= ~~~s.heap.objs
   . subst yB;let q':=q;rw[ge s.heap O]at q';grind
   . show hk b o kC Le ?_;let q':=q;rw[Heap.get?_push_ne s.heap b _ yB]at q';show q'
  show#[.ref s.heap.objs.size,_,I2,O,#[s.heap.objs.size,x,tf,O,O,λys hy=>by rw[I.list_inj hy hq];show hx],#[#[u,by simpa using yv],hit'.at λo y=>(jv.2 D Q.symm).trans y],λb F=>?_];obtain rfl|F:=d5.mp F
  . show up _ yy.symm fe.1
  . have eb:b=D:=by simpa using F
    subst eb;show up _ yA.symm fi.1
 done:=by intro X hP hw hK hc i a_ s U H E I hf st hg;subst hP hw hK;let((z,N),j):=st;let(xs,hq,hx):=hg;let(eJ,rv,p,hz):=I.list hq;let(f0,f1,f2,f3,f4,f5):=hf D (by simp);let hl:=-rv;show wpAny_pyNext_enum_end (I.ok.hd hc) N j p.isList ∅ λh' eb=>#[O,I.turned (λb o F q=>eb b o F q) f0 f1 f3 f4 f5]
 self:=λ_ _ _ _ _ st h=>by let((z,N),_):=st;show wpAny_pyIter_enum N h
section
variable {X:Cx}
def Ll(K:FG)(ta:TA):TI:=λU H ZN=>ta U H λvs H1=>∃a,vs=[.ref a]/\(∃xs,bY K H1 a xs)/\ZN (td K a) H1
def Lm{x1}(Q:Gl X "enumerate")(hm:X.mg "enumerate"=J)(N:PA X [a] ta)(hs:starEach [a] X.env=[(M,eval a X.env)]:=by rfl):PI X (.Tuple gS x1 tpos) (.Call (.Name "enumerate" p) [a] [] pos) (Ll X.K ta):=by
 intro a_ s U H ZN I h;show Call_ (zE (u:=.type "enumerate") I Q hm () (PyProof.Rows.callWith_type1 (dg (N pos a_ s U H _ I h) λus i Lo=>?_) hs O));let(vs,H1,I1,r1,q1):=Lo;let(b,e,(xs,hq),q):=q1;subst e;cases r1 with
 |cons r rr=>
  cases rr;cases r;let(eJ,rv,pl,hz):=I1.list hq;show call_enumerate_list pl.isList λh' F D ic hk=>?_;let W:=I1.kept (t':=i.toks) hk;show wpAny_pyIter_enum F ?_;show#[i.heap.objs.size+1,[i.heap.objs.size+1,~~~i.heap.objs],_,_,H1,O,W,Uo b (~~~i.heap.objs+1) i.heap.objs.size ∅,#[#[_,F],D],λc z=>?_,q];have j: ~~~i.heap.objs<=c:=by
   obtain rfl|z:=d5.mp z
   . grind
   . have ec:c= ~~~i.heap.objs:=by simpa using z
     grind
  show I1.fpOk j (I1.hok.fresh j)
def Lu:R2:=λx y H Q=>∃a v,x=.ref a/\WK H a y (!v)/\Q v H
def Lv(W:X.A.units+1<cLine):zP X Lu:=by intro value j a_ s U H x y v u Q I rx N h hs;let(a,z,rfl,g,q):=h;cases rx;show tail_any (Ot I g) F.slot_dict_getitem.lookup (Ui W I g N λw' s3 D i=>#[z,H,D,i,q]) hs
def Y6:V->V->V->Hp->(Hp->Prop)->Prop:=λo i v H Q=>∃a H',o=.ref a/\x8 H a i v H'/\Q H'
def set_dict(j:X.A.units+1<cLine):Wj X Y6:=by intro a_ s U H o i v ov iv u Q I N D F h;let(a,H',rfl,g,q):=h;cases N;show Uj j I g D F λW z=>#[H',z,q]
end
section
variable {X:Cx}{a_:List (Addr×Obj)}{U:St}{H:Hp}{s:Shared}{h':Heap}
def c_.turnedL{fp:List Addr}(I:c_ X a_ U H s)(k:∀b o,b∉fp->s.heap.get? b=!o->h'.get? b=!o)(f:∀b∈fp,nJ X a_ H b):c_ X a_ U H { s with heap:=h',toks:=t' }:=by
 have N:∀b u,H b=!u->b∉fp:=λb u e z=>by rw[(f b z).1]at e;cases e
 show I.step (λb j=>#[(f b j).2.2.2.1,(f b j).2.1,(f b j).2.2.2.2.1,(f b j).2.2.2.2.2]) (λb o _ _ i e _=>k b o i e) (λb o _ _ i e _=>#[o.slots,k b o i e]) (λ_ _ _ _ n=>n)
  (λb o i e=>#[o,k b o i e]) (λ_ _ e=>e) (λ_ _ _ e=>e) (λb ps e=>#[#[],by rw[e];simp]) (λm hm=>?_) (λb u e=>?_) I.bare
 . let(o,es,Q,W,r):=hm;show#[o,es,Q,k _ o (λz=>(f _ z).2.1 O) W,r]
 . show(I.hok b u e).stay (λc v i q=>k c v ?_ q) (λ_ q=>q) λ_ _ q=>q;obtain z|z:=i
   . grind
   . grind
end
def c_.madeT{U:St}{fp:List Addr}(I:c_ X a_ U H s)(hl:-xs<=sizeLine)(rv:db xs N)(W:∀c∈fp,nJ X a_ H c)(lt:∀c∈fp,∃o,s.heap.get? c=!o)
 (hT:g2.get? s.heap.objs.size=some { cls:=.type "tuple",data:=.seq N.toArray }) (k:∀c o,c∉fp->s.heap.get? c=!o->g2.get? c=!o):
 c_ X a_ U (dW H s.heap.objs.size (.tup xs)) { s with heap:=g2,toks:=t' }/\∀c∈fp,dW H s.heap.objs.size (.tup xs) c=J:=by
 have up:∀c∈fp,dW H s.heap.objs.size (.tup xs) c=J:=λc D=>by let(o,e):=lt c D;rw[cV (ga (eP e))];show(W c D).1
 have I1:c_ X a_ U (dW H s.heap.objs.size (.tup xs)) { s with heap:=s.heap.push { cls:=.type "tuple",data:=.seq N.toArray },toks:=t' }:=
  I.laid (λb o q=>fz _ q) () #[hl,N,rv,#[_,ge s.heap O,O,0,O]]
 show#[c_.turnedL (s:={ s with heap:=s.heap.push { cls:=.type "tuple",data:=.seq N.toArray },toks:=t' }) I1 (λc o D q=>?_) (λc D=>#[up c D,(W c D).2]),up];let Q:=q;by_cases F:c= ~~~s.heap.objs
 . subst F;rw[ge s.heap O]at Q;show Q▸hT
 . rw[Heap.get?_push_ne s.heap c _ F]at Q;show k c o D Q
def LA{a b:V}:[a,b].length<=sizeLine:=by  show Nat.le_of_ble_eq_true O
def Y7(K:FG)(a b:Addr):It:=
 #[λi H=>∃xs ys x y,bY K H a xs/\bY K H b ys/\xs[i]?=!x/\ys[i]?=!y,
  λi H x H'=>∃T y z,H T=J/\x=.ref T/\H'=dW H T (.tup [y,z])/\(∀xs,bY K H a xs->xs[i]?=!y)/\∀ys,bY K H b ys->ys[i]?=!z,
  λi H=>∃xs ys,bY K H a xs/\bY K H b ys/\(-xs<=i\/-ys<=i)]
structure WT(z TI TO i1 i2:Addr):Prop where
 TIz:TI≠z
 TOz:TO≠z
 i1z:i1≠z
 i2z:i2≠z
 TITO:TI≠TO
 TIi1:TI≠i1
 TIi2:TI≠i2
 TOi1:TO≠i1
 TOi2:TO≠i2
 i12:i1≠i2
def pM{h:Heap}(e:h.get? a=!o)(i:h.get? b=!o')(n:o.cls≠o'.cls):a≠b:=λz=>by subst z;rw[e]at i;cases i;show n O
def K5{z TI TO F N a b:Addr}(D:WT z TI TO F N)(W:IsZip h z TI TO .none)(i:IsPair h TO u v)(h1:h.IsListIter F a n)(h2:h.IsListIter N b m)(ha:h.IsList a xs)(hb:h.IsList b ys):ZipApart z TI TO F N a b:=by let(o1,Q,c1,_):=h1;let(o2,q2,c2,_):=h2;let(oa,q,ca,_):=ha;let(ob,j,cb,_):=hb;show#[D.TIz,D.TOz,D.i1z,D.i2z,D.TITO,D.TIi1,D.TIi2,D.TOi1,D.TOi2,D.i12,pM q W ∅,pM q i ∅,pM q Q ∅,pM q q2 ∅,pM j W ∅,pM j i ∅,pM j Q ∅,pM j q2 ∅]
def WW{K:FG}{x1}(a b z TI TO i1 i2:Addr)(D:WT z TI TO i1 i2):io P w K (.Tuple gS x1 pos) (Y7 K a b) [z,TI,TO,i1,i2] z
 (λi h=>IsZip h z TI TO .none/\IsPair h TI (YV i1) (YV i2)/\(∃u v,IsPair h TO u v)/\h.IsListIter i1 a i/\h.IsListIter i2 b i) where
 mem:=by simp
 obj:=λi h st c j=>by
  let(W,N,(u,v,F),h1,h2):=st;simp only[d5,kM,or_false]at j;obtain rfl|rfl|rfl|rfl|rfl:=j
  . show#[_,W,λv z=>by let z':=z;cases z']
  . show#[_,N,λv z=>by let z':=z;cases z']
  . show#[_,F,λv z=>by let z':=z;cases z']
  . let(o,ho,c,d):=h1;show#[o,ho,λv z=>by rw[d]at z;cases z]
  . let(o,ho,c,d):=h2;show#[o,ho,λv z=>by rw[d]at z;cases z]
 keep:=λi h h' st k=>by let(W,N,(u,v,F),h1,h2):=st;show#[k z (by simp) _ W,k TI (by simp) _ N,#[u,v,k TO (by simp) _ F],h1.at λo q=>k i1 (by simp) o q,h2.at λo q=>k i2 (by simp) o q]
 item:=by
  intro X hP hw hK j i a_ s U H E I hf st hg;subst hP hw hK;show zZ λZT kG=>?_;let(W,N,(u0,v0,F),h1,h2):=st;let(xs,ys,x,y,hq,hr,hx,hy):=hg;let(eJ,rv,p,LB):=I.list hq;let(yO,nK,p',hzl'):=I.list hr;let(u,hu,ru):=rv.get hx;let(u',tj,LF):=nK.get hy;let DD:=K5 D W F h1 h2 p.isList p'.isList;have LG:∀c∈[z,TI,TO,i1,i2],∃o,s.heap.get? c=!o:=λc j=>by
   simp only[d5,kM,or_false]at j;obtain rfl|rfl|rfl|rfl|rfl:=j
   . show#[_,W]
   . show#[_,N]
   . show#[_,F]
   . let(o,q,_):=h1;show#[o,q]
   . let(o,q,_):=h2;show#[o,q]
  let tf:=I.hok.fresh (eK _);show kG (wpAny_pyNext_zip_item DD W N F h1 h2 p.isList p'.isList (by simpa using hu) (by simpa using tj) λg1 a1 a2 a3 a4 a5 a6 a7=>#[_,O,wpAny_letOwnedTupleGo_zip a1 λg2 b1 b2=>?_]);have Q:∀c o,c≠z->g1.get? c=!o->g2.get? c=!o:=λc o j q=>(b2.2 c j).trans q;let big:=kc (eP W);let(I2,up):=I.madeT LA (.cons ru (.cons LF .nil)) hf LG (Q _ _ big a5) λc o j q=>by simp only[d5,kM,or_false,not_or]at j;show Q c o j.1 (a7 c o j.1 j.2.2.1 j.2.2.2.1 j.2.2.2.2 q)
  show#[.ref s.heap.objs.size,_,I2,O,#[s.heap.objs.size,x,y,tf,O,O,λys hy=>by rw[I.list_inj hy hq];show hx,λys yT=>by rw[I.list_inj yT hr];show hy],#[b1,Q _ _ D.TIz (a7 _ _ D.TIz D.TITO D.TIi1 D.TIi2 N),#[_,_,Q _ _ D.TOz a2],a3.at λo q=>Q _ o D.i1z q,a4.at λo q=>Q _ o D.i2z q],up]
 done:=by
  intro X hP hw hK j i a_ s U H E I hf st hg;subst hP hw hK;show zZ λZT kG=>?_;let(W,N,(u0,v0,F),h1,h2):=st;let(xs,ys,hq,hr,hx):=hg;let(eJ,rv,p,LB):=I.list hq;let(yO,nK,p',hzl'):=I.list hr;let DD:=K5 D W F h1 h2 p.isList p'.isList;let e1:=-rv;let e2:=-nK;show kG (wpAny_pyNext_zip_end (I.ok.hd j) DD W N F h1 h2 p.isList p'.isList ?_ λg k=>#[O,?_])
  . obtain hx|hx:=hx
    . show Zl ∅
    . show YY ∅
  . show I.turnedL (λc o j q=>?_) hf;simp only[d5,kM,or_false,not_or]at j;show k c o j.1 j.2.2.1 j.2.2.2.1 j.2.2.2.2 q
 self:=λ_ _ _ _ _ st h=>wpAny_pyIter_zip st.1 h
section
variable {X:Cx}
def LH(K:FG)(ta:TA):TI:=λU H ZN=>ta U H λvs H1=>∃a b,vs=[.ref a,.ref b]/\(∃xs,bY K H1 a xs)/\(∃ys,bY K H1 b ys)/\ZN (Y7 K a b) H1
def nQ{n a b:Nat}(h:a≠b):n+a≠n+b:=λe=>h ()
def LI{U:St}{x1}{l1 l2 z TI TO i j:Addr}(F:c_ X a_ U H s1)(b7:∀c o,s1.heap.get? c=!o->h'.get? c=!o)(Q:∀c∈[z,TI,TO,i,j],~~~s1.heap.objs<=c)(D:WT z TI TO i j)
 (st:IsZip h' z TI TO .none/\IsPair h' TI (YV i) (YV j)/\(∃u v,IsPair h' TO u v)/\h'.IsListIter i l1 0/\h'.IsListIter j l2 0) (q:ZN (Y7 X.K l1 l2) H):pj X a_ U (.Tuple gS x1 tpos) ZN (YV z) { s1 with heap:=h' }:=
 #[z,[z,TI,TO,i,j],_,_,H,O,F.kept b7,WW l1 l2 z TI TO i j D,st,λc W=>F.fpOk (Q c W) (F.hok.fresh (Q c W)),q]
def LJ{p pos:Pos}{gS:List Expr}{x1}{tpos:Pos}(hg:Gl X "zip")(hm:X.mg "zip"=J)(ha:PA X [a,b] ta)(hs:starEach [a,b] X.env=(M,eval a X.env)::starEach [b] X.env:=by rfl)(j:(backTo pos (starEach [b] X.env)).any (·.1)=M:=by rfl):PI X (.Tuple gS x1 tpos) (.Call (.Name "zip" p) [a,b] [] pos) (LH X.K ta):=by
 intro a_ s U H ZN I h;show Call_ (zE (u:=.type "zip") I hg hm () (PyProof.Rows.callWith_type1 (dg (ha pos a_ s U H _ I h) λus s1 LL=>?_) hs j));let(vs,H1,I1,r1,q1):=LL;show zZ λZT kG=>?_;let(l1,l2,e,(xs,hq),(ys,Q),q):=q1;subst e;cases r1 with
 |cons r z=>
  cases z with
  |cons r' z=>
   cases z;cases r;cases r';let(eJ,rv,pl,hz):=I1.list hq;let(yO,rv',i,yY):=I1.list Q;show kG (call_zip_2 pl.isList i.isList λh' D b2 W N b5 b6 b7=>wpAny_pyIter_zip D ?_);show LI I1 b7 (λc F=>?_) #[nQ (),nQ (),nQ (),nQ (),nQ (),nQ (),nQ (),nQ (),nQ (),nQ (a:=0) ()] #[D,b2,#[_,_,W],N,b5] q;simp only[d5,kM,or_false]at F;obtain rfl|rfl|rfl|rfl|rfl:=F
   all_goals (first |show eK _ |show oz _ _)
end
def kY:Nat:=9900
def Bk(h:n<kY):n<=sizeLine:=by have h1:kY=9900:=O;rw[sizeLine_eq];lia
def PX(h:n<scanBound):n<kY:=by have h1:kY=9900:=O;have h2:scanBound=4096:=O;lia
def gG(es:Array (Int×Value)):List Str:=es.toList.map λe=>strOf e.2
structure lZ(h:Heap)(a:Addr)(es:Array (Int×Value))(ep:Nat)(t:SetTable)(led:Bool):Prop where
 at_:h.get? a=some { cls:=.type "set",dict:=none,data:=.set es ep t,slots:=#[] }
 bd: ~~~es<kY
 fits:t.fits es.size=true
 led:t.led=led
 plain:0< ~~~es->t.plain=false
structure tK(prog:Program)(w:World)(h:Heap)(a:Addr)(es:Array (Int×Value))(ep:Nat)(t:SetTable)(led:Bool):Prop extends lZ h a es ep t led where
 el:ElemsOf (PySem.strKind prog w) es.toList
 nd:(gG es).Nodup
def R6:(layNew t es h x).2.1.led=t.led:=by
 unfold layNew;split
 . show (SetTable.orStandIn _ _).led=_;unfold SetTable.orStandIn;split<;>rfl
 . rfl
def Ew{t t':SetTable}(e:t.relaid hs n=!(t',o)):t'.led=t.led/\t'.plain=t.plain:=by let(ow,h1,h2):=Option.bind_eq_some_iff.mp e;cases h2;show#[O,O]
def K6:(relayAll t es n).2.1.led=t.led:=by
 unfold relayAll;split
 . rename_i e;dsimp only;split
   . show(Ew e).1
   . rfl
 . rfl
def GR(i:t.plain=M):(relayAll t es n).2.1.plain=M:=by
 unfold relayAll;split
 . rename_i e;dsimp only;split
   . show(Ew e).2.trans i
   . rfl
 . rfl
def Ex{h:Heap}(e:h.get? a=some { cls:=.type "set",dict:=J,data:=.set es ep t,slots:=#[] }):(h.update a (Obj.putSet es' t')).get? a=some { cls:=.type "set",dict:=J,data:=.set es' (ep+1) t',slots:=#[] }:=
 mT (Obj.putSet es' t') e O
section
variable {prog:Program}
def add_str(S:tK prog w s.heap a es ep t led)(room: ~~~es+1<scanBound)
 (h:∀b h' es' W t',Heap.SameBut a s.heap h'->tK prog w h' a es' W t' led->(∀y,y∈gG es' ↔ y∈gG es\/y=x)-> ~~~es'<= ~~~es+1->Q b { s with heap:=h' }):
 wpAny (model prog w) A (setAddHashed a (.str x tk) (hashStr w x)) Q E s:=by
 have hk:(PySem.strKind prog w).is x (.str x tk)=G:=by show Value.isStrOf x (.str x tk)=G;simp[Value.isStrOf]
 unfold setAddHashed setAddHashedIn
 show wpAny_holding (da (wpAny_setState_of S.at_ O S.fits ?_))
 dsimp only
 rw[byScan_of O () S.el]
 simp only[↓reduceIte]
 unfold setAddByScan
 show da (da (wpAny_rule (da ?_)))
 show wpAny_setScan_of hk S.at_ O S.fits S.el ?_
 have key:∀e∈es.toList,(PySem.strKind prog w).is x e.2=G ↔ strOf e.2=x:=λe he=>by
  let((k,h1,_),_):=S.el e he
  let(u,hu):=Value.isStrOf_shape h1
  rw[hu]
  show Value.isStrOf x (.str k u)=G ↔ k=x
  simp[Value.isStrOf]
 cases hr:List.findIdx? (λe=>(PySem.strKind prog w).is x e.2) es.toList with
 |some j=>
  dsimp only
  let(hj,LM,_):=List.findIdx?_eq_some_iff_getElem.mp hr
  have hm:x∈gG es:=fy.mpr #[es.toList[j],List.getElem_mem hj,(key _ (List.getElem_mem hj)).mp LM]
  show d0 (d0 ?_)
  show h M s.heap es ep t (Heap.SameBut.refl a s.heap) S (λy=>#[Zl,λq=>q.elim id λq=>q▸hm]) ()
 |none=>
  dsimp only
  have hm:x∉gG es:=λq=>by
   let(e,he,q):=fy.mp q
   have:=List.findIdx?_eq_none_iff.mp hr e he
   rw[(key e he).mpr q]at this
   cases this
  have y0:∀(b:Bool){s₁:Shared}{Q':Unit->Shared->Prop},Q' ⟨⟩ s₁->wpAny (model prog w) A (match b with |true=>rule "set.scan.the-table-gave-way" |false=>pure ⟨⟩) Q' E s₁:=λb s₁ Q' q=>by
   cases b
   . show d0 q
   . show wpAny_rule q
  let hp:=layNew_perm t es (hashStr w x) (.str x tk)
  let hf:=layNew_fits t es (hashStr w x) (.str x tk)
  have hl:(layNew t es (hashStr w x) (.str x tk)).2.1.led=led:=R6.trans S.led
  have k1:∀D:Array (Int×Value),List.Perm D.toList (es.push (hashStr w x,.str x tk)).toList->ElemsOf (PySem.strKind prog w) D.toList/\(gG D).Nodup/\D.size= ~~~es+1/\∀y,y∈gG D ↔ y∈gG es\/y=x:=λD q=>by
   rw[Array.toList_push]at q
   have q2:List.Perm (gG D) (gG es++[x]):=by
    have:=q.map λe=>strOf e.2
    simpa [gG,strOf] using this
   show#[(S.el.push hk O).perm q,q2.nodup_iff.mpr (o_.mpr #[S.nd,by simp,λa ha b hb=>?_]),?_,λy=>?_]
   . rw[gT.mp hb]
     show λz=>hm (z▸ha)
   . have:=q.length_eq
     simpa using this
   . rw[q2.mem_iff]
     simp
  generalize layNew t es (hashStr w x) (.str x tk)=L at hp hf hl ⊢
  let(D,t1,wd,gv):=L
  let(LN,LO,k13,LP):=k1 D hp
  dsimp only at hp hf hl ⊢
  show da (y0 gv ?_)
  have fin:∀N:SetTable,N.fits D.size=G->N.led=led->N.plain=M->wpAny (model prog w) A (do
   storeSet a D N
   if (not wd&&N.tooFull)=G then do
    (match (relayAll N D (SetTable.grown D.size)).2.2 with |true=>rule "set.scan.the-table-gave-way" |false=>pure ⟨⟩)
    storeSet a (relayAll N D (SetTable.grown D.size)).1 (relayAll N D (SetTable.grown D.size)).2.1
    pure (!G)
    else pure (!G)) (λr s'=>∃h',s'={ s with heap:=h' }/\r=!G/\∃es' W t',Heap.SameBut a s.heap h'/\tK prog w h' a es' W t' led/\(∀y,y∈gG es' ↔ y∈gG es\/y=x)/\es'.size<= ~~~es+1) E s:=by
   intro N f2 l2 p2
   have b1: ~~~D<scanBound:=()
   show da (wpAny_storeSet_of S.at_ O ?_ (fits_of_scanBound b1))
   let g1:=Ex (es':=D) (t':=N) S.at_
   let nh:=lh s.heap a (Obj.putSet D N)
   split
   . show da (y0 _ ?_)
     let q:=relayAll_perm N D (SetTable.grown D.size)
     let qf:=relayAll_fits N D (SetTable.grown D.size)
     have ql:(relayAll N D (SetTable.grown D.size)).2.1.led=led:=K6.trans l2
     let qp:=GR (es:=D) (n:=SetTable.grown D.size) p2
     generalize relayAll N D (SetTable.grown D.size)=ZN at q qf ql qp ⊢
     let(y3,t3,g3):=ZN
     dsimp only at q qf ql qp ⊢
     let(m1,m2,m3,m4):=k1 y3 (q.trans hp)
     show da (wpAny_storeSet_of g1 O ?_ (fits_of_scanBound ()))
     show d0 #[_,O,O,y3,_,t3,nh.trans (lh _ a _),#[#[Ex g1,PX (),qf,ql,λ_=>qp],m1,m2],m4,()]
   . show d0 #[_,O,O,D,_,N,nh,#[#[g1,PX b1,f2,l2,λ_=>p2],LN,LO],LP,()]
  have out:∀r s',(∃h',s'={ s with heap:=h' }/\r=!G/\∃es' W t',Heap.SameBut a s.heap h'/\tK prog w h' a es' W t' led/\(∀y,y∈gG es' ↔ y∈gG es\/y=x)/\es'.size<= ~~~es+1)->r=!G/\Q G s':=λr s' q=>by
   let(h',rfl,rfl,es',W,t',q1,q2,q3,q4):=q
   show#[O,h G h' es' W t' q1 q2 q3 q4]
  split
  . show da ?_
    rw[hashByValue_scannable 8 O]
    show d0 ?_
    show wpAny_mono (fin { t1 with plain:=M } (SetTable.fits_plain_off hf) hl O) (λr s' q=>?_) λ_ _ e=>e
    let(rfl,q'):=out r s' q
    show d0 q'
  . rename_i np
    show da (d0 ?_)
    simp only[↓reduceIte]
    show wpAny_mono (fin t1 hf hl (by simpa using np)) (λr s' q=>?_) λ_ _ e=>e
    let(rfl,q'):=out r s' q
    show d0 q'
def lZ.moved{i:Bool}(S:lZ h a es ep t i)(k:∀o,h.get? a=!o->h'.get? a=!o):lZ h' a es ep t i:=#[k _ S.at_,S.bd,S.fits,S.led,S.plain]
theorem tK.moved(S:tK prog w h a es ep t led)(k:∀o,h.get? a=!o->h'.get? a=!o):tK prog w h' a es ep t led:=#[S.1.moved k,S.el,S.nd]
end
section
variable {prog:Program}
theorem Qd:∀{vs:List Value}{j:List Str},StrsAre vs j->∀(i:Nat)(v:Value),vs[i]?=!v->∃t,v=.str (j.getD i #[#[]]) t
 |_,_,.nil,i=>λv h=>by simp at h
 |_,_,.cons y t r,0=>λv h=>by cases h;show#[t,O]
 |_,_,.cons y t r,i+1=>λv h=>by let(u,e):=Qd r i v ();show#[u,by simpa using e]
theorem Do:∀{vs:List Value}{i:List Str},StrsAre vs i->-vs=-i
 |_,_,.nil=>rfl
 |_,_,.cons y t r=>by simp[Do r]
def mem_step{α:Type}{n:Nat}{val:Nat->α}{as bs:List α}(h:∀y,y∈as ↔ ∃j,j<n/\val j=y)(h2:∀y,y∈bs ↔ y∈as\/y=val n)(y:α):y∈bs ↔ ∃j,j<n+1/\val j=y:=by
 rw[h2,h]
 constructor
 . rintro (⟨j,hj,q⟩|q)
   . show#[j,j3 hj,q]
   . show#[n,mB n,q.symm]
 . rintro ⟨j,hj,q⟩
   obtain g|rfl:=Nat.lt_succ_iff_lt_or_eq.mp hj
   . show .inl #[j,g,q]
   . show .inr q.symm
def Ou{l:Addr}{items:Array Value}{ss:List Str}{Q:Value->Shared->Prop}(hh:A.handled=J)(hl:s.heap.IsList l items)(hi:StrsAre items.toList ss)(hb: ~~~items+1<scanBound)
 (h:∀(h':Heap)(tk:Nat) es ep t,tK prog w h' s.heap.objs.size es ep t (not (byText w))->(∀y,y∈gG es ↔ y∈ss)-> ~~~es<= ~~~items->(∀b o,b< ~~~s.heap.objs->s.heap.get? b=!o->h'.get? b=!o)->Q (YV s.heap.objs.size) { s with heap:=h',toks:=tk }) :
 wpAny (model prog w) A (call (.type "set") [YV l]) Q E s:=by
 show set_of_G (T:=λi h=>∃es ep t,tK prog w h s.heap.objs.size es ep t (not (byText w))/\(∀y,y∈gG es ↔ ∃j,j<i/\ss.getD j #[#[]]=y)/\es.size<=i) hh hl ?_ ?_ ?_ ?_
 . intro h' g _
   show#[_,_,_,#[#[g,by decide,O,O,λq=>by simp at q],λe q=>by simp at q,by simp[gG]],by simp[gG],eK _]
 . intro i h h' q k
   let(es,ep,t,S,r):=q
   show#[es,ep,t,S.moved λo=>k _ o (ga (mB _)),r]
 . intro i v s' Q E lt e q k
   let(es,ep,t,S,m,z):=q
   let(u,rfl):=Qd hi i v (by rw[Array.getElem?_toList];show e)
   unfold setAdd
   show wpAny_holding (da (wpAny_pyHash_str ?_))
   show add_str (s:={ s' with toks:=s'.toks+1 }) S (()) λb h' es' lS t' sb S2 m2 z2=>k b h' 1 sb #[es',lS,t',S2,mem_step m m2,()]
 . intro h' tk q k
   let(es,ep,t,S,m,z):=q
   show h h' tk es ep t S (λy=>?_) z k
   rw[m,List.mem_iff_getElem]
   let e0:=Do hi
   rw[hY] at e0
   constructor
   . rintro ⟨j,hj,rfl⟩
     show#[j,(),by simp[e0 ▸ hj]]
   . rintro ⟨j,hj,rfl⟩
     show#[j,(),by simp[hj]]
end
def Qe:Manifest.owners.lookup (String.ofList ['r','o','t','a','r','e','t','i','_','t','e','s'].reverse)=!Manifest.sig_set_iterator:=by kernel_rfl
def oN:Slot "set_iterator" "__next__" "set_iterator.__next__":=.of (owner:="set_iterator") (n:="__next__") () () () () () ()
def K7:Slot "set_iterator" "__iter__" "set_iterator.__iter__":=.of (owner:="set_iterator") (n:="__iter__") () () () () () ()
def Qf:entryFor table "set_iterator.__next__"=some Builtin.«set_iterator.__next__»:=entryFor_of_tree ()
def K8(a:Value):argsOk "set_iterator.__next__" #[[a],[]]:=by unfold argsOk;rw[signature?_of (id:="set_iterator.__next__") (n:=['_','_','t','x','e','n','_','_']) () Qe];kernel_rfl
def Uq:entryFor table "set.__iter__"=some Builtin.«frozenset.__iter__»:=entryFor_alias (id':="frozenset.__iter__") () O () ()
theorem yc{α:Type}:∀{l:List α}{i:Nat}(h:i< -l),(l[i]::l.eraseIdx i).Perm l
 |a::l,0,h=>.rfl
 |a::l,i+1,h=>(List.Perm.swap _ _ _).trans ((yc (by simpa using h)).cons a)
theorem Ia(f:Nat->Nat):∀(n k:Nat)(l:List α)(o:Array α),-l<=n->(pickOrder.go f n k l o).toList.Perm (o.toList++l)
 |0=>λk l o h=>by have:l=[]:=List.length_eq_zero_iff.mp ();subst this;simp[pickOrder.go]
 |n+1=>λk l o h=>by
  unfold pickOrder.go;cases l with
  |nil=>simp
  |cons a l=>
   have i:f k%-(a::l)< -(a::l):=Nat.mod_lt _ (by simp);rw[gz i];show(Ia f n (k+1) _ _ ∅).trans ?_;rw[Array.toList_push,fm];show List.Perm.append_left _ (yc i)
def WX(f:Nat->Nat)(o:Array α):(pickOrder f o).toList.Perm o.toList:=by have:=Ia f o.size 0 o.toList #[] (by simp);simpa [pickOrder] using this
section
variable {prog:Program}
def K9(N:0<n)(h:∀i d,i<n->Q i { s with drawn:=d }):wpAny W A (choose F n) Q E s:=λΓ p hΓ=>by show Sem.wp W Γ (.choose F n .pure) _ _ p s;rw[Sem.wp_choose];show#[(),h _ _ (Nat.mod_lt _ N)]
theorem vH:∀(n:Nat)(xs:List α){Q:List α->Shared->Prop}{s:Shared},-xs<=n->(∀ys d,ys.Perm xs->Q ys { s with drawn:=d })->wpAny N A (drawOrder n xs) Q E s
 |0,xs,Q,s=>λh q=>by have:xs=[]:=List.length_eq_zero_iff.mp ();subst this;show d0 (q [] s.drawn .rfl)
 |n+1,[],Q,s=>λh q=>d0 (q [] s.drawn .rfl)
 |n+1,x::xs,Q,s=>λh q=>by show da (K9 (by simp) λi d hi=>?_);rw[gz hi];show da (vH n _ ∅ λys F p=>d0 (q _ F ((p.cons _).trans (yc hi))))
abbrev t7(h:Heap)(it a:Addr)(f:Value)(i n ep:Nat):Prop:=h.get? it=some { cls:=.type "set_iterator",dict:=J,data:=.fields (List.toArray [f,rawInt i,YV a,rawInt n,rawInt ep]),slots:=#[] }
def vI(w:World)(h:Heap)(it P a:Addr)(es:Array (Int×Value))(ep:Nat)(t:SetTable)(vs:List Value)(i:Nat):Prop:=
 (byText w=G/\t7 h it a (rawInt 0) i es.size ep/\vs=(pickOrder (w.params.setOrder a ep) es).toList.map (·.2))
\/(byText w=M/\1< ~~~es/\∃(pl:List Nat)(k:Nat),t7 h it a (YV P) i es.size ep/\h.get? P=!(seqObj "tuple" (pl.map λj:Nat=>rawInt j).toArray k)/\P≠it/\pl.Perm (List.range es.size)/\vs=pl.map λj=>(es.getD j (0,.none)).2)
\/(byText w=M/\es.size<=1/\∃sl:Nat,t7 h it a (rawInt sl) i es.size ep/\vs=es.toList.map (·.2)/\((i=0/\sl=0)\/∃p,t.place=(List.toArray [p])/\i=1/\sl=p+1))
def WY(S:lZ s.heap a es ep t (not (byText w)))
 (h:∀h' d W P vs,(∀b o,s.heap.get? b=!o->h'.get? b=!o)->vI w h' W P a es ep t vs 0->vs.Perm (es.toList.map (·.2))-> ~~~s.heap.objs<=W-> ~~~s.heap.objs<=P->W< ~~~h'.objs->P< ~~~h'.objs->Q (YV W) { s with heap:=h',drawn:=d }):
 wpAny (model prog w) A (pyIter (YV a)) Q E s:=by
 have hT:s.TypeIs (YV a) "set":=#[_,S.at_,O];show wpAny_pyIter_slot hT F.slot_set_iter (wpAny_call_entry F.slot_set_iter hT Uq ?_ ());unfold Builtin.«frozenset.__iter__» Builtin.Frozenset.slot0 slotArgs;simp only[Bool.not_true,bind_assoc];show da (d0 ?_)
 try dsimp only
 show da (d0 ?_);show da (da (wpAny_setEntries_of S.at_ O S.fits (d0 ?_)));show da (da (wpAny_setState_of S.at_ O S.fits (da (da (wpAny_askSetting (d0 (d0 ?_)))))));show wpAny _ _ (if (not (byText w)&&(not t.plain&&decide (~~~es>1)))=G then _ else _) _ _ _;split
 . rename_i D;simp only[iX,Bool.not_eq_true',decide_eq_true_eq]at D;show da (vH es.size (List.range es.size) (by simp) λpl d hp=>?_);have hl:-pl= ~~~es:=by rw[hp.length_eq,ik]
   show da (wpAny_newTuple ?_ (by have:=Bk S.bd;simp;lia));have g1:(s.heap.push (seqObj "tuple" (pl.map λj:Nat=>rawInt j).toArray 0)).get? s.heap.objs.size=!(seqObj "tuple" (pl.map λj:Nat=>rawInt j).toArray 0):=ge _ O;show da (wpAny_setEpoch_of (fz _ S.at_) O S.fits ?_);show da (wpAny_newObj_type (d0 #[_,O,"set_iterator",_,#[_,ge _ O,O],oN.lookup,?_]));have z:(s.heap.push (seqObj "tuple" (pl.map λj:Nat=>rawInt j).toArray 0)).objs.size= ~~~s.heap.objs+1:=size_push' ..;show h _ d _ s.heap.objs.size (pl.map λj=>(es.getD j (0,.none)).2) (λb o q=>fz _ (fz _ q)) (YY (Zl #[D.1,D.2.2,pl,0,ge _ O,fz _ g1,?_,hp,O])) ?_ ?_ (eK _) ?_ ?_
   . show ga (by show s.heap.objs.size<(s.heap.push _).objs.size;rw[z];show mB _)
   . show(hp.map _).trans (.of_eq ?_);show List.ext_getElem (by simp) λi h1 h2=>?_;have h3:i< ~~~es:=by simpa using h1
     simp[h3]
   .  rw[z];show ox _
   . show eP (ge _ O)
   . show eP (fz _ g1)
 . rename_i D;show da (d0 (da (wpAny_setEpoch_of S.at_ O S.fits ?_)));show da (wpAny_newObj_type (d0 #[_,O,"set_iterator",_,#[_,ge _ O,O],oN.lookup,?_]));have z:∀o:Obj,~~~s.heap.objs<(s.heap.push o).objs.size:=λo=>by rw[size_push'];show mB _
   by_cases hb:byText w=G
   . show h _ s.drawn _ s.heap.objs.size _ (λb o q=>fz _ q) (Zl #[hb,ge _ O,O]) ((WX _ es).map _) (eK _) (eK _) (z _) (z _)
   . have N:byText w=M:=by simpa using hb
     have hz: ~~~es<=1:=by
      rw[N]at D;obtain g|g:=Nat.lt_or_ge 1 es.size
      . show absurd (by rw[S.plain ()];simp;lia) D
      . show g
     show h _ s.drawn _ s.heap.objs.size _ (λb o q=>fz _ q) (YY (YY #[N,hz,0,ge _ O,O,Zl #[O,O]])) .rfl (eK _) (eK _) (z _) (z _)
def Ib(S:lZ s.heap a es ep t (not (byText w)))(j:byText w=G)
 (h:Q (((pickOrder (w.params.setOrder a ep) es)[i]?).map λe=>(e.2,sl)) s):wpAny (model prog w) A (setNext a sl i ep) Q E s:=by
 show da (wpAny_setState_of S.at_ O S.fits (da (da (wpAny_askSetting (d0 ?_)))));show wpAny _ _ (if byText w=G then _ else _) _ _ _;rw[dA j,dQ (by simp)];show da ?_;show da (wpAny_setState_of S.at_ O S.fits (da (da (wpAny_askSetting (d0 ?_)))));show wpAny _ _ (if byText w=G then _ else _) _ _ _;rw[dA j];show da (wpAny_askSetting (d0 (d0 h)))
def Ie{a:Addr}{es:Array (Int×Value)}{F i sl:Nat}{t:SetTable}{Q:Option (Value×Nat)->Shared->Prop}(S:lZ s.heap a es F t (not (byText w)))(N:byText w=M)(hz: ~~~es<=1)
 (h:Q (match es[SetTable.below t.place sl]?,t.place[SetTable.below t.place sl]? with |some (_,x),!j=>some (x,j+1) |_,_=>J) s):wpAny (model prog w) A (setNext a sl i F) Q E s:=by
 unfold setNext setsByText;show da (wpAny_setState_of S.at_ O S.fits (da (da (wpAny_askSetting (d0 ?_)))));show wpAny _ _ (if byText w=G then _ else if (not t.plain&&decide (~~~es>1))=G then _ else _) _ _ _;have W:¬ ~~~es>1:=()
 rw[dQ (by rw[N];simp),dQ (by simp[W])];show da (show wpAny _ _ (if (not t.led&&not es.isEmpty)=G then unsupported "set:maker-not-led" else pure Unit.unit) _ _ _ from ?_);rw[dQ (by rw[S.led,N];simp)];show d0 (d0 h)
def LS(S:lZ s.heap a es ep t b)(q:t7 s.heap it a f i es.size ep):a≠it:=pM S.at_ q (by simp)
def La(z:A.handled=J)(h:∀h' e,(∀b o,s.heap.get? b=!o->h'.get? b=!o)->(∃o,h'.get? e=!o/\o.cls=.type "StopIteration")->E (YV e) { s with heap:=h' }):
 wpAny (model prog w) A (newExc (.type "StopIteration") [] >>= λe=>(raiseNew e:Sem α)) Q' E s:=by
 show da ?_;show da (wpAny_newObj_type (da (wpAny_of_eq () (wpAny_newObj_type ?_ (by size_fits)))) (by size_fits));show da (wpAny_handled ?_);rw[z];show da (d0 (wpAny_throw (h _ _ (λb o q=>fz _ (fz _ q)) #[_,ge _ O,O])))
def GX{P:Addr}(i:s.heap.get? P=!(seqObj "tuple" xs k))(h:Q (!xs) s):wpAny (model prog w) A (seqItems? (YV P)) Q E s:=by show da (wpAny_load i ?_);show d0 h
def yd{sl:Nat}(hh:A.handled=J)(S:lZ s.heap a es ep t (not (byText w)))(q:t7 s.heap N a (rawInt sl) i es.size ep)(r:Option (Value×Nat))
 (hn:∀{A':Around}{Q':Option (Value×Nat)->Shared->Prop}{E':Value->Shared->Prop},Q' r s->wpAny (model prog w) A' (setNext a sl i ep) Q' E' s)
 (h1:∀x n h',r=!(x,n)->Heap.SameBut N s.heap h'->t7 h' N a (rawInt n) (i+1) es.size ep->Q (!x) { s with heap:=h' })
 (h2:r=J->∀h',Heap.ExtBut N s.heap h'->Q J { s with heap:=h' }):wpAny (model prog w) A (pyNext (YV N)) Q E s:=by
 have hT:s.TypeIs (YV N) "set_iterator":=#[_,q,O];show da (wpAny_attempt (wpAny_callSpecial?_slot hT oN (wpAny_call_entry oN hT Qf ?_ (K8 _))));show da (d0 ?_);show da (wpAny_fieldsOf q O (da (wpAny_setEntries_of S.at_ O S.fits ?_)));rw[dQ (by simp)];show da (hn ?_);cases r with
 |some x=>
  let(x,n):=x;show da (wpAny_setField_rec q (by simp) λg1 q1 b1=>da (wpAny_setField_rec q1 (by simp) λg2 q2 b2=>d0 #[_,O,d0 (h1 x n g2 O (b1.trans b2) ?_)]));show q2
 |none=>
  show da (wpAny_setField_rec q (by simp) λg1 q1 b1=>La hh λg2 e k ⟨o,ho,hc⟩=>?_);show da (wpAny_isInstance (T:="StopIteration") (#[o,ho,hc]) isSubtype_stop (?_:wpAny _ _ _ _ _ _));show d0 (h2 O _ λb o hb z=>k b o (b1.extBut b o hb z))
def Ig{F P a:Addr}{pl:List Nat}(hh:A.handled=J)(S:lZ s.heap a es ep t (not (byText w)))(q:t7 s.heap F a (YV P) i es.size ep)
 (hP:s.heap.get? P=!(seqObj "tuple" (pl.map λj:Nat=>rawInt j).toArray k)) (hp:∀j∈pl,j< ~~~es)
 (h1:∀j h',pl[i]?=!j->Heap.SameBut F s.heap h'->t7 h' F a (YV P) (i+1) es.size ep->Q (!(es.getD j (0,.none)).2) { s with heap:=h' })
 (h2:pl[i]?=J->∀h',Heap.ExtBut F s.heap h'->Q J { s with heap:=h' }):wpAny (model prog w) A (pyNext (YV F)) Q E s:=by
 have hT:s.TypeIs (YV F) "set_iterator":=#[_,q,O];show da (wpAny_attempt (wpAny_callSpecial?_slot hT oN (wpAny_call_entry oN hT Qf ?_ (K8 _))));show da (d0 ?_);show da (wpAny_fieldsOf q O (da (wpAny_setEntries_of S.at_ O S.fits ?_)));rw[dQ (by simp)];show da (GX hP ?_);show wpAny _ _ (match (pl.map λj:Nat=>rawInt j).toArray[i]? with |some (.int place _)=>_ |some _=>_ |none=>_) _ _ _;cases N:pl[i]? with
 |some j=>
  rw[show (pl.map λj:Nat=>rawInt j).toArray[i]?=some (rawInt j) from by simp[N]];let kD:=hp j (g7 N);show wpAny _ _ (setNextDrawn a j ep >>= λx=>setField (YV F) 1 (rawInt ((i:Int)+1)) >>= λ_=>ret x) _ _ _;show da ?_;show da (wpAny_setState_of S.at_ O S.fits ?_);dsimp only;rw[dQ (by simp),Array.getElem?_eq_getElem kD];have e0:(es.getD j (0,.none)).2=es[j].2:=by simp[kD]
  let y4:=h1 j;rw[e0]at y4;show d0 (da (wpAny_setField_rec q (by simp) λg1 q1 b1=>d0 #[_,O,d0 (y4 g1 N b1 ?_)]));show q1
 |none=>
  rw[show (pl.map λj:Nat=>rawInt j).toArray[i]?=J from by simp at N ⊢;show N];show da (wpAny_setField_rec q (by simp) λg0 q0 b0=>da (wpAny_setField_rec q0 (by simp) λg1 q1 b1=>La hh λg2 e k ⟨o,ho,hc⟩=>?_));show da (wpAny_isInstance (T:="StopIteration") (#[o,ho,hc]) isSubtype_stop (?_:wpAny _ _ _ _ _ _));show d0 (h2 N _ λb o hb z=>k b o (b1.extBut b o hb (b0.extBut b o hb z)))
def vI.keep{z P a:Addr}(W:vI w h z P a es ep t vs i)(F:∀o,h.get? z=!o->h'.get? z=!o)(k2:∀o,h.get? P=!o->h'.get? P=!o):vI w h' z P a es ep t vs i:=by
 obtain⟨j,q,e⟩|⟨j,D,pl,k,q,Q,N,hp,e⟩|⟨j,D,sl,q,e,hs⟩:=W
 . show Zl #[j,F _ q,e]
 . show YY (Zl #[j,D,pl,k,F _ q,k2 _ Q,N,hp,e])
 . show YY (YY #[j,D,sl,F _ q,e,hs])
def Ih:SetTable.below (List.toArray [p]) 0=0/\SetTable.below (List.toArray [p]) (p+1)=1:=by
 constructor
 . simp[SetTable.below,SetTable.below.go]
 . simp[SetTable.below,SetTable.below.go]
theorem lZ.place(S:lZ h a es ep t b): ~~~t.place= ~~~es:=by have:=S.fits;simp only[SetTable.fits,iX,beq_iff_eq]at this;show this.1
def vI.ne{j P a:Addr}(S:lZ s.heap a es ep t b)(W:vI w s.heap j P a es ep t vs i):a≠j:=by rcases W with ⟨z,q,e⟩|⟨z,D,pl,k,q,N,F,Q,e⟩|⟨z,D,sl,q,e,hs⟩<;>show LS S q
def Lb:entryFor table "set_iterator.__iter__"=some Builtin.«dict_keyiterator.__iter__»:=entryFor_alias (id':="dict_keyiterator.__iter__") () () () ()
def JK(a:Value):argsOk "set_iterator.__iter__" #[[a],[]]:=by unfold argsOk;rw[signature?_of (id:="set_iterator.__iter__") (n:=['_','_','r','e','t','i','_','_']) () Qe];kernel_rfl
def W0(q:t7 s.heap it a f i n ep)(h:Q (.ref it) s):wpAny (model prog w) A (pyIter (.ref it)) Q E s:=by have hT:s.TypeIs (.ref it) "set_iterator":=#[_,q,rfl];show wpAny_pyIter_slot hT K7 (wpAny_call_entry K7 hT Lb ?_ (JK _));show show wpAny _ _ (ret (.ref it)) _ _ s from d0 #[_,rfl,"set_iterator",_,hT,oN.lookup,h]
def Ur(hh:A.handled=none)(it P a:Addr)(es:Array (Int×Value))(ep:Nat)(t:SetTable)(vs:List Value):
 Walks prog w A it [it,P,a] [it] (-vs) (λi v=>vs[i]?=!v) (λi h=>vI w h it P a es ep t vs i/\lZ h a es ep t (not (byText w))) where
 sub:=λb hb=>by
  have:b=it:=by simpa using hb
  simp[this]
 frame:=λi h h' st k=>#[st.1.keep (λo q=>k it (by simp) o q) λo q=>k P (by simp) o q,st.2.moved λo q=>k a (by simp) o q]
 item:=λi s Q E hi st hQ=>by
  let(W,S):=st;obtain⟨v,hv⟩:∃v,vs[i]?=!v:=#[_,gz hi];let na:=W.ne S;have fin:∀h',Heap.SameBut it s.heap h'->vI w h' it P a es ep t vs (i+1)->Q (!v) { s with heap:=h' }:=λh' b W'=>hQ _ h' s.toks hv #[W',S.moved λo q=>(b.2 a na).trans q] λc o hc q=>b.extBut c o (λz=>hc (by simp[z])) q;obtain⟨hb,q,e⟩|⟨hb,hz,pl,k,q,hP,pS,hp,e⟩|⟨hb,hz,sl,q,e,hs⟩:=W
  . have hx:∃z,(pickOrder (w.params.setOrder a ep) es)[i]?=!z/\z.2=v:=by
     let h0:=hv;rw[e,fI,Array.getElem?_toList]at h0;cases hz:(pickOrder (w.params.setOrder a ep) es)[i]? with
     |none=>rw[hz]at h0;cases h0
     |some z=>rw[hz]at h0;show#[z,rfl,by simpa using h0]
    let(z,hz,ez):=hx;show yd hh S q (!(z.2,0)) (λ{A'} {Q'} {E'} hq=>Ib S hb (by rw[hz];show hq)) (λx n h' er b q'=>?_) (λer=>by cases er);cases er;rw[ez];show fin h' b (.inl #[hb,q',e])
  . show Ig hh S q hP (λj hj=>by simpa using hp.mem_iff.mp hj) (λj h' hj b q'=>?_) (λhn=>?_)
    . have:(es.getD j (0,.none)).2=v:=by let h0:=hv;rw[e,fI,hj]at h0;simpa using h0
      rw[this];show fin h' b (.inr (.inl #[hb,hz,pl,k,q',(b.2 P pS).trans hP,pS,hp,e]))
    . let h0:=hv;rw[e,fI,hn]at h0;cases h0
  . have hl:-vs= ~~~es:=by rw[e];simp
    have LU:i=0:=()
    have LV:sl=0:=by
     obtain⟨_,g⟩|⟨p,_,g,_⟩:=hs
     . show g
     . lia
    have LY: ~~~es=1:=()
    obtain⟨p,hp⟩:∃p,t.place=(List.toArray [p]):=by have:=S.place;rw[LY]at this;show Array.size_eq_one_iff.mp this
    have LZ:SetTable.below t.place sl=0:=by rw[hp,LV];show Ih.1
    have he:es[0]?=some es[0]:=Array.getElem?_eq_getElem ();have ev:v=es[0].2:=by subst LU;let h0:=hv;rw[e,fI,Array.getElem?_toList,he]at h0;simpa using h0.symm
    show yd hh S q (!(es[0].2,p+1)) (λ{A'} {Q'} {E'} hq=>Ie S hb hz (by rw[LZ,he,hp];show hq)) (λx n h' er b q'=>?_) (λer=>by cases er);cases er;rw[<-ev];show fin h' b (.inr (.inr #[hb,hz,p+1,q',e,.inr #[p,hp,(),rfl]]))
 done:=λs Q E st hQ=>by
  let(W,S):=st;have fin:∀h',Heap.ExtBut it s.heap h'->Q none { s with heap:=h' }:=λh' b=>hQ h' s.toks λc o hc q=>b c o (λz=>hc (by simp[z])) q;obtain⟨hb,q,e⟩|⟨hb,hz,pl,k,q,hP,pS,hp,e⟩|⟨hb,hz,sl,q,e,hs⟩:=W
  . have hn:(pickOrder (w.params.setOrder a ep) es)[-vs]?=none:=by rw[e];simp
    show yd hh S q none (λ{A'} {Q'} {E'} hq=>Ib S hb (by rw[hn];show hq)) (λx n h' er b q'=>by cases er) (λ_=>fin)
  . show Ig hh S q hP (λj hj=>by simpa using hp.mem_iff.mp hj) (λj h' hj b q'=>by rw[e]at hj;simp at hj) (λ_=>fin)
  . have hl:-vs= ~~~es:=by rw[e];simp
    show yd hh S q none (λ{A'} {Q'} {E'} hq=>Ie S hb hz ?_) (λx n h' er b q'=>by cases er) (λ_=>fin);obtain⟨g,g'⟩|⟨p,hp,g,g'⟩:=hs
    . have:es=#[]:=by apply Array.eq_empty_of_size_eq_zero;lia
      subst this;simpa using hq
    . rw[hp,g',Ih.2];have: ~~~es=1:=()
      let hn:=kt ();rw[hn];show hq
 self:=λi s Q E st hQ=>by rcases st.1 with ⟨hb,q,e⟩|⟨hb,hz,pl,k,q,hP,pS,hp,e⟩|⟨hb,hz,sl,q,e,hs⟩<;>show W0 q hQ
def Ey(prog:Program)(w:World)(A:Around)(d:Addr)(ok:List Value->Prop)(s1:Shared):Prop:=∀(Q':Value->Shared->Prop)(E':Value->Shared->Prop),
 (∀h' dr I fp wr n P St,(∀b o,s1.heap.get? b=!o->h'.get? b=!o)->Walks prog w A I fp wr n P St->St 0 h'->(∀acc,ItemsOf P acc n->ok acc.toList)->(∀b∈fp,b=d\/s1.heap.objs.size<=b)->(∀b∈wr,~~~s1.heap.objs<=b)->n<=sizeLine->Q' (YV I) { s1 with heap:=h',drawn:=dr })->
 wpAny (model prog w) A (pyIter (YV d)) Q' E' s1
abbrev v6:Obj:={ cls:=.type "list",data:=.seq ([]:List Value).toArray }
def R7(h:ItemsOf (λi v=>vs[i]?=!v) acc (-vs)):acc.toList=vs:=by
 show List.ext_getElem? λi=>?_;rw[Array.getElem?_toList];cases hi:acc[i]? with
 |some v=>show(h.2 i v hi).symm
 |none=>
  have:-vs<=i:=by rw[<-h.1];show Array.getElem?_eq_none_iff.mp hi
  show(nr this).symm
def Ez(lT:T="set"\/T="dict")(hT:s.TypeIs (YV d) T)(hI:Ey prog w A.in1 d ok { s with heap:=s.heap.push v6 })
 (hQ:∀h' dr tk vs,ok vs->(∀b o,s.heap.get? b=!o->h'.get? b=!o)-> ~~~s.heap.objs<= ~~~h'.objs->Q vs { s with heap:=h',drawn:=dr,toks:=tk }):wpAny (model prog w) A (collect (YV d)) Q E s:=by
 have hd:d< ~~~s.heap.objs:=by let(o,ho,_):=hT;show eP ho
 show da (wpAny_runValue (codeAny_builtin F.entry_proto_collect (?_:wpAny _ _ _ _ _ _)));show(da (wpAny_newObj_type (d0 #[plainId_quiet F.plain_list_iadd _,codeAny_builtin F.entry_list_iadd (?_:wpAny _ _ _ _ _ _)])));have y6:Shared.TypeIs { s with heap:=s.heap.push v6 } (YV d) T:=by let(o,ho,hc):=hT;show#[o,fz _ ho,hc]
 show(show wpAny _ A.in1 (Builtin.List.listExtendWith (YV s.heap.objs.size) (YV d) (YV s.heap.objs.size)) _ _ { s with heap:=s.heap.push v6 } from ?_);show da (wpAny_typeOf y6 ?_);have h1:Builtin.List.listSameRef (YV s.heap.objs.size) (YV d)=M:=by have: ~~~s.heap.objs≠d:=kc hd;simp[Builtin.List.listSameRef,this]
 have g0:(s.heap.push v6).get? s.heap.objs.size=!v6:=ge _ O;have z0:(s.heap.push v6).objs.size= ~~~s.heap.objs+1:=size_push' ..;rw[dQ (by rcases lT with rfl|rfl<;>(rw[h1];decide))];show da (hI _ _ λh' dr I fp wr n P St k W st hok L0 L1 ic=>?_);have kF:Shared.TypeIs { s with heap:=h',drawn:=dr } (YV d) T:=by let(o,ho,hc):=y6;show#[o,k _ _ ho,hc]
 let g1:=k _ _ g0;have nf: ~~~s.heap.objs∉fp:=λq=>by
  obtain z|z:=L0 _ q
  . show absurd z (kc hd)
  . rw[z0]at z;show absurd z (Nat.not_succ_le_self _)
 have hint:∀{Q':Bool->Shared->Prop}{E':Value->Shared->Prop},Q' M { s with heap:=h',drawn:=dr }->wpAny (model prog w) A.in1 (Builtin.List.listLengthHint (YV d)) Q' E' { s with heap:=h',drawn:=dr }:=by
  intro Q' E' q;unfold Builtin.List.listLengthHint;obtain rfl|rfl:=lT
  . show da (wpAny_specialOf kF F.slot_set_len.lookup ?_);generalize nL:("set.__len__" : String)=tp
    wp_delta
    rw[show splitId tp=some ("set","__len__") from by subst nL;decide +kernel];subst nL;show da (wpAny_isInstance (b:=G) kF (by rw[isSubtype_type];kernel_rfl) ?_);rw[dQ (by simp)];dsimp only;rw[dA ()];show da (wpAny_typeOf kF (d0 q))
  . show da (wpAny_specialOf kF F.slot_dict_len.lookup ?_);generalize nL:("dict.__len__" : String)=tp
    wp_delta
    rw[show splitId tp=some ("dict","__len__") from by subst nL;decide +kernel];subst nL;show da (wpAny_isInstance (b:=G) kF (by rw[isSubtype_type];kernel_rfl) ?_);rw[dQ (by simp)];dsimp only;rw[dA ()];show da (wpAny_typeOf kF (d0 q))
 show da (wpAny_holding (hint ?_));rw[dA (by rcases lT with rfl|rfl<;>decide +kernel)];show da (wpAny_rule (da ?_));show(da (wpAny_updateSeq g1 O ?_));let g2:=mT (Obj.mapSeq (·.push Value.none)) g1 O;show wpAny_updateSeq g2 O ?_;let g3:=mT (Obj.mapSeq (·.pop)) g2 O;have y7:∀b o,b≠s.heap.objs.size->h'.get? b=!o->((h'.update s.heap.objs.size (Obj.mapSeq (·.push Value.none))).update s.heap.objs.size (Obj.mapSeq (·.pop))).get? b=!o:=λb o hb q=>(mP _ _ (Ne.symm hb)).trans ((mP _ _ (Ne.symm hb)).trans q);show d0 #[plainId_quiet F.plain_extend_loop _,codeAny_extend_loopS W.toS ic s.heap.objs.size nf (YV s.heap.objs.size) n 0 _ _ _ O (gy _) (W.frame 0 h' _ st λb hb o q=>y7 b o (λz=>nf (z▸hb)) q) g3 (ItemsOf.nil _) λs' acc c m g4 it=>?_];show(da (wpAny_load g4 (d0 ?_)));let(x1,x2,x3,x4,x5):=s';obtain rfl:x2=s.gens:=m.gens;obtain rfl:x3=dr:=m.drawn;obtain rfl:x5=s.os:=m.os;show hQ x1 x3 x4 acc.toList (hok acc it) (λb o q=>m.heap b o (λz=>?_) (y7 b o (ga (eP q)) (k _ _ (fz _ q)))) (nw (eP g4));obtain z|z:=d5.mp z
 . show absurd z (ga (eP q))
 . have:=L1 b z;rw[z0]at this;show absurd (g9 (eP q) (rT this)) (mx _)
def EY(F:A.handled=J)(S:lZ s.heap a es ep t (not (byText w))):Ey prog w A a (λvs=>vs.Perm (es.toList.map (·.2))) s:=λQ' E' k=>WY S λh' d j P vs ext W D l1 l2 _ _=>by
 have N:-vs= ~~~es:=by rw[D.length_eq];simp
 show k h' d j [j,P,a] [j] _ _ _ ext (Ur F j P a es ep t vs) #[W,S.moved λo q=>ext _ _ q] (λQ q=>by rw[R7 q];show D) (λb i=>?_) (λb i=>?_) (by rw[N];show Bk S.bd)
 . simp only[d5,kM,or_false]at i;obtain rfl|rfl|rfl:=i
   . show YY l1
   . show YY l2
   . show Zl O
 . simp only[d5,kM,or_false]at i;subst i;show l1
def Us(lT:T="set"\/T="dict")(hT:s.TypeIs (YV d) T)(hI:Ey prog w A.in1.in1 d ok { s with heap:=s.heap.push v6 })(hok:∀vs,ok vs->(∃D,StrsAre vs D)/\-vs<64)
 (h:∀h' dr tk L out c vs D j,ok vs->StrsAre vs D->StrsAre out.toList j->j.Perm D->sortedS j=G->(∀b o,s.heap.get? b=!o->h'.get? b=!o)->h'.get? L=!(seqObj "list" out c)-> ~~~s.heap.objs<=L->Q (YV L) { s with heap:=h',drawn:=dr,toks:=tk }):
 wpAny (model prog w) A (call (.builtin "sorted") [YV d]) Q E s:=by
 show Calls.call_function_entry kind_sorted plain_sorted entry_sorted (args_sorted1 _) ?_;show da (d0 (da (Ez lT hT hI λh1 dr tk vs hv k hz=>?_)));let((D,hs),hl):=hok vs hv;show da (wpAny_newList ?_ (by rw[sizeLine_eq];lia));have W:(h1.push (seqObj "list" vs.toArray 0)).get? h1.objs.size=!(seqObj "list" vs.toArray 0):=ge _ O;show da (wpAny_holding (wpAny_call_entry slot_list_sort #[_,W,O] entry_list_sort (list_sort_treeK strKind_oneLt W hs.keysOf (λv₁ v₂ dP e=>keyKind_strs (by rw[<-e];show hs)) hl λf6 p1 p2=>#[_,O,?_]) (args_list_sort _)));let(j,r1,r2,r3):=sorted_out_str hs p1 p2;let(e,he):=sortedHeap_at W;show d0 #[_,O,h _ dr tk _ _ e vs D j hv hs r1 r2 r3 (λb o q=>?_) he ?_]
 . show(sortedHeap_old (ga (eP (k b o q))) (by rw[size_push'];show j3 (eP (k b o q)))).trans (fz _ (k b o q))
 . show hz
end
section
variable {X:Cx}{a_:List (Addr×Obj)}{U:St}{H:Hp}{s:Shared}
def c_.drew(I:c_ X a_ U H s)(d:Drawn):c_ X a_ U H { s with drawn:=d }:=
 I.step (ch:=[]) (λb j=>by cases j) (λb o _ _ _ e _=>e) (λb o _ _ _ e _=>#[o.slots,e]) (λ_ _ _ _ n=>n) (λb o _ e=>#[o,e]) (λ_ _ e=>e) (λ_ _ _ e=>e) (λb ps e=>#[#[],by rw[e];simp]) (λm q=>q) I.hok I.bare
theorem Ii:∀{j:List Str}{i:List Value},db (j.map V.str) i->StrsAre i j
 |[],i,r=>by cases r;show .nil
 |x::j,i,r=>by
  cases r with
  |cons a b=>
   let(t,rfl):=a;show .cons x t (Ii b)
theorem Ij:∀{i:List Value}{j:List Str},StrsAre i j->db (j.map V.str) i
 |_,_,.nil=>.nil
 |_,_,.cons y t r=>.cons #[t,O] (Ij r)
def Ld(P:Program)(w:World)(a:Addr)(ss:List Str):Heap->Prop:=λh=>∃es ep t,tK P w h a es ep t (not (byText w))/\(∀y,y∈gG es ↔ y∈ss)/\es.size<=-ss
def y8(X:Cx):List V->Hp->VK->Prop:=λxs H Q=>∃a ss,xs=[.ref a]/\bY X.K H a (ss.map V.str)/\-ss<4000/\∀l,H l=J->Q (.ref l) (dW H l (.ext (Ld X.prog X.w l ss)))
def W2(F:X.calm=G):lO X (.type "set") (y8 X):=by
 intro a_ s U H xs us Q I r h;let(a,D,rfl,N,hl,q):=h;let(u,rfl,W):=gg r;cases W;let(i,rv,pl,hz):=I.list N;let hs:=Ii rv;let e0:=Do hs;show Ou (I.ok.hd F) pl.isList () (by show i.toArray.size+1<4096;rw[gX];lia) λh' tk es j t S mem sz kp=>?_;have z: ~~~es<=-D:=by
  have e9: ~~~i.toArray=-i:=by simp
  lia
 show#[.ref s.heap.objs.size,_,I.laid (λb o e=>kp b o (eP e) e) () (show fG X.prog X.w _ h' _ (.ext (Ld X.prog X.w s.heap.objs.size D)) from #[#[es,j,t,S,mem,z],#[_,S.at_],λh1 h2 L3 k=>by let(es,j,t,S,r):=L3;show #[es,j,t,S.moved k,r]]),O,q _ (I.hok.fresh ())]
def Ut(X:Cx):List V->Hp->VK->Prop:=λxs H Q=>∃a ss,xs=[.ref a]/\H a=!(.ext (Ld X.prog X.w a ss))/\-ss<64/\∀l pT,H l=J->pT.Nodup->(∀y,y∈pT ↔ y∈ss)->sortedS pT=G->Q (.ref l) (dW H l (.lst (pT.map V.str)))
def Uu(p:vs.Perm (es.toList.map (·.2)))(h:StrsAre vs ss):ss.Perm (gG es):=by
 rw[<-h.strs];have:=p.map strOf
 rwa [im]at this
def Fb(hc:X.calm=G):lO X (.builtin "sorted") (Ut X):=by
 intro a_ s U H xs us Q I r h;let(a,ss,rfl,W,hl,q):=h;let(u,rfl,rx):=gg r;cases rx;let((es,ep,t,S,mem,sz),_):=I.hok a _ W;show Us (T:="set") (Zl O) #[_,S.at_,O] (EY (by simpa using I.ok.hd hc) (S.1.moved λo e=>fz _ e)) (λj p=>#[#[_,strsAre_map j λv F=>?_],?_]) λh' dr N L out c j s1 i p t1 t2 p2 so kp g z=>?_
 . let(e,he,rfl):=fy.mp (p.mem_iff.mp F);let((k,h1,_),_):=S.el e he;let(u,hu):=Value.isStrOf_shape h1;show#[k,u,hu]
 . have:=p.length_eq;simp only[eI,hY]at this;lia
 . let pk:=p2.trans (Uu p t1);have kT:-i<=64:=by have:=pk.length_eq;unfold gG at this;simp only[eI,hY]at this;lia
   let D:=I.laid (t':=N) kp z (show fG X.prog X.w _ h' L (.lst (i.map V.str)) from #[by rw[eI,sizeLine_eq];lia,out.toList,c,Ij t2,g]);show#[.ref L,_,D.drew dr,O,q L i (I.hok.fresh z) (pk.nodup_iff.mpr S.nd) (λy=>(pk.mem_iff).trans (mem y)) so]
end
noncomputable def L4:V->Option Str
 |.str z=>!z
 |.int i=>if i.natAbs.log2<1920 then !(toString i) else J
 |_=>J
def Qh(c:Str):Str.empty++c=c:=by show (#[#[]++c.cps]:Str)=c;rw[Array.empty_append]
def L5(c:Str)(t:TE):TE:=λU H Q=>t U H λv H'=>∃z,L4 v=!z/\-(c++z)<=sizeLine/\-z<=sizeLine/\Q (.str (c++z)) H'
section
variable {X:Cx}
def L6(hc:-c<=sizeLine)(he:PE X e t):PE X (.JoinedStr [.Constant (.str c) j p1,.FormattedValue e (-1) J p2] p3) (L5 c t):=λa_ s U H Q I h=>by
 show JoinedStr_many (joinParts_cons (Calls.Constant_str #[by rw[Qh];show hc,?_]));rw[Qh];show joinParts_cons (FormattedValue_plain (wpAny_mono (he a_ _ U H _ (I.tok _) h) (λu s1 q=>?_) λ_ _ x=>x));let(v,H',I1,rv,z,N,F,W,q):=q;cases v with
 |str x=>
  cases N;let(tk,rfl):=rv;show formatField_str (λt' tk=>#[F,joinParts_nilE (joinParts_nil #[.str (c++z),H',(I1.tok _).tok _,#[_,O],q] F)]) W
 |int i=>
  have D:(if i.natAbs.log2<1920 then !(toString i) else J:Option Str)=!z:=N;split at D
  . rename_i hi;cases D;let(tk,rfl):=rv;show formatField_int_small hi #[F,joinParts_nilE (joinParts_nil #[.str (c++toString i),H',((I1.tok _).tok _),#[_,O],q] F)]
  . cases D
 |_=>cases N
end
abbrev aV:=Option fR
def nR:aV->V
 |none=>.non
 |some k=>kV k
def W3:aV->Value->Bool
 |none,v=>v==.none
 |some k,v=>vA k v
def L_(w:World):aV->Int
 |none=>0xFCA86420
 |some k=>xo w k
theorem fH:∀{k:aV}{v:Value},W3 k v=G->(k=J/\v=.none)\/∃x,k=!x/\vA x v=G
 | none,v,h=>Zl #[O,by
  cases v<;>first | rfl | (exfalso;revert h;unfold W3;simp)]
 |some x,v,h=>YY #[x,O,h]
section
variable {prog:Program}
def Uv(h:Q 0xFCA86420 { s with toks:=s.toks+1 }):wpAny (model prog w) A (pyHash .none) Q E s:=by have i:s.TypeIs .none "NoneType":=O;show da ?_;show d0 (da (wpAny_specialOf i F.slot_NoneType_hash.lookup ?_));show da (wpAny_specialOf i F.slot_NoneType_hash.lookup (da (wpAny_callSpecialIfBoundUnlessNone?_slot i F.slot_NoneType_hash (wpAny_call_entry F.slot_NoneType_hash i F.entry_NoneType_hash ?_ ()))));show wpAny_ret_mkInt ?_;show d0 h
end
def eV(prog:Program)(w:World):PySem.KeyKind prog w aV where
 is:=W3
 hash:=L_ w
 inj:=λv a b ha hb=>by
  obtain⟨rfl,rfl⟩|⟨x,rfl,hx⟩:=fH ha
  . obtain⟨rfl,_⟩|⟨y,rfl,hy⟩:=fH hb
    . rfl
    . rcases dB hy with ⟨i,t,_,e⟩|⟨i,t,_,e⟩<;>cases e
  . obtain⟨rfl,e⟩|⟨y,rfl,hy⟩:=fH hb
    . subst e;rcases dB hx with ⟨i,t,_,e⟩|⟨i,t,_,e⟩<;>cases e
    . show congrArg some ((fW prog w).inj v x y hx hy)
 byValue:=λk v h=>by
  obtain⟨rfl,rfl⟩|⟨x,rfl,hx⟩:=fH h
  . rfl
  . show(fW prog w).byValue x v hx
 pyHash:=λhv h=>by
  obtain⟨rfl,rfl⟩|⟨x,rfl,hx⟩:=fH hv
  . show Uv h
  . show(fW prog w).pyHash hx h
 eqBool:=λhu hv h=>by
  obtain⟨rfl,rfl⟩|⟨x,rfl,hx⟩:=fH hu
  . obtain⟨rfl,rfl⟩|⟨y,rfl,hy⟩:=fH hv
    . show SeqAt.EqAt.same _ _ _ _ _ h
    . obtain⟨i,t,rfl,rfl⟩|⟨i,t,rfl,rfl⟩:=dB hy
      . show SeqAt.EqAt.none_int i t _ _ _ _ h
      . show SeqAt.EqAt.none_str i t _ _ _ _ h
  . obtain⟨rfl,rfl⟩|⟨y,rfl,hy⟩:=fH hv
    . obtain⟨i,t,rfl,rfl⟩|⟨i,t,rfl,rfl⟩:=dB hx
      . show SeqAt.EqAt.int_none i t _ _ _ _ h
      . show SeqAt.EqAt.str_none i t _ _ _ _ h
    . show(fW prog w).eqBool hx hy ?_;have e:decide ((some x:aV)=!y)=decide (x=y):=by simp
      rw[e]at h;show h
 «strs»:=λk x t v h=>by
  obtain⟨rfl,e⟩|⟨y,rfl,hy⟩:=fH h
  . cases e
  . show(fW prog w).strs y x t v hy
theorem Mb:∀{k:aV}{u:Value},dE (nR k) u->(eV P w).is k u=G
 |none,u,r=>by let e:=r;subst e;rfl
 |some k,u,r=>J7 (P:=P) (w:=w) r
theorem Qi:∀{ks:List aV}{i:List Value},db (ks.map nR) i->ItemsAre (eV P w) ks i
 |[],i,h=>by let e:=h.zero;subst e;show .nil
 |k::ks,i,h=>by
  cases h with
  |cons r t=>show .cons (Mb r) (Qi t)
def CT(P:Program)(w:World):List aV->Int:=(tupleKind (eV P w)).hash
abbrev XD:=List (List aV×Addr×V)
abbrev XV:=List (List aV×Addr×Value)
def XR:XD->XV->Prop:=Paired λx y=>x.1=y.1/\x.2.1=y.2.1/\dE x.2.2 y.2.2
def wA(hk:List aV->Int)(a:Addr)(xs:XD):Heap->Prop:=λh=>-xs<=sizeLine/\(a==sysModules)=M/\∃ys:XV,XR xs ys/\(ys.map (·.1)).Nodup/\
 ∃o es ep,h.get? a=!o/\o.ExactDict/\o.data=.dict es ep/\es.toList=ys.map λy=>#[hk y.1,YV y.2.1,y.2.2]
def dX(P:Program)(w:World)(a:Addr)(xs:XD):HO:=.ext (wA (CT P w) a xs)
def y9(p:wA hk a xs h):fG P w H h a (.ext (wA hk a xs)):=by let q:=p;let(_,_,ys,_,_,o,es,i,e,_):=q;show#[p,#[o,e],λh1 h2 ⟨z,m,ys,r,n,o,es,i,e,g⟩ k=>#[z,m,ys,r,n,o,es,i,k _ e,g]]
def jT(xs:XD)(k:List aV):Option V:=(xs.find? λx=>decide (x.1=k)).map (·.2.2)
theorem XR.at:∀{xs:XD}{ys:XV},XR xs ys->(∀v,jT xs k=!v->∃p,atKey ys k=!p/\dE v p.2)/\(jT xs k=J->atKey ys k=J)
 |_,_,.nil=>#[λv h=>(by cases h),λ_=>O]
 |x::xs,y::ys,.cons #[h1,h2,j] t=>by
  let i:=XR.at (k:=k) t;unfold jT atKey at i ⊢;by_cases e:x.1=k
  . grind
  . grind
theorem XR.snoc(h:x.1=y.1/\x.2.1=y.2.1/\dE x.2.2 y.2.2):∀{xs:XD}{ys:XV},XR xs ys->XR (xs++[x]) (ys++[y])
 |_,_,.nil=>.cons h .nil
 |_,_,.cons a t=>.cons a (XR.snoc h t)
theorem XR.mem:∀{xs:XD}{ys:XV},XR xs ys->∀y∈ys,∃x∈xs,x.1=y.1/\x.2.1=y.2.1
 |_,_,.nil=>λy h=>by cases h
 |x::xs,z::ys,.cons #[h1,h2,_] t=>λy h=>by
  obtain rfl|h:=d5.mp h
  . grind
  . let(i,m,e):=XR.mem t y h;grind
section
variable {prog:Program}{w:World}{A:Around}{E:Value->Shared->Prop}{s:Shared}{K:Type}[DecidableEq K]{knd:HeapKind prog w K}
def Ov(hu:knd.room A)(i:knd.is s.heap k a)(hm:s.heap.DictOfH knd d xs)
 (q1:∀p,atKey xs k=!p->Q p.2 { s with toks:=s.toks+knd.draws k })
 (q2:atKey xs k=J->∀h',h'.DictOfH knd d (xs++[(k,a,v)])->Heap.SameBut d s.heap h'->Q v { s with heap:=h',toks:=s.toks+knd.draws k })
 (ic:-xs<=sizeLine):wpAny (model prog w) A (dictSetDefault d (YV a) v) Q E s:=by
 let(o,es,ep,D,hc,q,he,N,hn):=hm;let hsz':=size_of_entries he;show wpAny_holding ?_;show da (knd.pyHash hu i (da (wpAny_dictFind_heap hu i D q he N hn (λF=>?_) λj p hj=>?_)))
 . let hq:=atKey_none_of_get F;show da (wpAny_rule (da (wpAny_updateDictKeys D q (d0 (q2 hq _ ?_ (lh ..))))));show#[_,_,ep+1,mT _ D (Obj.isFreed_of_dict (Obj.data_mapDictKeys q _)),hc.mapDictKeys _,Obj.data_mapDictKeys q _,by simp[he,entryOfKey],λx z=>?_,?_]
   . obtain z|z:=fw.mp z
     . show knd.keeps (N x z) D q (lh ..)
     . rw[gT.mp z];show knd.keeps i D q (lh ..)
   . rw[fx];show o_.mpr #[hn,ip.mpr #[kM,oQ],λx z y hy e=>not_mem_keys_of_get F ?_];grind
 . show da (wpAny_dictEntries D q ?_);rw[entry_at he j,hj];show da (wpAny_rule (d0 (q1 p (atKey_of_get hn hj))))
end
section
variable {X:Cx}
def ux{U:St}(I:c_ X a_ U H s)(e:cW X.K H b (k.map nR)):(tupleKind (eV P w)).is s.heap k b:=by let(i,r,(o,h1,h2,n,j),_):=I.tuple e;show#[o,i.toArray,n,h1,h2,j,by simpa using Qi r]
def c_.dx{U:St}(I:c_ X a_ U H s)(e:H a=!(dX X.prog X.w a xs))(hk:∀x∈xs,cW X.K H x.2.1 (x.1.map nR)):
 -xs<=sizeLine/\(a==sysModules)=M/\∃ys:XV,XR xs ys/\s.heap.DictOfH (tupleKind (eV X.prog X.w)) a ys:=by
 let((z,m,ys,r,n,o,es,F,h1,h2,i,Q),_):=I.hok a _ e;show#[z,m,ys,r,o,es,F,h1,h2,i,Q,λy j=>?_,n];let(x,q,D,N):=r.mem y j;rw[<-D,<-N];show ux I (hk x q)
theorem XR.len:∀{xs:XD}{ys:XV},XR xs ys->-ys=-xs
 |_,_,.nil=>rfl
 |_,_,.cons _ t=>by rw[d6,d6,XR.len t]
def Uw(P:Program)(w:World)(K:FG):V->List V->Hp->VK->Prop:=λx vs H Q=>∃a b xs k v,x=.ref a/\vs=[.ref b,v]/\H a=!(dX P w a xs)/\(∀x∈xs,cW K H x.2.1 (x.1.map nR))/\cW K H b (k.map nR)/\-xs<sizeLine/\
 match jT xs k with
 |some u=>Q u H
 |none=>Q v (dW H a (dX P w a (xs++[(k,b,v)])))
def Ux(hu:X.A.units+1<cLine):PP X "dict.setdefault" (Uw X.prog X.w X.K):=by
 intro a_ s U H x vs v us Q I rx rv h;let(a,b,xs,k,y,rfl,rfl,hH,W,hb,hl,q):=h;cases rx;let(u,r,rfl,rb,ry):=rv.two;cases (rb);let(z,m,ys,j,dd):=I.dx hH W;let pV:=j.len;show call_meetsIn F.slot_dict_setdefault dd.typeIs F.entry_dict_setdefault (F.args_dict_setdefault_3 _ _ _) (S:=λA ZN s'=>A=X.A/\ZN=wants (EP X a_ U Q) X.xe/\s'=s) (.of_wp λA ZN s' Mc=>?_) #[O,O,O];let(e1,e2,e3):=Mc;subst e1 e2 e3;show da ?_;show da (wpAny_notOrdered_dict dd.typeIs ?_);show(d0 ?_);dsimp only;rw[dQ ∅];show da (Ov (tupleKind_room_in1 hu) (ux I hb) dd (λp hp=>d0 #[p.2,O,?_]) (λhn h' D hs=>d0 #[r,O,?_]) ())
 . cases e:jT xs k with
   |none=>rw[(j.at).2 e]at hp;grind
   |some N=>
    rw[e]at q;let(p',i,rp):=(j.at).1 N e;rw[hp]at i;cases i;show#[_,_,I.tok _,rp,q]
 . cases e:jT xs k with
   |some N=>
    let(p',i,_):=(j.at).1 N e;grind
   |none=>
    rw[e]at q;let(o,es,ep,h1,h2,h3,h4,h5,h6):=D;show#[_,_,GQ I (by rw[hH];show True.intro) hs #[o,h1] (y9 #[?_,m,ys++[(k,b,r)],j.snoc #[O,O,ry],h6,o,es,ep,h1,h2,h3,h4]),ry,q];grind
def Y8(P:Program)(w:World)(K:FG):V->List V->Hp->VK->Prop:=λx vs H Q=>∃a b xs k v,x=.ref a/\vs=[.ref b,v]/\H a=!(dX P w a xs)/\(∀x∈xs,cW K H x.2.1 (x.1.map nR))/\cW K H b (k.map nR)/\Q ((jT xs k).getD v) H
def Qj(hu:X.A.units+1<cLine):PP X "dict.get" (Y8 X.prog X.w X.K):=by
 intro a_ s U H x vs v us Q I rx rv h;let(a,b,xs,k,y,rfl,rfl,hH,i,hb,q):=h;cases rx;let(u,r,rfl,rb,N):=rv.two;cases (rb);let(z,m,ys,j,D):=I.dx hH i;show call_meetsIn F.slot_dict_get D.typeIs F.entry_dict_get (F.args_dict_get_3 _ _ _) (meetsH_dict_get_default (tupleKind (eV X.prog X.w)) a b m r) #[tupleKind_room_in1 hu,k,ys,ux I hb,D,?_];show#[_,_,I.tok _,?_,q];cases e:jT xs k with
 |none=>
  rw[(j.at).2 e];show N
 |some W=>
  let(p',Me,rp):=(j.at).1 W e;grind
def Lg{apos cpos:Pos}{id:String}(q:Slot "dict" name id)(W:typeOf (.builtin id)=pure (.type "method_descriptor"))(hm:PP X id r)(ho:PE X o to)(ha:PA X [e1,e2] t)
 (j:attributeBase o name X.env (eval o X.env)=eval o X.env:=by rfl)
 (z:((backTo cpos (starEach [e1,e2] X.env)).all (λx=>not x.1)&&(backToKw cpos (keywordEach [] X.env)).all (λx=>x.1.isSome)
   && decide ([e1,e2].length+-([]:List Keyword)+(if ([]:List Keyword).isEmpty then 0 else 1)<30))=G:=by rfl)
 (i:(apos.endLine==cpos.line)=G:=by rfl) (hs:starEach [e1,e2] X.env=(M,eval e1 X.env)::starEach [e2] X.env:=by rfl) (D:(backTo cpos (starEach [e2] X.env)).any (·.1)=M:=by rfl):
 PE X (.Call (.Attribute o name apos) [e1,e2] [] cpos) (λU H Q=>to U H λx H1=>(∃a hk xs,x=.ref a/\H1 a=!(.ext (wA hk a xs)))/\t U H1 λvs H2=>r x vs H2 Q):=by
 intro a_ s U H Q I h;show wpAny_Call_method_late j z i O (dg (ho a_ s U H _ I h) λv s1 Mn=>?_);let(x,H1,I1,r1,(a,hk,xs,ea,hH),q1):=Mn;subst ea;cases r1;let((_,_,ys,_,_,o,es,ep,h1,h2,_),_):=I1.hok a _ hH;show#["dict",id,F.plainAttrs_dict,q,W,#[o,h1,h2.1],λb e=>(by cases e;show#[o,h1,h2.2.1]),?_];let hA:=ha cpos a_ s1 U H1 _ I1 q1;rw[hs]at hA ⊢;show Calls.callWith_builtin () (Calls.evalArgs_plain ?_);show dg hA λus s2 Mo=>by let(vs,H2,I2,r2,q2):=Mo;show hm a_ s2 U H2 (.ref a) vs (YV a) us Q I2 O r2 q2
def W4:PE X (.Dict [] [] pos) (λ_ H Q=>∀p,H p=J->Q (.ref p) (dW H p (dX X.prog X.w p []))):=λa_ s U H Q I h=>
 wpAny_Dict_empty #[.ref s.heap.objs.size,_,I.laid (λ_ _ q=>fz _ q) () (y9 #[gy _,nB.mpr (Ne.symm (ga I.big)),[],.nil,oQ,_,#[],0,ge _ O,#[O,O,O],O,O]),O,h _ (I.hok.fresh ())]
end
def y_(a c:Addr):Heap->Prop:=λh=>∃o,W.InstAt h a o c J
end L2
namespace L2
open PySem PySem.Spec PyProof.Rows PySem.W
def iq.un(i:Nat)(D:iq):iq:={ nx:=λU H=>D.nx (U.set i J) H,rt:=D.rt,bk:=λU H=>D.bk (U.set i J) H,ct:=λU H=>D.ct (U.set i J) H }
theorem Ik:∀(l:List α)(m:List β),-l=-m->(∀(i:Nat) a b,l[i]?=!a->m[i]?=!b->F a b)->Paired F l m
 |[],[],_,_=>.nil
 |a::l,b::m,h,g=>.cons (g 0 a b O O) (Ik l m ∅ λi x y h1 h2=>g (i+1) x y h1 h2)
section
variable {X:Cx}
def W5:lO X (.type "range") (λxs H Q=>∃j,xs=[.int j]/\∀r,H r=J->Q (.ref r) (dW H r (.rng 0 j))):=by intro a_ s U H xs i Q I r h;let(j,rfl,q):=h;let(u,rfl,t,rfl):=gg r;show call_range_1 #[.ref s.heap.objs.size,_,I.laid (λb o e=>fz _ e) () (show fG X.prog X.w _ _ _ (.rng 0 j) from #[_,_,_,ge _ O]),O,q _ (I.hok.fresh ())]
def JL(hc:X.calm=G):lO X (.type "list") (λxs H Q=>∃p j,xs=[.ref p]/\H p=!(.rng 0 j)/\0<=j/\j<=100000/\∀l,H l=J->Q (.ref l) (dW H l (.lst ((List.range j.toNat).map λi=>.int (i:Nat))))):=by
 intro a_ s U H xs us Q I r h;let(p,j,rfl,e,h0,h1,q):=h;let(u,rfl,rx):=gg r;cases rx;let(t,u,v,hr):=(I.hok p _ e);show call_list_range (n:=j.toNat) (I.ok.hd hc) hr (small_one () () () ()) ?_ () λh' tk D c' hk N z=>?_
 . rw[rangeSize_one];split<;>lia
 . show#[.ref s.heap.objs.size,_,I.laid hk () (show fG X.prog X.w _ h' _ (.lst _) from #[?_,D.toList,c',?_,by simpa using N]),O,q _ (I.hok.fresh ())]
   . rw[eI,ik,sizeLine_eq];lia
   . show Ik _ _ (by simp[z.1]) λi a b F W=>?_;rw[Array.getElem?_toList]at W;let(tk,rfl):=z.2 i b W;rw[fI]at F;cases hi:(List.range j.toNat)[i]? with
     |none=>rw[hi]at F;cases F
     |some k=>
      rw[hi]at F;cases F;let lt:=(fS.mp hi).1;rw[ik]at lt;rw[List.getElem?_range lt]at hi;cases hi;show#[tk,by simp]
end
def qF(κ:KeyKind)(kd:SortKind)(prog:Program)(w:World)(A:Around)(s:Shared):Prop:=
 ∀(E:Value->Shared->Prop)(x y:Value)(a b:κ.α){Q:Bool->Shared->Prop},κ.keyOf x=!a->κ.keyOf y=!b->Q (κ.blt a b) s->wpAny (model prog w) A (keyLt' kd x y) Q E s
noncomputable def tL:Bool->Keyed->Array Keyed->Nat->Nat->Nat->StateT SortSt Sem (Option Nat):=sortPriv% PySem.Builtin.gallop
noncomputable abbrev Lh (lf:Bool) (key:Keyed) (jI:Array Keyed) (base i:Nat):StateT SortSt Sem (Option Bool):=do
 let x <-elem' jI (base+i)
 if lf then lt' x key else return (<-lt' key x).map not
def Li(lf:Bool)(key:Keyed)(jI:Array Keyed)(base n lo hi:Nat):StateT SortSt Sem (Option Nat):=do
 let mut lo:=lo
 let mut hi:=hi
 for _ in [0:n] do
  if lo ≥ hi then break
  let m:_:=lo+(hi-lo)/2
  let some more <-Lh lf key jI base m |return J
  if more then lo:=m+1 else hi:=m
 return !hi
section
variable {prog:Program}{w:World}{A:Around}{E:Value->Shared->Prop}{s:Shared}{κ:KeyKind}{kd:SortKind}
def wC(j:qF κ kd prog w A s){st:SortSt}(hk:kindOf st=kd)(i:κ.keyOf x.1=!a)(q:κ.keyOf y.1=!b)(h:Q (!(κ.blt a b)) st):wpS (model prog w) A E s (lt' x y) Q st:=by rw[lt'_eq];show wpS_bind (wpS_get ?_);rw[hk];show wpS_bind (wpS_lift (wpAny_attempt (j _ x.1 y.1 a b i q #[O,?_])));show wpS_pure h
def Uy(F:qF κ kd prog w A s){st:SortSt}{i j:Nat}(hk:kindOf st=kd)
 (hi:(arrOf st)[i]?=!(x,p)) (N:(arrOf st)[j]?=!(y,q)) (z:κ.keyOf x=!a) (D:κ.keyOf y=!b) (h:Q (!(κ.blt a b)) st):
 wpS (model prog w) A E s (ltAt' i j) Q st:=by
 show wpS _ _ _ _ (do let x <-elem' (arrOf st) i;let y <-elem' (arrOf st) j;lt' x y) Q st;rw[elem'_eq,elem'_eq,hi,N];show wpS_bind (wpS_pure (wpS_bind (wpS_pure (wC F hk z D h))))
def Lj{st:SortSt}(hi:jI[i]?=!p)(h:Q p st):wpS (model prog w) A E s (elem' jI i) Q st:=by rw[elem'_eq,hi];show wpS_pure h
def iJ(κ:KeyKind)(lf:Bool)(a c:κ.α):Bool:=if lf=G then κ.blt c a else not (κ.blt a c)
def W6(h:κ.kle c d)(i:iJ κ lf a d=G):iJ κ lf a c=G:=by
 unfold iJ at *;cases lf
 . simp only[hG,if_false,Bool.not_eq_true']at *;show KeyOrd.kle_trans h i
 . show KeyOrd.klt_of_kle_of_klt h i
def El(κ:KeyKind)(jI:Array Keyed)(base n:Nat)(f:Nat->κ.α):Prop:=∀i,i<n->∃p,jI[base+i]?=!p/\κ.keyOf p.1=!(f i)
def ye(z:qF κ kd prog w A s){st:SortSt}(hk:kindOf st=kd)(j:κ.keyOf key.1=!a)(he:El κ jI base n f)(hi:i<n)(h:Q (!(iJ κ lf a (f i))) st):wpS (model prog w) A E s (Lh lf key jI base i) Q st:=by
 let(p,e,q):=he i hi;show wpS_bind (Lj e ?_);cases lf
 . show wpS_bind (wC z hk j q (wpS_pure h))
 . show wC z hk q j h
def uy(hO:qF κ kd prog w A s){st:SortSt}(hk:kindOf st=kd)(ha:κ.keyOf key.1=!a)(he:El κ jI base n f)(hs:∀i j,i<=j->j<n->κ.kle (f i) (f j))(hh:hint<n)(h:∀k,k<=n->(∀i,i<k->iJ κ lf a (f i)=G)->(∀i,k<=i->i<n->iJ κ lf a (f i)=M)->Q (!k) st):wpS (model prog w) A E s (tL lf key jI base n hint) Q st:=by
 have dn:∀i j,i<=j->j<n->iJ κ lf a (f j)=G->iJ κ lf a (f i)=G:=λi j h1 h2=>W6 (hs i j h1 h2);have up:∀i j,i<=j->j<n->iJ κ lf a (f i)=M->iJ κ lf a (f j)=M:=λi j h1 h2 N=>by
  cases hb:iJ κ lf a (f j)
  . rfl
  . rw[dn i j h1 h2 hb]at N;cases N
 show wpS_bind (ye hO hk ha he hh ?_);have sk:∀lo hi:Nat,lo<=hi->hi<=n->(∀i,i<lo->iJ κ lf a (f i)=G)->(∀i,hi<=i->i<n->iJ κ lf a (f i)=M)->
  wpS (model prog w) A E s (Li lf key jI base n lo hi) Q st:=λlo hi h1 h2 N D=>by
  have fin:∀lo hi:Nat,lo=hi->hi<=n->(∀i,i<lo->iJ κ lf a (f i)=G)->(∀i,hi<=i->i<n->iJ κ lf a (f i)=M)->wpS (model prog w) A E s (match ((J,lo,hi):Option (Option Nat)×Nat×Nat).1 with |some r=>pure r |none=>pure (!hi)) Q st:=λlo hi e h2 N D=>by subst e;show wpS_pure (h lo h2 N D)
  show wpS_bind (wpS_forRange (I:=λx c z=>z=st/\∃lo hi,c=(J,lo,hi)/\lo<=hi/\hi<=n/\hi-lo<=n-x/\(∀i,i<lo->iJ κ lf a (f i)=G)/\(∀i,hi<=i->i<n->iJ κ lf a (f i)=M)) ?_ ?_ #[O,lo,hi,O,h1,h2,(),N,D])
  . intro x c z _ hx q0;let(rfl,lo,hi,rfl,h1,h2,hm,N,D):=q0;dsimp only;by_cases F:lo ≥ hi
    . rw[dA F];show wpS_pure (fin lo hi () h2 N D)
    . rw[dQ F];show wpS_bind (ye hO hk ha he () ?_);cases hb:iJ κ lf a (f (lo+(hi-lo)/2))
      . simp only[hG,if_false];show wpS_pure #[O,_,_,O,(),(),(),N,λi W h6=>up _ i W h6 hb]
      . simp only[if_true];show wpS_pure #[O,_,_,O,(),(),(),λi W=>dn i _ () () hb,D]
  . intro c z q0;let(rfl,lo,hi,rfl,h1,h2,hm,N,D):=q0;show fin lo hi () h2 N D
 cases hr:iJ κ lf a (f hint)
 . simp only[hG,if_false];show wpS_bind (wpS_mono (wpS_forRange (Q:=λc z=>z=st/\∃last q,c=(J,last,q)/\last<=hint/\last<q/\iJ κ lf a (f (hint-last))=M/\(q ≥ hint+1\/iJ κ lf a (f (hint-q))=G)) (I:=λx c z=>z=st/\∃last q,c=(J,last,q)/\last<=hint/\last<q/\x<q/\iJ κ lf a (f (hint-last))=M) ?_ ?_ #[O,0,1,O,(),(),(),hr]) ?_)
   . intro x c z _ hx q0;let(rfl,last,q,rfl,h1,h2,N,D):=q0;dsimp only;by_cases F:q ≥ hint+1
     . rw[dA F];show wpS_pure #[O,last,q,O,h1,h2,D,Zl F]
     . rw[dQ F];show wpS_bind (ye hO hk ha he () ?_);cases hb:iJ κ lf a (f (hint-q))
       . simp only[hG,if_false];show wpS_pure #[O,_,_,O,(),(),(),hb]
       . simp only[if_true];show wpS_pure #[O,last,q,O,h1,h2,D,YY hb]
   . intro c z q0;let(rfl,last,q,rfl,h1,h2,N,D):=q0;show#[O,last,q,O,h1,h2,D,Zl ()]
   . intro c z q0;let(rfl,last,q,rfl,h1,h2,D,W):=q0;dsimp only;show(sk (hint+1-min q (hint+1)) (hint-last) ?_ () (λi hi=>?_) λi h6 h7=>up _ i h6 h7 D)
     . obtain W|W:=W
       . lia
       . by_cases hl:q ≥ hint+1
         . lia
         . obtain h8|h8:=Nat.lt_or_ge (hint-last) (hint+1-q)
           . rw[dn (hint-last) (hint-q) () () W]at D;cases D
           . lia
     . obtain W|W:=W
       . lia
       . show dn i (hint-q) () () W
 . simp only[if_true];show wpS_bind (wpS_mono (wpS_forRange (Q:=λc z=>z=st/\∃last q,c=(J,last,q)/\hint+last<n/\last<q/\iJ κ lf a (f (hint+last))=G/\(q ≥ n-hint\/(q<n-hint/\iJ κ lf a (f (hint+q))=M))) (I:=λx c z=>z=st/\∃last q,c=(J,last,q)/\hint+last<n/\last<q/\x<q/\iJ κ lf a (f (hint+last))=G) ?_ ?_ #[O,0,1,O,(),(),(),hr]) ?_)
   . intro x c z _ hx q0;let(rfl,last,q,rfl,h1,h2,N,D):=q0;dsimp only;by_cases F:q ≥ n-hint
     . rw[dA F];show wpS_pure #[O,last,q,O,h1,h2,D,Zl F]
     . rw[dQ F];show wpS_bind (ye hO hk ha he () ?_);cases hb:iJ κ lf a (f (hint+q))
       . simp only[Bool.not_false,if_true];show wpS_pure #[O,last,q,O,h1,h2,D,YY #[(),hb]]
       . simp only[Bool.not_true,hG,if_false];show wpS_pure #[O,_,_,O,(),(),(),hb]
   . intro c z q0;let(rfl,last,q,rfl,h1,h2,N,D):=q0;show#[O,last,q,O,h1,h2,D,Zl ()]
   . intro c z q0;let(rfl,last,q,rfl,h1,h2,D,W):=q0;dsimp only;show(sk (hint+last+1) (hint+min q (n-hint)) () () (λi hi=>dn i _ () h1 D) λi h6 h7=>?_);obtain W|⟨W,h8⟩:=W
     . lia
     . show up _ i () h7 h8
end
def DK(κ:KeyKind)(a:Array Keyed):Prop:=(a.toList.map λp=>κ.keyOf p.1).Nodup
structure Qk(kd:SortKind)(a₀:Array Keyed)(st:SortSt):Prop where
 perm:(arrOf st).Perm a₀
 kind:kindOf st=kd
 failed:failedOf st=none
 pend:pendingOf st=#[]
theorem Qk.atK{st:SortSt}(h:Qk kd a₀ st)(j:KeysOf κ a₀)(hi:i< ~~~a₀):∃x p a,(arrOf st)[i]?=!(x,p)/\κ.keyOf x=!a/\KK κ (arrOf st) i=a:=
 SBase.atK (st:=SortSt.mk' oneType' (arrOf st) (pendingOf st) 7 J) #[h.perm,O,O,h.pend] j hi
def Qk.size{st:SortSt}(h:Qk kd a₀ st): ~~~(arrOf st)= ~~~a₀:=h.perm.size_eq
structure SB(kd:SortKind)(a₀:Array Keyed)(p:Array (Nat×Nat×Nat))(lo:Nat)(xs:Array Keyed)(st:SortSt):Prop where
 perm:(arrOf st).Perm a₀
 kind:kindOf st=kd
 failed:failedOf st=none
 pend:pendingOf st=p
 low:∀i,i<lo->(arrOf st)[i]?=xs[i]?
def Sg(κ:KeyKind)(xs:Array Keyed)(lo n:Nat):Prop:=∀i j,i<=j->j<n->κ.kle (KK κ xs (lo+i)) (KK κ xs (lo+j))
section
variable {prog:Program}{w:World}{A:Around}{E:Value->Shared->Prop}{s:Shared}{κ:KeyKind}{kd:SortKind}{a₀ xs:Array Keyed}{p:Array (Nat×Nat×Nat)}{lo:Nat}{st:SortSt}
def SB.base(h:SB kd a₀ p lo xs st):Qk kd a₀ (setPending st #[]):=#[h.perm,h.kind,h.failed,O]
def SB.size(h:SB kd a₀ p lo xs st): ~~~(arrOf st)= ~~~a₀:=h.perm.size_eq
def SB.setA(h:SB kd a₀ p lo xs st)(j:ys.Perm (arrOf st))(q:∀i,i<lo->ys[i]?=(arrOf st)[i]?):SB kd a₀ p lo xs (setArr st ys):=#[j.trans h.perm,h.kind,h.failed,h.pend,λi hi=>(q i hi).trans (h.low i hi)]
def SB.ne(h:SB kd a₀ p lo xs st)(N:KeysOf κ a₀)(hd:DK κ a₀)(z:i<j)(F:j< ~~~a₀):KK κ (arrOf st) i≠KK κ (arrOf st) j:=by
 let D:=((Array.perm_iff_toList_perm.mp h.perm).map _).nodup_iff.mpr hd;let(x,q,a,e1,h1,h2):=h.base.atK N (Nat.lt_trans z F);let(y,r,b,e3,W,h4):=h.base.atK N F;rw[h2,h4];rintro rfl;have Q:((arrOf st).toList.map λp=>κ.keyOf p.1)[i]?=!(!a):=by rw[fI,Array.getElem?_toList,e1];simp[h1]
 have g2:((arrOf st).toList.map λp=>κ.keyOf p.1)[j]?=!(!a):=by rw[fI,Array.getElem?_toList,e3];simp[W]
 have:=(List.getElem?_inj (fS.mp Q).1 D).mp (Q.trans g2.symm);lia
def uz(hO:qF κ kd prog w A s)(D:KeysOf κ a₀)(z:SB kd a₀ p lo xs st)(hi:i< ~~~a₀)(hj:j< ~~~a₀)
 (h:Q (!(κ.blt (KK κ (arrOf st) i) (KK κ (arrOf st) j))) st):wpS (model prog w) A E s (ltAt' i j) Q st:=by
 let(x,q,a,e1,F,ka):=z.base.atK D hi;let(y,r,b,N,W,kb):=z.base.atK D hj;rw[ka,kb]at h;show Uy hO z.kind e1 N F W h
def Sg.snoc(h:Sg κ xs lo n)(h1:1<=n)(N:κ.kle (KK κ xs (lo+n-1)) (KK κ xs (lo+n))):Sg κ xs lo (n+1):=λi j q Q=>by
 by_cases D:j<n
 . show h i j q D
 . have F:j=n:=()
   subst F;by_cases z:i=j
   . subst z;show KeyOrd.kle_refl _
   . have:=h i (j-1) () ();rw[show lo+(j-1)=lo+j-1 by omega]at this;show KeyOrd.kle_trans this N
def R8(hO:qF κ kd prog w A s)(h0:KeysOf κ a₀)(hd:DK κ a₀)(hn:lo+nrem<= ~~~a₀)(h1:1<=nrem)(D:SB kd a₀ p lo xs st)
 (h:∀m z,SB kd a₀ p lo xs z->1<=m->m<=nrem->Sg κ (arrOf z) lo m->Q (!m) z):wpS (model prog w) A E s (countRun' lo nrem) Q st:=by
 show wpS_bind (wpS_mono (wpS_forRange (I:=λx c z=>z=st/\c=(J,x)/\Sg κ (arrOf st) lo x)
  (Q:=λc z=>z=st/\∃n,c=(J,n)/\1<=n/\n<=nrem/\Sg κ (arrOf st) lo n/\(n=nrem\/κ.klt (KK κ (arrOf st) (lo+n)) (KK κ (arrOf st) (lo+n-1)))) ?_ ?_
  #[O,O,λi j N hj=>by have:i=j:=();subst this;show KeyOrd.kle_refl _]) ?_)
 . intro x c z W zd q0;let(rfl,rfl,hs):=q0;show wpS_bind (uz hO h0 D () () ?_);cases F:κ.blt (KK κ (arrOf z) (lo+x)) (KK κ (arrOf z) (lo+x-1))
   . show wpS_pure #[O,O,hs.snoc W F]
   . show wpS_pure #[O,x,O,W,(),hs,YY F]
 . intro c z q0;let(rfl,rfl,hs):=q0;rw[show max 1 nrem=nrem by omega]at hs ⊢;show#[O,nrem,O,h1,eK _,hs,Zl O]
 intro c z q0;let(rfl,n,rfl,tq,pE,hs,MB):=q0;dsimp only;by_cases tw:n=nrem
 . rw[dA (by simpa using tw)];show wpS_pure (h n _ D tq pE hs)
 rw[dQ (by simpa using tw)];let kD:=MB.resolve_left tw;by_cases ze:n>1
 . rw[dA ze];show wpS_bind (uz hO h0 D () () ?_);have:κ.blt (KK κ (arrOf z) lo) (KK κ (arrOf z) (lo+n-1))=G:=by
    cases F:κ.blt (KK κ (arrOf z) lo) (KK κ (arrOf z) (lo+n-1))
    . have:=hs 0 (n-1) () ();rw[show lo+(n-1)=lo+n-1 by omega]at this;show absurd (KeyOrd.kle_antisymm this F) (D.ne h0 hd () ())
    . rfl
   rw[this];simp only[if_true];show wpS_pure (h n _ D tq pE hs)
 rw[dQ ze];obtain rfl:n=1:=()
 show wpS_bind (wpS_lift (wpAny_rule #[O,?_]));show wpS_bind (wpS_mono (wpS_forRange (I:=λx c q=>q=z/\c=(J,x,0)/\∀i j,i<=j->j<x->κ.kle (KK κ (arrOf z) (lo+j)) (KK κ (arrOf z) (lo+i)))
  (Q:=λc q=>q=z/\∃n,c=(J,n,0)/\1<=n/\n<=nrem/\∀i j,i<=j->j<n->κ.kle (KK κ (arrOf z) (lo+j)) (KK κ (arrOf z) (lo+i))) ?_ ?_ #[O,O,?_]) ?_)
 . intro x c q W zd q0;let(rfl,rfl,hs):=q0;dsimp only;show wpS_bind (uz hO h0 D () () ?_);cases F:κ.blt (KK κ (arrOf q) (lo+x)) (KK κ (arrOf q) (lo+x-1))
   . simp only[hG,if_false];show wpS_bind (uz hO h0 D () () ?_);have:κ.blt (KK κ (arrOf q) (lo+x-1)) (KK κ (arrOf q) (lo+x))=G:=by
      cases hc:κ.blt (KK κ (arrOf q) (lo+x-1)) (KK κ (arrOf q) (lo+x))
      . show absurd (KeyOrd.kle_antisymm F hc) (D.ne h0 hd () ())
      . rfl
     rw[this];simp only[if_true];show wpS_pure #[O,x,O,(),(),hs]
   . simp only[if_true];rw[dQ ()];show wpS_pure #[O,O,λi j N hj=>?_];by_cases MC:j<x
     . show hs i j N MC
     . have MD:j=x:=()
       subst MD;by_cases nN:i=j
       . subst nN;show KeyOrd.kle_refl _
       . have:=hs i (j-1) () ();rw[show lo+(j-1)=lo+j-1 by omega]at this;show KeyOrd.kle_trans (KeyOrd.kle_of_klt F) this
 . intro c q q0;let(rfl,rfl,hs):=q0;rw[show max (1+1) nrem=nrem by omega]at hs ⊢;show#[O,nrem,O,h1,eK _,hs]
 . intro i j N hj;by_cases nN:i=j
   . subst nN;show KeyOrd.kle_refl _
   . obtain rfl:i=0:=()
     obtain rfl:j=1:=()
     show KeyOrd.kle_of_klt kD
 intro c q q0;let(rfl,n,rfl,tq,pE,hs):=q0;dsimp only;rw[dQ ()];have ic:lo+n<= ~~~(arrOf q):=by rw[D.size];lia
 show wpS_bind (wpS_reverse ?_);have zi:SB kd a₀ p lo xs (setArr q (mirror (arrOf q) lo (lo+n) ((lo+n-lo)/2))):=D.setA (mirror_perm _ _ _ _) λi hi=>by rw[getElem?_mirror_all ic,dQ ()]
 have jv:Sg κ (arrOf (setArr q (mirror (arrOf q) lo (lo+n) ((lo+n-lo)/2)))) lo n:=λi j N hj=>by show κ.kle (KK κ (mirror (arrOf q) lo (lo+n) ((lo+n-lo)/2)) _) (KK κ (mirror (arrOf q) lo (lo+n) ((lo+n-lo)/2)) _);rw[KK_mirror ic,KK_mirror ic,dA (),dA ()];have:=hs (n-1-j) (n-1-i) () ();rw[show lo+(lo+n)-1-(lo+i)=lo+(n-1-i) by lia,show lo+(lo+n)-1-(lo+j)=lo+(n-1-j) by omega];show this
 generalize setArr q (mirror (arrOf q) lo (lo+n) ((lo+n-lo)/2))=lv at *;show wpS_bind (wpS_mono (wpS_forRange (I:=λx c z=>z=lv/\c=(J,x)/\Sg κ (arrOf lv) lo x)
  (Q:=λc z=>z=lv/\∃n,c=(J,n)/\1<=n/\n<=nrem/\Sg κ (arrOf lv) lo n) ?_ ?_
  #[O,O,jv]) ?_)
 . intro x c z W zd q0;let(rfl,rfl,hs):=q0;dsimp only;show wpS_bind (uz hO h0 zi () () ?_);cases F:κ.blt (KK κ (arrOf z) (lo+x)) (KK κ (arrOf z) (lo+x-1))
   . simp only[hG,if_false];show wpS_pure #[O,O,hs.snoc () F]
   . simp only[if_true];show wpS_pure #[O,x,O,(),(),hs]
 . intro c z q0;let(rfl,rfl,hs):=q0;rw[show max n nrem=nrem by omega]at hs ⊢;show#[O,nrem,O,h1,eK _,hs]
 intro c z q0;let(rfl,m,rfl,tx,zk,hs):=q0;show wpS_pure (h m _ zi tx zk hs)
def W7(hO:qF κ kd prog w A s)(h0:KeysOf κ a₀){n ok:Nat}{Q:Bool->SortSt->Prop}(hn:lo+n<= ~~~a₀)(hok:ok<=n)(hB:SB kd a₀ p lo xs st)(hs:Sg κ (arrOf st) lo ok)
 (h:∀q,SB kd a₀ p lo xs q->Sg κ (arrOf q) lo n->Q G q):wpS (model prog w) A E s (binarySort' lo n ok) Q st:=by
 rw[binarySort'_eq];show wpS_bind (wpS_mono (wpS_forRange (I:=λk c q=>c=(J,Unit.unit)/\SB kd a₀ p lo xs q/\Sg κ (arrOf q) lo (min k n))
  (Q:=λc q=>c=(J,Unit.unit)/\SB kd a₀ p lo xs q/\Sg κ (arrOf q) lo n) ?step ?fin ?init) ?post)
 case post=>
  intro c q q0;let(rfl,F,D):=q0;show wpS_pure (h q F D)
 case init=>
  show#[O,hB,λi j l0 hj=>?_];by_cases h1:ok=0
  . have:i=j:=()
    subst this;show KeyOrd.kle_refl _
  . show hs i j l0 ()
 case fin=>
  intro c q q0;let(hc,F,D):=q0;show#[hc,F,?_]
  rwa [show min (max (max ok 1) n) n=n by omega]at D
 case step=>
  intro k c q hak nS q0;let(rfl,F,D):=q0;rw[show min k n=k by omega]at D;show wpS_bind (wpS_mono (wpS_forRange (I:=λx c z=>z=q/\∃l r,c=(J,l,r)/\l<=r/\r<=k/\r-l<=k-x/\
   (∀i,i<l->κ.kle (KK κ (arrOf q) (lo+i)) (KK κ (arrOf q) (lo+k)))/\(∀i,r<=i->i<k->κ.klt (KK κ (arrOf q) (lo+k)) (KK κ (arrOf q) (lo+i))))
   (Q:=λc z=>z=q/\∃l r,c=(J,l,r)/\l<=k/\
     (∀i,i<l->κ.kle (KK κ (arrOf q) (lo+i)) (KK κ (arrOf q) (lo+k)))/\(∀i,l<=i->i<k->κ.klt (KK κ (arrOf q) (lo+k)) (KK κ (arrOf q) (lo+i)))) ?istep ?ifin ?iinit) ?ipost)
  case iinit=>show⟨O,0,k,O,(),(),(),λi hi=>(),λi h1 h2=>()⟩
  case ifin=>
   intro c z q0;let(rfl,l,r,rfl,zl,tz,hm,N,W):=q0;obtain rfl:l=r:=()
   show#[O,l,l,O,tz,N,W]
  case istep=>
   intro x c z _ hxk q0;let(rfl,l,r,rfl,zl,tz,hm,N,W):=q0;dsimp only;by_cases nV:l ≥ r
   . rw[dA nV];obtain rfl:l=r:=()
     show wpS_pure #[O,l,l,O,tz,N,W]
   . rw[dQ nV];show wpS_bind (uz hO h0 F () () ?_);cases hless:κ.blt (KK κ (arrOf z) (lo+k)) (KK κ (arrOf z) (lo+(l+r)/2))
     . simp only[hG,if_false];show wpS_pure #[O,(l+r)/2+1,r,O,(),(),(),λi h1=>KeyOrd.kle_trans (D i ((l+r)/2) () ()) hless,W]
     . simp only[if_true];show wpS_pure #[O,l,(l+r)/2,O,(),(),(),N,λi h1 h2=>KeyOrd.klt_of_klt_of_kle hless (D _ _ h1 h2)]
  case ipost=>
   intro c z q0;let(rfl,l,r,rfl,hlk,N,W):=q0;show wpS _ _ _ _ (do moveDown' (lo+k) (lo+l);pure (ForInStep.yield (J,Unit.unit))) _ _;rw[moveDown'_eq];have p_:lo+k< ~~~(arrOf z):=by rw[F.size];lia
   show wpS_bind (wpS_modify (wpS_pure #[O,F.setA (bubble_perm _ _ _) λi hi=>?_,?_]))
   . rw[getElem?_bubble p_ _ (),dQ (),dQ ()]
   rw[show min (k+1) n=k+1 by omega];intro i j l0 hj;show κ.kle (KK κ (bubble (arrOf z) (lo+k) (lo+k-(lo+l))) (lo+i)) (KK κ (bubble (arrOf z) (lo+k) (lo+k-(lo+l))) (lo+j));rw[KK_bubble p_ (),KK_bubble p_ (),show lo+k-(lo+k-(lo+l))=lo+l by omega];have sb:∀i,1<=i->lo+i-1=lo+(i-1):=λi h=>()
   repeat' split
   all_goals first
    |(exfalso;lia)
    |show KeyOrd.kle_refl _
    |show N _ ()
    |(rw[sb _ (),sb _ ()];show D _ _ () ())
    |(rw[sb _ ()];show KeyOrd.kle_of_klt (W _ () ()))
    |(rw[sb _ ()];show D _ _ () ())
    |show D _ _ () ()
end
def zn:Array Keyed->Array Keyed->StateT SortSt Sem (Array Keyed):=sortPriv% PySem.Builtin.mergeLo
def zq:Array Keyed->Array Keyed->StateT SortSt Sem (Array Keyed):=sortPriv% PySem.Builtin.mergeHi
def f9[Decidable c]{st:U}(h:c)(k:wpS ZO A E s f Q st):wpS ZO A E s (if c then f else g) Q st:=by rw[dA h];show k
def fJ[Decidable c]{st:U}(h:¬ c)(k:wpS ZO A E s g Q st):wpS ZO A E s (if c then f else g) Q st:=by rw[dQ h];show k
def oZ(I:Nat->β->U->Prop)(P:β->U->Prop){Q:γ->U->Prop}
 (z:∀B,B=f->∀i c st,a<=i->i<b->I i c st->wpS ZO A E s (B i c) (λr q=>match r with |.done D=>P D q |.yield D=>I (i+1) D q) st)
 (j:∀c st,I (max a b) c st->P c st) {st:U} (h:I a c st) (F:∀K,K=k->∀c st,P c st->wpS ZO A E s (K c) Q st):wpS ZO A E s (forIn [a:b] c f >>= k) Q st:=
 wpS_bind (wpS_mono (wpS_forRange I ∅ j h) ∅)
def o1(h:0<n)(g:n<=m):n-1<m:=()
def o2(h:1<n)(g:n<=m):n-1<m:=()
def o3(g:n<=m):n-1<=m:=()
def o4(h:1<n)(e:¬ n-1=1):1<n-1:=()
def o5(e:¬ n-1=0):0<n-1:=()
abbrev cJ(st:SortSt)(g:Nat):SortSt:=SortSt.mk' (kindOf st) (arrOf st) (pendingOf st) g (failedOf st)
abbrev L7:=Option (Array Keyed)×Array Keyed×Nat×Nat×Nat×Nat×Nat
noncomputable def tF (a b:Array Keyed) (m ac bc ia:Nat) (out:Array Keyed) (ib:Nat):StateT SortSt Sem (ForInStep L7):=
 elem' a ia >>= λx=>
 if ia+1+1== ~~~a then pure (.done (!(out.push x++b.extract ib b.size++a.extract (ia+1) a.size),out.push x,ia+1,ib,m,ac,bc))
 else if decide (ac<7)&&decide (bc<7) then pure (.done (J,out.push x,ia+1,ib,m,ac,bc)) else pure (.yield (J,out.push x,ia+1,ib,m,ac,bc))
def tI(a b:Array Keyed)(m ac bc ib:Nat)(out:Array Keyed)(ia:Nat):StateT SortSt Sem (ForInStep L7):=
 elem' b ib >>= λx=>
 if ib+1== ~~~b then pure (.done (!(out.push x++a.extract ia a.size++b.extract (ib+1) b.size),out.push x,ia,ib+1,m,ac,bc))
 else
  elem' a ia >>= λy=>
  tL G y b (ib+1) (~~~b-(ib+1)) 0 >>= λk=>
  match k with
  | some k=>if k>0 then (
   if ib+1+k== ~~~b then pure (.done (!(out.push x++b.extract (ib+1) (ib+1+k)++a.extract ia a.size++b.extract (ib+1+k) b.size),out.push x++b.extract (ib+1) (ib+1+k),ia,ib+1+k,m,ac,k))
   else tF a b m ac k ia (out.push x++b.extract (ib+1) (ib+1+k)) (ib+1+k))
   else tF a b m ac k ia (out.push x) (ib+1)
  |_=>pure (.done (!(out.push x++a.extract ia a.size++b.extract (ib+1) b.size),out.push x,ia,ib+1,m,ac,bc))
def qa(a b out:Array Keyed)(ia ib ac bc m:Nat):StateT SortSt Sem (ForInStep L7):=
 (modify λst=>cJ st m) >>= λ_=>
 elem' b ib >>= λx=>
 tL M x a ia (~~~a-ia) 0 >>= λk=>
 match k with
 | some k=>if k>0 then (
  if ia+k+1== ~~~a then pure (.done (!(out++a.extract ia (ia+k)++b.extract ib b.size++a.extract (ia+k) a.size),out++a.extract ia (ia+k),ia+k,ib,m,k,bc))
  else if ia+k== ~~~a then pure (.done (!(out++a.extract ia (ia+k)++a.extract (ia+k) a.size++b.extract ib b.size),out++a.extract ia (ia+k),ia+k,ib,m,k,bc))
  else tI a b m k bc ib (out++a.extract ia (ia+k)) (ia+k))
  else tI a b m k bc ib out ia
 |_=>pure (.done (!(out++a.extract ia a.size++b.extract ib b.size),out,ia,ib,m,ac,bc))
section
variable {κ:KeyKind}{kd:SortKind}
def KA(κ:KeyKind)(x:Keyed):κ.α:=(κ.keyOf x.1).getD κ.dflt
def mW(h:a[i]?=!x):KK κ a i=KA κ x:=by unfold KK KA;rw[h]
def SL(κ:KeyKind)(l:List Keyed):Prop:=l.Pairwise λx y=>κ.kle (KA κ x) (KA κ y)
structure MR(κ:KeyKind)(T l1 l2 o:List Keyed):Prop where
 perm:(o++(l1++l2)).Perm T
 s1:SL κ (o++l1)
 s2:SL κ (o++l2)
variable {T l1 l2 o:List Keyed}
def MR.swap(h:MR κ T l1 l2 o):MR κ T l2 l1 o:=#[((List.Perm.append_left o ky)).trans h.perm,h.s2,h.s1]
def MR.take(h:MR κ T (x++y) l2 o)(z:∀u∈x,∀v∈l2,κ.kle (KA κ u) (KA κ v)):MR κ T y l2 (o++x):=by
 let(h1,h2,q):=h;show#[by simpa using h1,by simpa [SL] using h2,?_];unfold SL at *;rw[<-fm]at h2;rw[List.pairwise_append]at *;show#[h2.1,q.2.1,λu i v j=>?_];obtain i|i:=fw.mp i
 . show q.2.2 u i v j
 . show z u i v j
def MR.fin(h:MR κ T l1 [] o):(o++l1).Perm T/\SL κ (o++l1):=#[by simpa using h.perm,h.s1]
def Bl(h:u∈(a.extract i k).toList):∃j,i<=j/\j<k/\j< ~~~a/\KK κ a j=KA κ u:=by
 rw[Array.toList_extract,List.extract_eq_take_drop]at h;let(j,q):=List.mem_iff_getElem?.mp h;rw[List.getElem?_take]at q;split at q
 . rw[List.getElem?_drop,Array.getElem?_toList]at q;have:=(Array.getElem?_eq_some_iff.mp q).1;show#[i+j,(),(),this,mW q]
 . cases q
def ME(h:u∈a.toList.drop i):∃j,i<=j/\j< ~~~a/\KK κ a j=KA κ u:=by let(j,q):=List.mem_iff_getElem?.mp h;rw[List.getElem?_drop,Array.getElem?_toList]at q;show#[i+j,(),(Array.getElem?_eq_some_iff.mp q).1,mW q]
def Aa{a:Array Keyed}(h:i<=k):a.toList.drop i=(a.extract i k).toList++a.toList.drop k:=by
 rw[Array.toList_extract,List.extract_eq_take_drop]
 conv=>lhs;rw[<-List.take_append_drop (k-i) (a.toList.drop i)]
 rw[List.drop_drop,show i+(k-i)=k by omega]
def zt{a:Array Keyed}(h:i< ~~~a):(a.extract i (i+1)).toList=[a[i]]:=by rw[Array.toList_extract,List.extract_eq_take_drop,mE (),show i+1-i=1 by omega];simp
abbrev RL(κ:KeyKind)(T:List Keyed)(a b out:Array Keyed)(ia ib:Nat):Prop:=MR κ T (a.toList.drop ia) (b.toList.drop ib) out.toList
variable {a b out:Array Keyed}{ia ib:Nat}
def RL.takeA(h:RL κ T a b out ia ib)(hk:ia<=k)(Q:∀i,ia<=i->i<k->i< ~~~a->∀j,ib<=j->j< ~~~b->κ.kle (KK κ a i) (KK κ b j)):RL κ T a b (out++a.extract ia k) k ib:=by unfold RL at *;rw[Aa hk]at h;rw[Array.toList_append];show h.take λu N v z=>?_;let(i,h1,h2,D,e):=Bl (κ:=κ) N;let(j,q,W,F):=ME (κ:=κ) z;rw[<-e,<-F];show Q i h1 h2 D j q W
def RL.pushA(h:RL κ T a b out ia ib)(hk:ia< ~~~a)(z:∀j,ib<=j->j< ~~~b->κ.kle (KK κ a ia) (KK κ b j)):RL κ T a b (out.push a[ia]) (ia+1) ib:=by
 have:=h.takeA (k:=ia+1) () λi h1 h2 F j D q=>(show i=ia by lia)▸z j D q;unfold RL at *;rw[Array.toList_append,zt hk]at this
 rwa [Array.toList_push]
theorem RL.swap(h:RL κ T a b out ia ib):RL κ T b a out ib ia:=MR.swap h
def Rs(κ:KeyKind)(T:List Keyed)(r:Array Keyed):Prop:=r.toList.Perm T/\SL κ r.toList
def RL.done(h:RL κ T a b out ia ib)(D:ib= ~~~b)(q:ia<= ~~~a):Rs κ T (out++a.extract ia a.size++b.extract ib b.size):=by
 subst D;have:=h.takeA q λi h1 h2 N j W Q=>()
 unfold RL at this;have e:b.toList.drop b.size=[]:=by simp
 rw[e]at this;have:=this.swap.swap.fin;have z:a.toList.drop a.size=[]:=by simp
 rw[z]at this;have F:(out++a.extract ia a.size++b.extract b.size b.size).toList=(out++a.extract ia a.size).toList++[]:=by simp
 unfold Rs;rw[F];show this
def RL.last(h:RL κ T a b out ia ib)(Q:ib<= ~~~b)(F:ia<= ~~~a)(W:∀i,ia<=i->i< ~~~a->∀j,ib<=j->j< ~~~b->κ.kle (KK κ b j) (KK κ a i)):Rs κ T (out++b.extract ib b.size++a.extract ia a.size):=by
 let h1:=(h.swap.takeA Q λi h1 h2 q j D z=>W j D z i h1 q);have:=RL.takeA (RL.swap h1) F λi h1 h2 q j D z=>()
 unfold RL at this;have e:b.toList.drop b.size=[]:=by simp
 have N:a.toList.drop a.size=[]:=by simp
 rw[e,N]at this;have:=this.fin;rw[f_]at this;show this
variable {prog:Program}{w:World}{A:Around}{E:Value->Shared->Prop}{s:Shared}{st:SortSt}
def gD(hi:i< ~~~a)(h:Q a[i] st):wpS (model prog w) A E s (elem' a i) Q st:=Lj (getElem?_pos a i hi) h
def kZ(j:KeysOf κ a)(hi:i< ~~~a):κ.keyOf (a[i]).1=!(KK κ a i):=by let(x,q):=j a[i] (by simp);rw[mW (getElem?_pos a i hi)];unfold KA;rw[q];rfl
def J8(q:KeysOf κ a)(i n:Nat)(h:i+n<= ~~~a):El κ a i n λj=>KK κ a (i+j):=λj z=>#[a[i+j],getElem?_pos a _ (),kZ q ()]
section
def RL.lst(z:∀i j,i<=j->j< ~~~b->κ.kle (KK κ b i) (KK κ b j))(h2:κ.klt (KK κ b (~~~b-1)) (KK κ a (~~~a-1)))(r:RL κ T a b out ia ib)(W:ia+1= ~~~a)(q:ib<= ~~~b):Rs κ T (out++b.extract ib b.size++a.extract ia a.size):=r.last q () λi D Q j N F=>by
 obtain rfl:i= ~~~a-1:=()
 show KeyOrd.kle_trans (z j (~~~b-1) () ()) (KeyOrd.kle_of_klt h2)
def RL.psA(z:∀i j,i<=j->j< ~~~b->κ.kle (KK κ b i) (KK κ b j))(r:RL κ T a b out ia ib)(hi:ia< ~~~a)(l:ib< ~~~b->κ.kle (KK κ a ia) (KK κ b ib)):RL κ T a b (out.push a[ia]) (ia+1) ib:=r.pushA hi λj q D=>KeyOrd.kle_trans (l ()) (z _ _ q D)
def RL.psB(q:∀i j,i<=j->j< ~~~a->κ.kle (KK κ a i) (KK κ a j))(r:RL κ T a b out ia ib)(hi:ib< ~~~b)(l:ia< ~~~a->κ.kle (KK κ b ib) (KK κ a ia)):RL κ T a b (out.push b[ib]) ia (ib+1):=(r.swap.pushA hi λj z D=>KeyOrd.kle_trans (l ()) (q _ _ z D)).swap
def LQ(κ:KeyKind)(T:List Keyed)(a b:Array Keyed)(st:SortSt)(x:Nat):ForInStep L7->SortSt->Prop
 |.done c,f6=>(∃g,f6=cJ st g)/\((∃r d,c=(!r,d)/\Rs κ T r)\/∃out ia ib m ac bc,c=(J,out,ia,ib,m,ac,bc)/\RL κ T a b out ia ib/\ia+1< ~~~a/\ib< ~~~b/\x<=ia+ib)
 |.yield c,f6=>(∃g,f6=cJ st g)/\∃out ia ib m ac bc,c=(J,out,ia,ib,m,ac,bc)/\RL κ T a b out ia ib/\ia+1< ~~~a/\ib< ~~~b/\x<=ia+ib
def Ql(D:∀i j,i<=j->j< ~~~b->κ.kle (KK κ b i) (KK κ b j))(h2:κ.klt (KK κ b (~~~b-1)) (KK κ a (~~~a-1)))(q:∃g,f6=cJ st g)(r:RL κ T a b out ia ib)(hi:ia+1< ~~~a)(F:ib< ~~~b)(l:κ.kle (KK κ a ia) (KK κ b ib))(N:x<=ia+1+ib):wpS (model prog w) A E s (tF a b m ac bc ia out ib) (LQ κ T a b st x) f6:=by
 show wpS_bind (gD (show ia< ~~~a by lia) ?_);let z:=r.psA D () λ_=>l;by_cases e:ia+1+1= ~~~a
 . show f9 ∅ ?_;show wpS_pure #[q,Zl #[_,_,O,z.lst D h2 e ()]]
 show fJ ∅ ?_;split
 . show wpS_pure #[q,YY #[_,_,_,_,_,_,O,z,(),(),()]]
 . show wpS_pure #[q,_,_,_,_,_,_,O,z,(),(),()]
def Qm(sa:∀i j,i<=j->j< ~~~a->κ.kle (KK κ a i) (KK κ a j))(sb:∀i j,i<=j->j< ~~~b->κ.kle (KK κ b i) (KK κ b j))(h2:κ.klt (KK κ b (~~~b-1)) (KK κ a (~~~a-1)))(z:∃g,f6=cJ st g)(hO:qF κ kd prog w A s)(hk:kindOf f6=kd)(ka:KeysOf κ a)(kb:KeysOf κ b)(r:RL κ T a b out ia ib)(hi:ia+1< ~~~a)(hb:ib< ~~~b)(l:κ.kle (KK κ b ib) (KK κ a ia))(hx:x<=ia+1+ib):wpS (model prog w) A E s (tI a b m ac bc ib out ia) (LQ κ T a b st x) f6:=by
 show wpS_bind (gD hb ?_);let W:=r.psB sa hb λ_=>l;by_cases e:ib+1= ~~~b
 . show f9 ∅ ?_;show wpS_pure #[z,Zl #[_,_,O,W.done e ()]]
 show fJ ∅ ?_;show wpS_bind (gD (show ia< ~~~a by lia) (wpS_bind (uy hO hk (kZ ka ()) (J8 kb (ib+1) (~~~b-(ib+1)) ()) (λi j h5 h6=>sb _ _ () ()) () λk nS h5 h6=>?_)));have Q:∀j,ib+1<=j->j<ib+1+k->κ.klt (KK κ b j) (KK κ a ia):=λj D h8=>by have:=h5 (j-(ib+1)) ();rw[show ib+1+(j-(ib+1))=j by omega]at this;show this
 have q:ib+1+k< ~~~b->κ.kle (KK κ a ia) (KK κ b (ib+1+k)):=λD=>h6 k () ();by_cases h0:k>0
 . show f9 h0 ?_;let r3:=(W.swap.takeA () λi D h8 h9 j N F=>KeyOrd.kle_trans (KeyOrd.kle_of_klt (Q i D h8)) (sa _ _ N F)).swap;by_cases e:ib+1+k= ~~~b
   . show f9 ∅ ?_;show wpS_pure #[z,Zl #[_,_,O,r3.done e ()]]
   show fJ ∅ ?_;show Ql sb h2 z r3 hi () (q ()) ()
 . obtain rfl:k=0:=()
   show Ql sb h2 z W hi () (q ()) ()
def MG(W:∀i j,i<=j->j< ~~~a->κ.kle (KK κ a i) (KK κ a j))(N:∀i j,i<=j->j< ~~~b->κ.kle (KK κ b i) (KK κ b j))(h2:κ.klt (KK κ b (~~~b-1)) (KK κ a (~~~a-1)))(hg:∃g,f6=cJ st g)(hO:qF κ kd prog w A s)(hk:kindOf f6=kd)(ka:KeysOf κ a)(kb:KeysOf κ b)(r:RL κ T a b out ia ib)(hi:ia+1< ~~~a)(Q:ib< ~~~b)(hx:x<=ia+1+ib):wpS (model prog w) A E s (qa a b out ia ib ac bc m) (LQ κ T a b st x) f6:=by
 show wpS_bind (wpS_modify ?_);have q:∃g,cJ f6 m=cJ st g:=by let(g,rfl):=hg;show#[m,O]
 show wpS_bind (gD Q (wpS_bind (uy hO hk (kZ kb Q) (J8 ka ia (~~~a-ia) ()) (λi j h5 h6=>W _ _ () ()) () λk nS h5 h6=>?_)));have F:∀j,ia<=j->j<ia+k->κ.kle (KK κ a j) (KK κ b ib):=λj D h8=>by have:=h5 (j-ia) ();rw[show ia+(j-ia)=j by omega]at this;unfold iJ at this;show(by simpa using this:κ.blt (KK κ b ib) (KK κ a j)=M)
 have kD:ia+k< ~~~a:=by
  obtain D|D:=Nat.lt_or_ge (ia+k) a.size
  . show D
  . have:=KeyOrd.klt_of_kle_of_klt (KeyOrd.kle_trans (F (~~~a-1) () ()) (N ib (~~~b-1) () ())) h2;unfold KeyOrd.klt at this;rw[KeyOrd.irrefl]at this;cases this
 have z:κ.kle (KK κ b ib) (KK κ a (ia+k)):=by have:=h6 k () ();unfold iJ at this;show KeyOrd.kle_of_klt (by simpa using this:κ.blt (KK κ b ib) (KK κ a (ia+k))=G)
 by_cases h0:k>0
 . show f9 h0 ?_;let r3:=r.takeA () λi D h8 h9 j l5 tJ=>KeyOrd.kle_trans (F i D h8) (N _ _ l5 tJ);by_cases e:ia+k+1= ~~~a
   . show f9 ∅ ?_;show wpS_pure #[q,Zl #[_,_,O,r3.lst N h2 e ()]]
   show fJ ∅ (fJ ∅ ?_);show Qm W N h2 q hO hk ka kb r3 () Q z ()
 . obtain rfl:k=0:=()
   show Qm W N h2 q hO hk ka kb r hi Q z ()
end
def MI(hO:qF κ kd prog w A s)(hk:kindOf st=kd)(ka:KeysOf κ a)(kb:KeysOf κ b)(sa:∀i j,i<=j->j< ~~~a->κ.kle (KK κ a i) (KK κ a j))(sb:∀i j,i<=j->j< ~~~b->κ.kle (KK κ b i) (KK κ b j))(ha:1<= ~~~a)(hb:1<= ~~~b)(h1:κ.klt (KK κ b 0) (KK κ a 0))(h2:κ.klt (KK κ b (~~~b-1)) (KK κ a (~~~a-1)))(h:∀r g,Rs κ (a.toList++b.toList) r->Q r (cJ st g)):wpS (model prog w) A E s (zn a b) Q st:=by
 show wpS_bind (wpS_lift (wpAny_rule #[O,?_]));show wpS_bind (gD hb ?_);let r0:=RL.psB (out:=#[]) sa #[List.Perm.refl _,by
  show List.pairwise_iff_getElem.mpr λi j F z N=>?_;have:=sa i j () (by simpa using z)
  rwa [mW (getElem?_pos a i (by simpa using F)),mW (getElem?_pos a j (by simpa using z))]at this,by
  show List.pairwise_iff_getElem.mpr λi j F z N=>?_;have:=sb i j () (by simpa using z)
  rwa [mW (getElem?_pos b i (by simpa using F)),mW (getElem?_pos b j (by simpa using z))]at this] hb λ_=>KeyOrd.kle_of_klt h1
 by_cases kC:1= ~~~b
 . show f9 (by simpa using kC) ?_;show wpS_pure (h _ (gallopOf st) (r0.done kC ()))
 show fJ (by simpa using kC) ?_;by_cases kH:0+1= ~~~a
 . show f9 (by simpa using kH) ?_;show wpS_pure (h _ (gallopOf st) (r0.lst sb h2 kH hb))
 show fJ (by simpa using kH) ?_;show wpS_bind (wpS_get ?_);show oZ (I:=λx c q=>(∃g,q=cJ st g)/\∃out ia ib m,c=(J,out,ia,ib,m)/\RL κ (a.toList++b.toList) a b out ia ib/\ia+1< ~~~a/\ib< ~~~b/\x<=ia+ib)
  (P:=λc q=>(∃g,q=cJ st g)/\∃r d,c=(!r,d)/\Rs κ (a.toList++b.toList) r) ?step ?fin #[#[gallopOf st,O],_,0,1,_,O,r0,(),(),()] ?post
 case post=>
  intro K hK;intro c q q0;let((g,rfl),r,d,rfl,hr):=q0;subst hK;show wpS_pure (h r g hr)
 case fin=>
  intro c q q0;let(_,out,ia,ib,m,rfl,_,F,z,N):=q0;lia
 intro B hB;intro x c q _ hx q0;let((g,rfl),out,ia,ib,m,rfl,W,F,z,N):=q0;subst hB;show oZ (I:=λy c q=>q=cJ st g/\∃out ia ib D bc,c=(J,out,ia,ib,D,bc)/\RL κ (a.toList++b.toList) a b out ia ib/\ia+1< ~~~a/\ib< ~~~b/\x+y<=ia+ib)
  (P:=λc q=>q=cJ st g/\((∃r d,c=(!r,d)/\Rs κ (a.toList++b.toList) r)\/∃out ia ib D bc,c=(J,out,ia,ib,D,bc)/\RL κ (a.toList++b.toList) a b out ia ib/\ia+1< ~~~a/\ib< ~~~b/\x+1<=ia+ib)) ?_ ?_ #[O,_,ia,ib,_,_,O,W,F,z,()] ?_
 . intro B hB;intro y c q _ hy q0;let(rfl,out,ia,ib,D,bc,rfl,W,F,z,N):=q0;subst hB;dsimp only;show wpS_bind (gD z (wpS_bind (gD (show ia< ~~~a by lia) ?_)));show wpS_bind (wC hO hk (kZ kb z) (kZ ka ()) ?_);dsimp only;cases hl:κ.blt (KK κ b ib) (KK κ a ia)
   . show fJ ot ?_;show wpS_bind (gD (show ia< ~~~a by lia) ?_);let r2:=W.psA sb () λ_=>hl;by_cases e:ia+1+1= ~~~a
     . show f9 (by simpa using e) ?_;show wpS_pure #[O,Zl #[_,_,O,r2.lst sb h2 e ()]]
     show fJ (by simpa using e) ?_;split
     . show wpS_pure #[O,YY #[_,_,_,_,_,O,r2,(),(),()]]
     . show wpS_pure #[O,_,_,_,_,_,O,r2,(),(),()]
   . show f9 O ?_;show wpS_bind (gD z ?_);let r2:=W.psB sa z λ_=>KeyOrd.kle_of_klt hl;by_cases e:ib+1= ~~~b
     . show f9 (by simpa using e) ?_;show wpS_pure #[O,Zl #[_,_,O,r2.done e ()]]
     show fJ (by simpa using e) ?_;split
     . show wpS_pure #[O,YY #[_,_,_,_,_,O,r2,(),(),()]]
     . show wpS_pure #[O,_,_,_,_,_,O,r2,(),(),()]
 . intro c q q0;let(_,out,ia,ib,D,bc,rfl,_,F,z,N):=q0;exfalso;simp only[Nat.max_eq_right (gy _)]at N;lia
 clear F z N W;intro K hK;rintro c q ⟨rfl,⟨r,d,rfl,hr⟩|⟨out,ia,ib,D,bc,rfl,W,F,z,N⟩⟩
 . subst hK;show wpS_pure #[#[g,O],r,_,O,hr]
 subst hK;dsimp only;show wpS_bind (wpS_lift (wpAny_rule #[O,?_]));show oZ (I:=λy c q=>(∃g,q=cJ st g)/\∃out ia ib m D bc,c=(J,out,ia,ib,m,D,bc)/\RL κ (a.toList++b.toList) a b out ia ib/\ia+1< ~~~a/\ib< ~~~b/\x+1+y<=ia+ib)
  (P:=λc q=>(∃g,q=cJ st g)/\((∃r d,c=(!r,d)/\Rs κ (a.toList++b.toList) r)\/∃out ia ib m D bc,c=(J,out,ia,ib,m,D,bc)/\RL κ (a.toList++b.toList) a b out ia ib/\ia+1< ~~~a/\ib< ~~~b/\x+1<=ia+ib)) ?step2 ?fin2 #[#[g,O],_,ia,ib,_,_,_,O,W,F,z,()] ?post2
 case post2=>
  intro K hK;rintro c q ⟨⟨g,rfl⟩,⟨r,d,rfl,hr⟩|⟨out,ia,ib,m,D,bc,rfl,W,F,z,N⟩⟩
  . subst hK;show wpS_pure #[#[g,O],r,_,O,hr]
  . subst hK;show wpS_bind (wpS_modify (wpS_pure #[#[_,O],_,ia,ib,_,O,W,F,z,N]))
 case fin2=>
  intro c q q0;let(_,out,ia,ib,m,D,bc,rfl,_,F,z,N):=q0;exfalso;simp only[Nat.max_eq_right (gy _)]at N;lia
 clear F z N W;intro B hB;intro y c q _ hy q0;let((g,rfl),out,ia,ib,m,D,bc,rfl,W,F,z,N):=q0;subst hB;show wpS (model prog w) A E s (if m>1 then qa a b out ia ib D bc (m-1) else qa a b out ia ib D bc m) _ (cJ st g);have fin:∀m',wpS (model prog w) A E s (qa a b out ia ib D bc m') (LQ κ (a.toList++b.toList) a b st (x+1+(y+1))) (cJ st g):=λm'=>MG sa sb h2 #[g,O] hO hk ka kb W F z ();split<;>show wpS_mono (fin _) λr q hq=>?_
 all_goals
  cases r with
  |done c=>
   obtain⟨hg,hq|⟨out,ia,ib,m,D,bc,e,q1,q2,q3,q4⟩⟩:=hq
   . show#[hg,Zl hq]
   . show#[hg,YY #[out,ia,ib,m,D,bc,e,q1,q2,q3,()]]
  |yield c=>show hq
end
abbrev H7:=Option (Array Keyed)×Nat×Nat×Array Keyed×Nat×Nat×Nat
noncomputable def tN (a b:Array Keyed) (m ac bc na nb:Nat) (out:Array Keyed):StateT SortSt Sem (ForInStep H7):=
 elem' a (na-1) >>= λx=>
 if na-1==0 then pure (.done (!(a.extract 0 (na-1)++b.extract 0 nb++(out.push x).reverse),na-1,nb,out.push x,m,ac,bc))
 else if decide (ac<7)&&decide (bc<7) then pure (.done (J,na-1,nb,out.push x,m,ac,bc)) else pure (.yield (J,na-1,nb,out.push x,m,ac,bc))
def Uz(a b:Array Keyed)(m ac bc nb na:Nat)(out:Array Keyed):StateT SortSt Sem (ForInStep H7):=
 elem' b (nb-1) >>= λx=>
 if nb-1==1 then pure (.done (!(b.extract 0 (nb-1)++a.extract 0 na++(out.push x).reverse),na,nb-1,out.push x,m,ac,bc))
 else
  elem' a (na-1) >>= λy=>
  tL G y b 0 (nb-1) (nb-1-1) >>= λk=>
  match k with
  | some k=>if nb-1-k>0 then (
   if k==1 then pure (.done (!(b.extract 0 k++a.extract 0 na++(out.push x++(b.extract k (nb-1)).reverse).reverse),na,k,out.push x++(b.extract k (nb-1)).reverse,m,ac,nb-1-k))
   else if k==0 then pure (.done (!(a.extract 0 na++b.extract 0 k++(out.push x++(b.extract k (nb-1)).reverse).reverse),na,k,out.push x++(b.extract k (nb-1)).reverse,m,ac,nb-1-k))
   else tN a b m ac (nb-1-k) na k (out.push x++(b.extract k (nb-1)).reverse))
   else tN a b m ac (nb-1-k) na (nb-1) (out.push x)
  |_=>pure (.done (!(a.extract 0 na++b.extract 0 (nb-1)++(out.push x).reverse),na,nb-1,out.push x,m,ac,bc))
def qb(a b out:Array Keyed)(na nb ac bc m:Nat):StateT SortSt Sem (ForInStep H7):=
 (modify λst=>cJ st m) >>= λ_=>
 elem' b (nb-1) >>= λx=>
 tL M x a 0 na (na-1) >>= λk=>
 match k with
 | some k=>if na-k>0 then (
  if k==0 then pure (.done (!(a.extract 0 k++b.extract 0 nb++(out++(a.extract k na).reverse).reverse),k,nb,out++(a.extract k na).reverse,m,na-k,bc))
  else Uz a b m (na-k) bc nb k (out++(a.extract k na).reverse))
  else Uz a b m (na-k) bc nb na out
 |_=>pure (.done (!(a.extract 0 na++b.extract 0 nb++out.reverse),na,nb,out,m,ac,bc))
section
variable {κ:KeyKind}{kd:SortKind}
structure MH(κ:KeyKind)(T l1 l2 o:List Keyed):Prop where
 perm:(l1++l2++o).Perm T
 s1:SL κ (l1++o)
 s2:SL κ (l2++o)
variable {T l1 l2 o:List Keyed}
def MH.swap(h:MH κ T l1 l2 o):MH κ T l2 l1 o:=#[((List.Perm.append_right o ky)).trans h.perm,h.s2,h.s1]
def MH.take(h:MH κ T (y++x) l2 o)(z:∀u∈x,∀v∈l2,κ.kle (KA κ v) (KA κ u)):MH κ T y l2 (x++o):=by
 let(h1,h2,j):=h;show#[?_,by simpa [SL] using h2,?_]
 . show List.Perm.trans ?_ h1;rw[<-fm];show List.Perm.append_right o ?_;rw[fm,fm];show List.Perm.append_left y ky
 unfold SL at *;rw[fm]at h2;rw[List.pairwise_append]at *;show#[j.1,h2.2.1,λu q v i=>?_];obtain i|i:=fw.mp i
 . show z v i u q
 . show j.2.2 u q v i
def ML(h:u∈a.toList.take n):∃j,j<n/\j< ~~~a/\KK κ a j=KA κ u:=by
 let(j,i):=List.mem_iff_getElem?.mp h;rw[List.getElem?_take]at i;split at i
 . rw[Array.getElem?_toList]at i;show#[j,(),(Array.getElem?_eq_some_iff.mp i).1,mW i]
 . cases i
def W8{a:Array Keyed}(h:k<=n):a.toList.take n=a.toList.take k++(a.extract k n).toList:=by
 rw[Array.toList_extract,List.extract_eq_take_drop]
 conv=>lhs;rw[show n=k+(n-k) by omega]
 show List.take_add ..
abbrev RH(κ:KeyKind)(T:List Keyed)(a b out:Array Keyed)(na nb:Nat):Prop:=MH κ T (a.toList.take na) (b.toList.take nb) out.reverse.toList
variable {a b out:Array Keyed}{na nb:Nat}
theorem RH.swap(h:RH κ T a b out na nb):RH κ T b a out nb na:=MH.swap h
def RH.takeA(h:RH κ T a b out na nb)(hk:k<=na)(Q:∀i,k<=i->i<na->i< ~~~a->∀j,j<nb->j< ~~~b->κ.kle (KK κ b j) (KK κ a i)):RH κ T a b (out++(a.extract k na).reverse) k nb:=by
 unfold RH at *;rw[W8 hk]at h;have e:(out++(a.extract k na).reverse).reverse.toList=(a.extract k na).toList++out.reverse.toList:=by simp
 rw[e];show h.take λu N v z=>?_;let(i,h1,h2,D,e):=Bl (κ:=κ) N;let(j,q,W,F):=ML (κ:=κ) z;rw[<-e,<-F];show Q i h1 h2 D j q W
def RH.pushA(h:RH κ T a b out na nb)(Q:0<na)(hk:na-1< ~~~a)(D:∀j,j<nb->j< ~~~b->κ.kle (KK κ b j) (KK κ a (na-1))):RH κ T a b (out.push a[na-1]) (na-1) nb:=by
 have:=h.takeA (k:=na-1) () λi h1 h2 N j F z=>(show i=na-1 by lia)▸D j F z;have e:(out++(a.extract (na-1) na).reverse).reverse.toList=(out.push a[na-1]).reverse.toList:=by let q:=zt hk;rw[show na-1+1=na by omega]at q;simp only[Array.reverse_reverse,Array.toList_append,q,Array.toList_reverse,Array.toList_push,List.reverse_cons,List.reverse_nil,hJ]
 unfold RH at *
 rwa [e]at this
def UG(i:KeysOf κ a)(h:n<= ~~~a):El κ a 0 n λj=>KK κ a j:=λj q=>#[a[j],by rw[ke];show getElem?_pos a _ (),kZ i ()]
def Lk(a:Array Keyed):a.toList.take a.size=a.toList:=oI (by simp)
def UJ(a:Array Keyed)(n:Nat):(a.extract 0 n).toList=a.toList.take n:=by simp
def RH.done(h:RH κ T a b out na nb)(i:na=0):Rs κ T (a.extract 0 na++b.extract 0 nb++out.reverse):=by subst i;unfold Rs;rw[Array.toList_append,Array.toList_append,UJ,UJ,List.take_zero,hJ];show#[by simpa using h.perm,h.s2]
def RH.first(h:RH κ T a b out na nb)(D:∀i,i<nb->i< ~~~b->∀j,j<na->j< ~~~a->κ.kle (KK κ b i) (KK κ a j)):Rs κ T (b.extract 0 nb++a.extract 0 na++out.reverse):=by
 let h1:=h.takeA (k:=0) () λi h1 h2 q j F z=>D j F z i h2 q;have:=h1.done O;have e:(a.extract 0 0++b.extract 0 nb++(out++(a.extract 0 na).reverse).reverse).toList=(b.extract 0 nb++a.extract 0 na++out.reverse).toList:=by simp
 unfold Rs at *
 rwa [e]at this
variable {prog:Program}{w:World}{A:Around}{E:Value->Shared->Prop}{s:Shared}{st:SortSt}
section
def RH.fst(q:∀i j,i<=j->j< ~~~a->κ.kle (KK κ a i) (KK κ a j))(h1:κ.klt (KK κ b 0) (KK κ a 0))(r:RH κ T a b out na nb)(Q:nb<=1):Rs κ T (b.extract 0 nb++a.extract 0 na++out.reverse):=r.first λi D N j F z=>by
 obtain rfl:i=0:=()
 show KeyOrd.kle_trans (KeyOrd.kle_of_klt h1) (q 0 j () z)
def RH.psA(q:∀i j,i<=j->j< ~~~b->κ.kle (KK κ b i) (KK κ b j))(r:RH κ T a b out na nb)(z:0<na)(hi:na-1< ~~~a)(D:nb<= ~~~b)(l:0<nb->κ.kle (KK κ b (nb-1)) (KK κ a (na-1))):RH κ T a b (out.push a[na-1]) (na-1) nb:=r.pushA z hi λj F N=>KeyOrd.kle_trans (q j (nb-1) () ()) (l ())
def RH.psB(q:∀i j,i<=j->j< ~~~a->κ.kle (KK κ a i) (KK κ a j))(r:RH κ T a b out na nb)(z:0<nb)(hi:nb-1< ~~~b)(D:na<= ~~~a)(l:0<na->κ.kle (KK κ a (na-1)) (KK κ b (nb-1))):RH κ T a b (out.push b[nb-1]) na (nb-1):=(r.swap.pushA z hi λj F N=>KeyOrd.kle_trans (q j (na-1) () ()) (l ())).swap
def HQ(κ:KeyKind)(T:List Keyed)(a b:Array Keyed)(st:SortSt)(x:Nat):ForInStep H7->SortSt->Prop
 |.done c,f6=>(∃g,f6=cJ st g)/\((∃r d,c=(!r,d)/\Rs κ T r)\/∃na nb out m ac bc,c=(J,na,nb,out,m,ac,bc)/\RH κ T a b out na nb/\0<na/\na<= ~~~a/\1<nb/\nb<= ~~~b/\na+nb+x<= ~~~a+ ~~~b)
 |.yield c,f6=>(∃g,f6=cJ st g)/\∃na nb out m ac bc,c=(J,na,nb,out,m,ac,bc)/\RH κ T a b out na nb/\0<na/\na<= ~~~a/\1<nb/\nb<= ~~~b/\na+nb+x<= ~~~a+ ~~~b
def Qn(W:∀i j,i<=j->j< ~~~b->κ.kle (KK κ b i) (KK κ b j))(D:∃g,f6=cJ st g)(r:RH κ T a b out na nb)(hi:0<na)(q:na<= ~~~a)(N:1<nb)(z:nb<= ~~~b)(l:κ.kle (KK κ b (nb-1)) (KK κ a (na-1)))(Q:na-1+nb+x<= ~~~a+ ~~~b):wpS (model prog w) A E s (tN a b m ac bc na nb out) (HQ κ T a b st x) f6:=by
 show wpS_bind (gD (o1 hi q) ?_);let F:=r.psA W hi () z λ_=>l;by_cases e:na-1=0
 . show f9 ∅ ?_;show wpS_pure #[D,Zl #[_,_,O,F.done e]]
 show fJ ∅ ?_;split
 . show wpS_pure #[D,YY #[_,_,_,_,_,_,O,F,o5 e,o3 q,N,z,Q]]
 . show wpS_pure #[D,_,_,_,_,_,_,O,F,o5 e,o3 q,N,z,Q]
def Qo(N:∀i j,i<=j->j< ~~~a->κ.kle (KK κ a i) (KK κ a j))(sb:∀i j,i<=j->j< ~~~b->κ.kle (KK κ b i) (KK κ b j))(h1:κ.klt (KK κ b 0) (KK κ a 0))(W:∃g,f6=cJ st g)(hO:qF κ kd prog w A s)(hk:kindOf f6=kd)(ka:KeysOf κ a)(kb:KeysOf κ b)(r:RH κ T a b out na nb)(hi:0<na)(z:na<= ~~~a)(hb:1<nb)(nX:nb<= ~~~b)(l:κ.kle (KK κ a (na-1)) (KK κ b (nb-1)))(hx:na-1+nb+x<= ~~~a+ ~~~b):wpS (model prog w) A E s (Uz a b m ac bc nb na out) (HQ κ T a b st x) f6:=by
 show wpS_bind (gD (o2 hb nX) ?_);let r2:=r.psB N () () z λ_=>l;by_cases e:nb-1=1
 . show f9 ∅ ?_;show wpS_pure #[W,Zl #[_,_,O,r2.fst N h1 ()]]
 show fJ ∅ ?_;show wpS_bind (gD (o1 hi z) (wpS_bind (uy hO hk (kZ ka ()) (UG kb ()) (λi j h5 h6=>sb _ _ () ()) () λk nS h5 h6=>?_)));let Q:=λj D=>h5 j D;let F:=λj D h8=>h6 j D h8;have l_:0<k:=by
  obtain D|D:=Nat.eq_zero_or_pos k
  . let q:=F 0 () ();have:=KeyOrd.klt_of_klt_of_kle h1 (KeyOrd.kle_trans (N 0 (na-1) () ()) q);unfold KeyOrd.klt at this;rw[KeyOrd.irrefl]at this;cases this
  . show D
 by_cases h0:nb-1-k>0
 . show f9 h0 ?_;let r3:=(r2.swap.takeA () λi D h8 h9 j l5 tJ=>KeyOrd.kle_trans (N j (na-1) () ()) (F i D h8)).swap;by_cases e:k=1
   . show f9 (by simpa using e) ?_;show wpS_pure #[W,Zl #[_,_,O,r3.fst N h1 ()]]
   show fJ (by simpa using e) (fJ (by simp;lia) ?_);show Qn sb W r3 hi z () () (KeyOrd.kle_of_klt (Q (k-1) ())) ()
 . show fJ h0 ?_;show Qn sb W r2 hi z () () (KeyOrd.kle_of_klt (Q (nb-1-1) ())) ()
def MM(N:∀i j,i<=j->j< ~~~a->κ.kle (KK κ a i) (KK κ a j))(sb:∀i j,i<=j->j< ~~~b->κ.kle (KK κ b i) (KK κ b j))(h1:κ.klt (KK κ b 0) (KK κ a 0))(hg:∃g,f6=cJ st g)(Q:qF κ kd prog w A s)(hk:kindOf f6=kd)(ka:KeysOf κ a)(kb:KeysOf κ b)(r:RH κ T a b out na nb)(hi:0<na)(W:na<= ~~~a)(hb:1<nb)(q:nb<= ~~~b)(hx:na-1+nb+x<= ~~~a+ ~~~b):wpS (model prog w) A E s (qb a b out na nb ac bc m) (HQ κ T a b st x) f6:=by
 show wpS_bind (wpS_modify ?_);have z:∃g,cJ f6 m=cJ st g:=by let(g,rfl):=hg;show#[m,O]
 show wpS_bind (gD (o2 hb q) (wpS_bind (uy Q hk (kZ kb ()) (UG ka ()) (λi j h5 h6=>N _ _ () ()) () λk nS h5 h6=>?_)));let D:=λj F=>by have:=h5 j F;unfold iJ at this;show(by simpa using this:κ.blt (KK κ b (nb-1)) (KK κ a j)=M)
 let zv:=λj F h8=>by have:=h6 j F h8;unfold iJ at this;show KeyOrd.kle_of_klt (by simpa using this:κ.blt (KK κ b (nb-1)) (KK κ a j)=G)
 by_cases h0:na-k>0
 . show f9 h0 ?_;let r3:=r.takeA () λi F h8 h9 j l5 tJ=>KeyOrd.kle_trans (sb j (nb-1) () ()) ∅;by_cases e:k=0
   . show f9 ∅ ?_;show wpS_pure #[z,Zl #[_,_,O,r3.done e]]
   show fJ ∅ ?_;show Qo N sb h1 z Q hk ka kb r3 () () hb q (D (k-1) ()) ()
 . show fJ h0 ?_;show Qo N sb h1 z Q hk ka kb r hi W hb q (D (na-1) ()) ()
end
def MO(hO:qF κ kd prog w A s)(hk:kindOf st=kd)(ka:KeysOf κ a)(kb:KeysOf κ b)(sa:∀i j,i<=j->j< ~~~a->κ.kle (KK κ a i) (KK κ a j))(sb:∀i j,i<=j->j< ~~~b->κ.kle (KK κ b i) (KK κ b j))(ha:1<= ~~~a)(hb:1<= ~~~b)(h1:κ.klt (KK κ b 0) (KK κ a 0))(h2:κ.klt (KK κ b (~~~b-1)) (KK κ a (~~~a-1)))(h:∀r g,Rs κ (a.toList++b.toList) r->Q r (cJ st g)):wpS (model prog w) A E s (zq a b) Q st:=by
 show wpS_bind (wpS_lift (wpAny_rule #[O,?_]));show wpS_bind (gD (show a.size-1< ~~~a by lia) ?_);have zw:∀{a:Array Keyed},(∀i j,i<=j->j< ~~~a->κ.kle (KK κ a i) (KK κ a j))->SL κ (a.toList.take a.size++(#[]:Array Keyed).reverse.toList):=λ{a} sa=>by
  rw[Lk,show (#[]:Array Keyed).reverse.toList=[] by simp,f_];show List.pairwise_iff_getElem.mpr λi j F z D=>?_;have:=sa i j () (by simpa using z)
  rwa [mW (getElem?_pos a i (by simpa using F)),mW (getElem?_pos a j (by simpa using z))]at this
 let r0:=RH.psA sb #[by rw[Lk,Lk,show (#[]:Array Keyed).reverse.toList=[] by simp,f_],zw sa,zw sb] ha () (eK _) λ_=>KeyOrd.kle_of_klt h2;by_cases kH: ~~~a-1=0
 . show f9 (by simpa using kH) ?_;show wpS_pure (h _ (gallopOf st) (r0.done kH))
 show fJ (by simpa using kH) ?_;by_cases kC: ~~~b=1
 . show f9 (by simpa using kC) ?_;show wpS_pure (h _ (gallopOf st) (r0.fst sa h1 ()))
 show fJ (by simpa using kC) ?_;show wpS_bind (wpS_get ?_);show oZ (I:=λx c q=>(∃g,q=cJ st g)/\∃na nb out m,c=(J,na,nb,out,m)/\RH κ (a.toList++b.toList) a b out na nb/\0<na/\na<= ~~~a/\1<nb/\nb<= ~~~b/\na+nb+x<= ~~~a+ ~~~b)
  (P:=λc q=>(∃g,q=cJ st g)/\∃r d,c=(!r,d)/\Rs κ (a.toList++b.toList) r) ?step ?fin #[#[gallopOf st,O],_,_,_,_,O,r0,(),(),(),(),()] ?post
 case post=>
  intro K hK;intro c q q0;let((g,rfl),r,d,rfl,hr):=q0;subst hK;show wpS_pure (h r g hr)
 case fin=>
  intro c q q0;let(_,na,nb,out,m,rfl,_,F,z,D,N,h7):=q0;exfalso;simp only[Nat.max_eq_right (gy _)]at h7;lia
 intro B hB;intro x c q _ hx q0;let((g,rfl),na,nb,out,m,rfl,r1,F,z,D,N,h7):=q0;subst hB;dsimp only;show oZ (I:=λy c q=>q=cJ st g/\∃na nb out W bc,c=(J,na,nb,out,W,bc)/\RH κ (a.toList++b.toList) a b out na nb/\0<na/\na<= ~~~a/\1<nb/\nb<= ~~~b/\na+nb+(x+y)<= ~~~a+ ~~~b)
  (P:=λc q=>q=cJ st g/\((∃r d,c=(!r,d)/\Rs κ (a.toList++b.toList) r)\/∃na nb out W bc,c=(J,na,nb,out,W,bc)/\RH κ (a.toList++b.toList) a b out na nb/\0<na/\na<= ~~~a/\1<nb/\nb<= ~~~b/\na+nb+(x+1)<= ~~~a+ ~~~b)) ?_ ?_ #[O,_,_,_,_,_,O,r1,F,z,D,N,()] ?_
 . clear F z D N h7 r1;intro B hB;intro y c q _ hy q0;let(rfl,na,nb,out,W,bc,rfl,r1,F,z,D,N,h7):=q0;subst hB;dsimp only;show wpS_bind (gD (o2 D N) (wpS_bind (gD (o1 F z) ?_)));show wpS_bind (wC hO hk (kZ kb (o2 D N)) (kZ ka (o1 F z)) ?_);dsimp only;cases hl:κ.blt (KK κ b (nb-1)) (KK κ a (na-1))
   . show fJ ot ?_;show wpS_bind (gD (o2 D N) ?_);let r2:=r1.psB sa (Nat.lt_trans Nat.zero_lt_one D) (o2 D N) z λ_=>hl;by_cases e:nb-1=1
     . show f9 (by simpa using e) ?_;show wpS_pure #[O,Zl #[_,_,O,r2.fst sa h1 ()]]
     show fJ (by simpa using e) ?_;split
     . show wpS_pure #[O,YY #[_,_,_,_,_,O,r2,F,z,o4 D e,o3 N,()]]
     . show wpS_pure #[O,_,_,_,_,_,O,r2,F,z,o4 D e,o3 N,()]
   . show f9 O ?_;show wpS_bind (gD (o1 F z) ?_);let r2:=r1.psA sb F (o1 F z) N λ_=>KeyOrd.kle_of_klt hl;by_cases e:na-1=0
     . show f9 (by simpa using e) ?_;show wpS_pure #[O,Zl #[_,_,O,r2.done e]]
     show fJ (by simpa using e) ?_;split
     . show wpS_pure #[O,YY #[_,_,_,_,_,O,r2,o5 e,o3 z,D,N,()]]
     . show wpS_pure #[O,_,_,_,_,_,O,r2,o5 e,o3 z,D,N,()]
 . intro c q q0;let(_,na,nb,out,W,bc,rfl,_,F,z,D,N,h7):=q0;exfalso;simp only[Nat.max_eq_right (gy _)]at h7;lia
 clear F z D N h7 r1;intro K hK;rintro c q ⟨rfl,⟨r,d,rfl,hr⟩|⟨na,nb,out,W,bc,rfl,r1,F,z,D,N,h7⟩⟩
 . subst hK;show wpS_pure #[#[g,O],r,_,O,hr]
 subst hK;dsimp only;show wpS_bind (wpS_lift (wpAny_rule #[O,?_]));show oZ (I:=λy c q=>(∃g,q=cJ st g)/\∃na nb out m W bc,c=(J,na,nb,out,m,W,bc)/\RH κ (a.toList++b.toList) a b out na nb/\0<na/\na<= ~~~a/\1<nb/\nb<= ~~~b/\na+nb+(x+1+y)<= ~~~a+ ~~~b)
  (P:=λc q=>(∃g,q=cJ st g)/\((∃r d,c=(!r,d)/\Rs κ (a.toList++b.toList) r)\/∃na nb out m W bc,c=(J,na,nb,out,m,W,bc)/\RH κ (a.toList++b.toList) a b out na nb/\0<na/\na<= ~~~a/\1<nb/\nb<= ~~~b/\na+nb+(x+1)<= ~~~a+ ~~~b)) ?step2 ?fin2 #[#[g,O],_,_,_,_,_,_,O,r1,F,z,D,N,()] ?post2
 case post2=>
  intro K hK;rintro c q ⟨⟨g,rfl⟩,⟨r,d,rfl,hr⟩|⟨na,nb,out,m,W,bc,rfl,r1,F,z,D,N,h7⟩⟩
  . subst hK;show wpS_pure #[#[g,O],r,_,O,hr]
  . subst hK;show wpS_bind (wpS_modify (wpS_pure #[#[_,O],_,_,_,_,O,r1,F,z,D,N,h7]))
 case fin2=>
  intro c q q0;let(_,na,nb,out,m,W,bc,rfl,_,F,z,D,N,h7):=q0;exfalso;simp only[Nat.max_eq_right (gy _)]at h7;lia
 clear F z D N h7 r1;intro B hB;intro y c q _ hy q0;let((g,rfl),na,nb,out,m,W,bc,rfl,r1,F,z,D,N,h7):=q0;subst hB;show wpS (model prog w) A E s (if m>1 then qb a b out na nb W bc (m-1) else qb a b out na nb W bc m) _ (cJ st g);have fin:∀m',wpS (model prog w) A E s (qb a b out na nb W bc m') (HQ κ (a.toList++b.toList) a b st (x+1+(y+1))) (cJ st g):=λm'=>MM sa sb h1 #[g,O] hO hk ka kb r1 F z D N ();split<;>show wpS_mono (fin _) λr q hq=>?_
 all_goals
  cases r with
  |done c=>
   obtain⟨hg,hq|⟨na,nb,out,m,W,bc,e,q1,q2,q3,q4,q5,q6⟩⟩:=hq
   . show#[hg,Zl hq]
   . show#[hg,YY #[na,nb,out,m,W,bc,e,q1,q2,q3,q4,q5,()]]
  |yield c=>show hq
end
def MQ(i:Nat):mergeAt' i=(do
 let s <-get
 let (!(sa,na,power),!(sb,nb,_)):=((pendingOf s)[i]?,(pendingOf s)[i+1]?) |unsupported "internal:list.sort.pending"
 set (setPending s (((pendingOf s).setIfInBounds i (sa,na+nb,power)).eraseIdxIfInBounds (i+1)))
 let some k <-tL M (<-elem' (arrOf s) sb) (arrOf s) sa na 0 |return M
 let (sa,na):=(sa+k,na-k)
 if na==0 then return G
 let some nb <-tL G (<-elem' (arrOf s) (sa+na-1)) (arrOf s) sb nb (nb-1) |return M
 if nb==0 then return G
 let x:_:=(arrOf s).extract sa sb
 let y:_:=(arrOf s).extract sb (sb+nb)
 let merged <-if na<=nb then zn x y else zq x y
 modify λs=>setArr s (merged.toList.zipIdx.foldl (λa (p,j)=>a.setIfInBounds (sa+j) p) (arrOf s))
 return (failedOf (<-get)).isNone):=O
def ow(xs:Array Keyed)(q n:Nat)(l:List Keyed):Array Keyed:=(l.zipIdx n).foldl (λa (p,j)=>a.setIfInBounds (q+j) p) xs
theorem R9:∀(l:List Keyed)(xs:Array Keyed)(q n i:Nat),q+n+-l<= ~~~xs->(ow xs q n l)[i]?=if q+n<=i/\i<q+n+-l then l[i-(q+n)]? else xs[i]?
 |[]=>λxs q n i _=>by rw[dQ ∅];rfl
 |x::l=>λxs q n i h=>by
  have e:ow xs q n (x::l)=ow (xs.setIfInBounds (q+n) x) q (n+1) l:=O;rw[d6]at h ⊢;rw[e,R9 l _ q (n+1) i ∅];by_cases h1:q+(n+1)<=i/\i<q+(n+1)+-l
  . rw[dA h1,dA (),show i-(q+n)=i-(q+(n+1))+1 by lia,List.getElem?_cons_succ]
  . rw[dQ h1,Array.getElem?_setIfInBounds];by_cases h2:q+n=i
    . subst h2;rw[dA O,dA (),dA (),i8,List.getElem?_cons_zero]
    . rw[dQ h2,dQ ()]
def MS(l:List Keyed)(xs:Array Keyed)(q:Nat)(h:q+-l<= ~~~xs):(ow xs q 0 l).toList=xs.toList.take q++(l++xs.toList.drop (q+-l)):=by
 show List.ext_getElem? λi=>?_;rw[Array.getElem?_toList,R9 l xs q 0 i (),Nat.add_zero];obtain h1|h1:=Nat.lt_or_ge i q
 . rw[dQ (),jp (by simp;lia),List.getElem?_take_of_lt h1,Array.getElem?_toList]
 rw[hW (by simp;lia)];have e:-(xs.toList.take q)=q:=by simp;lia
 rw[e];obtain h2|h2:=Nat.lt_or_ge (i-q) (-l)
 . rw[dA (),jp h2]
 . rw[dQ (),hW h2,List.getElem?_drop,show q+-l+(i-q-(-l))=i by lia,Array.getElem?_toList]
def Sq(κ:KeyKind)(xs:Array Keyed)(lo hi:Nat):Prop:=∀i j,lo<=i->i<=j->j<hi->κ.kle (KK κ xs i) (KK κ xs j)
section
variable {prog:Program}{w:World}{A:Around}{E:Value->Shared->Prop}{s:Shared}{κ:KeyKind}{kd:SortKind}{a₀ xs₀:Array Keyed}{p:Array (Nat×Nat×Nat)}{lo:Nat}{st:SortSt}
def Sg.sq(h:Sg κ xs lo n):Sq κ xs lo (lo+n):=λi j h1 h2 q=>by
 have:=h (i-lo) (j-lo) () ()
 rwa [show lo+(i-lo)=i by lia,show lo+(j-lo)=j by omega]at this
def Sq.congr(h:Sq κ xs lo hi)(e:∀i,lo<=i->i<hi->ys[i]?=xs[i]?):Sq κ ys lo hi:=λi j h1 h2 q=>by rw[KK_congr (e i h1 ()),KK_congr (e j () q)];show h i j h1 h2 q
def MU(h:Q ⟨⟩ x):wpS (model prog w) A E s (set x:StateT SortSt Sem PUnit) Q st:=by unfold wpS;rw[StateT.run_set];show d0 #[O,h]
def sU(h:i+j<k)(hk:k<= ~~~xs):KK κ (xs.extract i k) j=KK κ xs (i+j):=KK_congr (by rw[Array.getElem?_extract,dA ()])
def MV(hO:qF κ kd prog w A s)(h0:KeysOf κ a₀)(D:SB kd a₀ p 0 xs₀ st)(e1:p[i]?=!(sa,na,pw))(e2:p[i+1]?=!(sa+na,nb,MW))(hna:1<=na)(qh:1<=nb)(ic:sa+na+nb<= ~~~a₀)(s1:Sq κ (arrOf st) sa (sa+na))(s2:Sq κ (arrOf st) (sa+na) (sa+na+nb))
 (h:∀f6,SB kd a₀ ((p.setIfInBounds i (sa,na+nb,pw)).eraseIdxIfInBounds (i+1)) 0 xs₀ f6->(∀j,j<sa\/sa+na+nb<=j->(arrOf f6)[j]?=(arrOf st)[j]?)->Sq κ (arrOf f6) sa (sa+na+nb)->Q G f6):wpS (model prog w) A E s (mergeAt' i) Q st:=by
 rw[MQ]
 show wpS_bind (wpS_get ?_)
 rw[D.pend,e1,e2]
 dsimp only
 show wpS_bind (MU ?_)
 have hS:SB kd a₀ ((p.setIfInBounds i (sa,na+nb,pw)).eraseIdxIfInBounds (i+1)) 0 xs₀ (setPending st ((p.setIfInBounds i (sa,na+nb,pw)).eraseIdxIfInBounds (i+1))):=#[D.perm,D.kind,D.failed,O,λ_ hi=>absurd hi (Nat.not_lt_zero _)]
 let hsiz:= ~~~D
 let kx:=λq hq=>h0 q ((Array.perm_iff_toList_perm.mp D.perm).mem_iff.mp hq)
 generalize hp:(p.setIfInBounds i (sa,na+nb,pw)).eraseIdxIfInBounds (i+1)=p' at *
 have fin:κ.kle (KK κ (arrOf st) (sa+na-1)) (KK κ (arrOf st) (sa+na))->Sq κ (arrOf st) sa (sa+na+nb):=λhl i j h1 h2 h3=>by
  obtain h4|h4:=Nat.lt_or_ge j (sa+na)
  . show s1 i j h1 h2 h4
  obtain h5|h5:=Nat.lt_or_ge i (sa+na)
  . show KeyOrd.kle_trans (s1 i (sa+na-1) h1 () ()) (KeyOrd.kle_trans hl (s2 _ j () h4 h3))
  . show s2 i j h5 h2 h3
 generalize tS:arrOf st=xs at *
 let ea:=tS
 let hQ:=λq=>h _ hS (λj _=>by rw[ea]) (by rw[ea];show q)
 show wpS_bind (gD (show sa+na< ~~~xs by lia) ?_)
 show wpS_bind (uy hO D.kind (kZ kx ()) (J8 kx sa na ()) (λi j h5 h6=>s1 _ _ () () ()) () λk nS h5 h6=>?_)
 dsimp only
 have zC:∀j,sa<=j->j<sa+k->κ.kle (KK κ xs j) (KK κ xs (sa+na)):=λj h7 h8=>by
  have:=h5 (j-sa) ()
  rw[show sa+(j-sa)=j by omega]at this
  unfold iJ at this
  show(by simpa using this:κ.blt (KK κ xs (sa+na)) (KK κ xs j)=M)
 have zv:∀j,sa+k<=j->j<sa+na->κ.klt (KK κ xs (sa+na)) (KK κ xs j):=λj h7 h8=>by
  have:=h6 (j-sa) () ()
  rw[show sa+(j-sa)=j by omega]at this
  unfold iJ at this
  show(by simpa using this:κ.blt (KK κ xs (sa+na)) (KK κ xs j)=G)
 by_cases l_:na-k=0
 . rw[dA (by simpa using l_)]
   show wpS_pure (hQ (fin (zC _ () ())))
 rw[dQ (by simpa using l_)]
 rw[show sa+k+(na-k)-1=sa+na-1 by omega]
 show wpS_bind (gD (show sa+na-1< ~~~xs by lia) ?_)
 show wpS_bind (uy hO D.kind (kZ kx ()) (J8 kx (sa+na) nb ()) (λi j h5 h6=>s2 _ _ () () ()) () λm hmn h7 h8=>?_)
 dsimp only
 let MX:=λj h9 l5=>by
  have:=h7 (j-(sa+na)) ()
  rwa [show sa+na+(j-(sa+na))=j by omega]at this
 have zD:∀j,sa+na+m<=j->j<sa+na+nb->κ.kle (KK κ xs (sa+na-1)) (KK κ xs j):=λj h9 l5=>by
  have:=h8 (j-(sa+na)) () ()
  rwa [show sa+na+(j-(sa+na))=j by omega]at this
 by_cases z9:m=0
 . rw[dA (by simpa using z9)]
   show wpS_pure (hQ (fin (zD _ () ())))
 rw[dQ (by simpa using z9)]
 have zx: ~~~(xs.extract (sa+k) (sa+na))=na-k:=by rw[Array.size_extract];lia
 have zy: ~~~(xs.extract (sa+na) (sa+na+m))=m:=by rw[Array.size_extract];lia
 have key:∀r g,Rs κ ((xs.extract (sa+k) (sa+na)).toList++(xs.extract (sa+na) (sa+na+m)).toList) r->wpS (model prog w) A E s (do
  modify λs=>setArr s (r.toList.zipIdx.foldl (λa (p,j)=>a.setIfInBounds (sa+k+j) p) (arrOf s))
  return (failedOf (<-get)).isNone) Q (cJ (setPending st p') g):=λr g hr=>by
  show wpS_bind (wpS_modify (wpS_bind (wpS_get (wpS_pure ?_))))
  have hl:-r.toList=na-k+m:=by rw[hr.1.length_eq,eM,hY,hY,zx,zy]
  have pV:sa+k+-r.toList=sa+na+m:=()
  have eo:r.toList.zipIdx.foldl (λa (p,j)=>a.setIfInBounds (sa+k+j) p) xs=ow xs (sa+k) 0 r.toList:=O
  show Q (failedOf st).isNone (setArr (cJ (setPending st p') g) (r.toList.zipIdx.foldl (λa (p,j)=>a.setIfInBounds (sa+k+j) p) (arrOf st)))
  rw[tS,eo,D.failed]
  have oa:∀j,(ow xs (sa+k) 0 r.toList)[j]?=if sa+k<=j/\j<sa+na+m then r.toList[j-(sa+k)]? else xs[j]?:=λj=>by rw[R9 _ _ _ _ _ (),Nat.add_zero,pV]
  show h _ #[?_,D.kind,D.failed,O,λ_ hi=>absurd hi (Nat.not_lt_zero _)] (λj hj=>?_) ?_
  . show (ow xs (sa+k) 0 r.toList).Perm a₀
    show Array.Perm.trans (Array.perm_iff_toList_perm.mpr ?_) D.perm
    rw[tS,MS _ _ _ (),pV]
    have e3:xs.toList=xs.toList.take (sa+k)++((xs.extract (sa+k) (sa+na)).toList++(xs.extract (sa+na) (sa+na+m)).toList++xs.toList.drop (sa+na+m)):=by
     conv=>lhs;rw[<-List.take_append_drop (sa+k) xs.toList,Aa (show sa+k<=sa+na by lia),Aa (show sa+na<=sa+na+m by lia)]
     rw[fm]
    conv=>rhs;rw[e3]
    show List.Perm.append_left _ (List.Perm.append_right _ hr.1)
  . show (ow xs (sa+k) 0 r.toList)[j]?=_
    rw[oa,dQ ()]
  . show Sq κ (ow xs (sa+k) 0 r.toList) sa (sa+na+nb)
    have ko:∀j,sa<=j->j<sa+k\/sa+na+m<=j->KK κ (ow xs (sa+k) 0 r.toList) j=KK κ xs j:=λj _ hj=>KK_congr (by rw[oa,dQ ()])
    have ki:∀j,sa+k<=j->j<sa+na+m->∃q,sa+k<=q/\q<sa+na+m/\KK κ (ow xs (sa+k) 0 r.toList) j=KK κ xs q:=λj h9 l5=>by
     have hj:j-(sa+k)< -r.toList:=()
     have e4:(ow xs (sa+k) 0 r.toList)[j]?=!(r.toList[j-(sa+k)]):=by rw[oa,dA #[h9,l5],gz hj]
     rw[mW e4]
     obtain q|q:=fw.mp (hr.1.mem_iff.mp (List.getElem_mem hj))
     . let(z,z1,z2,z3,z4):=Bl (κ:=κ) q
       show#[z,z1,(),z4.symm]
     . let(z,z1,z2,z3,z4):=Bl (κ:=κ) q
       show#[z,(),z2,z4.symm]
    have lowU:∀i q,sa<=i->i<sa+k->sa+k<=q->q<sa+na+nb->κ.kle (KK κ xs i) (KK κ xs q):=λi q F N q3 q4=>by
     obtain W|W:=Nat.lt_or_ge q (sa+na)
     . show s1 i q F () W
     . show KeyOrd.kle_trans (zC i F N) (s2 _ q (eK _) W q4)
    have Uz:∀q j,sa<=q->q<sa+na+m->sa+na+m<=j->j<sa+na+nb->κ.kle (KK κ xs q) (KK κ xs j):=λq j F N q3 q4=>by
     obtain W|W:=Nat.lt_or_ge q (sa+na)
     . show KeyOrd.kle_trans (s1 q (sa+na-1) F () ()) (zD j q3 q4)
     . show s2 q j W () q4
    intro i j F N q3
    by_cases ci:i<sa+k
    . rw[ko i F (Zl ci)]
      by_cases cj:j<sa+k
      . rw[ko j () (Zl cj)];show s1 i j F N ()
      by_cases z_:j<sa+na+m
      . let(q,W,q6,q7):=ki j () z_
        rw[q7];show lowU i q F ci W ()
      . rw[ko j () (YY ())];show lowU i j F ci () q3
    by_cases MY:i<sa+na+m
    . by_cases z_:j<sa+na+m
      . by_cases cc:i=j
        . subst cc;show KeyOrd.kle_refl _
        have hi:i-(sa+k)< -r.toList:=()
        have hj:j-(sa+k)< -r.toList:=()
        rw[mW (show (ow xs (sa+k) 0 r.toList)[i]?=some (r.toList[i-(sa+k)]) by rw[oa,dA (),gz hi]),mW (show (ow xs (sa+k) 0 r.toList)[j]?=some (r.toList[j-(sa+k)]) by rw[oa,dA (),gz hj])]
        show List.pairwise_iff_getElem.mp hr.2 _ _ hi hj ()
      . let(q,W,q6,q7):=ki i () MY
        rw[q7,ko j () (YY ())];show Uz q j () q6 () q3
    . rw[ko i F (YY ()),ko j () (YY ())]
      show s2 i j () N q3
 have xk:KeysOf κ (xs.extract (sa+k) (sa+na)):=λq hq=>kx q (by
  rw[Array.toList_extract,List.extract_eq_take_drop]at hq
  show List.mem_of_mem_drop (List.mem_of_mem_take hq))
 have yk:KeysOf κ (xs.extract (sa+na) (sa+na+m)):=λq hq=>kx q (by
  rw[Array.toList_extract,List.extract_eq_take_drop]at hq
  show List.mem_of_mem_drop (List.mem_of_mem_take hq))
 have sx:∀i j,i<=j->j< ~~~(xs.extract (sa+k) (sa+na))->κ.kle (KK κ (xs.extract (sa+k) (sa+na)) i) (KK κ (xs.extract (sa+k) (sa+na)) j):=λi j F N=>by
  rw[zx]at N
  rw[sU () (),sU () ()]
  show s1 _ _ () () ()
 have sy:∀i j,i<=j->j< ~~~(xs.extract (sa+na) (sa+na+m))->κ.kle (KK κ (xs.extract (sa+na) (sa+na+m)) i) (KK κ (xs.extract (sa+na) (sa+na+m)) j):=λi j F N=>by
  rw[zy]at N
  rw[sU () (),sU () ()]
  show s2 _ _ () () ()
 have c1:κ.klt (KK κ (xs.extract (sa+na) (sa+na+m)) 0) (KK κ (xs.extract (sa+k) (sa+na)) 0):=by
  rw[sU () (),sU () ()]
  show zv _ () ()
 have c2:κ.klt (KK κ (xs.extract (sa+na) (sa+na+m)) (~~~(xs.extract (sa+na) (sa+na+m))-1)) (KK κ (xs.extract (sa+k) (sa+na)) (~~~(xs.extract (sa+k) (sa+na))-1)):=by
  rw[zx,zy,sU () (),sU () (),show sa+k+(na-k-1)=sa+na-1 by omega]
  show MX _ () ()
 split
 . show wpS_bind (MI hO D.kind xk yk sx sy () () c1 c2 key)
 . show wpS_bind (MO hO D.kind xk yk sx sy () () c1 c2 key)
end
def rs(p:Array (Nat×Nat×Nat)):List (Nat×Nat):=p.toList.map λr=>(r.1,r.2.1)
def f8(κ:KeyKind)(xs:Array Keyed):Nat->List (Nat×Nat)->Nat->Prop
 |a,[],c=>a=c
 |a,r::l,c=>r.1=a/\1<=r.2/\Sq κ xs a (a+r.2)/\f8 κ xs (a+r.2) l c
section
variable {κ:KeyKind}{kd:SortKind}{xs ys:Array Keyed}
theorem f8.le:∀{l:List (Nat×Nat)}{a c:Nat},f8 κ xs a l c->a+-l<=c
 |[],_,_,h=>Nat.le_of_eq h
 |r::l,a,c,#[_,h1,_,h2]=>by have:=h2.le;rw[d6];lia
theorem f8.congr:∀{l:List (Nat×Nat)}{a c:Nat},f8 κ xs a l c->(∀i,a<=i->i<c->ys[i]?=xs[i]?)->f8 κ ys a l c
 |[],_,_,h,_=>h
 |r::l,a,c,#[D,h1,h2,j],e=>#[D,h1,h2.congr λi z q=>e i z (by have:=j.le;lia),j.congr λi z q=>e i () q]
theorem f8.app:∀{l m:List (Nat×Nat)}{a c:Nat},f8 κ xs a (l++m) c ↔ ∃b,f8 κ xs a l b/\f8 κ xs b m c
 |[],m,a,c=>#[λh=>#[a,O,h],λ⟨b,h1,h2⟩=>by obtain rfl:a=b:=h1;show h2]
 |r::l,m,a,c=>#[λ⟨h0,h1,h2,h3⟩=>by let(b,i,j):=f8.app.mp h3;show#[b,#[h0,h1,h2,i],j],λ⟨b,⟨h0,h1,h2,h3⟩,i⟩=>#[h0,h1,h2,f8.app.mpr #[b,h3,i]]]
def MZ{p:Array (Nat×Nat×Nat)}(h:i+1< ~~~p):∃l x y m,p.toList=l++x::y::m/\-l=i/\p[i]?=!x/\p[i+1]?=!y/\∀z,((p.setIfInBounds i z).eraseIdxIfInBounds (i+1)).toList=l++z::m:=by
 have q:-p.toList= ~~~p:=by simp
 have e:p.toList=p.toList.take i++p[i]::p[i+1]::p.toList.drop (i+2):=by
  conv=>lhs;rw[<-List.take_append_drop i p.toList,mE (),mE (show i+1< -p.toList by lia)]
  rfl
 have j:-(p.toList.take i)=i:=by rw[j_];lia
 show#[p.toList.take i,p[i],p[i+1],p.toList.drop (i+2),e,j,getElem?_pos p i (),getElem?_pos p (i+1) h,λz=>?_];rw[Array.toList_eraseIdxIfInBounds,Array.toList_setIfInBounds]
 conv=>lhs;rw[e]
 rw[List.set_append_right _ _ (),j,i8,List.set_cons_zero,List.eraseIdx_append_of_length_le (),j,show i+1-i=1 by omega];rfl
def UL(p:Array (Nat×Nat×Nat))(i q:Nat):rs (p.modify i λx=>(x.1,x.2.1,q))=rs p:=by
 unfold rs;show List.ext_getElem? λj=>?_;rw[fI,fI,Array.getElem?_toList,Array.getElem?_toList,Array.getElem?_modify];split
 . subst_vars;cases p[j]?<;>rfl
 . rfl
def M0(p:Array (Nat×Nat×Nat))(x:Nat×Nat×Nat):rs (p.push x)=rs p++[(x.1,x.2.1)]:=by unfold rs;rw[Array.toList_push,fx];rfl
def UT(p:Array (Nat×Nat×Nat)):-(rs p)= ~~~p:=by simp[rs]
variable {prog:Program}{w:World}{A:Around}{E:Value->Shared->Prop}{s:Shared}{a₀:Array Keyed}{st:SortSt}
structure SR(kd:SortKind)(κ:KeyKind)(a₀:Array Keyed)(lo n:Nat)(st:SortSt):Prop where
 perm:(arrOf st).Perm a₀
 kind:kindOf st=kd
 failed:failedOf st=none
 runs:f8 κ (arrOf st) 0 (rs (pendingOf st)) lo
 hi:lo+n<= ~~~a₀
 nxt:Sq κ (arrOf st) lo (lo+n)
def UV(hO:qF κ kd prog w A s)(h0:KeysOf κ a₀){i lo n:Nat}(q:SR kd κ a₀ lo n st)(hi:i+1< ~~~(pendingOf st))(h:∀j,SR kd κ a₀ lo n j-> ~~~(pendingOf j)+1= ~~~(pendingOf st)->Q G j):wpS (model prog w) A E s (mergeAt' i) Q st:=by
 let(l,(z,na,pw),(sb,nb,MW),m,ep,el,e1,e2,ez):=MZ hi;let N:=q.runs;unfold rs at N;rw[ep,fx]at N;let(b,q1,q2):=f8.app.mp N;obtain⟨h1,h2,h3,h4,h5,h6,h7⟩:z=b/\1<=na/\Sq κ (arrOf st) b (b+na)/\sb=b+na/\1<=nb/\Sq κ (arrOf st) (b+na) (b+na+nb)/\f8 κ (arrOf st) (b+na+nb) (m.map λ(r:Nat×Nat×Nat)=>(r.1,r.2.1)) lo:=q2;subst h1;subst h4;let M1:=h7.le;have:=q.hi;show MV (xs₀:=#[]) hO h0 #[q.perm,q.kind,q.failed,O,λ_ hi=>absurd hi ()] e1 e2 h2 h5 () h3 h6 λj D hk hq=>h j #[D.perm,D.kind,D.failed,?_,q.hi,q.nxt.congr λi F W=>hk i (YY ())] ?_
 . unfold rs;rw[D.pend,ez,fx];show f8.app.mpr #[z,q1.congr λi F W=>hk i (Zl W),O,(by omega:1<=na+nb),(show z+(na+nb)=z+na+nb by lia)▸hq,(show z+(na+nb)=z+na+nb by lia)▸h7.congr λi F W=>hk i (YY F)]
 . have z1:(pendingOf j).toList.length=-l+(-m+1):=by rw[D.pend,ez];simp
   have z2:(pendingOf st).toList.length=-l+(-m+2):=by rw[ep];simp
   rw[hY]at z1 z2;lia
theorem SR.push{lo n:Nat}(h:SR kd κ a₀ lo n st)(q:1<=n):SR kd κ a₀ (lo+n) 0 (setPending st ((pendingOf st).push (lo,n,0))):=#[h.perm,h.kind,h.failed,by
 rw[M0];show f8.app.mpr #[lo,h.runs,O,q,h.nxt,O],h.hi,λi j h1 h2 z=>()]
def SR.mod{lo n i j:Nat}(h:SR kd κ a₀ lo n st):SR kd κ a₀ lo n (setPending st ((pendingOf st).modify i λx=>(x.1,x.2.1,j))):=#[h.perm,h.kind,h.failed,by
 rw[UL];show h.runs,h.hi,h.nxt]
def Ow(hO:qF κ kd prog w A s)(h0:KeysOf κ a₀)(hd:DK κ a₀)(N:Qk kd a₀ st)(h2:2<= ~~~a₀)
 (h:∀z,(arrOf z).Perm a₀->failedOf z=J->SortedToK κ (arrOf z) a₀.size->Q ⟨⟩ z):wpS (model prog w) A E s sortRuns' Q st:=by
 rw[sortRuns'_eq];show wpS_bind (wpS_get ?_);dsimp only;rw[N.size];generalize minRun' a₀.size a₀.size 0=mr at *;show wpS_bind (wpS_mono (wpS_forRange
  (I:=λx c z=>∃lo,c=(J,lo)/\x<=lo/\SR kd κ a₀ lo 0 z)
  (Q:=λc z=>c=(J,~~~a₀)/\SR kd κ a₀ a₀.size 0 z) ?step ?fin #[0,O,eK _,N.perm,N.kind,N.failed,by rw[N.pend];show O,(),λi j _ _ h5=>()]) ?post)
 case fin=>
  intro c z q0;let(lo,rfl,hx,D):=q0;have:=D.hi;obtain rfl:lo= ~~~a₀:=()
  show#[O,D]
 case post=>
  intro c z q0;let(rfl,D):=q0;show wpS_bind (wpS_mono (wpS_forRange (I:=λx c z=>c=(J,Unit.unit)/\SR kd κ a₀ a₀.size 0 z/\(~~~(pendingOf z)+x<= ~~~a₀\/(pendingOf z).size<=1)) (Q:=λc z=>c=(J,Unit.unit)/\SR kd κ a₀ a₀.size 0 z/\(pendingOf z).size<=1) ?_ ?_ #[O,D,Zl ?_]) ?_)
  . intro x c z _ _ q0;let(rfl,D,W):=q0;show wpS_bind (wpS_get ?_);by_cases hc: ~~~(pendingOf z)<=1
    . rw[dA hc];show wpS_pure #[O,D,hc]
    rw[dQ hc];show wpS_bind (UV hO h0 D ?_ λkl t0 hz=>?_)
    . split
      all_goals
       split
       all_goals lia
    . show wpS_pure #[O,t0,()]
  . intro c z q0;let(rfl,D,W):=q0;show#[O,D,()]
  . have:=D.runs.le;rw[UT]at this;lia
  . intro c z q0;let(rfl,D,W):=q0;show wpS_pure (h _ D.perm D.failed λi j h3 h4=>?_);let hr:=D.runs;let hl:=UT (pendingOf z)
    match hq:rs (pendingOf z),hr,hl with
    |[],hr,_=>have:0= ~~~a₀:=hr;lia
    |[r],hr,_=>
     let(_,_,q1,q2):=hr;let q2:=q2;rw[q2]at q1;show q1 i j () h3 h4
    |r::r'::l,_,hl=>rw[d6,d6]at hl;lia
 case step=>
  intro x c z _ hx q0;let(lo,rfl,hxl,D):=q0;dsimp only;by_cases nV:lo ≥ ~~~a₀
  . rw[dA nV];have:=D.hi;obtain rfl:lo= ~~~a₀:=()
    show wpS_pure #[O,D]
  rw[dQ nV];have M2:SB kd a₀ (pendingOf z) lo (arrOf z) z:=#[D.perm,D.kind,D.failed,O,λ_ _=>O];show wpS_bind (R8 hO h0 hd () () M2 λm kl Ap tx zk As=>?_);dsimp only;have mk:∀n F,lo+n<= ~~~a₀->SB kd a₀ (pendingOf z) lo (arrOf z) F->Sg κ (arrOf F) lo n->SR kd κ a₀ lo n F:=λn F W N hs=>#[N.perm,N.kind,N.failed,N.pend▸D.runs.congr λi _ hi=>N.low i hi,W,hs.sq];split
  case' isTrue=>
   show wpS_bind (wpS_lift (wpAny_rule #[O,?_]));show wpS_bind (W7 hO h0 () () Ap As λF M_ Na=>?_);simp only[Bool.not_true,hG,if_false];let hR:=mk _ _ () M_ Na;have W:1<=min (~~~a₀-lo) mr:=()
  case' isFalse=>
   let hR:=mk _ _ () Ap As;let W:=tx
  all_goals
   show wpS_bind (wpS_get ?_);split
   . show wpS_bind (wpS_mono (wpS_forRange (I:=λ_ c z=>c=(J,Unit.unit)/\SR kd κ a₀ lo _ z) ?_ (λ_ _ q=>q) #[O,hR]) ?_)
     . intro x c z _ _ q0;let(rfl,D):=q0;show wpS_bind (wpS_get ?_);by_cases hz: ~~~(pendingOf z)>1
       . rw[dA hz,getElem?_pos (pendingOf z) (~~~(pendingOf z)-2) ()];dsimp only;split
         . show wpS_pure #[O,D]
         . show wpS_bind (UV hO h0 D () λkl t0 _=>?_);show wpS_pure #[O,t0]
       . rw[dQ hz];show wpS_pure #[O,D]
     . intro c z q0;let(rfl,D):=q0;show wpS_bind (wpS_modify (wpS_bind (wpS_modify (wpS_pure #[_,O,(),D.mod.push W]))))
   . show wpS_bind (wpS_modify (wpS_pure #[_,O,(),hR.push W]))
end
section
variable {prog:Program}
def JM(ho:s.heap.get? a=!(seqObj "list" vs.toArray n))
 (hO:∀h',(∀b o,b≠a->s.heap.get? b=!o->h'.get? b=!o)->qF κ kd prog w A { s with heap:=h' })
 (h0:KeysOf κ (pairsOf vs)) (Nc:∀h',(∀b o,b≠a->s.heap.get? b=!o->h'.get? b=!o)->∀v₁ v₂ dP,vs=v₁::v₂::dP->∀{Q:SortKind->Shared->Prop},Q kd { s with heap:=h' }->wpAny (model prog w) A (keyKind' (v₁::v₂::dP).toArray) Q E { s with heap:=h' }) (hd:DK κ (pairsOf vs)) (h64:-vs<100000)
 (h:∀D:SortSt,(arrOf D).Perm (pairsOf vs)->SortedToK κ (arrOf D) (pairsOf vs).size->P (.done (.ret .none)) { s with heap:=sortedHeap s.heap a vs ((arrOf D).map (·.2)) }):
 wpAny (model prog w) A (Builtin.«list.sort» #[[YV a],[]]) P E s:=by
 rw[list_sort_plain];let ha:=eP ho;show da (listItems_at ho O ?_);show da (listUpdate_at ho O ?_);obtain⟨e1,At⟩:∃e1,(s.heap.update a (Obj.mapSeq λ_=>#[])).get? a=!(seqObj "list" #[] e1):=#[_,get?_update_seq ho (λ_=>#[])];show da (seqEpoch_at At O ?_);show da (wpAny_newTuple ?_);show da (wpAny_newList ?_);show wpAny_holding ?_;have qj:(((s.heap.update a (Obj.mapSeq λ_=>#[])).push (seqObj "tuple" vs.toArray 0)).push (seqObj "list" #[] 0)).get? a=!(seqObj "list" #[] e1):=by rw[Heap.get?_push_ne _ _ _ (by rw[size_push',Heap.size_update];show ga (j3 ha)),Heap.get?_push_ne _ _ _ (by rw[Heap.size_update];show ga ha)];show At
 show wpAny (model prog w) A _ P E { s with heap:=((s.heap.update a (Obj.mapSeq λ_=>#[])).push (seqObj "tuple" vs.toArray 0)).push (seqObj "list" #[] 0) };dsimp only;have ic: ~~~vs.toArray=-vs:=by simp
 let fin:=h;by_cases h2: ~~~vs.toArray<2
 . rw[dA h2,dA h2];show da (d0 ?_);rw[StateT.run_pure];show da (d0 ?_);dsimp only;show da (seqEpoch_at qj O ?_);show da (listUpdate_at qj O ?_ (hsz2:=by rw[Array.size_map];show (pairsOf vs).size<=_;rw[pairsOf_size,sizeLine_eq];lia));simp only[bne_self_eq_false,hG,if_false];show d0 (fin (SortSt.mk' general' (vs.toArray.zip vs.toArray) #[] 7 J) (Array.Perm.refl _) ?_);intro i j l0 hj;have:i=j:=by rw[pairsOf_size]at hj;lia
   subst this;show KeyOrd.kle_refl _
 . rw[dQ h2,dQ h2];obtain⟨v₁,v₂,dP,rfl⟩:∃v₁ v₂ dP,vs=v₁::v₂::dP:=by
    match vs,ic,h2 with
    |[],_,h2=>simp at h2
    |[_],_,h2=>simp at h2
    |v₁::v₂::dP,_,_=>show#[v₁,v₂,dP,O]
   have Au:∀b o,b≠a->s.heap.get? b=!o->(((s.heap.update a (Obj.mapSeq λ_=>#[])).push (seqObj "tuple" (v₁::v₂::dP).toArray 0)).push (seqObj "list" #[] 0)).get? b=!o:=λb o hb e=>by let hl:=eP e;rw[Heap.get?_push_ne _ _ _ (by rw[size_push',Heap.size_update];show ga (j3 hl)),Heap.get?_push_ne _ _ _ (by rw[Heap.size_update];show ga hl),Heap.get?_update_ne _ _ _ _ hb];show e
   show da (Nc _ Au _ _ _ O ?_);show da (wpAny_mono (Ow (κ:=κ) (hO _ Au)
    (Q:=λ_ D=>(arrOf D).Perm (pairsOf (v₁::v₂::dP))/\failedOf D=J/\SortedToK κ (arrOf D) (pairsOf (v₁::v₂::dP)).size)
    h0 hd #[Array.Perm.refl _,O,O,O] (by rw[pairsOf_size];simp) λD a1 a2 a3=>#[a1,a2,a3]) ?_ λ_ _ e=>e)
   rintro⟨⟨⟩,D⟩ s' ⟨rfl,hp,hf,hs⟩;dsimp only;show da (seqEpoch_at qj O ?_);show da (listUpdate_at qj O ?_ (hsz2:=by show gL (Nat.le_of_eq ((Array.size_map ..).trans (hp.size_eq.trans (pairsOf_size _)))) ?_;rw[sizeLine_eq];lia));rw[hf];simp only[bne_self_eq_false,hG,if_false];show d0 (fin D hp hs)
end
noncomputable def CV (ZO i:Nat):Nat:=(i*5+1)%ZO
def eZ(ZO:Nat):Nat->Nat->Nat
 |0,i=>i
 |n+1,i=>CV ZO (eZ ZO n i)
def Bm(ZO:Nat):Nat->Nat->Nat->Nat
 |0,_,acc=>acc
 |n+1,i,acc=>Bm ZO n (CV ZO i) (acc ||| 2 ^ i)
def UW(j n i:Nat):eZ j (n+1) i=eZ j n (CV j i):=by
 induction n with
 |zero=>rfl
 |succ n q=>show CV j (eZ j (n+1) i)=CV j (eZ j n (CV j i));rw[q]
theorem qR(j m i:Nat):∀n,eZ j (n+m) i=eZ j n (eZ j m i)
 |0=>by rw[ke];rfl
 |n+1=>by rw[Nat.succ_add];show CV j (eZ j (n+m) i)=CV j (eZ j n (eZ j m i));rw[qR j m i n]
theorem Ab(D j:Nat):∀n i acc,(Bm D n i acc).testBit j=G->acc.testBit j=G\/∃k,k<n/\eZ D k i=j
 |0=>λi acc h=>Zl h
 |n+1=>λi acc h=>by
  obtain q|⟨k,hk,q⟩:=Ab D j n (CV D i) (acc ||| 2 ^ i) h
  . rw[Nat.testBit_or,Bool.or_eq_true]at q;obtain q|q:=q
    . show Zl q
    . rw[Nat.testBit_two_pow]at q;show YY #[0,Nat.succ_pos _,of_decide_eq_true q]
  . show YY #[k+1,Nat.succ_lt_succ hk,by rw[UW];show q]
def wD(ZO:Nat):Prop:=ZO=8\/ZO=32\/ZO=128\/ZO=512\/ZO=2048\/ZO=8192\/ZO=32768
def Qp(h:wD ZO):Bm ZO ZO 0 0=2 ^ ZO-1/\eZ ZO ZO 0=0:=by rcases h with rfl|rfl|rfl|rfl|rfl|rfl|rfl<;>show#[by decide +kernel,by decide +kernel]
def Ln(h:wD ZO)(i:j<ZO):∃k,k<ZO/\eZ ZO k 0=j:=by
 have q:(Bm ZO ZO 0 0).testBit j=G:=by rw[(Qp h).1,Nat.testBit_two_pow_sub_one];show kR i
 obtain q|q:=Ab ZO j ZO 0 0 q
 . rw[Nat.zero_testBit]at q;cases q
 . show q
def Il(h:wD ZO)(hi:i<ZO)(D:j<ZO):∃k,k<ZO/\eZ ZO k i=j:=by
 let(a,F,q):=Ln h hi;let(b,N,z):=Ln h D;obtain g|g:=Nat.lt_or_ge b a
 . show#[b+ZO-a,(),?_];have e:eZ ZO (b+ZO-a+a) 0=eZ ZO (b+ZO-a) (eZ ZO a 0):=qR ZO a 0 _;rw[q]at e;rw[<-e,Nat.sub_add_cancel (),qR,(Qp h).2,z]
 . show#[b-a,(),?_];have e:eZ ZO (b-a+a) 0=eZ ZO (b-a) (eZ ZO a 0):=qR ZO a 0 _;rw[q]at e;rw[<-e,Nat.sub_add_cancel g,z]
def Nd(z:0<p)(i:eZ ZO p s=s)(k:Nat):eZ ZO (k%p) s=eZ ZO k s:=by
 induction k using Nat.strongRecOn with
 |ind k j=>
  obtain c|c:=Nat.lt_or_ge k p
  . rw[Nat.mod_eq_of_lt c]
  . rw[Nat.mod_eq_sub_mod c,j (k-p) ()];let e:=qR ZO p s (k-p);rw[Nat.sub_add_cancel c,i]at e;show e.symm
theorem Ni(hi:i<ZO):∀n,eZ ZO n i<ZO
 |0=>hi
 |n+1=>Nat.mod_lt _ ()
def Nl(h:wD ZO)(hi:i<ZO)(z:a<b)(F:b<ZO):eZ ZO a i≠eZ ZO b i:=λe=>by
 have q:eZ ZO (b-a) (eZ ZO a i)=eZ ZO a i:=by rw[<-qR,Nat.sub_add_cancel ()];show e.symm
 have sub:List.range ZO ⊆ (List.range (b-a)).map λk=>eZ ZO k (eZ ZO a i):=λj D=>by let(k,_,e):=Il h (Ni hi a) (List.mem_range.mp D);show fy.mpr #[k%(b-a),List.mem_range.mpr (Nat.mod_lt _ ()),(Nd () q k).trans e]
 have:=List.Nodup.length_le_of_subset List.nodup_range sub;simp only[eI,ik]at this;lia
def W9{xs:Array Nat}(h:wD ZO)(hi:i<ZO)(Q: ~~~xs<ZO):∃k,k<= ~~~xs/\∀n:Nat,xs[n]?≠!(eZ ZO k i):=by
 show Classical.byContradiction λz=>?_;have D:((List.range (~~~xs+1)).map λk=>eZ ZO k i).Nodup:=List.pairwise_map.mpr (List.Pairwise.imp_of_mem (λ_ N l=>Nl h hi l ∅) List.pairwise_lt_range);have:=List.Nodup.length_le_of_subset D λj F=>by let(k,hk,e):=fy.mp F;show Classical.byContradiction λq=>z #[k,by have:=List.mem_range.mp hk;lia -verbose,λn en=>q ?_];rw[<-e];show g7 (Array.getElem?_toList.trans en)
 simp only[eI,ik,hY]at this;lia
def de(t:SetTable)(h:Int):Nat->SetTable.Probe
 |0=>t.probeStart h
 |n+1=>t.advance (de t h n)
theorem t8(e:t.mask=t'.mask)(h:Int):∀n,de t h n=de t' h n
 |0=>by show t.probeStart h=t'.probeStart h;unfold SetTable.probeStart;rw[e]
 |n+1=>by show t.advance (de t h n)=t'.advance (de t' h n);rw[t8 e h n];unfold SetTable.advance;rw[e]
noncomputable def lp (m:Nat) (a:Nat×Nat):Nat->Nat×Nat
 |0=>a
 |n+1=>SetTable.leap m (lp m a n).1 (lp m a n).2
theorem uc(m:Nat)(a:Nat×Nat):∀n,(lp m a n).2=a.2/32 ^ n
 |0=>by show a.2=a.2/1;rw[Nat.div_one]
 |n+1=>by show (lp m a n).2/32=_;rw[uc m a n,Nat.div_div_eq_div_mul,Nat.pow_succ]
theorem Lp(m:Nat)(a:Nat×Nat)(n:Nat):∀k,lp m a (k+n)=lp m (lp m a n) k
 |0=>by rw[ke];rfl
 |k+1=>by rw[Nat.succ_add];show SetTable.leap _ _ _=SetTable.leap _ _ _;rw[Lp m a n k]
theorem Lq(m i:Nat):∀k,(lp m (i,0) k).1=eZ (m+1) k i
 |0=>rfl
 |k+1=>by show (((lp m (i,0) k).1*5+1+(lp m (i,0) k).2/32)%(m+1))=CV (m+1) (eZ (m+1) k i);rw[uc,Lq m i k];rw[Nat.zero_div,Nat.zero_div];rfl
theorem Y9(m:Nat)(a:Nat×Nat)(h:a.1<m+1):∀n,(lp m a n).1<m+1
 |0=>h
 |n+1=>Nat.mod_lt _ ()
def Qq(h:Int):SetTable.bits h<2 ^ 64:=by unfold SetTable.bits;lia
def Xb(D:wD (m+1))(h:Int)(q:j<=m):∃n,n<=m+13/\(lp m (SetTable.bits h%(m+1),SetTable.bits h) n).1=j:=by
 have z:(lp m (SetTable.bits h%(m+1),SetTable.bits h) 13).2=0:=by rw[uc];show Nat.div_eq_of_lt (g9 (Qq h) ())
 have l:(lp m (SetTable.bits h%(m+1),SetTable.bits h) 13).1<m+1:=Y9 m _ (Nat.mod_lt _ ()) 13;let(k,hk,e):=Il D l (Nat.lt_succ_of_le q);show#[k+13,(),?_];rw[Lp];have i:lp m (SetTable.bits h%(m+1),SetTable.bits h) 13=((lp m (SetTable.bits h%(m+1),SetTable.bits h) 13).1,0):=by rw[<-z]
 rw[i,Lq];show e
def vJ(m i:Nat):i<=SetTable.runEnd m i/\SetTable.runEnd m i<=i+9/\(i<=m->SetTable.runEnd m i<=m):=by unfold SetTable.runEnd;split<;>lia
theorem yf(t:SetTable)(h:Int):∀(k r j:Nat),de t h s=#[j,r,i,p,d]->k<=r->de t h (s+k)=#[j+k,r-k,i,p,d]
 |0=>λr j e _=>e
 |k+1=>λr j e hk=>by let q:=yf t h k r j e ();show t.advance (de t h (s+k))=_;rw[q];unfold SetTable.advance;rw[dA (show r-k>0 by lia)];rfl
theorem Qs(t:SetTable)(h:Int):∀n,∃s,s<=10*n/\de t h s=#[(lp t.mask (SetTable.bits h%(t.mask+1),SetTable.bits h) n).1,SetTable.runEnd t.mask (lp t.mask (SetTable.bits h%(t.mask+1),SetTable.bits h) n).1-(lp t.mask (SetTable.bits h%(t.mask+1),SetTable.bits h) n).1,(lp t.mask (SetTable.bits h%(t.mask+1),SetTable.bits h) n).1,(lp t.mask (SetTable.bits h%(t.mask+1),SetTable.bits h) n).2,J]
 |0=>#[0,eK _,O]
 |n+1=>by let(s,hs,e):=Qs t h n;have i:lp t.mask (SetTable.bits h%(t.mask+1),SetTable.bits h) (n+1)=SetTable.leap t.mask (lp t.mask (SetTable.bits h%(t.mask+1),SetTable.bits h) n).1 (lp t.mask (SetTable.bits h%(t.mask+1),SetTable.bits h) n).2:=O;rw[i];generalize lp t.mask (SetTable.bits h%(t.mask+1),SetTable.bits h) n=a at e;let q:=yf t h _ _ _ e (eK _);rw[i8]at q;let b:=(vJ t.mask a.1);show#[s+(SetTable.runEnd t.mask a.1-a.1)+1,(),?_];show t.advance _=_;rw[q];rfl
theorem yg(t:SetTable)(h:Int):∀n,(de t h n).dummy=J
 |0=>rfl
 |n+1=>by
  show (t.advance (de t h n)).dummy=J;unfold SetTable.advance;split
  . show yg t h n
  . show yg t h n
theorem GZ(t:SetTable)(h:Int):∀n,(de t h n).j+(de t h n).more<=t.mask
 |0=>by have l:SetTable.bits h%(t.mask+1)<=t.mask:=Nat.le_of_lt_succ (Nat.mod_lt _ ());let b:=vJ t.mask (SetTable.bits h%(t.mask+1));show SetTable.bits h%(t.mask+1)+(SetTable.runEnd t.mask (SetTable.bits h%(t.mask+1))-SetTable.bits h%(t.mask+1))<=t.mask;lia
 |n+1=>by
  let q:=GZ t h n;show (t.advance (de t h n)).j+(t.advance (de t h n)).more<=t.mask;unfold SetTable.advance;split
  . show (de t h n).j+1+((de t h n).more-1)<=t.mask;lia
  . have l:((de t h n).i*5+1+(de t h n).perturb/32)%(t.mask+1)<=t.mask:=Nat.le_of_lt_succ (Nat.mod_lt _ ());let b:=vJ t.mask (((de t h n).i*5+1+(de t h n).perturb/32)%(t.mask+1));show ((de t h n).i*5+1+(de t h n).perturb/32)%(t.mask+1)+(SetTable.runEnd t.mask (((de t h n).i*5+1+(de t h n).perturb/32)%(t.mask+1))-((de t h n).i*5+1+(de t h n).perturb/32)%(t.mask+1))<=t.mask;lia
def wF(t:SetTable)(h:Int)(K:Nat):Prop:=t.slot (de t h K).j=.empty/\∀l,l<K->t.slot (de t h l).j≠.empty
def U0:∀{n:Nat},t.slot (de t h n).j=.empty->∃K,K<=n/\wF t h K:=by
 intro n;induction n using Nat.strongRecOn with
 |_ n F=>
  intro e;by_cases q:∃l,l<n/\t.slot (de t h l).j=.empty
  . let(l,i,D):=q;let(K,N,f):=F l i D;show#[K,(),f]
  . show#[n,eK _,e,λl i z=>q #[l,i,z]]
theorem Qt{hashAt:Nat->Int}{K:Nat}(nd:∀j,t.slot j≠.dummy)(f:wF t h K):∀(q k:Nat),k<=K->K-k<q->
 (∃l i,k<=l/\l<K/\t.slot (de t h l).j=.live i/\hashAt i=h/\SetTable.probe.go t hashAt h q (de t h k)=!(.candidate (de t h l).j i (de t h (l+1)))/\∀z,k<=z->z<l->∀D,t.slot (de t h z).j=.live D->hashAt D≠h)\/
 ((∀z,k<=z->z<K->∀D,t.slot (de t h z).j=.live D->hashAt D≠h)/\SetTable.probe.go t hashAt h q (de t h k)=!(.empty (de t h K).j J))
 |0=>λk _ h2=>absurd h2 ()
 |q+1=>λk h1 h2=>by
  unfold SetTable.probe.go;obtain g|g:=Nat.lt_or_ge k K
  . cases hs:t.slot (de t h k).j with
    |empty=>show absurd hs (f.2 k g)
    |dummy=>show absurd hs (nd _)
    |live i=>
     dsimp only;by_cases N:hashAt i=h
     . rw[dA ∅];show Zl #[k,i,eK _,g,hs,N,O,λz a b=>absurd b ()]
     . rw[dQ ∅];obtain⟨l,D,a1,a2,a3,a4,a5,a6⟩|⟨a1,a2⟩:=Qt nd f q (k+1) g ()
       . show Zl #[l,D,(),a2,a3,a4,a5,λz b1 b2 W F=>?_];obtain c|c:=Nat.lt_or_ge k z
         . show a6 z c b2 W F
         . obtain rfl:z=k:=()
           rw[hs]at F;cases F;show N
       . show YY #[λz b1 b2 W F=>?_,a2];obtain c|c:=Nat.lt_or_ge k z
         . show a1 z c b2 W F
         . obtain rfl:z=k:=()
           rw[hs]at F;cases F;show N
  . obtain rfl:k=K:=()
    rw[f.1];rw[yg];show YY #[λz a b=>absurd b (),O]
def Fe(xs:Array Nat):Prop:=∀a b x y:Nat,a<b->xs[a]?=!x->xs[b]?=!y->x<y
theorem Dq(D:Fe xs):∀(z lo hi:Nat),lo<=hi->hi<= ~~~xs->hi-lo<=z->(∀i x:Nat,i<lo->xs[i]?=!x->x<j)->(∀i x:Nat,hi<=i->xs[i]?=!x->j<=x)->
 SetTable.below.go xs j z lo hi<= ~~~xs/\(∀i x:Nat,i<SetTable.below.go xs j z lo hi->xs[i]?=!x->x<j)/\(∀i x:Nat,SetTable.below.go xs j z lo hi<=i->xs[i]?=!x->j<=x)
 |0=>λlo hi h1 h2 h3 N F=>by
  obtain rfl:lo=hi:=()
  show#[h2,N,F]
 |z+1=>λlo hi h1 h2 h3 N F=>by
  unfold SetTable.below.go;split
  . have hm:(lo+hi)/2< ~~~xs:=()
    let e:=Array.getElem?_eq_getElem hm;dsimp only;rw[Array.getD_eq_getD_getElem?,e];split
    . rename_i q;show Dq D z _ hi () h2 () (λi x Q ex=>?_) F;obtain c|c:=Nat.lt_or_ge i ((lo+hi)/2)
      . show Nat.lt_trans (D _ _ _ _ c ex e) q
      . obtain rfl:i=(lo+hi)/2:=()
        rw[e]at ex;cases ex;show q
    . rename_i q;let W:=xi q;show Dq D z lo _ () () () N (λi x Q ex=>?_);obtain c|c:=Nat.lt_or_ge ((lo+hi)/2) i
      . show nw (oS W (D _ _ _ _ c e ex))
      . obtain rfl:i=(lo+hi)/2:=()
        rw[e]at ex;cases ex;show W
  . obtain rfl:lo=hi:=()
    show#[h2,N,F]
def ud(q:Fe xs)(j:Nat):SetTable.below xs j<= ~~~xs/\(∀i x:Nat,i<SetTable.below xs j->xs[i]?=!x->x<j)/\(∀i x:Nat,SetTable.below xs j<=i->xs[i]?=!x->j<=x):=
 Dq q xs.size 0 xs.size () () () (λi x h=>absurd h ()) (λi x h e=>by rw[kt h]at e;cases e)
def below_at(z:Fe xs)(e:xs[i]?=!j):SetTable.below xs j=i:=by
 let(Q,N,F):=ud z j;obtain c|c|c:=Nat.lt_trichotomy (SetTable.below xs j) i
 . let D:=Nat.lt_trans c (by obtain g|g:=Nat.lt_or_ge i xs.size;show g;rw[kt g]at e;cases e);let q:=Array.getElem?_eq_getElem D;have:=F _ _ () q;have:=z _ _ _ _ c q e;lia
 . show c
 . show absurd (N _ _ c e) ()
def Ac{t:SetTable}(q:Fe t.place)(e:t.place[i]?=!j):t.slot j=.live i:=by unfold SetTable.slot;rw[below_at q e,dA (by rw[e];show kg _)]
def Im{t:SetTable}(e:t.slot j=.live i):t.place[i]?=!j:=by
 unfold SetTable.slot at e;dsimp only at e;split at e
 . rename_i q;cases e;show eq_of_beq q
 . split at e<;>cases e
def Qu{t:SetTable}(i:t.dummies=#[])(j:Nat):t.slot j≠.dummy:=by
 intro e;unfold SetTable.slot at e;dsimp only at e;split at e
 . cases e
 . split at e
   . rename_i q;rw[i]at q;unfold SetTable.has at q;cases q
   . cases e
def pN{t:SetTable}(N:Fe t.place)(Q:t.dummies=#[]):t.slot j=.empty ↔ ∀i:Nat,t.place[i]?≠!j:=by
 constructor
 . intro e i q;rw[Ac N q]at e;cases e
 . intro q;cases e:t.slot j with
   |empty=>rfl
   |dummy=>show absurd e (Qu Q j)
   |live i=>show absurd (Im e) (q i)
def tM(xs:Array α)(p:Nat)(x:α):(SetTable.insertAt xs p x).toList=xs.toList.take p++x::xs.toList.drop p:=by unfold SetTable.insertAt;have e:List.take (~~~xs-p) (List.drop p xs.toList)=List.drop p xs.toList:=oI ∅;simp[e]
def iC(xs:Array α)(z:p<= ~~~xs)(x:α)(i:Nat):(SetTable.insertAt xs p x)[i]?=if i<p then xs[i]? else if i=p then !x else xs[i-1]?:=by
 rw[<-Array.getElem?_toList,tM];have j:-(xs.toList.take p)=p:=by rw[j_,hY];lia
 split
 . rename_i g;rw[jp (),List.getElem?_take_of_lt g,Array.getElem?_toList]
 . rw[hW (),j];split
   . rename_i q;subst q;rw[i8];rfl
   . obtain⟨k,hk⟩:∃k,i-p=k+1:=#[i-p-1,()];rw[hk,List.getElem?_cons_succ,List.getElem?_drop,Array.getElem?_toList];congr 1;lia
def n6(xs:Array α)(p:Nat)(x:α): ~~~(SetTable.insertAt xs p x)= ~~~xs+1:=by rw[<-hY,tM,eM,d6,j_,mS,hY];lia
def Sd(D:Fe xs)(hj:∀i:Nat,xs[i]?≠!j):Fe (SetTable.insertAt xs (SetTable.below xs j) j):=by
 let(W,N,b3):=ud D j;intro a b x y F ex q;rw[iC xs W]at ex q;let st:=λi x h e=>Nat.lt_of_le_of_ne (b3 i x h e) λz=>hj i (z▸e);split at ex
 . rename_i Q;split at q
   . show D _ _ _ _ F ex q
   . split at q
     . cases q;show N _ _ Q ex
     . show Nat.lt_trans (N _ _ Q ex) (st _ _ () q)
 . split at ex
   . cases ex;rw[dQ (),dQ ()]at q;show st _ _ () q
   . rw[dQ (),dQ ()]at q;show D _ _ _ _ () ex q
def AA(t:SetTable)(h:Int)(j:Nat):Prop:=∃n,(de t h n).j=j/\∀l,l<n->t.slot (de t h l).j≠.empty
structure sV(t:SetTable)(hs:Nat->Option Int):Prop where
 msz:wD (t.mask+1)
 nod:t.dummies=#[]
 ris:Fe t.place
 bnd:∀i j:Nat,t.place[i]?=!j->j<=t.mask
 room: ~~~t.place<=t.mask
 rch:∀(i j:Nat)(h:Int),t.place[i]?=!j->hs i=!h->AA t h j
def sV.first(T:sV t hs)(h:Int):∃K,K<10*(~~~t.place+15)/\wF t h K:=by
 have z:(lp t.mask (SetTable.bits h%(t.mask+1),SetTable.bits h) 13).2=0:=by rw[uc];show Nat.div_eq_of_lt (g9 (Qq h) ())
 let(k,hk,q):=W9 T.msz (Y9 t.mask (SetTable.bits h%(t.mask+1),SetTable.bits h) (Nat.mod_lt _ ()) 13) (Nat.lt_succ_of_le T.room);let(s,D,e):=Qs t h (k+13);have F:(de t h s).j=eZ (t.mask+1) k (lp t.mask (SetTable.bits h%(t.mask+1),SetTable.bits h) 13).1:=by rw[e,Lp,<-Lq,<-z]
 have i:t.slot (de t h s).j=.empty:=by rw[F];show(pN T.ris T.nod).mpr q
 let(K,N,f):=U0 i;show#[K,(),f]
def sV.ahead(T:sV t hs){K i j:Nat}(f:wF t h K)(e:t.place[i]?=!j)(D:hs i=!h):∃l,l<K/\(de t h l).j=j/\t.slot (de t h l).j=.live i:=by
 let(n,en,q):=T.rch i j h e D;show#[n,?_,en,by rw[en];show Ac T.ris e];obtain c|c:=Nat.lt_or_ge n K
 . show c
 . obtain d|d:=Nat.eq_or_lt_of_le c
   . let z:=f.1;rw[d,en,Ac T.ris e]at z;cases z
   . show absurd f.1 (q K d)
def U3_{t:SetTable}(q:t.dummies=#[])(j:Nat):(t.put j).1={ t with place:=SetTable.insertAt t.place (SetTable.below t.place j) j }/\(t.put j).2=SetTable.below t.place j:=by
 unfold SetTable.put;show#[?_,O];have e:SetTable.has t.dummies j=M:=by rw[q];rfl
 rw[e];rfl
noncomputable def Lr {α:Type} (hs:Nat->Option α) (p:Nat) (h:α) (i:Nat):Option α:=if i<p then hs i else if i=p then !h else hs (i-1)
def sV.put(T:sV t hs){K:Nat}(f:wF t h K)(N: ~~~t.place+1<=t.mask):
 sV { t with place:=SetTable.insertAt t.place (SetTable.below t.place (de t h K).j) (de t h K).j } (Lr hs (SetTable.below t.place (de t h K).j) h):=by
 let nn:=(pN T.ris T.nod).mp f.1;let(W,b2,b3):=ud T.ris (de t h K).j;let rr:=Sd T.ris nn;have le:(de t h K).j<=t.mask:=by have:=GZ t h K;lia
 have keep:∀(Q:SetTable),Q={ t with place:=SetTable.insertAt t.place (SetTable.below t.place (de t h K).j) (de t h K).j }->∀j,t.slot j≠.empty->Q.slot j≠.empty:=by
  intro Q e' j q z;subst e';let z':=(pN (t:={ t with place:=SetTable.insertAt t.place (SetTable.below t.place (de t h K).j) (de t h K).j }) rr T.nod).mp z;show q ((pN T.ris T.nod).mpr λi e=>?_);obtain c|c:=Nat.lt_or_ge i (SetTable.below t.place (de t h K).j)
  . show z' i ?_;rw[iC _ W,dA c];show e
  . show z' (i+1) ?_;rw[iC _ W,dQ (),dQ ()];show e
 show#[T.msz,T.nod,rr,λi j e=>?_,?_,λi j h' e F=>?_]
 . rw[iC _ W]at e;split at e
   . show T.bnd _ _ e
   . split at e
     . cases e;show le
     . show T.bnd _ _ e
 . rw[n6];show N
 . let rc:=λn=>t8 (t:={ t with place:=SetTable.insertAt t.place (SetTable.below t.place (de t h K).j) (de t h K).j }) (t':=t) O h' n;have mt:AA t h' j\/(h'=h/\j=(de t h K).j):=by
    rw[iC _ W]at e;unfold Lr at F;split at e
    . rename_i c;rw[dA c]at F;show Zl (T.rch i j h' e F)
    . rename_i c;rw[dQ c]at F;split at e
      . rename_i c2;rw[dA c2]at F;cases F;cases e;show YY #[O,O]
      . rename_i c2;rw[dQ c2]at F;show Zl (T.rch _ j h' e F)
   obtain⟨n,en,q⟩|⟨rfl,rfl⟩:=mt
   . show#[n,by rw[rc];show en,λl hl=>by rw[rc];show keep _ O _ (q l hl)]
   . show#[K,by rw[rc],λl hl=>by rw[rc];show keep _ O _ (f.2 l hl)]
abbrev nF(m:Nat)(h:Int):Nat->Nat×Nat:=lp m (SetTable.bits h%(m+1),SetTable.bits h)
abbrev rl(m:Nat)(h:Int)(n:Nat):Nat:=SetTable.runEnd m (nF m h n).1-(nF m h n).1
def sn(m:Nat)(h:Int):Nat->Nat
 |0=>0
 |n+1=>sn m h n+rl m h n+1
theorem Qv(t:SetTable)(h:Int):∀n,de t h (sn t.mask h n)=#[(nF t.mask h n).1,rl t.mask h n,(nF t.mask h n).1,(nF t.mask h n).2,J]
 |0=>rfl
 |n+1=>by let e:=Qv t h n;let q:=yf t h _ _ _ e (eK _);rw[i8]at q;have i:nF t.mask h (n+1)=SetTable.leap t.mask (nF t.mask h n).1 (nF t.mask h n).2:=O;show t.advance (de t h (sn t.mask h n+rl t.mask h n))=_;rw[q];rfl
def G3(t:SetTable)(h:Int)(hk:k<=rl t.mask h n):(de t h (sn t.mask h n+k)).j=(nF t.mask h n).1+k:=by rw[yf t h _ _ _ (Qv t h n) hk]
abbrev Fr(ow:Array (Option Nat))(j:Nat):Prop:=(ow.getD j (!0)).isNone=G
theorem Io(t:SetTable)(ow:Array (Option Nat))(h:Int):∀(i n:Nat),
 (∀j,SetTable.layClean.free t.mask ow i (nF t.mask h n).1 (nF t.mask h n).2=!j->∃s,sn t.mask h n<=s/\(de t h s).j=j/\Fr ow j/\∀l,sn t.mask h n<=l->l<s->¬ Fr ow (de t h l).j)/\
 ((∃n',n<=n'/\n'<n+i/\Fr ow (nF t.mask h n').1)->∃j,SetTable.layClean.free t.mask ow i (nF t.mask h n).1 (nF t.mask h n).2=!j)
 |0,n=>#[λj e=>by (unfold SetTable.layClean.free at e;cases e),λ⟨n',a,b,_⟩=>absurd b ()]
 |i+1,n=>by
  let Q:=Io t ow h i (n+1);have e1:nF t.mask h (n+1)=SetTable.leap t.mask (nF t.mask h n).1 (nF t.mask h n).2:=O;let hr:=vJ t.mask (nF t.mask h n).1;unfold SetTable.layClean.free;cases F:(List.range (SetTable.runEnd t.mask (nF t.mask h n).1+1-(nF t.mask h n).1)).find? (λk=>(ow.getD ((nF t.mask h n).1+k) (!0)).isNone) with
  |some k=>
   show#[λj e=>?_,λ_=>#[_,O]];cases e;have hk:k<=rl t.mask h n:=by have:=List.mem_of_find?_eq_some F;rw[List.mem_range]at this;unfold rl;lia
   show#[sn t.mask h n+k,oz _ _,G3 t h hk,by have:=List.find?_some F;show this,λl h1 h2=>?_];obtain⟨c,rfl⟩:∃c,l=sn t.mask h n+c:=#[l-sn t.mask h n,()];rw[G3 t h (show c<=rl t.mask h n by lia)];intro z;rw[List.find?_range_eq_some]at F;have:=F.2.2 c ();rw[z]at this;cases this
  |none=>
   have N:∀c,c<=rl t.mask h n->¬ Fr ow ((nF t.mask h n).1+c):=λc hc z=>by have:=List.find?_eq_none.mp F c ∅;show this z
   show#[λj e=>?_,λ⟨n',a,b,z⟩=>?_]
   . let(s,a1,a2,a3,a4):=Q.1 j ();have a1':sn t.mask h n+rl t.mask h n+1<=s:=a1;show#[s,(),a2,a3,λl h1 h2=>?_];obtain c|c:=Nat.lt_or_ge (sn t.mask h n+rl t.mask h n) l
     . show a4 l c h2
     . obtain⟨W,rfl⟩:∃c,l=sn t.mask h n+c:=#[l-sn t.mask h n,()];rw[G3 t h (show W<=rl t.mask h n by lia)];show N W ()
   . obtain d|d:=Nat.eq_or_lt_of_le a
     . subst d;show absurd z (by have:=N 0 ();show this)
     . let(j,q):=Q.2 #[n',d,(),z];show#[j,by rw[e1]at q;show q]
def Ls{ow:Array (Option Nat)}:Fr ow j ↔ ow[j]?=!J:=by
 show (ow.getD j (!0)).isNone=G ↔ _;rw[Array.getD_eq_getD_getElem?];cases ow[j]? with
 |none=>show#[λh=>(by cases h),λh=>(by cases h)]
 |some x=>
  cases x with
  |none=>show#[λ_=>O,λ_=>O]
  |some y=>show#[λh=>(by cases h),λh=>(by cases h)]
structure OI(t:SetTable)(hs:List Int)(ow:Array (Option Nat))(k:Nat):Prop where
 size: ~~~ow=t.mask+1
 free:∃F:List Nat,F.Nodup/\-F+k=t.mask+1/\∀j,j∈F ↔ ow[j]?=!none
 own:∀i,i<k->∃j:Nat,ow[j]?=!(!i)
 lt:∀(j:Nat) i,ow[j]?=!(!i)->i<k
 uni:∀(j j':Nat) i,ow[j]?=!(!i)->ow[j']?=!(!i)->j=j'
 rch:∀(j:Nat)(i:Nat) h,ow[j]?=!(!i)->hs[i]?=!h->∃n,(de t h n).j=j/\∀l,l<n->ow[(de t h l).j]?≠!none
def OI.start(t:SetTable)(hs:List Int):OI t hs (Array.replicate (t.mask+1) J) 0:=by
 have g:∀j,(Array.replicate (t.mask+1) (J:Option Nat))[j]?=if j<t.mask+1 then !J else J:=λj=>Array.getElem?_replicate
 show#[Array.size_replicate,#[List.range (t.mask+1),List.nodup_range,by rw[ik],λj=>?_],λi h=>absurd h (),λj i e=>?_,λj D i e=>?_,λj i h e=>?_]
 . rw[g,List.mem_range];split
   . rename_i q;show#[λ_=>O,λ_=>q]
   . rename_i q;show#[λz=>absurd z q,λz=>by cases z]
 all_goals
  rw[g]at e;split at e<;>cases e
def OI.step{ow:Array (Option Nat)}(hm:wD (t.mask+1))(D:OI t hs ow k)(hk:k<=t.mask)(hh:hs[k]?=!h):
 ∃j,SetTable.layClean.free t.mask ow (SetTable.turns t.mask) (SetTable.bits h%(t.mask+1)) (SetTable.bits h)=!j/\OI t hs (ow.setIfInBounds j (!k)) (k+1):=by
 let(F,n1,n2,n3):=D.free;obtain⟨Q,W⟩:∃j,j∈F:=by
  cases F with
  |nil=>simp at n2;lia
  |cons a F=>show#[a,ed]
 have Nn:Q<=t.mask:=by
  let e:=(n3 Q).mp W;have:Q< ~~~ow:=by
   obtain c|c:=Nat.lt_or_ge Q ow.size
   . show c
   . rw[kt c]at e;cases e
  rw[D.size]at this;lia
 let(n',m5,No):=Xb hm h Nn;let sp:=Io t ow h (SetTable.turns t.mask) 0;let(j,ej):=sp.2 #[n',gy _,by unfold SetTable.turns;lia,by show Fr ow (lp _ _ _).1;rw[No];show Ls.mpr ((n3 Q).mp W)];let(s,_,r1,r2,r3):=sp.1 j ej;show#[j,ej,?_];let fj:=Ls.mp r2;have lj:j< ~~~ow:=by
  obtain c|c:=Nat.lt_or_ge j ow.size
  . show c
  . rw[kt c]at fj;cases fj
 have g:∀x,(ow.setIfInBounds j (!k))[x]?=if x=j then !(!k) else ow[x]?:=λx=>by
  rw[Array.getElem?_setIfInBounds];split
  . rename_i q;subst q;first |rw[dA O,dA lj] |rw[dA lj,dA O] |rw[dA O]
  . rename_i q;rw[dQ λz=>q z.symm]
 have nn:∀x,ow[x]?≠!J->(ow.setIfInBounds j (!k))[x]?≠!J:=λx q=>by
  rw[g];split
  . intro z;cases z
  . show q
 show#[by rw[Array.size_setIfInBounds];show D.size,#[F.erase j,n1.erase j,?_,λx=>?_],λi hi=>?_,λx i e=>?_,λx x' i e N=>?_,λx i h' e eh=>?_]
 . rw[List.length_erase_of_mem ((n3 j).mpr fj)];lia
 . rw[n1.mem_erase_iff,n3,g];constructor
   . rintro⟨a,b⟩;rw[dQ a];show b
   . intro z;split at z
     . cases z
     . rename_i q;show#[q,z]
 . obtain c|c:=Nat.lt_or_ge i k
   . let(x,ex):=D.own i c;show#[x,?_];rw[g,dQ]
     . show ex
     . intro z;rw[z,fj]at ex;cases ex
   . obtain rfl:i=k:=()
     show#[j,by rw[g,dA O]]
 . rw[g]at e;split at e
   . cases e;show mB _
   . show j3 (D.lt _ _ e)
 . rw[g]at e N;split at e
   . rename_i q;cases e;split at N
     . rename_i q';rw[q,q']
     . show absurd (D.lt _ _ N) ()
   . split at N
     . cases N;show absurd (D.lt _ _ e) ()
     . show D.uni _ _ _ e N
 . rw[g]at e;split at e
   . rename_i q;cases e;rw[hh]at eh;cases eh;show#[s,by rw[q];show r1,λl hl=>nn _ λz=>r3 l (gy _) hl (Ls.mpr z)]
   . let(n,a,b):=D.rch x i h' e eh;show#[n,a,λl hl=>nn _ (b l hl)]
theorem OI.fold{t:SetTable}{hs:List Int}(F:wD (t.mask+1)):∀(dP:List Int)(k:Nat)(ow:Array (Option Nat)),OI t hs ow k->(∀i,dP[i]?=hs[k+i]?)->k+-dP<=t.mask+1->
 ∃q,dP.foldl (λacc h=>do
  let (owner,k) <-acc
  let j <-SetTable.layClean.free t.mask owner (SetTable.turns t.mask) (SetTable.bits h%(t.mask+1)) (SetTable.bits h)
  pure (owner.setIfInBounds j (!k),k+1)) (!(ow,k))=!(q,k+-dP)/\OI t hs q (k+-dP)
 |[]=>λk ow z _ _=>#[ow,O,z]
 |h::dP=>λk ow z e l=>by
  rw[d6]at l
  let(j,Q,O'):=z.step F () (h:=h) (by have:=e 0;simpa using this.symm)
  let(q,N,W):=OI.fold F dP (k+1) _ O' (λi=>by have:=e (i+1);rw[List.getElem?_cons_succ]at this;rw[this];congr 1;lia) ()
  show#[q,?_,by rw[d6,show k+(-dP+1)=k+1+-dP by omega];show W]
  rw[kQ,d6]
  have:k+(-dP+1)=k+1+-dP:=()
  rw[this,<-N]
  congr 1
  show (Option.bind (!(ow,k)) _)=_
  rw[eH]
  dsimp only
  rw[Q]
  rfl
def jg(m:Nat)(ow:Array (Option Nat)):List (Nat×Nat):=(List.range (m+1)).filterMap λj=>(ow.getD j J).map (j,·)
def Xc{m:Nat}{ow:Array (Option Nat)}(hs: ~~~ow=m+1){j i:Nat}:(j,i)∈jg m ow ↔ ow[j]?=!(!i):=by
 unfold jg;rw[ms];constructor
 . rintro⟨a,z,e⟩;rw[Array.getD_eq_getD_getElem?]at e;cases q:ow[a]? with
   |none=>rw[q]at e;cases e
   |some x=>
    rw[q]at e;cases x with
    |none=>cases e
    |some y=>cases e;show q
 . intro e;have l:j< ~~~ow:=by
    obtain c|c:=Nat.lt_or_ge j ow.size
    . show c
    . rw[kt c]at e;cases e
   show#[j,List.mem_range.mpr (),?_];rw[Array.getD_eq_getD_getElem?,e];rfl
def Nw(m:Nat)(ow:Array (Option Nat)):(jg m ow).Pairwise λa b=>a.1<b.1:=by
 unfold jg;show List.Pairwise.filterMap _ (R:=λa b=>a<b) (λa b D x j y i=>?_) List.pairwise_lt_range;have N:x.1=a:=by
  cases q:ow.getD a J with
  |none=>rw[q]at j;cases j
  |some z=>rw[q]at j;cases j;rfl
 have F:y.1=b:=by
  cases q:ow.getD b J with
  |none=>rw[q]at i;cases i
  |some z=>rw[q]at i;cases i;rfl
 rw[N,F];show D
def U4{m f mv:Nat}{Q W:Bool}{D:Array Int}(hm:wD (m+1))(hl: ~~~D<=m):
 ∃pl order,SetTable.laid m f mv Q W D=!(#[m,pl,#[],f,Q,mv,W],order)/\order.toList.Perm (List.range D.size)/\pl.size= ~~~order/\
  sV #[m,pl,#[],f,Q,mv,W] λi=>(order[i]?).bind λk=>D[k]?:=by
 let t:SetTable:=#[m,#[],#[],f,Q,mv,W];let(ow,e,F):=OI.fold (t:=t) (hs:=D.toList) hm D.toList 0 _ (OI.start t _) (λi=>by rw[ke]) (by rw[hY];show _<=m+1;lia);rw[ke]at F e;rw[hY]at F e;have ec:SetTable.layClean m D=!ow:=by unfold SetTable.layClean;rw[<-Array.foldl_toList];show Option.map _ (List.foldl _ (!(Array.replicate (m+1) J,0)) D.toList)=_;let e':=e;show Option.map _ _=_;show(congrArg (Option.map λx:Array (Option Nat)×Nat=>x.1) e').trans O
 let pw:=Nw m ow;have ml:∀{j i:Nat},(j,i)∈jg m ow ↔ ow[j]?=!(!i):=λ{j i}=>Xc F.size;have NA:((jg m ow).map (·.2)).Nodup:=by show List.pairwise_map.mpr (List.Pairwise.imp_of_mem (R:=λa b=>a.1<b.1) (λ{a b} ha hb nY z=>?_) pw);have z1:ow[a.1]?=!(!a.2):=ml.mp ha;have z2:ow[b.1]?=!(!b.2):=ml.mp hb;rw[<-z]at z2;have:=F.uni _ _ _ z1 z2;lia
 have pr:((jg m ow).map (·.2)).Perm (List.range D.size):=by
  show(List.perm_ext_iff_of_nodup NA List.nodup_range).mpr λi=>?_;rw[List.mem_range,fy];constructor
  . rintro⟨x,hx,rfl⟩;show F.lt _ _ (ml.mp hx)
  . intro hi;let(j,ej):=F.own i hi;show#[(j,i),ml.mpr ej,O]
 have N:∀{i:Nat}{j:Nat},(((jg m ow).map (·.1)).toArray)[i]?=!j->∃k,(jg m ow)[i]?=!(j,k):=λ{i j} q=>by
  rw[List.getElem?_toArray,fI]at q;cases z:(jg m ow)[i]? with
  |none=>rw[z]at q;cases q
  |some x=>rw[z]at q;cases q;show#[x.2,O]
 have rs:Fe ((jg m ow).map (·.1)).toArray:=λa b x y nY ex ey=>by let(k1,e1):=N ex;let(k2,e2):=N ey;let(l1,q1):=fS.mp e1;let(l2,q2):=fS.mp e2;have:=List.pairwise_iff_getElem.mp pw a b l1 l2 nY;rw[q1,q2]at this;show this
 show#[((jg m ow).map (·.1)).toArray,((jg m ow).map (·.2)).toArray,?_,by simpa using pr,by simp,#[hm,O,rs,λi j q=>?_,?_,λi j h q eh=>?_]]
 . unfold SetTable.laid;rw[ec];rfl
 . let(k,ek):=N q;let z:=ml.mp (g7 ek);obtain c|c:=Nat.lt_or_ge j ow.size
   . have:= ~~~F;show j<=m;have: ~~~ow=m+1:= ~~~F;lia
   . rw[kt c]at z;cases z
 . have:=pr.length_eq;rw[eI,ik]at this;show ((jg m ow).map (·.1)).toArray.size<=m;simp[this];show hl
 . let(k,ek):=N q;let z:=ml.mp (g7 ek);have eo:(((jg m ow).map (·.2)).toArray)[i]?=!k:=by rw[List.getElem?_toArray,fI,ek];rfl
   rw[eo]at eh;have t9:D.toList[k]?=!h:=by rw[Array.getElem?_toList];show eh
   let(n,r1,r2):=F.rch j k h z t9;have rc:∀x,de #[m,((jg m ow).map (·.1)).toArray,#[],f,Q,mv,W] h x=de t h x:=λx=>t8 (t:=#[m,((jg m ow).map (·.1)).toArray,#[],f,Q,mv,W]) (t':=t) O h x;show#[n,by rw[rc];show r1,λl NC=>?_];rw[rc];intro em;let ND:=(pN (t:=#[m,((jg m ow).map (·.1)).toArray,#[],f,Q,mv,W]) rs O).mp em;have le:(de t h l).j<=m:=by have:=GZ t h l;have e:t.mask=m:=O;lia
   have lt:(de t h l).j< ~~~ow:=by have: ~~~ow=m+1:= ~~~F;lia
   have eg:ow[(de t h l).j]?=some ow[(de t h l).j]:=Array.getElem?_eq_getElem lt;cases q3:ow[(de t h l).j] with
   |none=>rw[q3]at eg;show r2 l NC eg
   |some i3=>
    rw[q3]at eg;let(i4,e4):=List.getElem?_of_mem (ml.mpr eg);show ND i4 (by show (((jg m ow).map (·.1)).toArray)[i4]?=_;rw[List.getElem?_toArray,fI,e4];rfl)
section
variable {prog:Program}{w:World}{A:Around}{E:Value->Shared->Prop}{s:Shared}{K:Type}[DecidableEq K]{knd:HeapKind prog w K}
structure EH(knd:HeapKind prog w K)(h:Heap)(es:Array (Int×Value))(ks:List K):Prop where
 sz: ~~~es=-ks
 at_:∀(i:Nat)(e:Int×Value),es[i]?=!e->∃k b,ks[i]?=!k/\e=(knd.hash k,.ref b)/\knd.is h k b
def wH(es:Array (Int×Value))(i:Nat):Option Int:=(es[i]?).map (·.1)
def vK(knd:HeapKind prog w K):Prop:=∀{A:Around}{E:Value->Shared->Prop}{s:Shared}{k:K}{a:Addr}{Q:Bool->Shared->Prop},knd.is s.heap k a->Q M s->wpAny (model prog w) A (ofAClassStatement 8 (YV a)) Q E s
def NF(D:vK knd){x:K}{b:Addr}(z:knd.is s.heap x b){Q:Bool->Shared->Prop}(h:Q M s):∀(vs:List Value),(∀v∈vs,∃k c,v=YV c/\knd.is s.heap k c)->
 wpAny (model prog w) A (searchCouldBeSeen (YV b) vs) Q E s:=by
 intro vs W;unfold searchCouldBeSeen;show da (wpAny_forIn_list _ (λdP r s'=>r.1=J/\s'=s/\∀v∈dP,∃k c,v=YV c/\knd.is s.heap k c) _ ?_ ?_ _ _ #[O,O,W])
 . intro v dP r s' q0;let(j,rfl,i):=q0;let(k,c,rfl,hk):=i v ed;have q:∀{F:Option Bool×PUnit},F.1=J->(F.1=J/\s'=s'/\∀v∈dP,∃k c,v=Value.ref c/\knd.is s'.heap k c):=λe=>#[e,O,λu N=>i u (e_ _ N)];dsimp only;split
   . show d0 (q O)
   . show da (knd.quiet z ?_);simp only[Bool.not_true,hG,if_false];show da (knd.quiet hk ?_);simp only[Bool.not_true,hG,if_false];show da (D z ?_);simp only[hG,if_false];show da (D hk ?_);simp only[hG,if_false];show d0 (q O)
 . rintro⟨r1,r2⟩ s' ⟨j,rfl,_⟩;simp only at j;subst j;show d0 h
def Ox{c:Addr}{Q:Bool->Shared->Prop}(h:Q G s):wpAny (model prog w) A (isSame (YV c) (YV c)) Q E s:=by unfold isSame;dsimp only;rw[dA (kg c)];show d0 h
def NG{t:SetTable}(i:wD (t.mask+1)):t.gaveWay=M:=by
 unfold SetTable.gaveWay;have:t.mask%2=1:=by rcases i with e|e|e|e|e|e<;>lia
 rw[this];rfl
theorem Ip(nc:vK knd){a b:Addr}{o:Obj}{es:Array (Int×Value)}{ep KK:Nat}{t:SetTable}{ks:List K}{x:K}{Q:SetFound->Shared->Prop}(hr:knd.room A)(ho:s.heap.get? a=!o)(hd:o.data=.set es ep t)(D:t.fits es.size=G)
 (W:EH knd s.heap es ks) (T:sV t (wH es)) (hx:knd.is s.heap x b) (f:wF t (knd.hash x) KK) (hK:KK<10*SetTable.turns t.mask) (q1:x∈ks->Q (.there J) s) (q2:x∉ks->Q (.free (de t (knd.hash x) KK).j M) s):
 ∀(q k:Nat)(st:Option SetTable.Probe),st.getD (t.probeStart (knd.hash x))=de t (knd.hash x) k->k<=KK->KK-k<q->(∀l,l<k->∀i,t.slot (de t (knd.hash x) l).j=.live i->ks[i]?≠!x)->
  wpAny (model prog w) A (setSearchFrom a (YV b) (knd.hash x) G q st) Q E s
 |0=>λk st _ _ h3 _=>absurd h3 (Nat.not_lt_zero _)
 |q+1=>λk st h1 h2 h3 h4=>by
  unfold setSearchFrom;show da (wpAny_setState_of ho hd D ?_);dsimp only;rw[NG T.msz];simp only[hG,if_false];rw[h1];unfold SetTable.probe;generalize hg:SetTable.probe.go t _ (knd.hash x) (10*SetTable.turns t.mask) (de t (knd.hash x) k)=g;obtain⟨l,i,a1,a2,a3,a4,a5,a6⟩|⟨a1,a2⟩:=Qt (hashAt:=λi=>((es[i]?).map (·.1)).getD 0) (Qu T.nod) f (10*SetTable.turns t.mask) k h2 ()
  . obtain rfl:g=_:=hg.symm.trans a5;dsimp only;have pi:t.place[i]?=!(de t (knd.hash x) l).j:=Im a3;have li:i< ~~~es:=by
     obtain c|c:=Nat.lt_or_ge i t.place.size
     . have: ~~~t.place= ~~~es:=by unfold SetTable.fits at D;simp at D;show D.1
       lia
     . rw[kt c]at pi;cases pi
    have F:es[i]?=some es[i]:=Array.getElem?_eq_getElem li;let(y,c,e1,e2,e3):=W.at_ i _ F;rw[e2]at F;have sv:∀v∈(es.filter λe=>e.1==knd.hash x).toList.map (·.2),∃k c,v=Value.ref c/\knd.is s.heap k c:=λv hv=>by let(e,he,rfl):=fy.mp hv;let(N,nN,rfl):=Array.mem_iff_getElem.mp (Array.mem_of_mem_filter (Array.mem_toList_iff.mp he));let(y',c',f1,f2,f3):=W.at_ N _ (Array.getElem?_eq_getElem nN);show#[y',c',by rw[f2],f3]
    cases hl:t.led
    case' false=>
     simp only[Bool.not_false,if_true];show da (NF nc hx ?_ _ sv);simp only[hG,if_false]
    case' true=>
     simp only[Bool.not_true,hG,if_false]
    all_goals
     rw[F];dsimp only;show da (wpAny_holding (knd.eqBool hr e3 hx ?_));show da (wpAny_setState_of ho hd D ?_);dsimp only;by_cases hy:y=x
     . rw[kR hy];simp only[Bool.and_true,if_true];show d0 (q1 (hy▸g7 e1))
     . rw[kf hy];simp only[Bool.and_false,hG,if_false];have sm:t.sameMemory t.moves t.mask=!G:=by unfold SetTable.sameMemory;rw[dA (kg _)]
       rw[sm];simp only[if_true];rw[a3];dsimp only;rw[F];dsimp only;show da (Ox ?_);show da (d0 ?_);simp only[if_true];show Ip nc hr ho hd D W T hx f hK q1 q2 q (l+1) _ O a2 () λl' pV N e'=>?_;obtain c1|c1:=Nat.lt_or_ge l' k
       . show h4 l' c1 N e'
       . obtain c2|c2:=Nat.lt_or_ge l' l
         . intro z;have t_:N< ~~~es:=by
            rw[W.sz];obtain c3|c3:=Nat.lt_or_ge N (-ks)
            . show c3
            . rw[nr c3]at z;cases z
           have ee:es[N]?=some es[N]:=Array.getElem?_eq_getElem t_;let(y',c',f1,f2,f3):=W.at_ N _ ee;rw[z]at f1;cases f1;show a6 l' c1 c2 N e' (by rw[ee,f2];rfl)
         . obtain rfl:l'=l:=()
           rw[a3]at e';cases e';rw[e1];show λz=>hy (gt z)
  . obtain rfl:g=_:=hg.symm.trans a2;dsimp only;show d0 (q2 λhm=>?_);let(i,F):=List.getElem?_of_mem hm;have li:i< ~~~es:=by
     rw[W.sz];obtain c|c:=Nat.lt_or_ge i (-ks)
     . show c
     . rw[nr c]at F;cases F
    have ee:es[i]?=some es[i]:=Array.getElem?_eq_getElem li;let(y,c,e1,e2,e3):=W.at_ i _ ee;rw[F]at e1;cases e1;have hp:i< ~~~t.place:=by
     have: ~~~t.place= ~~~es:=by unfold SetTable.fits at D;simp at D;show D.1
     lia
    have lS:t.place[i]?=some t.place[i]:=Array.getElem?_eq_getElem hp;have t9:wH es i=!(knd.hash x):=by unfold wH;rw[ee,e2];rfl
    let(l,hl,e4,e5):=T.ahead f lS t9;obtain c|c:=Nat.lt_or_ge l k
    . show h4 l c i e5 F
    . show a1 l c hl i e5 (by rw[ee,e2];rfl)
end
def sV.congr(T:sV t hs)(D:t'.mask=t.mask)(z:t'.place=t.place)(N:t'.dummies=t.dummies)(Q:∀i,jv i=hs i):sV t' jv:=by
 have sl:∀j,t'.slot j=t.slot j:=λj=>by unfold SetTable.slot;rw[z,N]
 show#[by rw[D];show T.msz,by rw[N];show T.nod,by rw[z];show T.ris,λi j e=>?_,by rw[D,z];show T.room,λi j h e q=>?_]
 . rw[z]at e;rw[D];show T.bnd i j e
 . rw[z]at e;rw[Q]at q;let(n,a,b):=T.rch i j h e q;let F:=λn=>t8 D h n;show#[n,by rw[F];show a,λl W=>by rw[F,sl];show b l W]
theorem Ff{α β:Type}{f:α->Option β}:∀{l:List α},(∀x∈l,∃y,f x=!y)->∀i:Nat,(l.filterMap f)[i]?=(l[i]?).bind f
 |[]=>λ_ i=>by simp
 |x::l=>λh i=>by
  let(y,e):=h x ed;rw[List.filterMap_cons_some e];cases i with
  |zero=>simp[e]
  |succ i=> show Ff (λz j=>h z (e_ _ j)) i
theorem uM{α β:Type}{f:α->Option β}:∀{l:List α},(∀x∈l,∃y,f x=!y)->-(l.filterMap f)=-l
 |[]=>λ_=>rfl
 |x::l=>λh=>by let(y,e):=h x ed;rw[List.filterMap_cons_some e,d6,d6,uM λz i=>h z (e_ _ i)]
def Xd{β:Type}(l:List β):(List.range (-l)).filterMap (λi=>l[i]?)=l:=by
 show List.ext_getElem? λi=>?_;rw[Ff λx j=>?_]
 . obtain c|c:=Nat.lt_or_ge i (-l)
   . rw[List.getElem?_range c];rfl
   . rw[nr ∅,nr c];rfl
 . rw[List.mem_range]at j;show#[l[x],gz j]
section
variable {prog:Program}{w:World}{A:Around}{E:Value->Shared->Prop}{s:Shared}{K:Type}[DecidableEq K]{knd:HeapKind prog w K}
structure qT(knd:HeapKind prog w K)(h:Heap)(a:Addr)(es:Array (Int×Value))(ep:Nat)(t:SetTable)(led:Bool)(ks:List K):Prop extends lZ h a es ep t led where
 el:EH knd h es ks
 nd:ks.Nodup
 ti:sV t (wH es)
 nf: ~~~t.place*5<t.mask*3
def yh(knd:HeapKind prog w K):Prop:=∀{h h':Heap}{k:K}{b d:Addr}{o:Obj}{es:Array (Int×Value)}{ep:Nat}{t:SetTable},knd.is h k b->h.get? d=!o->o.data=.set es ep t->Heap.SameBut d h h'->knd.is h' k b
def Bo(knd:HeapKind prog w K)(ok:K->Prop):Prop:=∀{A:Around}{E:Value->Shared->Prop}{s:Shared}{k:K}{a:Addr}{Q:Bool->Shared->Prop},ok k->knd.is s.heap k a->Q M s->wpAny (model prog w) A (hashByValue 8 (YV a)) Q E s
def EH.ins(e:EH knd h es ks)(D:p<= ~~~es)(F:knd.is h x b):EH knd h (SetTable.insertAt es p (knd.hash x,YV b)) (SetTable.insertAt ks.toArray p x).toList:=by
 have z:p<= ~~~ks.toArray:=by rw[gX,<-e.sz];show D
 show#[by simp only[n6,hY,gX,e.sz],λi y q=>?_];rw[Array.getElem?_toList,iC _ z];rw[iC _ D]at q;split
 . rename_i c;rw[dA c]at q;rw[List.getElem?_toArray];show e.at_ i y q
 . rename_i c;rw[dQ c]at q;split
   . rename_i j;rw[dA j]at q;cases q;show#[x,b,O,O,F]
   . rename_i j;rw[dQ j]at q;rw[List.getElem?_toArray];show e.at_ _ y q
def Xe(ks:List α)(p:Nat)(x:α):(SetTable.insertAt ks.toArray p x).toList.Perm (x::ks):=by rw[tM];show gW.trans ?_;rw[List.take_append_drop]
def NH(j:p<= ~~~es)(e:Int×Value)(i:Nat):wH (SetTable.insertAt es p e) i=Lr (wH es) p e.1 i:=by
 unfold wH Lr;rw[iC _ j];split
 . rfl
 . split<;>rfl
def EH.keep(kp:yh knd)(e:EH knd h es ks)(j:h.get? a=!o)(F:o.data=.set es0 ep t)(D:Heap.SameBut a h h'):EH knd h' es ks:=
 #[e.sz,λi y q=>by let(k,b,Q,z,N):=e.at_ i y q;show#[k,b,Q,z,kp N j F D]]
def n4(i:wD (m+1))(h1:n*5<m*3)(h2:m*3<=(n+1)*5)(j:n+1<19000):wD (SetTable.sizeAbove (SetTable.grown (n+1))-1+1)/\4*(n+1)<=SetTable.sizeAbove (SetTable.grown (n+1))-1/\SetTable.sizeAbove (SetTable.grown (n+1))<=32768:=by
 obtain e|e|e|e|e|e|e:=i
 . obtain rfl:n=4:=()
   show#[YY (Zl O),by decide,by decide]
 . obtain rfl:n=18:=()
   show#[YY (YY (Zl O)),by decide,by decide]
 . obtain rfl:n=76:=()
   show#[YY (YY (YY (Zl O))),by decide,by decide]
 . obtain rfl:n=306:=()
   show#[YY (YY (YY (YY (Zl O)))),by decide,by decide]
 . obtain rfl:n=1228:=()
   show#[YY (YY (YY (YY (YY (Zl O))))),by decide,by decide]
 . obtain rfl:n=4914:=()
   show#[YY (YY (YY (YY (YY (YY O))))),by decide,by decide]
 . lia
def EH.order(e:EH knd h es ks){o:Array Nat}(D:o.toList.Perm (List.range es.size)):
 ∃j,EH knd h (o.filterMap (es[·]?)) j/\j.Perm ks/\(o.filterMap (es[·]?)).size= ~~~es/\∀i,wH (o.filterMap (es[·]?)) i=(o[i]?).bind λk=>(es.map (·.1))[k]?:=by
 have z:∀k∈o.toList,k< ~~~es:=λk hk=>List.mem_range.mp ∅;have F:∀k∈o.toList,∃y,es[k]?=!y:=λk hk=>#[es[k]'(z k hk),Array.getElem?_eq_getElem (z k hk)];have Q:∀k∈o.toList,∃y,ks[k]?=!y:=λk hk=>#[ks[k]'(by rw[<-e.sz];show z k hk),gz _];have tl:(o.filterMap (es[·]?)).toList=o.toList.filterMap (es[·]?):=Array.toList_filterMap;have W:∀i:Nat,(o.filterMap (es[·]?))[i]?=(o[i]?).bind (es[·]?):=λi=>by rw[<-Array.getElem?_toList,tl,Ff F,Array.getElem?_toList]
 have ln: ~~~(o.filterMap (es[·]?))= ~~~es:=by rw[<-hY,tl,uM F,D.length_eq,ik]
 show#[o.toList.filterMap (ks[·]?),#[?_,λi y q=>?_],?_,ln,λi=>?_]
 . rw[ln,uM Q,D.length_eq,ik]
 . rw[W]at q;rw[Ff Q,Array.getElem?_toList];cases N:o[i]? with
   |none=>rw[N]at q;cases q
   |some k=>
    rw[N]at q;show e.at_ k y q
 . have:=D.filterMap (ks[·]?);rw[e.sz,Xd]at this;show this
 . unfold wH;rw[W];cases o[i]? with
   |none=>rfl
   |some k=>show Option.map _ (es[k]?)=(es.map (·.1))[k]?;rw[Array.getElem?_map]
def NI(nc:vK knd)(kp:yh knd)(bt:Bo knd ok)(hr:knd.room A)(S:qT knd s.heap a es ep t led ks)(room: ~~~es+1<kY)(hx:knd.is s.heap x b)(NJ:ok x)
 (h:∀r h' W lS t' qk,Heap.SameBut a s.heap h'->qT knd h' a W lS t' led qk->(∀y,y∈qk ↔ y∈ks\/y=x)-> ~~~W<= ~~~es+1->Q r { s with heap:=h' }):
 wpAny (model prog w) A (setAddHashed a (YV b) (knd.hash x)) Q E s:=by
 unfold setAddHashed setAddHashedIn
 show wpAny_holding (da (wpAny_setState_of S.at_ O S.fits ?_))
 dsimp only
 have bs:byScan (YV b) es=M:=by unfold byScan;rfl
 rw[bs]
 simp only[hG]
 let(F,hK,f):=S.ti.first (knd.hash x)
 have tm:t.mask<=32767:=by rcases S.ti.msz with e|e|e|e|e|e|e<;>lia
 have ps: ~~~t.place= ~~~es:=by have:=S.fits;unfold SetTable.fits at this;simp at this;show this.1
 let nf:=S.nf
 unfold setSearch
 show da (Ip nc hr S.at_ O S.fits S.el S.ti hx f (by unfold SetTable.turns;have:=S.ti.room;lia) ?_ ?_ 100000 0 J O (gy _) (by have:kY=9900:=O;lia) (λl hl=>absurd hl (Nat.not_lt_zero _)))
 . intro hm
   dsimp only
   show d0 (h M s.heap es ep t ks (Heap.SameBut.refl a s.heap) S (λy=>#[Zl,λq=>q.elim id λq=>q▸hm]) (ox _))
 . intro hm
   dsimp only
   show da (wpAny_setState_of S.at_ O S.fits ?_)
   dsimp only
   let pp:=U3_ S.ti.nod (de t (knd.hash x) F).j
   rw[pp.1,pp.2]
   let(b1,b2,b3):=ud S.ti.ris (de t (knd.hash x) F).j
   let TP:=S.ti.put f (by have:=S.ti.msz;rcases this with e|e|e|e|e|e<;>lia)
   have D: ~~~(SetTable.insertAt es (SetTable.below t.place (de t (knd.hash x) F).j) (knd.hash x,Value.ref b))= ~~~es+1:=n6 _ _ _
   let ei:=S.el.ins (p:=SetTable.below t.place (de t (knd.hash x) F).j) () hx
   have AB:∀i,wH (SetTable.insertAt es (SetTable.below t.place (de t (knd.hash x) F).j) (knd.hash x,Value.ref b)) i=Lr (wH es) (SetTable.below t.place (de t (knd.hash x) F).j) (knd.hash x) i:=λi=>NH () _ i
   have qo: ~~~(SetTable.insertAt t.place (SetTable.below t.place (de t (knd.hash x) F).j) (de t (knd.hash x) F).j)= ~~~es+1:=by rw[n6,ps]
   let pm:=Xe ks (SetTable.below t.place (de t (knd.hash x) F).j) x
   generalize (SetTable.insertAt ks.toArray (SetTable.below t.place (de t (knd.hash x) F).j) x).toList=AC at ei pm
   generalize SetTable.insertAt es (SetTable.below t.place (de t (knd.hash x) F).j) (knd.hash x,Value.ref b)=iE at D ei AB ⊢
   generalize hP:SetTable.insertAt t.place (SetTable.below t.place (de t (knd.hash x) F).j) (de t (knd.hash x) F).j=P at TP qo ⊢
   have mem1:∀y,y∈AC ↔ y∈ks\/y=x:=λy=>by rw[pm.mem_iff,d5];show Or.comm
   let AD:=pm.nodup_iff.mpr (ip.mpr #[hm,S.nd])
   have fin:∀z:SetTable,z.mask=t.mask->z.place=P->z.dummies=t.dummies->z.led=t.led->z.plain=M->wpAny (model prog w) A (do
    storeSet a iE z
    if (not M&&z.tooFull)=G then do
     setRelay a (SetTable.grown (~~~es+1))
     pure G
     else pure G) Q E s:=by
    intro z m2 p2 d2 l2 n2
    let T2:=TP.congr m2 p2 d2 AB
    have bb: ~~~iE<kY:=by rw[D];show room
    show da (wpAny_storeSet_of S.at_ O ?_ (Bk bb))
    let g1:=Ex (es':=iE) (t':=z) S.at_
    let nh:=lh s.heap a (Obj.putSet iE z)
    let ek:=ei.keep kp S.at_ O nh
    have fl:z.fill= ~~~es+1:=by unfold SetTable.fill;rw[p2,qo,d2,S.ti.nod];rfl
    have ft:z.fits iE.size=G:=by
     unfold SetTable.fits
     rw[fl,p2,qo,D,m2]
     have: ~~~es+1<=t.mask:=by have:=S.ti.msz;rcases this with e|e|e|e|e|e<;>lia
     simp[this]
    split
    . rename_i N
      have NL:t.mask*3<=(~~~es+1)*5:=by
       rw[Bool.not_false,Bool.true_and]at N
       unfold SetTable.tooFull at N
       rw[fl,m2]at N
       simpa using N
      let(NM,gr2,gr3):=n4 S.ti.msz (by rw[<-ps];show nf) NL (by have:kY=9900:=O;lia)
      have hz: ~~~(iE.map (·.1))<=SetTable.sizeAbove (SetTable.grown (~~~es+1))-1:=by rw[Array.size_map,D];lia
      let(pl,o,e1,e2,e3,e4):=U4 NM hz
      have er:z.relaid (iE.map (·.1)) (SetTable.grown (~~~es+1))=_:=e1
      rw[Array.size_map]at e2
      let(NN,k1,k2,k3,k4):=ek.order e2
      show da ?_
      unfold setRelay
      show da (wpAny_setState_of g1 O ft ?_)
      dsimp only
      rw[dQ (by rw[sizeLine_eq];lia)]
      rw[er]
      show da (m:=(if (o.filterMap (iE[·]?)).size != ~~~iE then unsupported "internal:set-table-lost-an-element" else pure (o.filterMap (iE[·]?),_))) ?_
      rw[dQ (by rw[k3];simp)]
      show d0 ?_
      dsimp only
      have AG: ~~~(o.filterMap (iE[·]?))<kY:=by rw[k3];show bb
      show wpAny_storeSet_of g1 O ?_ (Bk AG)
      let g2:=Ex (es':=o.filterMap (iE[·]?)) (t':=#[SetTable.sizeAbove (SetTable.grown (~~~es+1))-1,pl,#[],z.finger,z.led,z.movedTo (SetTable.sizeAbove (SetTable.grown (~~~es+1))-1),z.plain]) g1
      let AH:=lh (s.heap.update a (Obj.putSet iE z)) a (Obj.putSet (o.filterMap (iE[·]?)) #[SetTable.sizeAbove (SetTable.grown (~~~es+1))-1,pl,#[],z.finger,z.led,z.movedTo (SetTable.sizeAbove (SetTable.grown (~~~es+1))-1),z.plain])
      have os: ~~~o= ~~~es+1:=by rw[<-hY,e2.length_eq,ik,D]
      have zs: ~~~(o.filterMap (iE[·]?))= ~~~es+1:=by rw[k3,D]
      show d0 (h G _ (o.filterMap (iE[·]?)) _ _ NN (nh.trans AH) #[#[g2,AG,?_,l2.trans S.led,λ_=>n2],k1.keep kp g1 O AH,k2.nodup_iff.mpr AD,e4.congr O O O k4,?_] (λy=>by rw[k2.mem_iff];show mem1 y) ())
      . unfold SetTable.fits SetTable.fill
        show (~~~pl==_&&decide (~~~pl+0<=_))=G
        rw[zs,e3,os]
        simp
        lia
      . show pl.size*5<(SetTable.sizeAbove (SetTable.grown (~~~es+1))-1)*3
        rw[e3,os]
        lia
    . rename_i N
      show d0 (h G _ iE _ z AC nh #[#[g1,bb,ft,l2.trans S.led,λ_=>n2],ek,AD,T2,?_] mem1 ())
      rw[Bool.not_false,Bool.true_and]at N
      unfold SetTable.tooFull at N
      rw[fl]at N
      rw[p2,qo]
      have:¬ (z.mask*3<=(~~~es+1)*5):=by simpa using N
      lia
   split
   . show da (bt NJ hx ?_)
     simp only[hG,if_false]
     show fin _ O O O O O
   . rename_i np
     show da (d0 ?_)
     simp only[if_true]
     show fin _ O O O O (by simpa using np)
end
section
variable {prog:Program}
def Oz{K:Type}[DecidableEq K]{knd:PySem.KeyKind prog w K}:yh (tupleKind knd):=by
 intro h h' k b d o es N t x D z hs;let(o',items,n,i,F,j,hi):=x;have q:b≠d:=λe=>by rw[e,D]at i;cases i;rw[z]at j;cases j
 show#[o',items,n,(hs.2 b q).trans i,F,j,hi]
def OD(n:Nat)(h:carriedByValue v=G):ofAClassStatement n v=pure M:=by cases v<;>first |(unfold ofAClassStatement;rfl) |cases h
def OJ{K:Type}[DecidableEq K]{knd:PySem.KeyKind prog w K}:vK (tupleKind knd):=by
 intro A E s k a Q hk h;let F:=hk.typeIs;let(o,items,n,D,_,z,hi):=hk;unfold ofAClassStatement;show da (wpAny_typeOf F ?_);show da (d0 ?_);show da (wpAny_seqItems D z ?_);show da ?_;rw[<-Array.forIn_toList];show wpAny_forIn_list _ (λdP r s'=>r.1=J/\s'=s/\∀v∈dP,carriedByValue v=G) _ ?_ ?_ _ _ #[O,O,hi.byValue]
 . intro v dP r s' q0;let(q,rfl,i):=q0;rw[OD _ ∅];show d0 #[O,O,λu j=>i u (e_ _ j)]
 . rintro⟨N,W⟩ s' ⟨q,rfl,_⟩;subst q;show d0 h
def uN(ks:List aV):Prop:=∃x:Str,some (Sum.inr x)∈ks
def O1:Bo (tupleKind (eV prog w)) uN:=by
 intro A E s k a Q N hk h;let hT:=hk.typeIs;let(o,items,n,ho,_,hd,hi):=hk;show da (wpAny_specialOf hT F.slot_tuple_hash.lookup ?_);show da (wpAny_seqItems ho hd ?_);show da ?_;rw[<-Array.forIn_toList];show wpAny_forIn_list _ (λdP r s'=>s'=s/\r.1=J/\∃ks,uN ks/\ItemsAre (eV prog w) ks dP) _ ?_ ?_ _ _ #[O,O,k,N,hi]
 . intro v dP r s' q0;let(rfl,hr,ks,(x,hx),W):=q0;cases W with
   |cons q D=>
    rename_i k0 j;have go:k0≠!(Sum.inr x)->uN j:=λne=>#[x,(d5.mp hx).resolve_left λe=>ne e.symm];obtain⟨rfl,rfl⟩|⟨y,rfl,hy⟩:=fH q
    . show d0 #[O,O,j,go (λe=>by cases e),D]
    . obtain⟨i,u,rfl,rfl⟩|⟨z,u,rfl,rfl⟩:=dB hy
      . show d0 #[O,O,j,go (λe=>by cases e),D]
      . show d0 (d0 h)
 . rintro⟨r1,r2⟩ s' ⟨rfl,hr,ks,⟨x,hx⟩,W⟩;cases W;cases hx
end
def Lw{prog:Program}{K:Type}[DecidableEq K](knd:HeapKind prog w K):Prop:=∀{h h':Heap}{k:K}{b:Addr},knd.is h k b->(∀o,h.get? b=!o->h'.get? b=!o)->knd.is h' k b
def Ad{K:Type}[DecidableEq K]{knd:PySem.KeyKind prog w K}:Lw (tupleKind knd):=by intro h h' k b x q;let(o,items,n,i,z,j,hi):=x;show#[o,items,n,q o i,z,j,hi]
theorem qT.moved{K:Type}[DecidableEq K]{knd:HeapKind prog w K}{ks:List K}(S:qT knd h a es ep t led ks)(k:∀o,h.get? a=!o->h'.get? a=!o)
 (F:∀x∈ks,∀b,knd.is h x b->knd.is h' x b):qT knd h' a es ep t led ks:=
 #[S.1.moved k,#[S.el.sz,λi y q=>by let(x,b,j,z,D):=S.el.at_ i y q;show#[x,b,j,z,F x (g7 j) b D]],S.nd,S.ti,S.nf]
def Bp{prog:Program}{K:Type}[DecidableEq K](knd:HeapKind prog w K)(g:Addr->Prop):HeapKind prog w K where
 is:=λh k b=>knd.is h k b/\g b
 hash:=knd.hash
 draws:=knd.draws
 room:=knd.room
 inj:=λx y=>knd.inj x.1 y.1
 keeps:=λx a b c=>#[knd.keeps x.1 a b c,x.2]
 pyHash:=λr x q=>knd.pyHash r x.1 q
 eqBool:=λr x y q=>knd.eqBool r x.1 y.1 q
 quiet:=λx q=>knd.quiet x.1 q
section
variable {prog:Program}{w:World}{K:Type}[DecidableEq K]{knd:HeapKind prog w K}{g:Addr->Prop}
def NO(i:vK knd):vK (Bp knd g):=λx q=>i x.1 q
def NR(kp:yh knd):yh (Bp knd g):=λx a b c=>#[kp x.1 a b c,x.2]
def NS(bt:Bo knd ok):Bo (Bp knd g) ok:=λo x q=>bt o x.1 q
def qT.un(S:qT (Bp knd g) h a es ep t led ks):qT knd h a es ep t led ks:=
 #[S.1,#[S.el.sz,λi y q=>by let(x,b,D,j,z):=S.el.at_ i y q;show#[x,b,D,j,z.1]],S.nd,S.ti,S.nf]
end
theorem sV.fresh:sV (SetTable.fresh f m l) (wH #[]):=by
 show#[Zl O,O,λa b x y _ e=>?_,λi j e=>?_,gy _,λi j h e=>?_]
 all_goals
  have q:(#[]:Array Nat)[_]?=!_:=e;simp at q
section
variable {prog:Program}{w:World}{A:Around}{E:Value->Shared->Prop}{s:Shared}{K:Type}[DecidableEq K]{knd:HeapKind prog w K}
def Xf(nc:vK knd)(kp:yh knd)(oo:Lw knd){ok:K->Prop}(bt:Bo knd ok)(AI:knd.room A.in1.in1.in1){l:Addr}{items:Array Value}{ad:Nat->Addr}{val:Nat->K}{Q:Value->Shared->Prop}(hh:A.handled=J)(hl:s.heap.IsList l items)(hi:∀(i:Nat)(v:Value),items[i]?=!v->v=Value.ref (ad i))(hk:∀i,i< ~~~items->knd.is s.heap (val i) (ad i)/\(∃o,s.heap.get? (ad i)=!o)/\ok (val i))(hb: ~~~items+1<kY)
 (h:∀(h':Heap)(tk:Nat) es ep t ks,qT knd h' s.heap.objs.size es ep t (not (byText w)) ks->(∀y,y∈ks ↔ ∃j,j< ~~~items/\val j=y)-> ~~~es<= ~~~items->(∀b o,b< ~~~s.heap.objs->s.heap.get? b=!o->h'.get? b=!o)->Q (YV s.heap.objs.size) { s with heap:=h',toks:=tk }) :
 wpAny (model prog w) A (call (.type "set") [YV l]) Q E s:=by
 show set_of_G (T:=λi h=>(∀j,j< ~~~items->knd.is h (val j) (ad j))/\∃es ep t ks,qT (Bp knd (·< ~~~s.heap.objs)) h s.heap.objs.size es ep t (not (byText w)) ks/\(∀y,y∈ks ↔ ∃j,j<i/\val j=y)/\es.size<=i) hh hl ?_ ?_ ?_ ?_
 . intro h' g k
   show#[λj hj=>oo (hk j hj).1 λo=>k _ o,_,_,_,_,#[#[g,by decide,O,O,λq=>by simp at q],#[O,λi e q=>by simp at q],List.nodup_nil,sV.fresh,(by decide:0*5<7*3)],by simp,eK _]
 . intro i h h' q k
   let(iv,es,ep,t,ks,S,r):=q
   have kk:∀b o,b< ~~~s.heap.objs->h.get? b=!o->h'.get? b=!o:=λb o l=>k b o (ga (j3 l))
   show#[λj hj=>oo (iv j hj) λo=>kk _ o (by let(_,(o,q),_):=hk j hj;show eP q),es,ep,t,ks,S.moved (h':=h') (λo=>k _ o (ga (mB _))) λx hx b y=>#[oo y.1 λo=>kk b o y.2,y.2],r]
 . intro i v s' Q E lt e q k
   let(iv,es,ep,t,ks,S,m,z):=q
   obtain rfl:=hi i v e
   unfold setAdd
   show wpAny_holding (da (knd.pyHash AI (iv i lt) ?_))
   have la:∀j,j< ~~~items->ad j< ~~~s.heap.objs:=λj hj=>by let(_,(o,q),_):=hk j hj;show eP q
   show NI (knd:=Bp knd (·< ~~~s.heap.objs)) (s:={ s' with toks:=s'.toks+knd.draws (val i) }) (NO nc) (NR kp) (NS bt) AI S (()) (x:=val i) #[iv i lt,la i lt] (hk i lt).2.2 λb h' es' lS t' qk sb S2 m2 z2=>k b h' _ sb #[λj hj=>oo (iv j hj) λo q=>?_,es',lS,t',qk,S2,mem_step m m2,()]
   rw[sb.2 (ad j) (ga (la j hj))]
   show q
 . intro h' tk q k
   let(iv,es,ep,t,ks,S,m,z):=q
   show h h' tk es ep t ks S.un m z k
end
end L2
namespace L2
open PySem PySem.Spec PyProof.Rows PySem.W
noncomputable def eL:aV->List Int
 |none=>[2]
 |some (.inl i)=>[0,i]
 |some (.inr x)=>1::x.cps.toList.map Int.ofNat
abbrev TC:=List (List Int)
@[reducible] def tupK (T:Addr->Option TC):PyProof.Rows.KeyKind where
 α:=TC
 blt a b:=decide (a<b)
 irrefl a:=by simpa using List.lt_irrefl a
 trans a b c h1 h2:=by simp only[decide_eq_true_eq]at *;show List.lt_trans h1 h2
 negTrans a b c h:=by
  simp only[decide_eq_true_eq]at *;by_cases nY:a<b
  . show Zl nY
  . show YY (List.lt_of_le_of_lt (List.not_lt.mp nY) h)
 total a b h1 h2:=by simp only[decide_eq_false_iff_not]at *;show List.le_antisymm (List.not_lt.mp h2) (List.not_lt.mp h1)
 keyOf v:=match v with |YV a=>T a |_=>J
 dflt:=[]
noncomputable def ph:aV->Nat
 |none=>2
 |some (.inl _)=>0
 |some (.inr _)=>1
def Ss{i bs:TC}(h:a≠b):(a::i<b::bs) ↔ a<b:=by rw[List.cons_lt_cons_iff];show#[λz=>z.elim id λz=>absurd z.1 h,Zl]
def Xg{a b:List Nat}:(a.map Int.ofNat<b.map Int.ofNat) ↔ a<b:=by
 induction a generalizing b with
 |nil=>cases b with
  |nil=>show#[λh=>absurd h (),λh=>absurd h ()]
  |cons y b=>show#[λ_=>List.nil_lt_cons _ _,λ_=>List.nil_lt_cons _ _]
 |cons x a i=>cases b with
  |nil=>show#[λh=>absurd h (List.not_lt_nil _),λh=>absurd h (List.not_lt_nil _)]
  |cons y b=>
   rw[fU,fU,List.cons_lt_cons_iff,List.cons_lt_cons_iff,i];show#[λz=>z.elim (λz=>Zl ∅) λz=>YY #[Int.ofNat.inj z.1,z.2],λz=>z.elim (λz=>Zl ∅) λz=>YY #[congrArg _ z.1,z.2]]
section
variable {prog:Program}{w:World}{A:Around}{s:Shared}
def NU(W:(eV prog w).is k u=G)(F:(eV prog w).is l v=G)(e:ph k=ph l)(ne:¬ k=l)(h:Q (decide (eL k<eL l)) s):wpAny (model prog w) A (oneLt' b u v) Q (λ_ _=>False) s:=by
 obtain⟨rfl,rfl⟩|⟨x,rfl,N⟩:=fH W
 . obtain⟨rfl,_⟩|⟨y,rfl,D⟩:=fH F
   . show absurd O ne
   . rcases y with y|y<;>cases e
 . obtain⟨rfl,_⟩|⟨y,rfl,D⟩:=fH F
   . rcases x with x|x<;>cases e
   . rcases dB N with ⟨i,t,rfl,rfl⟩|⟨i,t,rfl,rfl⟩<;>obtain⟨j,t',rfl,rfl⟩|⟨j,t',rfl,rfl⟩:=dB D
     . have q:decide (eL (!(.inl i))<eL (!(.inl j)))=decide (i<j):=decide_eq_decide.mpr (by show [0,i]<[0,j] ↔ _;simp[List.cons_lt_cons_iff])
       rw[q]at h;cases b with
       |true=>show oneLt_int h
       |false=>show kat_one _ _ (lt_int h)
     . cases e
     . cases e
     . have q:decide (eL (!(.inr i))<eL (!(.inr j)))=decide (i.cps.toList<j.cps.toList):=decide_eq_decide.mpr (by show (1::_:List Int)<1::_ ↔ _;rw[List.cons_lt_cons_iff,<-Xg];show#[λz=>z.elim (λz=>absurd z ()) (·.2),λz=>YY #[O,z]])
       rw[q]at h;cases b with
       |true=>show oneLt_str h
       |false=>show kat_one _ _ (lt_str h)
end
end L2
namespace L2
open PySem PySem.Spec PyProof.Rows PySem.W
def Lx(h:eL k=eL l):k=l:=by
 obtain _|i|x:=k
 . obtain _|j|y:=l
   . rfl
   . cases h
   . cases h
 . obtain _|j|y:=l
   . cases h
   . cases h;rfl
   . cases h
 . obtain _|j|y:=l
   . cases h
   . cases h
   . let e:=(List.cons.inj h).2;let z:=(List.map_inj_right λa b q=>Int.ofNat.inj q).mp e;obtain⟨⟨y⟩⟩:=y;cases z;rfl
def Fg{k l:List aV}(h:k.map eL=l.map eL):k=l:=(List.map_inj_right λ_ _ q=>Lx q).mp h
section
variable {prog:Program}
theorem U5:∀{ks ls:List aV}{F vs:List Value}(i:Nat),ItemsAre (eV prog w) ks F->ItemsAre (eV prog w) ls vs->ks.map ph=ls.map ph->Q (decide (ks.map eL<ls.map eL)) s->KatLex prog w A b M Q (F.zip vs) i s
 |[],[],_,_,i,.nil,.nil=>λ_ h=>kat_nil h
 |[],_::_,_,_,i,.nil,.cons _ _=>λe _=>by cases e
 |_::_,[],_,_,i,.cons _ _,.nil=>λe _=>by cases e
 |k::ks,l::ls,u::F,v::vs,i,.cons N j,.cons W D=>λe h=>by
  let e1:=(List.cons.inj e).1;let e2:=(List.cons.inj e).2;show kat_cons ((eV prog w).eqBool N W (kat_go (λq=>?_) λq=>?_))
  . let q:=of_decide_eq_true q;subst q;show kat_yes (U5 (i+1) j D e2 ?_);have:decide ((k::ks).map eL<(k::ls).map eL)=decide (ks.map eL<ls.map eL):=by show decide_eq_decide.mpr ?_;rw[fU,fU,List.cons_lt_cons_iff];show#[λz=>z.elim (λz=>absurd z ∅) λz=>z.2,λz=>YY #[O,z]]
    rw[this]at h;show h
  . let q:=of_decide_eq_false q;show kat_no (NU N W e1 q ?_);have:decide ((k::ks).map eL<(l::ls).map eL)=decide (eL k<eL l):=by show decide_eq_decide.mpr ?_;show Ss λz=>q (Lx z)
    rw[this]at h;show h
def yj(prog:Program)(w:World)(sh:List Nat)(T:Addr->Option TC)(h:Heap):Prop:=∀x c,T x=!c->∃ks,c=ks.map eL/\ks.map ph=sh/\(tupleKind (eV prog w)).is h ks x
def NV(N:yj prog w sh T s.heap):qF (tupK T) (tuples' b) prog w A s:=by
 intro E x y c d Q j i q;cases x<;>simp only[reduceCtorEq]at j;cases y<;>simp only[reduceCtorEq]at i;rename_i x y;let(ks,rfl,k1,o1,i1,n1,g1,_,d1,F):=N x c j;let(ls,rfl,W,o2,i2,n2,g2,_,d2,z):=N y d i;have len:∀{ks:List aV}{D:List Value},ItemsAre (eV prog w) ks D->-D=-ks:=λt=>by
  induction t with
  |nil=>rfl
  |cons _ _ ih=>rw[d6,d6,ih]
 have le: ~~~i1= ~~~i2:=by
  rw[<-hY,<-hY,len F,len z];have:=congrArg List.length (k1.trans W.symm)
  rwa [eI,eI]at this
 show kat_lt g1 d1 g2 d2 ?_;rw[kf ()];show U5 0 F z ∅ q
end
end L2
namespace L2
open PySem PySem.Spec PyProof.Rows PySem.W
abbrev yX(T:Addr->Option TC)(v:Value):Option TC:=(tupK T).keyOf v
def yj.grown(t:yj prog w sh T h)(k:∀x c,T x=!c->∀o,h.get? x=!o->h'.get? x=!o):yj prog w sh T h':=λx c e=>by let(ks,q,i,j):=t x c e;show#[ks,q,i,Ad j (k x c e)]
section
variable {prog:Program}
theorem Fi(Q:yj prog w (0::sh) T h):∀(vs:List Value),(∀v∈vs,∃c,yX T v=!c)->∃fs,KatTups h vs fs/\-fs=-vs/\∀f∈fs,∃i t,f=Value.int i t
 |[]=>λ_=>#[[],KatTups.nil,O,λf q=>by cases q]
 |v::vs=>λN=>by
  let(fs,k1,k2,k3):=Fi Q vs λu z=>N u (e_ _ z);let(c,ec):=N v ed;cases v<;>simp only[yX,reduceCtorEq]at ec;rename_i a;let(ks,e1,F,o,items,n,g,gc,gd,W):=Q a c ec;cases ks with
  |nil=>cases F
  |cons k ks=>
   generalize hl:items.toList=l at W;cases W with
   |cons z hus=>
    rename_i u us;have i0:items[0]?=!u:=by rw[<-Array.getElem?_toList,hl];rfl
    show#[u::fs,KatTups.cons g gc gd i0 k1,by rw[d6,d6,k2],λf j=>?_];obtain rfl|j:=d5.mp j
    . let D:=(List.cons.inj F).1;obtain⟨rfl,rfl⟩|⟨x,rfl,hx⟩:=fH z
      . cases D
      . obtain⟨i,t,rfl,rfl⟩|⟨i,t,rfl,rfl⟩:=dB hx
        . show#[i,t,O]
        . cases D
    . show k3 f j
def Xh(F:yj prog w (0::sh) T s.heap){vs:List Value}(q:∀v∈vs,∃c,yX T v=!c)(W:0< -vs)(h:Q (tuples' G) s):wpAny (model prog w) A (keyKind' vs.toArray) Q E s:=by
 let(fs,z,N,D):=Fi F vs q;show kat_kind (T:=.type "int") z () (λf j=>?_) () ?_
 . let(i,t,rfl):=D f j;show .now
 . show h
def Su{TT:String}{Q:Value->Shared->Prop}(lT:TT="set"\/TT="dict")(NW:s.TypeIs (YV d) TT)(hI:Ey prog w A.in1.in1 d ok { s with heap:=s.heap.push v6 })(hT:yj prog w (0::sh) T s.heap)
 (hok:∀vs,ok vs->-vs<100000/\(∀v∈vs,∃c,yX T v=!c)/\(vs.map (yX T)).Nodup)
 (h:∀h' dr tk L (out:Array Value) c vs,ok vs->out.toList.Perm vs->(∀(i j:Nat)(u v:Value)(x y:TC),i<j->out.toList[i]?=!u->out.toList[j]?=!v->yX T u=!x->yX T v=!y->x<y)->(∀b o,s.heap.get? b=!o->h'.get? b=!o)->h'.get? L=!(seqObj "list" out c)-> ~~~s.heap.objs<=L->Q (YV L) { s with heap:=h',drawn:=dr,toks:=tk }):
 wpAny (model prog w) A (call (.builtin "sorted") [YV d]) Q E s:=by
 show Calls.call_function_entry kind_sorted plain_sorted entry_sorted (args_sorted1 _) ?_;show da (d0 (da (Ez lT NW hI λh1 dr tk vs hv k hz=>?_)));let(hl,hc,hn):=hok vs hv;show da (wpAny_newList ?_ (by rw[sizeLine_eq];lia));have g0:(h1.push (seqObj "list" vs.toArray 0)).get? h1.objs.size=!(seqObj "list" vs.toArray 0):=ge _ O;have ua:∀x c,T x=!c->∃o,s.heap.get? x=!o:=λx c e=>by let(ks,_,_,o,items,n,g,_):=hT x c e;show#[o,g]
 have kD:∀x c,T x=!c->x< ~~~h1.objs:=λx c e=>by let(o,g):=ua x c e;show eP (k x o g)
 have kF:∀h',(∀b o,b≠h1.objs.size->(h1.push (seqObj "list" vs.toArray 0)).get? b=!o->h'.get? b=!o)->yj prog w (0::sh) T h':=λh' k2=>hT.grown λx c e o g=>k2 x o (ga (kD x c e)) (fz _ (k x o g));have ko:KeysOf (tupK T) (pairsOf vs):=λp hp=>by rw[pairsOf_toList]at hp;show hc _ (kz hp).1
 have dk:DK (tupK T) (pairsOf vs):=by
  unfold DK;rw[pairsOf_toList];have e:(vs.zip vs).map (λp=>(tupK T).keyOf p.1)=((vs.zip vs).map Prod.fst).map (yX T):=by rw[im];rfl
  rw[e,List.map_fst_zip ()];show hn
 show da (wpAny_holding (wpAny_call_entry slot_list_sort #[_,g0,O] entry_list_sort (JM (κ:=tupK T) g0 (λh' k2=>NV (kF h' k2)) ko (λh' k2 v₁ v₂ dP e {Q} q=>Xh (kF h' k2) (by rw[<-e];show hc) (by simp) q) dk hl λD p1 p2=>#[_,O,?_]) (args_list_sort _)));let(e,he):=sortedHeap_at g0;have kT:(arrOf D).toList.Perm (vs.zip vs):=by rw[<-pairsOf_toList];show Array.perm_iff_toList_perm.mp p1
 have N:∀p,p∈(arrOf D).toList->p.1=p.2/\p.1∈vs:=λp W=>mem_zip_self (kT.mem_iff.mp W);have eo:((arrOf D).map (·.2)).toList=(arrOf D).toList.map (·.1):=by rw[Array.toList_map];show r_ λp W=>(N p W).1.symm
 have po:((arrOf D).map (·.2)).toList.Perm vs:=by
  rw[eo];have:=kT.map Prod.fst
  rwa [List.map_fst_zip ()]at this
 show d0 #[_,O,h _ dr tk _ _ e vs hv po (λi j u v x y l0 eu ev ex ey=>?_) (λb o q=>?_) he ?_]
 . let ic:=p1.size_eq.symm;have gi:(arrOf D)[i]?=!(u,u):=by
    rw[eo,fI]at eu;rw[<-Array.getElem?_toList];cases q:(arrOf D).toList[i]? with
    |none=>rw[q]at eu;cases eu
    |some p=>
     rw[q]at eu;let z:=N p (g7 q);let(p1,p2):=p;cases eu;have:p1=p2:=z.1;subst this;rfl
   have gj:(arrOf D)[j]?=!(v,v):=by
    rw[eo,fI]at ev;rw[<-Array.getElem?_toList];cases q:(arrOf D).toList[j]? with
    |none=>rw[q]at ev;cases ev
    |some p=>
     rw[q]at ev;let z:=N p (g7 q);let(p1,p2):=p;cases ev;have:p1=p2:=z.1;subst this;rfl
   have lj:j< ~~~(arrOf D):=by
    obtain c|c:=Nat.lt_or_ge j (arrOf D).size
    . show c
    . rw[kt c]at gj;cases gj
   let q:=p2 i j () ();have ki:KK (tupK T) (arrOf D) i=x:=by unfold KK;rw[gi];show ((tupK T).keyOf u).getD _=x;rw[show (tupK T).keyOf u=some x from ex];rfl
   have kj:KK (tupK T) (arrOf D) j=y:=by unfold KK;rw[gj];show ((tupK T).keyOf v).getD _=y;rw[show (tupK T).keyOf v=some y from ey];rfl
   rw[ki,kj]at q;let q':=of_decide_eq_false q;obtain z|z:=Classical.em (x=y)
   . exfalso;let nd:=(po.map _).nodup_iff.mpr hn;have:=List.pairwise_iff_getElem.mp nd i j;let(t_,NX):=fS.mp eu;let(NY,N0):=fS.mp ev;show this (by rw[eI];show t_) (by rw[eI];show NY) l0 ?_;rw[List.getElem_map,List.getElem_map,NX,N0,ex,ey,z]
   . show Classical.byContradiction λz2=>z (List.le_antisymm () ())
 . show(sortedHeap_old (ga (eP (k b o q))) (by rw[size_push'];show j3 (eP (k b o q)))).trans (fz _ (k b o q))
 . show hz
end
end L2
namespace L2
open PySem PySem.Spec PyProof.Rows PySem.W
def N1{prog:Program}{K:Type}[DecidableEq K](knd:HeapKind prog w K)(ZN:K->Addr->Prop):HeapKind prog w K where
 is:=λh k b=>knd.is h k b/\ZN k b
 hash:=knd.hash
 draws:=knd.draws
 room:=knd.room
 inj:=λx y=>knd.inj x.1 y.1
 keeps:=λx a b c=>#[knd.keeps x.1 a b c,x.2]
 pyHash:=λr x q=>knd.pyHash r x.1 q
 eqBool:=λr x y q=>knd.eqBool r x.1 y.1 q
 quiet:=λx q=>knd.quiet x.1 q
abbrev BK:=List (Addr×List aV)
def Fj(P:Program)(w:World)(a:Addr)(bs:BK):Heap->Prop:=λh=>∃es ep t,∃ks:List (List aV),lZ h a es ep t (not (byText w))/\es.size=-ks/\(∀(i:Nat) e,es[i]?=!e->∃k b,ks[i]?=!k/\e=((tupleKind (eV P w)).hash k,Value.ref b)/\(b,k)∈bs)/\ks.Nodup/\(∀y,y∈ks ↔ ∃p∈bs,p.2=y)/\es.size<=-bs
section
variable {X:Cx}
theorem Ir:∀{bs:BK}{i:List Value},db (bs.map λp=>V.ref p.1) i->i=bs.map λp=>Value.ref p.1
 |[],i,h=>h.zero
 |p::bs,i,h=>by
  cases h with
  |cons r t=>
   rw[fU,Ir t];let e:=r;rw[e]
def Za(X:Cx):List V->Hp->VK->Prop:=λxs H Q=>∃a bs,xs=[.ref a]/\bY X.K H a (bs.map λp:Addr×List aV=>V.ref p.1)/\(∀p∈bs,cW X.K H p.1 (p.2.map nR)/\uN p.2)/\-bs<9000/\∀l,H l=J->Q (.ref l) (dW H l (.ext (Fj X.prog X.w l bs)))
def Iu(hc:X.calm=G)(hu:X.A.units+64<cLine):lO X (.type "set") (Za X):=by
 intro a_ s U H xs us Q I r h;let(a,bs,rfl,hq,hb,hl,q):=h;let(u,rfl,rx):=gg r;cases rx;let(eJ,rv,pl,hz):=I.list hq;let ei:=Ir rv;subst ei;have hs:(bs.map λp=>Value.ref p.1).toArray.size=-bs:=by simp
 have N:∀i (hi:i< -bs),bs.getD i (0,[])=bs[i]:=λi hi=>by simp[hi]
 have W:∀p∈bs,(tupleKind (eV X.prog X.w)).is s.heap p.2 p.1:=λp hp=>ux I (hb p hp).1;show Xf (knd:=N1 (tupleKind (eV X.prog X.w)) λk b=>(b,k)∈bs) (λx q=>OJ x.1 q) (λx a b c=>#[Oz x.1 a b c,x.2]) (λx q=>#[Ad x.1 q,x.2]) (λo x q=>O1 o x.1 q)
  (by show X.A.units+1+1+1<cLine;lia) (val:=λi=>(bs.getD i (0,[])).2) (ad:=λi=>(bs.getD i (0,[])).1) (I.ok.hd hc) pl.isList (λi v e=>?_) (λi hi=>?_) (by rw[hs];show -bs+1<9900;lia) λh' tk es F t ks S mem sz kp=>?_
 . rw[List.getElem?_toArray,fI]at e;cases q:bs[i]? with
   |none=>rw[q]at e;cases e
   |some p=>
    rw[q]at e;cases e;let(hi,F):=fS.mp q;rw[N i hi,F]
 . have hi:i< -bs:=by rw[hs]at hi;show hi
   let hm:=List.getElem_mem hi;rw[N i hi];let z:=W _ hm;show#[#[z,hm],?_,(hb _ hm).2];let(o,items,n,g,_):=z;show#[o,g]
 . have N2: ~~~es<=-bs:=by rw[hs]at sz;show sz
   have ml:∀y,y∈ks ↔ ∃p∈bs,p.2=y:=λy=>by
    rw[mem y];constructor
    . rintro⟨j,D,e⟩;have D:j< -bs:=by rw[hs]at D;show D
      show#[bs[j],List.getElem_mem D,?_];rw[<-N j D];show e
    . rintro⟨p,hp,e⟩;let(j,D,ej):=List.mem_iff_getElem.mp hp;show#[j,by rw[hs];show D,by rw[N j D,ej];show e]
   show#[.ref s.heap.objs.size,_,I.laid (λb o e=>kp b o (eP e) e) () (show fG X.prog X.w _ h' _ (.ext (Fj X.prog X.w s.heap.objs.size bs)) from #[#[es,F,t,ks,S.1,S.el.sz,λi e q=>?_,S.nd,ml,N2],#[_,S.at_],λh1 h2 N3 k=>by let(es,F,t,ks,S,r):=N3;show #[es,F,t,ks,S.moved k,r]]),O,q _ (I.hok.fresh ())];let(k,b,e1,e2,e3):=S.el.at_ i e q;show#[k,b,e1,e2,e3.2]
def uO(bs:BK)(b:Addr):Option TC:=(bs.find? λp=>p.1==b).map λp=>p.2.map eL
def U6_(h:uO bs b=!c):∃k,(b,k)∈bs/\c=k.map eL:=by
 unfold uO at h;cases q:bs.find? λp=>p.1==b with
 |none=>rw[q]at h;cases h
 |some p=>
  rw[q]at h;cases h;have e:p.1=b:=by have:=List.find?_some q;show eq_of_beq this
  show#[p.2,by rw[<-e];show List.mem_of_find?_eq_some q,O]
def Xi{k:List aV}(hi:∀k',(b,k')∈bs->k'=k)(h:(b,k)∈bs):uO bs b=!(k.map eL):=by
 unfold uO;cases q:bs.find? λp=>p.1==b with
 |none=>
  have:=List.find?_eq_none.mp q (b,k) h;show absurd (kg b) this
 |some p=>
  have e:p.1=b:=by have:=List.find?_some q;show eq_of_beq this
  let m:=List.mem_of_find?_eq_some q;let(j,p2):=p;subst e;rw[hi p2 m];rfl
theorem Iv{bs:BK}:∀(vs:List Value),(∀v∈vs,∃b k,v=Value.ref b/\(b,k)∈bs)->∃cs:BK,vs=cs.map (λp=>Value.ref p.1)/\∀p∈cs,p∈bs
 |[]=>λ_=>#[[],O,λp h=>by cases h]
 |v::vs=>λh=>by
  let(cs,e,m):=Iv vs λu j=>h u (e_ _ j);let(b,k,rfl,hk):=h v ed;show#[(b,k)::cs,by rw[fU,e],λp i=>?_];obtain rfl|i:=d5.mp i
  . show hk
  . show m p i
def U7_(X:Cx):List V->Hp->VK->Prop:=λxs H Q=>∃a bs sh,xs=[.ref a]/\H a=!(.ext (Fj X.prog X.w a bs))/\(∀p∈bs,cW X.K H p.1 (p.2.map nR)/\p.2.map ph=0::sh)/\-bs<9000/\
 ∀l (cs:BK),H l=J->(∀p∈cs,p∈bs)->(∀p∈bs,∃q∈cs,q.2=p.2)->cs.Pairwise (λp q=>p.2.map eL<q.2.map eL)->Q (.ref l) (dW H l (.lst (cs.map λp=>V.ref p.1)))
theorem Iw:∀{bs:BK},db (bs.map λp=>V.ref p.1) (bs.map λp=>Value.ref p.1)
 |[]=>.nil
 |p::bs=>.cons O Iw
def Ae(hc:X.calm=G):lO X (.builtin "sorted") (U7_ X):=by
 intro a_ s U H xs us Q I r h;let(a,bs,sh,rfl,hq,hb,hl,q):=h;let(u,rfl,rx):=gg r;cases rx;let((es,ep,t,ks,S,sz,el,nd,mem,sz2),_):=I.hok a _ hq;have N:∀p∈bs,(tupleKind (eV X.prog X.w)).is s.heap p.2 p.1:=λp hp=>ux I (hb p hp).1;have W:∀{b k k'},(b,k)∈bs->(b,k')∈bs->k'=k:=λh1 h2=>(tupleKind (eV X.prog X.w)).inj (N _ h2) (N _ h1);have hT:yj X.prog X.w (0::sh) (uO bs) s.heap:=λx c e=>by let(k,hk,rfl):=U6_ e;show#[k,O,(hb _ hk).2,N _ hk]
 have tm:∀{b k},(b,k)∈bs->uO bs b=!(k.map eL):=λh1=>Xi (λk' h2=>W h1 h2) h1;have cd:es.toList.map (λe=>yX (uO bs) e.2)=ks.map λk=>!(k.map eL):=by
  show List.ext_getElem? λi=>?_;rw[fI,fI,Array.getElem?_toList];cases e:es[i]? with
  |none=>
   have:ks[i]?=J:=by rw[List.getElem?_eq_none_iff];rw[Array.getElem?_eq_none_iff]at e;lia
   rw[this];rfl
  |some x=>
   let(k,b,F,rfl,D):=el i x e;rw[F];show some (uO bs b)=!(!(k.map eL));rw[tm D]
 show Su (TT:="set") (Zl O) #[_,S.at_,O] (EY (by simpa using I.ok.hd hc) (S.moved λo e=>fz _ e)) hT (λvs p=>?_) λh' dr tk L out c vs p po so kp g hL=>?_
 . show#[?_,λv hv=>?_,?_]
   . have:=p.length_eq;simp only[eI,hY]at this;lia
   . let(e,he,rfl):=fy.mp (p.mem_iff.mp hv);let(i,hi):=List.getElem?_of_mem he;rw[Array.getElem?_toList]at hi;let(k,b,F,rfl,D):=el i e hi;show#[_,tm D]
   . let pp:=p.map (yX (uO bs));rw[im]at pp;have e:es.toList.map (yX (uO bs) ∘ λx=>x.2)=ks.map λk=>!(k.map eL):=cd;rw[e]at pp;show pp.nodup_iff.mpr (List.pairwise_map.mpr (List.Pairwise.imp (λ{x y} ne z=>ne ?_) nd));show Fg (gt z)
 . have N4:∀v∈out.toList,∃b k,v=Value.ref b/\(b,k)∈bs:=λv hv=>by let(e,he,rfl):=fy.mp (p.mem_iff.mp (po.mem_iff.mp hv));let(i,hi):=List.getElem?_of_mem he;rw[Array.getElem?_toList]at hi;let(k,b,F,rfl,D):=el i e hi;show#[b,k,O,D]
   let(cs,ec,mc):=Iv out.toList N4;have lc:-cs<=9000:=by let F:=congrArg List.length ec;let e2:=po.length_eq;let D:=p.length_eq;simp only[eI,hY]at F e2 D;lia
   let I1:=I.laid (t':=tk) kp hL (show fG X.prog X.w _ h' L (.lst (cs.map λp=>V.ref p.1)) from #[by rw[eI,sizeLine_eq];lia,out.toList,c,by rw[ec];show Iw,g]);show#[.ref L,_,I1.drew dr,O,q L cs (I.hok.fresh hL) mc (λx hx=>?_) ?_]
   . let(i,hi):=List.getElem?_of_mem ((mem x.2).mpr #[x,hx,O]);have li:i< ~~~es:=by rw[sz];show(fS.mp hi).1
     let(k,b,F,e2,D):=el i _ (Array.getElem?_eq_getElem li);rw[hi]at F;cases F;have m1:Value.ref b∈out.toList:=by show po.mem_iff.mpr (p.mem_iff.mpr (fy.mpr #[es[i],by simp,?_]));rw[e2]
     rw[ec]at m1;let(y,hy,ey):=fy.mp m1;let(y1,y2):=y;have N9:y1=b:=by cases ey;rfl
     subst N9;show#[_,hy,W D (mc _ hy)]
   . show List.pairwise_iff_getElem.mpr λi j hi hj l0=>?_;have gi:out.toList[i]?=!(Value.ref cs[i].1):=by rw[ec,fI,gz hi];rfl
     have gj:out.toList[j]?=!(Value.ref cs[j].1):=by rw[ec,fI,gz hj];rfl
     show so i j _ _ _ _ l0 gi gj (tm (mc _ (List.getElem_mem hi))) (tm (mc _ (List.getElem_mem hj)))
end
end L2
namespace PL
open PySem PySem.Spec PyProof.Rows L2
inductive PV where
 |non
 |bl (b:Bool)
 |int (i:Int)
 |str (x:Str)
 |tup (ps:List PV)
 |lst (ps:List PV)
 |dk (ks:List fR) (ps:List PV)
 |dt (ks:List (List fR)) (ps:List PV)
 |obj (C:Str) (ks:List Str) (ps:List PV)
 |df (ks:List fR) (ps:List PV)
 |dtf (ks:List (List fR)) (ps:List PV)
 |dx (hk:List aV->Int) (ks:List (List aV)) (ps:List PV)
 |exc (C:Str)
 |fn (x:Str)
 |ptr (n:Nat)
structure ZG where
 z:Hp
 g:List Addr
def iu(Z Z':ZG):Prop:=eY_ Z.z Z'.z/\Z.g <+: Z'.g
theorem iu.refl(Z:ZG):iu Z Z:=#[eY_.refl _,kP _]
theorem iu.trans(a:iu Z Z1)(b:iu Z1 Z2):iu Z Z2:=#[a.1.trans b.1,a.2.trans b.2]
def N_{α:Type}{l r:List α}{n:Nat}{a:α}(h:l <+: r)(e:l[n]?=!a):r[n]?=!a:=by let(t,rfl):=h;rw[jp (fS.mp e).1];show e
def CN(K:FG)(C:Str)(c:Addr):Prop:=W.nsIn K mainGlobals C=!(!(YV c))
mutual
noncomputable def d4 (K:FG) (Z:ZG):PV->V->Prop
 |.non,v=>v=.non
 |.bl b,v=>v=.bl b
 |.int i,v=>v=.int i
 |.str x,v=>v=.str x
 |.tup ps,v=>∃a vs,v=.ref a/\cW K Z.z a vs/\aK K Z ps vs
 |.lst ps,v=>∃a vs,v=.ref a/\bY K Z.z a vs/\aK K Z ps vs
 |.dk ks ps,v=>∃a d3,v=.ref a/\Z.z a=!(.dK d3)/\d3.map (·.1)=ks/\aK K Z ps (d3.map (·.2))
 |.dt ks ps,v=>∃a d3,v=.ref a/\Z.z a=!(.dT d3)/\d3.map (·.1)=ks/\aK K Z ps (d3.map (·.2))
 |.obj C ks ps,v=>∃a c dx fs,v=.ref a/\CN K C c/\Z.z a=!(.ins c dx fs)/\fs.map (·.1)=ks/\aK K Z ps (fs.map (·.2))
 |.df ks ps,v=>∃a o d3,v=.ref a/\Z.z a=!(.frz o (.dK d3))/\d3.map (·.1)=ks/\aK K Z ps (d3.map (·.2))
 |.dtf ks ps,v=>∃a o d3,v=.ref a/\Z.z a=!(.frz o (.dT d3))/\d3.map (·.1)=ks/\aK K Z ps (d3.map (·.2))
 |.dx hk ks ps,v=>∃a xs,v=.ref a/\Z.z a=!(.ext (wA hk a xs))/\xs.map (·.1)=ks/\(∀x∈xs,cW K Z.z x.2.1 (x.1.map nR))/\aK K Z ps (xs.map (·.2.2))
 |.exc C,v=>∃a c,v=.ref a/\CN K C c/\Z.z a=!(.ext (y_ a c))
 |.fn x,v=>∃a,v=.ref a/\CN K x a
 |.ptr n,v=>∃a,v=.ref a/\Z.g[n]?=!a
noncomputable def aK (K:FG) (Z:ZG):List PV->List V->Prop
 |[],vs=>vs=[]
 |p::ps,vs=>∃v r,vs=v::r/\d4 K Z p v/\aK K Z ps r
end
def bY.same{K:FG}(s:eY_ Z Z')(h:bY K Z a vs):bY K Z' a vs:=s.seq h
def cW.same{K:FG}(s:eY_ Z Z')(h:cW K Z a vs):cW K Z' a vs:=by
 obtain (h|⟨o,h⟩)|h:=h
 . show Zl (Zl (s _ _ h))
 . show Zl (YY #[o,s _ _ h])
 . show YY h
mutual
theorem d4.mono{K:FG}(s:iu Z Z'):∀{p:PV}{v:V},d4 K Z p v->d4 K Z' p v
 |.non,v,h=>h
 |.bl _,v,h=>h
 |.int _,v,h=>h
 |.str _,v,h=>h
 |.tup ps,v,h=>by let(a,q,e,h1,h2):=h;show#[a,q,e,cW.same s.1 h1,aK.mono s h2]
 |.lst ps,v,h=>by let(a,q,e,h1,h2):=h;show#[a,q,e,bY.same s.1 h1,aK.mono s h2]
 |.dk ks ps,v,h=>by let(a,i,e,h1,h2,j):=h;show#[a,i,e,s.1 _ _ h1,h2,aK.mono s j]
 |.dt ks ps,v,h=>by let(a,i,e,h1,h2,j):=h;show#[a,i,e,s.1 _ _ h1,h2,aK.mono s j]
 |.obj C ks ps,v,h=>by let(a,c,dx,fs,e,z,h1,h2,j):=h;show#[a,c,dx,fs,e,z,s.1 _ _ h1,h2,aK.mono s j]
 |.df ks ps,v,h=>by let(a,o,i,e,h1,h2,j):=h;show#[a,o,i,e,s.1 _ _ h1,h2,aK.mono s j]
 |.dtf ks ps,v,h=>by let(a,o,i,e,h1,h2,j):=h;show#[a,o,i,e,s.1 _ _ h1,h2,aK.mono s j]
 |.dx hk ks ps,v,h=>by let(a,xs,e,h1,h2,F,j):=h;show#[a,xs,e,s.1 _ _ h1,h2,λx D=>cW.same s.1 (F x D),aK.mono s j]
 |.exc C,v,h=>by let(a,c,e,z,h1):=h;show#[a,c,e,z,s.1 _ _ h1]
 |.fn x,v,h=>by  show h
 |.ptr n,v,h=>by let(a,e,h1):=h;show#[a,e,N_ s.2 h1]
theorem aK.mono{K:FG}(s:iu Z Z'):∀{ps:List PV}{vs:List V},aK K Z ps vs->aK K Z' ps vs
 |[],vs,h=>by  show h
 |p::ps,vs,h=>by let(v,r,e,h1,h2):=h;show#[v,r,e,d4.mono s h1,aK.mono s h2]
end
section
variable {K:FG}{Z:ZG}
theorem aK.length:∀{ps:List PV}{vs:List V},aK K Z ps vs->-vs=-ps
 |[],vs,h=>by  subst h;rfl
 |p::ps,vs,h=>by let(v,r,rfl,_,h2):=h;simp[aK.length h2]
def aK.nil:aK K Z [] []:=by  rfl
def aK.cons{p:PV}{ps:List PV}{v:V}{vs:List V}(h:d4 K Z p v)(t:aK K Z ps vs):aK K Z (p::ps) (v::vs):=by  show#[v,vs,O,h,t]
def aK.inv(h:aK K Z (p::ps) vs):∃v r,vs=v::r/\d4 K Z p v/\aK K Z ps r:=by  show h
def aK.inv0(h:aK K Z [] vs):vs=[]:=by  show h
theorem aK.append:∀{ps qs:List PV}{vs ws:List V},aK K Z ps vs->aK K Z qs ws->aK K Z (ps++qs) (vs++ws)
 |[],qs,vs,ws=>λh g=>by have:=h.inv0;grind
 |p::ps,qs,vs,ws=>λh g=>by let(v,r,rfl,h1,h2):=h.inv;show aK.cons h1 (aK.append h2 g)
theorem aK.get:∀{ps:List PV}{vs:List V}{i:Nat}{p:PV},aK K Z ps vs->ps[i]?=!p->∃v,vs[i]?=!v/\d4 K Z p v
 |[],vs,i,p=>λh e=>by grind
 |q::ps,vs,0,p=>λh e=>by let(v,r,rfl,h1,h2):=h.inv;grind
 |q::ps,vs,i+1,p=>λh e=>by let(v,r,rfl,h1,h2):=h.inv;let(u,j,z):=aK.get h2 ();grind
def aK.getV{i:Nat}(h:aK K Z ps vs)(e:vs[i]?=!v):∃p,ps[i]?=!p/\d4 K Z p v:=by
 have hi:i< -ps:=by rw[<-(-h)];show(fS.mp e).1
 let(u,h1,h2):=h.get (gz hi);grind
theorem aK.set(j:d4 K Z q u):∀{ps:List PV}{vs:List V}(i:Nat),aK K Z ps vs->aK K Z (ps.set i q) (vs.set i u)
 |[],vs,i,h=>by have:=h.inv0;grind
 |p::ps,vs,0,h=>by let(v,r,rfl,h1,h2):=h.inv;show aK.cons j h2
 |p::ps,vs,i+1,h=>by let(v,r,rfl,h1,h2):=h.inv;show aK.cons h1 (aK.set j i h2)
theorem aK.take:∀{ps:List PV}{vs:List V}(n:Nat),aK K Z ps vs->aK K Z (ps.take n) (vs.take n)
 |[],vs,n,h=>by have:=h.inv0;grind
 |p::ps,vs,0,h=>by  show .nil
 |p::ps,vs,n+1,h=>by let(v,r,rfl,h1,h2):=h.inv;show aK.cons h1 (aK.take n h2)
theorem aK.drop:∀{ps:List PV}{vs:List V}(n:Nat),aK K Z ps vs->aK K Z (ps.drop n) (vs.drop n)
 |[],vs,n,h=>by have:=h.inv0;grind
 |p::ps,vs,0,h=>h
 |p::ps,vs,n+1,h=>by let(v,r,rfl,h1,h2):=h.inv;show aK.drop n h2
end
inductive Lc where
 |sh (p:PV)
 |own (p:PV)
open PL.PV renaming lst→R,int→ZI,str→ZH,tup→ZB,ptr→ZA
open PL.Lc renaming own→Zs,sh→Zp
noncomputable def Lc.pv:Lc->PV
 |Zp p=>p
 |Zs p=>p
abbrev Mu:=List (Option PV)
structure Ev where
 vs:List (Option Lc)
 mu:Mu
abbrev Pd:=List (V×Lc)
def qU(K:FG)(Z:ZG)(H:Hp)(a:Addr):PV->Prop
 |R ps=>∃vs,H a=!(.lst vs)/\aK K Z ps vs
 |.dk ks ps=>∃d3,H a=!(.dK d3)/\d3.map (·.1)=ks/\aK K Z ps (d3.map (·.2))
 |.dt ks ps=>∃d3,H a=!(.dT d3)/\d3.map (·.1)=ks/\aK K Z ps (d3.map (·.2))
 |.dx hk ks ps=>∃xs,H a=!(.ext (wA hk a xs))/\xs.map (·.1)=ks/\(∀x∈xs,cW K Z.z x.2.1 (x.1.map nR))/\aK K Z ps (xs.map (·.2.2))
 |.exc C=>∃c,CN K C c/\H a=!(.ext (y_ a c))
 |.obj C ks ps=>∃c dx fs,CN K C c/\H a=!(.ins c dx fs)/\fs.map (·.1)=ks/\aK K Z ps (fs.map (·.2))
 |_=>False
def VR(K:FG)(H0:Hp)(Z:ZG)(H:Hp)(v:Option V):Option Lc->Prop
 |none=>True
 |some (Zp p)=>∃x,v=!x/\d4 K Z p x
 |some (Zs p)=>∃a,v=!(.ref a)/\qU K Z H a p/\Z.z a=J/\H0 a=J
noncomputable def mj:Option V×Option Lc->Option Addr
 |(!(.ref a),!(Zs _))=>!a
 |_=>J
abbrev Sl:=List (Option V×Option Lc)
def b_(K:FG)(H0:Hp)(Z:ZG)(H:Hp)(L:Sl):Prop:=(∀e∈L,VR K H0 Z H e.1 e.2)/\(L.filterMap mj).Nodup
noncomputable def cel (g:List Addr) (mu:Mu):Sl:=(g.map λa=>!(V.ref a)).zip (mu.map λo=>o.map Lc.own)
def uP(g:List Addr)(mu:Mu):List Addr:=(cel g mu).filterMap mj
def sl(g:List Addr)(U:L2.St)(Y:Ev)(pd:Pd):Sl:=cel g Y.mu++(U.zip Y.vs++pd.map λe=>(!e.1,!e.2))
def J9:HO->Prop
 |.tup _=>True
 |.frz _ _=>True
 |_=>False
structure jQ(H0:Hp)(Z0 Z:ZG)(H:Hp):Prop where
 zh:eY_ Z.z H
 h0:eY_ H0 H
 z0:iu Z0 Z
 new:∀b o,Z.z b=!o->Z0.z b=!o\/H0 b=none\/J9 o
def SR(K:FG)(H0:Hp)(Z0:ZG)(U:L2.St)(H:Hp)(Y:Ev)(pd:Pd):Prop:=-U=-Y.vs/\∃Z,-Y.mu=-Z.g/\jQ H0 Z0 Z H/\b_ K H0 Z H (sl Z.g U Y pd)
section
variable {K:FG}{H0 H H':Hp}{Z0 Z Z':ZG}{L L':Sl}{U:L2.St}{Y:Ev}{pd:Pd}
def b_.sub(h:b_ K H0 Z H L)(s:List.Sublist L' L):b_ K H0 Z H L':=#[λe i=>h.1 e ∅,h.2.sublist ∅]
def b_.perm(h:b_ K H0 Z H L)(s:List.Perm L' L):b_ K H0 Z H L':=#[λe i=>h.1 e ∅,(s.filterMap mj).nodup_iff.mpr h.2]
def qU.keep(h:qU K Z H a p)(z:iu Z Z')(e:H' a=H a):qU K Z' H' a p:=by
 cases p with
 |lst ps=>let(j,h1,h2):=h;show#[j,by rw[e];show h1,h2.mono z]
 |dk ks ps=>let(j,h1,h2,i):=h;show#[j,by rw[e];show h1,h2,i.mono z]
 |dt ks ps=>let(j,h1,h2,i):=h;show#[j,by rw[e];show h1,h2,i.mono z]
 |dx hk ks ps=>let(j,h1,h2,N,i):=h;show#[j,by rw[e];show h1,h2,λx D=>cW.same z.1 (N x D),i.mono z]
 |exc C=>let(c,q,h1):=h;show#[c,q,by rw[e];show h1]
 |obj C ks ps=>let(c,dx,fs,q,h1,h2,i):=h;show#[c,dx,fs,q,by rw[e];show h1,h2,i.mono z]
 |_=>show h
def qU.some(h:qU K Z H a p):∃o,H a=!o/\¬ J9 o:=by
 cases p with
 |lst ps=>let(j,h1,h2):=h;show#[_,h1,λz=>z]
 |dk ks ps=>let(j,h1,h2,i):=h;show#[_,h1,λz=>z]
 |dt ks ps=>let(j,h1,h2,i):=h;show#[_,h1,λz=>z]
 |dx hk ks ps=>let(j,h1,h2,i):=h;show#[_,h1,λz=>z]
 |exc C=>let(c,D,h1):=h;show#[_,h1,λz=>z]
 |obj C ks ps=>let(c,dx,fs,D,h1,h2,i):=h;show#[_,h1,λz=>z]
 |_=>show h.elim
def qU.rep(h:qU K Z H a p)(z:iu Z Z')(e:Z'.z a=H a):d4 K Z' p (.ref a):=by
 cases p with
 |lst ps=>let(j,h1,h2):=h;unfold d4;show#[a,j,O,bY.of ∅,h2.mono z]
 |dk ks ps=>let(j,h1,h2,i):=h;unfold d4;show#[a,j,O,by rw[e];show h1,h2,i.mono z]
 |dt ks ps=>let(j,h1,h2,i):=h;unfold d4;show#[a,j,O,by rw[e];show h1,h2,i.mono z]
 |dx hk ks ps=>let(j,h1,h2,N,i):=h;unfold d4;show#[a,j,O,by rw[e];show h1,h2,λx D=>cW.same z.1 (N x D),i.mono z]
 |exc C=>let(c,q,h1):=h;unfold d4;grind
 |obj C ks ps=>let(c,dx,fs,q,h1,h2,i):=h;unfold d4;show#[a,c,dx,fs,O,q,by rw[e];show h1,h2,i.mono z]
 |_=>show h.elim
def b_.step(h:b_ K H0 Z H L)(z:iu Z Z')(hk:∀e∈L,∀a,mj e=!a->H' a=H a/\Z'.z a=J):b_ K H0 Z' H' L:=by
 show#[λe F=>?_,h.2];let q:=h.1 e F;let(v,l):=e;cases l with
 |none=>trivial
 |some l=>
  cases l with
  |sh p=>let(x,i,D):=q;show#[x,i,D.mono z]
  |own p=>
   let(a,i,D,e3,N):=q;let j:=i;subst j;let(W,Q):=hk _ F a O;show#[a,O,D.keep z W,Q,N]
def jn(h:b_ K H0 Z H L)(he:e∈L)(i:mj e=!a):Z.z a=J/\H0 a=J/\∃o,H a=!o/\¬ J9 o:=by
 let(v,l):=e;let q:=h.1 _ he;cases l with
 |none=>cases v with
  |none=>cases i
  |some x=>cases x<;>cases i
 |some l=>
  cases l with
  |sh p=>cases v with
   |none=>cases i
   |some x=>cases x<;>cases i
  |own p=>
   let(b,F,N,Q,D):=q;let j:=F;subst j;cases i;show#[Q,D,N.some]
theorem b_.new(h:b_ K H0 Z H L)(j:jQ H0 Z0 Z H)(q:H a=J)(N:qU K Z (dW H a o) a p):jQ H0 Z0 Z (dW H a o)/\b_ K H0 Z (dW H a o) ((!(.ref a),!(Zs p))::L):=by
 let D:=j.zh.free q;let F:=j.h0.free q;show#[#[λb u e=>by rw[cV (fD e D)];show j.zh b u e,λb u e=>by rw[cV (fD e F)];show j.h0 b u e,j.z0,j.new],?_];have W:∀e∈L,∀b,mj e=!b->b≠a:=λe i b z=>by let(_,_,o',Q,_):=jn h i z;show fD Q q
 let st:=h.step (H':=dW H a o) (iu.refl Z) λe i b z=>#[cV ∅,(jn h i z).1];show#[λe i=>?_,?_]
 . obtain rfl|i:=d5.mp i
   . show#[a,O,N,D,F]
   . show st.1 e i
 . show ip.mpr #[λhm=>?_,st.2];grind
abbrev ZG.put(Z:ZG)(a:Addr)(o:HO):ZG:=#[dW Z.z a o,Z.g]
def b_.newF(h:b_ K H0 Z H L)(i:jQ H0 Z0 Z H)(F:H a=J):jQ H0 Z0 (Z.put a o) (dW H a o)/\iu Z (Z.put a o)/\b_ K H0 (Z.put a o) (dW H a o) L:=by
 let N:=i.zh.free F;let h0:=i.h0.free F;have sz:eY_ Z.z (dW Z.z a o):=λb u e=>by rw[cV (fD e N)];show e
 have D:iu Z (Z.put a o):=#[sz,kP _];show#[#[λb u e=>?_,λb u e=>by rw[cV (fD e h0)];show i.h0 b u e,i.z0.trans D,λb u e=>?_],D,?_]
 . have e:dW Z.z a o b=!u:=e;unfold dW at e ⊢;split
   . grind
   . rename_i q;rw[dQ q]at e;show i.zh b u e
 . have e:dW Z.z a o b=!u:=e;unfold dW at e;split at e
   . grind
   . show i.new b u e
 . show h.step D λe W b Q=>?_;let(h1,h2,o',h3,_):=jn h W Q;let j:=fD h3 F;show#[cV j,by show dW Z.z a o b=J;rw[cV j];show h1]
def b_.freeze(h:b_ K H0 Z H ((v,!(Zs p))::L))(i:jQ H0 Z0 Z H):∃Z',iu Z Z'/\Z'.g=Z.g/\jQ H0 Z0 Z' H/\b_ K H0 Z' H ((v,!(Zp p))::L):=by
 let(a,e1,e2,e3,e4):=h.1 _ ed;let D:=e1;subst D;let(o,ho,_):=e2.some;have sz:eY_ Z.z (dW Z.z a o):=λb u e=>by rw[cV (fD e e3)];show e
 have j:iu Z (Z.put a o):=#[sz,kP _];let Q:=h.2;let W:=h.sub (gI _ _);show#[Z.put a o,j,O,#[λb u e=>?_,i.h0,i.z0.trans j,λb u e=>?_],λe N=>?_,(ip.mp Q).2]
 . have e:dW Z.z a o b=!u:=e;unfold dW at e;split at e
   . grind
   . show i.zh b u e
 . have e:dW Z.z a o b=!u:=e;unfold dW at e;split at e
   . grind
   . show i.new b u e
 . obtain rfl|N:=d5.mp N
   . show#[.ref a,O,e2.rep j (by show dW Z.z a o a=_;rw[bZ,ho])]
   . show(W.step j λe' F b hb=>#[O,?_]).1 e N;have:b≠a:=λq=>by rw[q]at hb;show(ip.mp Q).1 ∅
     show dW Z.z a o b=J;rw[cV this];show(jn W F hb).1
def b_.write(h:b_ K H0 Z H ((!(.ref a),!(Zs p))::L))(i:jQ H0 Z0 Z H)(hq:qU K Z (dW H a o) a q):jQ H0 Z0 Z (dW H a o)/\b_ K H0 Z (dW H a o) ((!(.ref a),!(Zs q))::L):=by
 let(b,e1,e2,Q,D):=h.1 _ ed;cases e1;let N:=h.2;let W:=h.sub (gI _ _);show#[#[λb u e=>by rw[cV (fD e Q)];show i.zh b u e,λb u e=>by rw[cV (fD e D)];show i.h0 b u e,i.z0,i.new],λe z=>?_,N];obtain rfl|z:=d5.mp z
 . show#[a,O,hq,Q,D]
 . show(W.step (iu.refl Z) λe' j b F=>#[cV λq=>?_,(jn W j F).1]).1 e z;rw[q]at F;show(ip.mp N).1 ∅
end
variable {K:FG}{H0 H:Hp}{Z0:ZG}{U:L2.St}{Y:Ev}{pd:Pd}
theorem Af{α:Type}:∀{l:List α}{i:Nat}{a:α},l[i]?=!a->∃ZN,List.Perm l (a::ZN)/\∀b,List.Perm (l.set i b) (b::ZN)
 |[],i,a=>λh=>by grind
 |x::r,0,a=>λh=>by simp at h;subst h;show#[r,List.Perm.refl _,λb=>List.Perm.refl _]
 |x::r,i+1,a=>λh=>by let(ZN,h1,h2):=Af (by simpa using h);show#[x::ZN,(h1.cons x).trans (List.Perm.swap _ _ _),λb=>?_];show((h2 b).cons x).trans (List.Perm.swap _ _ _)
theorem G4{α β:Type}:∀(l:List α)(r:List β)(i:Nat)(a:α)(b:β),(l.set i a).zip (r.set i b)=(l.zip r).set i (a,b)
 |[],r,i,a,b=>by simp
 |x::l,[],i,a,b=>by simp
 |x::l,y::r,0,a,b=>by simp
 |x::l,y::r,i+1,a,b=>by simp[G4 l r i a b]
theorem zip_get{α β:Type}:∀{l:List α}{r:List β}{i:Nat}{a:α}{b:β},l[i]?=!a->r[i]?=!b->(l.zip r)[i]?=!(a,b)
 |[],r,i,a,b,h,g=>by simp at h
 |x::l,[],i,a,b,h,g=>by simp at g
 |x::l,y::r,0,a,b,h,g=>by simp at h g;simp[h,g]
 |x::l,y::r,i+1,a,b,h,g=>by have:=zip_get (l:=l) (r:=r) (i:=i) (by simpa using h) (by simpa using g);simpa using this
theorem kK{α:Type}:∀{l:List α}{i:Nat}{a:α},l[i]?=!a->l.set i a=l
 |[],i,a=>λh=>by simp at h
 |x::r,0,a=>λh=>by simp at h;subst h;simp
 |x::r,i+1,a=>λh=>by simp[kK (by simpa using h)]
noncomputable def Ev.set (Y:Ev) (i:Nat) (x:Option Lc):Ev:=#[Y.vs.set i x,Y.mu]
section
variable {K:FG}{H0 H H':Hp}{Z0 Z:ZG}{U:L2.St}{Y:Ev}{pd iF:Pd}{v w:V}{l:Lc}{p:PV}{L:Sl}{g:List Addr}
def dD:List.Perm (sl g U Y ((v,l)::pd)) ((!v,!l)::sl g U Y pd):=by show(List.perm_middle.append_left _).trans gW
def SR.top(h:SR K H0 Z0 U H Y ((v,l)::pd)):-U=-Y.vs/\∃Z,-Y.mu=-Z.g/\jQ H0 Z0 Z H/\b_ K H0 Z H ((!v,!l)::sl Z.g U Y pd):=
 let #[e,Z,hg,z,s]:=h
 #[e,Z,hg,z,s.perm dD.symm]
def SR.mk(e:-U=-Y.vs)(i:-Y.mu=-Z.g)(z:jQ H0 Z0 Z H)(s:b_ K H0 Z H ((!v,!l)::sl Z.g U Y pd)):SR K H0 Z0 U H Y ((v,l)::pd):=#[e,Z,i,z,s.perm dD]
def SR.pop(h:SR K H0 Z0 U H Y ((v,l)::pd)):SR K H0 Z0 U H Y pd:=
 let #[e,Z,hg,z,s]:=h.top
 #[e,Z,hg,z,s.sub (gI _ _)]
theorem SR.perm(h:SR K H0 Z0 U H Y pd)(q:List.Perm iF pd):SR K H0 Z0 U H Y iF:=
 let #[e,Z,hg,z,s]:=h
 #[e,Z,hg,z,s.perm (((q.map _).append_left _).append_left _)]
theorem SR.swap(h:SR K H0 Z0 U H Y ((v,l)::(w,l2)::pd)):SR K H0 Z0 U H Y ((w,l2)::(v,l)::pd):=h.perm (List.Perm.swap _ _ _)
theorem SR.freeze(h:SR K H0 Z0 U H Y ((v,l)::pd)):SR K H0 Z0 U H Y ((v,Zp l.pv)::pd):=by
 cases l with
 |sh p=>show h
 |own p=>
  let(e,Z,q,z,s):=h.top;let(Z',_,j,i,s'):=s.freeze z;show .mk e ∅ i ?_;rw[j];show s'
def SR.sh(h:SR K H0 Z0 U H Y ((v,Zp p)::pd)):-U=-Y.vs/\∃Z,-Y.mu=-Z.g/\jQ H0 Z0 Z H/\d4 K Z p v/\b_ K H0 Z H (sl Z.g U Y pd):=by let(e,Z,i,z,s):=h.top;let(x,q,j):=s.1 _ ed;cases q;show#[e,Z,i,z,j,s.sub (gI _ _)]
def SR.rep(h:SR K H0 Z0 U H Y ((v,Zp p)::pd)):∃Z:ZG,eY_ Z.z H/\d4 K Z p v:=let #[_,Z,_,z,r,_]:=h.sh;#[Z,z.zh,r]
def SR.repH(h:SR K H0 Z0 U H Y ((v,Zp p)::pd)):∃g,d4 K #[H,g] p v:=let #[_,Z,_,z,r,_]:=h.sh;#[Z.g,r.mono (Z':=#[H,Z.g]) #[z.zh,kP _]]
def b_.consS(s:b_ K H0 Z H L)(r:d4 K Z p v):b_ K H0 Z H ((!v,!(Zp p))::L):=by
 show#[λe i=>?_,?_]
 . obtain rfl|i:=d5.mp i
   . show#[v,O,r]
   . show s.1 e i
 . have:mj (!v,!(Lc.sh p))=J:=by cases v<;>rfl
   rw[jS this];show s.2
def SR.scal(h:SR K H0 Z0 U H Y pd)(r:∀Z,d4 K Z p v):SR K H0 Z0 U H Y ((v,Zp p)::pd):=
 let #[e,Z,hg,z,s]:=h
 .mk e hg z (s.consS (r Z))
def Ly(q:-U=-Y.vs)(e:Y.vs[i]?=!o):∃ZN:Sl,∃x,U[i]?=!x/\(∀g pd,List.Perm (sl g U Y pd) ((x,o)::(cel g Y.mu++(ZN++pd.map λe=>(!e.1,!e.2)))))/\
 ∀g pd y o',List.Perm (sl g (U.set i y) (Y.set i o') pd) ((y,o')::(cel g Y.mu++(ZN++pd.map λe=>(!e.1,!e.2)))):=by
 have hi:i< -U:=by rw[q];show(fS.mp e).1
 let j:=gz hi;let(ZN,h1,h2):=Af (zip_get j e);show#[ZN,U[i],j,λg pd=>?_,λg pd y o'=>?_]
 . show((h1.append_right _).append_left _).trans gW
 . show List.Perm (cel g Y.mu++((U.set i y).zip (Y.vs.set i o')++_)) _;rw[G4];show(((h2 _).append_right _).append_left _).trans gW
def Ev.set_mu:(Y.set i x).mu=Y.mu:=rfl
def Ev.set_len:(Y.set i x).vs.length=-Y.vs:=by show -(Y.vs.set i x)=_;rw[nv]
def SR.var(h:SR K H0 Z0 U H Y pd)(e:Y.vs[i]?=!(!l)):∃v,U[i]?=!(!v)/\SR K H0 Z0 U H (Y.set i (!(Zp l.pv))) ((v,Zp l.pv)::pd):=by
 let(W,Z,hg,z,s):=h;let(ZN,x,Q,h1,h2):=Ly W e;let F:=s.perm (h1 Z.g pd).symm;have D:-U=(Y.set i (!(Zp l.pv))).vs.length:=by rw[Ev.set_len];show W
 have fin:∀{Z':ZG}{v:V},Z'.g=Z.g->jQ H0 Z0 Z' H->x=!v->b_ K H0 Z' H ((x,!(Zp l.pv))::(cel Z.g Y.mu++(ZN++pd.map λe=>(!e.1,!e.2))))->d4 K Z' l.pv v->SR K H0 Z0 U H (Y.set i (!(Zp l.pv))) ((v,Zp l.pv)::pd):=
  λ{Z' v} q z ev s2 r=>by let p2:=h2 Z.g pd x (!(Zp l.pv));rw[kK Q]at p2;show .mk D (by rw[q,Ev.set_mu];show hg) z ?_;rw[q];show(s2.perm p2).consS r
 cases l with
 |sh p=>
  let(v,j,N):=F.1 _ ed;show#[v,Q.trans (congrArg some j),fin O z j F N]
 |own p=>
  let(Z',sz,q,z',s'):=F.freeze z;let(v,j,N):=s'.1 _ ed;show#[v,Q.trans (congrArg some j),fin q z' j s' N]
def SR.store(h:SR K H0 Z0 U H Y ((v,l)::pd))(hi:i< -Y.vs):SR K H0 Z0 (U.set i (!v)) H (Y.set i (!l)) pd:=by let(j,Z,q,z,s):=h.top;let D:=gz hi;let(ZN,x,F,h1,h2):=Ly j D;show#[by rw[nv,Ev.set_len];show j,Z,q,z,?_];show(b_.sub (s.perm ((h1 Z.g pd).symm.cons _)) ?_).perm (h2 Z.g pd (!v) (!l));grind
def SR.take(h:SR K H0 Z0 U H Y pd)(e:Y.vs[i]?=!(!l)):∃v,U[i]?=!(!v)/\SR K H0 Z0 U H (Y.set i J) ((v,l)::pd):=by
 let(N,Z,W,z,s):=h;let(ZN,x,Q,h1,h2):=Ly N e;let D:=s.perm (h1 Z.g pd).symm;obtain⟨v,hv⟩:∃v,x=!v:=by
  let q:=D.1 _ ed;cases l with
  |sh p=>let(x,j,_):=q;show#[x,j]
  |own p=>let(a,j,_):=q;show#[_,j]
 subst hv;show#[v,Q,.mk (by rw[Ev.set_len];show N) W z ?_];let p2:=h2 Z.g pd (!v) J;rw[kK Q]at p2;show b_.perm ?_ (p2.cons _);have ht:b_ K H0 Z H ((!v,J)::(!v,!l)::(cel Z.g Y.mu++(ZN++pd.map λe=>(!e.1,!e.2)))):=by
  show#[λe F=>?_,?_]
  . obtain rfl|F:=d5.mp F
    . trivial
    . show D.1 e F
  . have:mj (!v,J)=J:=by cases v<;>rfl
    rw[jS this];show D.2
 show ht.perm (List.Perm.swap _ _ _)
def SR.put(h:SR K H0 Z0 U H Y ((v,l)::pd))(e:U[i]?=!(!v)):SR K H0 Z0 U H (Y.set i (!l)) pd:=by
 have hi:i< -Y.vs:=by rw[<-h.1];show(fS.mp e).1
 have:=h.store hi;rw[kK e]at this;show this
end
abbrev EF:=Ev->Option (Lc×Ev)
abbrev TF:=Ev->Option (Bool×Ev)
abbrev AF:=Ev->Option (List Lc×Ev)
inductive Fl where
 |nx (Y:Ev)
 |rt (r:Lc) (Y:Ev)
 |bk (Y:Ev)
 |ct (Y:Ev)
abbrev SF:=Ev->Option Fl
def tP(K:FG)(f:EF):TE:=λU H Q=>∃H0 Z0 Y pd r Y',SR K H0 Z0 U H Y pd/\f Y=!(r,Y')/\∀v H',SR K H0 Z0 U H' Y' ((v,r)::pd)->Q v H'
def jw(K:FG)(f:TF):TT:=λU H Q=>∃H0 Z0 Y pd b Y',SR K H0 Z0 U H Y pd/\f Y=!(b,Y')/\∀H',SR K H0 Z0 U H' Y' pd->Q b H'
def jR(K:FG)(f:AF):TA:=λU H Q=>∃H0 Z0 Y pd ls Y',SR K H0 Z0 U H Y pd/\f Y=!(ls,Y')/\∀vs H',-vs=-ls->SR K H0 Z0 U H' Y' (vs.zip ls++pd)->Q vs H'
def Lz(K:FG)(H0:Hp)(Z0:ZG)(pd:Pd)(D:iq):Fl->Prop
 |.nx Y'=>∀U' H',SR K H0 Z0 U' H' Y' pd->D.nx U' H'
 |.rt r Y'=>∀v U' H',SR K H0 Z0 U' H' Y' ((v,r)::pd)->D.rt v H'
 |.bk Y'=>∀U' H',SR K H0 Z0 U' H' Y' pd->D.bk U' H'
 |.ct Y'=>∀U' H',SR K H0 Z0 U' H' Y' pd->D.ct U' H'
def iw(K:FG)(g:SF):TS:=λD U H=>∃H0 Z0 Y pd fl,SR K H0 Z0 U H Y pd/\g Y=!fl/\Lz K H0 Z0 pd D fl
section
variable {X:Cx}{e:Expr}{es:List Expr}{st:Stmt}{AJ:List Stmt}
def PE.imp(h:PE X e t)(i:∀U H Q,t' U H Q->t U H Q):PE X e t':=λa_ s U H Q I q=>h a_ s U H Q I (i U H Q q)
def PT.imp(h:PT X e t)(i:∀U H Q,t' U H Q->t U H Q):PT X e t':=λa_ s U H Q I q=>h a_ s U H Q I (i U H Q q)
def PW.imp(h:PW X e t)(i:∀U H Q,t' U H Q->t U H Q):PW X e t':=λwh a_ s U H Q I q=>h wh a_ s U H Q I (i U H Q q)
def PA.imp(h:PA X es t)(i:∀U H Q,t' U H Q->t U H Q):PA X es t':=λpos a_ s U H Q I q=>h pos a_ s U H Q I (i U H Q q)
def PS.imp(h:PS X st t)(i:∀D U H,t' D U H->t D U H):PS X st t':=λa_ s U H D I q=>h a_ s U H D I (i D U H q)
def jP.imp(h:jP X AJ t)(i:∀D U H,t' D U H->t D U H):jP X AJ t':=λa_ s U H D I q=>h a_ s U H D I (i D U H q)
def aa(i:Nat):EF:=λY=>match Y.vs[i]? with
 |some (!l)=>!(Zp l.pv,Y.set i (!(Zp l.pv)))
 |_=>J
def eC(p:PV):EF:=λY=>!(Zp p,Y)
abbrev bh(i:Int):=eC (ZI i)
abbrev d_(s:Str):=eC (ZH s)
def qv(h:PE X e (uH i)):PE X e (tP X.K (aa i)):=PE.imp h λU H Q q=>by
 let(H0,Z0,Y,pd,r,Y',s,f,k):=q;unfold aa at f;split at f
 . rename_i l j;cases f;let(v,h1,h2):=s.var j;show#[v,h1,k v H h2]
 . cases f
def qc(h:PE X e (tC v))(r:∀Z,d4 X.K Z p v):PE X e (tP X.K (eC p)):=PE.imp h λU H Q q=>by let(H0,Z0,Y,pd,l,Y',s,f,k):=q;cases f;show k v H (s.scal r)
def gF:∀Z,d4 K Z (ZI i) (.int i):=λZ=>by unfold d4;rfl
def pq:∀Z,d4 K Z (ZH i) (.str i):=λZ=>by unfold d4;rfl
def mq:∀Z,d4 K Z (.bl i) (.bl i):=λZ=>by unfold d4;rfl
def Bq:∀Z,d4 K Z .non .non:=λZ=>by unfold d4;rfl
def pA(K:FG)(r:R2)(g:PV->PV->Option Lc):Prop:=∀H0 Z0 U Y pd H v w x y l Q,SR K H0 Z0 U H Y ((w,Zp y)::(v,Zp x)::pd)->g x y=!l->(∀u H',SR K H0 Z0 U H' Y ((u,l)::pd)->Q u H')->r v w H Q
def au(g:PV->PV->Option Lc)(fa fb:EF):EF:=λY=>(fa Y).bind λx=>(fb x.2).bind λy=>(g x.1.pv y.1.pv).map λl=>(l,y.2)
def Xj(h:au g fa fb Y=!(l,Y')):∃x Y1 y,fa Y=!(x,Y1)/\fb Y1=!(y,Y')/\g x.pv y.pv=!l:=by
 unfold au at h;cases h1:fa Y with
 |none=>grind
 |some x=>
  rw[h1,eH]at h;cases h2:fb x.2 with
  |none=>grind
  |some y=>
   rw[h2,eH]at h;cases i:g x.1.pv y.1.pv with
   |none=>grind
   |some z=>
    grind
def LC(hs:pA X.K r g):∀U H Q,tP X.K (au g fa fb) U H Q->T3 r (tP X.K fa) (tP X.K fb) U H Q:=λU H Q q=>by let(H0,Z0,Y,pd,l,Y',s,f,k):=q;let(x,Y1,y,h1,h2,i):=Xj f;show#[H0,Z0,Y,pd,x,Y1,s,h1,λv H1 D=>#[H0,Z0,Y1,_,y,Y',D,h2,λw H2 z=>?_]];show hs H0 Z0 U Y' pd H2 v w x.pv y.pv l Q (z.freeze.swap.freeze.swap) i λu H' j=>k u H' j
def bj(j:ju X (binaryOp op) r)(hs:pA X.K r g)(i:PE X a (tP X.K fa))(q:PE X b (tP X.K fb)):PE X (.BinOp a op b pos) (tP X.K (au g fa fb)):=
 PE.imp (HV j i q) (LC hs)
def Xk(j:ju X (compareOp op) r)(hs:pA X.K r g)(i:PE X a (tP X.K fa))(q:PE X b (tP X.K fb))(z:behindInMarks op b=M):PE X (.Compare a [op] [b] pos) (tP X.K (au g fa fb)):=
 PE.imp (ZL j i q z) (LC hs)
noncomputable def CZ (C:Int->Int->Bool) (g:Int->Int->PV):PV->PV->Option Lc
 |ZI i,ZI j=>if C i j=G then !(Zp (g i j)) else J
 |_,_=>J
def LK(h:CZ C g x y=!l):∃i j,x=ZI i/\y=ZI j/\C i j=G/\l=Zp (g i j):=by
 cases x with
 |int i=>
  cases y with
  |int j=>
   have h':(if C i j=G then !(Lc.sh (g i j)) else J)=!l:=h;split at h'
   . grind
   . cases h'
  |_=>cases h
 |_=>cases h
def cF(h:d4 K Z (ZI i) v):v=.int i:=by  show h
def dN(h:d4 K Z (ZH i) v):v=.str i:=by  show h
def ji(h:d4 K Z (.bl i) v):v=.bl i:=by  show h
def jL(h:d4 K Z .non v):v=.non:=by  show h
def Ka(N:∀i j,C i j=G->C' i j)(D:∀i j Z,d4 K Z (g i j) (gV i j)):pA K (rI C' gV) (CZ C g):=by intro H0 Z0 U Y pd H v w x y l Q s e k;let(i,j,rfl,rfl,c,rfl):=LK e;let(_,q):=s.repH;let(_,z):=s.pop.repH;let W:=cF q;let F:=cF z;show#[i,j,F,W,N i j c,k _ H (s.pop.pop.scal (D i j))]
def LR(D:∀i j Z,d4 K Z (g i j) (gV i j)):pA K (zG gV) (CZ (λ_ _=>G) g):=by intro H0 Z0 U Y pd H v w x y l Q s e k;let(i,j,rfl,rfl,c,rfl):=LK e;let(_,q):=s.repH;let(_,z):=s.pop.repH;show#[i,j,cF z,cF q,k _ H (s.pop.pop.scal (D i j))]
end
section
variable {X:Cx}
section
variable {K:FG}{H0 H H':Hp}{Z0 Z:ZG}{U:L2.St}{Y:Ev}{pd iF:Pd}{v w:V}{l:Lc}{p:PV}{g:List Addr}
def SR.newO(h:SR K H0 Z0 U H Y pd)(i:H a=J)(j:∀Z,jQ H0 Z0 Z H->b_ K H0 Z H (sl Z.g U Y pd)->qU K Z (dW H a o) a p):SR K H0 Z0 U (dW H a o) Y ((.ref a,Zs p)::pd):=by let(e,Z,q,z,s):=h;let(D,s'):=s.new z i (j Z z s);show .mk e q D s'
def Kc{α:Type}(A B C:List α):List.Perm (A++(B++C)) (B++(A++C)):=by rw[<-fm A B C,<-fm B A C];show List.perm_append_comm.append_right _
def U8:List.Perm (sl g U Y (pe++pd)) (pe.map (λe=>((some e.1:Option V),(some e.2:Option Lc)))++sl g U Y pd):=by unfold sl;rw[fx];show((Kc _ _ _).append_left _).trans (Kc _ _ _)
theorem SR.freezeAll:∀{vs:List V}{ls:List Lc}{pd:Pd},SR K H0 Z0 U H Y (vs.zip ls++pd)->SR K H0 Z0 U H Y (vs.zip (ls.map λl=>.sh l.pv)++pd)
 |[],ls,pd=>λh=>by simpa using h
 |v::vs,[],pd=>λh=>by grind
 |v::vs,l::ls,pd=>λh=>by let h1:=h;let h2:=h1.freeze.perm gW;let i:=SR.freezeAll h2;show i.perm gW.symm
theorem b_.repl:∀{vs:List V}{ps:List PV},-vs=-ps->b_ K H0 Z H ((vs.zip (ps.map λp=>Lc.sh p)).map (λe=>(!e.1,!e.2))++L)->aK K Z ps vs
 |[],[]=>λ_ _=>.nil
 |v::vs,p::ps=>λe h=>by let h1:=h;let(x,j,i):=h1.1 _ ed;cases j;show aK.cons i (b_.repl ∅ (h1.sub (gI _ _)))
 |[],p::ps=>λe _=>by grind
 |v::vs,[]=>λe _=>by grind
theorem SR.repl{vs:List V}{ls:List Lc}(h:SR K H0 Z0 U H Y (vs.zip ls++pd))(e:-vs=-ls):-U=-Y.vs/\∃Z,-Y.mu=-Z.g/\jQ H0 Z0 Z H/\aK K Z (ls.map Lc.pv) vs/\b_ K H0 Z H (sl Z.g U Y pd):=by
 let(i,Z,j,z,s):=h.freezeAll;have D:(ls.map λl=>Lc.sh l.pv)=(ls.map Lc.pv).map λp=>Lc.sh p:=by rw[im];rfl
 rw[D]at s;have q:List.Perm (sl Z.g U Y (vs.zip ((ls.map Lc.pv).map λp=>Lc.sh p)++pd)) ((vs.zip ((ls.map Lc.pv).map λp=>Lc.sh p)).map (λe=>(!e.1,!e.2))++sl Z.g U Y pd):=U8;let s':=s.perm q.symm;show#[i,Z,j,z,b_.repl ∅ s',s'.sub (mM _ _)]
end
def yZ{α:Type}{l:List α}(h:-l=1):∃a,l=[a]:=List.length_eq_one_iff.mp h
def n5{α:Type}{l:List α}(h:-l=2):∃a b,l=[a,b]:=by
 cases l with
 |nil=>cases h
 |cons a l=>let(b,rfl):=yZ (pc h);grind
def AK{α:Type}{l:List α}(h:-l=3):∃a b c,l=[a,b,c]:=by
 cases l with
 |nil=>cases h
 |cons a l=>let(b,c,rfl):=n5 (pc h);grind
def Oc{α:Type}{l:List α}(h:-l=4):∃a b c d,l=[a,b,c,d]:=by
 cases l with
 |nil=>cases h
 |cons a l=>let(b,c,d,rfl):=AK (pc h);grind
def Od{α:Type}{l:List α}(h:-l=5):∃a b c d e,l=[a,b,c,d,e]:=by
 cases l with
 |nil=>cases h
 |cons a l=>let(b,c,d,e,rfl):=Oc (pc h);show#[a,b,c,d,e,rfl]
def ao:AF:=λY=>!([],Y)
noncomputable def aj (f:EF) (g:AF):AF:=λY=>(f Y).bind λx=>(g x.2).map λy=>(x.1::y.1,y.2)
def aq:PA X [] (jR X.K ao):=PA.imp zK λU H Q q=>by let(H0,Z0,Y,pd,l,Y',s,f,k):=q;cases f;show k [] H O s
def ak(i:PE X e (tP X.K f))(F:PA X es (jR X.K g))(hs:starEach (e::es) X.env=(M,eval e X.env)::starEach es X.env:=by rfl):PA X (e::es) (jR X.K (aj f g)):=PA.imp (wz i F hs) λU H Q q=>by
 let(H0,Z0,Y,pd,l,Y',s,h,k):=q;unfold aj at h;cases h1:f Y with
 |none=>rw[h1]at h;cases h
 |some x=>
  rw[h1,eH]at h;cases h2:g x.2 with
  |none=>rw[h2]at h;cases h
  |some y=>
   rw[h2]at h;cases h;show#[H0,Z0,Y,pd,x.1,x.2,s,h1,λv H1 D=>#[H0,Z0,x.2,_,y.1,y.2,D,h2,λz H2 N j=>?_]];show k (v::z) H2 ∅ (j.perm gW.symm)
def cu(g:AF):EF:=λY=>(g Y).bind λy=>if -y.1<=1000 then !(Zs (R (y.1.map Lc.pv)),y.2) else J
def aX(g:AF):EF:=λY=>(g Y).bind λy=>if -y.1<=1000 then !(Zp (ZB (y.1.map Lc.pv)),y.2) else J
def gp(h:n<=100000):n<=sizeLine:=by rw[sizeLine_eq];lia
def dz(h:PA X es (jR X.K g)):PE X (.List es pos) (tP X.K (cu g)):=PE.imp (IN h) λU H Q q=>by
 let(H0,Z0,Y,pd,l,Y',s,f,k):=q;unfold cu at f;cases h2:g Y with
 |none=>rw[h2]at f;cases f
 |some y=>
  rw[h2,eH]at f;split at f
  . cases f;show#[H0,Z0,Y,pd,y.1,y.2,s,h2,λW H2 e2 N=>#[gp (),λp hp=>k _ _ ?_]];let(j,Z,D,z,r,i):=N.repl e2;let(F,s'):=i.new (p:=R (y.1.map Lc.pv)) z hp #[W,bZ,r];show .mk j D F s'
  . cases f
def cP{x1}(h:PA X es (jR X.K g)):PE X (.Tuple es x1 pos) (tP X.K (aX g)):=PE.imp (IM h) λU H Q q=>by
 let(H0,Z0,Y,pd,l,Y',s,f,k):=q;unfold aX at f;cases h2:g Y with
 |none=>rw[h2]at f;cases f
 |some y=>
  rw[h2,eH]at f;split at f
  . cases f;show#[H0,Z0,Y,pd,y.1,y.2,s,h2,λj H2 e2 W=>#[gp (),λp hp=>k _ _ ?_]];let(D,Z,F,z,r,i):=W.repl e2;let(N,sz,s'):=i.newF z hp;show .mk (Z:=Z.put p (.tup j)) D F N (s'.consS ?_);show#[p,j,O,cW.of bZ,r.mono sz]
  . cases f
def tT(f:EF)(tr:PV->Option Bool):TF:=λY=>(f Y).bind λx=>(tr x.1.pv).map λb=>(b,x.2)
noncomputable def qW:PV->Option Bool
 |.non=>!M
 |.bl b=>!b
 |ZI i=>!(i != 0)
 |ZH x=>if -x<=100000 then !((-x:Int) != 0) else J
 |ZB ps=>!(not ps.isEmpty)
 |R ps=>!(not ps.isEmpty)
 |.dk ks ps=>!(not ps.isEmpty)
 |_=>J
def Oe(r:d4 K #[H,g] p v)(h:qW p=!b):Wn K v H b:=by
 cases p with
 |non=>have:=jL r;subst this;cases h;show O
 |bl c=>have:=ji r;subst this;cases h;show O
 |int i=>have:=cF r;subst this;cases h;show O
 |str x=>
  have:=dN r;subst this;have h:(if -x<=100000 then !((-x:Int) != 0) else J)=!b:=h;split at h
  . rename_i F;cases h;show#[gp F,O]
  . cases h
 |tup ps=>
  let(a,j,rfl,h1,h2):=r;cases h;show YY (Zl #[j,h1,?_]);have:=-h2;grind
 |lst ps=>
  let(a,j,rfl,h1,h2):=r;cases h;show Zl #[j,h1,?_];have:=-h2;grind
 |dk ks ps=>
  let(a,q,rfl,h1,W,h2):=r;cases h;show YY (YY #[q,h1,?_]);have:=-h2;grind
 |_=>cases h
def Qw(h:tT f tr Y=!(b,Y')):∃x,f Y=!(x,Y')/\tr x.pv=!b:=by
 unfold tT at h;cases h1:f Y with
 |none=>grind
 |some x=>
  rw[h1,eH]at h;cases h2:tr x.1.pv with
  |none=>grind
  |some y=>grind
def Fo(z:PE X a (tP X.K f))(he:∀i,isTrue a X.env i=(do let v <-i;standAt a.pos;holding [v] (truthy v))):PT X a (jw X.K (tT f qW)):=PT.imp (Wo z he) λU H Q q=>by let(H0,Z0,Y,pd,b,Y',s,D,k):=q;let(x,h1,h2):=Qw D;show#[H0,Z0,Y,pd,x,Y',s,h1,λv H1 j=>#[b,Oe j.freeze.repH.choose_spec h2,k H1 j.pop]]
def aY:PV->Option Bool
 |.bl b=>!b
 |_=>J
def Of(j:PT X a (YT (tP X.K f))):PT X a (jw X.K (tT f aY)):=PT.imp j λU H Q q=>by
 let(H0,Z0,Y,pd,b,Y',s,z,k):=q;let(x,h1,h2):=Qw z;show#[H0,Z0,Y,pd,x,Y',s,h1,λv H1 i=>#[b,?_,k H1 i.pop]];let(_,r):=i.freeze.repH;cases e:x.pv with
 |bl c=>rw[e]at h2 r;cases h2;show ji r
 |_=>rw[e]at h2;cases h2
def bN(j:ju X (compareOp op) r)(hs:pA X.K r g)(i:PE X a (tP X.K fa))(z:PE X b (tP X.K fb))(D:behindInMarks op b=M):PT X (.Compare a [op] [b] pos) (jw X.K (tT (au g fa fb) aY)):=
 Of (PT.imp (ZM j i z D) λU H Q q=>LC hs U H _ q)
def eE(f g:TF):TF:=λY=>(f Y).bind λx=>if x.1=G then g x.2 else !(M,x.2)
def tO(f g:TF):TF:=λY=>(f Y).bind λx=>if x.1=G then !(G,x.2) else g x.2
noncomputable def Br (f:TF):TF:=λY=>(f Y).map λx=>(not x.1,x.2)
def Og:∀U H Q,jw X.K (eE f g) U H Q->xt (jw X.K f) (jw X.K g) U H Q:=λU H Q q=>by
 let(H0,Z0,Y,pd,b,Y',s,h,k):=q;unfold eE at h;cases h1:f Y with
 |none=>grind
 |some x=>
  rw[h1,eH]at h;show#[H0,Z0,Y,pd,x.1,x.2,s,h1,λH1 i=>?_];dsimp only;split
  . rename_i c;rw[dA c]at h;show#[H0,Z0,x.2,pd,b,Y',i,h,k]
  . grind
def Oh:∀U H Q,jw X.K (tO f g) U H Q->xw (jw X.K f) (jw X.K g) U H Q:=λU H Q q=>by
 let(H0,Z0,Y,pd,b,Y',s,h,k):=q;unfold tO at h;cases h1:f Y with
 |none=>grind
 |some x=>
  rw[h1,eH]at h;show#[H0,Z0,Y,pd,x.1,x.2,s,h1,λH1 i=>?_];dsimp only;split
  . grind
  . rename_i c;rw[dQ c]at h;show#[H0,Z0,x.2,pd,b,Y',i,h,k]
def mX(i:PT X a (jw X.K f)):PW X (.BoolOp .And [a] pos) (jw X.K f):=ZF i
def Fp(i:PT X a (jw X.K f)):PW X (.BoolOp .Or [a] pos) (jw X.K f):=Gz i
def pO{dP:List Expr}(i:PT X a (jw X.K f))(j:PW X (.BoolOp .And (b::dP) pos) (jw X.K g)):PW X (.BoolOp .And (a::b::dP) pos) (jw X.K (eE f g)):=PW.imp (GA i j) Og
def Ke{dP:List Expr}(i:PT X a (jw X.K f))(j:PW X (.BoolOp .Or (b::dP) pos) (jw X.K g)):PW X (.BoolOp .Or (a::b::dP) pos) (jw X.K (tO f g)):=PW.imp (GB i j) Oh
def On(i:PT X a (jw X.K f)):PT X (.UnaryOp .Not a pos) (jw X.K (Br f)):=PT.imp (GG i) λU H Q q=>by
 let(H0,Z0,Y,pd,b,Y',s,h,k):=q;unfold Br at h;cases h1:f Y with
 |none=>grind
 |some x=>
  rw[h1]at h;cases h;show#[H0,Z0,Y,pd,x.1,x.2,s,h1,λH1 j=>k H1 j]
def Ma(f g:EF):EF:=λY=>(f Y).bind λx=>match x.1.pv with
 |.bl G=>g x.2
 |.bl M=>!(Zp (.bl M),x.2)
 |_=>J
def Op{op}(h:PE X a (tP X.K f)):PE X (.BoolOp op [a] pos) (tP X.K f):=GI h
def Oy{dP:List Expr}(j:PE X a (tP X.K f))(z:PE X (.BoolOp .And (b::dP) pos) (tP X.K g)):PE X (.BoolOp .And (a::b::dP) pos) (tP X.K (Ma f g)):=PE.imp (GN j z) λU H Q q=>by
 let(H0,Z0,Y,pd,b,Y',s,h,k):=q;unfold Ma at h;cases h1:f Y with
 |none=>grind
 |some x=>
  rw[h1,eH]at h;show#[H0,Z0,Y,pd,x.1,x.2,s,h1,λv H1 i=>?_];let(_,r):=i.freeze.repH;split at h
  . rename_i e;rw[e]at r;show#[G,ji r,?_];show#[H0,Z0,x.2,pd,b,Y',i.pop,h,k]
  . rename_i e;rw[e]at r;show#[M,ji r,?_];cases h;show k _ H1 (i.pop.scal mq)
  . cases h
def Zb(c:TF)(f g:EF):EF:=λY=>(c Y).bind λx=>if x.1=G then f x.2 else g x.2
def OA(D:PT X c (jw X.K fc))(j:PE X a (tP X.K f))(z:PE X b (tP X.K g)):PE X (.IfExp c a b pos) (tP X.K (Zb fc f g)):=PE.imp (Wg D j z) λU H Q q=>by
 let(H0,Z0,Y,pd,b,Y',s,h,k):=q;unfold Zb at h;cases h1:fc Y with
 |none=>grind
 |some x=>
  rw[h1,eH]at h;show#[H0,Z0,Y,pd,x.1,x.2,s,h1,λH1 i=>?_];dsimp only;split
  . rename_i c;rw[dA c]at h;show#[H0,Z0,x.2,pd,b,Y',i,h,k]
  . rename_i c;rw[dQ c]at h;show#[H0,Z0,x.2,pd,b,Y',i,h,k]
def bR:SF:=λY=>!(.nx Y)
def aF(f g:SF):SF:=λY=>(f Y).bind λx=>match x with
 |.nx Y'=>g Y'
 |y=>!y
def bH:jP X [] (iw X.K bR):=jP.imp ZJ λD U H q=>by let(H0,Z0,Y,pd,fl,s,h,k):=q;cases h;show k U H s
def az{st:Stmt}{dP:List Stmt}{f g:SF}(h1:PS X st (iw X.K f))(h2:jP X dP (iw X.K g)):jP X (st::dP) (iw X.K (aF f g)):=jP.imp (Wh h1 h2) λD U H q=>by
 let(H0,Z0,Y,pd,fl,s,h,k):=q;unfold aF at h;cases e:f Y with
 |none=>rw[e]at h;cases h
 |some x=>
  rw[e,eH]at h;show#[H0,Z0,Y,pd,x,s,e,?_];cases x with
  |nx Y'=>show λU' H' s'=>#[H0,Z0,Y',pd,fl,s',h,k]
  |rt r Y'=>cases h;show k
  |bk Y'=>cases h;show k
  |ct Y'=>cases h;show k
def aD{st:Stmt}(h1:PS X st (iw X.K f)):jP X [st] (iw X.K f):=ZK h1
def rW(f:EF):SF:=λY=>(f Y).map λx=>.nx x.2
def eW{α β:Type}{o:Option α}{f:α->β}{b:β}(h:o.map f=!b):∃a,o=!a/\f a=b:=by
 cases o with
 |none=>cases h
 |some a=>grind
def et{α β:Type}{o:Option α}{f:α->Option β}{b:β}(h:o.bind f=!b):∃a,o=!a/\f a=!b:=by
 cases o with
 |none=>cases h
 |some a=>grind
def G5(he:PE X e (tP X.K f))(hs:swapsWith e J pos.line X.env=pure M:=by rfl):PS X (.Expr e pos) (iw X.K (rW f)):=PS.imp (qK he hs) λD U H q=>by let(H0,Z0,Y,pd,fl,s,h,k):=q;let(x,h1,rfl):=eW h;show#[H0,Z0,Y,pd,x.1,x.2,s,h1,λv H' s'=>k U H' s'.pop]
def cI(f:EF):SF:=λY=>(f Y).map λx=>.rt x.1 x.2
def bK(he:PE X e (tP X.K f)):PS X (.Return (!e) pos) (iw X.K (cI f)):=PS.imp (Tz he) λD U H q=>by let(H0,Z0,Y,pd,fl,s,h,k):=q;let(x,h1,rfl):=eW h;show#[H0,Z0,Y,pd,x.1,x.2,s,h1,λv H' s'=>k v U H' s']
def gZ(i:Nat):SF:=λY=>match Y.vs[i]? with
 |some (!l)=>!(.rt l (Y.set i J))
 |_=>J
def gh(he:PE X e (uH i)):PS X (.Return (!e) pos) (iw X.K (gZ i)):=PS.imp (Tz he) λD U H q=>by
 let(H0,Z0,Y,pd,fl,s,h,k):=q;unfold gZ at h;split at h
 . rename_i l j;cases h;let(v,h1,h2):=s.take j;show#[v,h1,k v U H h2]
 . cases h
def cC(c:TF)(f g:SF):SF:=λY=>(c Y).bind λx=>if x.1=G then f x.2 else g x.2
def b8(F:PT X c (jw X.K fc))(j:jP X a (iw X.K f))(z:jP X b (iw X.K g)):PS X (.If c a b pos) (iw X.K (cC fc f g)):=PS.imp (G1 F j z) λD U H q=>by
 let(H0,Z0,Y,pd,fl,s,h,k):=q;let(x,h1,h2):=et h;show#[H0,Z0,Y,pd,x.1,x.2,s,h1,λH1 i=>?_];dsimp only;split
 . rename_i c;rw[dA c]at h2;show#[H0,Z0,x.2,pd,fl,i,h2,k]
 . rename_i c;rw[dQ c]at h2;show#[H0,Z0,x.2,pd,fl,i,h2,k]
def aL(i:Nat)(f:EF):SF:=λY=>(f Y).bind λx=>if i< -x.2.vs then !(.nx (x.2.set i (!x.1))) else J
def Qx{t:TS}(h:∀D U H,(tP X.K f U H λv H1=>D.nx (U.set i (!v)) H1)->t D U H):∀D U H,iw X.K (aL i f) D U H->t D U H:=λD U H q=>by
 let(H0,Z0,Y,pd,fl,s,h',k):=q;let(x,h1,h2):=et h';split at h2
 . rename_i z;cases h2;show h D U H #[H0,Z0,Y,pd,x.1,x.2,s,h1,λv H1 j=>k _ _ (j.store z)]
 . cases h2
def wI{pos pos':Pos}(z:X.N.Nodup)(hi:X.N[i]?=!x)(F:L2.Loc X.env.scope x)(he:PE X e (tP X.K f))(hs:swapsWith e (!(.Name x pos')) pos.line X.env=pure M:=by rfl)(j:X.fn x=G\/X.env.scope.names.lookup x=!.local:=by first |show Zl O |show YY O |assumption):
 PS X (.Assign [.Name x pos'] e pos) (iw X.K (aL i f)):=PS.imp (Hg z hi F he hs j) (Qx λD U H q=>q)
abbrev GF:=List PV->Mu->Option (Lc×Mu)
def my(H:Hp)(g:List Addr):Hp:=λb=>if b∈g then J else H b
def OB(h:my H g b=!o):H b=!o/\b∉g:=by
 unfold my at h;split at h
 . cases h
 . grind
def Xl(h:b∈g):my H g b=J:=by unfold my;grind
def Mf(h:b∉g):my H g b=H b:=by unfold my;grind
def AL(K:FG)(H:Hp)(Z:ZG)(g:List Addr)(H':Hp)(hU:Mu)(v:V)(r:Lc):Prop:=∃Z',-hU=-Z'.g/\jQ (my H g) Z Z' H'/\b_ K (my H g) Z' H' ((!v,!r)::cel Z'.g hU)
def bW(K:FG)(n:Nat)(g:GF):Sp:=λvs H Q _=>∃(Z:ZG)(ps:List PV)(mu:Mu)(r:Lc)(hU:Mu),-vs=n/\-mu=-Z.g/\eY_ Z.z H/\aK K Z ps vs/\b_ K (my H (uP Z.g mu)) Z H (cel Z.g mu)/\g ps mu=!(r,hU)/\∀v H',AL K H Z (uP Z.g mu) H' hU v r->Q v H'
def aN(g:GF)(a:AF):EF:=λY=>(a Y).bind λy=>(g (y.1.map Lc.pv) y.2.mu).map λr=>(r.1,#[y.2.vs,r.2])
def OC(he:e∈cel g mu):∃a,e.1=!(.ref a)/\(e.2=J\/∃p,e.2=!(Zs p)):=by
 let(h1,h2):=kz he;let(a,_,i):=fy.mp h1;let(o,_,j):=fy.mp h2;show#[a,i.symm,?_];cases o with
 |none=>grind
 |some p=>grind
def b_.cells(Q:-Y.mu=-Z.g)(s:b_ K H0 Z H (sl Z.g U Y pd)):b_ K (my H (uP Z.g Y.mu)) Z H (cel Z.g Y.mu):=by
 let z:=s.sub (j1 _ _);show#[λe q=>?_,z.2];let(a,h1,h2):=OC q;let(v,l):=e;let j:=h1;subst j;obtain h2|⟨p,h2⟩:=h2
 . let i:=h2;subst i;trivial
 . let i:=h2;subst i;let(b,N,D,F,W):=z.1 _ q;cases N;show#[a,O,D,F,Xl (ms.mpr #[_,q,O])]
def SR.called(el:-U=-Y.vs)(hg:-Y.mu=-Z.g)(z:jQ H0 Z0 Z H)(s:b_ K H0 Z H (sl Z.g U Y pd))(h:AL K H Z (uP Z.g Y.mu) H' hU v r):SR K H0 Z0 U H' #[Y.vs,hU] ((v,r)::pd):=by
 let(Z',ub,j,q):=h;let s1:=s.sub (j1 _ _);let s0:=s.sub (mM _ _);have nd:(uP Z.g Y.mu++(U.zip Y.vs++pd.map λe=>(!e.1,!e.2)).filterMap mj).Nodup:=by have:=s.2;unfold sl at this;rw[List.filterMap_append]at this;show this
 have OE:∀a∈uP Z.g Y.mu,H0 a=J:=λa D=>by let(e,i,hb):=ms.mp D;show(jn s1 i hb).2.1
 have W:eY_ H0 (my H (uP Z.g Y.mu)):=λb o e=>by rw[Mf λhm=>by rw[OE b hm]at e;cases e];show z.h0 b o e
 have z2:jQ H0 Z0 Z' H':=#[j.zh,W.trans j.h0,z.z0.trans j.z0,λb o e=>by
  obtain e|e|e:=j.new b o e
  . show z.new b o e
  . show YY (Zl (W.free e))
  . show YY (YY e)]
 have F:∀e∈(U.zip Y.vs++pd.map λe=>((some e.1:Option V),(some e.2:Option Lc))),∀a,mj e=!a->a∉uP Z.g Y.mu/\my H (uP Z.g Y.mu) a=H a:=λe i a D=>by let hn:=λhm=>(o_.mp nd).2.2 a hm a ∅ O;show#[hn,Mf hn]
 have hk:∀e∈(U.zip Y.vs++pd.map λe=>((some e.1:Option V),(some e.2:Option Lc))),∀a,mj e=!a->H' a=H a/\Z'.z a=J:=λe i a D=>by
  let(h1,h2,o,h3,h4):=jn s0 i D;let(hn,ho):=F e i a D;let h5:=j.h0 a o ∅;show#[by rw[h3];show h5,?_];cases q:Z'.z a with
  |none=>rfl
  |some u=>
   obtain e|e|e:=j.new a u q
   . grind
   . grind
   . have:=j.zh a u q;grind
 let s2:=s0.step j.z0 hk;have q':b_ K H0 Z' H' ((!v,!r)::cel Z'.g hU):=by
  show#[λe i=>?_,q.2];have:=q.1 e i;let(w,l):=e;cases l with
  |none=>trivial
  |some l=>
   cases l with
   |sh p=>show this
   |own p=>let(a,e1,e2,e3,e4):=this;show#[a,e1,e2,e3,W.free e4]
 have dis:∀e∈((!v,!r)::cel Z'.g hU),∀a,mj e=!a->∀e'∈(U.zip Y.vs++pd.map λe=>((some e.1:Option V),(some e.2:Option Lc))),mj e'≠!a:=λe i a D e' N Q=>by let(_,h2,_):=jn q i D;let(_,_,o,h3,_):=jn s0 N Q;rw[(F e' N a Q).2,h3]at h2;cases h2
 show .mk el ub z2 ?_;show#[λe i=>?_,?_]
 . obtain rfl|i:=d5.mp i
   . show q'.1 _ ed
   . obtain i|i:=fw.mp i
     . show q'.1 _ (e_ _ i)
     . show s2.1 e i
 . show (((!v,!r)::(cel Z'.g hU++(U.zip Y.vs++pd.map λe=>(!e.1,!e.2)))).filterMap mj).Nodup;rw[<-kN,List.filterMap_append];show o_.mpr #[q'.2,s2.2,λa D b hb e=>?_];grind
def Xm:∀U H Q,(∃H0 Z0 Y pd r Y',SR X.K H0 Z0 U H Y pd/\aN g a Y=!(r,Y')/\(∀ls Y1,a Y=!(ls,Y1)->-ls=n)/\∀v H',SR X.K H0 Z0 U H' Y' ((v,r)::pd)->Q v H')->YW (bW X.K n g) [] E (jR X.K a) U H Q:=λU H Q q=>by
 let(H0,Z0,Y,pd,r,Y',s,h,hn,k):=q;let(y,h1,h2):=et h;let(r',F,h4):=eW h2;cases h4;show#[H0,Z0,Y,pd,y.1,y.2,s,h1,λvs H2 D W=>?_];let(N,Z,j,z,rl,i):=W.repl D;show#[Z,y.1.map Lc.pv,y.2.mu,_,_,?_,j,z.zh,?_,i.cells j,F,λv H' rr=>k v H' (SR.called N j z i rr)]
 . rw[f_,D];show hn _ _ h1
 . rw[f_];show rl
end
section
variable {P:Program}{w:World}{K:FG}{mg:Str->Option Value}{base:Heap}
def cL(K:FG)(mg:Str->Option Value)(x:Str)(st:Stmt)(ps:List Str):Prop:=∃f fd,vD K x x st f fd/\mg x=!(YV f)/\fA K fd ps []
def Mg(b:Bool)(P:Program)(w:World)(K:FG)(mg:Str->Option Value)(base:Heap)(x:Str)(k:Nat)(ps:List Str)(sp:Sp):Prop:=∃f fd,t6 b P w K mg base qD k f fd ps sp/\mg x=!(YV f)/\W.keepIn K (YV f)=G/\fA K fd ps []
abbrev bI:=Mg G
noncomputable def env0 (n:Nat) (ps:List PV) (mu:Mu):Ev:=#[ps.map (λp=>!(Lc.sh p))++List.replicate (n-(-ps)) J,mu]
def cY(n:Nat)(g:SF):GF:=λps mu=>(g (env0 n ps mu)).bind λx=>match x with
 |.rt r Y=>!(r,Y.mu)
 |.nx Y=>!(Zp .non,Y.mu)
 |_=>J
theorem Qy(s:b_ K H0 Z H L):∀{ps:List PV}{vs:List V},aK K Z ps vs->b_ K H0 Z H ((vs.map some).zip (ps.map λp=>!(Lc.sh p))++L)
 |[],vs,h=>by have:=h.inv0;subst this;simpa using s
 |p::ps,vs,h=>by let(v,r,rfl,h1,h2):=h.inv;show(Qy s h2).consS h1
theorem nones(s:b_ K H0 Z H L):∀n:Nat,b_ K H0 Z H ((List.replicate n (J:Option V)).zip (List.replicate n (J:Option Lc))++L)
 |0=>s
 |n+1=>by
  rw[List.replicate_succ,List.replicate_succ,mN,kN];let j:=nones s n;show#[λe i=>?_,?_]
  . obtain rfl|i:=d5.mp i
    . trivial
    . show j.1 e i
  .  show j.2
def Ds(j:-mu=-Z.g)(z:eY_ Z.z H)(r:aK K Z ps vs)(c:b_ K (my H (uP Z.g mu)) Z H (cel Z.g mu)):SR K (my H (uP Z.g mu)) Z (L2.start N vs) H (env0 (-N) ps mu) []:=by let i:=-r;show#[by simp[L2.start,env0,i],Z,j,#[z,λb o e=>(OB e).1,iu.refl _,λb o e=>Zl e],?_];unfold sl L2.start env0;rw[lm ∅,oP,f_,i];show(Qy (nones c _) r).perm ((ky).trans (by rw[fm]))
theorem cL.ok{st:Stmt}(F:cL K mg x st ps)(S:bz N ps (aG st))
 (h:∀(f:Addr)(j:Value)(A:Around)(i:List PySem.Env)(s:Shared)(H:Hp)(E:XK),gn b k (A.deeper (envOfC x (aG st) s.heap.objs.size f j))->
   ∃g':SF,(∀a mu,g a mu=cY (-N) g' a mu)/\jP (vC b qD P w K mg base N x (aG st) f j A i s H E).nox (jC st) (iw K g')):Mg b P w K mg base x (k+1) ps (bW K (-ps) g):=by
 let(f,fd,F,hm,hb):=F;show#[f,fd,F.ok S (λvs H Q E q=>?_) (λj A i s H vs Q E hr q=>?_),hm,F.kp,hb]
 . let(Z,qs,mu,r,hU,e,_):=q;show e
 . let(g',eg,b):=h f j A i s H E hr;let(Z,qs,mu,r,hU,e,hg,z,rl,c,kU,kk):=q;rw[eg]at kU;let(fl,h1,h2):=et kU;show#[_,b,my H (uP Z.g mu),Z,_,[],fl,Ds hg z rl c,h1,?_];cases fl with
   |rt r' Y'=>
    cases h2;intro v U' H' s';let(el,Z',D,z',W):=s'.top;show kk v H' #[Z',D,z',W.sub ?_];show(j1 _ _).cons_cons _
   |nx Y'=>
    cases h2;intro U' H' s';let(el,Z',D,z',W):=s';show kk .non H' #[Z',D,z',(W.sub (j1 _ _)).consS (Bq _)]
   |bk Y'=>cases h2
   |ct Y'=>cases h2
end
section
variable {X:Cx}
def bL{p pos:Pos}(D:Mg b X.prog X.w X.K X.mg X.base x k ps (bW X.K (-ps) g))(hr:gn b k X.A)(N:Gl X x)
 (z:PA X (e::es) (jR X.K a)) (hn:∀Y ls Y1,a Y=!(ls,Y1)->-ls=-ps) (i:(x==("__debug__" : Str))=M:=by decide) (he:starEach (e::es) X.env=(M,eval e X.env)::starEach es X.env:=by rfl) (j:(backTo pos (starEach es X.env)).any (·.1)=M:=by rfl):PE X (.Call (.Name x p) (e::es) [] pos) (tP X.K (aN g a)):=by
 let(f,fd,F,W,hk,hb):=D;show PE.imp (ZS F hr N W hk hb .nil J6 z i he j) λU H Q q=>?_;let(H0,Z0,Y,pd,r,Y',s,h,kk):=q;show Xm U H Q #[H0,Z0,Y,pd,r,Y',s,h,λls Y1 e=>hn Y ls Y1 e,kk]
section
variable {K:FG}{H0 H H':Hp}{Z0 Z:ZG}{U:L2.St}{Y:Ev}{pd iF:Pd}{v w:V}{l:Lc}{p:PV}
theorem SR.sub(h:SR K H0 Z0 U H Y iF)(q:List.Sublist pd iF):SR K H0 Z0 U H Y pd:=
 let #[e,Z,hg,z,s]:=h
 #[e,Z,hg,z,s.sub ((nz _).append ((nz _).append (q.map _)))]
def SR.part(h:SR K H0 Z0 U H Y ((v,Zp p)::pd))(k:∀Z:ZG,eY_ Z.z H->d4 K Z p v->d4 K Z q u):SR K H0 Z0 U H Y ((u,Zp q)::(v,Zp p)::pd):=by let(e,Z,i,z,s):=h.top;let(x,D,j):=s.1 _ ed;cases D;show .mk e i z ((s.perm dD).consS (k Z z.zh j))
end
abbrev BF:=PV->Ev->Option Ev
def GS(K:FG)(g:TG)(b:BF):Prop:=∀H0 Z0 U H Y pd v p Y' Q,SR K H0 Z0 U H Y ((v,Zp p)::pd)->b p Y=!Y'->(∀U',SR K H0 Z0 U' H Y' pd->Q U' H)->g v U H Q
abbrev Mh:=List PV->Ev->Option Ev
def Zc(K:FG)(g:yU)(b:Mh):Prop:=∀H0 Z0 U H Y pd vs ps Y' Q,-vs=-ps->SR K H0 Z0 U H Y (vs.zip (ps.map Lc.sh)++pd)->b ps Y=!Y'->(∀U',SR K H0 Z0 U' H Y' pd->Q U' H)->g vs U H Q
def aC(i:Nat):BF:=λp Y=>if i< -Y.vs then !(Y.set i (!(Zp p))) else J
def aM:GS K (J4 i) (aC i):=by
 intro H0 Z0 U H Y pd v p Y' Q s h k;unfold aC at h;split at h
 . rename_i j;cases h;show k _ (s.store j)
 . cases h
def fu:Mh:=λps Y=>match ps with
 |[]=>!Y
 |_=>J
def aW(b:BF)(bs:Mh):Mh:=λps Y=>match ps with
 |p::r=>(b p Y).bind λY1=>bs r Y1
 |[]=>J
def iU:Zc K xy fu:=by
 intro H0 Z0 U H Y pd i ps Y' Q e s h k;cases ps with
 |nil=>
  cases h;have:i=[]:=xj ();subst this;show#[O,k U s]
 |cons p r=>cases h
def bV(h1:GS K t b)(h2:Zc K u bs):Zc K (YJ t u) (aW b bs):=by
 intro H0 Z0 U H Y pd i ps Y' Q e s h k;cases ps with
 |nil=>cases h
 |cons p r=>
  cases i with
  |nil=>grind
  |cons v ws=>
   let(Y1,j,q):=et h;show#[v,ws,O,h1 H0 Z0 U H Y _ v p Y1 _ s j λz s'=>?_];show h2 H0 Z0 z H Y1 pd ws r Y' Q ∅ s' q k
theorem U9(s:b_ K H0 Z H L):∀{ps:List PV}{vs:List V},aK K Z ps vs->b_ K H0 Z H ((vs.zip (ps.map Lc.sh)).map (λe=>(!e.1,!e.2))++L)
 |[],vs,h=>by have:=h.inv0;subst this;simpa using s
 |p::ps,vs,h=>by let(v,r,rfl,h1,h2):=h.inv;show(U9 s h2).consS h1
def SR.items(e:-U=-Y.vs)(i:-Y.mu=-Z.g)(z:jQ H0 Z0 Z H)(r:aK K Z ps vs)(s:b_ K H0 Z H (sl Z.g U Y pd)):SR K H0 Z0 U H Y (vs.zip (ps.map Lc.sh)++pd):=
 #[e,Z,i,z,(U9 s r).perm U8]
def Xn(f:EF)(b:BF):SF:=λY=>(f Y).bind λx=>(b x.1.pv x.2).map Fl.nx
def OG{pos:Pos}(he:PE X e (tP X.K f))(i:PG X tg g)(F:GS X.K g b)(hs:swapsWithSole [tg] e pos.line X.env=pure M:=by rfl)(Q:swappedStores [tg] e X.env=pure J:=by rfl)
 (h1:(assignEach [tg] X.env).map (·.2)=[assign tg X.env]:=by rfl):PS X (.Assign [tg] e pos) (iw X.K (Xn f b)):=PS.imp (KH he i hs Q h1) λD U H q=>by
 let(H0,Z0,Y,pd,fl,s,h,k):=q;let(x,h1,h2):=et h;let(Y',j,rfl):=eW h2;show#[H0,Z0,Y,pd,x.1,x.2,s,h1,λv H1 z=>F H0 Z0 U H1 x.2 pd v _ Y' D.nx z.freeze j λN s'=>k N H1 s']
def qX(K:FG)(H0:Hp)(Z0:ZG)(pd:Pd)(ZU:It)(xs:List PV):Prop:=∀U H Y (i:Nat),SR K H0 Z0 U H Y pd->
 (∀x,xs[i]?=!x->ZU.go i H/\∀v H',ZU.yld i H v H'->SR K H0 Z0 U H' Y ((v,Zp x)::pd))/\(i=-xs->ZU.stop i H)
abbrev IF:=Ev->Option (List PV×Ev)
def Iz(K:FG)(f:IF):TI:=λU H ZN=>∃H0 Z0 Y pd xs Y',SR K H0 Z0 U H Y pd/\f Y=!(xs,Y')/\∀ZU H' iF,SR K H0 Z0 U H' Y' iF->qX K H0 Z0 iF ZU xs->List.Sublist pd iF->ZN ZU H'
def PI.imp(h:PI X tg iter t)(i:∀U H ZN,t' U H ZN->t U H ZN):PI X tg iter t':=λa_ s U H R I q=>h a_ s U H R I (i U H R q)
def dh(f:EF)(g:PV->Option (List PV)):IF:=λY=>(f Y).bind λx=>(g x.1.pv).map λxs=>(xs,x.2)
def Va:qX K H0 Z0 ((.ref a,Zp (R ps))::pd) (YK K a) ps:=by intro U H Y i s;let(Z,z,r):=s.rep;let(b,W,e,h1,h2):=r;cases e;let hq:=bY.same z h1;show#[λx hx=>?_,λhl=>#[W,hq,by rw[h2.length];lia]];let(v,hv,rv):=h2.get hx;show#[#[W,v,hq,hv],λv' H' y=>?_];let(N,y):=y;subst N;have:=y W hq;rw[hv]at this;cases this;show s.part λZ' z' r'=>?_;let(b',j,N,D,F):=r';cases N;have:j[i]?=!v:=y j (bY.same z' D);let(p',q,Q):=F.getV this;rw[hx]at q;cases q;show Q
def Xo:qX K H0 Z0 ((.ref a,Zp (ZB ps))::pd) (YL K a) ps:=by intro U H Y i s;let(Z,z,r):=s.rep;let(b,W,e,h1,h2):=r;cases e;let hq:=cW.same z h1;show#[λx hx=>?_,λhl=>#[W,hq,by rw[h2.length];lia]];let(v,hv,rv):=h2.get hx;show#[#[W,v,hq,hv],λv' H' y=>?_];let(N,y):=y;subst N;have:=y W hq;rw[hv]at this;cases this;show s.part λZ' z' r'=>?_;let(b',j,N,D,F):=r';cases N;have:j[i]?=!v:=y j (cW.same z' D);let(p',q,Q):=F.getV this;rw[hx]at q;cases q;show Q
def jo(lo:Int)(n:Nat):List PV:=(List.range n).map λi=>ZI (lo+(i:Nat))
def iK(a:AF):IF:=λY=>(a Y).bind λy=>match y.1.map Lc.pv with
 |[ZI j]=>if (Neg.neg (2 ^ 62))<=j/\j<2 ^ 62 then !(jo 0 j.toNat,y.2) else J
 |_=>J
def Xp{lo:Int}:qX K H0 Z0 pd (YM lo n) (jo lo n):=by
 intro U H Y i s;show#[λx j=>?_,λq=>?_]
 . have hi:i<n:=by have:=(fS.mp j).1;simpa [jo] using this
   show#[hi,λv H' y=>?_];let(rfl,rfl):=y;unfold jo at j;rw[fI,List.getElem?_range hi]at j;cases j;show s.scal gF
 . show n<=i;simp[jo]at q;lia
def SR.ints{vs:List V}{ls:List Lc}{ns:List Int}(s:SR K H0 Z0 U H Y (vs.zip ls++pd))(e:-vs=-ls)(h:ls.map Lc.pv=ns.map PV.int):vs=ns.map V.int/\SR K H0 Z0 U H Y pd:=by
 let(j,Z,q,z,r,i):=s.repl e;show#[?_,j,Z,q,z,i];rw[h]at r;clear h e s i;induction ns generalizing vs with
 |nil=>show r.inv0
 |cons n ns D=>
  let(v,w,rfl,h1,h2):=r.inv;rw[cF h1,D h2];rfl
def mz(D:Gl X "range")(W:X.mg "range"=J)(z:PA X [a] (jR X.K f))(hs:starEach [a] X.env=[(M,eval a X.env)]:=by rfl):PI X tg (.Call (.Name "range" p) [a] [] pos) (Iz X.K (iK f)):=PI.imp (TX D W z hs) λU H ZN q=>by
 let(H0,Z0,Y,pd,xs,Y',s,h,k):=q;let(y,h1,h2):=et h;show#[H0,Z0,Y,pd,y.1,y.2,s,h1,λvs H1 N Q=>?_];split at h2
 . rename_i j e;split at h2
   . rename_i i;cases h2;let(rfl,F):=Q.ints (ns:=[j]) N e;show#[j,O,i.1,i.2,k _ _ _ F Xp (nz _)]
   . cases h2
 . cases h2
noncomputable def eN (b:BF) (body:SF):List PV->SF
 |[],Y=>!(.nx Y)
 |x::xs,Y=>(b x Y).bind λY1=>(body Y1).bind λfl=>match fl with
  |.nx Y'=>eN b body xs Y'
  |.ct Y'=>eN b body xs Y'
  |.bk Y'=>!(.nx Y')
  |.rt r Y'=>!(.rt r Y')
def fX(f:IF)(b:BF)(body:SF):SF:=λY=>(f Y).bind λy=>eN b body y.1 y.2
def ym{P:Prop}(h:∀G:Prop,(P->G)->G):P:=h P id
def FW(K:FG)(H0:Hp)(Z0:ZG)(pd:Pd)(b:BF)(fb:SF)(xs:List PV)(fl:Fl)(i m:Nat)(U:L2.St)(H:Hp):Prop:=m=-xs-i/\i<=-xs/\∃Y,SR K H0 Z0 U H Y pd/\eN b fb (xs.drop i) Y=!fl
def Xq(hb:GS K g b)(it:qX K H0 Z0 pd ZU xs)(k:Lz K H0 Z0 pd D fl)(s:SR K H0 Z0 U H Y pd)(h:eN b fb xs Y=!fl):
 ∃W:Nat->Nat->L2.St->Hp->Prop,(∃m,W 0 m U H)/\∀i m U H,W i m U H->
  (ZU.stop i H/\D.nx U H)\/(ZU.go i H/\∃N:L2.St->Hp->Prop,(∀q H',N q H'->∃m',m'<m/\W (i+1) m' q H')/\∀x H',ZU.yld i H x H'->g x U H' λU2 H2=>iw K fb { D with nx:=N,ct:=N,bk:=D.nx } U2 H2):=by
 show#[FW K H0 Z0 pd b fb xs fl,#[_,O,gy _,Y,s,h],λi m q H' w=>?_];show ym λZT kG=>?_;let(rfl,hi,Y',s',h'):=w;let(i1,i2):=it q H' Y' i s';by_cases j:i< -xs
 . let(go,yl):=i1 _ (gz j);rw[mE j]at h';let(Y1,e1,e2):=et h';let(F,e3,e4):=et e2;show kG (YY #[go,λz Q=>FW K H0 Z0 pd b fb xs fl (i+1) (-xs-(i+1)) z Q,λz Q w=>#[_,(),w],λx H2 hy=>hb H0 Z0 q H2 Y' pd x _ Y1 _ (yl x H2 hy) e1 λU2 s2=>#[H0,Z0,Y1,pd,F,s2,e3,?_]]);cases F with
   |nx Y2=>show λU3 H3 s3=>#[O,j,Y2,s3,e4]
   |ct Y2=>show λU3 H3 s3=>#[O,j,Y2,s3,e4]
   |bk Y2=>cases e4;show k
   |rt r Y2=>cases e4;show k
 . let e:=Nat.le_antisymm hi ();subst e;rw[List.drop_length]at h';cases h';show kG (Zl #[i2 O,k q H' s'])
def Lz.imp(k:Lz K H0 Z0 pd D fl)(w:∀{τ:L2.St}{i:Hp}{q:Ev},SR K H0 Z₁ τ i q iF->SR K H0 Z0 τ i q pd)(j:∀{τ:L2.St}{i:Hp}{q:Ev}{e:V×Lc},SR K H0 Z₁ τ i q (e::iF)->SR K H0 Z0 τ i q (e::pd)):Lz K H0 Z₁ iF D fl:=by
 cases fl with
 |rt r Y=>show λv U H s=>k v U H (j s)
 |_=>show λU H s=>k U H (w s)
def fK(Q:PassesOwn (model X.prog X.w) X.A X.env X.xe)(hc:X.calm=G)(hi:PI X tg iter (Iz X.K f))(j:PG X tg g)(i:GS X.K g b)(W:jP X body (iw X.K fb))
 (hs:∀x,foldedSetIterable iter X.env x=pure x:=by intro _;rfl):PS X (.For tg iter body [] pos) (iw X.K (fX f b fb)):=PS.imp (HC Q hc hi j W hs) λD U H q=>by
 show ym λZT z=>?_;let(H0,Z0,Y,pd,fl,s,h,k):=q;let(y,h1,h2):=et h;show z #[H0,Z0,Y,pd,y.1,y.2,s,h1,λZU H1 iF N F sub=>Xq i F (k.imp (λs=>s.sub sub) λs=>s.sub ∅) N h2]
end
section
variable {K:FG}{H0 H H':Hp}{Z0 Z:ZG}{U:L2.St}{Y:Ev}{pd pe:Pd}{v w:V}{l:Lc}{p:PV}{g:List Addr}
def Ev.app(Y:Ev)(pe:Pd):Ev:=#[Y.vs++pe.map (λx=>!x.2),Y.mu]
def Mi(e:-U=-Y.vs):sl g (U++pe.map λx=>!x.1) (Y.app pe) pd=sl g U Y (pe++pd):=by
 unfold sl Ev.app;rw[lm e,fx,fm];congr 3;induction pe with
 |nil=>rfl
 |cons a r i=>simp[i]
def SR.shift(h:SR K H0 Z0 U H Y (pe++pd)):SR K H0 Z0 (U++pe.map λx=>!x.1) H (Y.app pe) pd:=by let(e,Z,i,z,s):=h;show#[by simp[Ev.app,e],Z,i,z,?_];rw[Mi e];show s
def SR.unshift(e:-U=-Y.vs)(h:SR K H0 Z0 (U++pe.map λx=>!x.1) H (Y.app pe) pd):SR K H0 Z0 U H Y (pe++pd):=by let(_,Z,i,z,s):=h;show#[e,Z,i,z,?_];rw[Mi e]at s;show s
def qX.more(h:qX K H0 Z0 pd ZU xs):qX K H0 Z0 (pe++pd) ZU xs:=by intro U H Y i s;let(h1,h2):=h _ H _ i s.shift;show#[λx z=>?_,h2];let(g,y):=h1 x z;show#[g,λv H' q=>?_];let s':=y v H' q;let e:=s.1;let j:=s';show(SR.unshift e j).perm gW.symm
def tQ(U:L2.St)(Y:Ev):Pd:=(U.zip Y.vs).filterMap λe=>match e with
 |(!v,!l)=>!(v,l)
 |_=>J
theorem yo:∀{L:Sl},(∀e∈L,e.2=J\/∃v l,e=(!v,!l))->∀{T:Sl},
 (b_ K H0 Z H (L++T) ↔ b_ K H0 Z H ((L.filterMap λe=>match e with |(!v,!l)=>some (v,l) |_=>J).map (λe=>((some e.1:Option V),(some e.2:Option Lc)))++T))
 |[],_,T=>by simp
 |(v,l)::L,h,T=>by
  let h':=λe D=>h e (e_ _ D);obtain e|⟨j,q,e⟩:=h (v,l) ed
  . let N:=e;subst N;have F:((v,(J:Option Lc))::L).filterMap (λe=>match e with |(!v,!l)=>some (v,l) |_=>J)=L.filterMap (λe=>match e with |(!v,!l)=>some (v,l) |_=>J):=by rw[jS];cases v<;>rfl
    rw[F,<-yo h'];have o1:mj (v,J)=J:=by
     cases v with
     |none=>rfl
     |some x=>cases x<;>rfl
    constructor
    . show λs=>s.sub (gI _ _)
    . intro s;show#[λe D=>?_,?_]
      . obtain rfl|D:=d5.mp D
        . trivial
        . show s.1 e D
      . rw[kN,jS o1];show s.2
  . cases e;have F:((!j,!q)::L).filterMap (λe=>match e with |(!v,!l)=>some (v,l) |_=>J)=(j,q)::L.filterMap (λe=>match e with |(!v,!l)=>some (v,l) |_=>J):=by rfl
    let z:=yo h' (T:=T++[(!j,!q)]);have i:∀A:Sl,List.Perm ((!j,!q)::(A++T)) (A++(T++[(!j,!q)])):=λA=>by rw[<-fm];show(List.perm_append_singleton _ _).symm
    constructor
    . intro s;show(z.mp (s.perm (i L).symm)).perm (i _)
    . intro s;show(z.mpr (s.perm (i _).symm)).perm (i L)
def SR.both(s:SR K H0 Z0 U H Y pd):∀e∈U.zip Y.vs,e.2=J\/∃v l,e=(!v,!l):=by
 let(_,Z,_,z,s):=s;intro e j;let q:=s.1 e (h_ _ (i6 _ j));let(v,l):=e;cases l with
 |none=>grind
 |some l=>
  cases l with
  |sh p=>let(x,i,_):=q;grind
  |own p=>let(x,i,_):=q;grind
def IK(j:∀e∈U.zip Y.vs,e.2=J\/∃v l,e=(!v,!l)):b_ K H0 Z H (sl g U Y pd) ↔ b_ K H0 Z H (cel g Y.mu++(tQ U Y++pd).map λe=>(!e.1,!e.2)):=by
 let h1:=yo (K:=K) (H0:=H0) (Z:=Z) (H:=H) j (T:=(pd.map λe=>(!e.1,!e.2))++cel g Y.mu);have c1:List.Perm (sl g U Y pd) (U.zip Y.vs++((pd.map λe=>(!e.1,!e.2))++cel g Y.mu)):=by unfold sl;rw[<-fm (U.zip Y.vs)];show ky
 have i:List.Perm (cel g Y.mu++(tQ U Y++pd).map λe=>((some e.1:Option V),(some e.2:Option Lc))) ((tQ U Y).map (λe=>(!e.1,!e.2))++((pd.map λe=>(!e.1,!e.2))++cel g Y.mu)):=by rw[fx,<-fm ((tQ U Y).map _)];show ky
 show#[λs=>(h1.mp (s.perm c1.symm)).perm i,λs=>(h1.mpr (s.perm i.symm)).perm c1]
def SR.back(i:-U=-Y.vs)(q:∀e∈U.zip Y.vs,e.2=J\/∃v l,e=(!v,!l))(s:SR K H0 Z0 U' H Y' (tQ U Y++pd)):SR K H0 Z0 U H #[Y.vs,Y'.mu] pd:=by let(_,Z,j,z,s):=s;show#[i,Z,j,z,(IK (Y:=#[Y.vs,Y'.mu]) q).mpr ?_];show s.sub ((nz _).append (mM _ _))
def ie(ixs:List Nat)(Y:Ev):Ev:=ixs.foldl (λY i=>match Y.vs[i]? with
 |some (!l)=>Y.set i (!(Zp l.pv))
 | _=>Y) Y
theorem SR.frz:∀{ixs:List Nat}{Y:Ev},SR K H0 Z0 U H Y pd->SR K H0 Z0 U H (ie ixs Y) pd
 |[],Y,s=>s
 |i::r,Y,s=>by
  unfold ie;rw[kQ];show SR.frz ?_;split
  . rename_i l e;let(v,_,h2):=s.var e;show h2.pop
  . show s
def Dt:Option Lc->Bool
 |some (Zs _)=>M
 |_=>G
theorem Mj{j:Nat}:∀{ixs:List Nat}{Y:Ev},Dt (Y.vs[j]?).join=G->Dt ((ie ixs Y).vs[j]?).join=G
 |[],Y,h=>h
 |i::r,Y,h=>by
  unfold ie;rw[kQ];show Mj ?_;split
  . rename_i l e;by_cases q:i=j
    . subst q;let hi:=(fS.mp e).1;show Dt ((Y.vs.set i _)[i]?).join=G;rw[k_ hi];rfl
    . show Dt ((Y.vs.set i _)[j]?).join=G;grind
  . show h
theorem Vb:∀{ixs:List Nat}{Y:Ev},j∈ixs->Dt ((ie ixs Y).vs[j]?).join=G
 |[],Y,h=>by cases h
 |i::r,Y,h=>by
  unfold ie;rw[kQ];obtain e|h:=d5.mp h
  . subst e;show Mj ?_;split
    . rename_i l e;let hi:=(fS.mp e).1;show Dt ((Y.vs.set j _)[j]?).join=G;rw[k_ hi];rfl
    . rename_i z;cases q:Y.vs[j]? with
      |none=>rfl
      |some o=>
       cases o with
       |none=>rfl
       |some l=>grind
  . show Vb h
def nT(m:Nat)(ixs:List Nat)(Y:Ev):Ev:=#[List.replicate m J++ixs.map λi=>(Y.vs[i]?).join,Y.mu]
def SR.block(s:SR K H0 Z0 U H Y pd)(hs:∀j∈ixs,Dt (Y.vs[j]?).join=G):SR K H0 Z0 (zY m ixs U) H (nT m ixs Y) (tQ U Y++pd):=by
 let hb:=s.both;let(el,Z,hg,z,Q):=s;show#[by simp[nT],Z,hg,z,?_];let s3:=(IK hb).mp Q;have fin:b_ K H0 Z H ((ixs.map λi=>(U[i]?).join).zip (ixs.map λi=>(Y.vs[i]?).join)++(cel Z.g Y.mu++(tQ U Y++pd).map λe=>(!e.1,!e.2)))->b_ K H0 Z H (sl Z.g (zY m ixs U) (nT m ixs Y) (tQ U Y++pd)):=λh=>by unfold sl zY nT;rw[lm (by simp),fm];show(nones h m).perm ?_;show(Kc _ _ _).trans ((Kc _ _ _).append_left _)
 show fin ?_;clear fin;induction ixs with
 |nil=>simpa using s3
 |cons i r ih=>
  let D:=ih λj hj=>hs j (e_ _ hj);rw[fU,fU,mN,kN];let h1:=hs i ed;cases q:Y.vs[i]? with
  |none=>
   show#[λe F=>?_,?_]
   . obtain rfl|F:=d5.mp F
     . trivial
     . show D.1 e F
   . rw[jS]
     . show D.2
     . cases (U[i]?).join with
       |none=>rfl
       |some x=>cases x<;>rfl
  |some o=>
   cases o with
   |none=>
    show#[λe F=>?_,?_]
    . obtain rfl|F:=d5.mp F
      . trivial
      . show D.1 e F
    . rw[jS]
      . show D.2
      . cases (U[i]?).join with
        |none=>rfl
        |some x=>cases x<;>rfl
   |some l=>
    rw[q]at h1;cases l with
    |own p=>cases h1
    |sh p=>
     have hi:i< -U:=by rw[el];show(fS.mp q).1
     let W:=gz hi;let hm:=g7 (zip_get W q);let(x,e1,e2):=Q.1 _ (h_ _ (i6 _ hm));have N:U[i]=!x:=e1;have ej:(U[i]?).join=!x:=by rw[W,N];rfl
     rw[ej];show D.consS e2
end
def SR.pushO(s:SR K H0 Z0 U H Y ((v,l)::(.ref a,Zs (R ws))::pd)):
 ∃i,H a=!(.lst i)/\-i=-ws/\SR K H0 Z0 U (dW H a (.lst (i++[v]))) Y ((.ref a,Zs (R (ws++[l.pv])))::pd):=by
 let(F,Z,Q,z,r,N):=s.freeze.sh;let j:=N.perm dD.symm;let(b,eb,(i,hu,D),_):=j.1 _ ed;cases eb;show#[i,hu,-D,?_];let(W,s'):=j.write (q:=R (ws++[l.pv])) z #[i++[v],bZ,D.append (aK.cons r .nil)];show .mk F Q W s'
def dF(b:BF)(tc:TF)(te:EF):List PV->Ev->List PV->Option (List PV×Mu)
 |[],Y,acc=>!(acc,Y.mu)
 |x::xs,Y,acc=>(b x Y).bind λY1=>(tc Y1).bind λc=>if c.1=G then (te c.2).bind λv=>if -acc<100000 then dF b tc te xs v.2 (acc++[v.1.pv]) else J else dF b tc te xs c.2 acc
def bU(f:IF)(m:Nat)(ixs:List Nat)(b:BF)(tc:TF)(te:EF):EF:=λY=>(f Y).bind λy=>(dF b tc te y.1 (nT m ixs (ie ixs y.2)) []).map λys=>(Zs (R ys.1),#[(ie ixs y.2).vs,ys.2])
def CW(K:FG)(H0:Hp)(Z0:ZG)(b:BF)(tc:TF)(te:EF)(p:Addr)(PD:Pd)(xs:List PV)(zs:List PV×Mu)(i n:Nat)(U':L2.St)(H':Hp):Prop:=
 n=-xs-i/\i<=-xs/\∃Yi ws,SR K H0 Z0 U' H' Yi ((.ref p,Zs (R ws))::PD)/\dF b tc te (xs.drop i) Yi ws=!zs
def Vc(hb:GS K g b){PD:Pd}{Q:VK}
 (it:∀ws,qX K H0 Z0 ((.ref p,Zs (R ws))::PD) ZU xs) (fin:∀z H' Ax ws,SR K H0 Z0 z H' Ax ((.ref p,Zs (R ws))::PD)->dF b tc te [] Ax ws=!zs->Q (.ref p) H') (i n:Nat) (z:L2.St) (H':Hp) (w:CW K H0 Z0 b tc te p PD xs zs i n z H'):
 (ZU.stop i H'/\Q (.ref p) H')\/(ZU.go i H'/\∀x H2,ZU.yld i H' x H2->g x z H2 λj H3=>jw K tc j H3 λb' H4=>
   if b'=G then tP K te j H4 λv H5=>∃ys,H5 p=!(.lst ys)/\-ys<sizeLine/\∃n',n'<n/\CW K H0 Z0 b tc te p PD xs zs (i+1) n' j (dW H5 p (.lst (ys++[v])))
   else ∃n',n'<n/\CW K H0 Z0 b tc te p PD xs zs (i+1) n' j H4):=by
 show ym λZT D=>?_;let(rfl,hi,Ax,ws,s',h'):=w;let(i1,i2):=it ws z H' Ax i s';by_cases q:i< -xs
 . let(go,yl):=i1 _ (gz q);rw[mE q]at h';let(Y1,e1,e2):=et h';let(c,e3,N):=et e2;have hn:-xs-(i+1)< -xs-i:=()
   show D (YY #[go,λx H2 hy=>hb H0 Z0 z H2 Ax _ x _ Y1 _ (yl x H2 hy) e1 λU2 s5=>#[H0,Z0,Y1,_,c.1,c.2,s5,e3,λH4 s6=>?_]]);dsimp only;split
   . rename_i hc;show ym λZT D=>?_;rw[dA hc]at N;let(v,e5,W):=et N;split at W
     . show D #[H0,Z0,c.2,_,v.1,v.2,s6,e5,λvv H5 s7=>?_];show ym λZT D=>?_;let(us,hu,hl,s8):=s7.pushO;show D #[us,hu,by rw[hl,sizeLine_eq];lia,_,hn,O,q,v.2,_,s8,W]
     . cases W
   . rename_i hc;rw[dQ hc]at N;show#[_,hn,O,q,c.2,ws,s6,N]
 . grind
def Ml(F:GS K g b):∀U H Q,tP K (bU f m ixs b tc te) U H Q->R4 (Iz K f) m ixs g (jw K tc) (tP K te) U H Q:=λU H Q q=>by show ym λZT kG=>?_;let(H0,Z0,Y,pd,r,Y',s,h,k):=q;let(y,h1,h2):=et h;let(zs,h3,W):=eW h2;cases W;show kG #[H0,Z0,Y,pd,y.1,y.2,s,h1,λZU H1 iF D it sub p hp=>?_];have i:SR K H0 Z0 U H1 (ie ixs y.2) iF:=D.frz;let z:=i.block (m:=m) λj N=>Vb N;show#[CW K H0 Z0 b tc te p (tQ U (ie ixs y.2)++iF) y.1 zs,#[_,O,gy _,_,[],(z.newO hp λZ _ _=>#[[],bZ,.nil]),h3],Vc F (λws=>qX.more (pe:=(.ref p,Zs (R ws))::tQ U (ie ixs y.2)) it) λU' H' Ax ws s' h'=>?_];cases h';let s5:=s'.perm gW;show k _ _ ((SR.back i.1 i.both s5).sub ∅)
section
variable {X:Cx}
def gH(j F:List Str)(ixs:List Nat)(i:X.calm=G)(c:jE X j F ixs sc)(hi:PI X tg iter (Iz X.K f))
 (q:∀C fp s H,PG (gC X j F sc C fp s H) tg g) (z:GS X.K g b) (D:∀C fp s H,v5 (gC X j F sc C fp s H) iA (jw X.K tc)) (he:∀C fp s H,PE (gC X j F sc C fp s H) elt (tP X.K te))
 (hs:∀x,foldedSetIterable iter X.env x=pure x:=by intro _;rfl):PE X (.ListComp elt [#[tg,iter,iA,0]] sc pos) (tP X.K (bU f (-j) ixs b tc te)):=PE.imp (Z9 j F ixs i c hi q D he hs) (Ml z)
def uA(Q F:List Str)(ixs:List Nat){pos pos' j:Pos}(hN:X.N.Nodup)(s_:X.N[i]?=!x)(hx:X.env.scope.names.lookup x=!.local)
 (z:X.calm=G) (c:jE X Q F ixs sc) (hi:PI X tg iter (Iz X.K f))
 (hg:∀C fp s H,PG (gC X Q F sc C fp s H) tg g) (hb:GS X.K g b) (hc:∀C fp s H,v5 (gC X Q F sc C fp s H) iA (jw X.K tc)) (he:∀C fp s H,PE (gC X Q F sc C fp s H) elt (tP X.K te))
 (W:swapsWith (.ListComp elt [#[tg,iter,iA,0]] sc pos) (!(.Name x pos')) j.line X.env=pure G:=by rfl)
 (hs:∀x,foldedSetIterable iter X.env x=pure x:=by intro _;rfl):PS X (.Assign [.Name x pos'] (.ListComp elt [#[tg,iter,iA,0]] sc pos) j) (iw X.K (aL i (bU f (-Q) ixs b tc te))):=
 PS.imp (KL Q F ixs hN s_ hx z c hi hg hc he W hs) (Qx λD U H q=>Ml hb U H _ q)
def bB:TF:=λY=>!(G,Y)
def cN:v5 X [] (jw X.K bB):=λa_ s U H Q I q=>WP a_ s U H Q I (by let(H0,Z0,Y,pd,b,Y',s,h,k):=q;cases h;show k H s)
def Xr(h:PT X c (jw X.K f)):v5 X [c] (jw X.K f):=WQ h
end
noncomputable def uQ (f:PV->PV->Option Bool):List PV->List PV->Option Bool
 |p::ps,q::qs=>(f p q).bind λb=>(uQ f ps qs).map λc=>b&&c
 |_,_=>!G
def dH:Nat->PV->PV->Option Bool
 |0,_,_=>J
 |n+1,p,q=>match p,q with
  |ZB ps,ZB qs=>(uQ (dH n) ps qs).map λb=>b&&(-ps==-qs)
  |R ps,R qs=>if -ps=-qs then uQ (dH n) ps qs else !M
  |.non,.non=>!G
  |.bl a,.bl b=>!(a==b)
  |ZI a,ZI b=>!(a==b)
  |ZH a,ZH b=>!(a==b)
  |.bl a,ZI b=>!((if a then 1 else 0)==b)
  |ZI a,.bl b=>!(a==(if b then 1 else 0))
  |.non,.bl _=>!M
  |.non,ZI _=>!M
  |.non,ZH _=>!M
  |.non,ZB _=>!M
  |.non,R _=>!M
  |.bl _,.non=>!M
  |.bl _,ZH _=>!M
  |.bl _,ZB _=>!M
  |.bl _,R _=>!M
  |ZI _,.non=>!M
  |ZI _,ZH _=>!M
  |ZI _,ZB _=>!M
  |ZI _,R _=>!M
  |ZH _,.non=>!M
  |ZH _,.bl _=>!M
  |ZH _,ZI _=>!M
  |ZH _,ZB _=>!M
  |ZH _,R _=>!M
  |ZB _,.non=>!M
  |ZB _,.bl _=>!M
  |ZB _,ZI _=>!M
  |ZB _,ZH _=>!M
  |ZB _,R _=>!M
  |R _,.non=>!M
  |R _,.bl _=>!M
  |R _,ZI _=>!M
  |R _,ZH _=>!M
  |R _,ZB _=>!M
  |_,_=>J
theorem Bs{f:PV->PV->Option Bool}:∀{ps qs:List PV}{b:Bool},uQ f ps qs=!b->(∀(j:Nat) p q,ps[j]?=!p->qs[j]?=!q->f p q=!((f (ps.getD j .non) (qs.getD j .non)).getD false))/\
 b=(List.range (min (-ps) (-qs))).all λj=>(f (ps.getD j .non) (qs.getD j .non)).getD false
 |[],qs,b,h=>by cases h;show#[λj p q e=>by simp at e,by simp]
 |p::ps,[],b,h=>by cases h;show#[λj p q _ e=>by simp at e,by simp]
 |p::ps,q::qs,b,h=>by
  let(c,h1,h2):=et h;let(d,h3,rfl):=eW h2;let(i1,i2):=Bs h3;show#[λj p' q' e1 e2=>?_,?_]
  . cases j with
    |zero=>
     simp at e1 e2;subst e1 e2;simp[h1]
    |succ j=>
     have:=i1 j p' q' (by simpa using e1) (by simpa using e2);simpa using this
  . have e:min (-(p::ps)) (-(q::qs))=min (-ps) (-qs)+1:=by simp only[d6];lia
    rw[e,List.range_succ_eq_map,List.all_cons,List.all_map];have e0:(f ((p::ps).getD 0 .non) ((q::qs).getD 0 .non)).getD false=c:=by simp[h1]
    rw[e0,i2];rfl
def gS(r:aK K Z ps vs)(i:db vs eJ)(h:j< -eJ):∃p v,ps[j]?=!p/\d4 K Z p v/\dE v eJ[j]:=by let N:=-i;have q:vs[j]?=some vs[j]:=gz ();let(u,z,D):=i.get q;rw[gz h]at z;cases z;let(p,Q,F):=r.getV q;grind
section
open PySem.SeqAt
variable {X:Cx}{a_:List (Addr×Obj)}{U:L2.St}{H:Hp}{s:Shared}{g:List Addr}
def Fq(I:c_ X a_ U H s)(r:d4 X.K #[H,g] (ZB ps) v)(D:dE v u):∃a vs i,u=YV a/\cW X.K H a vs/\aK X.K #[H,g] ps vs/\db vs i/\s.heap.IsTuple a i.toArray:=by let(a,vs,rfl,h1,h2):=r;let(i,q,z,_):=I.tuple h1;show#[a,vs,i,D,h1,h2,q,z]
def Ag(I:c_ X a_ U H s)(r:d4 X.K #[H,g] (R ps) v)(D:dE v u):∃a vs i,u=YV a/\bY X.K H a vs/\aK X.K #[H,g] ps vs/\db vs i/\s.heap.IsList a i.toArray:=by let(a,vs,rfl,h1,h2):=r;let(i,q,z,_):=I.list h1;show#[a,vs,i,D,h1,h2,q,z.isList]
def kn:PV->Nat
 |.non=>0 |.bl _=>1 |ZI _=>2 |ZH _=>3 |ZB _=>4 |R _=>5 |_=>6
def AM(h:kn p=4):∃ps,p=ZB ps:=by cases p<;>first |show#[_,O] |cases h
def AN(h:kn p=5):∃ps,p=R ps:=by cases p<;>first |show#[_,O] |cases h
def Ft(h:dH (n+1) p q=!b):kn p<6:=by cases p<;>first |cases h;done |show Nat.le.step (Nat.le.step (Nat.le.step (Nat.le.step (Nat.le.step .refl)))) |show Nat.le.step (Nat.le.step (Nat.le.step (Nat.le.step .refl))) |show Nat.le.step (Nat.le.step (Nat.le.step .refl)) |show Nat.le.step (Nat.le.step .refl) |show Nat.le.step .refl |show Nat.le.refl
def Zd(h:dH (n+1) p q=!b):kn q<6:=by
 have i:dH (n+1) p q=J->kn q<6:=λe=>absurd ∅ (Option.some_ne_none b);cases q with
 |dk _ _=>show i (by cases p<;>rfl)
 |dt _ _=>show i (by cases p<;>rfl)
 |obj _ _ _=>show i (by cases p<;>rfl)
 |df _ _=>show i (by cases p<;>rfl)
 |dtf _ _=>show i (by cases p<;>rfl)
 |dx _ _ _=>show i (by cases p<;>rfl)
 |exc _=>show i (by cases p<;>rfl)
 |fn _=>show i (by cases p<;>rfl)
 |ptr _=>show i (by cases p<;>rfl)
 |_=>first |show Nat.le.step (Nat.le.step (Nat.le.step (Nat.le.step (Nat.le.step .refl)))) |show Nat.le.step (Nat.le.step (Nat.le.step (Nat.le.step .refl))) |show Nat.le.step (Nat.le.step (Nat.le.step .refl)) |show Nat.le.step (Nat.le.step .refl) |show Nat.le.step .refl |show Nat.le.refl
def back:V->Option PV
 |.non=>some .non |.bl b=>some (.bl b) |.int i=>some (ZI i) |.str x=>some (ZH x) |_=>J
inductive Sh(K:FG)(Z:ZG)(v:V):PV->Prop
 |at {p:PV}:back v=!p->Sh K Z v p
 |tup {a:Addr} {ps:List PV} {vs:List V}:v=.ref a->cW K Z.z a vs->aK K Z ps vs->Sh K Z v (.tup ps)
 |lst {a:Addr} {ps:List PV} {vs:List V}:v=.ref a->bY K Z.z a vs->aK K Z ps vs->Sh K Z v (.lst ps)
def Kf(r:d4 K Z p v)(h:kn p<6):Sh K Z v p:=by
 cases p with
 |non=>show .at (congrArg back (jL r))
 |bl b=>show .at (congrArg back (ji r))
 |int b=>show .at (congrArg back (cF r))
 |str b=>show .at (congrArg back (dN r))
 |tup ps=> let(a,D,e,h1,h2):=r;show .tup e h1 h2
 |lst ps=> let(a,D,e,h1,h2):=r;show .lst e h1 h2
 |_=>show absurd h (mx 6)
inductive Tw(K:FG)(Z:ZG):PV->PV->Prop
 |at {v:V} {p:PV}:back v=!p->Tw K Z p p
 |tup {ps qs:List PV} {vs:List V}:aK K Z ps vs->aK K Z qs vs->Tw K Z (.tup ps) (.tup qs)
 |lst {ps qs:List PV} {vs:List V}:aK K Z ps vs->aK K Z qs vs->Tw K Z (.lst ps) (.lst qs)
def Ze(I:c_ X a_ U H s)(h1:cW X.K H a vs)(j:bY X.K H a ws):False:=by let(q,z,(o1,F,N,c1,_),_):=I.list j;let(i,W,(o2,Q,D,_),_):=I.tuple h1;grind
def yp(e:v=.ref a)(h:back v=!p):False:=by subst e;cases h
def Sh.two(I:c_ X a_ U H s)(h1:Sh X.K #[H,g] v p)(h2:Sh X.K #[H,g] v q):Tw X.K #[H,g] p q:=by
 cases h1 with
 |«at» e=>
  cases h2 with
  |«at» i=>show(gt (e.symm.trans i))▸.at e
  |tup i=>show(yp i e).elim
  |lst i=>show(yp i e).elim
 |tup e D N=>
  cases h2 with
  |«at» i=>show(yp e i).elim
  |tup i j F=>show .tup N (I.tuple_inj D (V.ref.inj (i.symm.trans e)▸j)▸F)
  |lst i j=>show(Ze I D (V.ref.inj (i.symm.trans e)▸j)).elim
 |lst e D N=>
  cases h2 with
  |«at» i=>show(yp e i).elim
  |tup i j=>show(Ze I j (V.ref.inj (e.symm.trans i)▸D)).elim
  |lst i j F=>show .lst N (I.list_inj D (V.ref.inj (i.symm.trans e)▸j)▸F)
def OH(e:back v=!p)(h:dH (n+1) p p=!b):b=G:=by
 cases v with
 |non=>cases e;cases h;rfl
 |bl z=>cases e;cases h;grind
 |int z=>cases e;cases h;grind
 |str z=>cases e;cases h;grind
 |_=>cases e
theorem Ah(i:∀(p q:PV)(v:V)(b:Bool),d4 K Z p v->d4 K Z q v->f p q=!b->b=G):∀{ps qs:List PV}{vs:List V}{c:Bool},aK K Z ps vs->aK K Z qs vs->uQ f ps qs=!c->c=G
 |[],qs,vs,c=>λa b h=>by cases h;rfl
 |p::ps,[],vs,c=>λa b h=>by cases h;rfl
 |p::ps,q::qs,vs,c=>λa b h=>by let(w1,r1,N,Q,e3):=a.inv;let(w2,r2,z,D,W):=b.inv;let(g1,F):=List.cons.inj (N.symm.trans z);subst g1 F;let(c,h1,h2):=et h;let(d,j,rfl):=eW h2;rw[i _ _ _ _ Q D h1,Ah i e3 W j];rfl
theorem yq(j:∀(p q r:PV)(v:V)(b c:Bool),d4 K Z p v->d4 K Z q v->f p r=!b->f q r=!c->b=c):∀{ps qs rs:List PV}{vs:List V}{b c:Bool},aK K Z ps vs->aK K Z qs vs->uQ f ps rs=!b->uQ f qs rs=!c->b=c
 |[],[],rs,vs,b,c=>λ_ _ h k=>gt ∅
 |[],q::qs,rs,vs,b,c=>λa i h k=>by let(_,_,e,_):=i.inv;show absurd (a.inv0.symm.trans e) (by simp)
 |p::ps,[],rs,vs,b,c=>λa i h k=>by let(_,_,e,_):=a.inv;show absurd (i.inv0.symm.trans e) (by simp)
 |p::ps,q::qs,[],vs,b,c=>λa i h k=>gt (h.symm.trans k)
 |p::ps,q::qs,r::rs,vs,b,c=>λa i h k=>by let(w1,r1,F,N,e3):=a.inv;let(w2,r2,f1,z,f3):=i.inv;let(g1,D):=List.cons.inj (F.symm.trans f1);subst g1 D;let(x1,h1,h2):=et h;let(d1,h3,rfl):=eW h2;let(x2,Q,k2):=et k;let(d2,W,rfl):=eW k2;rw[j _ _ _ _ _ _ N z h1 Q,yq j e3 f3 h3 W]
theorem eq_self(I:c_ X a_ U H s):∀(n:Nat){p q:PV}{v:V}{b:Bool},d4 X.K #[H,g] p v->d4 X.K #[H,g] q v->dH n p q=!b->b=G
 |0,p,q,v,b=>λ_ _ h=>by cases h
 |n+1,p,q,v,b=>λz j h=>by
  cases Sh.two I (Kf z (Ft h)) (Kf j (Zd h)) with
  |«at» e=>show OH e h
  |tup h2 i=>
   let(c,F,rfl):=eW h;rw[Ah (λ_ _ _ _=>eq_self I n) h2 i F,h2.length.symm.trans (-i),kg];rfl
  |lst h2 i=>show Ah (λ_ _ _ _=>eq_self I n) h2 i ((dA (h2.length.symm.trans (-i))).symm.trans h)
inductive U_(s:Shared):PV->Value->Prop
 |non:U_ s .non .none
 |bl {b:Bool}:U_ s (.bl b) (.bool b)
 |int {i:Int} {t}:U_ s (.int i) (.int i t)
 |str {x:Str} {t}:U_ s (.str x) (.str x t)
 |tup {ps:List PV} {a:Addr} {eJ}:s.heap.IsTuple a eJ->U_ s (.tup ps) (.ref a)
 |lst {ps:List PV} {a:Addr} {eJ}:s.heap.IsList a eJ->U_ s (.lst ps) (.ref a)
def AO(I:c_ X a_ U H s)(r:d4 X.K #[H,g] p v)(i:dE v u)(h:kn p<6):U_ s p u:=by
 cases p with
 |non=>cases jL r;cases i;show .non
 |bl b=>cases ji r;cases i;show .bl
 |int b=>cases cF r;let(t,rfl):=i;show .int
 |str b=>cases dN r;let(t,rfl):=i;show .str
 |tup ps=>let(a,z,j,rfl,_,_,_,x):=Fq I r i;show .tup x
 |lst ps=>let(a,z,j,rfl,_,_,_,x):=Ag I r i;show .lst x
 |_=>show absurd h (mx 6)
def E3(A:Around)(s:Shared)(x y:Value)(b:Bool):Prop:=EqAt A s x y b/\RcAt A s x y b/\RcNeAt A s x y (not b)
def E3.of(h:some c=!b)(e:EqAt A s x y c)(r:RcAt A s x y c)(q:RcNeAt A s x y (not c)):E3 A s x y b:=gt h▸#[e,r,q]
def two(p q:PV):Bool:=kn p==kn q&&Nat.ble 4 (kn p)
def OK(i:A.units<cLine)(h1:U_ s p u1)(h2:U_ s q u2)(e:two p q=M)(h:dH (n+1) p q=!b):E3 A s u1 u2 b:=by
 cases h1 with
 |non=>
  cases h2 with
  |non=>show E3.of h (EqAt.same .none) RcAt.none_none RcNeAt.none_none
  |bl=>show E3.of h (EqAt.none_bool _) (RcAt.none_bool _) (RcNeAt.none_bool _)
  |int=>show E3.of h (EqAt.none_int _ _) (RcAt.none_int _ _) (RcNeAt.none_int _ _)
  |str=>show E3.of h (EqAt.none_str _ _) (RcAt.none_str _ _) (RcNeAt.none_str _ _)
  |tup j=>show E3.of h (EqAt.none_tuple j i) (RcAt.none_tuple j i) (RcNeAt.none_tuple j i)
  |lst j=>show E3.of h (EqAt.none_list j i) (RcAt.none_list j i) (RcNeAt.none_list j i)
 |bl=>
  cases h2 with
  |non=>show E3.of h (EqAt.bool_none _) (RcAt.bool_none _) (RcNeAt.bool_none _)
  |bl=>show E3.of h (EqAt.bool_bool _ _) (RcAt.bool_bool _ _) (RcNeAt.bool_bool _ _)
  |int=>show E3.of h (EqAt.bool_int _ _ _) (RcAt.bool_int _ _ _) (RcNeAt.bool_int _ _ _)
  |str=>show E3.of h (EqAt.bool_str _ _ _) (RcAt.bool_str _ _ _) (RcNeAt.bool_str _ _ _)
  |tup j=>show E3.of h (EqAt.bool_tuple _ j i) (RcAt.bool_tuple _ j i) (RcNeAt.bool_tuple _ j i)
  |lst j=>show E3.of h (EqAt.bool_list _ j i) (RcAt.bool_list _ j i) (RcNeAt.bool_list _ j i)
 |int=>
  cases h2 with
  |non=>show E3.of h (EqAt.int_none _ _) (RcAt.int_none _ _) (RcNeAt.int_none _ _)
  |bl=>show E3.of h (EqAt.int_bool _ _ _) (RcAt.int_bool _ _ _) (RcNeAt.int_bool _ _ _)
  |int=>show E3.of h (EqAt.int_int _ _ _ _) (RcAt.int_int _ _ _ _) (RcNeAt.int_int _ _ _ _)
  |str=>show E3.of h (EqAt.int_str _ _ _ _) (RcAt.int_str _ _ _ _) (RcNeAt.int_str _ _ _ _)
  |tup j=>show E3.of h (EqAt.int_tuple _ _ j i) (RcAt.int_tuple _ _ j i) (RcNeAt.int_tuple _ _ j i)
  |lst j=>show E3.of h (EqAt.int_list _ _ j i) (RcAt.int_list _ _ j i) (RcNeAt.int_list _ _ j i)
 |str=>
  cases h2 with
  |non=>show E3.of h (EqAt.str_none _ _) (RcAt.str_none _ _) (RcNeAt.str_none _ _)
  |bl=>show E3.of h (EqAt.str_bool _ _ _) (RcAt.str_bool _ _ _) (RcNeAt.str_bool _ _ _)
  |int=>show E3.of h (EqAt.str_int _ _ _ _) (RcAt.str_int _ _ _ _) (RcNeAt.str_int _ _ _ _)
  |str=>show E3.of h (EqAt.str_str _ _ _ _) (RcAt.str_str _ _ _ _) (RcNeAt.str_str _ _ _ _)
  |tup j=>show E3.of h (EqAt.str_tuple _ _ j i) (RcAt.str_tuple _ _ j i) (RcNeAt.str_tuple _ _ j i)
  |lst j=>show E3.of h (EqAt.str_list _ _ j i) (RcAt.str_list _ _ j i) (RcNeAt.str_list _ _ j i)
 |tup z=>
  cases h2 with
  |non=>show E3.of h (EqAt.tuple_none z i) (RcAt.tuple_none z i) (RcNeAt.tuple_none z i)
  |bl=>show E3.of h (EqAt.tuple_bool _ z i) (RcAt.tuple_bool _ z i) (RcNeAt.tuple_bool _ z i)
  |int=>show E3.of h (EqAt.tuple_int _ _ z i) (RcAt.tuple_int _ _ z i) (RcNeAt.tuple_int _ _ z i)
  |str=>show E3.of h (EqAt.tuple_str _ _ z i) (RcAt.tuple_str _ _ z i) (RcNeAt.tuple_str _ _ z i)
  |tup j=>cases e
  |lst j=>show E3.of h (EqAt.tuple_list z j i) (RcAt.tuple_list z j i) (RcNeAt.tuple_list z j i)
 |lst z=>
  cases h2 with
  |non=>show E3.of h (EqAt.list_none z i) (RcAt.list_none z i) (RcNeAt.list_none z i)
  |bl=>show E3.of h (EqAt.list_bool _ z i) (RcAt.list_bool _ z i) (RcNeAt.list_bool _ z i)
  |int=>show E3.of h (EqAt.list_int _ _ z i) (RcAt.list_int _ _ z i) (RcNeAt.list_int _ _ z i)
  |str=>show E3.of h (EqAt.list_str _ _ z i) (RcAt.list_str _ _ z i) (RcNeAt.list_str _ _ z i)
  |tup j=>show E3.of h (EqAt.list_tuple z j i) (RcAt.list_tuple z j i) (RcNeAt.list_tuple z j i)
  |lst j=>cases e
def yr(r:dE v (YV a)):v=.ref a:=by
 cases v with
 |ref b=>cases r;rfl
 |non=>cases r
 |bl _=>cases r
 |ty _=>cases r
 |_=>let(t,e):=r;cases e
def Mm(I:c_ X a_ U H s)(j:d4 X.K #[H,g] p (.ref a1))(z:d4 X.K #[H,g] q (.ref a2))(h:dH n p q=!b)(D:RcAt A s (YV a1) (YV a2) b):EqAt A s (YV a1) (YV a2) b:=by
 by_cases i:a1=a2
 . subst i;show eq_self I n j z h▸EqAt.same _
 . show EqAt.of_refs i D
theorem Kg(I:c_ X a_ U H s):∀(n:Nat){p q:PV}{v w:V}{u1 u2:Value}{b:Bool},d4 X.K #[H,g] p v->d4 X.K #[H,g] q w->dE v u1->dE w u2->dH n p q=!b->∀A:Around,A.units+n<cLine->
 EqAt A s u1 u2 b/\RcAt A s u1 u2 b/\RcNeAt A s u1 u2 (not b)
 |0,p,q,v,w,u1,u2,b=>λ_ _ _ _ h _ _=>by cases h
 |n+1,p,q,v,w,u1,u2,b=>λrp rq r1 r2 h A hA=>by
  let hu:=oS (oz _ _) hA;have OL:A.in1.units+n<cLine:=by show A.units+1+n<cLine;lia
  have item:∀{ps Q:List PV}{vs ws:List V}{W i:List Value}{c:Bool},aK X.K #[H,g] ps vs->db vs W->aK X.K #[H,g] Q ws->db ws i->uQ (dH n) ps Q=!c->
   ∀j (h1:j< ~~~W.toArray) (h2:j< ~~~i.toArray),EqAt A.in1 s W.toArray[j] i.toArray[j] ((dH n (ps.getD j .non) (Q.getD j .non)).getD M):=λ{ps Q vs ws W i c} a b c' d e j h1 h2=>by
   let(p,v,e1,e2,e3):=gS a b ();let(q,w,f1,f2,f3):=gS c' d ();have:=(Bs e).1 j p q e1 f1;show(Kg I n e2 f2 e3 f3 this A.in1 OL).1
  cases e:two p q with
  |false=>show OK hu (AO I rp r1 (Ft h)) (AO I rq r2 (Zd h)) e h
  |true=>
   have e':kn p=kn q/\4<=kn p:=by unfold two at e;simpa using e
   let hk:=Ft h;obtain hp|hp:=(by omega:kn p=4\/kn p=5)
   . let(ps,rfl):=AM hp;let(Q,rfl):=AM (e'.1.symm.trans hp);let(a1,OM,z,rfl,q1,l1,F,x1):=Fq I rp r1;let(a2,ON,i,rfl,q2,l2,D,x2):=Fq I rq r2;let e1:=yr r1;let e2:=yr r2;subst e1 e2;let(c,h5,rfl):=eW h;let it:=item l1 F l2 D h5;have z1: ~~~z.toArray=-ps:=by rw[gX,<-(-F),l1.length]
     have z2: ~~~i.toArray=-Q:=by rw[gX,<-(-D),l2.length]
     let N:=RcAt.tuples x1 x2 hu it;let rn:=RcNeAt.tuples x1 x2 hu it;rw[z1,z2,<-(Bs h5).2]at N rn;show#[Mm I rp rq h N,N,rn]
   . let(ps,rfl):=AN hp;let(Q,rfl):=AN (e'.1.symm.trans hp);let(a1,OM,z,rfl,q1,l1,F,x1):=Ag I rp r1;let(a2,ON,i,rfl,q2,l2,D,x2):=Ag I rq r2;let e1:=yr r1;let e2:=yr r2;subst e1 e2;have z1: ~~~z.toArray=-ps:=by rw[gX,<-(-F),l1.length]
     have z2: ~~~i.toArray=-Q:=by rw[gX,<-(-D),l2.length]
     by_cases hl:-ps=-Q
     . let h':=(dA hl).symm.trans h;let it:=item l1 F l2 D h';let hz:=(z1.trans hl).trans z2.symm;let N:=RcAt.lists x1 x2 hz hu it;let rn:=RcNeAt.lists x1 x2 hz hu it;rw[z1,<-(show min (-ps) (-Q)=-ps by rw[<-hl,Nat.min_self]),<-(Bs h').2]at N rn;show#[Mm I rp rq h N,N,rn]
     . let h':=gt ((dQ hl).symm.trans h);subst h';have hz:(~~~z.toArray != ~~~i.toArray)=G:=by rw[z1,z2];show bne_iff_ne.mpr hl
       let N:=RcAt.lists_lengths x1 x2 hz hu;show#[Mm I rp rq h N,N,RcNeAt.lists_lengths x1 x2 hz hu]
end
section
open PySem.SeqAt
variable {X:Cx}{a_:List (Addr×Obj)}{U:L2.St}{H:Hp}{s:Shared}{g:List Addr}
def Qz(h:dH (n+1) (ZB ps) r=!b):b=M\/∃rs,r=ZB rs:=by
 cases r with
 |tup rs=>grind
 |_=>cases h<;>show Zl O
def QB(h:dH (n+1) (R ps) r=!b):b=M\/∃rs,r=R rs:=by
 cases r with
 |lst rs=>grind
 |_=>cases h<;>show Zl O
theorem Fv(I:c_ X a_ U H s):∀(n:Nat){p q r:PV}{v:V}{b c:Bool},d4 X.K #[H,g] p v->d4 X.K #[H,g] q v->dH n p r=!b->dH n q r=!c->b=c
 |0,p,q,r,v,b,c=>λ_ _ h _=>by cases h
 |n+1,p,q,r,v,b,c=>λrp rq h k=>by
  cases Sh.two I (Kf rp (Ft h)) (Kf rq (Ft k)) with
  |«at» e=>grind
  | @tup ps N _ h2 i=>
   let j:=h2.length.symm.trans (-i);obtain rfl|⟨rs,rfl⟩:=Qz h
   . obtain rfl|⟨rs,rfl⟩:=Qz k
     . rfl
     . let(c1,F,Q):=eW h;let(c2,z,rfl):=eW k;rw[<-yq (f:=dH n) (λ_ _ _ _ _ _=>Fv I n) h2 i F z,<-j,Q]
   . let(c1,F,rfl):=eW h;let(c2,z,rfl):=eW k;rw[yq (f:=dH n) (λ_ _ _ _ _ _=>Fv I n) h2 i F z,j]
  | @lst ps N _ h2 i=>
   let j:=h2.length.symm.trans (-i);have W:∀rs,r=R rs->b=c:=λrs e=>by
    subst e;by_cases D:-N=-rs
    . show yq (f:=dH n) (λ_ _ _ _ _ _=>Fv I n) h2 i ((dA ()).symm.trans h) ((dA D).symm.trans k)
    . show gt ((((dQ λe=>D ()).symm.trans h).symm.trans ((dQ D).symm.trans k)))
   obtain Q|⟨rs,e⟩:=QB h
   . obtain e2|⟨rs,e⟩:=QB k
     . grind
     . grind
   . grind
noncomputable def tR (f:PV->PV->Option Bool) (x:PV):List PV->Option Bool
 |[]=>!M
 |q::qs=>(f q x).bind λb=>(tR f x qs).map λc=>b||c
theorem G6:∀{qs:List PV}{b:Bool},tR f x qs=!b->(∀q∈qs,∃c,f q x=!c)/\b=qs.any λq=>(f q x).getD M
 |[],b,h=>by cases h;grind
 |q::qs,b,h=>by
  let(c,h1,h2):=et h;let(d,j,rfl):=eW h2;let(F,z):=G6 j;show#[λD i=>?_,?_]
  . obtain rfl|i:=d5.mp i
    . grind
    . grind
  . grind
open Classical in
def fN(K:FG)(Z:ZG)(x:PV)(qs:List PV)(vs:List V)(eJ:List Value)(u:Value):Bool:=
 if h:∃(j:Nat)(q:PV),qs[j]?=!q/\eJ[j]?=!u then (dH 150 h.choose_spec.choose x).getD M else M
def Du(I:c_ X a_ U H s){xv:V}{xu:Value}(r:aK X.K #[H,g] qs vs)(N:db vs eJ)(F:∀q∈qs,∃c,dH 150 q x=!c){j:Nat}(z:qs[j]?=!q)(Q:eJ[j]?=!u):
 fN X.K #[H,g] x qs vs eJ u=(dH 150 q x).getD M:=by
 have h:∃(j:Nat)(q:PV),qs[j]?=!q/\eJ[j]?=!u:=#[j,q,z,Q];unfold fN;rw[dif_pos h];let(i,D):=h.choose_spec.choose_spec;generalize h.choose_spec.choose=q' at i D;let(v1,g1,g2):=r.get z;let(v2,k1,k2):=r.get i;let(u1,W,m2):=N.get g1;let(u2,n1,n2):=N.get k1;rw[Q]at W;cases W;rw[D]at n1;cases n1;let ev:=dE.inj m2 n2;subst ev;let(c1,h1):=F q (g7 z);let(c2,h2):=F q' (g7 i);rw[h1,h2,Fv I 150 k2 g2 h2 h1]
def Dv(I:c_ X a_ U H s)(rx:d4 X.K #[H,g] x xv)(ru:dE xv xu)(r:aK X.K #[H,g] qs vs)(D:db vs eJ)(F:∀q∈qs,∃c,dH 150 q x=!c)(hA:A.units+150<cLine):
 ∀u,u∈eJ.toArray->EqAt A s u xu (fN X.K #[H,g] x qs vs eJ u):=λu hu=>by
 have i:u∈eJ:=by simpa using hu
 let(j,hj,e):=List.getElem_of_mem i;have Q:eJ[j]?=!u:=by rw[gz hj,e]
 let hl:=-D;let zl:=-r;have z:qs[j]?=!(qs[j]'()):=gz _;rw[Du (xv:=xv) (xu:=xu) I r D F z Q];let(v1,g1,g2):=r.get z;let(u1,N,W):=D.get g1;rw[Q]at N;cases N;let(c1,h1):=F _ (g7 z);rw[h1];show(Kg I 150 g2 rx W ru h1 A hA).1
def IW(I:c_ X a_ U H s){xv:V}{xu:Value}(r:aK X.K #[H,g] qs vs)(i:db vs eJ)(F:∀q∈qs,∃c,dH 150 q x=!c):
 eJ.toArray.any (fN X.K #[H,g] x qs vs eJ)=qs.any λq=>(dH 150 q x).getD M:=by
 have Q:-eJ=-qs:=by rw[<-(-i),r.length]
 have key:eJ.map (fN X.K #[H,g] x qs vs eJ)=qs.map λq=>(dH 150 q x).getD M:=by
  apply List.ext_getElem?;intro j;rw[fI,fI];by_cases N:j< -eJ
  . let z:=gz N;have D:qs[j]?=!(qs[j]'()):=gz _;rw[z,D,kA,kA,Du (xv:=xv) (xu:=xu) I r i F D z]
  . grind
 rw[show eJ.toArray.any (fN X.K #[H,g] x qs vs eJ)=eJ.any (fN X.K #[H,g] x qs vs eJ) by simp];have W:eJ.any (fN X.K #[H,g] x qs vs eJ)=(eJ.map (fN X.K #[H,g] x qs vs eJ)).any id:=by simp[List.any_map]
 have a2:(qs.any λq=>(dH 150 q x).getD M)=(qs.map λq=>(dH 150 q x).getD M).any id:=by simp[List.any_map]
 grind
end
section
variable {X:Cx}
def SR.rep2(h:SR K H0 Z0 U H Y ((w,Zp q)::(v,Zp p)::pd)):∃Z:ZG,eY_ Z.z H/\d4 K Z p v/\d4 K Z q w:=by let(_,Z,_,z,r,s):=h.sh;let(x,j,i):=(s.perm dD.symm).1 _ ed;cases j;show#[Z,z.zh,i,r]
def SR.rep2H(h:SR K H0 Z0 U H Y ((w,Zp q)::(v,Zp p)::pd)):∃g,d4 K #[H,g] p v/\d4 K #[H,g] q w:=by let(Z,z,a,b):=h.rep2;show#[Z.g,a.mono (Z':=#[H,Z.g]) #[z,kP _],b.mono (Z':=#[H,Z.g]) #[z,kP _]]
def Sv(K:FG)(neg:Bool):R2:=λx y H Q=>∃g p q b,d4 K #[H,g] p x/\d4 K #[H,g] q y/\dH 150 p q=!b/\Q (.bl (if neg then not b else b)) H
def cG(hr:gn b k X.A):ju X (compareOp .Eq) (Sv X.K M):=by
 intro a_ s U H x y v u Q I N z h;let(g,p,q,b,W,F,e,i):=h;have j:X.A.units+150<cLine:=by have:=hr.un;lia
 let(_,D,_):=Kg I 150 W F N z e X.A j;show D _ _ _ _ #[.bl b,H,I,O,i]
def Mp(W:gn b k X.A):ju X (compareOp .NotEq) (Sv X.K G):=by
 intro a_ s U H x y v u Q I F z h;let(g,p,q,b,N,D,e,i):=h;have j:X.A.units+150<cLine:=by have:=W.un;lia
 let(_,_,rn):=Kg I 150 N D F z e X.A j;show rn _ _ _ _ #[.bl (not b),H,I,O,i]
def fB(p q:PV):Option Lc:=(dH 150 p q).map λb=>Zp (.bl b)
def Mq(p q:PV):Option Lc:=(dH 150 p q).map λb=>Zp (.bl (not b))
def cH:pA K (Sv K M) fB:=by intro H0 Z0 U Y pd H v w x y l Q s e k;let(b,j,rfl):=eW e;let(g,i,q):=s.rep2H;show#[g,x,y,b,i,q,j,k _ H (s.pop.pop.scal mq)]
def Mr:pA K (Sv K G) Mq:=by intro H0 Z0 U Y pd H v w x y l Q s e k;let(b,j,rfl):=eW e;let(g,i,q):=s.rep2H;show#[g,x,y,b,i,q,j,k _ H (s.pop.pop.scal mq)]
def Xu(K:FG)(neg:Bool):R2:=λx y H Q=>(∃g p qs b,d4 K #[H,g] p x/\(d4 K #[H,g] (R qs) y\/d4 K #[H,g] (ZB qs) y)/\tR (dH 150) p qs=!b/\Q (.bl (if neg then not b else b)) H)\/
 ∃i j,x=.str i/\y=.str j/\Q (.bl (if neg then (Builtin.Str.occurrences j i 0 (-j) 1).isEmpty else not (Builtin.Str.occurrences j i 0 (-j) 1).isEmpty)) H
def uR(hr:gn b k X.A):ju X (compareOp .In) (Xu X.K M):=by
 intro a_ s U H x y v u Q I rx W h;have hA:X.A.in1.units+150<cLine:=by have:=hr.un;show X.A.units+1+150<cLine;lia
 obtain⟨g,p,qs,b,rp,D,e,F⟩|⟨i,j,rfl,rfl,F⟩:=h
 . let(N,i2):=G6 e;obtain D|D:=D
   . let(a,vs,z,rfl,q1,l1,q,t1):=Ag I D W;show SeqAt.in_listAt (fN X.K #[H,g] p qs vs z) t1 (Dv I rp rx l1 q N hA) #[.bl b,H,I,?_,F];rw[IW (xv:=x) (xu:=v) I l1 q N,<-i2];rfl
   . let(a,vs,z,rfl,q1,l1,q,t1):=Fq I D W;show SeqAt.in_tupleAt (fN X.K #[H,g] p qs vs z) t1 (Dv I rp rx l1 q N hA) #[.bl b,H,I,?_,F];rw[IW (xv:=x) (xu:=v) I l1 q N,<-i2];rfl
 . show T6 a_ s U H (.str i) (.str j) v u Q I rx W #[i,j,O,O,F]
def n9(x y:PV):Option Bool:=match y with
 |R qs=>tR (dH 150) x qs
 |ZB qs=>tR (dH 150) x qs
 |ZH j=>match x with
  |ZH i=>!(not (Builtin.Str.occurrences j i 0 (-j) 1).isEmpty)
  |_=>J
 |_=>J
def pB(p q:PV):Option Lc:=(n9 p q).map λb=>Zp (.bl b)
def OO:pA K (Xu K neg) (λp q=>(n9 p q).map λb=>Zp (.bl (if neg then not b else b))):=by
 intro H0 Z0 U Y pd H v w x y l Q s e k;let(b,z,rfl):=eW e;let(g,D,N):=s.rep2H;cases y with
 |lst F=>show Zl #[g,x,F,b,D,Zl N,z,k _ H (s.pop.pop.scal mq)]
 |tup F=>show Zl #[g,x,F,b,D,YY N,z,k _ H (s.pop.pop.scal mq)]
 |str j=>
  cases x with
  |str i=>
   let W:=gt z;subst W;show YY #[i,j,dN D,dN N,?_];have:=k (.bl (if neg then (Builtin.Str.occurrences j i 0 (-j) 1).isEmpty else not (Builtin.Str.occurrences j i 0 (-j) 1).isEmpty)) H;show this (s.pop.pop.scal λZ=>?_);cases neg<;>simp[d4]
  |_=>cases z
 |_=>cases z
def qY:pA K (Xu K M) pB:=OO
def Zf:PV->Bool
 |.non=>G
 |_=>M
def Sw(p q:PV):Option Lc:=match q with
 |.non=>!(Zp (.bl (Zf p)))
 |_=>J
def OP(r:d4 K Z p v):decide (v=.non)=Zf p:=by
 cases p with
 |non=>have:=jL r;subst this;rfl
 |bl b=>have:=ji r;subst this;rfl
 |int b=>have:=cF r;subst this;rfl
 |str b=>have:=dN r;subst this;rfl
 |tup ps=> let(a,i,rfl,_):=r;rfl
 |lst ps=> let(a,i,rfl,_):=r;rfl
 |dk ks ps=> let(a,i,rfl,_):=r;rfl
 |dt ks ps=> let(a,i,rfl,_):=r;rfl
 |obj c ks ps=> let(a,c,dx,fs,rfl,_):=r;rfl
 |df ks ps=> let(a,o,j,rfl,_):=r;rfl
 |dtf ks ps=> let(a,o,j,rfl,_):=r;rfl
 |dx hk ks ps=> let(a,xs,rfl,_):=r;rfl
 |exc n=> let(a,c,rfl,_):=r;rfl
 |fn n=> let(a,rfl,_):=r;rfl
 |ptr n=> let(a,rfl,_):=r;rfl
def QC:pA K (λx y H Q=>y=.non/\Q (.bl (decide (x=.non))) H) Sw:=by
 intro H0 Z0 U Y pd H v w x y l Q s e k;let(g,i,q):=s.rep2H;cases y with
 |non=>
  let j:=gt e;subst j;show#[jL q,?_];rw[OP i];show k _ H (s.pop.pop.scal mq)
 |_=>cases e
def Ms:=CZ (λ_ _=>G) λi j=>.bl (decide (i<j))
def iV:=CZ (λ_ _=>G) λi j=>.bl (decide (j<i))
def Vd:pA K (zG λi j=>.bl (decide (i<j))) Ms:=LR λ_ _ _=>mq _
def mC:pA K (zG λi j=>.bl (decide (j<i))) iV:=LR λ_ _ _=>mq _
def Mt:=CZ (λ_ _=>G) λi j=>ZI (i-j)
def aZ:=CZ (λ_ j=>decide (0<j)) λi j=>ZI (i%j)
def bO:=CZ (λ_ j=>decide (0<j/\j<1073741824)) λi j=>ZI (i/j)
def gM:=CZ (λi j=>decide (((Neg.neg (2 ^ 64))<i/\i<2 ^ 64)\/((Neg.neg (2 ^ 64))<j/\j<2 ^ 64))) λi j=>ZI (i*j)
def Xv:=CZ (λi j=>decide (0<=j/\j<=1000000/\i.natAbs<2 ^ 64)) λi j=>ZI (i ^ j.toNat)
def QD:pA K (zG λi j=>.int (i-j)) Mt:=LR λ_ _ _=>gF _
def bQ:pA K (rI (λ_ j=>0<j) λi j=>.int (i%j)) aZ:=Ka (λ_ _ h=>of_decide_eq_true h) λ_ _ _=>gF _
def cZ:pA K (rI xC λi j=>.int (i/j)) bO:=Ka (λi j h=>(of_decide_eq_true h:0<j/\j<1073741824)) λ_ _ _=>gF _
def lG:pA K (rI RG λi j=>.int (i*j)) gM:=Ka (λi j h=>(of_decide_eq_true h:((Neg.neg (2 ^ 64))<i/\i<2 ^ 64)\/((Neg.neg (2 ^ 64))<j/\j<2 ^ 64))) λ_ _ _=>gF _
def OQ:pA K (rI xD λi j=>.int (i ^ j.toNat)) Xv:=Ka (λi j h=>(of_decide_eq_true h:0<=j/\j<=1000000/\i.natAbs<2 ^ 64)) λ_ _ _=>gF _
def Wt(K:FG):R2:=λx y H Q=>zG (λi j=>.int (i+j)) x y H Q\/(∃i j,x=.str i/\y=.str j/\-i+-j<=sizeLine/\Q (.str (i++j)) H)\/
 (∃a b xs ys,x=.ref a/\y=.ref b/\bY K H a xs/\bY K H b ys/\-xs+-ys<=sizeLine/\∀p,H p=J->Q (.ref p) (dW H p (.lst (xs++ys))))\/YZ K x y H Q
def bD:ju X (binaryOp .Add) (Wt X.K):=H_.or (RK.or (KU.or Z4))
noncomputable def bf:PV->PV->Option Lc
 |ZI i,ZI j=>!(Zp (ZI (i+j)))
 |ZH i,ZH j=>if -i+-j<=100000 then !(Zp (ZH (i++j))) else J
 |R ps,R qs=>if -ps+-qs<=100000 then !(Zs (R (ps++qs))) else J
 |ZB (p::ps),ZB qs=>if -ps+-qs<=10000 then !(Zp (ZB (p::ps++qs))) else J
 |_,_=>J
def qZ{α:Type}[Decidable c]{a b:α}(e:(if c then !a else J)=!b):c/\a=b:=by
 split at e
 . grind
 . cases e
def OS(e:bf x y=!l):(∃i j,x=ZI i/\y=ZI j/\l=Zp (ZI (i+j)))\/(∃i j,x=ZH i/\y=ZH j/\-i+-j<=100000/\l=Zp (ZH (i++j)))
\/(∃ps qs,x=R ps/\y=R qs/\-ps+-qs<=100000/\l=Zs (R (ps++qs)))\/∃p ps qs,x=ZB (p::ps)/\y=ZB qs/\-ps+-qs<=10000/\l=Zp (ZB (p::ps++qs)):=by
 unfold bf at e;split at e
 . grind
 . let(h,e):=qZ e;grind
 . let(h,e):=qZ e;grind
 . let(h,e):=qZ e;grind
 . cases e
def bF:pA K (Wt K) bf:=by
 intro H0 Z0 U Y pd H v w x y l Q s e k;let(g,r1,r2):=s.rep2H;obtain⟨i,j,rfl,rfl,rfl⟩|⟨i,j,rfl,rfl,N,rfl⟩|⟨ps,qs,rfl,rfl,N,rfl⟩|⟨p,ps,qs,rfl,rfl,N,rfl⟩:=OS e
 . show Zl #[i,j,cF r1,cF r2,k _ H (s.pop.pop.scal gF)]
 . show YY (Zl #[i,j,dN r1,dN r2,gp N,k _ H (s.pop.pop.scal pq)])
 . let(W,Z,hg,z,rq,s1):=s.sh;let D:=s1.perm dD.symm;let(_,e1,rp):=D.1 _ ed;cases e1;let(a,xs,rfl,h1,h2):=rp;let(b,ys,rfl,h3,F):=rq;show YY (YY (Zl #[a,b,xs,ys,O,O,bY.same z.zh h1,bY.same z.zh h3,by rw[h2.length,F.length];show gp N,λp hp=>k _ _ ?_]));let(z',s'):=(D.sub (gI _ _)).new (p:=R (ps++qs)) z hp #[xs++ys,bZ,h2.append F];show .mk W hg z' s'
 . let(W,Z,hg,z,rq,s1):=s.sh;let D:=s1.perm dD.symm;let(_,e1,rp):=D.1 _ ed;cases e1;let(a,xs,rfl,h1,h2):=rp;let(b,ys,rfl,h3,F):=rq;have hx:xs≠[]:=λh=>by have:=-h2;rw[h]at this;simp at this
   let hz:=-h2;let yY:=-F;rw[d6]at hz;show YY (YY (YY #[a,b,xs,ys,O,O,cW.same z.zh h1,cW.same z.zh h3,hx,gp (),λh=>?_,λh q hq=>?_]))
   . subst h;have:qs=[]:=xj yY.symm;subst this;rw[f_]at k;show k _ H s.pop
   . let s3:=D.sub (gI _ _);let(z',sz,s'):=s3.newF z hq;show k _ _ (.mk (Z:=Z.put q (.tup (xs++ys))) W hg z' (s'.consS ?_));show#[q,xs++ys,O,cW.of bZ,(h2.append F).mono sz]
def qG:PV->PV->Option Lc
 |R ps,ZI i=>(fO ps i).map Zp
 |ZB ps,ZI i=>(fO ps i).map Zp
 |ZH x,ZI i=>if -x<=100000 then (fO x.cps.toList i).map λc=>Zp (ZH #[(List.toArray [c])]) else J
 |_,_=>J
def Bt{r:List β}(h:fO l i=!x)(e:-r=-l):∃(j:Nat),l[j]?=!x/\∀y,r[j]?=!y->fO r i=!y:=by let(j,h1,h2):=et h;show#[j,h2,λy q=>?_];unfold fO;grind
def OT(e:qG x y=!l):∃i,y=ZI i/\((∃ps,(x=R ps\/x=ZB ps)/\(fO ps i).map Lc.sh=!l)\/∃t c,x=ZH t/\-t<=100000/\fO t.cps.toList i=!c/\l=Zp (ZH #[(List.toArray [c])])):=by
 unfold qG at e;split at e
 . grind
 . grind
 . split at e
   . rename_i h;let(c,h1,rfl):=eW e;grind
   . cases e
 . cases e
def Ve:pA K (sC K) qG:=by
 intro H0 Z0 U Y pd H v w x y l Q s e k;let(i,rfl,hx):=OT e;let(el,Z,hg,z,r2,s1):=s.sh;let s2:=s1.perm dD.symm;let(_,q,F):=s2.1 _ ed;cases q;let s3:=s2.sub (gI _ _);let ew:=cF r2;obtain⟨ps,hx,h0⟩|⟨x,c,rfl,hl,h1,rfl⟩:=hx
 . let(p,h1,rfl):=eW h0;obtain rfl|rfl:=hx
   . let(a,W,rfl,h2,D):=F;let(j,q,e2):=Bt h1 (-D);let(u,e3,N):=D.get q;show Zl #[a,W,i,u,O,ew,bY.same z.zh h2,e2 u e3,k _ H (.mk el hg z (s3.consS N))]
   . let(a,W,rfl,h2,D):=F;let(j,q,e2):=Bt h1 (-D);let(u,e3,N):=D.get q;show YY (Zl #[a,W,i,u,O,ew,cW.same z.zh h2,e2 u e3,k _ H (.mk el hg z (s3.consS N))])
 . show YY (YY #[x,i,c,dN F,ew,gp hl,h1,k _ H (s.pop.pop.scal pq)])
def rm(ps:List PV)(lo hi:Option Int):List PV:=(ps.drop (HT.sIx (-ps) 0 lo)).take (HT.sIx (-ps) (-ps) hi-HT.sIx (-ps) 0 lo)
abbrev OF:=Ev->Option (Option Int×Ev)
def Fw(K:FG)(f:OF):TO:=λU H Q=>∃H0 Z0 Y pd r Y',SR K H0 Z0 U H Y pd/\f Y=!(r,Y')/\∀H',SR K H0 Z0 U H' Y' pd->Q r H'
def PO.imp(h:PO X e t)(i:∀U H Q,t' U H Q->t U H Q):PO X e t':=λa_ s U H Q I q=>h a_ s U H Q I (i U H Q q)
def eU:OF:=λY=>!(J,Y)
def cM(f:EF):OF:=λY=>(f Y).bind λx=>match x.1.pv with
 |ZI i=>!(!i,x.2)
 |_=>J
def jX:PO X J (Fw X.K eU):=PO.imp ZZ λU H Q q=>by let(H0,Z0,Y,pd,r,Y',s,h,k):=q;cases h;show k H s
def eX(h:PE X e (tP X.K f)):PO X (!e) (Fw X.K (cM f)):=PO.imp (Z3 h) λU H Q q=>by
 let(H0,Z0,Y,pd,r,Y',s,h,k):=q;let(x,h1,h2):=et h;show#[H0,Z0,Y,pd,x.1,x.2,s,h1,λv H1 z=>?_];let(_,j):=z.freeze.repH;cases e:x.1.pv with
 |int i=>
  rw[e]at h2 j;cases h2;show#[i,cF j,k H1 z.pop]
 |_=>grind
def aK.cut{lo hi:Option Int}(h:aK K Z ps vs):aK K Z (rm ps lo hi) (uK vs lo hi):=by unfold rm uK;rw[h.length];show(h.drop _).take _
def lQ(K:FG)(r:List V->Hp->VK->Prop)(g:List PV->Option Lc):Prop:=∀H0 Z0 U Y pd H vs ps l Q,-vs=-ps->SR K H0 Z0 U H Y (vs.zip (ps.map Lc.sh)++pd)->g ps=!l->(∀u H',SR K H0 Z0 U H' Y ((u,l)::pd)->Q u H')->r vs H Q
def eB(g:List PV->Option Lc)(a:AF):EF:=λY=>(a Y).bind λy=>(g (y.1.map Lc.pv)).map λl=>(l,y.2)
def pP(hs:lQ X.K r g):∀U H Q,tP X.K (eB g a) U H Q->zN r (jR X.K a) U H Q:=λU H Q q=>by
 let(H0,Z0,Y,pd,l,Y',s,f,k):=q;let(y,h1,h2):=et f;let(l',j,N):=eW h2;cases N;show#[H0,Z0,Y,pd,y.1,y.2,s,h1,λF H2 W D=>?_];let i:=D.freezeAll;have z:(y.1.map λl=>Lc.sh l.pv)=(y.1.map Lc.pv).map Lc.sh:=by rw[im];rfl
 rw[z]at i;show hs H0 Z0 U y.2 pd H2 F (y.1.map Lc.pv) _ Q ∅ i j k
def wJ{id:String}(i:lO X (.builtin id) r)(hs:lQ X.K r g)(h:PE X (.Call (.Name x p) (e::es) [] pos) (zN r (jR X.K a))):PE X (.Call (.Name x p) (e::es) [] pos) (tP X.K (eB g a)):=PE.imp h (pP hs)
def lQ.one{g:PV->Option Lc}(h:∀H0 Z0 U Y pd H v p l Q,SR K H0 Z0 U H Y ((v,Zp p)::pd)->g p=!l->(∀u H',SR K H0 Z0 U H' Y ((u,l)::pd)->Q u H')->r [v] H Q):
 lQ K r (λps=>match ps with |[p]=>g p |_=>J):=by
 intro H0 Z0 U Y pd H vs ps l Q e s hg k
 match ps,vs,e,s,hg with
 |[p],[v],_,s,hg=>show h H0 Z0 U Y pd H v p l Q s hg k
 |[p],[],e,_,_=>simp at e
 |[p],_::_::_,e,_,_=>simp at e
 |[],_,_,_,hg=>cases hg
 |_::_::_,_,_,_,hg=>cases hg
noncomputable def AQ:PV->Option Lc
 |ZH x=>if -x<=100000 then !(Zp (ZI (-x))) else J
 |R ps=>!(Zp (ZI (-ps)))
 |ZB ps=>!(Zp (ZI (-ps)))
 |_=>J
abbrev cz:List PV->Option Lc:=λps=>match ps with |[p]=>AQ p |_=>J
def Vf:lQ K (λxs H Q=>∃x n,xs=[x]/\Wq K x H n/\Q (.int n) H) cz:=lQ.one λH0 Z0 U Y pd H v p l Q s e k=>by
 let(_,r):=s.repH;cases p with
 |str x=>
  have i:(if -x<=100000 then !(Lc.sh (ZI (-x))) else J)=!l:=e;split at i
  . rename_i z;cases i;have:=dN r;subst this;show#[_,-x,O,#[gp z,O],k _ H (s.pop.scal gF)]
  . cases i
 |lst ps=>
  cases e;let(a,j,rfl,h1,h2):=r;show#[_,-ps,O,Zl #[j,h1,h2.length.symm],k _ H (s.pop.scal gF)]
 |tup ps=>
  cases e;let(a,j,rfl,h1,h2):=r;show#[_,-ps,O,YY #[j,h1,h2.length.symm],k _ H (s.pop.scal gF)]
 |_=>cases e
def OU:PV->Option Lc
 |R ps=>!(Zs (R ps))
 |ZB ps=>!(Zs (R ps))
 |_=>J
abbrev iN:List PV->Option Lc:=λps=>match ps with |[p]=>OU p |_=>J
def wK:lQ K (λxs H Q=>∃p ys,xs=[.ref p]/\(bY K H p ys\/cW K H p ys)/\∀l,H l=J->Q (.ref l) (dW H l (.lst ys))) iN:=lQ.one λH0 Z0 U Y pd H v p l Q s e k=>by
 let(F,Z,N,z,r,W):=s.sh;cases p with
 |lst ps=>
  cases e;let(a,D,rfl,h1,h2):=r;show#[a,D,O,Zl (bY.same z.zh h1),λq i=>k _ _ ?_];let(j,s'):=W.new (p:=R ps) z i #[_,bZ,h2];show .mk F N j s'
 |tup ps=>
  cases e;let(a,D,rfl,h1,h2):=r;show#[a,D,O,YY (cW.same z.zh h1),λq i=>k _ _ ?_];let(j,s'):=W.new (p:=R ps) z i #[_,bZ,h2];show .mk F N j s'
 |_=>cases e
def Ev.set_set:(Y.set i x).set i y=Y.set i y:=by show Ev.mk ((Y.vs.set i x).set i y) Y.mu=_;rw[j2];rfl
def SR.takeO(s:SR K H0 Z0 U H Y pd)(e:Y.vs[i]?=!(!(Zs (R ws)))):
 ∃a,U[i]?=!(!(.ref a))/\(∃j,H a=!(.lst j))/\SR K H0 Z0 U H (Y.set i J) ((.ref a,Zs (R ws))::pd):=by
 let(v,Q,q):=s.take e;let(_,Z,_,z,D):=q.top;let(a,F,(j,N,_),_):=D.1 _ ed;grind
def jM(i:Nat)(f:EF):SF:=λY=>match Y.vs[i]? with
 |some (!(Zs (R _)))=>(f Y).bind λy=>match y.2.vs[i]? with
  |some (!(Zs (R ws)))=>if -ws<100000 then !(.nx (y.2.set i (!(Zs (R (ws++[y.1.pv])))))) else J
  |_=>J
 |_=>J
def OV(h:PS X (.Expr (.Call (.Attribute o "append" apos) [e] [] cpos) pos) (J3 (KZ X.K "list" GP (uH i) (jR X.K (aj f ao))))):
 PS X (.Expr (.Call (.Attribute o "append" apos) [e] [] cpos) pos) (iw X.K (jM i f)):=PS.imp h λD U H q=>by
 let(H0,Z0,Y,pd,fl,s,h,k):=q;unfold jM at h;split at h
 . rename_i ws0 e0;let(y,h1,h2):=et h;let(a,z,(us,hu),_):=s.takeO e0;show#[.ref a,z,Zl #[O,us,bY.of hu],H0,Z0,Y,pd,[y.1],y.2,s,?_,λvs H2 e2 s2=>?_]
   . unfold aj ao;grind
   . let(v1,rfl):=yZ e2;split at h2
     . rename_i ws e3;split at h2
       . cases h2;let(a',j,_,s3):=SR.takeO s2 e3;rw[z]at j;cases j;let W:=s3.swap;let(N,F,hl,s5):=W.pushO;show#[a,N,v1,O,O,F,by rw[hl,sizeLine_eq];lia,k U _ ?_];let Q:=s5.put z;rw[Ev.set_set]at Q;show Q
       . cases h2
     . cases h2
 . cases h
def SR.extO(s:SR K H0 Z0 U H Y ((v,Zp (R ps))::(.ref a,Zs (R ws))::pd)):
 ∃b i zs,v=.ref b/\bY K H b zs/\H a=!(.lst i)/\-i=-ws/\-zs=-ps/\SR K H0 Z0 U (dW H a (.lst (i++zs))) Y ((.ref a,Zs (R (ws++ps)))::pd):=by
 let(F,Z,Q,z,r,N):=s.sh;let(b,zs,rfl,h1,h2):=r;let j:=N.perm dD.symm;let(_,eb,(i,hu,D),_):=j.1 _ ed;cases eb;show#[b,i,zs,O,bY.same z.zh h1,hu,-D,-h2,?_];let(W,s'):=j.write (q:=R (ws++ps)) z #[i++zs,bZ,D.append h2];show .mk F Q W s'
def gb(i:Nat)(f:EF):SF:=λY=>match Y.vs[i]? with
 |some (!(Zs (R _)))=>(f Y).bind λy=>match y.1.pv,y.2.vs[i]? with
  |R ps,!(!(Zs (R ws)))=>if -ws+-ps<=100000 then !(.nx (y.2.set i (!(Zs (R (ws++ps)))))) else J
  |_,_=>J
 |_=>J
def OW(h:PS X (.Expr (.Call (.Attribute o "extend" apos) [e] [] cpos) pos) (J3 (KZ X.K "list" (K4 X.K) (uH i) (jR X.K (aj f ao))))):
 PS X (.Expr (.Call (.Attribute o "extend" apos) [e] [] cpos) pos) (iw X.K (gb i f)):=PS.imp h λD U H q=>by
 let(H0,Z0,Y,pd,fl,s,h,k):=q;unfold gb at h;split at h
 . rename_i ws0 e0;let(y,h1,h2):=et h;let(a,z,(us,hu),_):=s.takeO e0;show#[.ref a,z,Zl #[O,us,bY.of hu],H0,Z0,Y,pd,[y.1],y.2,s,?_,λvs H2 e2 s2=>?_]
   . unfold aj ao;grind
   . let(v1,rfl):=yZ e2;split at h2
     . rename_i ps ws ep e3;split at h2
       . rename_i hz;cases h2;let(a',j,_,s3):=SR.takeO s2 e3;rw[z]at j;cases j;let W:=s3.swap.freeze;rw[ep]at W;let(b,F,zs,rfl,hb,Q,hl,N,s5):=W.extO;show#[a,b,F,zs,O,O,Q,hb,by rw[hl,N];show gp hz,k U _ ?_];let s6:=s5.put z;rw[Ev.set_set]at s6;show s6
       . cases h2
     . cases h2
 . cases h
def SR.setO(s:SR K H0 Z0 U H Y ((v,Zp p)::(.ref a,Zs (R ws))::pd)):
 ∃i,H a=!(.lst i)/\-i=-ws/\SR K H0 Z0 U (dW H a (.lst (i.set j v))) Y ((.ref a,Zs (R (ws.set j p)))::pd):=by
 let(N,Z,W,z,r,Q):=s.sh;let D:=Q.perm dD.symm;let(_,eb,(i,hu,F),_):=D.1 _ ed;cases eb;show#[i,hu,-F,?_];let(z',s'):=D.write (q:=R (ws.set j p)) z #[i.set j v,bZ,F.set r j];show .mk N W z' s'
def Bu(i:Nat)(fi fv:EF):SF:=λY=>(fv Y).bind λx=>match x.2.vs[i]? with
 |some (!(Zs (R _)))=>(fi x.2).bind λy=>match y.1.pv,y.2.vs[i]? with
  |ZI k,!(!(Zs (R ws)))=>(uL (-ws) k).map λj=>.nx (y.2.set i (!(Zs (R (ws.set j x.1.pv)))))
  |_,_=>J
 |_=>J
def OX(h:PS X (.Assign [.Subscript o ix tpos] e pos) (Rz (tP X.K fv) (Wk (uH i) (tP X.K fi) Y0_))):PS X (.Assign [.Subscript o ix tpos] e pos) (iw X.K (Bu i fi fv)):=PS.imp h λD U H q=>by
 let(H0,Z0,Y,pd,fl,s,h,k):=q;let(x,h1,h2):=et h;show#[H0,Z0,Y,pd,x.1,x.2,s,h1,λv H1 s1=>?_];split at h2
 . rename_i ws0 e0;let(y,h3,N):=et h2;let(a,Q,_):=s1.takeO e0;show#[.ref a,Q,H0,Z0,x.2,_,y.1,y.2,s1.freeze,h3,λw H2 W=>?_];split at N
   . rename_i kk ws ek e3;let(j,h5,rfl):=eW N;let(_,F):=W.freeze.repH;rw[ek]at F;let ew:=cF F;let(a',z,_,s3):=W.pop.takeO e3;rw[Q]at z;cases z;let(us,hu,hl,s4):=s3.swap.setO;show#[a,us,kk,j,O,ew,hu,by rw[hl];show h5,k U _ ?_];let s5:=s4.put Q;rw[Ev.set_set]at s5;show s5
   . cases N
 . cases h2
def Ai(i:g[n]?=!a)(q:mu[n]?=!o):∃ZN:Sl,List.Perm (cel g mu) ((!(.ref a),o.map Lc.own)::ZN)/\∀o',List.Perm (cel g (mu.set n o')) ((!(.ref a),o'.map Lc.own)::ZN):=by
 have h1:(g.map λa=>!(V.ref a))[n]?=!(!(.ref a)):=by rw[fI,i];rfl
 have h2:(mu.map λo=>o.map Lc.own)[n]?=!(o.map Lc.own):=by rw[fI,q];rfl
 let(ZN,j,p2):=Af (zip_get h1 h2);show#[ZN,j,λo'=>?_];have:=p2 (!(.ref a),o'.map Lc.own);rw[<-G4,kK h1]at this;unfold cel;rw[List.map_set];show this
def SR.cellO(s:SR K H0 Z0 U H Y ((v,Zp (ZA n))::pd))(hm:Y.mu[n]?=!(!p)):
 ∃a,v=.ref a/\SR K H0 Z0 U H #[Y.vs,Y.mu.set n J] ((.ref a,Zs p)::(.ref a,Zp (ZA n))::pd):=by
 let(F,Z,hg,z,r,Q):=s.sh;let W:=r;let(a,rfl,N):=r;let(ZN,p1,p2):=Ai N hm;show#[a,O,.mk F ∅ z ?_];let i:=Q.perm (p1.append_right _).symm;have j:b_ K H0 Z H ((!(.ref a),J)::(!(.ref a),!(Zs p))::(ZN++(U.zip Y.vs++pd.map λe=>(!e.1,!e.2)))):=by
  show#[λe D=>?_,?_]
  . obtain rfl|D:=d5.mp D
    . trivial
    . show i.1 e D
  .  show i.2
 let q:=(j.perm (List.Perm.swap _ _ _)).perm (List.Perm.cons _ ((p2 J).append_right _));show((q.consS W).perm (List.Perm.swap _ _ _)).perm (List.Perm.cons _ dD)
def SR.cellP(s:SR K H0 Z0 U H Y ((.ref a,Zs q)::(.ref a,Zp (ZA n))::pd))(hm:Y.mu[n]?=!J):SR K H0 Z0 U H #[Y.vs,Y.mu.set n (!q)] pd:=by let(N,Z,hg,z,r,W):=s.swap.sh;let(b,eb,Q):=r;cases eb;let(ZN,p1,p2):=Ai Q hm;let D:=W.perm dD.symm;show#[N,Z,by simpa using hg,z,?_];have F:List.Perm (sl Z.g U Y pd) ((!(.ref a),J)::(ZN++(U.zip Y.vs++pd.map λe=>(!e.1,!e.2)))):=p1.append_right _;let i:=D.perm (F.symm.cons _);let j:=i.sub ((gI _ _).cons_cons _);show j.perm ((p2 (!q)).append_right _)
def aJ(fa fb:EF):EF:=λY=>(fa Y).bind λx=>(fb x.2).bind λy=>match x.1.pv,y.1.pv with
 |ZA n,ZI k=>match y.2.mu[n]? with
  |some (!(R ws))=>(fO ws k).map λp=>(Zp p,y.2)
  |_=>J
 |p,q=>(qG p q).map λl=>(l,y.2)
def fP(ha:PE X a (tP X.K fa))(hb:PE X b (tP X.K fb))(hm:Bh b):PE X (.Subscript a b pos) (tP X.K (aJ fa fb)):=PE.imp (RX Ub ha hb hm) λU H Q q=>by
 let(H0,Z0,Y,pd,l,Y',s,f,k):=q;let(x,h1,h2):=et f;let(y,h3,i):=et h2;show#[H0,Z0,Y,pd,x.1,x.2,s,h1,λv H1 s1=>#[H0,Z0,x.2,_,y.1,y.2,s1,h3,λw H2 s2=>?_]];let D:=s2.freeze.swap.freeze.swap;split at i
 . rename_i n kk en ek;split at i
   . rename_i ws F;let(p,h5,W):=eW i;cases W;rw[en,ek]at D;let(_,N):=D.repH;let ew:=cF N;let(a,rfl,s5):=D.pop.cellO F;let(el,Z,hg,z,so):=s5.top;let(_,ea,(us,hu,hr),_):=so.1 _ ed;cases ea;let(j,e1,e2):=Bt h5 (-hr);let(u,e3,e4):=hr.get e1;show Zl #[a,us,kk,u,O,ew,bY.of hu,e2 u e3,k u H2 ?_];have s6:SR X.K H0 Z0 U H2 #[y.2.vs,y.2.mu.set n J] ((u,Zp p)::(.ref a,Zs (R ws))::(.ref a,Zp (ZA n))::pd):=.mk el hg z ((so.perm dD).consS e4);let hn:=(fS.mp F).1;let s7:=s6.perm (((List.Perm.swap _ _ _).cons _).trans (List.Perm.swap _ _ _));let s8:=s7.cellP ∅;have e8:(y.2.mu.set n J).set n (!(R ws))=y.2.mu:=by rw[j2];show kK F
     let s9:=s8;rw[e8]at s9;show s9
   . cases i
 . let(l',h5,W):=eW i;cases W;show Ve H0 Z0 U y.2 pd H2 v w x.1.pv y.1.pv _ Q D h5 k
def Sx(g:AF):EF:=λY=>(cu g Y).bind λx=>match x.1 with
 |Zs p=>!(Zp (ZA (-x.2.mu)),#[x.2.vs,x.2.mu++[!p]])
 |_=>J
def Vg(h:PE X (.List es pos) (tP X.K (cu g))):PE X (.List es pos) (tP X.K (Sx g)):=PE.imp h λU H Q q=>by
 let(H0,Z0,Y,pd,l,Y',s,f,k):=q;let(x,h1,h2):=et f;show#[H0,Z0,Y,pd,x.1,x.2,s,h1,λv H1 N=>?_];split at h2
 . rename_i p ep;cases h2;rw[ep]at N;let(W,Z,hg,z,j):=N.top;let(a,ea,ra,za,n_):=j.1 _ ed;let i:=gt ea;subst i;have F:iu Z #[Z.z,Z.g++[a]]:=#[eY_.refl _,oT _ _];let D:=j.step F λe he b hb=>#[O,(jn j he hb).1];show k _ H1 (.mk (Z:=#[Z.z,Z.g++[a]]) W ∅ #[z.zh,z.h0,z.z0.trans F,z.new] (b_.consS ?_ ?_))
   . show D.perm ?_;have ec:cel (Z.g++[a]) (x.2.mu++[!p])=cel Z.g x.2.mu++[(!(.ref a),!(Zs p))]:=by unfold cel;rw[fx,fx,lm ∅];rfl
     show List.Perm (cel (Z.g++[a]) (x.2.mu++[!p])++_) _;rw[ec,fm];show gW
   . show#[a,O,by show (Z.g++[a])[-x.2.mu]?=!a;rw[hg,hW (eK _)];simp]
 . cases h2
mutual
def di:PV->Bool
 |.non=>G
 |.bl _=>G
 |ZI _=>G
 |ZH _=>G
 |ZB ps=>cw ps
 |_=>M
def cw:List PV->Bool
 |[]=>G
 |p::ps=>di p&&cw ps
end
def Sy:Lc->Bool
 |Zp p=>di p
 |Zs (R ps)=>cw ps
 |Zs (.dk _ ps)=>cw ps
 |_=>M
def Zg:Option Lc->Option Lc
 |some l=>!(Zp l.pv)
 |none=>J
def Ev.peek(Y:Ev):Ev:=#[Y.vs.map Zg,Y.mu.map λ_=>J]
def vL(f:EF):EF:=λY=>(f Y.peek).bind λx=>if Sy x.1=G then !(x.1,Y) else J
noncomputable def zb:Option HO->Option HO->Option HO->Option HO
 |some (.tup vs),_,_=>!(.tup vs)
 |some (.frz o u),_,_=>!(.frz o u)
 |some _,z,_=>z
 |none,_,z=>z
def n8(H:Hp)(Z Z':ZG):ZG:=#[λb=>zb (H b) (Z.z b) (Z'.z b),Z.g]
def Vh(D:eY_ H H')(j:eY_ Z'.z H')(h:cW K Z'.z a vs):cW K (n8 H Z Z').z a vs:=by
 obtain (h|⟨o,h⟩)|h:=h
 . show Zl (Zl ?_);show zb (H a) (Z.z a) (Z'.z a)=_;cases q:H a with
   |none=>show h
   |some o=>
    let i:=D a o q;rw[j a _ h]at i;cases i;rfl
 . show Zl (YY #[o,?_]);show zb (H a) (Z.z a) (Z'.z a)=_;cases q:H a with
   |none=>show h
   |some o'=>
    let i:=D a o' q;rw[j a _ h]at i;cases i;rfl
 . show YY h
mutual
theorem Mv(j:eY_ H H')(i:eY_ Z'.z H'):∀{p:PV}{v:V},di p=G->d4 K Z' p v->d4 K (n8 H Z Z') p v
 |.non,v,_,h=>by  show h
 |.bl _,v,_,h=>by  show h
 |ZI _,v,_,h=>by  show h
 |ZH _,v,_,h=>by  show h
 |ZB ps,v,f,h=>by let(a,q,e,h1,h2):=h;show#[a,q,e,Vh j i h1,bE j i f h2]
 |R _,v,f,_=>by  cases f
 |.dk _ _,v,f,_=>by  cases f
 |.dt _ _,v,f,_=>by  cases f
 |.obj _ _ _,v,f,_=>by  cases f
 |.df _ _,v,f,_=>by  cases f
 |.dtf _ _,v,f,_=>by  cases f
 |.dx _ _ _,v,f,_=>by  cases f
 |.exc _,v,f,_=>by  cases f
 |.fn _,v,f,_=>by  cases f
 |ZA _,v,f,_=>by  cases f
theorem bE(j:eY_ H H')(i:eY_ Z'.z H'):∀{ps:List PV}{vs:List V},cw ps=G->aK K Z' ps vs->aK K (n8 H Z Z') ps vs
 |[],vs,_,h=>by  show h
 |p::ps,vs,f,h=>by let(v,r,rfl,h1,h2):=h.inv;unfold cw at f;rw[iX]at f;show aK.cons (Mv j i f.1 h1) (bE j i f.2 h2)
end
def SR.lookB(s:SR K H0 Z0 U H Y pd):
 ∃Z,(-U=-Y.vs/\-Y.mu=-Z.g/\iu Z #[H,Z.g]/\b_ K H0 Z H (sl Z.g U Y pd))/\(∀H' v r Y1,SR K H #[H,Z.g] U H' Y1 [(v,r)]->Sy r=G->SR K H0 Z0 U H' Y ((v,r)::pd))/\∀H' Y1,SR K H #[H,Z.g] U H' Y1 []->SR K H0 Z0 U H' Y pd:=by
 let(el,Z,hg,z,so):=s;have lz:iu Z #[H,Z.g]:=#[z.zh,kP _];have back:∀{H':Hp}{Z':ZG},jQ H #[H,Z.g] Z' H'->jQ H0 Z0 (n8 H Z Z') H'/\b_ K H0 (n8 H Z Z') H' (sl Z.g U Y pd):=λ{H' Z'} i=>by
  have zz:iu Z (n8 H Z Z'):=#[λb o e=>by show zb (H b) (Z.z b) (Z'.z b)=_;let hb:=z.zh b o e;rw[hb];cases o<;>first |rfl |show e,kP _]
  have N:∀b o,(n8 H Z Z').z b=!o->(∃u,H b=!u/\((J9 u/\o=u)\/Z.z b=!o))\/(H b=J/\Z'.z b=!o):=λb o e=>by
   have e:zb (H b) (Z.z b) (Z'.z b)=!o:=e;cases q:H b with
   |none=>rw[q]at e;show YY #[O,e]
   |some u=>
    rw[q]at e;show Zl #[u,O,?_];cases u with
    |tup vs=>cases e;show Zl #[trivial,O]
    |frz o' u=>cases e;show Zl #[trivial,O]
    |_=>show YY e
  show#[#[λb o e=>?_,z.h0.trans i.h0,z.z0.trans zz,λb o e=>?_],?_]
  . obtain⟨u,hu,⟨_,rfl⟩|D⟩|⟨_,D⟩:=N b o e
    . show i.h0 b _ hu
    . show i.h0 b o (z.zh b o D)
    . show i.zh b o D
  . obtain⟨u,hu,⟨hi,rfl⟩|D⟩|⟨hn,D⟩:=N b o e
    . grind
    . show z.new b o D
    . show YY (Zl (z.h0.free hn))
  . show so.step zz λe j a ha=>?_;let(h1,h2,o,h3,h4):=jn so j ha;show#[by rw[h3];show i.h0 a o h3,?_];show zb (H a) (Z.z a) (Z'.z a)=_;rw[h3];cases o with
    |tup vs=>show(h4 trivial).elim
    |frz o u=>show(h4 trivial).elim
    |_=>show h1
 show#[Z,#[el,hg,lz,so],λH' v r Y1 s1 W=>?_,λH' Y1 s1=>?_]
 . let(_,Z',ub,i,s2):=s1.top;let(zo,Q):=back i;let q:=s2.1 _ ed;show .mk (Z:=n8 H Z Z') el hg zo ?_;cases r with
   |sh p=>
    let(x,e1,F):=q;cases e1;show Q.consS (Mv i.h0 i.zh W F)
   |own p=>
    let(a,e1,F,e3,e4):=q;let nI:=gt e1;subst nI;have fin:∀{q:PV},qU K (n8 H Z Z') H' a q->b_ K H0 (n8 H Z Z') H' ((!(.ref a),!(Zs q))::sl Z.g U Y pd):=λF=>by
     show#[λe j=>?_,?_]
     . obtain rfl|j:=d5.mp j
       . show#[a,O,F,?_,z.h0.free e4];show zb (H a) (Z.z a) (Z'.z a)=_;rw[e4];show e3
       . show Q.1 e j
     . show ip.mpr #[λhm=>?_,Q.2];let(e,j,hb):=ms.mp hm;let(_,_,o,h3,_):=jn so j hb;grind
    suffices h:qU K (n8 H Z Z') H' a p by show fin h
    cases p with
    |lst ps=>
     let(vs,g1,g2):=F;show#[vs,g1,bE i.h0 i.zh W g2]
    |dk ks ps=>
     let(d3,g1,g2,g3):=F;show#[d3,g1,g2,bE i.h0 i.zh W g3]
    |_=>cases W
 . let(_,Z',ub,i,s2):=s1;let(zo,Q):=back i;show#[el,n8 H Z Z',hg,zo,Q]
def SR.peeked{Z:ZG}(j:-U=-Y.vs)(q:-Y.mu=-Z.g)
 (hs:∀v o,(v,o)∈U.zip Y.vs->pk o=J\/∃x p,pk o=!(Zp p)/\v=!x/\d4 K #[H,Z.g] p x):SR K H #[H,Z.g] U H #[Y.vs.map pk,Y.mu.map λ_=>J] []:=by
 have key:∀v l,(v,l)∈sl Z.g U #[Y.vs.map pk,Y.mu.map λ_=>J] []->l=J\/∃x p,l=!(Zp p)/\v=!x/\d4 K #[H,Z.g] p x:=λv l i=>by
  obtain i|i:=fw.mp i
  . let(_,h2):=kz i;grind
  . rw[oP,f_]at i;rw[List.zip_map_right]at i;grind
 show#[by simp[j],#[H,Z.g],by simp[q],#[eY_.refl _,eY_.refl _,iu.refl _,λb o e=>Zl e],λe i=>?_,?_]
 . let(v,l):=e;obtain rfl|⟨x,p,rfl,rfl,r⟩:=key v l i
   . trivial
   . show#[x,O,r]
 . have:(sl Z.g U #[Y.vs.map pk,Y.mu.map λ_=>J] []).filterMap mj=[]:=by
    rw[List.filterMap_eq_nil_iff];intro e i;let(v,l):=e;obtain rfl|⟨x,p,rfl,rfl,_⟩:=key v l i
    . cases v with
      |none=>rfl
      |some x=>cases x<;>rfl
    . cases x<;>rfl
   grind
def SR.look(s:SR K H0 Z0 U H Y pd):
 ∃i,SR K H i U H Y.peek []/\(∀H' v r Y1,SR K H i U H' Y1 [(v,r)]->Sy r=G->SR K H0 Z0 U H' Y ((v,r)::pd))/\∀H' Y1,SR K H i U H' Y1 []->SR K H0 Z0 U H' Y pd:=by
 let(Z,(F,Q,D,N),W,b2):=s.lookB;show#[_,SR.peeked F Q λv o he=>?_,W,b2];let q:=N.1 _ (h_ _ (i6 _ he))
 match o,q with
 |none,_=>show Zl O
 |some (Zp p),#[x,j,z]=>show YY #[x,p,O,j,z.mono D]
 |some (Zs p),#[a,j,z,_]=>show YY #[.ref a,p,O,j,z.rep D O]
def OY(mu:Mu):PV->PV
 |ZA n=>match mu[n]? with
  |some (!p)=>p
  |_=>ZA n
 |p=>p
def peekC(mu:Mu):Option Lc->Option Lc
 |some l=>!(Zp (OY mu l.pv))
 |none=>J
def Ev.peekC(Y:Ev):Ev:=#[Y.vs.map (PL.peekC Y.mu),Y.mu.map λ_=>J]
def Xw:∀U H Q,tP K (vL f) U H Q->tP K f U H Q:=λU H Q q=>by
 let(H0,Z0,Y,pd,r,Y',s,h,k):=q;let(x,h1,h2):=et h;let(z,F,j,_):=s.look;split at h2
 . rename_i i;cases h2;show#[H,z,Y.peek,[],x.1,x.2,F,h1,λv H' D=>k v H' (j H' v x.1 x.2 D i)]
 . cases h2
def Kh(h:PE X e (tP X.K f)):PE X e (tP X.K (vL f)):=PE.imp h Xw
end
def yt(x:Str):It:=#[λi _=>i< ~~~x.cps,λi H v H'=>H'=H/\∃c,x.cps[i]?=!c/\v=.str #[(List.toArray [c])],λi _=>i= ~~~x.cps]
def Mw(j:Addr)(x:Str){St:Nat->Heap->Prop}(W:∀A':Around,A'.handled=J->Walks P w A' j [j] [j] x.cps.size (SignAt x) St)
 (hob:∀i h,St i h->∃o,h.get? j=!o/\∀v,o.data≠.cell v) (OZ:∀(A:Around)(i:Nat)(s:Shared)(Q:Value->Shared->Prop)(E:Value->Shared->Prop),St i s.heap->Q (YV j) s->wpAny (model P w) A (pyIter (YV j)) Q E s):io P w K tg (yt x) [j] j St where
 mem:=by simp
 obj:=λi h st b q=>by
  have e:b=j:=by simpa using q
  grind
 keep:=λi h h' st k=>(W {} O).frame i h h' st k
 item:=by intro X hP hw hK hc i a_ s U H E I D st N;let(F,f1,f2,f3,f4,f5):=D j (by simp);show(W X.A (I.ok.hd hc)).item i s _ E N st λv h' tk hv f6 hk=>?_;let(c,u,e1,rfl):=hv;show#[_,O,?_];have fin:∃z H',c_ X a_ U H' { s with heap:=h',toks:=tk }/\dE z (.str #[(List.toArray [c])] u)/\(yt x).yld i H z H'/\St (i+1) h'/\∀b∈[j],H' b=J:=#[.str #[(List.toArray [c])],H,(I.turned (λb o q e=>hk b o ∅ e) F f1 f3 f4 f5),#[u,O],#[O,c,e1,O],f6,λb q=>(D b q).1];cases tg<;>show d0 fin
 done:=by intro X hP hw hK hc i a_ s U H E I D st N;let(F,f1,f2,f3,f4,f5):=D j (by simp);subst N;show(W X.A (I.ok.hd hc)).done s _ E st λh' tk hk=>#[O,I.turned (λb o q e=>hk b o ∅ e) F f1 f3 f4 f5]
 self:=λA i s Q E st h=>OZ A i s Q E st h
section
variable {X:Cx}
noncomputable def i9 (x:Str):List PV:=x.cps.toList.map λc=>ZH #[(List.toArray [c])]
def Xx:qX K H0 Z0 pd (yt x) (i9 x):=by
 intro U H Y i s;show#[λp q=>?_,λD=>?_]
 . unfold i9 at q;rw[fI]at q;let(c,z,rfl):=eW q;let hi:=(fS.mp z).1;show#[(show i< ~~~x.cps by simpa using hi),λv H' y=>?_];let(rfl,F,j,rfl):=y;have:F=c:=by rw[Array.getElem?_toList]at z;rw[z]at j;show(gt j).symm
   subst this;show s.scal pq
 . show i= ~~~x.cps;simpa [i9] using D
def O2{bs:List Bool}(z:db ys eJ)(e:ys=bs.map V.bl):TruthOf P w A (λi v=>eJ.toArray[i]?=!v) (λi=>bs.getD i M):=by
 intro i v s Q E N q;have j:eJ[i]?=!v:=by simpa using N
 let hi:=(fS.mp j).1;let W:=-z;have D:i< -bs:=by rw[e,eI]at W;lia
 let(u,h1,h2):=z.get (by rw[e,fI,gz D];rfl);rw[j]at h1;cases h1;cases h2;have:bs.getD i M=bs[i]:=by simp[D]
 have F:Q (bs.getD i M) s:=q;rw[this]at F;show wpAny_truthy_bool F
def range_any{bs:List Bool}:((List.range (-bs)).any λi=>bs.getD i M)=bs.any id:=by
 induction bs with
 |nil=>rfl
 |cons b r j=>
  rw[d6,List.range_succ_eq_map,rV,List.any_map,rV];have:((List.range (-r)).any ((λi=>(b::r).getD i M) ∘ Nat.succ))=(List.range (-r)).any λi=>r.getD i M:=O;rw[this,j];rfl
def mD(hc:X.calm=G):lO X (.builtin "any") (λxs H Q=>∃(p:Addr)(bs:List Bool),xs=[.ref p]/\bY X.K H p (bs.map V.bl)/\Q (.bl (bs.any id)) H):=by
 intro a_ s U H xs us Q I r h;let(p,bs,rfl,hq,q):=h;let(u,rfl,ru):=gg r;cases ru;let(j,N,pl,_):=I.list hq;have D:p< ~~~s.heap.objs:=by let(o,n,F,_):=pl;show eP F
 show call_any_walk (wpAny_pyIter_list pl.isList ?_);have z:∀b o,s.heap.get? b=!o->(s.heap.push { cls:=.type "list_iterator",data:=.fields (List.toArray [YV p,.int 0 0]) }).get? b=!o:=λb o e=>fz _ e;have hl: ~~~j.toArray=-bs:=by rw[gX,<-(-N),eI]
 show#[s.heap.objs.size,_,_,_,_,_,λi=>bs.getD i M,O,Walks.list (show X.A.in1.handled=J from I.ok.hd hc) _ p (ga D) j.toArray,#[#[_,ge _ O,O,O],?_],O2 N O,λh' tk hk=>?_]
 . let(o,F,W):=pl.isList;show#[o,z _ _ F,W]
 . rw[hl,range_any];show#[.bl _,H,I.kept λb o e=>hk b o ?_ (z b o e),O,q];have:=eP e;simp;show ga this
noncomputable def fF:List PV->Option (List Bool)
 |[]=>![]
 |.bl b::r=>(fF r).map (b::·)
 |_=>J
theorem Ja:∀{ps:List PV}{bs:List Bool}{vs:List V},fF ps=!bs->aK K Z ps vs->vs=bs.map V.bl
 |[],bs,vs=>λh r=>by cases h;show r.inv0
 |p::ps,bs,vs=>λh r=>by
  cases p with
  |bl b=>
   let(cs,h1,rfl):=eW h;let(v,w,rfl,i,j):=r.inv;rw[ji i,Ja h1 j];rfl
  |_=>cases h
def O0:PV->Option Lc
 |R ps=>(fF ps).map λbs=>Zp (.bl (bs.any id))
 |_=>J
abbrev Aj:List PV->Option Lc:=λps=>match ps with |[p]=>O0 p |_=>J
def Fx:lQ K (λxs H Q=>∃(p:Addr)(bs:List Bool),xs=[.ref p]/\bY K H p (bs.map V.bl)/\Q (.bl (bs.any id)) H) Aj:=lQ.one λH0 Z0 U Y pd H v p l Q s e k=>by
 let(_,r):=s.repH;cases p with
 |lst ps=>
  let(bs,h1,rfl):=eW (e);let(a,j,rfl,h2,i):=r;have:=Ja h1 i;subst this;show#[a,bs,O,h2,k _ H (s.pop.scal mq)]
 |_=>cases e
noncomputable def gs:List PV->Option (List Str)
 |[]=>![]
 |ZH x::r=>(gs r).map (x::·)
 |_=>J
theorem Mx:∀{ps:List PV}{xs:List Str}{vs:List V},gs ps=!xs->aK K Z ps vs->vs=xs.map V.str
 |[],xs,vs=>λh r=>by cases h;show r.inv0
 |p::ps,xs,vs=>λh r=>by
  cases p with
  |str b=>
   let(cs,h1,rfl):=eW h;let(v,w,rfl,j,q):=r.inv;rw[dN j,Mx h1 q];rfl
  |_=>cases h
theorem Fy:∀{xs:List Str}{i:List Value},db (xs.map V.str) i->StrsAre i xs
 |[],_,.nil=>.nil
 |x::xs,_,.cons r t=>by let(j,rfl):=r;show .cons _ _ (Fy t)
def QF:Ud X "str.join" (λx xs H Q=>∃(z:Str)(p:Addr)(ys:List Str),x=.str z/\xs=[.ref p]/\bY X.K H p (ys.map V.str)/\(ys.map (·.length)).sum+-ys*-z<=16777216/\Q (.str (Txt.join z ys)) H):=by intro a_ s U H x vs v us Q I D F h;let(z,p,ys,rfl,rfl,W,i,q):=h;let(t,rfl):=D;let(u,rfl,ru):=F.one;cases ru;let(j,iO,pl,_):=I.list W;show join_list pl.isList (by simpa using Fy iO) i λN k=>#[.str _,H,I.tok k,#[N,O],q]
def rY(f:EF)(a:AF):EF:=λY=>(f Y).bind λx=>(a x.2).bind λy=>match x.1.pv,y.1.map Lc.pv with
 |ZH z,[R ps]=>(gs ps).bind λxs=>if (xs.map (·.length)).sum+-xs*-z<=100000 then !(Zp (ZH (Txt.join z xs)),y.2) else J
 |_,_=>J
def Zh(h:PE X (.Call (.Attribute o "join" apos) [e] [] cpos) (KZ X.K "str" (λx xs H Q=>∃(z:Str)(p:Addr)(ys:List Str),x=.str z/\xs=[.ref p]/\bY X.K H p (ys.map V.str)/\(ys.map (·.length)).sum+-ys*-z<=16777216/\Q (.str (Txt.join z ys)) H) (tP X.K f) (jR X.K a))):
 PE X (.Call (.Attribute o "join" apos) [e] [] cpos) (tP X.K (rY f a)):=PE.imp h λU H Q q=>by
 let(H0,Z0,Y,pd,r,Y',s,h,k):=q;let(x,h1,h2):=et h;let(y,h3,i):=et h2;show#[H0,Z0,Y,pd,x.1,x.2,s,h1,λv H1 D=>?_];split at i
 . rename_i z ps ez ep;let(xs,h5,j):=et i;split at j
   . cases j;let(_,N):=D.freeze.repH;rw[ez]at N;have:=dN N;subst this;show#[O,H0,Z0,x.2,pd,y.1,y.2,D.pop,h3,λvs H2 e2 s2=>?_];let(W,Z,hg,F,rl,ss):=s2.repl e2;rw[ep]at rl;let(w,rr,rfl,r1,r2):=rl.inv;have:=r2.inv0;subst this;let(b,ws,rfl,g1,g2):=r1;have:=Mx h5 g2;subst this;show#[z,b,xs,O,O,bY.same F.zh g1,(),k _ H2 (.mk W hg F (ss.consS (pq _)))]
   . cases j
 . cases i
noncomputable def O6:PV->Option Lc
 |ZI i=>if i.natAbs.log2<1920 then !(Zp (ZH (toString i))) else J
 |_=>J
abbrev jj:List PV->Option Lc:=λps=>match ps with |[p]=>O6 p |_=>J
def My:lQ K (λxs H Q=>∃i,xs=[.int i]/\i.natAbs.log2<1920/\Q (.str (toString i)) H) jj:=lQ.one λH0 Z0 U Y pd H v p l Q s e k=>by
 let(_,r):=s.repH;cases p with
 |int i=>
  have j:(if i.natAbs.log2<1920 then !(Lc.sh (ZH (toString i))) else J)=!l:=e;split at j
  . rename_i z;cases j;have:=cF r;subst this;show#[i,O,z,k _ H (s.pop.scal pq)]
  . cases j
 |_=>cases e
end
section
variable {prog:Program}{w:World}{A:Around}{E:Value->Shared->Prop}{s:Shared}
theorem Jb(D:t≠F):∀(n i:Nat)(s:Shared)(Q:List Value->Shared->Prop),s.heap.IsListIter F t i->s.heap.IsList t items->i+n<= ~~~items->
 (∀h',h'.IsListIter F t (i+n)->Heap.SameBut F s.heap h'->Q ((items.toList.drop i).take n) { s with heap:=h' })->wpAny (model prog w) A (draw (YV F) n) Q E s
 |0=>λi s Q j _ _ hQ=>by show d0 (by simpa using hQ s.heap j (Heap.SameBut.refl ..))
 |n+1=>λi s Q j ht M1 hQ=>by
  have W:i< ~~~items:=()
  show da (wpAny_pyNext_list_item j ht (x:=items[i]) ∅ λh₁ z q=>?_);show da (wpAny_holding (Jb D n (i+1) _ _ z (ht.extBut q.extBut D) () λh₂ hit₂ O_=>d0 ?_));have hd:items.toList.drop i=items[i]::items.toList.drop (i+1):=by simp[mE,W]
  have:=hQ h₂ ∅ (q.trans O_);grind
def Dw(hh:A.handled=J)(F:s.heap.IsList t items)
 (hQ:∀h',Heap.ExtBut s.heap.objs.size s.heap h'->Q items.toList { s with heap:=h' }):wpAny (model prog w) A (unpackItems (YV t) items.size J) Q E s:=by
 have z:t≠s.heap.objs.size:=by let(o,ho,_):=F;show ga (eP ho)
 show da ?_
 . show da (wpAny_specialOf F.typeIs slot_list_iter.lookup ?_);show d0 ?_;show da (wpAny_holding (wpAny_pyIter_list F ?_));show da (wpAny_holding (Jb z items.size 0 _ _ #[_,ge _ O,O,O] (by let(o,g1,W):=F;show#[o,fz _ g1,W]) () λh₁ q j=>?_));have D:List.take items.size (List.drop 0 items.toList)=items.toList:=by rw[List.drop_zero];show oI (by simp)
   rw[D];rw[dQ (by simp)];let Pc:=Heap.IsList.extBut (by let(o,g1,W):=F;show#[o,fz _ g1,W]) j.extBut z;show da (wpAny_holding (wpAny_pyNext_list_end hh q Pc (by simp) λh₂ Pe=>?_));show d0 (hQ h₂ λb o hb e=>Pe b o hb (j.extBut b o hb (fz _ e)))
end
section
variable {X:Cx}{pos:Pos}
def AR(K:FG)(n:Nat)(t:yU):TG:=λv U H Q=>∃a xs,v=.ref a/\(cW K H a xs\/bY K H a xs)/\-xs=n/\t xs U H Q
def iW{k:Nat}(hc:X.calm=G)(h:TQ X es t)
 (N:-(assignEach es X.env)=n:=by rfl) (i:(assignEach es X.env).findIdx? (·.1)=J:=by rfl):PG X (.Tuple es k pos) (AR X.K n t):=by
 intro a_ s U H v u Q I r q;let(a,xs,F,j,W,q):=q;obtain j|j:=j
 . show G_ hc h N i a_ s U H v u Q I r #[a,xs,F,j,W,q]
 . subst F;cases r;let(D,rv,ht,hz):=I.list j;show da (wpAny_standAt ?_);unfold unpack;have z:-(assignEach es X.env)= ~~~D.toArray:=by simp[N,<-W,rv.length]
   rw[z,i];show da (wpAny_holding (Dw (I.ok.hd hc) ht.isList λh' hx=>?_));let I1:=I.kept (t':=s.toks) λb o e=>hx b o (ga (eP e)) e;show h a_ _ U H xs _ Q I1 () q
noncomputable def fC (n:Nat) (bs:Mh):BF:=λp Y=>match p with
 |ZB ps=>if -ps=n then bs ps Y else J
 |R ps=>if -ps=n then bs ps Y else J
 |_=>J
def iY(h1:Zc K t bs):GS K (AR K n t) (fC n bs):=by
 intro H0 Z0 U H Y pd v p Y' Q s h k;cases p with
 |tup ps=>
  have h':(if -ps=n then bs ps Y else J)=!Y':=h;split at h'
  . rename_i F;let(e,Z,D,z,r,j):=s.sh;let(a,q,rfl,h2,i):=r;show#[a,q,O,Zl (cW.same z.zh h2),by rw[i.length];show F,h1 H0 Z0 U H Y pd q ps Y' Q (-i) (SR.items e D z i j) h' k]
  . cases h'
 |lst ps=>
  have h':(if -ps=n then bs ps Y else J)=!Y':=h;split at h'
  . rename_i F;let(e,Z,D,z,r,j):=s.sh;let(a,q,rfl,h2,i):=r;show#[a,q,O,YY (bY.same z.zh h2),by rw[i.length];show F,h1 H0 Z0 U H Y pd q ps Y' Q (-i) (SR.items e D z i j) h' k]
  . cases h'
 |_=>cases h
def Pf(K:FG)(tl:TE):TI:=λU H ZN=>tl U H λx H1=>(∃a,x=.ref a/\(∃xs,bY K H1 a xs)/\ZN (YK K a) H1)\/(∃a,x=.ref a/\(∃xs,cW K H1 a xs)/\ZN (YL K a) H1)\/∃z,x=.str z/\ZN (yt z) H1
def Pm(hl:PE X l tl):PI X tg l (Pf X.K tl):=by
 intro a_ s U H ZN I h;have Po:∀(v:Value)(j:Shared)(x:V)(H1:Hp),c_ X a_ U H1 j->dE x v->((∃a,x=.ref a/\(∃xs,bY X.K H1 a xs)/\ZN (YK X.K a) H1)\/(∃a,x=.ref a/\(∃xs,cW X.K H1 a xs)/\ZN (YL X.K a) H1)\/∃z,x=.str z/\ZN (yt z) H1)->
  wpAny (model X.prog X.w) X.A (pyIter v) (pj X a_ U tg ZN) X.xe j:=λv j x H1 D F q=>by
  have fp:∀b,b∈[j.heap.objs.size]->nJ X a_ H1 b:=λb hb=>by
   have e:b= ~~~j.heap.objs:=by simpa using hb
   subst e;show D.fpOk () (D.hok.fresh ())
  obtain⟨a,rfl,⟨xs,N⟩,q⟩|⟨a,rfl,⟨xs,N⟩,q⟩|⟨z,rfl,q⟩:=q
  . cases F;let(eJ,rv,p,hz):=D.list N;show wpAny_pyIter_list p.isList #[j.heap.objs.size,[j.heap.objs.size],_,_,H1,O,D.kept λb o e=>fz _ e,TV a _,#[_,ge _ O,O,O],fp,q]
  . cases F;let(eJ,rv,p,hz):=D.tuple N;show wpAny_pyIter_tuple p #[j.heap.objs.size,[j.heap.objs.size],_,_,H1,O,D.kept λb o e=>fz _ e,RC a _,#[_,ge _ O,O,O],fp,q]
  . let(t,rfl):=F;have kp:∀(o:Obj),c_ X a_ U H1 { j with heap:=j.heap.push o }:=λo=>D.kept λb u e=>fz _ e;have ob:∀{n:String}(i:Nat)(h:Heap),h.IsStrIter j.heap.objs.size n z t i->∃o,h.get? j.heap.objs.size=!o/\∀v,o.data≠.cell v:=λi h st=>by let(o,ho,_,hd):=st;show#[o,ho,λv e=>by rw[hd]at e;cases e]
    cases ha:z.cps.all (·<128)
    . show wpAny_pyIter_wide ha #[j.heap.objs.size,[j.heap.objs.size],_,yt z,H1,O,kp _,Mw _ z (λA' W=>Walks.strWide W _ z t) ob (λA i s Q E st h=>wpAny_pyIter_striter_wide st h),#[_,ge _ O,O,O],fp,q]
    . show wpAny_pyIter_ascii ha #[j.heap.objs.size,[j.heap.objs.size],_,yt z,H1,O,kp _,Mw _ z (λA' W=>Walks.strAscii W _ z t) ob (λA i s Q E st h=>wpAny_pyIter_striter_ascii st h),#[_,ge _ O,O,O],fp,q]
 show dg (hl a_ s U H _ I h) λv j Pp=>by let(x,H1,D,F,q):=Pp;show Po v j x H1 D F q
def bJ:PV->Option (List PV)
 |R ps=>!ps
 |ZB ps=>!ps
 |ZH x=>!(i9 x)
 |_=>J
def cA(W:PE X l (tP X.K f)):PI X tg l (Iz X.K (dh f bJ)):=PI.imp (Pm W) λU H ZN q=>by
 let(H0,Z0,Y,pd,xs,Y',s,h,k):=q;let(x,h1,h2):=et h;let(ys,j,h4):=eW h2;cases h4;show#[H0,Z0,Y,pd,x.1,x.2,s,h1,λv H1 Q=>?_];let i:=Q.freeze;cases e:x.1.pv with
 |lst ps=>
  rw[e]at j i;cases j;let(Z,z,r):=i.rep;let(b,N,rfl,D,F):=r;show Zl #[b,O,#[N,bY.same z D],k _ _ _ i Va (gI _ _)]
 |tup ps=>
  rw[e]at j i;cases j;let(Z,z,r):=i.rep;let(b,N,rfl,D,F):=r;show YY (Zl #[b,O,#[N,cW.same z D],k _ _ _ i Xo (gI _ _)])
 |str z=>
  rw[e]at j i;cases j;let(_,r):=i.repH;show YY (YY #[z,dN r,k _ _ _ i.pop Xx (nz _)])
 |_=>rw[e]at j;cases j
end
section
variable {P:Program}{w:World}{K:FG}{mg:Str->Option Value}{base:Heap}
def QG(mg:Str->Option Value)(L:List Str):Prop:=∀x∈L,mg x=J
def jY{st:Stmt}(F:cL K mg x st ps):bI P w K mg base x k ps (bW K (-ps) λ_ _=>J):=by
 let(f,fd,F,z,D):=F;have W:∀i H Q E,¬ bW K (-ps) (λ_ _=>J) i H Q E:=λi H Q E h=>by let(_,_,_,_,_,_,_,_,_,_,h,_):=h;cases h
 show#[f,fd,#[λi H Q E h=>absurd h ∅,λA j s H q N i Q E _ _ _ _ h=>absurd h ∅],z,F.kp,D]
def Kl(K:FG):Sp:=λvs H Q _=>∃(a:Addr)(ns:List Int),vs=[.ref a]/\bY K H a (ns.map V.int)/\-ns<=63/\∀H',Q (.bl G) H'
def Ps(F:oK P w K mg base qD k f fd ["_law_script"] (bW K 1 g))(h:∀ns:List Int,-ns<=63->∃i,g [R (ns.map PV.int)] []=!(Zp (.bl G),i)):oK P w K mg base qD k f fd ["_law_script"] (Kl K):=
 F.imp λvs H Q E q=>by
  let(a,ns,rfl,hs,z,k):=q;let(i,e):=h ns z;show#[#[H,[]],[R (ns.map PV.int)],[],_,i,O,O,eY_.refl _,aK.cons ?_ .nil,#[λe he=>(by cases he),oQ],e,λv H' r=>?_]
  . show#[a,ns.map V.int,O,hs,?_];clear hs e z;induction ns with
    |nil=>show .nil
    |cons n r W=>show aK.cons (gF _) W
  . let(Z',_,_,s):=r;let(x,D,N):=s.1 _ ed;cases D;rw[ji N];grind
end
def aP:∀Y ls Y1,ao Y=!(ls,Y1)->-ls=0:=λY ls Y1 h=>by cases h;rfl
def aB(h:∀Y ls Y1,g Y=!(ls,Y1)->-ls=n):∀Y ls Y1,aj f g Y=!(ls,Y1)->-ls=n+1:=λY ls Y1 e=>by let(x,h1,h2):=et e;let(y,i,j):=eW h2;cases j;rw[d6,h _ _ _ i]
def Pt(S:Scope)(hS:X.env.scope=S)(D:sc.kind=.function)(z:∀y∈sc.names,y.2=.local->sc.names.lookup y.1=!.local)(cel:∀y∈sc.names,y.2=.cell->sc.names.lookup y.1=!.cell)
 (own:∀p∈sc.names,p.2=.free->S.names.lookup p.1=!.cell\/S.names.lookup p.1=!.free) (frs:∀x∈F,sc.names.lookup x=!.free) (Q:ixs.map (λi=>X.N[i]?)=F.map some):jE X ZO F ixs sc:=by
 show#[D,z,cel,λp W e=>by rw[hS];show own p W e,frs,?_,λj i h=>?_]
 . have:=congrArg List.length Q;grind
 . have h2:(ixs.map (λi=>X.N[i]?))[j]?=some X.N[i]?:=by rw[fI,h];rfl
   rw[Q,fI]at h2;cases q:F[j]? with
   |none=>grind
   |some x=>grind
section
variable {P:Program}{w:World}{K:FG}{mg:Str->Option Value}{base:Heap}
def vD.okP{st:Stmt}(F:vD K x x st f fd)(S:bz N ps (aG st))
 (h:∀(j:Value)(A:Around)(i:List PySem.Env)(s:Shared)(H:Hp)(E:XK),qM k (A.deeper (envOfC x (aG st) s.heap.objs.size f j))->
   ∃g':SF,(∀a mu,g a mu=cY (-N) g' a mu)/\jP (Ww qD P w K mg base N x (aG st) f j A i s H E).nox (jC st) (iw K g')):oK P w K mg base qD (k+1) f fd ps (bW K (-ps) g):=by
 show F.ok S (λvs H Q E q=>?_) (λj A i s H vs Q E hr q=>?_)
 . let(Z,qs,mu,r,hU,e,_):=q;show e
 . let(g',eg,b):=h j A i s H E hr;let(Z,qs,mu,r,hU,e,hg,z,rl,c,kU,kk):=q;rw[eg]at kU;let(fl,h1,h2):=et kU;show#[_,b,my H (uP Z.g mu),Z,_,[],fl,Ds hg z rl c,h1,?_];cases fl with
   |rt r' Y'=>
    cases h2;intro v U' H' s';let(el,Z',D,z',W):=s'.top;show kk v H' #[Z',D,z',W.sub ?_];show(j1 _ _).cons_cons _
   |nx Y'=>
    cases h2;intro U' H' s';let(el,Z',D,z',W):=s';show kk .non H' #[Z',D,z',(W.sub (j1 _ _)).consS (Bq _)]
   |bk Y'=>cases h2
   |ct Y'=>cases h2
end
section
variable {X:Cx}
def Pw:PV->Option PV
 |ZI i=>!(ZI ((Neg.neg i)))
 |_=>J
def jq(f:EF):EF:=λY=>(f Y).bind λx=>(Pw x.1.pv).map λp=>(Zp p,x.2)
def v7(F:PE X a (tP X.K f)):PE X (.UnaryOp .USub a pos) (tP X.K (jq f)):=PE.imp (HZ Ix F) λU H Q q=>by
 let(H0,Z0,Y,pd,r,Y',s,h,k):=q;let(x,h1,h2):=et h;let(p,j,W):=eW h2;cases W;show#[H0,Z0,Y,pd,x.1,x.2,s,h1,λv H1 D=>?_];let(_,z):=D.freeze.repH;cases e:x.1.pv with
 |int i=>
  rw[e]at j z;cases j;show#[i,cF z,k _ H1 (D.pop.scal gF)]
 |_=>rw[e]at j;cases j
end
def QH(I:Nat->Ev->Prop)(q:I 0 Y)(hs:∀(i:Nat) x Y,xs[i]?=!x->I i Y->∃Y1,b x Y=!Y1/\∃Y2,(body Y1=!(.nx Y2)\/body Y1=!(.ct Y2))/\I (i+1) Y2):∃Y',eN b body xs Y=!(.nx Y')/\I (-xs) Y':=by
 induction xs generalizing Y I with
 |nil=>show#[Y,O,q]
 |cons x xs F=>
  let(Y1,D,Y2,j,h2):=hs 0 x Y O q;let(Y',N,z):=F (λi Y=>I (i+1) Y) h2 (λi y Y h=>hs (i+1) y Y ());show#[Y',?_,z];show (b x Y).bind _=_;rw[D,eH];rcases j with j|j<;>rw[j,eH]<;>show N
theorem yu(i:Ev->Prop)(z:∀Y,i Y->Y.mu=mu)(c:PV->Bool)(f:PV->PV):∀{xs:List PV}{Y:Ev}{acc:List PV},i Y->-acc+-xs<=100000->
 (∀x∈xs,∀Y,i Y->∃Y1,b x Y=!Y1/\∃Y2,tc Y1=!(c x,Y2)/\i Y2/\(c x=G->∃l Y3,te Y2=!(l,Y3)/\l.pv=f x/\i Y3))->dF b tc te xs Y acc=!(acc++(xs.filter c).map f,mu)
 |[],Y,acc=>λh _ _=>by show some (acc,Y.mu)=_;grind
 |x::xs,Y,acc=>λh W hs=>by
  let(Y1,N,Y2,Q,h2,D):=hs x ed Y h;let j:=λy F=>hs y (e_ _ F);rw[d6]at W;show (b x Y).bind _=_;rw[N,eH,Q,eH];cases hc:c x with
  |false=>
   simp only[hG,if_false];rw[yu i z c f h2 () j,List.filter_cons_of_neg ∅]
  |true=>
   let(l,Y3,e3,ef,h4):=D hc;simp only[if_true];rw[e3,eH,dA (),yu i z c f h4 ∅ j,List.filter_cons_of_pos (),ef];simp
def Jc(i:Ev->Prop)(F:∀Y,i Y->Y.mu=mu)(f:PV->PV)(h:i Y)(W:-xs<=100000)
 (hs:∀x∈xs,∀Y,i Y->∃Y1,b x Y=!Y1/\∃l Y3,te Y1=!(l,Y3)/\l.pv=f x/\i Y3) (N:∀x∈xs,∀Y Y1,i Y->b x Y=!Y1->i Y1):dF b bB te xs Y []=!(xs.map f,mu):=by
 rw[yu i F (λ_=>G) f h ∅ λx q Y D=>?_]
 . rw[hJ,List.filter_eq_self.mpr (λ_ _=>O)]
 . let(Y1,z,l,Y3,Q):=hs x q Y D;show#[Y1,z,Y1,O,N x q Y Y1 D z,λ_=>#[l,Y3,Q]]
def dI(h:0<b):aZ (ZI a) (ZI b)=!(Zp (ZI (a%b))):=by show (if decide (0<b)=G then _ else _)=_;grind
def gU(h:0<b)(h2:b<1073741824):bO (ZI a) (ZI b)=!(Zp (ZI (a/b))):=by show (if decide (0<b/\b<1073741824)=G then _ else _)=_;grind
def Mz(h:-18446744073709551616<a)(h2:a<18446744073709551616):gM (ZI a) (ZI b)=!(Zp (ZI (a*b))):=by show (if decide (((Neg.neg (2 ^ 64))<a/\a<2 ^ 64)\/((Neg.neg (2 ^ 64))<b/\b<2 ^ 64))=G then _ else _)=_;grind
def wL(h:-18446744073709551616<b)(h2:b<18446744073709551616):gM (ZI a) (ZI b)=!(Zp (ZI (a*b))):=by show (if decide (((Neg.neg (2 ^ 64))<a/\a<2 ^ 64)\/((Neg.neg (2 ^ 64))<b/\b<2 ^ 64))=G then _ else _)=_;grind
def bC(h1:fa Y=!(x,Y1))(h2:fb Y1=!(y,Y2))(i:g x.pv y.pv=!l):au g fa fb Y=!(l,Y2):=by unfold au;grind
def uT(j:0<=i)(h1:i< -l):∃x,fO l i=!x/\l[i.toNat]?=!x:=by
 show#[l[i.toNat],?_,gz (())];unfold fO uL;grind
def wM{lo:Int}:-(jo lo n)=n:=by simp[jo]
def PC{lo:Int}(h:p∈jo lo n):∃i:Nat,i<n/\p=ZI (lo+i):=by let(i,hi,rfl):=fy.mp h;show#[i,List.mem_range.mp hi,O]
def G7{f g:SF}{Y Y':Ev}(h:f Y=!(.nx Y')):aF f g Y=g Y':=by unfold aF;rw[h,eH]
def G8{f g:SF}{Y Y':Ev}{r:Lc}(h:f Y=!(.rt r Y')):aF f g Y=!(.rt r Y'):=by unfold aF;rw[h,eH]
def PF(h:f Y=!(l,Y1))(hi:i< -Y1.vs):aL i f Y=!(.nx (Y1.set i (!l))):=by unfold aL;grind
def lR(h:c Y=!(G,Y1)):cC c f g Y=f Y1:=by unfold cC;grind
def lU(h:c Y=!(M,Y1)):cC c f g Y=g Y1:=by unfold cC;grind
def PH(h:f Y=!(l,Y1)):cI f Y=!(.rt l Y1):=by unfold cI;grind
def PM(h:f Y=!(xs,Y1)):fX f b body Y=eN b body xs Y1:=by unfold fX;grind
def aO{n:Nat}{g:SF}{ps:List PV}{mu:Mu}{r:Lc}(h:g (env0 n ps mu)=!(.rt r Y)):cY n g ps mu=!(r,Y.mu):=by unfold cY;rw[h,eH]
def PR{n:Nat}{g:SF}{ps:List PV}{mu:Mu}(h:g (env0 n ps mu)=!(.nx Y)):cY n g ps mu=!(.sh .non,Y.mu):=by unfold cY;rw[h,eH]
def Xy(h:a Y=!(ls,Y1))(h2:g (ls.map Lc.pv) Y1.mu=!(r,mu)):aN g a Y=!(r,#[Y1.vs,mu]):=by unfold aN;grind
def Xz(h:f Y=!(l,Y1))(h2:a Y1=!(ls,Y2)):aj f a Y=!(l::ls,Y2):=by unfold aj;grind
def PU(h:a Y=!(ls,Y1))(h2:g (ls.map Lc.pv)=!r):eB g a Y=!(r,Y1):=by unfold eB;grind
def eF(h:f Y=!(xs,Y1))(h2:dF b tc te xs (nT m ixs (ie ixs Y1)) []=!(ys,mu)):bU f m ixs b tc te Y=!(Zs (R ys),#[(ie ixs Y1).vs,mu]):=by unfold bU;grind
def dC(h:f Y=!(l,Y1))(h2:g l.pv=!xs):dh f g Y=!(xs,Y1):=by unfold dh;grind
def mY(h:a Y=!([l],Y1))(i:l.pv=ZI n)(h1:-4611686018427387904<=n)(h2:n<4611686018427387904):iK a Y=!(jo 0 n.toNat,Y1):=by unfold iK;rw[h,eH];show (match [l.pv] with |[ZI j]=>_ |_=>_)=_;rw[i];show (if (Neg.neg (2 ^ 62))<=n/\n<2 ^ 62 then _ else _)=_;rw[dA #[(),()]]
def jU(h:f Y=!(l,Y1))(h2:tr l.pv=!b):tT f tr Y=!(b,Y1):=by unfold tT;grind
def XC(h:f Y=!(l,Y1))(h2:a Y1=!([m],Y2))(hl:l.pv=ZH z)(hm:m.pv=R ps)(hx:gs ps=!xs)(hs:(xs.map (·.length)).sum+-xs*-z<=100000):rY f a Y=!(Zp (ZH (Txt.join z xs)),Y2):=by unfold rY;rw[h,eH,h2,eH,hl];show (match PV.str z,[m.pv] with |ZH z,[R ps]=>_ |_,_=>_)=_;rw[hm];show (gs ps).bind _=_;rw[hx,eH,dA hs]
section
variable {f g:SF}{Y Y1 Y2 Y':Ev}{ZN:Option Fl}{l m r:Lc}{fa fb fc:EF}{c d:TF}{a:AF}{b:Bool}
def aH(h:f Y=!(.nx Y'))(h2:g Y'=ZN):aF f g Y=ZN:=(G7 h).trans h2
def bu(h:fa Y=!(l,Y1))(hi:Nat.blt i (-Y1.vs)=G)(e:Y1.set i (!l)=Y'):aL i fa Y=!(.nx Y'):=by rw[PF h (by simpa using hi),e]
def cT(h:fa Y=!(l,Y1)):cI fa Y=!(.rt l Y1):=PH h
def dj(h1:fa Y=!(l,Y1))(z:l.pv=p)(h2:fb Y1=!(m,Y2))(i:m.pv=q)(j:o p q=!r):au o fa fb Y=!(r,Y2):=bC h1 h2 ∅
def aR(h:a Y=!(ls,Y1))(j:ls.map Lc.pv=ps)(i:Y1.vs=v)(q:Y1.mu=i7)(h2:ZT ps i7=!(r,mu)):aN ZT a Y=!(r,#[v,mu]):=by subst j i q;show Xy h h2
def jN(h:a Y=!(ls,Y1))(i:ls.map Lc.pv=ps)(h2:ZT ps=!r):eB ZT a Y=!(r,Y1):=by subst i;show PU h h2
def aA(h:fa Y=!(l,Y1))(h2:a Y1=!(ls,Y2)):aj fa a Y=!(l::ls,Y2):=Xz h h2
def Bv(h:fa Y=!(l,Y1))(i:l.pv=p)(h2:tr p=!b):tT fa tr Y=!(b,Y1):=by subst i;show jU h h2
def Vi(h:c Y=!(b,Y1)):Br c Y=!(not b,Y1):=by unfold Br;grind
def nU(h:c Y=!(b,Y1))(h2:d Y1=!(b2,Y1)):eE c d Y=!(b&&b2,Y1):=by
 unfold eE;rw[h,eH];cases b with
 |true=>rw[dA O,h2];rfl
 |false=>rfl
def rZ(h:c Y=!(b,Y1))(h2:d Y1=!(b2,Y1)):tO c d Y=!(b||b2,Y1):=by
 unfold tO;rw[h,eH];cases b with
 |true=>rfl
 |false=>grind
def pQ(h:a Y=!(ls,Y1))(i:Nat.ble (-ls) 1000=G)(j:ls.map Lc.pv=ps):cu a Y=!(Zs (R ps),Y1):=by subst j;unfold cu;rw[h,eH,dA (by simpa using i)]
def dm(h:a Y=!(ls,Y1))(i:Nat.ble (-ls) 1000=G)(j:ls.map Lc.pv=ps):aX a Y=!(Zp (ZB ps),Y1):=by subst j;unfold aX;rw[h,eH,dA (by simpa using i)]
def dG(h1:fa Y=!(l,Y1))(j:l.pv=p)(h2:fb Y1=!(m,Y2))(i:m.pv=q)(z:∀n,p≠ZA n)(D:qG p q=!r):aJ fa fb Y=!(r,Y2):=by
 subst j i;unfold aJ;rw[h1,eH,h2,eH];split
 . grind
 . grind
def Vj(h1:fa Y=!(l,Y1))(q:l.pv=ZA n)(h2:fb Y1=!(m,Y2))(i:m.pv=ZI k)(z:Y2.mu[n]?=!(!(R ws)))(j:fO ws k=!p):aJ fa fb Y=!(Zp p,Y2):=by unfold aJ;grind
def pR(h0:Y.vs[i]?=!(!(Zs (R ws0))))(h:fa Y=!(l,Y1))(hp:l.pv=p)(h1:Y1.vs[i]?=!(!(Zs (R ws))))(hz:-ws<100000)(e:Y1.set i (!(Zs (R (ws++[p]))))=Y'):jM i fa Y=!(.nx Y'):=by subst hp;unfold jM;grind
def jZ(h0:Y.vs[i]?=!(!(Zs (R ws0))))(h:fa Y=!(l,Y1))(hp:l.pv=R ps)(h1:Y1.vs[i]?=!(!(Zs (R ws))))(hz:-ws+-ps<=100000)(e:Y1.set i (!(Zs (R (ws++ps))))=Y'):gb i fa Y=!(.nx Y'):=by unfold gb;grind
def PY(h:fv Y=!(x,Y1))(PZ:x.pv=p)(h0:Y1.vs[i]?=!(!(Zs (R ws0))))(h2:fi Y1=!(y,Y2))(hy:y.pv=ZI k)(h1:Y2.vs[i]?=!(!(Zs (R ws))))(hj:uL (-ws) k=!j)(e:Y2.set i (!(Zs (R (ws.set j p))))=Y'):Bu i fi fv Y=!(.nx Y'):=by subst PZ;unfold Bu;rw[h,eH];rw[h0];rw[h2,eH,hy];rw[h1];show (uL (-ws) k).map _=_;rw[hj,kA,e]
def eO(h:F Y=!(xs,Y1))(h2:eN B body xs Y1=ZN):fX F B body Y=ZN:=(PM h).trans h2
def Vk(h:fa Y=!(l,Y1))(i:l.pv=p)(h2:ZT p=!xs):dh fa ZT Y=!(xs,Y1):=by subst i;show dC h h2
end
section
variable {X:Cx}
noncomputable def oh (f:EF):EF:=λY=>(f Y).bind λx=>match x.1 with
 |Zs p=>!(Zp (ZA (-x.2.mu)),#[x.2.vs,x.2.mu++[!p]])
 |_=>J
def Fz(h:PE X e (tP X.K f)):PE X e (tP X.K (oh f)):=PE.imp h λU H Q q=>by
 let(H0,Z0,Y,pd,l,Y',s,f,k):=q;let(x,h1,h2):=et f;show#[H0,Z0,Y,pd,x.1,x.2,s,h1,λv H1 N=>?_];split at h2
 . rename_i p ep;cases h2;rw[ep]at N;let(W,Z,hg,z,j):=N.top;let(a,ea,ra,za,n_):=j.1 _ ed;let i:=gt ea;subst i;have F:iu Z #[Z.z,Z.g++[a]]:=#[eY_.refl _,oT _ _];let D:=j.step F λe he b hb=>#[O,(jn j he hb).1];show k _ H1 (.mk (Z:=#[Z.z,Z.g++[a]]) W ∅ #[z.zh,z.h0,z.z0.trans F,z.new] (b_.consS ?_ ?_))
   . show D.perm ?_;have ec:cel (Z.g++[a]) (x.2.mu++[!p])=cel Z.g x.2.mu++[(!(.ref a),!(Zs p))]:=by unfold cel;rw[fx,fx,lm ∅];rfl
     show List.Perm (cel (Z.g++[a]) (x.2.mu++[!p])++_) _;rw[ec,fm];show gW
   . show#[a,O,by show (Z.g++[a])[-x.2.mu]?=!a;rw[hg,hW (eK _)];simp]
 . cases h2
noncomputable def openV (i:Nat) (Y:Ev):Option Ev:=match Y.vs[i]? with
 |some (!(Zp (ZA n)))=>match Y.mu[n]? with
  |some (!p)=>!#[Y.vs.set i (!(Zs p)),Y.mu.set n J]
  |_=>J
 |_=>J
def Bw(i:Nat)(f:SF):SF:=λY=>(f Y).bind λfl=>match fl with
 |.nx Y'=>(openV i Y').map .nx
 |_=>J
theorem SR.openV(s:SR K H0 Z0 U H Y pd)(h:PL.openV i Y=!Y'):SR K H0 Z0 U H Y' pd:=by
 unfold PL.openV at h;split at h
 . rename_i n en;split at h
   . rename_i p D;cases h;let(v,F,z):=s.var en;let(a,rfl,Q):=z.cellO D;let N:=SR.sub Q ((gI _ _).cons_cons _);let hi:=(fS.mp en).1;let j:=N.store (by show i< -(Y.vs.set i _);rw[nv];show hi);rw[kK F]at j;have e:(#[(Y.vs.set i (!(Zp (ZA n)))).set i (!(Zs p)),Y.mu.set n J]:Ev)=#[Y.vs.set i (!(Zs p)),Y.mu.set n J]:=by rw[j2]
     have q:SR K H0 Z0 U H #[(Y.vs.set i (!(Zp (ZA n)))).set i (!(Zs p)),Y.mu.set n J] pd:=j;rw[e]at q;show q
   . cases h
 . cases h
def QJ{st:Stmt}(h:PS X st (iw X.K f)):PS X st (iw X.K (Bw i f)):=PS.imp h λD U H q=>by
 let(H0,Z0,Y,pd,fl,s,h,k):=q;let(y,h1,h2):=et h;cases y with
 |nx Y'=>
  let(Y2,j,rfl):=eW h2;show#[H0,Z0,Y,pd,.nx Y',s,h1,λz H' s'=>k z H' (s'.openV j)]
 |rt r Y'=>cases h2
 |bk Y'=>cases h2
 |ct Y'=>cases h2
def mF(f:EF)(lo hi:OF):EF:=λY=>(f Y).bind λx=>(lo x.2).bind λy=>(hi y.2).bind λz=>match x.1.pv with
 |R ps=>!(Zs (R (rm ps y.1 z.1)),z.2)
 |ZH t=>if -t<=100000 then !(Zp (ZH (lY t y.1 z.1)),z.2) else J
 |_=>J
def rB{lo hi:Option Expr}(he:PE X e (tP X.K f))(hl:PO X lo (Fw X.K fl))(hu:PO X hi (Fw X.K fh)):PE X (.Subscript e (.Slice lo hi J p2) pos) (tP X.K (mF f fl fh)):=PE.imp (KR (Z6.or K_) he hl hu) λU H Q q=>by
 let(H0,Z0,Y,pd,r,Y',s,h,k):=q;let(x,h1,h2):=et h;let(y,h3,h4):=et h2;let(z,h5,D):=et h4;show#[H0,Z0,Y,pd,x.1,x.2,s,h1,λv H1 s1=>#[H0,Z0,x.2,_,y.1,y.2,s1.freeze,h3,λH2 s2=>#[H0,Z0,y.2,_,z.1,z.2,s2,h5,λH3 i=>?_]]];cases e:x.1.pv with
 |lst ps=>
  rw[e]at D i;cases D;let(W,Z,hg,N,F,s4):=i.sh;let(a,vs,rfl,g1,g2):=F;show Zl #[a,vs,O,bY.same N.zh g1,λp hp=>k _ _ ?_];let(z',s'):=s4.new (p:=R (rm ps y.1 z.1)) N hp #[_,bZ,g2.cut];show .mk W hg z' s'
 |str t=>
  rw[e]at D i;have j:(if -t<=100000 then !(Lc.sh (ZH (lY t y.1 z.1)),z.2) else J)=!(r,Y'):=D;split at j
  . rename_i hz;cases j;let(_,F):=i.repH;show YY #[t,F,gp hz,k _ H3 (i.pop.scal pq)]
  . grind
 |_=>grind
def SR.popO(s:SR K H0 Z0 U H Y ((.ref a,Zs (R ws))::pd))(hp:ws[-ws-1]?=!p):
 ∃i y,H a=!(.lst i)/\i[-i-1]?=!y/\SR K H0 Z0 U (dW H a (.lst i.dropLast)) Y ((.ref a,Zs (R ws.dropLast))::(y,Zp p)::pd):=by
 let(N,Z,hg,z,F):=s.top;let(b,eb,(i,hu,j),_):=F.1 _ ed;cases eb;let(y,hy,Q):=j.get hp;let D:=-j;show#[i,y,hu,by rw[D];show hy,?_];have W:aK K Z ws.dropLast i.dropLast:=by rw[List.dropLast_eq_take,List.dropLast_eq_take,D];show j.take _
 let(z',s'):=F.write (q:=R ws.dropLast) z #[i.dropLast,bZ,W];let s2:=(s'.consS Q).perm (List.Perm.swap (!y,!(Lc.sh p)) (!(V.ref a),!(Lc.own (R ws.dropLast))) _);show .mk N hg z' (s2.perm (dD.cons _))
def QK(K:FG):V->List V->Hp->VK->Prop:=λx vs H Q=>∃g p qs w,vs=[w]/\d4 K #[H,g] p w/\d4 K #[H,g] (R qs) x/\tR (dH 150) p qs=!G/\-qs<=100000/\Q (.int (qs.findIdx λq=>(dH 150 q p).getD M)) H
def XF(hr:qM k X.A):PP X "list.index" (QK X.K):=by
 intro a_ s U H x W v us Q I rx rv h;let(g,p,D,w,rfl,rp,rq,e,hz,q):=h;have hA:X.A.in1.units+150<cLine:=by have:=hr.un;show X.A.units+1+150<cLine;lia
 let(u,rfl,ru):=rv.one;let(i1,i2):=G6 e;let(a,W,i,rfl,q1,l1,j,t1):=Ag I rq rx;have hl:-i=-D:=by rw[<-(-j),l1.length]
 let ua:=List.any_eq_true.mp i2.symm;let hj:=List.findIdx_lt_length.mpr ua;have z:∀m (N:m< ~~~i.toArray),fN X.K #[H,g] p D W i i.toArray[m]=(dH 150 (D[m]'(by rw[gX]at N;lia)) p).getD M:=λm N=>by
  have hm':m< -i:=by simpa using N
  show Du (xv:=w) (xu:=u) I l1 j i1 (gz ()) (by simp)
 let((oc,od,oD,os),ht,hc,n,hd):=t1;let sj:= hc;let P1:=hd;subst sj P1;show call_meets F.slot_list_index #[_,ht,O] F.entry_list_index (F.args_list_index_2 _ _) (SeqAt.list_indexAt a i.toArray n od os u (fN X.K #[H,g] p D W i) (D.findIdx λq=>(dH 150 q p).getD M) ∅ () ?_ ?_) #[ht,Dv I rp ru l1 j i1 hA,?_]
 . rw[z];show List.findIdx_getElem (w:=hj)
 . intro m N kD;rw[z];have:=List.not_of_lt_findIdx kD;simpa using this
 . show#[.int _,H,I.tok _,#[_,O],q]
def MF(f g:EF):EF:=λY=>(f Y).bind λx=>(g x.2).bind λy=>match x.1.pv with
 |R qs=>if tR (dH 150) y.1.pv qs=!G/\-qs<=100000 then !(Zp (ZI (qs.findIdx λq=>(dH 150 q y.1.pv).getD M)),y.2) else J
 |_=>J
def P2(h:PE X (.Call (.Attribute o "index" apos) [e] [] cpos) (KZ X.K "list" (QK X.K) (tP X.K f) (jR X.K (aj g ao)))):PE X (.Call (.Attribute o "index" apos) [e] [] cpos) (tP X.K (MF f g)):=PE.imp h λU H Q q=>by
 let(H0,Z0,Y,pd,r,Y',s,h,k):=q;let(x,h1,h2):=et h;let(y,h3,D):=et h2;show#[H0,Z0,Y,pd,x.1,x.2,s,h1,λv H1 s1=>?_];let j:=s1.freeze;cases e:x.1.pv with
 |lst z=>
  rw[e]at D j;have i:(if tR (dH 150) y.1.pv z=!G/\-z<=100000 then !(Lc.sh (ZI (z.findIdx λq=>(dH 150 q y.1.pv).getD M)),y.2) else J)=!(r,Y'):=D;split at i
  . rename_i N;cases i;let(_,r1):=j.repH;let F:=r1;let(a,us,rfl,hq,_):=F;show#[Zl #[O,us,hq],H0,Z0,x.2,_,[y.1],y.2,j,?_,λvs H2 e2 s2=>?_]
    . unfold aj ao;rw[h3];rfl
    . let(w,rfl):=yZ e2;let W:=SR.freeze s2;let(g,ra,rb):=W.rep2H;show#[g,y.1.pv,z,w,O,rb,ra,N.1,N.2,k _ H2 (W.pop.pop.scal gF)]
  . cases i
 |_=>rw[e]at D;cases D
def ue(ps:List PV):List PV:=ps.zipIdx.map λx=>ZB [ZI (x.2:Nat),x.1]
def Vl{ps:List PV}{i:Nat}:(ue ps)[i]?=ps[i]?.map λp=>.tup [.int (i:Nat),p]:=by unfold ue;rw[fI,List.getElem?_zipIdx];cases ps[i]?<;>simp
def Vm:-(ue ps)=-ps:=by unfold ue;simp
def Vn:qX K H0 Z0 ((.ref a,Zp (R ps))::pd) (td K a) (ue ps):=by intro U H Y i s;let(W,Z,hg,z,r,so):=s.sh;let r0:=r;let(b,j,e,h1,h2):=r;cases e;let D:=bY.same z.zh h1;show#[λx F=>?_,λhl=>#[j,D,by rw[h2.length];rw[Vm]at hl;lia]];rw[Vl]at F;let(p,hp,rfl):=eW F;let(v,Q,rv):=h2.get hp;show#[#[j,v,D,Q],λv' H' y=>?_];let(T,y,hT,rfl,rfl,hy):=y;let N:=hy j D;rw[Q]at N;cases N;let(z',lz,q):=(so.consS r0).newF z hT;show .mk (Z:=Z.put T (.tup [.int (i:Nat),v])) W hg z' (b_.perm (b_.consS q ?_) (dD.cons _));show#[T,[.int (i:Nat),v],O,Zl (Zl (by show dW Z.z T _ T=_;rw[bZ])),aK.cons (gF _) (aK.cons (rv.mono lz) .nil)]
def uU(f:EF):IF:=λY=>(f Y).bind λx=>match x.1.pv with
 |R ps=>!(ue ps,x.2)
 |_=>J
def Bx{gS:List Expr}{x1}(hg:Gl X "enumerate")(hm:X.mg "enumerate"=J)(W:PA X [a] (jR X.K (aj f ao)))(hs:starEach [a] X.env=[(M,eval a X.env)]:=by rfl):PI X (.Tuple gS x1 tpos) (.Call (.Name "enumerate" p) [a] [] pos) (Iz X.K (uU f)):=PI.imp (Lm hg hm W hs) λU H ZN q=>by
 let(H0,Z0,Y,pd,xs,Y',s,h,k):=q;let(x,h1,h2):=et h;show#[H0,Z0,Y,pd,[x.1],x.2,s,?_,λvs H1 F N=>?_]
 . unfold aj ao;grind
 . let(v,rfl):=yZ F;let i:=SR.freeze N;cases e:x.1.pv with
   |lst ps=>
    rw[e]at h2 i;cases h2;let(Z,z,r):=i.rep;let(b,Q,rfl,j,D):=r;show#[b,O,#[Q,bY.same z j],k _ _ _ i Vn (gI _ _)]
   |_=>grind
abbrev PD:=List (fR×PV)
noncomputable def iG:PD->fR->Option PV
 |[],_=>J
 |kv::r,k=>if kv.1=k then !kv.2 else iG r k
noncomputable def vN (k:fR) (v:PV):PD->PD
 |[]=>[]
 |kv::r=>(if kv.1=k then (kv.1,v) else kv)::vN k v r
def uV(l:PD)(k:fR)(v:PV):PD:=match iG l k with
 |some _=>vN k v l
 |none=>l++[(k,v)]
def MJ:PV->Option fR
 |ZI i=>!(.inl i)
 |ZH x=>!(.inr x)
 |_=>J
def nG(l:PD):PV:=.dk (l.map (·.1)) (l.map (·.2))
def jA(K:FG)(Z:ZG):PD->List (fR×V)->Prop:=Paired λp q=>p.1=q.1/\d4 K Z p.2 q.2
section
variable {K:FG}{Z Z':ZG}
theorem uB:∀{i:List (fR×V)}{ks:List fR}{ps:List PV},i.map (·.1)=ks->aK K Z ps (i.map (·.2))->jA K Z (ks.zip ps) i
 |[],ks,ps=>λh1 h2=>by subst h1;show .nil
 |F::r,ks,ps=>λh1 h2=>by
  subst h1;cases ps with
  |nil=>have:=h2.inv0;grind
  |cons p ps=>
   let(v,N,e,j,z):=h2.inv;injection e with D q;subst D q;show .cons #[O,j] (uB O z)
theorem jA.keys:∀{l:PD}{i:List (fR×V)},jA K Z l i->i.map (·.1)=l.map (·.1)
 |_,_,.nil=>rfl
 |_,_,.cons h t=>by rw[fU,fU,h.1,jA.keys t]
theorem jA.vals:∀{l:PD}{i:List (fR×V)},jA K Z l i->aK K Z (l.map (·.2)) (i.map (·.2))
 |_,_,.nil=>.nil
 |_,_,.cons h t=>aK.cons h.2 (jA.vals t)
theorem jA.val:∀{l:PD}{i:List (fR×V)},jA K Z l i->(∀p,iG l k=!p->∃v,qP i k=!v/\d4 K Z p v)/\(iG l k=J->qP i k=J)
 |_,_,.nil=>#[λp h=>(by cases h),λ_=>O]
 |p::l,q::i,.cons h t=>by
  let D:=jA.val (k:=k) t;by_cases e:p.1=k
  . have j:q.1=k:=by rw[<-h.1];show e
    show#[λx z=>#[q.2,xW j,?_],λz=>?_]
    . unfold iG at z;grind
    . unfold iG at z;grind
  . have j:¬ q.1=k:=by rw[<-h.1];show e
    rw[xX j];unfold iG;grind
theorem jA.repl(r:d4 K Z p v):∀{l:PD}{i:List (fR×V)},jA K Z l i->jA K Z (vN k p l) (i.map λj=>if j.1=k then (j.1,v) else j)
 |_,_,.nil=>.nil
 |a::l,b::i,.cons h t=>by
  show .cons ?_ (jA.repl r t);by_cases e:a.1=k
  . have q:b.1=k:=by rw[<-h.1];show e
    grind
  . have q:¬ b.1=k:=by rw[<-h.1];show e
    grind
theorem jA.app:∀{l q:PD}{j i:List (fR×V)},jA K Z l j->jA K Z q i->jA K Z (l++q) (j++i)
 |_,_,_,_,.nil=>λh=>h
 |_,_,_,_,.cons a t=>λh=>.cons a (jA.app t h)
def jA.put(h:jA K Z l d3)(r:d4 K Z p v):jA K Z (uV l k p) (f7 d3 k v):=by
 let j:=h.val (k:=k);unfold uV;cases e:iG l k with
 |none=>
  rw[WF v (j.2 e)];show h.app (.cons #[O,r] .nil)
 |some q=>
  let(u,z,_):=j.1 q e;have D:f7 d3 k v=d3.map λi=>if i.1=k then (i.1,v) else i:=by unfold f7;rw[xY,z];rfl
  rw[D];show h.repl r
def G9(h:MJ p=!k)(r:d4 K Z p v):v=kV k:=by
 cases p with
 |int i=>cases h;show cF r
 |str x=>cases h;show dN r
 |_=>cases h
end
def ui(fa fb:EF):EF:=λY=>(fa Y).bind λx=>(fb x.2).bind λy=>match x.1.pv with
 |.dk ks ps=>(MJ y.1.pv).bind λk=>(iG (ks.zip ps) k).map λp=>(Zp p,y.2)
 |.df ks ps=>(MJ y.1.pv).bind λk=>(iG (ks.zip ps) k).map λp=>(Zp p,y.2)
 |_=>aJ (λ_=>!x) (λ_=>!y) Y
def P4(hy:y.2=Y)(i:SR X.K H0 Z0 U H Y ((w,Zp y.1.pv)::(v,Zp x.1.pv)::pd))(h:aJ (λ_=>!x) (λ_=>!y) Y0=!(l,Y'))(k:∀u H',SR X.K H0 Z0 U H' Y' ((u,l)::pd)->Q u H'):sC X.K v w H Q:=by
 unfold aJ at h;rw[eH,eH]at h;subst hy;split at h
 . rename_i n kk en ek;split at h
   . rename_i ws N;let(p,F,D):=eW h;cases D;rw[en,ek]at i;let(_,q):=i.repH;let ew:=cF q;let(a,rfl,s5):=i.pop.cellO N;let(el,Z,hg,z,W):=s5.top;let(_,ea,(us,hu,hr),_):=W.1 _ ed;cases ea;let(j,e1,e2):=Bt F (-hr);let(u,e3,e4):=hr.get e1;show Zl #[a,us,kk,u,O,ew,bY.of hu,e2 u e3,k u H ?_];have s6:SR X.K H0 Z0 U H #[y.2.vs,y.2.mu.set n J] ((u,Zp p)::(.ref a,Zs (R ws))::(.ref a,Zp (ZA n))::pd):=.mk el hg z ((W.perm dD).consS e4);let hn:=(fS.mp N).1;let s7:=s6.perm (((List.Perm.swap _ _ _).cons _).trans (List.Perm.swap _ _ _));let s8:=s7.cellP ∅;have e8:(y.2.mu.set n J).set n (!(R ws))=y.2.mu:=by rw[j2];show kK N
     let s9:=s8;rw[e8]at s9;show s9
   . cases h
 . let(l',F,D):=eW h;cases D;show Ve H0 Z0 U y.2 pd H v w x.1.pv y.1.pv _ Q i F k
def P5(hu:X.A.units+1<cLine)(ha:PE X a (tP X.K fa))(hb:PE X b (tP X.K fb))(hm:Bh b):PE X (.Subscript a b pos) (tP X.K (ui fa fb)):=PE.imp (RX (Ub.or (Lv hu)) ha hb hm) λU H Q q=>by
 let(H0,Z0,Y,pd,l,Y',s,f,k):=q;let(x,h1,h2):=et f;let(y,h3,h4):=et h2;show#[H0,Z0,Y,pd,x.1,x.2,s,h1,λv H1 s1=>#[H0,Z0,x.2,_,y.1,y.2,s1,h3,λw H2 s2=>?_]];let s3:=s2.freeze.swap.freeze.swap;split at h4
 . rename_i ks ps en;let(kk,h5,h6):=et h4;let(p,h7,h8):=eW h6;cases h8;let(_,F):=s3.repH;let ew:=G9 h5 F;let i:=s3.pop;rw[en]at i;let(Z,z,r):=i.rep;let(b',D,rfl,g1,g2,g3):=r;let(u,N,ru):=(uB g2 g3).val.1 p h7;let e1:=z _ _ g1;show YY #[b',u,O,Zl #[D,kk,Zl e1,ew,N.symm],k u H2 ?_];show(i.part λZ' z' r'=>?_).sub ((gI _ _).cons_cons _);let(b2,kvs2,eb,j,W,uj):=r';cases eb;let e2:=z' _ _ j;rw[e1]at e2;cases e2;let(u2,P6,P7):=(uB W uj).val.1 p h7;grind
 . rename_i ks ps en;let(kk,h5,h6):=et h4;let(p,h7,h8):=eW h6;cases h8;let(_,F):=s3.repH;let ew:=G9 h5 F;let i:=s3.pop;rw[en]at i;let(Z,z,r):=i.rep;let(b',ob,D,rfl,g1,g2,g3):=r;let(u,N,ru):=(uB g2 g3).val.1 p h7;let e1:=z _ _ g1;show YY #[b',u,O,Zl #[D,kk,YY #[ob,e1],ew,N.symm],k u H2 ?_];show(i.part λZ' z' r'=>?_).sub ((gI _ _).cons_cons _);let(b2,ob2,kvs2,eb,j,W,uj):=r';cases eb;let e2:=z' _ _ j;rw[e1]at e2;cases e2;let(u2,P6,P7):=(uB W uj).val.1 p h7;grind
 . show Zl (P4 O s3 h4 k)
def SR.takeD(s:SR K H0 Z0 U H Y pd)(e:Y.vs[i]?=!(!(Zs (.dk ks ps)))):
 ∃a,U[i]?=!(!(.ref a))/\SR K H0 Z0 U H (Y.set i J) ((.ref a,Zs (.dk ks ps))::pd):=by
 let(v,F,j):=s.take e;let(_,Z,_,z,q):=j.top;let(a,D,_):=q.1 _ ed;grind
def SR.setD(s:SR K H0 Z0 U H Y ((v,Zp p)::(.ref a,Zs (.dk ks ps))::pd)):
 ∃i,H a=!(.dK i)/\-i=-ks/\SR K H0 Z0 U (dW H a (.dK (f7 i k v))) Y ((.ref a,Zs (nG (uV (ks.zip ps) k p)))::pd):=by
 let(D,Z,N,z,r,F):=s.sh;let j:=F.perm dD.symm;let(_,eb,(i,hu,hk,W),_):=j.1 _ ed;cases eb;show#[i,hu,by rw[<-hk,eI],?_];let d:=(uB hk W).put (k:=k) r;let(Q,s'):=j.write (q:=nG (uV (ks.zip ps) k p)) z #[f7 i k v,bZ,d.keys,d.vals];show .mk D N Q s'
def FJ(i:Nat)(fi fv:EF):SF:=λY=>(fv Y).bind λx=>match x.2.vs[i]? with
 |some (!(Zs (.dk _ _)))=>(fi x.2).bind λy=>match MJ y.1.pv,y.2.vs[i]? with
  |some k,!(!(Zs (.dk ks ps)))=>if -ks<100000 then !(.nx (y.2.set i (!(Zs (nG (uV (ks.zip ps) k x.1.pv)))))) else J
  |_,_=>J
 |_=>J
def P8(h:PS X (.Assign [.Subscript o ix tpos] e pos) (Rz (tP X.K fv) (Wk (uH i) (tP X.K fi) Y6))):PS X (.Assign [.Subscript o ix tpos] e pos) (iw X.K (FJ i fi fv)):=PS.imp h λD U H q=>by
 let(H0,Z0,Y,pd,fl,s,h,k):=q;let(x,h1,h2):=et h;show#[H0,Z0,Y,pd,x.1,x.2,s,h1,λv H1 s1=>?_];split at h2
 . rename_i P9 P_ e0;let(y,h3,z):=et h2;let(a,Q,_):=s1.takeD e0;show#[.ref a,Q,H0,Z0,x.2,_,y.1,y.2,s1.freeze,h3,λw H2 W=>?_];split at z
   . rename_i kk ks ps ek e3;split at z
     . cases z;let(_,N):=W.freeze.repH;let ew:=G9 ek N;let(a',j,s3):=W.pop.takeD e3;rw[Q]at j;cases j;let(F,hu,hl,s4):=s3.swap.setD;show#[a,_,O,Zl #[F,kk,hu,ew,by rw[hl,sizeLine_eq];lia,O],k U _ ?_];let s5:=s4.put Q;rw[Ev.set_set]at s5;show s5
     . cases z
   . cases z
 . cases h2
def ou(fo fv:EF):SF:=λY=>(fo Y).bind λo=>match o.1.pv with
 |ZA n=>match o.2.mu[n]? with
  |some (!(R _))=>(fv o.2).bind λy=>match y.2.mu[n]? with
   |some (!(R ws))=>if -ws<100000 then !(.nx #[y.2.vs,y.2.mu.set n (!(R (ws++[y.1.pv])))]) else J
   |_=>J
  |_=>J
 |_=>J
def By(h:PS X (.Expr (.Call (.Attribute o "append" apos) [e] [] cpos) pos) (J3 (KZ X.K "list" GP (tP X.K fo) (jR X.K (aj fv ao))))):
 PS X (.Expr (.Call (.Attribute o "append" apos) [e] [] cpos) pos) (iw X.K (ou fo fv)):=PS.imp h λD U H q=>by
 let(H0,Z0,Y,pd,fl,s,h,k):=q;let(o',h1,h2):=et h;show#[H0,Z0,Y,pd,o'.1,o'.2,s,h1,λv H1 s1=>?_];split at h2
 . rename_i n en;split at h2
   . rename_i ws0 F;let(y,h3,i):=et h2;let Q:=s1.freeze;rw[en]at Q;let(a,rfl,s5):=Q.cellO F;let(_,Z,_,z,so):=s5.top;let(_,ea,(us,hu,_),_):=so.1 _ ed;cases ea;show#[Zl #[O,us,bY.of hu],H0,Z0,o'.2,_,[y.1],y.2,Q,?_,λvs H2 e2 sv=>?_]
     . unfold aj ao;grind
     . let(v1,rfl):=yZ e2;split at i
       . rename_i ws em;split at i
         . cases i;let s3:=SR.freeze sv;let(a',W,s6):=s3.swap.cellO em;cases W;let s7:=s6.perm ((List.Perm.swap _ _ _).trans ((List.Perm.swap _ _ _).cons _));let(j,N,hl,s8):=s7.pushO;let hn:=(fS.mp em).1;let s9:=s8.cellP ∅;show#[a,j,v1,O,O,N,by rw[hl,sizeLine_eq];lia,k U _ ?_];have e8:(y.2.mu.set n J).set n (!(R (ws++[y.1.pv])))=y.2.mu.set n (!(R (ws++[y.1.pv]))):=j2 ..;have s10:SR X.K H0 Z0 U (dW H2 a (.lst (j++[v1]))) #[y.2.vs,(y.2.mu.set n J).set n (!(R (ws++[y.1.pv])))] pd:=s9;grind
         . cases i
       . cases i
   . cases h2
 . cases h2
def Y4_:List (V×V)->List V
 |[]=>[]
 |p::r=>p.1::p.2::Y4_ r
def keysOf:List (Lc×Lc)->Option PD
 |[]=>![]
 |p::r=>(MJ p.1.pv).bind λk=>(keysOf r).map λl=>(k,p.2.pv)::l
def Vo:EF:=λY=>!(Zs (.dk [] []),Y)
def Qg:PE X (.Dict [] [] pos) (tP X.K Vo):=PE.imp WM λU H Q q=>by let(H0,Z0,Y,pd,l,Y',s,f,k):=q;cases f;show λp i=>k _ _ (s.newO i λZ _ _=>#[[],bZ,O,.nil])
def oO(f:EF):EF:=λY=>(f Y).bind λx=>match x.1.pv with
 |ZA n=>match x.2.mu[n]? with
  |some (!(R ws))=>!(Zp (ZI (-ws:Nat)),x.2)
  |_=>J
 |p=>(AQ p).map λl=>(l,x.2)
def XH(h:PE X (.Call (.Name x p) [e] [] pos) (zN (λxs H Q=>∃x n,xs=[x]/\Wq X.K x H n/\Q (.int n) H) (jR X.K (aj f ao)))):PE X (.Call (.Name x p) [e] [] pos) (tP X.K (oO f)):=PE.imp h λU H Q q=>by
 let(H0,Z0,Y,pd,l,Y',s,N,k):=q;let(y,h1,h2):=et N;show#[H0,Z0,Y,pd,[y.1],y.2,s,?_,λvs H1 D F=>?_]
 . unfold aj ao;grind
 . let(v,rfl):=yZ D;let i:=SR.freeze F;split at h2
   . rename_i n en;split at h2
     . rename_i ws j;cases h2;rw[en]at i;let(a,rfl,s5):=i.cellO j;let(_,Z,_,z,so):=s5.top;let(_,ea,(W,hu,hr),_):=so.1 _ ed;cases ea;show#[.ref a,-ws,O,Zl #[W,bY.of hu,hr.length.symm],k _ H1 (i.pop.scal gF)]
     . cases h2
   . let(l',h3,h4):=eW h2;cases h4;show Vf H0 Z0 U y.2 pd H1 [v] [y.1.pv] _ Q O i h3 k
end
open PySem.SeqAt
section
variable {X:Cx}
def uW(ps qs:List PV):List PV:=List.zipWith (λp q=>ZB [p,q]) ps qs
def XJ{i:Nat}(h:(uW ps qs)[i]?=!x):∃p q,ps[i]?=!p/\qs[i]?=!q/\x=ZB [p,q]:=by
 unfold uW at h;rw[List.getElem?_zipWith]at h;cases h1:ps[i]? with
 |none=>grind
 |some p=>
  cases h2:qs[i]? with
  |none=>grind
  |some q=>grind
def XM:-(uW ps qs)=min (-ps) (-qs):=by unfold uW;simp
def XN:qX K H0 Z0 ((.ref a,Zp (R ps))::(.ref b,Zp (R qs))::pd) (Y7 K a b) (uW ps qs):=by
 intro U H Y i s;show ym λZT kG=>?_;let(el,Z,hg,z,rl,so):=SR.repl (vs:=[.ref a,.ref b]) (ls:=[Zp (R ps),Zp (R qs)]) s O;let(_,_,ev,r,rl):=rl;cases ev;let(_,_,ev,r',_):=rl;cases ev;let r0:=r;let W:=r';let(a',D,e,h1,h2):=r;let(b',ws,e',Q,j):=r';cases e;cases e';let N:=bY.same z.zh h1;let F:=bY.same z.zh Q;show kG #[λx hx=>?_,λhl=>#[D,ws,N,F,?_]]
 . show ym λZT kG=>?_;let(p,q,hp,Qr,rfl):=XJ hx;let(v,hv,rv):=h2.get hp;let(u,hu,ru):=j.get Qr;show kG #[#[D,ws,v,u,N,F,hv,hu],λv' H' y=>?_];let(T,y1,y2,hT,rfl,rfl,QA,AS):=y;let e1:=QA D N;rw[hv]at e1;cases e1;let e2:=AS ws F;rw[hu]at e2;cases e2;let(z',lz,oe):=((so.consS W).consS r0).newF z hT;show .mk (Z:=Z.put T (.tup [v,u])) el hg z' (b_.perm (b_.consS oe ?_) ((dD.trans (dD.cons _)).cons _));show#[T,[v,u],O,Zl (Zl (by show dW Z.z T _ T=_;rw[bZ])),aK.cons (rv.mono lz) (aK.cons (ru.mono lz) .nil)]
 . rw[XM]at hl;rw[h2.length,j.length];lia
def Km(f g:EF):IF:=λY=>(f Y).bind λx=>(g x.2).bind λy=>match x.1.pv,y.1.pv with
 |R ps,R qs=>!(uW ps qs,y.2)
 |_,_=>J
theorem QI{α:Type}{p q:PV}{w r:α}(h:(match p,q with
 |R ps,R qs=>!(uW ps qs,w)
 | _,_=>J)=!(zs,r)):∃ps qs,p=R ps/\q=R qs/\zs=uW ps qs/\w=r:=by
 split at h
 . rename_i ps qs;cases h;show#[ps,qs,O,O,O,O]
 . cases h
def AT{p pos:Pos}{gS:List Expr}{x1}{tpos:Pos}(hg:Gl X "zip")(hm:X.mg "zip"=J)(ha:PA X [a,b] (jR X.K (aj f (aj g ao))))(hs:starEach [a,b] X.env=(M,eval a X.env)::starEach [b] X.env:=by rfl)(D:(backTo pos (starEach [b] X.env)).any (·.1)=M:=by rfl):PI X (.Tuple gS x1 tpos) (.Call (.Name "zip" p) [a,b] [] pos) (Iz X.K (Km f g)):=PI.imp (LJ hg hm ha hs D) λU H ZN q=>by
 let(H0,Z0,Y,pd,xs,Y',s,h,k):=q;let(x,h1,h2):=et h;let(y,h3,h4):=et h2;show#[H0,Z0,Y,pd,[x.1,y.1],y.2,s,?_,λvs H1 W s1=>?_]
 . unfold aj ao;rw[h1];simp only[eH,h3,kA]
 . show ym λZT kG=>?_;let(v,u,rfl):=n5 W;have j:SR X.K H0 Z0 U H1 y.2 ((v,Zp x.1.pv)::(u,Zp y.1.pv)::pd):=SR.freezeAll s1;let(ps,qs,e,N,rfl,rfl):=QI h4;rw[e,N]at j;let(Z,z,r,r'):=j.rep2;let(F,us,rfl,i,g2'):=r;let(a',Q,rfl,g1,g2):=r';show kG #[a',F,O,#[_,bY.same z g1],#[_,bY.same z i],k _ _ _ j XN ((gI _ _).cons _)]
end
end PL
namespace L2
open PL.PV renaming lst→R,int→ZI,str→ZH,tup→ZB,ptr→ZA
open PL.Lc renaming own→Zs,sh→Zp
open PySem PySem.Spec PyProof.Rows
variable {a_:List (Addr×Obj)}{E:Value->Shared->Prop}{s:Shared}{A:Around}{w:World}{P:Program}
end L2
namespace PL
open PL.PV renaming lst→R,int→ZI,str→ZH,tup→ZB,ptr→ZA
open PL.Lc renaming own→Zs,sh→Zp
open PySem PySem.Spec PyProof.Rows L2
variable {K:FG}{H0 H:Hp}{Z0:ZG}{U:L2.St}{Y:Ev}{pd:Pd}
def wN(a b:Str):Prop:=ltCps b.cps.toList a.cps.toList=M
def mZ:wN a b ↔ a.cps.toList<=b.cps.toList:=by unfold wN;rw[ltCps_eq,decide_eq_false_iff_not];show Iff.rfl
theorem Ak:∀(p:Str)(l:List Str),risingS p l=G->(p::l).Pairwise wN
 |p,[],_=>by simp
 |p,x::r,h=>by
  have h':(not (ltCps x.cps.toList p.cps.toList)&&risingS x r)=G:=h;simp only[iX,Bool.not_eq_true']at h';let j:=Ak x r h'.2;let q:=h'.1;show List.pairwise_cons.mpr #[λy i=>?_,j];obtain rfl|i:=d5.mp i
  . show q
  . show mZ.mpr (List.le_trans (mZ.mp q) (mZ.mp (List.rel_of_pairwise_cons j i)))
theorem Vp:∀{l:List Str},sortedS l=G->l.Pairwise wN
 |[],_=>.nil
 |x::r,h=>Ak x r h
def QN{a b:Str}(h:a.cps.toList=b.cps.toList):a=b:=by obtain⟨⟨b⟩⟩:=b;cases h;rfl
def Vq{a b:List Str}(p:a.Perm b)(i:a.Pairwise wN)(j:b.Pairwise wN):a=b:=
 List.Perm.eq_of_pairwise (λx y _ _ h1 h2=>QN (List.le_antisymm (mZ.mp h1) (mZ.mp h2))) i j p
noncomputable def Dy (x:Str):List Str->List Str
 |[]=>[x]
 |y::l=>if ltCps x.cps.toList y.cps.toList then x::y::l else y::Dy x l
def pU:List Str->List Str
 |[]=>[]
 |x::l=>Dy x (pU l)
theorem Al{x:Str}:∀{l:List Str},(Dy x l).Perm (x::l)
 |[]=>.rfl
 |y::l=>by
  unfold Dy;split
  . show .rfl
  . show(Al.cons y).trans (.swap _ _ _)
theorem QL:∀{l:List Str},l.Pairwise wN->(Dy x l).Pairwise wN
 |[]=>λ_=>by simp[Dy]
 |y::l=>λh=>by
  let(h1,h2):=List.pairwise_cons.mp h;unfold Dy;split
  . rename_i g;rw[ltCps_eq,decide_eq_true_eq]at g;let j:=mZ.mpr (List.le_of_lt g);show List.pairwise_cons.mpr #[λz i=>?_,h];obtain rfl|i:=d5.mp i
    . show j
    . show mZ.mpr (List.le_trans (mZ.mp j) (mZ.mp (h1 z i)))
  . rename_i g;show List.pairwise_cons.mpr #[λz i=>?_,QL h2];obtain rfl|i:=d5.mp (Al.mem_iff.mp i)
    . simpa [wN] using g
    . show h1 z i
theorem uf:∀{l:List Str},(pU l).Perm l
 |[]=>.rfl
 |x::l=>Al.trans (uf.cons x)
theorem MK:∀{l:List Str},(pU l).Pairwise wN
 |[]=>.nil
 |x::l=>QL MK
def XQ(p:t.Perm ss)(h:sortedS t=G):t=pU ss:=Vq (p.trans uf.symm) (Vp h) MK
def uX:List Str->List Str
 |[]=>[]
 |x::l=>if x∈l then uX l else x::uX l
theorem Am:∀{l:List Str},y∈uX l ↔ y∈l
 |[]=>Iff.rfl
 |x::l=>by
  unfold uX;split
  . rename_i h;rw[Am,d5];show#[YY,λq=>q.elim (λe=>e▸h) id]
  . rw[d5,d5,Am]
theorem Dz:∀{l:List Str},(uX l).Nodup
 |[]=>.nil
 |x::l=>by
  unfold uX;split
  . show Dz
  . rename_i h;show ip.mpr #[λq=>h (Am.mp q),Dz]
theorem FP:∀{a b:List Str},a.Nodup->b.Nodup->(∀y,y∈a ↔ y∈b)->a.Perm b
 |[],b=>λ_ _ h=>by
  have:b=[]:=List.eq_nil_iff_forall_not_mem.mpr λy i=>by have:=(h y).mpr i;cases this
  rw[this]
 |x::a,b=>λj D h=>by
  let(h1,h2):=ip.mp j;let z:=(h x).mp ed;let p:=List.perm_cons_erase z;show((FP h2 ∅ λy=>?_).cons x).trans p.symm;rw[D.mem_erase_iff];constructor
  . intro i;show#[λe=>h1 (e▸i),(h y).mp (e_ _ i)]
  . rintro⟨n,i⟩;obtain e|q:=d5.mp ((h y).mpr i)
    . show absurd e n
    . show q
def XS(n:t.Nodup)(m:∀y,y∈t ↔ y∈ss)(h:sortedS t=G):t=pU (uX ss):=XQ (FP n Dz λy=>(m y).trans Am.symm) h
def BJ:List PV->Option (List Str)
 |[]=>![]
 |ZH x::ps=>(BJ ps).map (x::·)
 |_::_=>J
theorem Jd:∀{ps:List PV}{vs:List V}{i:List Str},BJ ps=!i->aK K Z ps vs->vs=i.map V.str
 |[],vs,i=>λh r=>by cases h;show r
 |p::ps,vs,i=>λh r=>by
  let(v,D,rfl,h1,h2):=r;cases p with
  |str x=>
   let(t,z,j):=eW h;cases j;rw[Jd z h2];rw[h1];rfl
  |_=>cases h
theorem MN:∀{i:List Str},aK K Z (i.map PV.str) (i.map V.str)
 |[]=>by  rfl
 |x::i=>#[.str x,i.map V.str,O,by unfold d4;rfl,MN]
section
variable {X:Cx}
def yw(f:EF):EF:=λY=>(f Y).bind λx=>match x.1.pv with
 |R ps=>(BJ ps).bind λss=>if -ss<64 then !(Zs (R ((pU (uX ss)).map PV.str)),x.2) else J
 |_=>J
def Vr(h:PE X (.Call (.Name "sorted" p) [.Call (.Name "set" p') [e] [] pos'] [] pos) (zN (Ut X) (J5 (zN (y8 X) (jR X.K (aj f ao))) KJ))):PE X (.Call (.Name "sorted" p) [.Call (.Name "set" p') [e] [] pos'] [] pos) (tP X.K (yw f)):=PE.imp h λU H Q q=>by
 let(H0,Z0,Y,pd,l,Y',s,h,k):=q;let(x,h1,h2):=et h;show#[H0,Z0,Y,pd,[x.1],x.2,s,?_,λvs H1 e1 s1=>?_]
 . unfold aj ao;rw[h1];rfl
 . let(v,rfl):=yZ e1;let N:=SR.freeze s1;cases e:x.1.pv with
   |lst ps=>
    rw[e]at h2 N;let(i,g1,j):=et h2;split at j
    . rename_i hl;cases j;let(el,Z,hg,z,r,so):=N.sh;let(a,us,rfl,r1,r2):=r;let eu:=Jd g1 r2;subst eu;show#[a,i,O,bY.same z.zh r1,(),λb hb=>?_];let(z',lz,F):=so.newF z hb;show#[b,i,O,bZ,hl,λc W hc n m D=>k _ _ ?_];rw[XS n m D];let(z2,s3):=F.new (p:=R ((pU (uX i)).map PV.str)) z' hc #[_,bZ,MN];show .mk (Z:=Z.put b (.ext (Ld X.prog X.w b i))) el hg z2 s3
    . cases j
   |_=>rw[e]at h2;cases h2
def SR.ext(s:SR K H0 Z0 U H Y pd)(F:H l=J):SR K H0 Z0 U (dW H l o) Y pd:=by let(j,Z,D,z,q):=s;let(N,Q,i):=q.newF z F;show#[j,Z.put l o,D,N,i]
abbrev FD:=List (Str×PV)
noncomputable def sr:FD->Str->Option PV
 |[],_=>J
 |kv::r,k=>if kv.1=k then !kv.2 else sr r k
noncomputable def su (f:Str) (p:PV):FD->FD
 |[]=>[(f,p)]
 |kv::r=>if kv.1=f then (kv.1,p)::r else kv::su f p r
def gf(C:Str)(l:FD):PV:=.obj C (l.map (·.1)) (l.map (·.2))
def pW(K:FG)(Z:ZG):FD->List (Str×V)->Prop:=Paired λp q=>p.1=q.1/\d4 K Z p.2 q.2
section
variable {K:FG}{Z Z':ZG}
theorem Ha:∀{i:List (Str×V)}{ks:List Str}{ps:List PV},i.map (·.1)=ks->aK K Z ps (i.map (·.2))->pW K Z (ks.zip ps) i
 |[],ks,ps=>λh1 h2=>by subst h1;show .nil
 |F::r,ks,ps=>λh1 h2=>by
  subst h1;cases ps with
  |nil=>have:=h2.inv0;grind
  |cons p ps=>
   let(v,N,e,j,z):=h2.inv;injection e with D q;subst D q;show .cons #[O,j] (Ha O z)
theorem pW.keys:∀{l:FD}{i:List (Str×V)},pW K Z l i->i.map (·.1)=l.map (·.1)
 |_,_,.nil=>rfl
 |_,_,.cons h t=>by rw[fU,fU,h.1,pW.keys t]
theorem pW.vals:∀{l:FD}{i:List (Str×V)},pW K Z l i->aK K Z (l.map (·.2)) (i.map (·.2))
 |_,_,.nil=>.nil
 |_,_,.cons h t=>aK.cons h.2 (pW.vals t)
theorem pW.look:∀{l:FD}{i:List (Str×V)},pW K Z l i->(∀p,sr l f=!p->∃v,i.lookup f=!v/\d4 K Z p v)/\(sr l f=J->i.lookup f=J)
 |_,_,.nil=>#[λp h=>(by cases h),λ_=>O]
 |p::l,q::i,.cons h t=>by
  let Q:=pW.look (f:=f) t;have F:(q::i).lookup f=if f=q.1 then !q.2 else i.lookup f:=by
   let(N,W):=q;rw[js];by_cases e:f=N
   . grind
   . grind
  rw[F];by_cases e:p.1=f
  . have j:f=q.1:=by rw[<-h.1];show e.symm
    rw[dA j];show#[λx D=>#[q.2,O,?_],λD=>?_]
    . unfold sr at D;grind
    . unfold sr at D;grind
  . have j:¬ f=q.1:=by rw[<-h.1];show λz=>e z.symm
    rw[dQ j];unfold sr;grind
theorem pW.put(r:d4 K Z p v):∀{l:FD}{i:List (Str×V)},pW K Z l i->pW K Z (su f p l) (jz f v i)
 |_,_,.nil=>.cons #[O,r] .nil
 |a::l,b::i,.cons h t=>by
  let(j,q):=b;unfold su jz;by_cases e:a.1=f
  . rw[dA e,dA ∅];show .cons #[h.1,r] t
  . rw[dQ e,dQ ∅];show .cons h (pW.put r t)
end
structure yx(K:FG)(mg:Str->Option Value)(C:Str)(c:Addr):Prop where
 cn:CN K C c
 cl:zJ K c
 mgC:mg C=!(.ref c)
def SJ(h:CN K C c)(g:CN K C d):c=d:=by have:(!(!(Value.ref c)))=!(!(YV d)):=h.symm.trans g;grind
def jB(C f:Str)(fo:EF):EF:=λY=>(fo Y).bind λx=>match x.1.pv with
 |ZA n=>match x.2.mu[n]? with
  |some (!(.obj D ks ps))=>if D=C then (sr (ks.zip ps) f).map λp=>(Zp p,x.2) else J
  |_=>J
 |_=>J
def SR.cellB{pd pe:Pd}(j:Y.mu[n]?=!(!p))(s:SR K H0 Z0 U H #[Y.vs,Y.mu.set n J] ((.ref a,Zs p)::(.ref a,Zp (ZA n))::pd)):SR K H0 Z0 U H Y pd:=by
 let D:=(fS.mp j).1;let q:=s.cellP ∅;have z:(Y.mu.set n J).set n (!p)=Y.mu:=by rw[j2];show kK j
 let i:=q;rw[z]at i;show i
def SR.objAt(s:SR K H0 Z0 U H Y ((v,Zp (ZA n))::pd))(F:Y.mu[n]?=!(!(.obj C ks ps))):
 ∃a c dx fs,v=.ref a/\CN K C c/\H a=!(.ins c dx fs)/\fs.map (·.1)=ks/\(∀f p,sr (ks.zip ps) f=!p->∃u,fs.lookup f=!u/\SR K H0 Z0 U H Y ((u,Zp p)::(v,Zp (ZA n))::pd))/\∀f,sr (ks.zip ps) f=J->fs.lookup f=J:=by
 let i:=s.part λZ _ r=>r;let(a,rfl,Q):=i.cellO F;let(N,Z,W,z,q):=Q.top;let(_,ea,(c,dx,fs,cn,hu,hk,hr),_):=q.1 _ ed;cases ea;let D:=Ha hk hr;show#[a,c,dx,fs,O,cn,hu,hk,λf p j=>?_,λf j=>D.look.2 j];let(u,h1,h2):=D.look.1 p j;show#[u,h1,?_];have s6:SR K H0 Z0 U H #[Y.vs,Y.mu.set n J] ((u,Zp p)::(.ref a,Zs (.obj C ks ps))::(.ref a,Zp (ZA n))::(.ref a,Zp (ZA n))::pd):=.mk N W z ((q.perm dD).consS h2);let s7:=s6.perm (((List.Perm.swap _ _ _).cons _).trans (List.Perm.swap _ _ _));show SR.cellB (pe:=pd) F s7
def wg(T:yx X.K X.mg C c)(na:kW X.K c f)(F:PE X o (tP X.K fo))(W:attributeBase o f X.env (eval o X.env)=eval o X.env:=by rfl):PE X (.Attribute o f pos) (tP X.K (jB C f fo)):=PE.imp (IC F W) λU H Q q=>by
 let(H0,Z0,Y,pd,l,Y',s,h,k):=q;let(x,h1,h2):=et h;show#[H0,Z0,Y,pd,x.1,x.2,s,h1,λv H1 z=>?_];split at h2
 . rename_i n en;split at h2
   . rename_i D ks ps j;split at h2
     . rename_i eD;subst eD;let(p,h3,h4):=eW h2;cases h4;let i:=z.freeze;rw[en]at i;let(a,c',dx,fs,rfl,cn,hH,hk,N,_):=i.objAt j;have:=SJ T.cn cn;subst this;let(u,h5,s6):=N f p h3;show#[a,c,dx,fs,u,O,hH,T.cl,na,h5,k u H1 (s6.sub ((gI _ _).cons_cons _))]
     . cases h2
   . cases h2
 . cases h2
def BP(C f:Str)(fo fv:EF):SF:=λY=>(fv Y).bind λy=>(fo y.2).bind λx=>match x.1.pv with
 |ZA n=>match x.2.mu[n]? with
  |some (!(.obj D ks ps))=>if D=C/\-ks<1000 then !(.nx #[x.2.vs,x.2.mu.set n (!(gf C (su f y.1.pv (ks.zip ps))))]) else J
  |_=>J
 |_=>J
def Hb(T:yx X.K X.mg C c)(na:kW X.K c f)(ho:PE X o (tP X.K fo))(hv:PE X value (tP X.K fv))(hs:swapsWith value (!(.Attribute o f pos')) pos.line X.env=pure M:=by rfl):PS X (.Assign [.Attribute o f pos'] value pos) (iw X.K (BP C f fo fv)):=PS.imp (IG ho hv hs) λD U H q=>by
 let(H0,Z0,Y,pd,fl,s,h,k):=q;let(y,h1,h2):=et h;let(x,h3,i):=et h2;show#[H0,Z0,Y,pd,y.1,y.2,s,h1,λv H1 s1=>#[H0,Z0,y.2,_,x.1,x.2,s1.freeze,h3,λw H2 s2=>?_]];split at i
 . rename_i n en;split at i
   . rename_i F ks ps Q;split at i
     . rename_i N;let(N,hz):=N;subst N;cases i;let W:=s2.freeze;rw[en]at W;let(a,rfl,s5):=W.cellO Q;let s6:=s5.perm ((List.Perm.swap _ _ _).trans ((List.Perm.swap _ _ _).cons _));let(el,Z,hg,z,r,so):=s6.sh;let j:=so.perm dD.symm;let(_,eb,(c',dx,fs,cn,hu,hk,hr),_):=j.1 _ ed;cases eb;have:=SJ T.cn cn;subst this;let rf:=Ha hk hr;let rp:=rf.put (f:=f) r;have hlen:-fs=-ks:=by rw[<-hk,eI]
       show#[a,c,dx,fs,O,hu,T.cl,na,(),k U _ ?_];let(z',s'):=j.write (q:=gf F (su f y.1.pv (ks.zip ps))) z #[c,dx,jz f v fs,cn,bZ,rp.keys,rp.vals];have s7:SR X.K H0 Z0 U (dW H2 a (.ins c dx (jz f v fs))) #[x.2.vs,x.2.mu.set n J] ((.ref a,Zs (gf F (su f y.1.pv (ks.zip ps))))::(.ref a,Zp (ZA n))::pd):=.mk el hg z' s';let hn:=(fS.mp Q).1;let s8:=s7.cellP ∅;have e8:(x.2.mu.set n J).set n (!(gf F (su f y.1.pv (ks.zip ps))))=x.2.mu.set n (!(gf F (su f y.1.pv (ks.zip ps)))):=j2 ..;grind
     . cases i
   . cases i
 . cases i
end
section
variable {P:Program}{w:World}{K:FG}{mg:Str->Option Value}{base:Heap}
def wO(K:FG)(c:Addr)(m qual:Str)(st:Stmt)(ps:List Str):Prop:=∃f fd,vD K m qual st f fd/\W.findIn K (YV c) m=!(!(YV f))/\W.isFn K (YV f)=G/\fA K fd ps []
def vO(P:Program)(w:World)(K:FG)(mg:Str->Option Value)(base:Heap)(c:Addr)(m:Str)(k:Nat)(ps:List Str)(sp:Sp):Prop:=∃f fd,oK P w K mg base qD k f fd ps sp/\kB K c m f/\fA K fd ps []
def vD.okQ{st:Stmt}(F:vD K x qual st f fd)(S:bz N ps (aG st))
 (h:∀(j:Value)(A:Around)(i:List PySem.Env)(s:Shared)(H:Hp)(E:XK),qM k (A.deeper (envOfC qual (aG st) s.heap.objs.size f j))->
   ∃g':SF,(∀a mu,g a mu=cY (-N) g' a mu)/\jP (Ww qD P w K mg base N qual (aG st) f j A i s H E).nox (jC st) (iw K g')):oK P w K mg base qD (k+1) f fd ps (bW K (-ps) g):=by
 show F.ok S (λvs H Q E q=>?_) (λj A i s H vs Q E hr q=>?_)
 . let(Z,qs,mu,r,hU,e,_):=q;show e
 . let(g',eg,b):=h j A i s H E hr;let(Z,qs,mu,r,hU,e,hg,z,rl,c,kU,kk):=q;rw[eg]at kU;let(fl,h1,h2):=et kU;show#[_,b,my H (uP Z.g mu),Z,_,[],fl,Ds hg z rl c,h1,?_];cases fl with
   |rt r' Y'=>
    cases h2;intro v U' H' s';let(el,Z',D,z',W):=s'.top;show kk v H' #[Z',D,z',W.sub ?_];show(j1 _ _).cons_cons _
   |nx Y'=>
    cases h2;intro U' H' s';let(el,Z',D,z',W):=s';show kk .non H' #[Z',D,z',(W.sub (j1 _ _)).consS (Bq _)]
   |bk Y'=>cases h2
   |ct Y'=>cases h2
def wO.ok{st:Stmt}(F:wO K c m qual st ps)(S:bz N ps (aG st))
 (h:∀(f:Addr)(j:Value)(A:Around)(i:List PySem.Env)(s:Shared)(H:Hp)(E:XK),qM k (A.deeper (envOfC qual (aG st) s.heap.objs.size f j))->
   ∃q:SF,(∀a mu,g a mu=cY (-N) q a mu)/\jP (Ww qD P w K mg base N qual (aG st) f j A i s H E).nox (jC st) (iw K q)):vO P w K mg base c m (k+1) ps (bW K (-ps) g):=by
 let(f,fd,F,h1,h2,z):=F;show#[f,fd,vD.okQ F S (h f),#[h1,h2,F.kp],z]
end
section
variable {X:Cx}
def cX(C m:Str)(g:GF)(fo:EF)(a:AF):EF:=λY=>(fo Y).bind λx=>match x.1.pv with
 |ZA n=>match x.2.mu[n]? with
  |some (!(.obj D ks _))=>if D=C/\ks.contains m=M then (a x.2).bind λy=>(g (ZA n::y.1.map Lc.pv) y.2.mu).map λr=>(r.1,#[y.2.vs,r.2]) else J
  |_=>J
 |_=>J
theorem Jf:∀{fs:List (Str×V)},(fs.map (·.1)).contains m=M->fs.lookup m=J
 |[]=>λ_=>rfl
 |(g,x)::r=>λh=>by grind
def MP(T:yx X.K X.mg C c)(hn:∀Y ls Y1,a Y=!(ls,Y1)->-ls+1=n'):∀U H Q,tP X.K (cX C m g fo a) U H Q->RT c m (bW X.K n' g) [] E (tP X.K fo) (jR X.K a) U H Q:=λU H Q q=>by
 let(H0,Z0,Y,pd,l,Y',s,h,k):=q;let(x,h1,h2):=et h;show#[H0,Z0,Y,pd,x.1,x.2,s,h1,λv H1 s1=>?_];split at h2
 . rename_i n en;split at h2
   . rename_i D ks ps em;split at h2
     . rename_i F;let(F,hk):=F;subst F;let(y,h3,h4):=et h2;let(r,h5,h6):=eW h4;cases h6;let j:=s1.freeze;rw[en]at j;let(W,c',dx,fs,rfl,cn,hH,p_,_):=j.objAt em;have:=SJ T.cn cn;subst this;show#[W,dx,fs,O,hH,Jf ∅,H0,Z0,x.2,_,y.1,y.2,j,h3,λvs H2 e2 s3=>?_];have s4:SR X.K H0 Z0 U H2 y.2 ((V.ref W::vs).zip (Lc.sh (ZA n)::y.1)++pd):=s3.perm (by rw[mN,kN];show gW.symm)
       let(el,Z,N,z,rl,i):=s4.repl ∅;show#[Z,ZA n::y.1.map Lc.pv,y.2.mu,r.1,r.2,?_,N,z.zh,?_,i.cells N,h5,λv H' rr=>k v H' (SR.called el N z i rr)]
       . grind
       . rw[f_];show rl
     . cases h2
   . cases h2
 . cases h2
def jt{apos pos:Pos}{pl:Sem Bool}(T:yx X.K X.mg C c)(N:vO X.prog X.w X.K X.mg X.base c m k ps (bW X.K (-ps) g))(W:qM k X.A)(D:PE X o (tP X.K fo))(q:PA X (e::es) (jR X.K a))(z:∀Y ls Y1,a Y=!(ls,Y1)->-ls+1=-ps)
 (i:starEach (e::es) X.env=(M,eval e X.env)::starEach es X.env:=by rfl) (j:(backTo pos (starEach es X.env)).any (·.1)=M:=by rfl)
 (ht:eval (.Call (.Attribute o m apos) (e::es) [] pos) X.env=(do
   let ov <-eval o X.env
   standAt apos.atName
   let (f,first) <-holding [ov] (getMethod ov m pl)
   callWith pos f first (backTo pos (starEach (e::es) X.env)) (backToKw pos (keywordEach [] X.env))):=by rfl):PE X (.Call (.Attribute o m apos) (e::es) [] pos) (tP X.K (cX C m g fo a)):=by
 let(f,fd,F,hm,Q):=N
 show PE.imp (ZV D T.cl hm F W Q .nil J6 q i j ht) (MP T z)
def QO(T:yx X.K X.mg C c)(W:vO X.prog X.w X.K X.mg X.base c m k ps (bW X.K (-ps) g))(hr:qM k X.A)(N:PE X o (tP X.K fo))(z:1=-ps)
 (ht:eval (.Call (.Attribute o m apos) [] [] pos) X.env=(do
   let ov <-eval o X.env
   standAt apos.atName
   let (f,first) <-holding [ov] (getMethod ov m pl)
   callWith pos f first (backTo pos (starEach [] X.env)) (backToKw pos (keywordEach [] X.env))):=by rfl):PE X (.Call (.Attribute o m apos) [] [] pos) (tP X.K (cX C m g fo ao)):=by
 let(f,fd,F,hm,hb):=W
 show PE.imp (Wu N T.cl hm F hr hb .nil J6 ht) λU H Q q=>?_
 have:=MP (E:=E0) (n':=-ps) T (λY ls Y1 h=>by cases h;rw[<-z];rfl) U H Q q
 let(H0,Z0,Y,pd,l,Y',s,h,k):=this
 show#[H0,Z0,Y,pd,l,Y',s,h,λv H1 D=>?_]
 let(a,dx,fs,j,e2,e3,H0',Z0',Y2,pd2,ls,Y3,i,h2,k2):=k v H1 D
 cases h2
 show#[a,dx,fs,j,e2,e3,k2 [] H1 O i]
def SR.toCell(s:SR K H0 Z0 U H Y ((.ref a,Zs p)::pd)):SR K H0 Z0 U H #[Y.vs,Y.mu++[!p]] ((.ref a,Zp (ZA (-Y.mu)))::pd):=by
 let(D,Z,F,z,j):=s.top;have q:iu Z #[Z.z,Z.g++[a]]:=#[eY_.refl _,oT _ _];let i:=j.step q λe W b Q=>#[O,(jn j W Q).1];show .mk (Z:=#[Z.z,Z.g++[a]]) D ∅ #[z.zh,z.h0,z.z0.trans q,z.new] (b_.consS ?_ ?_)
 . show i.perm ?_;have N:cel (Z.g++[a]) (Y.mu++[!p])=cel Z.g Y.mu++[(!(.ref a),!(Zs p))]:=by unfold cel;rw[fx,fx,lm ∅];rfl
   show List.Perm (cel (Z.g++[a]) (Y.mu++[!p])++_) _;rw[N,fm];show gW
 . show#[a,O,by show (Z.g++[a])[-Y.mu]?=!a;rw[F,hW ()];simp]
def FT(C:Str)(g:GF)(a:AF):EF:=λY=>(a Y).bind λy=>(g (ZA (-y.2.mu)::y.1.map Lc.pv) (y.2.mu++[!(.obj C [] [])])).bind λr=>match r.1 with
 |Zp .non=>!(Zp (ZA (-y.2.mu)),#[y.2.vs,r.2])
 |_=>J
def X4(P:Program)(w:World)(K:FG)(mg:Str->Option Value)(base:Heap)(c:Addr)(k:Nat)(ps:List Str)(sp:Sp):Prop:=∃f fd,oK P w K mg base qD k f fd ps sp/\Mk K c f/\fA K fd ps []
def X5(T:yx X.K X.mg C c)(hn:∀Y ls Y1,a Y=!(ls,Y1)->-ls+1=n'):∀U H Q,tP X.K (FT C g a) U H Q->YX c (bW X.K n' g) [] E (jR X.K a) U H Q:=λU H Q q=>by
 let(H0,Z0,Y,pd,l,Y',s,h,k):=q;let(y,h1,h2):=et h;let(r,h3,D):=et h2;split at D
 . rename_i er;cases D;show#[H0,Z0,Y,pd,y.1,y.2,s,h1,λj H1 e1 s1 x dx hx N QP=>?_];have s2:SR X.K H0 Z0 U (dW H1 dx (.own x)) y.2 (j.zip y.1++pd):=s1.ext N;have s3:SR X.K H0 Z0 U (dW (dW H1 dx (.own x)) x (.ins c dx [])) y.2 ((.ref x,Zs (.obj C [] []))::(j.zip y.1++pd)):=s2.newO (by rw[cV QP.symm];show hx) λZ _ _=>#[c,dx,[],T.cn,bZ,O,.nil];let s4:=s3.toCell;let s5:=s4.part λZ _ r=>r;have s6:SR X.K H0 Z0 U (dW (dW H1 dx (.own x)) x (.ins c dx [])) #[y.2.vs,y.2.mu++[!(.obj C [] [])]] ((V.ref x::j).zip (Lc.sh (ZA (-y.2.mu))::y.1)++(.ref x,Zp (ZA (-y.2.mu)))::pd):=s5.perm (by rw[mN,kN];show List.perm_middle.cons _)
   let(el,Z,F,z,rl,i):=s6.repl ∅;show#[Z,ZA (-y.2.mu)::y.1.map Lc.pv,y.2.mu++[!(.obj C [] [])],r.1,r.2,?_,F,z.zh,?_,i.cells F,h3,λv H' rr=>?_]
   . grind
   . rw[f_];show rl
   . let W:=SR.called el F z i rr;rw[er]at W;let(_,r0):=W.repH;show#[jL r0,k _ _ W.pop]
 . cases D
def QU{p pos:Pos}(T:yx X.K X.mg C c)(N:X4 X.prog X.w X.K X.mg X.base c k ps (bW X.K (-ps) g))(W:qM (k+1) X.A)(z:Gl X C)(q:PA X (e::es) (jR X.K a))(D:∀Y ls Y1,a Y=!(ls,Y1)->-ls+1=-ps)
 (i:(C==("__debug__" : Str))=M:=by decide) (he:starEach (e::es) X.env=(M,eval e X.env)::starEach es X.env:=by rfl) (j:(backTo pos (starEach es X.env)).any (·.1)=M:=by rfl):PE X (.Call (.Name C p) (e::es) [] pos) (tP X.K (FT C g a)):=by
 let(f,fd,F,hm,Q):=N;show PE.imp (ZW hm F W z T.mgC Q .nil J6 q i he j) (X5 T D)
end
def gO{a:AF}(h:∀Y ls Y1,a Y=!(ls,Y1)->-ls=n)(e:n+1=m:=by rfl):∀Y ls Y1,a Y=!(ls,Y1)->-ls+1=m:=λY ls Y1 g=>by rw[h _ _ _ g,e]
def QY(h:vO P w K mg base c "__init__" k ps sp)(mk:W.makesIn K c=G)(i:W.keepIn K (YV c)=G):X4 P w K mg base c k ps sp:=by let(f,fd,F,m,b):=h;show#[f,fd,F,#[mk,m.at_,m.fn,i],b]
end PL
namespace L2
open PL.PV renaming lst→R,int→ZI,str→ZH,tup→ZB,ptr→ZA
open PL.Lc renaming own→Zs,sh→Zp
open PySem PySem.Spec PyProof.Rows
variable {a_:List (Addr×Obj)}{E:Value->Shared->Prop}{s:Shared}{A:Around}{w:World}{P:Program}
end L2
namespace PL
open PL.PV renaming lst→R,int→ZI,str→ZH,tup→ZB,ptr→ZA
open PL.Lc renaming own→Zs,sh→Zp
open PySem PySem.Spec PyProof.Rows L2
variable {K:FG}{H0 H:Hp}{Z0:ZG}{U:L2.St}{Y:Ev}{pd:Pd}
end PL
namespace L2
open PL.PV renaming lst→R,int→ZI,str→ZH,tup→ZB,ptr→ZA
open PL.Lc renaming own→Zs,sh→Zp
open PySem PySem.Spec PyProof.Rows
variable {a_:List (Addr×Obj)}{E:Value->Shared->Prop}{s:Shared}{A:Around}{w:World}{P:Program}
section
variable {X:Cx}
noncomputable def pk {α:Type} (xs:List α) (lo hi st:Option Int):List α:=
 (sliceRange (sliceBounds lo hi st (-xs)).1 (sliceBounds lo hi st (-xs)).2.1 (sliceBounds lo hi st (-xs)).2.2).filterMap λi=>xs[i]?
def MT{lo hi st:Option Int}:slicePick eJ.toArray lo hi st=(pk eJ lo hi st).toArray:=by unfold slicePick pk;simp
theorem db.pick(r:db xs eJ):∀{l:List Nat},db (l.filterMap λi=>xs[i]?) (l.filterMap λi=>eJ[i]?)
 |[]=>.nil
 |i::l=>by
  let q:=-r;cases h:xs[i]? with
  |none=>
   have h':eJ[i]?=J:=by rw[List.getElem?_eq_none_iff]at h ⊢;lia
   rw[jS h,jS h'];show r.pick
  |some x=>
   let(u,h',j):=r.get h;rw[List.filterMap_cons_some h,List.filterMap_cons_some h'];show .cons j r.pick
theorem db.pk{lo hi st:Option Int}(r:db xs eJ):db (pk xs lo hi st) (L2.pk eJ lo hi st):=by unfold L2.pk;rw[r.length];show r.pick
def Q_(K:FG)(te:TE)(tl th tt:TO):TE:=λU H Q=>te U H λx H1=>tl U H1 λl H2=>th U H2 λu H3=>tt U H3 λk H4=>∃a xs,x=.ref a/\bY K H4 a xs/\k≠!0/\∀p,H4 p=J->Q (.ref p) (dW H4 p (.lst (pk xs l u k)))
def Vs{lo hi:Option Expr}{st:Expr}(he:PE X e te)(hl:PO X lo tl)(hu:PO X hi th)(N:PO X (!st) tt):PE X (.Subscript e (.Slice lo hi (!st) p2) pos) (Q_ X.K te tl th tt):=by
 intro a_ s U H Q I h;show Subscript_ (dg (he a_ s U H _ I h) λv s1 Re=>?_);let(x,H1,I1,r1,q1):=Re;show wpAny_Slice (dg (hl a_ s1 U H1 _ I1 q1) λvl s2 Rl=>?_);let(l,H2,I2,pl,q2):=Rl;show dg (hu a_ s2 U H2 _ I2 q2) λvu s3 Rv=>?_;let(u,H3,I3,pu,q3):=Rv;show dg (N a_ s3 U H3 _ I3 q3) λW z Rw=>?_;let(k,H4,I4,RA,q4):=Rw;let(a,xs,rfl,hx,hk,q):=q4;cases r1;have I5:c_ X a_ U H4 { z with heap:=z.heap.push { cls:=.type "slice",data:=.fields (List.toArray [vl,vu,W]) } }:=I4.kept λb ob q=>fz _ q;let(eJ,r,N,hz):=I5.list hx;let hlen:=-r;have hg:wpAny (model X.prog X.w) X.A (getItem (YV a) (YV z.heap.objs.size)) (EP X a_ U Q) X.xe { z with heap:=z.heap.push { cls:=.type "slice",data:=.fields (List.toArray [vl,vu,W]) } }:=by show wpAny_getItem_list_slice N.isList (Heap.IsSliceOf.new ..) pl pu RA hk ?_ ∅;let F:=slicePick_size_le eJ.toArray l u k;rw[MT]at F ⊢;show#[.ref (z.heap.push { cls:=.type "slice",data:=.fields (List.toArray [vl,vu,W]) }).objs.size,_,I5.laid (λb ob q=>fz _ q) (eK _) ?_,O,q _ (I5.hok.fresh (eK _))];show#[?_,_,0,r.pk,ge _ O];let e:=-(r.pk (lo:=l) (hi:=u) (st:=k));rw[gX,gX]at F;lia
 show tail_any N.isList.typeIs slot_list_getitem.lookup hg (by with_unfolding_all rfl)
end
end L2
namespace PL
open PL.PV renaming lst→R,int→ZI,str→ZH,tup→ZB,ptr→ZA
open PL.Lc renaming own→Zs,sh→Zp
open PySem PySem.Spec PyProof.Rows L2
variable {K:FG}{H0 H:Hp}{Z0:ZG}{U:L2.St}{Y:Ev}{pd:Pd}
section
variable {X:Cx}
theorem aK.pick(r:aK K Z ps vs):∀{l:List Nat},aK K Z (l.filterMap λi=>ps[i]?) (l.filterMap λi=>vs[i]?)
 |[]=>aK.nil
 |i::l=>by
  let q:=-r;cases h:ps[i]? with
  |none=>
   have h':vs[i]?=J:=by rw[List.getElem?_eq_none_iff]at h ⊢;lia
   rw[jS h,jS h'];show r.pick
  |some x=>
   let(u,h',j):=r.get h;rw[List.filterMap_cons_some h,List.filterMap_cons_some h'];show aK.cons j r.pick
theorem aK.pk{lo hi st:Option Int}(r:aK K Z ps vs):aK K Z (L2.pk ps lo hi st) (L2.pk vs lo hi st):=by unfold L2.pk;rw[r.length];show r.pick
def DN(f:EF)(lo hi st:OF):EF:=λY=>(f Y).bind λx=>(lo x.2).bind λy=>(hi y.2).bind λz=>(st z.2).bind λt=>match x.1.pv with
 |R ps=>if t.1≠!0 then !(Zs (R (pk ps y.1 z.1 t.1)),t.2) else J
 |_=>J
def QM{lo hi:Option Expr}{st:Expr}(he:PE X e (tP X.K f))(hl:PO X lo (Fw X.K fl))(hu:PO X hi (Fw X.K fh))(ht:PO X (!st) (Fw X.K fs)):
 PE X (.Subscript e (.Slice lo hi (!st) p2) pos) (tP X.K (DN f fl fh fs)):=PE.imp (Vs he hl hu ht) λU H Q q=>by
 let(H0,Z0,Y,pd,r,Y',s,h,k):=q;let(x,h1,h2):=et h;let(y,h3,h4):=et h2;let(z,h5,h6):=et h4;let(t,h7,i):=et h6;show#[H0,Z0,Y,pd,x.1,x.2,s,h1,λv H1 s1=>#[H0,Z0,x.2,_,y.1,y.2,s1.freeze,h3,λH2 s2=>#[H0,Z0,y.2,_,z.1,z.2,s2,h5,λH3 W=>#[H0,Z0,z.2,_,t.1,t.2,W,h7,λH4 j=>?_]]]];split at i
 . rename_i ps e;split at i
   . rename_i hk;cases i;rw[e]at j;let(N,Z,hg,D,F,s5):=j.sh;let(a,vs,rfl,g1,g2):=F;show#[a,vs,O,bY.same D.zh g1,hk,λp hp=>k _ _ ?_];let(z',s'):=s5.new (p:=R (pk ps y.1 z.1 t.1)) D hp #[_,bZ,g2.pk];show .mk N hg z' s'
   . cases i
 . cases i
def Holds(o:Option Nat)(ps:List PV)(Y:Ev):Prop:=∀n,o=!n->Y.mu[n]?=!(!(R ps))
noncomputable def sealV (i:Nat) (Y:Ev):Option Ev:=match Y.vs[i]? with
 |some (!(Zs p))=>!#[Y.vs.set i (!(Zp (ZA (-Y.mu)))),Y.mu++[!p]]
 |_=>J
def wQ(i:Nat)(f:SF):SF:=λY=>(sealV i Y).bind f
theorem SR.sealV(s:SR K H0 Z0 U H Y pd)(h:PL.sealV i Y=!Y'):SR K H0 Z0 U H Y' pd:=by
 unfold PL.sealV at h;split at h
 . rename_i p F;cases h;let(v,N,q):=s.take F;let(_,Z,_,z,D):=q.top;let(a,W,_):=D.1 _ ed;let j:=gt W;subst j;let Q:=q.toCell.put N;have e:(Y.vs.set i J).set i (!(Lc.sh (ZA (-Y.mu))))=Y.vs.set i (!(Zp (ZA (-Y.mu)))):=j2 _;have s3:SR K H0 Z0 U H #[(Y.vs.set i J).set i (!(Lc.sh (ZA (-Y.mu)))),Y.mu++[!p]] pd:=Q;grind
 . cases h
def QQ{st:Stmt}(h:PS X st (iw X.K f)):PS X st (iw X.K (wQ i f)):=PS.imp h λD U H q=>by let(H0,Z0,Y,pd,fl,s,h,k):=q;let(Y1,h1,h2):=et h;show#[H0,Z0,Y1,pd,fl,s.sealV h1,h2,k]
end
noncomputable def fQ (mu:Mu):Nat->PV->PV
 |0,p=>p
 |k+1,ZA n=>match mu[n]? with
  |some (!p)=>fQ mu k p
  |_=>ZA n
 |k+1,ZB ps=>ZB (ps.map (fQ mu k))
 |k+1,R ps=>R (ps.map (fQ mu k))
 |k+1,.dk ks ps=>.dk ks (ps.map (fQ mu k))
 |_+1,p=>p
theorem yz(i:∀p x,d4 K Z p x->d4 K Z (f p) x):∀{ps:List PV}{vs:List V},aK K Z ps vs->aK K Z (ps.map f) vs
 |[],vs,h=>h
 |p::ps,vs,h=>by let(v,r,rfl,h1,h2):=h.inv;show aK.cons (i p v h1) (yz i h2)
def peekD(mu:Mu):Option Lc->Option Lc
 |some l=>!(Zp (fQ mu 40 l.pv))
 |none=>J
def Ev.peekD(Y:Ev):Ev:=#[Y.vs.map (PL.peekD Y.mu),Y.mu.map λ_=>J]
section
variable {X:Cx}
def FZ(fo:EF):EF:=λY=>(fo Y).bind λo=>match o.1.pv with
 |ZA n=>match o.2.mu[n]? with
  |some (!(R ws))=>(ws[-ws-1]?).map λp=>(Zp p,#[o.2.vs,o.2.mu.set n (!(R ws.dropLast))])
  |_=>J
 |_=>J
def RF(h:PE X (.Call (.Attribute o "pop" apos) [] [] cpos) (xQ X.K "list" xS (tP X.K fo))):PE X (.Call (.Attribute o "pop" apos) [] [] cpos) (tP X.K (FZ fo)):=PE.imp h λU H Q q=>by
 let(H0,Z0,Y,pd,r,Y',s,h,k):=q;let(o',h1,h2):=et h;show#[H0,Z0,Y,pd,o'.1,o'.2,s,h1,λv H1 W=>?_];split at h2
 . rename_i n en;split at h2
   . rename_i ws D;let(p,h3,h4):=eW h2;cases h4;let F:=W.freeze;rw[en]at F;let(a,rfl,N):=F.cellO D;let(_,Z,_,z,so):=N.top;let(_,ea,(us,hu,_),_):=so.1 _ ed;cases ea;let(i,y,j,hy,s6):=N.popO h3;let hn:=(fS.mp D).1;let s7:=(s6.perm ((List.Perm.swap _ _ _).cons _)).cellP ∅;show#[Zl #[O,us,bY.of hu],a,i,y,O,O,j,hy,k _ _ ?_];have e8:(o'.2.mu.set n J).set n (!(R ws.dropLast))=o'.2.mu.set n (!(R ws.dropLast)):=j2 ..;grind
   . cases h2
 . cases h2
def j7(f:EF)(fl fh:OF):EF:=λY=>(f Y).bind λx=>(fl x.2).bind λy=>(fh y.2).bind λz=>match x.1.pv with
 |ZB ps=>if HT.sIx (-ps) 0 y.1=0/\HT.sIx (-ps) (-ps) z.1=-ps then J else !(Zp (ZB (rm ps y.1 z.1)),z.2)
 |_=>J
def uC{lo hi:Option Expr}(he:PE X e (tP X.K f))(hl:PO X lo (Fw X.K fl))(hu:PO X hi (Fw X.K fh)):PE X (.Subscript e (.Slice lo hi J p2) pos) (tP X.K (j7 f fl fh)):=PE.imp (KR Je he hl hu) λU H Q q=>by
 let(H0,Z0,Y,pd,r,Y',s,h,k):=q;let(x,h1,h2):=et h;let(y,h3,h4):=et h2;let(z,h5,i):=et h4;show#[H0,Z0,Y,pd,x.1,x.2,s,h1,λv H1 s1=>#[H0,Z0,x.2,_,y.1,y.2,s1.freeze,h3,λH2 s2=>#[H0,Z0,y.2,_,z.1,z.2,s2,h5,λH3 j=>?_]]];cases e:x.1.pv with
 |tup ps=>
  rw[e]at i j;have i:(if HT.sIx (-ps) 0 y.1=0/\HT.sIx (-ps) (-ps) z.1=-ps then J else !(Lc.sh (ZB (rm ps y.1 z.1)),z.2))=!(r,Y'):=i;split at i
  . cases i
  . rename_i hw;cases i;let(el,Z,hg,N,W,s4):=j.sh;let(a,F,rfl,g1,D):=W;show#[a,F,O,cW.same N.zh g1,by rw[D.length];show hw,λp hp=>k _ _ ?_];let(z',lz,s'):=s4.newF N hp;show .mk (Z:=Z.put p (.tup (uK F y.1 z.1))) el hg z' (s'.consS ?_);show#[p,_,O,cW.of bZ,D.cut.mono lz]
 |_=>grind
def X6{mu:Mu}:∀e∈cel g (mu.map λ_=>J),e.2=J:=λe z=>by let(v,l):=e;let(_,h2):=kz z;let(o,i,j):=fy.mp h2;let(o',_,q):=fy.mp i;subst q;show j.symm
noncomputable def ψ:PV->Option Str
 |ZH z=>if -z<=100000 then !z else J
 |ZI i=>if i.natAbs.log2<1920 then (if -(toString i:Str)<=100000 then !(toString i) else J) else J
 |_=>J
def nW(c:Str)(f:EF):EF:=λY=>(f Y).bind λx=>(ψ x.1.pv).bind λz=>if -c+-z<=100000 then !(Zp (ZH (c++z)),x.2) else J
def wR(hc:-c<=100000)(he:PE X e (tP X.K f)):PE X (.JoinedStr [.Constant (.str c) j p1,.FormattedValue e (-1) J p2] p3) (tP X.K (nW c f)):=PE.imp (L6 (gL hc ()) he) λU H Q q=>by
 let(H0,Z0,Y,pd,r,Y',s,h,k):=q;let(x,h1,h2):=et h;let(z,N,W):=et h2;let(hl,h5):=qZ W;cases h5;show#[H0,Z0,Y,pd,x.1,x.2,s,h1,λv H1 s1=>?_];let s2:=SR.freeze s1;have RI:-(c++z)<=sizeLine:=by rw[PySem.Str.length_append];show gL hl ()
 have hz:-z<=sizeLine:=gL (gL () hl) ();show#[z,?_,RI,hz,k _ H1 (s2.pop.scal pq)];let(_,r):=s2.repH;cases e:x.1.pv with
 |str y=>
  rw[e]at N r;let(_,rfl):=qZ N;have:=dN r;subst this;rfl
 |int i=>
  rw[e]at N r;obtain⟨hi,W⟩:i.natAbs.log2<1920/\(if -(toString i:Str)<=100000 then !(toString i) else J:Option Str)=!z:=by
   have F:(if i.natAbs.log2<1920 then (if -(toString i:Str)<=100000 then !(toString i) else J) else J:Option Str)=!z:=N;split at F
   . rename_i h;show#[h,F]
   . cases F
  let(_,rfl):=qZ W;have:=cF r;subst this;show dA hi
 |_=>rw[e]at N;cases N
def Ga(h:f Y=!(l,Y1))(j:ψ l.pv=!z)(i:-c+-z<=100000):nW c f Y=!(Zp (ZH (c++z)),Y1):=by unfold nW;rw[h,eH,j,eH,dA i]
def SR.pop0O(s:SR K H0 Z0 U H Y ((.ref a,Zs (R (p::ws)))::pd)):
 ∃j y,H a=!(.lst (y::j))/\SR K H0 Z0 U (dW H a (.lst j)) Y ((.ref a,Zs (R ws))::(y,Zp p)::pd):=by
 let(F,Z,N,z,D):=s.top;let(b,eb,(j,hu,hr),_):=D.1 _ ed;cases eb;let(y,i,rfl,W,hd):=aK.inv hr;show#[i,y,hu,?_];let(Q,s'):=D.write (q:=R ws) z #[i,bZ,hd];let s2:=(s'.consS W).perm (List.Perm.swap (!y,!(Lc.sh p)) (!(V.ref a),!(Lc.own (R ws))) _);show .mk F N Q (s2.perm (dD.cons _))
def An(fo:EF):EF:=λY=>(fo Y).bind λo=>match o.1.pv with
 |ZA n=>match o.2.mu[n]? with
  |some (!(R (p::ws)))=>!(Zp p,#[o.2.vs,o.2.mu.set n (!(R ws))])
  |_=>J
 |_=>J
def RO(h:PE X (.Call (.Attribute o "pop" apos) [z] [] cpos) (KZ X.K "list" Ue (tP X.K fo) (jR X.K (aj (bh 0) ao)))):PE X (.Call (.Attribute o "pop" apos) [z] [] cpos) (tP X.K (An fo)):=PE.imp h λU H Q q=>by
 let(H0,Z0,Y,pd,r,Y',s,h,k):=q;let(o',h1,h2):=et h;show#[H0,Z0,Y,pd,o'.1,o'.2,s,h1,λv H1 s1=>?_];split at h2
 . rename_i n en;split at h2
   . rename_i p ws i;cases h2;let D:=s1.freeze;rw[en]at D;let(a,rfl,s5):=D.cellO i;let(_,Z,_,z,so):=s5.top;let(_,ea,(us,hu,_),_):=so.1 _ ed;cases ea;show#[Zl #[O,us,bY.of hu],H0,Z0,o'.2,_,[Zp (ZI 0)],o'.2,D,O,λvs H2 e2 sv=>?_];let(v1,rfl):=yZ e2;let s3:=sv;let(_,r):=s3.repH;have:=cF r;subst this;let s4:=s3.pop;let(a',F,N):=s4.cellO i;cases F;let(W,y,j,N):=N.pop0O;let hn:=(fS.mp i).1;let s7:=(N.perm ((List.Perm.swap _ _ _).cons _)).cellP ∅;show#[a,y::W,0,0,y,O,O,j,by decide,by decide,?_,O,?_]
     . unfold seqIndex?;simp
     . show k _ _ ?_;have e8:(o'.2.mu.set n J).set n (!(R ws))=o'.2.mu.set n (!(R ws)):=j2 ..;rw[show (#[o'.2.vs,o'.2.mu.set n (!(R ws))]:Ev)=#[o'.2.vs,(o'.2.mu.set n J).set n (!(R ws))] by rw[e8]];show s7
   . cases h2
 . cases h2
def M3{Y Y1:Ev}{mu:Mu}(h1:fo Y=!(o,Y1))(ho:o.pv=ZA n)(hm:Y1.mu[n]?=!(!(R (p::ws))))(e:Y1.mu.set n (!(R ws))=mu):An fo Y=!(Zp p,#[Y1.vs,mu]):=by unfold An;rw[h1,eH,ho];dsimp only;rw[hm];dsimp only;rw[e]
end
theorem b_.freezeC:∀(C:Sl){Z:ZG},b_ K H0 Z H (C++ZN)->jQ H0 Z0 Z H->∃Z',iu Z Z'/\Z'.g=Z.g/\jQ H0 Z0 Z' H/\b_ K H0 Z' H ZN/\∀e∈C,∀q,e.2=!(Zs q)->∃x,e.1=!x/\d4 K Z' q x
 |[],Z=>λQ z=>#[Z,iu.refl Z,O,z,Q,λe N=>by cases N]
 |(v,l)::C,Z=>λQ z=>by
  have dP:∀{j:ZG},iu Z j->j.g=Z.g->jQ H0 Z0 j H->b_ K H0 j H (C++ZN)->(∀q,l=!(Zs q)->∃x,v=!x/\d4 K j q x)->∃Z',iu Z Z'/\Z'.g=Z.g/\jQ H0 Z0 Z' H/\b_ K H0 Z' H ZN/\∀e∈(v,l)::C,∀q,e.2=!(Zs q)->∃x,e.1=!x/\d4 K Z' q x:=λ{j} lz W z1 i hv=>by
   let(Z',D,RS,z',oe,hc):=b_.freezeC C i z1;show#[Z',lz.trans D,RS.trans W,z',oe,λe N q hq=>?_];obtain rfl|N:=d5.mp N
   . let(x,ex,rx):=hv q hq;show#[x,ex,rx.mono D]
   . grind
  let i:=Q;cases l with
  |none=>show dP (iu.refl Z) O z (i.sub (gI _ _)) λq h=>by cases h
  |some l=>
   cases l with
   |sh p=>show dP (iu.refl Z) O z (i.sub (gI _ _)) λq h=>by cases h
   |own p=>
    let(j,lz,W,z1,F):=i.freeze z;let(x,ex,rx):=F.1 _ ed;show dP lz W z1 (F.sub (gI _ _)) λq h=>by cases h;grind
theorem sW(j:∀(n:Nat)(a:Addr)(q:PV),Z.g[n]?=!a->mu[n]?=!(!q)->d4 K Z q (.ref a)):∀(k:Nat)(p:PV)(x:V),d4 K Z p x->d4 K Z (fQ mu k p) x
 |0=>λp x r=>r
 |k+1=>λp x r=>by
  cases p with
  |ptr n=>
   show d4 K Z (match mu[n]? with |some (!p)=>fQ mu k p |_=>ZA n) x;split
   . rename_i q Q;let(a,rfl,N):=r;show sW j k q _ ∅
   . show r
  |tup ps=>
   let(a,i,e,h1,h2):=r;show#[a,i,e,h1,yz (sW j k) h2]
  |lst ps=>
   let(a,i,e,h1,h2):=r;show#[a,i,e,h1,yz (sW j k) h2]
  |dk ks ps=>
   let(a,i,e,h1,z,h2):=r;show#[a,i,e,h1,z,yz (sW j k) h2]
  |_=>show r
theorem b_.nones:∀(C:Sl),(∀e∈C,e.2=J)->b_ K H0 Z H ZN->b_ K H0 Z H (C++ZN)
 |[]=>λ_ j=>j
 |(v,l)::C=>λh j=>by
  let e:=h _ ed;subst e;let s:=b_.nones C (λe i=>h e (e_ _ i)) j;show#[λe i=>?_,?_]
  . obtain rfl|i:=d5.mp i
    . trivial
    . show s.1 e i
  . show ((((v,J):Option V×Option Lc)::(C++ZN)).filterMap mj).Nodup;rw[jS (by cases v with |none=>rfl |some x=>cases x<;>rfl)];show s.2
def SR.meltD(k:Nat)(s:SR K H0 Z0 U H Y ((v,Zp p)::pd)):
 SR K H0 Z0 U H #[Y.vs,Y.mu.map λ_=>J] ((v,Zp (fQ Y.mu k p))::pd):=by
 let(F,Z,hg,z,r,N):=s.sh;let(Z',lz,W,Q,j,hc):=b_.freezeC (cel Z.g Y.mu) N z;let i:=b_.nones (cel Z'.g (Y.mu.map λ_=>J)) X6 j;show .mk F ∅ Q (i.consS ?_);show sW (λn a q D hq=>?_) k p v (r.mono lz);rw[W]at D;have hm:(!(V.ref a),!(Lc.own q))∈cel Z.g Y.mu:=g7 (zip_get (by rw[fI,D];rfl) ∅);grind
section
variable {X:Cx}
def Gb(f:EF):EF:=λY=>(f Y).map λx=>(Zp (fQ x.2.mu 40 x.1.pv),#[x.2.vs,x.2.mu.map λ_=>J])
def RY(h:PE X e (tP X.K f)):PE X e (tP X.K (Gb f)):=PE.imp h λU H Q q=>by let(H0,Z0,Y,pd,l,Y',s,f,k):=q;let(x,h1,h2):=eW f;cases h2;show#[H0,Z0,Y,pd,x.1,x.2,s,h1,λv H1 i=>k v H1 (i.freeze.meltD 40)]
def X8(h:f Y=!(l,Y1))(i:fQ Y1.mu 40 l.pv=p):Gb f Y=!(Zp p,#[Y1.vs,Y1.mu.map λ_=>J]):=by unfold Gb;grind
end
class HK where
 hk:List aV->Int
noncomputable def okP:PV->Option aV
 |.non=>!J
 |ZI i=>!(!(.inl i))
 |ZH x=>!(!(.inr x))
 |_=>J
def pX:List PV->Option (List aV)
 |[]=>![]
 |p::ps=>(okP p).bind λk=>(pX ps).map (k::·)
def R_(h:okP p=!k)(r:d4 K Z p v):v=nR k:=by
 cases p with
 |non=>cases h;show jL r
 |int i=>cases h;show cF r
 |str x=>cases h;show dN r
 |_=>cases h
theorem ug:∀{ps:List PV}{vs:List V}{ks:List aV},pX ps=!ks->aK K Z ps vs->vs=ks.map nR
 |[],vs,ks=>λh r=>by cases h;show r.inv0
 |p::ps,vs,ks=>λh r=>by let(v,D,rfl,h1,h2):=r.inv;let(k,z,i):=et h;let(t,q,j):=eW i;cases j;rw[R_ z h1,ug q h2];rfl
abbrev uk:=List (List aV×PV)
def j0:uk->List aV->Option PV
 |[],_=>J
 |kv::r,k=>if kv.1=k then !kv.2 else j0 r k
def SM{xs:XD}:jT (x::xs) k=if x.1=k then !x.2.2 else jT xs k:=by
 unfold jT;by_cases e:x.1=k
 . grind
 . grind
theorem yC:∀{xs:XD}{ps:List PV},aK K Z ps (xs.map (·.2.2))->(∀p,j0 ((xs.map (·.1)).zip ps) k=!p->∃v,jT xs k=!v/\d4 K Z p v)/\(j0 ((xs.map (·.1)).zip ps) k=J->jT xs k=J)
 |[],ps,h=>#[λp e=>(by cases e),λ_=>O]
 |x::xs,[],h=>by have:=h.inv0;grind
 |x::xs,p::ps,h=>by
  let(v,r,e,h1,h2):=h.inv;injection e with i j;subst i j;let z:=yC (k:=k) h2;rw[SM];show (∀q,(if x.1=k then !p else j0 ((xs.map (·.1)).zip ps) k)=!q->_)/\((if x.1=k then !p else j0 ((xs.map (·.1)).zip ps) k)=J->_);by_cases e:x.1=k
  . grind
  . grind
def SR.setX(s:SR K H0 Z0 U H Y ((v,Zp p)::(kb,Zp (ZB kp))::(.ref a,Zs (.dx hk ks ps))::pd))(ek:pX kp=!k):
 ∃b xs,kb=.ref b/\H a=!(.ext (wA hk a xs))/\(∀x∈xs,cW K H x.2.1 (x.1.map nR))/\cW K H b (k.map nR)/\-xs=-ks/\
  (j0 (ks.zip ps) k=J->jT xs k=J/\SR K H0 Z0 U (dW H a (.ext (wA hk a (xs++[(k,b,v)])))) Y ((.ref a,Zs (.dx hk (ks++[k]) (ps++[p])))::(v,Zp p)::pd))/\
  (∀q,j0 (ks.zip ps) k=!q->∃u,jT xs k=!u/\SR K H0 Z0 U H Y ((u,Zp q)::(.ref a,Zs (.dx hk ks ps))::pd)):=by
 let(el,Z,hg,z,r,so):=s.sh;let j:=so.perm dD.symm;let(x,e1,rk):=j.1 _ ed;cases e1;let(b,ws,rfl,hb,Q):=rk;let ew:=ug ek Q;subst ew;let F:=j.sub (gI _ _);let D:=F.perm dD.symm;let(_,eb,(xs,hu,W,Sa,hr),_):=D.1 _ ed;cases eb;subst W;let hv:=yC (k:=k) hr;show#[b,xs,O,hu,λx i=>cW.same z.zh (Sa x i),cW.same z.zh hb,by rw[eI],λhn=>#[hv.2 hn,?_],λq hq=>?_]
 . let N:=(D.consS r).perm (List.Perm.swap _ _ _);let(z',s'):=N.write (q:=.dx hk (xs.map (·.1)++[k]) (ps++[p])) z #[xs++[(k,b,v)],bZ,by rw[fx];rfl,(λx i=>(by
    obtain i|i:=fw.mp i
    . grind
    . rw[gT.mp i];show hb)),by rw[fx];show hr.append (aK.cons r .nil)]
   show .mk el hg z' (s'.perm (dD.symm.cons _).symm)
 . let(u,e,ru):=hv.1 q hq;show#[u,e,.mk el hg z (F.consS ru)]
def SR.takeX(s:SR K H0 Z0 U H Y pd)(e:Y.vs[i]?=!(!(Zs (.dx hk ks ps)))):
 ∃a xs,U[i]?=!(!(.ref a))/\H a=!(.ext (wA hk a xs))/\SR K H0 Z0 U H (Y.set i J) ((.ref a,Zs (.dx hk ks ps))::pd):=by
 let(v,e1,s1):=s.take e;let(_,Z,_,z,so):=s1.top;let(a,ea,(xs,hu,_),_):=so.1 _ ed;have Sb:v=.ref a:=gt ea;subst Sb;show#[a,xs,e1,hu,s1]
def SR.seal(N:SR K H0 Z0 U H Y ((v,Zs p)::pd)):SR K H0 Z0 U H #[Y.vs,Y.mu++[!p]] ((v,Zp (ZA (-Y.mu)))::pd):=by
 let(F,Z,W,z,j):=N.top;let(a,ea,ra,za,n_):=j.1 _ ed;let i:=gt ea;subst i;have D:iu Z #[Z.z,Z.g++[a]]:=#[eY_.refl _,oT _ _];let q:=j.step D λe he b Q=>#[O,(jn j he Q).1];show .mk (Z:=#[Z.z,Z.g++[a]]) F ∅ #[z.zh,z.h0,z.z0.trans D,z.new] (b_.consS ?_ ?_)
 . show q.perm ?_;have ec:cel (Z.g++[a]) (Y.mu++[!p])=cel Z.g Y.mu++[(!(.ref a),!(Zs p))]:=by unfold cel;rw[fx,fx,lm ∅];rfl
   show List.Perm (cel (Z.g++[a]) (Y.mu++[!p])++_) _;rw[ec,fm];show gW
 . show#[a,O,by show (Z.g++[a])[-Y.mu]?=!a;rw[W,hW (eK _)];simp]
def Ev.set_self(e:Y.vs[i]?=!l):Y.set i l=Y:=by show Ev.mk (Y.vs.set i l) Y.mu=Y;let(hi,j):=fS.mp e;rw[<-j,List.set_getElem_self]
section
variable {X:Cx}[HK]
def Vt:EF:=λY=>!(Zs (.dx HK.hk [] []),Y)
def Sc(i:HK.hk=CT X.prog X.w):PE X (.Dict [] [] pos) (tP X.K Vt):=PE.imp W4 λU H Q q=>by let(H0,Z0,Y,pd,l,Y',s,f,k):=q;cases f;show λp j=>k _ _ (s.newO j λZ _ _=>#[[],by rw[bZ,i];rfl,O,(λx i=>(by cases i)),aK.nil])
open Classical in
def BR(i:Nat)(fk:EF):EF:=λY=>match Y.vs[i]? with
 |some (!(Zs (.dx _ _ _)))=>(fk Y).bind λy=>match y.1.pv,y.2.vs[i]? with
  |ZB kp,!(!(Zs (.dx hk ks ps)))=>(pX kp).bind λk=>if hk=HK.hk/\-ks<100000 then
   (match j0 (ks.zip ps) k with
   |some p=>!(Zp p,y.2)
   | none=>!(Zp (ZA (-y.2.mu)),#[y.2.vs.set i (!(Zs (.dx hk (ks++[k]) (ps++[ZA (-y.2.mu)])))),y.2.mu++[!(R [])]]))
   else J
  |_,_=>J
 |_=>J
def Se(hx:HK.hk=CT X.prog X.w)(h:PE X (.Call (.Attribute o "setdefault" apos) [e1,e2] [] cpos) (λU H Q=>uH i U H λx H1=>(∃a hk xs,x=.ref a/\H1 a=!(.ext (wA hk a xs)))/\jR X.K (aj fk (aj (cu ao) ao)) U H1 λvs H2=>Uw X.prog X.w X.K x vs H2 Q)):
 PE X (.Call (.Attribute o "setdefault" apos) [e1,e2] [] cpos) (tP X.K (BR i fk)):=PE.imp h λU H Q q=>by
 let(H0,Z0,Y,pd,r,Y',s,h,k):=q;unfold BR at h;split at h
 . rename_i l_ P9 P_ e0;let(y,h1,h2):=et h;let(a,xs,W,hu,_):=s.takeX e0;show#[.ref a,W,#[a,l_,xs,O,hu],H0,Z0,Y,pd,[y.1,Zs (R [])],y.2,s,?_,λvs H2 e2 s2=>?_]
   . unfold aj ao cu;simp[h1]
   . let(v1,F,rfl):=n5 e2;let Sf:=s2;split at h2
     . rename_i kp hk ks ps e3 e4;let(N,ek,D):=et h2;split at D
       . rename_i hc;let(yi,hc2):=hc;subst yi;let s3:=Sf.freeze;rw[e3]at s3;cases hv:j0 (ks.zip ps) N with
         |some p=>
          rw[hv]at D;cases D;let(a',Si,j,tj,s4):=s3.swap.freeze.takeX e4;rw[W]at j;cases j;let s5:=s4.perm (ky (l₁:=[(F,Lc.sh (R [])),(v1,Zp (ZB kp))]) (l₂:=[(.ref a,Zs (.dx HK.hk ks ps))]) |>.append_right pd);let(b,z,rfl,g1,g2,g3,g4,_,g6):=s5.setX ek;let(u,eu,s6):=g6 p hv;show#[a,b,z,N,F,O,O,by rw[g1];unfold dX;rw[hx],g2,g3,by rw[g4,sizeLine_eq];lia,?_];rw[eu];let s7:=s6.swap.put W;rw[Ev.set_set,Ev.set_self e4]at s7;show k _ _ s7
         |none=>
          rw[hv]at D;cases D;let Sj:=s3.swap.seal;let(a',Si,j,tj,s4):=Sj.takeX e4;rw[W]at j;cases j;let s5:=s4.perm (ky (l₁:=[(F,Lc.sh (ZA (-y.2.mu))),(v1,Zp (ZB kp))]) (l₂:=[(.ref a,Zs (.dx HK.hk ks ps))]) |>.append_right pd);let(b,z,rfl,g1,g2,g3,g4,g5,_):=s5.setX ek;let(eu,s6):=g5 hv;show#[a,b,z,N,F,O,O,by rw[g1];unfold dX;rw[hx],g2,g3,by rw[g4,sizeLine_eq];lia,?_];rw[eu];let s7:=s6.put W;rw[Ev.set_set]at s7;have e9:(.ext (wA (CT X.prog X.w) a (z++[(N,b,F)])):HO)=dX X.prog X.w a (z++[(N,b,F)]):=O;rw[<-e9,<-hx];show k _ _ s7
       . cases D
     . cases h2
 . cases h
open Classical in
def yD(fo fk:EF):EF:=λY=>(fo Y).bind λx=>match x.1.pv with
 |.dx hk ks ps=>(fk x.2).bind λy=>match y.1.pv with
  |ZB kp=>(pX kp).bind λk=>if hk=HK.hk then !(match j0 (ks.zip ps) k with |some p=>Zp p |none=>Zs (R []),y.2) else J
  |_=>J
 |_=>J
def Zi(hx:HK.hk=CT X.prog X.w)(h:PE X (.Call (.Attribute o "get" apos) [e1,e2] [] cpos) (λU H Q=>tP X.K fo U H λx H1=>(∃a hk xs,x=.ref a/\H1 a=!(.ext (wA hk a xs)))/\jR X.K (aj fk (aj (cu ao) ao)) U H1 λvs H2=>Y8 X.prog X.w X.K x vs H2 Q)):
 PE X (.Call (.Attribute o "get" apos) [e1,e2] [] cpos) (tP X.K (yD fo fk)):=PE.imp h λU H Q q=>by
 let(H0,Z0,Y,pd,r,Y',s,h,k):=q;let(x,h1,h2):=et h;show#[H0,Z0,Y,pd,x.1,x.2,s,h1,λv H1 s1=>?_];split at h2
 . rename_i hk ks ps e0;let(y,h3,h4):=et h2;let s2:=s1.freeze;rw[e0]at s2;let(el,Z,hg,z,rd,so):=s2.sh;let(a,xs,rfl,g1,g2,g3,g4):=rd;show#[#[a,hk,xs,O,z.zh _ _ g1],H0,Z,x.2,pd,[y.1,Zs (R [])],y.2,#[el,Z,hg,#[z.zh,z.h0,iu.refl Z,λb o e=>Zl e],so],?_,λvs H2 e2 s3=>?_]
   . unfold aj ao cu;simp[h3]
   . let(v1,v2,rfl):=n5 e2;let Sk:=s3;split at h4
     . rename_i kp e3;let(W,ek,h5):=et h4;split at h5
       . rename_i hc;subst hc;cases h5;let s4:=Sk.freeze;rw[e3]at s4;let(D,Z2,j,i,rk,F):=s4.sh;let(b,ws,rfl,hb,nK):=rk;let ew:=ug ek nK;subst ew;subst g2;let hv:=yC (k:=W) g4;show#[a,b,xs,W,v2,O,O,?_,λx hx=>cW.same i.zh (cW.same i.z0.1 (g3 x hx)),cW.same i.zh hb,?_]
         . rw[i.zh _ _ (i.z0.1 _ _ g1),hx];rfl
         have zz:jQ H0 Z0 Z2 H2:=#[i.zh,i.h0,z.z0.trans i.z0,λb o e=>by
          obtain q|q:=i.new b o e
          . show z.new b o q
          . show YY q]
         cases N:j0 ((xs.map (·.1)).zip ps) W with
         |some p=>
          let(u,eu,ru):=hv.1 p N;rw[eu];rw[N]at k;show k _ _ (.mk D j zz ((F.perm dD.symm).sub (gI _ _) |>.consS (ru.mono i.z0)))
         |none=>
          rw[hv.2 N];rw[N]at k;show k _ _ (.mk D j zz (F.perm dD.symm))
       . cases h5
     . cases h4
 . cases h2
noncomputable def meltL:Mu->List PV->Option (List PV×Mu)
 |mu,[]=>!([],mu)
 |mu,ZA n::ps=>match mu[n]? with
  |some (!q)=>(meltL (mu.set n J) ps).map λr=>(q::r.1,r.2)
  |_=>J
 |_,_=>J
theorem b_.meltL:∀{ps qs:List PV}{mu i:Mu}{vs:List V}{Z:ZG},PL.meltL mu ps=!(qs,i)->aK K Z ps vs->-mu=-Z.g->jQ H0 Z0 Z H->b_ K H0 Z H (cel Z.g mu++ZN)->
 ∃Z',iu Z Z'/\Z'.g=Z.g/\jQ H0 Z0 Z' H/\b_ K H0 Z' H (cel Z'.g i++ZN)/\aK K Z' qs vs/\-i=-mu
 |[],qs,mu,i,vs,Z=>λh r hg z W=>by cases h;show#[Z,iu.refl Z,O,z,W,r,O]
 |p::ps,qs,mu,i,vs,Z=>λh r hg z W=>by
  cases p with
  |ptr n=>
   unfold PL.meltL at h;split at h
   . rename_i q hm;let(t,h1,h2):=eW h;cases h2;let(v,vr,rfl,r1,r2):=r.inv;let(a,rfl,ha):=r1;let(C,p1,p2):=Ai ha hm;let Sm:=W.perm (p1.append_right _).symm;let(Q,lz,eg,z1,j):=Sm.freeze z;let(x,ex,rx):=j.1 _ ed;cases ex;let D:=j.sub (gI _ _);have Sn:b_ K H0 Q H ((!(.ref a),J)::(C++ZN)):=by
      show#[λe he=>?_,?_]
      . obtain rfl|he:=d5.mp he
        . trivial
        . show D.1 e he
      .  show D.2
     have N:b_ K H0 Q H (cel Q.g (mu.set n J)++ZN):=by rw[eg];show Sn.perm ((p2 J).append_right _)
     let(Z2,F,So,z2,Sr,r7,l7):=b_.meltL h1 (r2.mono lz) ∅ z1 N;show#[Z2,lz.trans F,So.trans eg,z2,Sr,aK.cons (rx.mono F) r7,by simpa using l7]
   . cases h
  |_=>cases h
def M4(f:EF):EF:=λY=>(f Y).bind λx=>match x.1.pv with
 |.dx hk ks ps=>(meltL x.2.mu ps).map λr=>(Zp (.dx hk ks r.1),#[x.2.vs,r.2])
 |_=>J
def Sz(h:PE X e (tP X.K f)):PE X e (tP X.K (M4 f)):=PE.imp h λU H Q q=>by
 let(H0,Z0,Y,pd,l,Y',s,f,k):=q;let(x,h1,h2):=et f;show#[H0,Z0,Y,pd,x.1,x.2,s,h1,λv H1 s1=>?_];split at h2
 . rename_i hk ks ps N;let(r,h3,h4):=eW h2;cases h4;let j:=s1.freeze;rw[N]at j;let(F,Z,hg,z,rd,so):=j.sh;let(a,xs,rfl,g1,g2,g3,g4):=rd;let(Z2,D,eg,W,i,r2,l2):=b_.meltL h3 g4 hg z so;show k _ H1 (.mk F ∅ W (b_.consS i ?_));show#[a,xs,O,D.1 _ _ g1,g2,λx hx=>cW.same D.1 (g3 x hx),r2]
 . cases h2
end
section
variable {X:Cx}
def qw(i:Nat){pos:Pos}(D:X.N[i]?=!x:=by rfl)(q:Tv X.env.scope x:=by first |show Or.inl O |show Or.inr (Or.inl O) |show Or.inr (Or.inr O))(z:(x==("__debug__" : Str))=M:=by decide)(j:(x==("__classdict__" : Str))=M:=by decide):PE X (.Name x pos) (tP X.K (aa i)):=qv (pv i D q z j)
def aQ{j}:PE X (.Constant (.int i) j pos) (tP X.K (bh i)):=qc F9 gF
def bT{j}:PE X (.Constant (.str i) j pos) (tP X.K (d_ i)):=qc Gc pq
def Jg{j}:PE X (.Constant .none j pos) (tP X.K (eC .non)):=qc F_ Bq
def qI{j}(q:PE X a (tP X.K fa)):PE X (.Subscript a (.Constant (.int i) j p) pos) (tP X.K (aJ fa (bh i))):=fP q aQ (λ_ _=>O)
def qL{p pos:Pos}(b:X.mg "len"=J)(h:PE X e (tP X.K f))(j:Gl X "len":=by rfl)(i:starEach [e] X.env=(M,eval e X.env)::starEach [] X.env:=by rfl):PE X (.Call (.Name "len" p) [e] [] pos) (tP X.K (eB cz (aj f ao))):=wJ uJ Vf (iQ uJ j b pb (ak h aq i) (he:=i))
def cU(i:Nat){pos pos':Pos}(q:X.N.Nodup)(he:PE X e (tP X.K f))(hi:X.N[i]?=!x:=by rfl)(z:L2.Loc X.env.scope x:=by show Or.inl O)(hs:swapsWith e (!(.Name x pos')) pos.line X.env=pure M:=by rfl)(j:X.fn x=G\/X.env.scope.names.lookup x=!.local:=by first |show Zl O |show YY O |assumption):
 PS X (.Assign [.Name x pos'] e pos) (iw X.K (aL i f)):=wI q hi z he hs j
def cQ(i:Nat){pos:Pos}(z:X.N.Nodup)(hi:X.N[i]?=!x:=by rfl)(q:L2.Loc X.env.scope x:=by show Or.inl O)(j:X.fn x=G\/X.env.scope.names.lookup x=!.local:=by first |show Zl O |show YY O |assumption):PG X (.Name x pos) (J4 i):=PB z hi q j
def jx{z F:List Str}{ixs:List Nat}{sc:Scope}(S:Scope)(Q:X.env.scope=S:=by rfl)(q:sc.kind=.function:=by rfl)(j:∀y∈sc.names,y.2=.local->sc.names.lookup y.1=!.local:=by decide +kernel)(cel:∀y∈sc.names,y.2=.cell->sc.names.lookup y.1=!.cell:=by decide +kernel)
 (own:∀p∈sc.names,p.2=.free->S.names.lookup p.1=!.cell\/S.names.lookup p.1=!.free:=by decide +kernel) (frs:∀x∈F,sc.names.lookup x=!.free:=by decide +kernel) (D:ixs.map (λi=>X.N[i]?)=F.map some:=by rfl):jE X z F ixs sc:=Pt S Q q j cel own frs D
def yE{apos cpos pos:Pos}(q:PE X o (uH i))(he:PE X e (tP X.K f))(j:starEach [e] X.env=(M,eval e X.env)::starEach [] X.env:=by rfl)(h1:attributeBase o "append" X.env (eval o X.env)=eval o X.env:=by rfl)
 (h2:((backTo cpos (starEach [e] X.env)).all (λx=>not x.1)&&(backToKw cpos (keywordEach [] X.env)).all (λx=>x.1.isSome)
   && decide (-([e]:List Expr)+-([]:List Keyword)+(if ([]:List Keyword).isEmpty then 0 else 1)<30))=G:=by rfl) (z:(apos.endLine==cpos.line)=G:=by rfl) (hs:swapsWith (.Call (.Attribute o "append" apos) [e] [] cpos) J pos.line X.env=pure M:=by rfl):
 PS X (.Expr (.Call (.Attribute o "append" apos) [e] [] cpos) pos) (iw X.K (jM i f)):=OV (qK (rR F.plainAttrs_list F.slot_list_append F.type_list_append oY q (ak he aq j) h1 h2 z j) hs)
def nM{apos cpos pos:Pos}(q:PE X o (uH i))(he:PE X e (tP X.K f))(j:starEach [e] X.env=(M,eval e X.env)::starEach [] X.env:=by rfl)(h1:attributeBase o "extend" X.env (eval o X.env)=eval o X.env:=by rfl)
 (h2:((backTo cpos (starEach [e] X.env)).all (λx=>not x.1)&&(backToKw cpos (keywordEach [] X.env)).all (λx=>x.1.isSome)
   && decide (-([e]:List Expr)+-([]:List Keyword)+(if ([]:List Keyword).isEmpty then 0 else 1)<30))=G:=by rfl) (z:(apos.endLine==cpos.line)=G:=by rfl) (hs:swapsWith (.Call (.Attribute o "extend" apos) [e] [] cpos) J pos.line X.env=pure M:=by rfl):
 PS X (.Expr (.Call (.Attribute o "extend" apos) [e] [] cpos) pos) (iw X.K (gb i f)):=OW (qK (rR F.plainAttrs_list F.slot_list_extend F.type_list_extend R5 q (ak he aq j) h1 h2 z j) hs)
end
inductive XR(α:Type) where
 |ok (a:α)
 |xc (C:Str) (Y:Ev)
section
variable {X:Cx}
theorem M5:∀{l:List Nat},aK K Z (l.map λi=>PV.int (i:Nat)) (l.map λi=>V.int (i:Nat))
 |[]=>by  rfl
 |x::l=>#[.int x,l.map λi=>V.int (i:Nat),O,by unfold d4;rfl,M5]
def SN(f:EF):EF:=λY=>(f Y).bind λx=>match x.1.pv with
 |ZI j=>if 0<=j/\j<=100000 then !(Zs (R ((List.range j.toNat).map λi=>PV.int (i:Nat))),x.2) else J
 |_=>J
def SA(h:PE X (.Call (.Name "list" p) [.Call (.Name "range" p') [e] [] pos'] [] pos) (zN (λxs H Q=>∃p j,xs=[.ref p]/\H p=!(.rng 0 j)/\0<=j/\j<=100000/\∀l,H l=J->Q (.ref l) (dW H l (.lst ((List.range j.toNat).map λi=>.int (i:Nat))))) (J5 (zN (λxs H Q=>∃j,xs=[.int j]/\∀r,H r=J->Q (.ref r) (dW H r (.rng 0 j))) (jR X.K (aj f ao))) KJ))):PE X (.Call (.Name "list" p) [.Call (.Name "range" p') [e] [] pos'] [] pos) (tP X.K (SN f)):=PE.imp h λU H Q q=>by
 let(H0,Z0,Y,pd,l,Y',s,h,k):=q;let(x,h1,h2):=et h;show#[H0,Z0,Y,pd,[x.1],x.2,s,?_,λvs H1 e1 s1=>?_]
 . unfold aj ao;rw[h1];rfl
 . let(v,rfl):=yZ e1;let F:=SR.freeze s1;cases e:x.1.pv with
   |int j=>
    rw[e]at h2 F;have h2:(if 0<=j/\j<=100000 then !(Lc.own (R ((List.range j.toNat).map λi=>PV.int (i:Nat))),x.2) else J)=!(l,Y'):=h2;split at h2
    . rename_i N;cases h2;let(el,Z,hg,z,r,so):=F.sh;subst r;show#[j,O,λb hb=>?_];let(z',lz,D):=so.newF z hb;show#[b,j,O,bZ,N.1,N.2,λc hc=>k _ _ ?_];let(z2,s3):=D.new (p:=R ((List.range j.toNat).map λi=>PV.int (i:Nat))) z' hc #[_,bZ,M5];show .mk (Z:=Z.put b (.rng 0 j)) el hg z2 s3
    . cases h2
   |_=>rw[e]at h2;cases h2
end
noncomputable def SQ:PV->Option aV
 |.non=>!J
 |ZI i=>!(!(.inl i))
 |ZH x=>!(!(.inr x))
 |_=>J
def BV:List PV->Option (List aV)
 |[]=>![]
 |p::ps=>(SQ p).bind λk=>(BV ps).map (k::·)
def BW:List PV->Option (List (List aV))
 |[]=>![]
 |ZB qs::ps=>(BV qs).bind λk=>(BW ps).map (k::·)
 |_::_=>J
def wU:aV->PV
 |none=>.non
 |some (.inl i)=>ZI i
 |some (.inr x)=>ZH x
abbrev Jh(a b:List aV):Prop:=a.map eL<b.map eL
def uY(k:List aV):List (List aV)->List (List aV)
 |[]=>[k]
 |l::r=>if Jh k l then k::l::r else if k=l then l::r else l::uY k r
def jV:List (List aV)->List (List aV)
 |[]=>[]
 |k::r=>uY k (jV r)
def SE(h1:¬ Jh a b)(h2:¬ a=b):Jh b a:=
 Classical.byContradiction λz=>h2 (Fg ∅)
theorem DP:∀{l:List (List aV)},y∈uY k l ↔ y=k\/y∈l
 |[]=>by unfold uY;simp
 |l::r=>by
  unfold uY;split
  . rw[d5]
  . split
    . rename_i e;subst e;rw[d5];show#[YY,λq=>q.elim Zl id]
    . rw[d5,DP,d5];show#[λq=>q.elim (λq=>YY (Zl q)) λq=>q.elim Zl λq=>YY (YY q),λq=>q.elim (λq=>YY (Zl q)) λq=>q.elim Zl λq=>YY (YY q)]
theorem pC:∀{l:List (List aV)},y∈jV l ↔ y∈l
 |[]=>Iff.rfl
 |k::r=>by unfold jV;rw[DP,pC,d5]
theorem QR:∀{l:List (List aV)},l.Pairwise Jh->(uY k l).Pairwise Jh
 |[]=>λ_=>by  show List.pairwise_singleton _ _
 |l::r=>λh=>by
  let j:=List.pairwise_cons.mp h;unfold uY;split
  . rename_i q;show List.pairwise_cons.mpr #[λy i=>by
     obtain rfl|i:=d5.mp i
     . show q
     . show List.lt_trans q (j.1 y i),h]
  . rename_i q;split
    . show h
    . rename_i z;show List.pairwise_cons.mpr #[λy i=>?_,QR j.2];obtain rfl|i:=DP.mp i
      . show SE q z
      . show j.1 y i
theorem yF:∀{l:List (List aV)},(jV l).Pairwise Jh
 |[]=>.nil
 |k::r=>QR yF
theorem SX:∀{a b:List (List aV)},a.Pairwise Jh->b.Pairwise Jh->(∀y,y∈a ↔ y∈b)->a=b
 |[],[]=>λ_ _ _=>rfl
 |[],y::b=>λ_ _ m=>by cases (m y).mpr ed
 |x::a,[]=>λ_ _ m=>by cases (m x).mp ed
 |x::a,y::b=>λh1 h2 m=>by
  let c1:=List.pairwise_cons.mp h1;let q:=List.pairwise_cons.mp h2;have e:x=y:=by
   obtain e|e:=d5.mp ((m x).mp ed)
   . show e
   . obtain j|j:=d5.mp ((m y).mpr ed)
     . show j.symm
     . show absurd (List.lt_trans (q.1 x e) (c1.1 y j)) ∅
  subst e;rw[SX c1.2 q.2 λz=>?_];constructor
  . intro i;obtain e|e:=d5.mp ((m z).mp (e_ _ i))
    . subst e;show absurd (c1.1 z i) ∅
    . show e
  . intro i;obtain e|e:=d5.mp ((m z).mpr (e_ _ i))
    . subst e;show absurd (q.1 z i) ∅
    . show e
def Vu:List (List aV)->Bool
 |[]=>G
 |k::r=>(k.map ph).head?==some 0&&(k::r).all λl=>l.map ph==k.map ph&&l.any λx=>ph x==1
def SG(h:Vu ks=G):∃sh,∀k∈ks,k.map ph=0::sh/\uN k:=by
 cases ks with
 |nil=>show#[[],λk hk=>by cases hk]
 |cons k r=>
  unfold Vu at h;rw[iX,List.all_eq_true]at h;let(h1,h2):=h;let e:=eq_of_beq h1;cases q:k.map ph with
  |nil=>rw[q]at e;cases e
  |cons x sh=>
   rw[q]at e;cases e;show#[sh,λl F=>?_];let z:=h2 l F;rw[iX,List.any_eq_true]at z;let(N,x,Q,D):=z;show#[by rw[<-q];show eq_of_beq N,?_];let j:=eq_of_beq D;obtain _|i|y:=x
   . cases j
   . cases j
   . show#[y,Q]
section
variable {X:Cx}
def Yb(h:SQ p=!k)(r:d4 K Z p v):v=nR k/\p=wU k:=by cases p<;>first |(cases h;unfold d4 at r;show#[r,O]) |cases h
theorem Ji:∀{ps:List PV}{vs:List V}{k:List aV},BV ps=!k->aK K Z ps vs->vs=k.map nR/\ps=k.map wU
 |[],vs,k=>λh r=>by cases h;show#[r,O]
 |p::ps,vs,k=>λh r=>by let(v,W,rfl,h1,h2):=r;let(x,Q,q):=et h;let(y,F,z):=eW q;cases z;let(j,N):=Yb Q h1;let(i,D):=Ji F h2;show#[by rw[j,i];rfl,by rw[N,D];rfl]
theorem Jj:∀{ps:List PV}{vs:List V}{ks:List (List aV)},BW ps=!ks->aK K Z ps vs->∃bs:BK,vs=bs.map (λp=>V.ref p.1)/\bs.map (·.2)=ks/\∀p∈bs,cW K Z.z p.1 (p.2.map nR)/\d4 K Z (ZB (p.2.map wU)) (.ref p.1)
 |[],vs,ks=>λh r=>by cases h;show#[[],r,O,λp i=>by cases i]
 |p::ps,vs,ks=>λh r=>by
  let(v,r',rfl,h1,h2):=r;cases p with
  |tup qs=>
   let(k,g1,F):=et h;let(y,g3,W):=eW F;cases W;let(bs,Q,e2,e3):=Jj g3 h2;let j:=h1;let(a,ws,rfl,q,q2):=h1;let(N,D):=Ji g1 q2;show#[(a,k)::bs,by rw[Q];rfl,by rw[fU,e2],λp i=>?_];obtain rfl|i:=d5.mp i
   . show#[by rw[<-N];show q,by rw[<-D];show j]
   . show e3 p i
  |_=>cases h
theorem Jk:∀{cs:BK},(∀p∈cs,d4 K Z (ZB (p.2.map wU)) (.ref p.1))->aK K Z ((cs.map (·.2)).map λk=>PV.tup (k.map wU)) (cs.map λp=>V.ref p.1)
 |[]=>λ_=>.nil
 |p::cs=>λh=>aK.cons (h p ed) (Jk λq i=>h q (e_ _ i))
def sX(f:EF):EF:=λY=>(f Y).bind λx=>match x.1.pv with
 |R ps=>(BW ps).bind λks=>if -ks<9000/\Vu ks=G then !(Zs (R ((jV ks).map λk=>ZB (k.map wU))),x.2) else J
 |_=>J
def Gd(h:PE X (.Call (.Name "sorted" p) [.Call (.Name "set" p') [e] [] pos'] [] pos) (zN (U7_ X) (J5 (zN (Za X) (jR X.K (aj f ao))) KJ))):PE X (.Call (.Name "sorted" p) [.Call (.Name "set" p') [e] [] pos'] [] pos) (tP X.K (sX f)):=PE.imp h λU H Q q=>by
 let(H0,Z0,Y,pd,l,Y',s,h,k):=q;let(x,h1,h2):=et h;show#[H0,Z0,Y,pd,[x.1],x.2,s,?_,λvs H1 e1 s1=>?_]
 . unfold aj ao;rw[h1];rfl
 . let(v,rfl):=yZ e1;let s2:=SR.freeze s1;cases e:x.1.pv with
   |lst ps=>
    rw[e]at h2 s2;let(ks,g1,F):=et h2;split at F
    . rename_i D;let(D,ho):=D;cases F;let(el,Z,hg,z,r,so):=s2.sh;let(a,us,rfl,r1,r2):=r;let(bs,eu,ek,N):=Jj g1 r2;let(sh,hs):=SG ho;subst eu;have lb:-bs<9000:=by rw[<-ek,eI]at D;show D
      have j:∀p∈bs,p.2.map ph=0::sh/\uN p.2:=λp i=>hs _ ∅;show#[a,bs,O,bY.same z.zh r1,λp i=>#[cW.same z.zh (N p i).1,(j p i).2],lb,λb nX=>?_];let(z',lz,oe):=so.newF z nX;show#[b,bs,sh,O,bZ,λp i=>#[cW.same z'.zh (cW.same lz.1 (N p i).1),(j p i).1],lb,λc cs hc m1 m2 pw=>k _ _ ?_];have es:cs.map (·.2)=jV ks:=by
       show SX ∅ yF λy=>?_;rw[pC,<-ek];constructor
       . intro W;let(p,i,rfl):=fy.mp W;show List.mem_map_of_mem (m1 p i)
       . intro W;let(p,i,rfl):=fy.mp W;let(q,hq,e):=m2 p i;show fy.mpr #[q,hq,e]
      rw[<-es];let(z2,s3):=oe.new (p:=R ((cs.map (·.2)).map λk=>PV.tup (k.map wU))) z' hc #[_,bZ,Jk λp i=>(N p (m1 p i)).2.mono lz];show .mk (Z:=Z.put b (.ext (Fj X.prog X.w b bs))) el hg z2 s3
    . cases F
   |_=>rw[e]at h2;cases h2
def SH(P:Program)(w:World)(K:FG):R2:=λx y H Q=>∃a b xs k v,x=.ref a/\y=.ref b/\H a=!(dX P w a xs)/\(∀x∈xs,cW K H x.2.1 (x.1.map nR))/\cW K H b (k.map nR)/\jT xs k=!v/\Q v H
def SI(hu:X.A.units+1<cLine):zP X (SH X.prog X.w X.K):=by intro value D a_ s U H x y v u Q I rx W h hs;let(a,b,xs,k,z,rfl,rfl,hH,i,hb,hl,q):=h;cases rx;cases (W);let(z',m,ys,xr,N):=I.dx hH i;let(p',j,rp):=(xr.at).1 z hl;show tail_any N.typeIs F.slot_dict_getitem.lookup (wpAny_getItem_heap (tupleKind_room_in1 hu) (ux I hb) N j #[z,H,I.tok _,rp,q]) hs
variable [HK]
open Classical in
def S5(fa fb:EF):EF:=λY=>(fa Y).bind λx=>(fb x.2).bind λy=>match x.1.pv with
 |.dx hk ks ps=>match y.1.pv with
  |ZB kp=>(pX kp).bind λk=>if hk=HK.hk then (j0 (ks.zip ps) k).map λp=>(Zp p,y.2) else J
  |_=>J
 |_=>J
def SK(N:HK.hk=CT X.prog X.w)(hu:X.A.units+1<cLine)(ha:PE X a (tP X.K fa))(hb:PE X b (tP X.K fb))(hm:Bh b):PE X (.Subscript a b pos) (tP X.K (S5 fa fb)):=PE.imp (RX (SI hu) ha hb hm) λU H Q q=>by
 let(H0,Z0,Y,pd,l,Y',s,f,k):=q;let(x,h1,h2):=et f;let(y,h3,i):=et h2;show#[H0,Z0,Y,pd,x.1,x.2,s,h1,λv H1 s1=>#[H0,Z0,x.2,_,y.1,y.2,s1.freeze,h3,λw H2 s2=>?_]];let(el,Z,hg,z,rl,so):=SR.repl (vs:=[w,v]) (ls:=[y.1,Zp x.1.pv]) s2 O;let(_,_,D,r1,j):=rl;cases D;let(_,_,D,j,_):=j;cases D;split at i
 . rename_i hk ks ps e0;split at i
   . rename_i kp e3;let(kk,ek,W):=et i;split at W
     . rename_i hc;subst hc;let(p,hp,h6):=eW W;cases h6;rw[e3]at r1;rw[e0]at j;let(b,ws,rfl,nX,F):=r1;let(a,xs,rfl,g1,g2,g3,g4):=j;let ew:=ug ek F;subst ew;subst g2;let(u,eu,ru):=(yC g4).1 p hp;show#[a,b,xs,kk,u,O,O,?_,λx N=>cW.same z.zh (g3 x N),cW.same z.zh nX,eu,k _ _ (.mk el hg z (so.consS ru))];rw[z.zh _ _ g1,N];rfl
     . cases W
   . cases i
 . cases i
end
end PL
namespace Law
open PL.PV renaming lst→R,int→ZI,str→ZH,tup→ZB,ptr→ZA
open PL.Lc renaming own→Zs,sh→Zp
open PySem PySem.Spec PyProof.Rows L2 PL
local macro_rules | `(tactic| walk_at "sc")=>`(tactic| exact⟨rfl,rfl,rfl,by decide +kernel,rfl,by decide +kernel,by decide +kernel⟩)
def mI{l:List Str}(i:Nat)(h:l[i]?=!a):a∈l:=g7 h
noncomputable def top (i:Nat):Stmt:=PySem.Challenge.pw_hushwise_k34_rules_as_a_row_is_done.main.body.getD i (.Pass #[0,0,0,0])
abbrev wj:Stmt:=top 1
abbrev oR:Stmt:=top 2
abbrev yG:Stmt:=top 3
abbrev mG:Stmt:=top 4
abbrev uh:Stmt:=top 5
abbrev ul:Stmt:=top 6
abbrev yH:Stmt:=top 7
abbrev BX:Stmt:=top 8
abbrev um:Stmt:=top 9
abbrev yI:Stmt:=top 10
abbrev pY:Stmt:=top 14
abbrev rE:Stmt:=top 15
abbrev pZ:Stmt:=top 16
abbrev jF:Stmt:=top 17
abbrev lV:Stmt:=top 18
abbrev rF:Stmt:=top 19
abbrev qd:Stmt:=top 20
abbrev oA:Stmt:=top 21
abbrev qe:Stmt:=top 22
abbrev oE:Stmt:=top 23
abbrev rG:Stmt:=top 25
abbrev mH:Stmt:=top 26
abbrev nO:Stmt:=top 27
abbrev uo:Stmt:=top 28
abbrev sE:Stmt:=top 29
abbrev uZ:Stmt:=top 30
abbrev il:Stmt:=top 31
abbrev sG:Stmt:=top 32
abbrev uq:Stmt:=top 33
abbrev uu:Stmt:=top 34
abbrev ur:Stmt:=top 35
abbrev vP:Stmt:=top 36
abbrev j8:Stmt:=eS (top 12) 0
abbrev qg:Stmt:=eS (top 12) 1
abbrev rH:Stmt:=eS (top 12) 3
abbrev wk:Stmt:=eS (top 12) 4
abbrev u5:Stmt:=eS (top 12) 5
abbrev tU:Stmt:=eS (top 12) 6
abbrev u6:Stmt:=eS (top 12) 7
abbrev tV:Stmt:=eS (top 12) 8
abbrev mJ:Stmt:=eS (top 12) 9
abbrev j9:Stmt:=eS (top 12) 10
def M6:bz ["row"] ["row"] (aG wj):=by walk_at "sc"
def Cu:bz ["row"] ["row"] (aG oR):=by walk_at "sc"
def Vv:bz ["row"] ["row"] (aG yG):=by walk_at "sc"
def JN:bz ["rows"] ["rows"] (aG mG):=by walk_at "sc"
def sH:bz ["rows","told","row","block"] ["rows"] (aG uh):=by walk_at "sc"
def lH:bz ["where","above","block","rows","start","told","row","number","place","inner"] ["where","above","block","rows","start"] (aG ul):=by walk_at "sc"
def lJ:bz ["program","told","name","rank","params","rows"] ["program"] (aG yH):=by walk_at "sc"
def Yc:bz ["expression"] ["expression"] (aG BX):=by walk_at "sc"
def O3:bz ["expression"] ["expression"] (aG um):=by walk_at "sc"
def Vw:bz ["row"] ["row"] (aG yI):=by walk_at "sc"
def oF:bz ["plan","k","row","told","numbers"] ["plan","k"] (aG pY):=by walk_at "sc"
def yJ:bz ["program","plan","told","k"] ["program"] (aG rE):=by walk_at "sc"
def JP:bz ["expression"] ["expression"] (aG pZ):=by walk_at "sc"
def oU:bz ["plan","k","ahead","told"] ["plan","k"] (aG jF):=by walk_at "sc"
def kh:bz ["plan","k","outer","told","row"] ["plan","k"] (aG lV):=by walk_at "sc"
def qi:bz ["plan","k","numbers","told"] ["plan","k"] (aG rF):=by walk_at "sc"
def jD:bz ["plan","k","row","told","param","expression"] ["plan","k"] (aG qd):=by walk_at "sc"
def rJ:bz ["k","name","some","told","expression"] ["k","name","some"] (aG oA):=by walk_at "sc"
def zc:bz ["plan","k","row"] ["plan","k"] (aG qe):=by walk_at "sc"
def rK:bz ["plan","k","home","numbers"] ["plan","k"] (aG oE):=by walk_at "sc"
def Ge:bz ["_law_script","_law_k"] ["_law_script","_law_k"] (aG rG):=by walk_at "sc"
def gq:bz ["_law_cell","_law_count","_law_letters","_law_names_here","_law_text","_law_k","_law_size","_law_at","_law_signs"] ["_law_cell","_law_count"] (aG mH):=by walk_at "sc"
def cR:bz ["_law_cell","_law_own","_law_lists","_law_made","_law_k","_law_step","_law_other","_law_sign"] ["_law_cell","_law_own","_law_lists"] (aG nO):=by walk_at "sc"
def iy:bz ["_law_cell","_law_own","_law_lists","_law_heads_here","_law_whos","_law_one","_law_other","_law_kind","_law_goal","_law_name","_law_params","_law_some"] ["_law_cell","_law_own","_law_lists","_law_heads_here","_law_whos"] (aG uo):=by walk_at "sc"
def mK:bz ["_law_cells","_law_own","_law_lists","_law_heads_here","_law_whos","_law_body","_law_stack","_law_cell","_law_row_here"] ["_law_cells","_law_own","_law_lists","_law_heads_here","_law_whos"] (aG sE):=by walk_at "sc"
def oG:bz ["_law_cell","_law_names_here","_law_heads_here","_law_j","_law_size"] ["_law_cell","_law_names_here"] (aG uZ):=by walk_at "sc"
def cD:bz ["_law_script","_law_cell","_law_names_here","_law_ranks","_law_numbers","_law_lists","_law_heads_here","_law_boxes","_law_cells","_law_whos","_law_functions","_law_j","_law_head","_law_rows_here"] ["_law_script"] (aG il):=by walk_at "sc"
def M7:bz ["_law_expression_here"] ["_law_expression_here"] (aG sG):=by walk_at "sc"
def lK:bz ["_law_rows_here","_law_first","_law_told","_law_k","_law_row_here","_law_block"] ["_law_rows_here","_law_first","_law_told"] (aG uq):=by walk_at "sc"
def qr:bz ["_law_k","_law_name","_law_some","_law_due_here","_law_expression_here","_law_name_read"] ["_law_k","_law_name","_law_some"] (aG uu):=by walk_at "sc"
def sI:bz ["_law_program_here","_law_k","_law_row_here","_law_here","_law_due_here","_law_name","_law_rank","_law_params","_law_rows_here","_law_param","_law_expression_here"] ["_law_program_here","_law_k","_law_row_here"] (aG ur):=by walk_at "sc"
def jG:bz ["_law_script","_law_program_here","_law_told","_law_k","_law_name","_law_rank","_law_params","_law_rows_here","_law_due_here","_law_row_here","_law_got"] ["_law_script"] (aG vP):=by walk_at "sc"
def dR:bz ["self","program","told","lists","number","one","heads","name","rank","params","rows"] ["self","program"] (aG j8):=by walk_at "sc"
def DQ:bz ["self"] ["self"] (aG qg):=by walk_at "sc"
def Gf:bz ["self","name"] ["self","name"] (aG rH):=by walk_at "sc"
def M8:bz ["self","k"] ["self","k"] (aG wk):=by walk_at "sc"
def JQ:bz ["self","k"] ["self","k"] (aG u5):=by walk_at "sc"
def Hf:bz ["self","k"] ["self","k"] (aG tU):=by walk_at "sc"
def JR:bz ["self","name"] ["self","name"] (aG u6):=by walk_at "sc"
def Hh:bz ["self","k","which"] ["self","k","which"] (aG tV):=by walk_at "sc"
def lM:bz ["self","k","beside","place"] ["self","k"] (aG mJ):=by walk_at "sc"
def Cv:bz ["self","numbers"] ["self","numbers"] (aG j9):=by walk_at "sc"
section
variable [HK]
abbrev AU:=aj (aJ (aa 0) (bh 3)) ao
abbrev kX:=aj (aJ (aa 0) (bh 2)) ao
abbrev AV:=cI (cu (aj (aJ (aa 0) (bh 2)) ao))
abbrev uS:=tT (au fB (aJ (aa 0) (bh 0)) (d_ "if")) aY
abbrev u3:=tT (au fB (aJ (aa 0) (bh 0)) (d_ "while")) aY
abbrev AW:=cI (cu (aj (aJ (aa 0) (bh 2)) (aj (aJ (aa 0) (bh 3)) ao)))
def gJ:GF:=cY 1 (aF (cC uS
 AW
 bR)
 (aF (cC u3
 AV
 bR)
 (cI (cu ao))))
abbrev qA:=aj (aJ (aa 0) (bh 1)) ao
abbrev SO:=cu (aj (aJ (aa 0) (bh 1)) ao)
abbrev AX:=cI (cu (aj (aJ (aa 0) (bh 1)) ao))
abbrev AY:=eB iN (aj (aJ (aa 0) (bh 3)) ao)
abbrev AZ:=tT (au fB (aJ (aa 0) (bh 0)) (d_ "call")) aY
def km:GF:=cY 1 (aF (cC (tO uS u3)
 AX
 bR)
 (aF (cC (tT (au fB (aJ (aa 0) (bh 0)) (d_ "put")) aY)
 AW
 bR)
 (aF (cC AZ
 (cI AY)
 bR)
 AV)))
mutual
def kE:Nat->GF
 |0=>λ_ _=>J
 | n+1=>cY 1 (aF (cC uS
  (cI (aX (aj (d_ "if") (aj (aJ (aa 0) (bh 1)) (aj (aN (cK n) kX) (aj (aN (cK n) AU) ao))))))
  bR)
  (aF (cC u3
  (cI (aX (aj (d_ "while") (aj (aJ (aa 0) (bh 1)) (aj (aN (cK n) kX) ao)))))
  bR)
  (aF (cC AZ
  (cI (aX (aj (d_ "call") (aj (aJ (aa 0) (bh 1)) (aj (aJ (aa 0) (bh 2)) (aj AY ao))))))
  bR)
  (gZ 0))))
def cK:Nat->GF
 |0=>λ_ _=>J
 |n+1=>cY 1 (cI (bU (dh (aa 0) bJ) 1 [] (aC 0) bB (aN (kE n) (aj (aa 0) ao))))
end
def iz:Nat->GF
 |0=>λ_ _=>J
 | n+1=>cY 4 (aF (aL 1 (cu ao))
  (aF (fX (dh (aa 0) bJ) (aC 2)
  (aF (jM 1 (aa 2))
  (fX (dh (aN gJ (aj (aa 2) ao)) bJ) (aC 3)
  (gb 1 (aN (iz n) (aj (aa 3) ao))))))
  (gZ 1)))
abbrev u4:=fC 2 (aW (aC 8) (aW (aC 9) fu))
abbrev A0:=aL 7 (vL (au bf (aa 4) (eB cz (aj (aa 5) ao))))
abbrev A8:=jM 5 (aX (aj (aa 0) (aj (aa 1) (aj (aa 2) (aj (aN (kE 40) (aj (aa 6) ao)) ao)))))
abbrev A9:=aj (aa 0) (aj (aa 7) (aj (aa 8) (aj (aa 9) (aj (vL (au bf (aa 4) (eB cz (aj (aa 5) ao)))) ao))))
def gP:Nat->GF
 |0=>λ_ _=>J
 | n+1=>cY 10 (aF (aL 5 (cu ao))
  (aF (fX (dh (aa 3) bJ) (aC 6)
  (aF A0
  (aF A8
  (fX (uU (aN gJ (aj (aa 6) ao))) u4
  (gb 5 (aN (gP n) A9))))))
  (gZ 5)))
abbrev A_:=aj (vL (eB cz (aj (aa 1) ao))) ao
abbrev u7:SF:=(gb 1 (aN (gP 40) (aj (aa 2) (aj (eC .non) (aj (bh 0) (aj (aa 5) A_))))))
abbrev SU:=aW (aC 4) (aW (aC 5) fu)
abbrev Bg:=fC 4 (aW (aC 2) (aW (aC 3) (aW (aC 4) (aW (aC 5) fu))))
def yK:GF:=cY 6 (aF (aL 1 (cu ao))
 (aF (fX (dh (aJ (aa 0) (bh 2)) bJ) Bg
 u7)
 (aF (gb 1 (aN (gP 40) (aj (d_ "main") (aj (eC .non) (aj (bh 0) (aj (aJ (aa 0) (bh 3)) A_))))))
 (gZ 1))))
abbrev Bi:=tT (au fB (aJ (aa 0) (bh 0)) (d_ "@")) aY
abbrev Bn:=tT (au fB (aJ (aa 0) (bh 0)) (d_ "num")) aY
abbrev Bz:=tT (au fB (aJ (aa 0) (bh 0)) (d_ "box")) aY
def ni:Nat->GF
 |0=>λ_ _=>J
 | n+1=>cY 1 (aF (cC Bn
  (cI (cu ao))
  bR)
  (aF (cC Bz
  (cI (cu (aj (aX (aj (d_ "box") qA)) ao)))
  bR)
  (aF (cC Bi
  (cI (au bf (cu (aj (aX (aj (d_ "list") qA)) ao)) (aN (ni n) kX)))
  bR)
  (cI (au bf (aN (ni n) qA) (aN (ni n) kX))))))
abbrev ma:=fC 2 (aW (aC 0) (aW (aC 1) fu))
def yL:GF:=cY 1 (cI (yw (bU (dh (aN (ni 40) (aj (aa 0) ao)) bJ) 2 [] ma bB (aa 1))))
abbrev BA:=au pB (aJ (aa 0) (bh 0)) (aX (aj (d_ "while") (aj (d_ "call") ao)))
def yM:GF:=cY 1 (cI (eB Aj (aj (bU (dh (aN (iz 40) (aj (cu (aj (aa 0) ao)) ao)) bJ) 1 [] (aC 0) bB BA) ao)))
abbrev u8:=jB "Plan" "told" (aa 0)
abbrev u_:=jB "Plan" "lists" (aa 0)
abbrev SV:=aj (aa 1) (aj (aa 2) ao)
abbrev vi:=aJ (jB "Plan" "told" (aa 0)) (aa 1)
abbrev SW:=aJ (aJ (jB "Plan" "told" (aa 0)) (aa 1)) (bh 0)
abbrev BB:=aj (aJ (aJ (jB "Plan" "told" (aa 0)) (aa 1)) (bh 0)) (aj (aa 1) (aj (aa 2) ao))
abbrev BC:=aX (aj (aJ (aJ (jB "Plan" "told" (aa 0)) (aa 1)) (bh 0)) (aj (aa 1) (aj (aa 2) ao)))
def dZ:GF:=cY 3 (cI (eB iN (aj (yD u_ BC) ao)))
def dY:GF:=cY 2 (cI (aJ vi (bh 3)))
abbrev BD:=aj (cX "Plan" "row" dY (aa 1) (aj (aa 0) ao)) ao
def fV:GF:=cY 2 (cI (eB Aj (aj (bU (dh (aa 1) bJ) 1 [0] (aC 0) bB (aN yM BD)) ao)))
abbrev SY:=au bf (d_ "leave ") (aJ (aa 2) (bh 2))
abbrev BG:=aj (aa 0) (aj (aJ (aa 4) (jq (bh 1))) ao)
abbrev ve:=tT (au fB (aJ (aa 2) (bh 0)) (d_ "if")) aY
abbrev S0:=cX "Plan" "spending" fV (aa 0) (aj (aa 4) ao)
abbrev og:=aL 2 (cX "Plan" "row" dY (aa 0) (aj (aa 1) ao))
abbrev qB:=tT (au fB (aJ (aa 2) (bh 0)) (d_ "call")) aY
abbrev BH:=jM 3 (au bf (d_ "leave ") (aJ (aa 2) (bh 2)))
abbrev BI:=tT (cX "Plan" "spending" fV (aa 0) (aj (aa 4) ao)) qW
abbrev BM:=dh (aX (aj (cX "Plan" "block" dZ (aa 0) (aj (aa 1) (aj (bh 0) ao))) (aj (cX "Plan" "block" dZ (aa 0) (aj (aa 1) (aj (bh 1) ao))) ao))) bJ
def dJ:Nat->GF
 |0=>λ_ _=>J
 | n+1=>cY 5 (aF og
  (aF (aL 3 (cu (aj (nW "at " (aa 1)) ao)))
  (aF (cC qB
  BH
  bR)
  (aF (cC ve
  (fX BM (aC 4)
  (cC BI
  (gb 3 (aN (dJ n) BG))
  bR))
  bR)
  (gZ 3)))))
abbrev S1:=aW (aC 9) (aW (aC 10) fu)
abbrev vj:=fC 2 (aW (aC 4) (aW (aC 5) fu))
abbrev BN:=BR 3 (j7 (aa 5) eU (cM (bh 3)))
abbrev BO:=fC 4 (aW (aC 7) (aW (aC 8) (aW (aC 9) (aW (aC 10) fu))))
def kI:GF:=cY 11 (aF (aL 2 (aN yK (aj (aa 1) ao)))
 (aF (aL 3 Vt)
 (aF (fX (uU (aa 2)) vj
 (ou BN (aa 4)))
 (aF (aL 6 Vo)
 (aF (fX (dh (aJ (aa 1) (bh 2)) bJ) BO
 (FJ 6 (aa 7) (bU (dh (aa 9) bJ) 2 [] ma bB (aa 0))))
 (aF (BP "Plan" "told" (aa 0) (aa 2))
 (aF (BP "Plan" "lists" (aa 0) (M4 (aa 3)))
 (BP "Plan" "heads" (aa 0) (aa 6)))))))))
def qm:GF:=cY 1 (cI (SN (eB cz (aj u8 ao))))
abbrev BQ:=au Mq (aJ (aa 2) (bh 0)) (d_ "call")
def j4:GF:=cY 3 (aF og
 (aF (cC (tT BQ aY)
 (cI (cu ao))
 bR)
 (cI (bU (dh (aX (aj (au bf (d_ "box ") (aJ (aa 2) (bh 2))) (aj (nW "at " (aa 1)) (aj SY ao)))) bJ) 1 [2] (aC 0) bB (aX (aj (aa 0) (aj (au bf (d_ "box ") (aJ (aa 1) (bh 1))) ao)))))))
abbrev BS:=tT (au fB (aa 3) (bh 0)) aY
abbrev BU:=aJ (aa 2) (au Mt (aa 3) (bh 1))
abbrev S4:=j7 (aJ (jB "Plan" "told" (aa 0)) (aa 1)) eU (cM (bh 3))
def iH:GF:=cY 4 (aF (aL 2 (S5 u_ S4))
 (aF (aL 3 (MF (aa 2) (aa 1)))
 (cI (Zb BS (eC .non) BU))))
def mL:GF:=cY 2 (cI SW)
def oH:GF:=cY 2 (cI (aJ vi (bh 1)))
def iI:GF:=cY 1 (cI (bU (dh (aN yL (aj (aa 0) ao)) bJ) 1 [] (aC 0) bB (nW "box " (aa 0))))
abbrev vk:=tT (au Sw (aa 2) (eC .non)) aY
abbrev S_:=cX "Plan" "home" mL (aa 0) (aj (aa 1) ao)
abbrev BY:=cX "Plan" "outer" oH (aa 0) (aj (aa 1) ao)
abbrev B0:=aL 4 (cX "Plan" "row" dY (aa 0) (aj (aa 2) ao))
abbrev vc:=aL 3 (cu (aj (aX (aj (d_ "within") (aj (nW "at " (aa 2)) ao))) ao))
def lW:GF:=cY 5 (aF (aL 2 BY)
 (aF (cC vk
 (cI (cu (aj (aX (aj (d_ "enter") (aj (au bf (d_ "enter ") S_) ao))) ao)))
 bR)
 (aF vc
 (aF B0
 (aF (cC (tT (au fB (aJ (aa 4) (bh 0)) (d_ "if")) aY)
 (gb 3 (bU (dh (aN iI (aj (aJ (aa 4) (bh 1)) ao)) bJ) 1 [] (aC 0) bB (aX (aj (d_ "choice") (aj (aa 0) ao)))))
 bR)
 (gZ 3))))))
abbrev B1:=aL 2 (cX "Plan" "block" dZ (aa 0) (aj (aa 1) (aj (bh 0) ao)))
abbrev B2:=aL 3 (aN iI (aj (aJ (cX "Plan" "row" dY (aa 0) (aj (aa 1) ao)) (bh 1)) ao))
def rM:GF:=cY 4 (aF B1
 (aF B2
 (aF (cC (tT (aa 2) qW)
 (gb 3 (aN (dJ 40) (aj (aa 0) (aj (aJ (aa 2) (jq (bh 1))) ao))))
 bR)
 (gZ 3))))
abbrev B3:=aj (aa 0) (aj (aa 1) ao)
abbrev B6:=gb 3 (aN lW (aj (aa 0) (aj (aa 1) ao)))
abbrev vm:=aL 2 (cX "Plan" "just_ahead" iH (aa 0) (aj (aa 1) ao))
abbrev B7:=au fB (aJ (cX "Plan" "row" dY (aa 0) (aj (aa 1) ao)) (bh 0)) (d_ "while")
abbrev B8:=gb 3 (bU (dh (aN (dJ 40) (aj (aa 0) (aj (aa 2) ao))) bJ) 1 [] (aC 0) bB (aX (aj (d_ "behind") (aj (aa 0) ao))))
def jH:GF:=cY 4 (aF vm
 (aF (aL 3 (cu ao))
 (aF (cC vk
 B6
 B8)
 (aF (cC (tT B7 aY)
 (gb 3 (bU (dh (aN rM B3) bJ) 1 [] (aC 0) bB (aX (aj (d_ "turns") (aj (aa 0) ao)))))
 bR)
 (gZ 3)))))
def rN:GF:=cY 2 (cI (eB iN (aj (ui (jB "Plan" "heads" (aa 0)) (aa 1)) ao)))
abbrev B9:=bU (dh (aN iI (aj (aa 4) ao)) bJ) 1 [1] (aC 0) bB (aX (aj (d_ "value") (aj (aa 0) (aj (nW "box " (aa 1)) ao))))
def lr:GF:=cY 5 (aF (aL 3 (cu (aj (aX (aj (d_ "done") (aj (nW "at " (aa 0)) (aj (nW "box " (aa 1)) ao)))) ao)))
 (aF (fX (dh (aa 2) bJ) (aC 4)
 (gb 3 B9))
 (gZ 3)))
abbrev qE:=aj (aJ (aa 2) (bh 2)) ao
abbrev B_:=tT (au fB (aJ (aa 2) (bh 0)) (d_ "set")) aY
abbrev Cb:=tT (au fB (aJ (aa 2) (bh 0)) (d_ "put")) aY
abbrev Cc:=tT (au fB (aJ (aa 2) (bh 0)) (d_ "out")) aY
abbrev qS:=aj (au bf (d_ "box ") (aJ (aa 2) (bh 1))) ao
abbrev Ce:=aj (au bf (d_ "enter ") (aJ (aa 2) (bh 2))) ao
abbrev Cf:=aN lr (aj (aa 1) (aj (aa 4) (aj (cu (aj (aa 5) ao)) ao)))
def qt:GF:=cY 6 (aF og
 (aF (cC (tO B_ Cb)
 (cI (aN lr (aj (aa 1) (aj (aJ (aa 2) (bh 1)) (aj (aN km (aj (aa 2) ao)) ao)))))
 bR)
 (aF (cC Cc
 (aF (aL 3 (bU (dh (aN iI qE) bJ) 1 [1] (aC 0) bB (aX (aj (d_ "let") (aj (aa 0) (aj (nW "let " (aa 1)) ao))))))
 (cI (au bf (aa 3) (cu (aj (aX (aj (d_ "out") (aj (nW "out " (aa 1)) qS))) (aj (aX (aj (d_ "done") (aj (nW "at " (aa 1)) qS))) ao))))))
 bR)
 (aF (cC qB
 (aF (aL 3 (cu (aj (aX (aj (d_ "call") (aj (nW "at " (aa 1)) Ce))) ao)))
 (aF (fX (Km (cX "Plan" "params" rN (aa 0) qE) (aJ (aa 2) (bh 3))) vj
 (gb 3 Cf))
 (gZ 3)))
 bR)
 (cI (cu ao))))))
abbrev Ch:=aj (aa 1) (aj (eC .non) (aj (bh 0) ao))
abbrev Cn:=aX (aj (aa 1) (aj (eC .non) (aj (bh 0) ao)))
def qu:GF:=cY 2 (cI (eB iN (aj (yD u_ Cn) ao)))
abbrev Co:=tT (au Mq (aJ (aa 3) (jq (bh 1))) (aa 1)) aY
abbrev Cq:=aL 2 (cX "Plan" "home" mL (aa 0) (aj (aa 1) ao))
abbrev Cr:=aL 3 (cX "Plan" "body" qu (aa 0) (aj (aa 2) ao))
abbrev Cs:=Br (tT (cX "Plan" "spending" fV (aa 0) (aj (aa 3) ao)) qW)
def lu:GF:=cY 4 (aF Cq
 (aF Cr
 (aF (cC (tO Co Cs)
 (cI (cu ao))
 bR)
 (cI (bU (dh (aN (dJ 40) B3) bJ) 1 [2] (aC 0) bB (aX (aj (aa 0) (aj (nW "leave " (aa 1)) ao))))))))
abbrev Ta:=aW (aC 0) (aW (aC 1) (aW (aC 2) fu))
abbrev Tb:=fC 3 (aW (aC 0) (aW (aC 1) (aW (aC 2) fu)))
abbrev Ct:=gb 2 (bU (dh (aN j4 (aj (aa 1) (aj (aa 3) ao))) bJ) 2 [3] (fC 2 (aW (aC 0) (aW (aC 1) fu))) bB (aX (aj (aa 2) (aj (bh 2) (aj (d_ "back") (aj (aa 0) (aj (aa 1) ao)))))))
abbrev CA:=gb 2 (bU (dh (aN lu (aj (aa 1) (aj (aa 3) ao))) bJ) 2 [3] (fC 2 (aW (aC 0) (aW (aC 1) fu))) bB (aX (aj (aa 2) (aj (bh 3) (aj (d_ "leave") (aj (aa 0) (aj (aa 1) ao)))))))
abbrev CB:=gb 2 (bU (dh (aN jH (aj (aa 1) (aj (aa 3) ao))) bJ) 2 [3] (fC 2 (aW (aC 0) (aW (aC 1) fu))) bB (aX (aj (aa 2) (aj (bh 0) (aj (aa 0) (aj (aa 1) (aj (nW "at " (aa 2)) ao)))))))
abbrev va:=gb 2 (bU (dh (aN qt (aj (aa 1) (aj (aa 3) ao))) bJ) 3 [3] (fC 3 (aW (aC 0) (aW (aC 1) (aW (aC 2) fu)))) bB (aX (aj (aa 3) (aj (bh 1) (aj (aa 0) (aj (aa 1) (aj (aa 2) ao)))))))
def Hi:GF:=cY 4 (aF (aL 1 (FT "Plan" kI (aj (aa 0) ao)))
 (aF (aL 2 (cu ao))
 (aF (fX (dh (cX "Plan" "numbers" qm (aa 1) ao) bJ) (aC 3)
 (aF CB
 (aF va
 (aF Ct
 CA))))
 (cI (sX (aa 2))))))
abbrev CC:=au Ms (aa 1) (eB cz (aj (aa 0) ao))
def nj:GF:=cY 2 (aF (cC (tT CC aY)
 (cI (au aZ (aJ (aa 0) (aa 1)) (bh 1000000007)))
 bR)
 (cI (bh 0)))
abbrev CD:=jM 3 (rY (d_ "") (aj (aa 8) ao))
abbrev CF:=au aZ (au bO (aa 0) (bh 14)) (aa 6)
abbrev CH:=au fB (au aZ (aa 0) (bh 2)) (bh 1)
abbrev CL:=aL 2 (d_ "abcdefghijklmnopqrstuvwxyz")
abbrev Tj:=aJ (aa 2) (au aZ (au bf (au bO (aa 0) (bh 112)) (aa 5)) (bh 26))
abbrev Tk:=au aZ (au bf (au bO (aa 2) (bh 2)) (au gM (bh 3) (aa 0))) (bh 26)
abbrev Tl:=cM (au bf (au bf (au aZ (aa 5) (bh 5)) (bh 1)) (au bO (aa 5) (bh 5)))
abbrev CM:=Bu 8 (aa 7) (aJ (aa 2) (au aZ (au bf (au bO (aa 0) (bh 112)) (aa 5)) (bh 26)))
abbrev Tn:=au aZ (au bf (au bO (aa 2) (au bf (aa 0) (bh 1))) (au gM (aa 0) (aa 0))) (bh 26)
abbrev CO:=mF (aa 4) (cM (au aZ (aa 5) (bh 5))) (cM (au bf (au bf (au aZ (aa 5) (bh 5)) (bh 1)) (au bO (aa 5) (bh 5))))
abbrev To:=bU (iK (aj (aa 6) ao)) 1 [2,0] (aC 0) bB (aJ (aa 1) (au aZ (au bf (au bO (aa 2) (au bf (aa 0) (bh 1))) (au gM (aa 0) (aa 0))) (bh 26)))
abbrev CS:=aJ (cu (aj (bh 1) (aj (bh 2) (aj (bh 3) (aj (bh 5) (aj (bh 6) (aj (bh 7) (aj (bh 8) ao)))))))) (au aZ (au bO (aa 0) (bh 2)) (bh 7))
abbrev CU:=aL 8 (bU (iK (aj (aa 6) ao)) 1 [2,0] (aC 0) bB (aJ (aa 1) (au aZ (au bf (au bO (aa 2) (au bf (aa 0) (bh 1))) (au gM (aa 0) (aa 0))) (bh 26))))
abbrev CY:=rY (d_ "") (aj (bU (iK (aj (bh 10) ao)) 1 [2,0] (aC 0) bB (aJ (aa 1) (au aZ (au bf (au bO (aa 2) (bh 2)) (au gM (bh 3) (aa 0))) (bh 26)))) ao)
def u9:GF:=cY 9 (aF CL
 (aF (aL 3 (cu ao))
 (aF (cC (tT CH aY)
 (aF (aL 4 CY)
 (aF (fX (iK (aj (aa 1) ao)) (aC 5)
 (jM 3 CO))
 (gZ 3)))
 bR)
 (aF (aL 6 CS)
 (aF (aL 7 CF)
 (aF (fX (iK (aj (aa 1) ao)) (aC 5)
 (aF CU
 (aF CM
 CD)))
 (gZ 3)))))))
abbrev C0:=tT (au iV (eB cz (aj (aa 1) ao)) (bh 0)) aY
abbrev Tp:=tT (au iV (au aZ (aa 5) (bh 6)) (bh 0)) aY
abbrev vn:=tT (au iV (eB cz (aj (aa 2) ao)) (bh 0)) aY
abbrev Ts:=tT (au fB (au aZ (aa 5) (bh 7)) (bh 5)) aY
abbrev C1:=aL 3 (aX (aj (aa 7) (aj (aa 3) (aj (aa 6) ao))))
abbrev C2:=aL 3 (aX (aj (aa 7) (aj (aa 6) (aj (aa 3) ao))))
abbrev C3:=aX (aj (d_ "num") (aj (au aZ (aa 5) (bh 1000)) ao))
abbrev Tx:=au fB (au aZ (au bO (aa 5) (bh 5)) (bh 3)) (bh 1)
abbrev C4:=aJ (d_ "+-*<=") (au aZ (au bO (aa 5) (bh 77)) (bh 5))
abbrev TB:=tT (au fB (au aZ (au bO (aa 5) (bh 5)) (bh 3)) (bh 0)) aY
abbrev C5:=tT (au fB (au aZ (au bO (aa 5) (bh 5)) (bh 3)) (bh 1)) aY
abbrev C6:=eE (tT (au iV (eB cz (aj (aa 1) ao)) (bh 0)) aY) (tT (au iV (au aZ (aa 5) (bh 6)) (bh 0)) aY)
abbrev vb:=eE (tT (au iV (eB cz (aj (aa 2) ao)) (bh 0)) aY) (tT (au fB (au aZ (aa 5) (bh 7)) (bh 5)) aY)
abbrev C7:=aL 6 (aX (aj (d_ "box") (aj (aJ (aa 1) (au aZ (au bO (aa 5) (bh 6)) (eB cz (aj (aa 1) ao)))) ao)))
abbrev C_:=au aZ (au gM (au aZ (au gM (aa 0) (au bf (aa 4) (bh 2))) (bh 2147483647)) (bh 16807)) (bh 2147483647)
abbrev Db:=aL 6 (aX (aj (d_ "@") (aj (aJ (aa 2) (au aZ (au bO (aa 5) (bh 42)) (eB cz (aj (aa 2) ao)))) (aj (aa 6) ao))))
abbrev Dp:=aL 3 (aX (aj (d_ "@") (aj (aJ (aa 2) (au aZ (au bO (aa 5) (bh 15)) (eB cz (aj (aa 2) ao)))) (aj (aa 3) ao))))
abbrev Dx:=eE (tT (au iV (eB cz (aj (aa 2) ao)) (bh 0)) aY) (tT (au fB (au aZ (au bO (aa 5) (bh 5)) (bh 3)) (bh 0)) aY)
abbrev vt:SF:=(aF (aL 5 C_)
 (aF (aL 6 C3)
 (aF (cC C6
 C7
 bR)
 (aF (cC vb
 Db
 bR)
 (aF (aL 7 C4)
 (cC Dx
 Dp
 (cC C5
 C1
 C2)))))))
abbrev TD:=tT (au iV (au aZ (aa 0) (bh 5)) (bh 0)) aY
abbrev DA:=aX (aj (d_ "num") (aj (au aZ (au gM (aa 0) (bh 7919)) (au Xv (bh 10) (bh 12))) ao))
abbrev DB:=eE (tT (au iV (eB cz (aj (aa 1) ao)) (bh 0)) aY) (tT (au iV (au aZ (aa 0) (bh 5)) (bh 0)) aY)
abbrev DC:=aL 3 (aX (aj (d_ "box") (aj (aJ (aa 1) (au aZ (au bO (aa 0) (bh 5)) (eB cz (aj (aa 1) ao)))) ao)))
def dU:GF:=cY 8 (aF (aL 3 DA)
 (aF (cC DB
 DC
 bR)
 (aF (fX (iK (aj (aJ (cu (aj (bh 0) (aj (bh 0) (aj (bh 1) (aj (bh 1) (aj (bh 2) (aj (bh 2) (aj (bh 3) (aj (bh 4) ao))))))))) (au aZ (au bO (aa 0) (bh 60)) (bh 8))) ao)) (aC 4)
 vt)
 (gZ 3))))
abbrev TH:=tT (au fB (aa 7) (bh 1)) aY
abbrev DE:=tT (au fB (aa 7) (bh 6)) aY
abbrev DF:=tT (au fB (aa 7) (bh 2)) aY
abbrev vw:=fC 2 (aW (aC 9) (aW (aC 10) fu))
abbrev TJ:=au aZ (au bO (aa 0) (bh 8)) (bh 9)
abbrev DG:=aL 7 (au aZ (au bO (aa 0) (bh 8)) (bh 9))
abbrev DH:=tT (au iV (eB cz (aj (aa 4) ao)) (bh 0)) aY
abbrev DI:=tT (au iV (eB cz (aj (aa 3) ao)) (bh 0)) aY
abbrev TK:=tT (au fB (eB cz (aj (aa 1) ao)) (bh 0)) aY
abbrev TL:=au pB (aa 7) (aX (aj (bh 4) (aj (bh 5) ao)))
abbrev TM:=au pB (aa 7) (aX (aj (bh 3) (aj (bh 8) ao)))
abbrev TN:=tT (au pB (aa 7) (aX (aj (bh 4) (aj (bh 5) ao)))) aY
abbrev DJ:=tT (au pB (aa 7) (aX (aj (bh 3) (aj (bh 8) ao)))) aY
abbrev DL:=cI (aX (aj (d_ "while") (aj (aa 6) (aj (oh (cu ao)) ao))))
abbrev TR:=aJ (aa 1) (au aZ (au bO (aa 0) (bh 72)) (eB cz (aj (aa 1) ao)))
abbrev DM:=aL 8 (aJ (aa 1) (au aZ (au bO (aa 0) (bh 72)) (eB cz (aj (aa 1) ao))))
abbrev DO:=cI (aX (aj (d_ "if") (aj (aa 5) (aj (oh (cu ao)) (aj (oh (cu ao)) ao)))))
abbrev DS:=eE (tT (au fB (aa 7) (bh 1)) aY) (tT (au iV (eB cz (aj (aa 2) ao)) (bh 0)) aY)
abbrev TU:=aN dU (aj (au aZ (au gM (aa 0) (bh 48271)) (bh 2147483647)) (aj (aa 1) (aj (aa 2) ao)))
abbrev TW:=aN dU (aj (au aZ (au gM (aa 0) (bh 69621)) (bh 2147483647)) (aj (aa 1) (aj (aa 2) ao)))
abbrev DT:=aL 5 (aN dU (aj (au aZ (au gM (aa 0) (bh 48271)) (bh 2147483647)) (aj (aa 1) (aj (aa 2) ao))))
abbrev DU:=aL 6 (aN dU (aj (au aZ (au gM (aa 0) (bh 69621)) (bh 2147483647)) (aj (aa 1) (aj (aa 2) ao))))
abbrev DV:=aj (au aZ (au gM (aa 1) (bh 40692)) (au Mt (bh 2147483399) (aa 0))) (aj (aa 2) (aj (aa 3) ao))
abbrev DZ:=tO (tT (au pB (aa 7) (aX (aj (bh 4) (aj (bh 5) ao)))) aY) (tT (au fB (eB cz (aj (aa 1) ao)) (bh 0)) aY)
abbrev D0:=cI (aX (aj (d_ "put") (aj (aJ (aa 2) (au aZ (au bO (aa 0) (bh 72)) (eB cz (aj (aa 2) ao)))) (aj (aa 5) (aj (aa 6) ao)))))
def iB:GF:=cY 12 (aF DT
 (aF DU
 (aF DG
 (aF (cC DS
 D0
 bR)
 (aF (cC DE
 DL
 bR)
 (aF (cC DZ
 DO
 bR)
 (aF DM
 (aF (cC (eE DF DH)
 (cI (aX (aj (d_ "out") (aj (aa 8) (aj (aa 5) (aj (aJ (aa 4) (au aZ (au bO (aa 0) (bh 7)) (eB cz (aj (aa 4) ao)))) ao))))))
 bR)
 (aF (cC (eE DJ DI)
 (aF (Xn (aJ (aa 3) (au aZ (au bO (aa 0) (bh 792)) (eB cz (aj (aa 3) ao)))) vw)
 (aF (aL 11 (bU (iK (aj (eB cz (aj (aa 10) ao)) ao)) 1 [0,1,2] (aC 0) bB (aN dU DV)))
 (cI (aX (aj (d_ "call") (aj (aa 8) (aj (aa 9) (aj (aa 11) ao))))))))
 bR)
 (cI (aX (aj (d_ "set") (aj (aa 8) (aj (aa 6) ao))))))))))))))
abbrev vx:=aJ (aa 6) (jq (bh 1))
abbrev TZ:=tT (au iV (oO (aa 6)) (bh 1)) aY
abbrev D1:=tT (au Ms (oO (aa 6)) (bh 5)) aY
abbrev T0:=dh (j7 (aa 8) (cM (bh 2)) eU) bJ
abbrev T1:=tT (au fB (au aZ (aa 7) (bh 8)) (bh 0)) aY
abbrev D2:=aL 8 (aN iB (aj (aa 7) (aj (aa 1) (aj (aa 2) (aj (aa 3) (aj (aa 4) ao))))))
abbrev D3:=tT (au pB (aJ (aa 8) (bh 0)) (aX (aj (d_ "if") (aj (d_ "while") ao)))) aY
abbrev D4:=ou (aa 6) (oh (bU (dh (j7 (aa 8) (cM (bh 2)) eU) bJ) 1 [] (aC 0) bB (aa 0)))
abbrev D5:=eE (tT (au fB (au aZ (aa 7) (bh 8)) (bh 0)) aY) (tT (au iV (oO (aa 6)) (bh 1)) aY)
abbrev D6:=eE (tT (au pB (aJ (aa 8) (bh 0)) (aX (aj (d_ "if") (aj (d_ "while") ao)))) aY) (tT (au Ms (oO (aa 6)) (bh 5)) aY)
def sJ:GF:=cY 9 (aF (aL 5 (Sx ao))
 (aF (aL 6 (Sx (aj (oh (cu (aj (aa 5) ao))) ao)))
 (aF (fX (dh (aa 0) bJ) (aC 7)
 (cC D5
 (aF (rW (An vx))
 (cC (tT (au fB (oO vx) (bh 0)) aY)
 (rW (FZ (aa 6)))
 bR))
 (aF D2
 (aF (ou (aJ vx (bh 0)) (aa 8))
 (cC D6
 D4
 bR)))))
 (cI (Gb (aa 5))))))
abbrev vF:=au bf (bh 10) (au gM (bh 4) (aa 3))
abbrev vM:SF:=(aF (aL 4 (au aZ (au bO (aa 0) (aJ (cu (aj (bh 75) (aj (bh 375) (aj (bh 1875) (aj (bh 9375) ao))))) (aa 3))) (bh 5)))
 (jM 2 (aX (aj (aJ (aa 1) (au bf (bh 6) (aa 3))) (aj (mF (aa 1) (cM vF) (cM (au bf vF (aa 4)))) ao)))))
def vd:GF:=cY 5 (aF (aL 2 (cu ao))
 (aF (fX (iK (aj (au aZ (au bO (aa 0) (bh 15)) (bh 5)) ao)) (aC 3)
 vM)
 (gZ 2)))
abbrev D7:=aX (aj (aa 0) (aj (eC .non) ao))
abbrev D8:=aj (aa 5) (aj (aa 6) (aj (aa 9) ao))
abbrev qV:=cM (au bf (eB cz (aj (aa 6) ao)) (bh 1))
abbrev D9:=au bf (aa 4) (cu (aj (aJ (aa 12) (bh 0)) ao))
abbrev vS:SF:=(aF (aL 13 (aN sJ (aj (DN (aa 8) (cM (aa 11)) eU qV) (aj (au bf D9 (aJ (aa 12) (bh 1))) D8))))
 (jM 10 (aX (aj (aJ (aa 12) (bh 0)) (aj (aJ (aa 3) (au aZ (au bf (aa 1) (aa 11)) (bh 3))) (aj (bU (dh (aJ (aa 12) (bh 1)) bJ) 1 [] (aC 0) bB D7) (aj (aa 13) ao)))))))
abbrev D_:=au aZ (aa 0) (bh 1000000007)
abbrev Eb:=fC 2 (aW (aC 11) (aW (aC 12) fu))
abbrev Ec:=aj (aa 1) (aj (bh 0) (aj (aJ (aa 2) (au aZ (au bf (au bO (aa 3) (bh 3072)) (aa 0)) (bh 3))) ao))
abbrev Ee:=aj (aa 0) (aj (au bf (bh 1) (au aZ (au bO (aa 1) (bh 48)) (bh 8))) (aj (aJ (aa 2) (au aZ (au bO (aa 1) (bh 9216)) (bh 3))) ao))
def nq:GF:=cY 14 (aF (aL 1 (aN nj (aj (aa 0) (aj (bh 0) ao))))
 (aF (aL 2 (aN u9 (aj (aN nj (aj (aa 0) (aj (bh 1) ao))) (aj (bh 26) ao))))
 (aF (aL 3 (cu (aj (eC .non) (aj (d_ "low") (aj (d_ "high") ao)))))
 (aF (aL 4 (mF (aa 2) eU (cM (au aZ (aa 1) (bh 5)))))
 (aF (aL 5 (mF (aa 2) (cM (bh 4)) (cM (au bf (bh 4) (au aZ (au bO (aa 1) (bh 5)) (bh 3))))))
 (aF (aL 6 (aN vd SV))
 (aF (aL 7 (bU (uU (aa 4)) 2 [3,1] ma bB (aX Ec)))
 (aF (aL 7 (au bf (aa 7) (bU (dh (aa 5) bJ) 1 [1,3] (aC 0) bB (aX Ee))))
 (aF (aL 8 (bU (dh (mF (aa 0) (cM (bh 2)) (cM (bh 42))) bJ) 1 [] (aC 0) bB D_))
 (aF (aL 9 (cu (aj (d_ "somebody") ao)))
 (aF (aL 10 (cu ao))
 (aF (fX (uU (aa 6)) Eb
 vS)
 (aF (aL 13 (aN sJ (aj (DN (aa 8) (cM (eB cz (aj (aa 6) ao))) eU qV) (aj (aa 4) D8))))
 (cI (aX (aj (aa 7) (aj (cu (aj (aX (aj (d_ "somebody") (aj (d_ "high") (aj (d_ "low") ao)))) ao)) (aj (aa 10) (aj (aa 13) ao)))))))))))))))))))
def gK:Nat->GF
 |0=>λ_ _=>J
 | n+1=>cY 1 (aF (cC Bn
  (cI (cu ao))
  bR)
  (aF (cC Bz
  AX
  bR)
  (aF (cC Bi
  (cI (au bf SO (aN (gK n) kX)))
  bR)
  (cI (au bf (aN (gK n) qA) (aN (gK n) kX))))))
abbrev vT:=dh (j7 (aa 4) (cM (bh 2)) eU) bJ
abbrev Ef:=aj (aa 5) (aj (aa 3) (aj (aa 2) ao))
abbrev EA:=ou (aa 2) (aX (aj (aa 3) (aj (aa 4) ao)))
abbrev EB:=au pB (aJ (aa 4) (bh 0)) (aX (aj (d_ "if") (aj (d_ "while") ao)))
def fL:Nat->GF
 |0=>λ_ _=>J
 | n+1=>cY 6 (aF (aL 3 (aa 1))
  (aF (fX (dh (aa 0) bJ) (aC 4)
  (aF EA
  (aF (aL 3 (au bf (aa 3) (bh 1)))
  (cC (tT EB aY)
  (fX vT (aC 5)
  (aL 3 (aN (fL n) Ef)))
  bR))))
  (gZ 3)))
abbrev T_:=aj (au bf (d_ "box ") (aa 1)) ao
abbrev EC:=dh (aN (gK 40) (aj (aa 4) ao)) bJ
abbrev Uf:=aX (aj (aa 0) (aj (bh 1) (aj (d_ "value") (aj (au bf (d_ "box ") (aa 5)) (aj (au bf (d_ "box ") (aa 1)) ao)))))
abbrev ED:=jM 3 (aX (aj (aa 0) (aj (bh 1) (aj (d_ "value") (aj (au bf (d_ "box ") (aa 5)) (aj (au bf (d_ "box ") (aa 1)) ao))))))
def oi:GF:=cY 6 (aF (aL 3 (cu (aj (aX (aj (aa 0) (aj (bh 1) (aj (d_ "done") (aj (au bf (d_ "at ") (eB jj (aj (aa 0) ao))) T_))))) ao)))
 (aF (fX (dh (aa 2) bJ) (aC 4)
 (fX EC (aC 5)
 ED))
 (gZ 3)))
abbrev EE:=eB jj (aj (aa 1) ao)
abbrev EG:=Km (aa 7) (aJ (aa 2) (bh 3))
abbrev Up:=au fB (aa 5) (aJ (aa 2) (bh 2))
abbrev EI:=tT (au fB (aa 5) (aJ (aa 2) (bh 2))) aY
abbrev EJ:=aW (aC 5) (aW (aC 6) (aW (aC 7) (aW (aC 8) fu)))
abbrev EK:=aL 3 (au bf (d_ "at ") (eB jj (aj (aa 1) ao)))
abbrev EL:=au bf (aa 4) (aN oi (aj (aa 1) (aj (aJ (aa 9) (bh 0)) (aj (cu (aj (aa 10) ao)) ao))))
def ut:GF:=cY 11 (aF EK
 (aF (cC B_
 (cI (aN oi (aj (aa 1) (aj (aJ (aa 2) (bh 1)) (aj (cu qE) ao)))))
 bR)
 (aF (cC Cb
 (cI (aN oi (aj (aa 1) (aj (aJ (aa 2) (bh 1)) (aj (cu (aj (aJ (aa 2) (bh 2)) (aj (aJ (aa 2) (bh 3)) ao))) ao)))))
 bR)
 (aF (aL 4 (cu ao))
 (aF (cC Cc
 (aF (aL 4 (bU (dh (aN (gK 40) qE) bJ) 1 [1] (aC 0) bB (aX (aj (aa 1) (aj (bh 1) (aj (d_ "let") (aj (au bf (d_ "box ") (aa 0)) (aj (au bf (d_ "let ") EE) ao))))))))
 (aL 4 (au bf (aa 4) (cu (aj (aX (aj (aa 1) (aj (bh 1) (aj (d_ "out") (aj (au bf (d_ "out ") EE) qS))))) (aj (aX (aj (aa 1) (aj (bh 1) (aj (d_ "done") (aj (aa 3) qS))))) ao))))))
 bR)
 (aF (cC qB
 (aF (aL 4 (cu (aj (aX (aj (aa 1) (aj (bh 1) (aj (d_ "call") (aj (aa 3) Ce))))) ao)))
 (fX (dh (aJ (aa 0) (bh 2)) bJ) (fC 4 EJ)
 (cC EI
 (fX EG vw
 (aL 4 EL))
 bR)))
 bR)
 (gZ 4)))))))
abbrev EM:SF:=(aL 8 (au bf (aa 8) (aN ut (aj (aa 1) (aj (aa 3) (aj (aa 9) ao))))))
abbrev UA:=au fB (aJ (aa 0) (bh 1)) (bh 1)
abbrev EN:=tT (au fB (aJ (aa 0) (bh 1)) (bh 1)) aY
abbrev EO:=fC 4 (aW (aC 4) (aW (aC 5) (aW (aC 6) (aW (aC 7) fu))))
abbrev vW:=wQ 2 (aL 3 (aN (fL 40) (aj (aa 7) (aj (aa 3) (aj (aa 2) ao)))))
abbrev EQ:=rW (aN (fL 40) (aj (aJ (aa 1) (bh 3)) (aj (aa 3) (aj (aa 2) ao))))
def S6:GF:=cY 11 (aF (aL 1 (aN nq (aj (aa 0) ao)))
 (aF (aL 2 (cu ao))
 (aF (aL 3 (bh 0))
 (aF (fX (dh (aJ (aa 1) (bh 2)) bJ) EO
 (Bw 2 vW))
 (aF (Bw 2 (wQ 2 EQ))
 (aF (aL 8 (cu ao))
 (aF (fX (dh (aa 2) bJ) (fC 2 (aW (aC 3) (aW (aC 9) fu)))
 EM)
 (aF (aL 10 (aN Hi (aj (aa 1) ao)))
 (cI (Ma (au fB (bU (dh (aa 10) bJ) 1 [] (aC 0) EN (aa 0)) (sX (aa 8))) (au fB (aa 1) (aN nq (aj (aa 0) ao)))))))))))))
variable {P:Program}{w:World}{K:FG}{mg:Str->Option Value}{base:Heap}
noncomputable abbrev BL:List Str:=["any","enumerate","len","list","range","set","sorted","str","zip"]
section
variable {mg:Str->Option Value}(B:QG mg BL)
include B
theorem Ko:mg "any"=J:=B _ ()
theorem sO:mg "enumerate"=J:=B _ ()
theorem eG:mg "len"=J:=B _ ()
theorem wW:mg "list"=J:=B _ ()
theorem pD:mg "range"=J:=B _ ()
theorem S7:mg "set"=J:=B _ ()
theorem DR:mg "sorted"=J:=B _ ()
theorem S8:mg "str"=J:=B _ ()
theorem ER:mg "zip"=J:=B _ ()
end
section
variable (P:Program)(w:World)(K:FG)(mg:Str->Option Value)(base:Heap)(c:Addr)
abbrev mO:=bI P w K mg base "blocks_of" 1 ["row"] (bW K 1 gJ)
abbrev tZ:=bI P w K mg base "expressions_of" 1 ["row"] (bW K 1 km)
abbrev Jl:=bI P w K mg base "copied" 40 ["row"] (bW K 1 (kE 40))
abbrev O7:=bI P w K mg base "in_order" 41 ["rows"] (bW K 1 (iz 40))
abbrev O8:=bI P w K mg base "laid_out" 80 ["where","above","block","rows","start"] (bW K 5 (gP 40))
abbrev Dc:=bI P w K mg base "numbered" 81 ["program"] (bW K 1 yK)
abbrev Yd:=bI P w K mg base "reads" 40 ["expression"] (bW K 1 (ni 40))
abbrev Dd:=bI P w K mg base "names_in" 41 ["expression"] (bW K 1 yL)
abbrev Jm:=bI P w K mg base "spends" 42 ["row"] (bW K 1 yM)
abbrev nu:=vO P w K mg base c "block" 1 ["self","k","which"] (bW K 3 dZ)
abbrev gQ:=vO P w K mg base c "row" 1 ["self","k"] (bW K 2 dY)
abbrev jW:=vO P w K mg base c "spending" 43 ["self","numbers"] (bW K 2 fV)
abbrev tW:=bI P w K mg base "behind_row" 83 ["plan","k"] (bW K 2 (dJ 40))
abbrev Cw:=X4 P w K mg base c 82 ["self","program"] (bW K 2 kI)
abbrev vf:=vO P w K mg base c "numbers" 1 ["self"] (bW K 1 qm)
abbrev zf:=bI P w K mg base "back_steps" 2 ["plan","k"] (bW K 2 j4)
abbrev qH:=vO P w K mg base c "just_ahead" 1 ["self","k"] (bW K 2 iH)
abbrev tX:=vO P w K mg base c "home" 1 ["self","k"] (bW K 2 mL)
abbrev wX:=vO P w K mg base c "outer" 1 ["self","k"] (bW K 2 oH)
abbrev lw:=bI P w K mg base "boxes_read" 42 ["expression"] (bW K 1 iI)
abbrev vg:=bI P w K mg base "first_sources" 43 ["plan","k"] (bW K 2 lW)
abbrev vQ:=bI P w K mg base "turn_sources" 84 ["plan","k"] (bW K 2 rM)
abbrev vh:=bI P w K mg base "begin_sources" 85 ["plan","k"] (bW K 2 jH)
abbrev vR:=vO P w K mg base c "params" 1 ["self","name"] (bW K 2 rN)
abbrev wY:=bI P w K mg base "given_steps" 43 ["k","name","some"] (bW K 3 lr)
abbrev zg:=bI P w K mg base "done_steps" 44 ["plan","k"] (bW K 2 qt)
abbrev zj:=vO P w K mg base c "body" 1 ["self","name"] (bW K 2 qu)
abbrev w5:=bI P w K mg base "leave_steps" 84 ["plan","k"] (bW K 2 lu)
abbrev M9:=bI P w K mg base "rules" 86 ["program"] (bW K 1 Hi)
abbrev vU:=bI P w K mg base "_law_cell_at" 1 ["_law_script","_law_k"] (bW K 2 nj)
abbrev zm:=bI P w K mg base "_law_names" 1 ["_law_cell","_law_count"] (bW K 2 u9)
abbrev sY:=bI P w K mg base "_law_expression" 1 ["_law_cell","_law_own","_law_lists"] (bW K 3 dU)
abbrev De:=bI P w K mg base "_law_row" 2 ["_law_cell","_law_own","_law_lists","_law_heads_here","_law_whos"] (bW K 5 iB)
abbrev Ao:=bI P w K mg base "_law_rows" 3 ["_law_cells","_law_own","_law_lists","_law_heads_here","_law_whos"] (bW K 5 sJ)
abbrev zp:=bI P w K mg base "_law_heads" 1 ["_law_cell","_law_names_here"] (bW K 2 vd)
abbrev vV:=bI P w K mg base "_law_program" 4 ["_law_script"] (bW K 1 nq)
abbrev Nb:=bI P w K mg base "_law_read" 40 ["_law_expression_here"] (bW K 1 (gK 40))
abbrev O9:=bI P w K mg base "_law_all" 40 ["_law_rows_here","_law_first","_law_told"] (bW K 3 (fL 40))
abbrev ES:=bI P w K mg base "_law_value" 41 ["_law_k","_law_name","_law_some"] (bW K 3 oi)
abbrev Df:=bI P w K mg base "_law_due" 42 ["_law_program_here","_law_k","_law_row_here"] (bW K 3 ut)
end
variable (B:QG mg BL){ag:Addr}(bq:yx K mg "Plan" ag)(bi:∀f∈(["told","lists","heads"]:List Str),kW K ag f)(eT:HK.hk=CT P w)
include B bq bi eT
theorem Nf(F:cL K mg "blocks_of" wj ["row"]):mO P w K mg base:=
 F.ok M6 λf q A i s H E j=>#[_,λ_ _=>O,(az (b8 (bN (cG j) cH (qI (qw 0)) bT (bA _))
  (aD (bK (dz (ak (qI (qw 0)) (ak (qI (qw 0)) aq)))))
  bH)
  (az (b8 (bN (cG j) cH (qI (qw 0)) bT (bA _))
  (aD (bK (dz (ak (qI (qw 0)) aq))))
  bH)
  (aD (bK (dz aq)))))]
theorem Cy(F:cL K mg "expressions_of" oR ["row"]):tZ P w K mg base:=
 F.ok Cu λf q A j s H E i=>#[_,λ_ _=>O,(az (b8 (PW.pt (Ke (bN (cG i) cH (qI (qw 0)) bT (bA _)) (Fp (bN (cG i) cH (qI (qw 0)) bT (bA _)))))
  (aD (bK (dz (ak (qI (qw 0)) aq))))
  bH)
  (az (b8 (bN (cG i) cH (qI (qw 0)) bT (bA _))
  (aD (bK (dz (ak (qI (qw 0)) (ak (qI (qw 0)) aq)))))
  bH)
  (az (b8 (bN (cG i) cH (qI (qw 0)) bT (bA _))
  (aD (bK (PE.imp (gA lX O (wW B) (by kernel_rfl) (ak (qI (qw 0)) aq)) (pP wK))))
  bH)
  (aD (bK (dz (ak (qI (qw 0)) aq)))))))]
theorem Vx(F:cL K mg "copied" yG ["row"])(i:bI P w K mg base "all_copied" (0+n) ["rows"] (bW K 1 (cK n))):bI P w K mg base "copied" (0+n+1) ["row"] (bW K 1 (kE (n+1))):=
 F.ok Vv λf z A q s H E j=>#[_,λ_ _=>O,(az (b8 (bN (cG j) cH (qI (qw 0)) bT (bA _))
  (aD (bK (cP (ak bT (ak (qI (qw 0)) (ak (bL i (j.mono ()) O (ak (qI (qw 0)) aq) (aB aP)) (ak (bL i (j.mono ()) O (ak (qI (qw 0)) aq) (aB aP)) aq)))))))
  bH)
  (az (b8 (bN (cG j) cH (qI (qw 0)) bT (bA _))
  (aD (bK (cP (ak bT (ak (qI (qw 0)) (ak (bL i (j.mono ()) O (ak (qI (qw 0)) aq) (aB aP)) aq))))))
  bH)
  (az (b8 (bN (cG j) cH (qI (qw 0)) bT (bA _))
  (aD (bK (cP (ak bT (ak (qI (qw 0)) (ak (qI (qw 0)) (ak (PE.imp (gA lX O (wW B) (by kernel_rfl) (ak (qI (qw 0)) aq)) (pP wK)) aq)))))))
  bH)
  (aD (gh (pv 0))))))]
theorem JS(F:cL K mg "all_copied" mG ["rows"])(i:bI P w K mg base "copied" (0+n) ["row"] (bW K 1 (kE n))):bI P w K mg base "all_copied" (0+n+1) ["rows"] (bW K 1 (cK (n+1))):=
 F.ok JN λf q A j s H E z=>#[_,λ_ _=>O,(aD (bK (gH ["row"] [] [] O (jx (aG mG)) (cA (qw 0)) (λ_ _ _ _=>(cQ 0 (show (["row"]:List Str).Nodup from by decide +kernel))) aM (λ_ _ _ _=>cN) (λ_ _ _ _=>(bL i () O (ak (qw 0) aq) (aB aP))))))]
theorem Gg(j:cL K mg "copied" yG ["row"])(i:cL K mg "all_copied" mG ["rows"]):∀n:Nat,bI P w K mg base "copied" (0+n) ["row"] (bW K 1 (kE n))/\bI P w K mg base "all_copied" (0+n) ["rows"] (bW K 1 (cK n))
 |0=>#[jY j,jY i]
 |n+1=>by let q:=Gg j i n;show#[Vx B bq bi eT j q.2,JS B bq bi eT i q.1]
theorem Pa(F:cL K mg "in_order" uh ["rows"])(i:mO P w K mg base)(q:bI P w K mg base "in_order" (1+n) ["rows"] (bW K 1 (iz n))):bI P w K mg base "in_order" (1+n+1) ["rows"] (bW K 1 (iz (n+1))):=
 F.ok sH λf D A j s H E z=>#[_,λ_ _=>O,(az (cU 1 sH.nd (dz aq))
  (az (fK gN O (cA (qw 0)) (cQ 2 sH.nd) aM
  (az (yE (pv 1) (qw 2))
  (aD (fK gN O (cA (bL i (z.mono ()) O (ak (qw 2) aq) (aB aP))) (cQ 3 sH.nd) aM
  (aD (nM (pv 1) (bL q () O (ak (qw 3) aq) (aB aP))))))))
  (aD (gh (pv 1)))))]
theorem Aq(i:cL K mg "in_order" uh ["rows"])(j:mO P w K mg base):∀n:Nat,bI P w K mg base "in_order" (1+n) ["rows"] (bW K 1 (iz n))
 |0=>jY i
 |n+1=>by let q:=Aq i j n;show Pa B bq bi eT i j q
theorem Pb(F:cL K mg "laid_out" ul ["where","above","block","rows","start"])(q:mO P w K mg base)(i:Jl P w K mg base)(j:bI P w K mg base "laid_out" (40+n) ["where","above","block","rows","start"] (bW K 5 (gP n))):bI P w K mg base "laid_out" (40+n+1) ["where","above","block","rows","start"] (bW K 5 (gP (n+1))):=
 F.ok lH λf N A z s H E D=>#[_,λ_ _=>O,(az (cU 5 lH.nd (dz aq))
  (az (fK gN O (cA (qw 3)) (cQ 6 lH.nd) aM
  (az (cU 7 lH.nd (Kh (bj bD bF (qw 4) (qL (eG B) (qw 5)))))
  (az (yE (pv 5) (cP (ak (qw 0) (ak (qw 1) (ak (qw 2) (ak (bL i (D.mono ()) O (ak (qw 6) aq) (aB aP)) aq))))))
  (aD (fK gN O (Bx O (sO B) (ak (bL q (D.mono ()) O (ak (qw 6) aq) (aB aP)) aq)) (iW O (bM (cQ 8 lH.nd) (bM (cQ 9 lH.nd) gR))) (iY (bV aM (bV aM iU)))
  (aD (nM (pv 5) (bL j (D.mono ()) O (ak (qw 0) (ak (qw 7) (ak (qw 8) (ak (qw 9) (ak (Kh (bj bD bF (qw 4) (qL (eG B) (qw 5)))) aq))))) (aB (aB (aB (aB (aB aP)))))))))))))
  (aD (gh (pv 5)))))]
theorem Ar(i:cL K mg "laid_out" ul ["where","above","block","rows","start"])(q:mO P w K mg base)(j:Jl P w K mg base):∀n:Nat,bI P w K mg base "laid_out" (40+n) ["where","above","block","rows","start"] (bW K 5 (gP n))
 |0=>jY i
 |n+1=>by let z:=Ar i q j n;show Pb B bq bi eT i q j z
theorem Ph(F:cL K mg "numbered" yH ["program"])(i:O8 P w K mg base):Dc P w K mg base:=
 F.ok lJ λf z A j s H E q=>#[_,λ_ _=>O,(az (cU 1 lJ.nd (dz aq))
  (az (fK gN O (cA (qI (qw 0))) (iW O (bM (cQ 2 lJ.nd) (bM (cQ 3 lJ.nd) (bM (cQ 4 lJ.nd) (bM (cQ 5 lJ.nd) gR))))) (iY (bV aM (bV aM (bV aM (bV aM iU)))))
  (aD (nM (pv 1) (bL i (q.mono ()) O (ak (qw 2) (ak Jg (ak aQ (ak (qw 5) (ak (Kh (qL (eG B) (qw 1))) aq))))) (aB (aB (aB (aB (aB aP)))))))))
  (az (nM (pv 1) (bL i (q.mono ()) O (ak bT (ak Jg (ak aQ (ak (qI (qw 0)) (ak (Kh (qL (eG B) (qw 1))) aq))))) (aB (aB (aB (aB (aB aP)))))))
  (aD (gh (pv 1))))))]
theorem Ye(F:cL K mg "reads" BX ["expression"])(i:bI P w K mg base "reads" (0+n) ["expression"] (bW K 1 (ni n))):bI P w K mg base "reads" (0+n+1) ["expression"] (bW K 1 (ni (n+1))):=
 F.ok Yc λf z A q s H E j=>#[_,λ_ _=>O,(az (b8 (bN (cG j) cH (qI (qw 0)) bT (bA _))
  (aD (bK (dz aq)))
  bH)
  (az (b8 (bN (cG j) cH (qI (qw 0)) bT (bA _))
  (aD (bK (dz (ak (cP (ak bT (ak (qI (qw 0)) aq))) aq))))
  bH)
  (az (b8 (bN (cG j) cH (qI (qw 0)) bT (bA _))
  (aD (bK (bj bD bF (dz (ak (cP (ak bT (ak (qI (qw 0)) aq))) aq)) (bL i (j.mono ()) O (ak (qI (qw 0)) aq) (aB aP)))))
  bH)
  (aD (bK (bj bD bF (bL i (j.mono ()) O (ak (qI (qw 0)) aq) (aB aP)) (bL i (j.mono ()) O (ak (qI (qw 0)) aq) (aB aP))))))))]
theorem Jo(i:cL K mg "reads" BX ["expression"]):∀n:Nat,bI P w K mg base "reads" (0+n) ["expression"] (bW K 1 (ni n))
 |0=>jY i
 |n+1=>by let j:=Jo i n;show Ye B bq bi eT i j
theorem Pj(F:cL K mg "names_in" um ["expression"])(j:Yd P w K mg base):Dd P w K mg base:=
 F.ok O3 λf q A i s H E z=>#[_,λ_ _=>O,(aD (bK (Vr (iQ (Fb O) O (DR B) () (wz (gA (W2 O) O (S7 B) () (ak (gH ["word","name"] [] [] O (jx (aG um)) (cA (bL j () O (ak (qw 0) aq) (aB aP))) (λ_ _ _ _=>(iW O (bM (cQ 0 (show (["word","name"]:List Str).Nodup from by decide +kernel)) (bM (cQ 1 (show (["word","name"]:List Str).Nodup from by decide +kernel)) gR)))) (iY (bV aM (bV aM iU))) (λ_ _ _ _=>cN) (λ_ _ _ _=>(qw 1))) aq)) zK)))))]
theorem Vy(F:cL K mg "spends" yI ["row"])(j:O7 P w K mg base):Jm P w K mg base:=
 F.ok Vw λf z A i s H E q=>#[_,λ_ _=>O,(aD (bK (wJ (mD O) Fx (iQ (mD O) O (Ko B) () (ak (gH ["inner"] [] [] O (jx (aG yI)) (cA (bL j () O (ak (dz (ak (qw 0) aq)) aq) (aB aP))) (λ_ _ _ _=>(cQ 0 (show (["inner"]:List Str).Nodup from by decide +kernel))) aM (λ_ _ _ _=>cN) (λ_ _ _ _=>(Xk (uR q) qY (qI (qw 0)) (cP (ak bT (ak bT aq))) (by with_unfolding_all rfl)))) aq)))))]
theorem Hk(F:wO K ag "block" "Plan.block" tV ["self","k","which"]):nu P w K mg base ag:=
 F.ok Hh λf q A i s H E j=>#[_,λ_ _=>O,(aD (bK (PE.imp (gA lX O (wW B) () (ak (Zi () (Lg PySem.F.slot_dict_get PySem.F.type_dict_get (Qj (Bj j)) (wg bq (bi _ ()) (qw 0)) (ak (cP (ak (qI (fP (wg bq (bi _ ()) (qw 0)) (qw 1) (λ_ _=>O))) (ak (qw 1) (ak (qw 2) aq)))) (ak (dz aq) aq)))) aq)) (pP wK))))]
theorem Ng(F:wO K ag "row" "Plan.row" wk ["self","k"]):gQ P w K mg base ag:=
 F.ok M8 λf j A i s H E q=>#[_,λ_ _=>O,(aD (bK (qI (fP (wg bq (bi _ ()) (qw 0)) (qw 1) (λ_ _=>O)))))]
theorem Cz(F:wO K ag "spending" "Plan.spending" j9 ["self","numbers"])(j:gQ P w K mg base ag)(q:Jm P w K mg base):jW P w K mg base ag:=
 F.ok Cv λf D A i s H E z=>#[_,λ_ _=>O,(aD (bK (wJ (mD O) Fx (iQ (mD O) O (Ko B) () (ak (gH ["k"] ["self"] [0] O (jx (aG j9)) (cA (qw 1)) (λ_ _ _ _=>(cQ 0 (show (["k","self"]:List Str).Nodup from by decide +kernel))) aM (λ_ _ _ _=>cN) (λ_ _ _ _=>(bL q () O (ak (jt bq j (z.mono ()) (qw 1) (ak (qw 0) aq) (gO (aB aP))) aq) (aB aP)))) aq)))))]
theorem JT(F:cL K mg "behind_row" pY ["plan","k"])(j:nu P w K mg base ag)(N:gQ P w K mg base ag)(z:jW P w K mg base ag)(q:bI P w K mg base "behind_row" (43+n) ["plan","k"] (bW K 2 (dJ n))):bI P w K mg base "behind_row" (43+n+1) ["plan","k"] (bW K 2 (dJ (n+1))):=
 F.ok oF λf Q A D s H E i=>#[_,λ_ _=>O,(az (cU 2 oF.nd (jt bq N (i.mono ()) (qw 0) (ak (qw 1) aq) (gO (aB aP))))
  (az (cU 3 oF.nd (dz (ak (wR () (qw 1)) aq)))
  (az (b8 (bN (cG i) cH (qI (qw 2)) bT (bA _))
  (aD (yE (pv 3) (bj bD bF bT (qI (qw 2)))))
  bH)
  (az (b8 (bN (cG i) cH (qI (qw 2)) bT (bA _))
  (aD (fK gN O (cA (cP (ak (jt bq j (i.mono ()) (qw 0) (ak (qw 1) (ak aQ aq)) (gO (aB (aB aP)))) (ak (jt bq j (i.mono ()) (qw 0) (ak (qw 1) (ak aQ aq)) (gO (aB (aB aP)))) aq)))) (cQ 4 oF.nd) aM
  (aD (b8 (Fo (jt bq z (i.mono ()) (qw 0) (ak (qw 4) aq) (gO (aB aP))) (λ_=>O))
  (aD (nM (pv 3) (bL q (i.mono ()) O (ak (qw 0) (ak (fP (qw 4) (v7 aQ) (λ_ _=>O)) aq)) (aB (aB aP)))))
  bH))))
  bH)
  (aD (gh (pv 3)))))))]
theorem xf(i:cL K mg "behind_row" pY ["plan","k"])(z:nu P w K mg base ag)(j:gQ P w K mg base ag)(q:jW P w K mg base ag):∀n:Nat,bI P w K mg base "behind_row" (43+n) ["plan","k"] (bW K 2 (dJ n))
 |0=>jY i
 |n+1=>by let D:=xf i z j q n;show JT B bq bi eT i z j q D
theorem CG(F:wO K ag "__init__" "Plan.__init__" j8 ["self","program"])(i:Dc P w K mg base):vO P w K mg base ag "__init__" 82 ["self","program"] (bW K 2 kI):=
 F.ok dR λf z A j s H E q=>#[_,λ_ _=>O,(az (cU 2 dR.nd (bL i () O (ak (qw 1) aq) (aB aP)))
  (az (cU 3 dR.nd (Sc ()))
  (az (fK gN O (Bx O (sO B) (ak (qw 2) aq)) (iW O (bM (cQ 4 dR.nd) (bM (cQ 5 dR.nd) gR))) (iY (bV aM (bV aM iU)))
  (aD (By (qK (rR lg oB oC oY (Se (eT) (Lg PySem.F.slot_dict_setdefault PySem.F.type_dict_setdefault (Ux (Bj q)) (pv 3) (ak (uC (qw 5) jX (eX aQ)) (ak (dz aq) aq)))) (ak (qw 4) aq))))))
  (az (cU 6 dR.nd Qg)
  (az (fK gN O (cA (qI (qw 1))) (iW O (bM (cQ 7 dR.nd) (bM (cQ 8 dR.nd) (bM (cQ 9 dR.nd) (bM (cQ 10 dR.nd) gR))))) (iY (bV aM (bV aM (bV aM (bV aM iU)))))
  (aD (P8 (KH (gH ["param","known"] [] [] O (jx (aG j8)) (cA (qw 9)) (λ_ _ _ _=>(iW O (bM (cQ 0 (show (["param","known"]:List Str).Nodup from by decide +kernel)) (bM (cQ 1 (show (["param","known"]:List Str).Nodup from by decide +kernel)) gR)))) (iY (bV aM (bV aM iU))) (λ_ _ _ _=>cN) (λ_ _ _ _=>(qw 0))) (Eo (pv 6) (qw 7) (set_dict (Bj q)))))))
  (az (Hb bq (bi _ (.head _)) (qw 0) (qw 2))
  (az (Hb bq (bi _ (mI 1 O)) (qw 0) (Sz (qw 3)))
  (aD (Hb bq (bi _ (mI 2 O)) (qw 0) (qw 6))))))))))]
theorem DW(F:wO K ag "numbers" "Plan.numbers" qg ["self"]):vf P w K mg base ag:=
 F.ok DQ λf j A i s H E q=>#[_,λ_ _=>O,(aD (bK (SA (gA (JL O) O (wW B) () (wz (gA W5 O (pD B) () (ak (qL (eG B) (wg bq (bi _ ()) (qw 0))) aq)) zK)))))]
theorem JV(F:cL K mg "back_steps" qe ["plan","k"])(j:gQ P w K mg base ag):zf P w K mg base:=
 F.ok zc λf z A i s H E q=>#[_,λ_ _=>O,(az (wI zc.nd O () (jt bq j () (qw 0) (ak (qw 1) aq) (gO (aB aP))))
  (az (b8 (bN (Mp q) Mr (qI (qw 2)) bT (bA _))
  (aD (bK (dz aq)))
  bH)
  (aD (bK (gH ["source"] ["row"] [2] O (jx (aG qe)) (cA (cP (ak (bj bD bF bT (qI (qw 2))) (ak (wR () (qw 1)) (ak (bj bD bF bT (qI (qw 2))) aq))))) (λ_ _ _ _=>(cQ 0 (show (["source","row"]:List Str).Nodup from by decide +kernel))) aM (λ_ _ _ _=>cN) (λ_ _ _ _=>(cP (ak (qw 0) (ak (bj bD bF bT (qI (qw 1))) aq)))))))))]
theorem zB(F:wO K ag "just_ahead" "Plan.just_ahead" mJ ["self","k"]):qH P w K mg base ag:=
 F.ok lM λf q A i s H E j=>#[_,λ_ _=>O,(az (cU 2 lM.nd (SK eT (Bj j) (wg bq (bi _ ()) (qw 0)) (uC (fP (wg bq (bi _ ()) (qw 0)) (qw 1) (λ_ _=>O)) jX (eX aQ)) (λ_ _=>O)))
  (az (cU 3 lM.nd (P2 (rR lg PySem.F.slot_list_index PySem.F.type_list_index (XF j) (qw 2) (ak (qw 1) aq))))
  (aD (bK (OA (bN (cG j) cH (qw 3) aQ (bA _)) Jg (fP (qw 2) (bj T4 QD (qw 3) aQ) (λ_ _=>O)))))))]
theorem JW(F:wO K ag "home" "Plan.home" u5 ["self","k"]):tX P w K mg base ag:=
 F.ok JQ λf j A i s H E q=>#[_,λ_ _=>O,(aD (bK (qI (fP (wg bq (bi _ ()) (qw 0)) (qw 1) (λ_ _=>O)))))]
theorem Hl(F:wO K ag "outer" "Plan.outer" tU ["self","k"]):wX P w K mg base ag:=
 F.ok Hf λf j A i s H E q=>#[_,λ_ _=>O,(aD (bK (qI (fP (wg bq (bi _ ()) (qw 0)) (qw 1) (λ_ _=>O)))))]
theorem JX(F:cL K mg "boxes_read" pZ ["expression"])(j:Dd P w K mg base):lw P w K mg base:=
 F.ok JP λf q A i s H E z=>#[_,λ_ _=>O,(aD (bK (gH ["name"] [] [] O (jx (aG pZ)) (cA (bL j () O (ak (qw 0) aq) (aB aP))) (λ_ _ _ _=>(cQ 0 (show (["name"]:List Str).Nodup from by decide +kernel))) aM (λ_ _ _ _=>cN) (λ_ _ _ _=>(wR () (qw 0))))))]
theorem DX(F:cL K mg "first_sources" lV ["plan","k"])(z:tX P w K mg base ag)(D:wX P w K mg base ag)(q:gQ P w K mg base ag)(N:lw P w K mg base):vg P w K mg base:=
 F.ok kh λf Q A j s H E i=>#[_,λ_ _=>O,(az (cU 2 kh.nd (jt bq D (i.mono ()) (qw 0) (ak (qw 1) aq) (gO (aB aP))))
  (az (b8 (bN T7 QC (qw 2) Jg (bA _))
  (aD (bK (dz (ak (cP (ak bT (ak (bj bD bF bT (jt bq z (i.mono ()) (qw 0) (ak (qw 1) aq) (gO (aB aP)))) aq))) aq))))
  bH)
  (az (cU 3 kh.nd (dz (ak (cP (ak bT (ak (wR () (qw 2)) aq))) aq)))
  (az (cU 4 kh.nd (jt bq q (i.mono ()) (qw 0) (ak (qw 2) aq) (gO (aB aP))))
  (az (b8 (bN (cG i) cH (qI (qw 4)) bT (bA _))
  (aD (nM (pv 3) (gH ["node"] [] [] O (jx (aG lV)) (cA (bL N (i.mono ()) O (ak (qI (qw 4)) aq) (aB aP))) (λ_ _ _ _=>(cQ 0 (show (["node"]:List Str).Nodup from by decide +kernel))) aM (λ_ _ _ _=>cN) (λ_ _ _ _=>(cP (ak bT (ak (qw 0) aq)))))))
  bH)
  (aD (gh (pv 3))))))))]
theorem Gh(F:cL K mg "turn_sources" rF ["plan","k"])(q:nu P w K mg base ag)(D:gQ P w K mg base ag)(i:tW P w K mg base)(N:lw P w K mg base):vQ P w K mg base:=
 F.ok qi λf Q A j s H E z=>#[_,λ_ _=>O,(az (cU 2 qi.nd (jt bq q (z.mono ()) (qw 0) (ak (qw 1) (ak aQ aq)) (gO (aB (aB aP)))))
  (az (cU 3 qi.nd (bL N (z.mono ()) O (ak (qI (jt bq D (z.mono ()) (qw 0) (ak (qw 1) aq) (gO (aB aP)))) aq) (aB aP)))
  (az (b8 (Fo (qw 2) (λ_=>O))
  (aD (nM (pv 3) (bL i () O (ak (qw 0) (ak (fP (qw 2) (v7 aQ) (λ_ _=>O)) aq)) (aB (aB aP)))))
  bH)
  (aD (gh (pv 3))))))]
theorem DY(F:cL K mg "begin_sources" jF ["plan","k"])(Q:qH P w K mg base ag)(z:gQ P w K mg base ag)(j:tW P w K mg base)(D:vg P w K mg base)(N:vQ P w K mg base):vh P w K mg base:=
 F.ok oU λf W A q s H E i=>#[_,λ_ _=>O,(az (cU 2 oU.nd (jt bq Q (i.mono ()) (qw 0) (ak (qw 1) aq) (gO (aB aP))))
  (az (cU 3 oU.nd (dz aq))
  (az (b8 (bN T7 QC (qw 2) Jg (bA _))
  (aD (nM (pv 3) (bL D (i.mono ()) O (ak (qw 0) (ak (qw 1) aq)) (aB (aB aP)))))
  (aD (nM (pv 3) (gH ["node"] [] [] O (jx (aG jF)) (cA (bL j (i.mono ()) O (ak (qw 0) (ak (qw 2) aq)) (aB (aB aP)))) (λ_ _ _ _=>(cQ 0 (show (["node"]:List Str).Nodup from by decide +kernel))) aM (λ_ _ _ _=>cN) (λ_ _ _ _=>(cP (ak bT (ak (qw 0) aq))))))))
  (az (b8 (bN (cG i) cH (qI (jt bq z (i.mono ()) (qw 0) (ak (qw 1) aq) (gO (aB aP)))) bT (bA _))
  (aD (nM (pv 3) (gH ["node"] [] [] O (jx (aG jF)) (cA (bL N (i.mono ()) O (ak (qw 0) (ak (qw 1) aq)) (aB (aB aP)))) (λ_ _ _ _=>(cQ 0 (show (["node"]:List Str).Nodup from by decide +kernel))) aM (λ_ _ _ _=>cN) (λ_ _ _ _=>(cP (ak bT (ak (qw 0) aq)))))))
  bH)
  (aD (gh (pv 3)))))))]
theorem Gi(F:wO K ag "params" "Plan.params" rH ["self","name"]):vR P w K mg base ag:=
 F.ok Gf λf q A i s H E j=>#[_,λ_ _=>O,(aD (bK (PE.imp (gA lX O (wW B) () (ak (P5 (Bj j) (wg bq (bi _ ()) (qw 0)) (qw 1) (λ_ _=>O)) aq)) (pP wK))))]
theorem Hm(F:cL K mg "given_steps" oA ["k","name","some"])(bm:lw P w K mg base):wY P w K mg base:=
 F.ok rJ λf hZ A outer s H E hr=>#[_,λ_ _=>rfl,(az (cU 3 rJ.nd (dz (ak (cP (ak bT (ak (wR () (qw 0)) (ak (wR () (qw 1)) aq)))) aq)))
  (az (fK gN rfl (cA (qw 2)) (cQ 4 rJ.nd) aM
  (aD (nM (pv 3) (gH ["node"] ["name"] [1] rfl (jx (aG oA)) (cA (bL bm (hr.mono ()) rfl (ak (qw 4) aq) (aB aP))) (λ_ _ _ _=>(cQ 0 (show (["node","name"]:List Str).Nodup from by decide +kernel))) aM (λ_ _ _ _=>cN) (λ_ _ _ _=>(cP (ak bT (ak (qw 0) (ak (wR () (qw 1)) aq)))))))))
  (aD (gh (pv 3)))))]
theorem JZ(F:cL K mg "done_steps" qd ["plan","k"])(be:vR P w K mg base ag)(bo:gQ P w K mg base ag)(bm:lw P w K mg base)(vX:tZ P w K mg base)(cp:wY P w K mg base):zg P w K mg base:=
 F.ok jD λf hZ A outer s H E hr=>#[_,λ_ _=>rfl,(az (cU 2 jD.nd (jt bq bo (hr.mono ()) (qw 0) (ak (qw 1) aq) (gO (aB aP))))
  (az (b8 (PW.pt (Ke (bN (cG hr) cH (qI (qw 2)) bT (bA _)) (Fp (bN (cG hr) cH (qI (qw 2)) bT (bA _)))))
  (aD (bK (bL cp (hr.mono ()) rfl (ak (qw 1) (ak (qI (qw 2)) (ak (bL vX (hr.mono ()) rfl (ak (qw 2) aq) (aB aP)) aq))) (aB (aB (aB aP))))))
  bH)
  (az (b8 (bN (cG hr) cH (qI (qw 2)) bT (bA _))
  (az (uA ["node"] ["k"] [1] jD.nd rfl rfl rfl (jx (aG qd)) (cA (bL bm (hr.mono ()) rfl (ak (qI (qw 2)) aq) (aB aP))) (λ_ _ _ _=>(cQ 0 (show (["node","k"]:List Str).Nodup from by decide +kernel))) aM (λ_ _ _ _=>cN) (λ_ _ _ _=>(cP (ak bT (ak (qw 0) (ak (wR () (qw 1)) aq))))))
  (aD (bK (bj bD bF (qw 3) (dz (ak (cP (ak bT (ak (wR () (qw 1)) (ak (bj bD bF bT (qI (qw 2))) aq)))) (ak (cP (ak bT (ak (wR () (qw 1)) (ak (bj bD bF bT (qI (qw 2))) aq)))) aq)))))))
  bH)
  (az (b8 (bN (cG hr) cH (qI (qw 2)) bT (bA _))
  (az (cU 3 jD.nd (dz (ak (cP (ak bT (ak (wR () (qw 1)) (ak (bj bD bF bT (qI (qw 2))) aq)))) aq)))
  (az (fK gN rfl (AT rfl (ER B) (ak (jt bq be (hr.mono ()) (qw 0) (ak (qI (qw 2)) aq) (gO (aB aP))) (ak (qI (qw 2)) aq))) (iW rfl (bM (cQ 4 jD.nd) (bM (cQ 5 jD.nd) gR))) (iY (bV aM (bV aM iU)))
  (aD (nM (pv 3) (bL cp (hr.mono ()) rfl (ak (qw 1) (ak (qw 4) (ak (dz (ak (qw 5) aq)) aq))) (aB (aB (aB aP)))))))
  (aD (gh (pv 3)))))
  bH)
  (aD (bK (dz aq)))))))]
theorem J0(F:wO K ag "body" "Plan.body" u6 ["self","name"]):zj P w K mg base ag:=
 F.ok (k:=0) JR λf hZ A outer s H E hr=>#[_,λ_ _=>rfl,(aD (bK (PE.imp (gA lX (by rfl) (wW B) (by kernel_rfl) (ak (Zi (by show eT) (Lg PySem.F.slot_dict_get PySem.F.type_dict_get (Qj (Bj hr)) (wg bq (bi _ (mI 1 rfl)) (qw 0)) (ak (cP (ak (qw 1) (ak Jg (ak aQ aq)))) (ak (dz aq) aq)))) aq)) (pP wK))))]
theorem Hn(F:cL K mg "leave_steps" oE ["plan","k"])(aT:zj P w K mg base ag)(cx:tX P w K mg base ag)(bg:jW P w K mg base ag)(c8:tW P w K mg base):w5 P w K mg base:=
 F.ok (k:=83) rK λf hZ A outer s H E hr=>#[_,λ_ _=>rfl,(az (wI (i:=2) rK.nd rfl (Or.inr rfl) (jt bq cx (hr.mono ()) (qw 0) (ak (qw 1) aq) (gO (aB aP))))
  (az (cU 3 rK.nd (jt bq aT (hr.mono ()) (qw 0) (ak (qw 2) aq) (gO (aB aP))))
  (az (b8 (PW.pt (Ke (bN (Mp hr) Mr (fP (qw 3) (v7 aQ) (λ_ _=>rfl)) (qw 1) (bA _)) (Fp (On (Fo (jt bq bg (hr.mono ()) (qw 0) (ak (qw 3) aq) (gO (aB aP))) (λ_=>rfl))))))
  (aD (bK (dz aq)))
  bH)
  (aD (bK (gH ["source"] ["home"] [2] rfl (jx (aG oE)) (cA (bL c8 (hr.mono ()) rfl (ak (qw 0) (ak (qw 1) aq)) (aB (aB aP)))) (λ_ _ _ _=>(cQ 0 (show (["source","home"]:List Str).Nodup from by decide +kernel))) aM (λ_ _ _ _=>cN) (λ_ _ _ _=>(cP (ak (qw 0) (ak (wR () (qw 1)) aq))))))))))]
theorem Yg(F:cL K mg "rules" rE ["program"])(vY:Cw P w K mg base ag)(ap:vf P w K mg base ag)(av:zf P w K mg base)(cv:vh P w K mg base)(cS:zg P w K mg base)(aS:w5 P w K mg base):M9 P w K mg base:=
 F.ok (k:=85) yJ λf hZ A outer s H E hr=>#[_,λ_ _=>rfl,(az (cU 1 yJ.nd (QU bq vY (hr.mono ()) rfl (ak (qw 0) aq) (gO (aB aP))))
  (az (cU 2 yJ.nd (dz aq))
  (az (fK gN rfl (cA (QO bq ap (hr.mono ()) (qw 1) rfl)) (PB (i:=3) yJ.nd rfl (Or.inr rfl)) aM
  (az (nM (pv 2) (gH ["kind","source"] ["k"] [3] rfl (jx (aG rE)) (cA (bL cv (hr.mono ()) rfl (ak (qw 1) (ak (qw 3) aq)) (aB (aB aP)))) (λ_ _ _ _=>(iW rfl (bM (cQ 0 (show (["kind","source","k"]:List Str).Nodup from by decide +kernel)) (bM (cQ 1 (show (["kind","source","k"]:List Str).Nodup from by decide +kernel)) gR)))) (iY (bV aM (bV aM iU))) (λ_ _ _ _=>cN) (λ_ _ _ _=>(cP (ak (qw 2) (ak aQ (ak (qw 0) (ak (qw 1) (ak (wR () (qw 2)) aq)))))))))
  (az (nM (pv 2) (gH ["kind","source","target"] ["k"] [3] rfl (jx (aG rE)) (cA (bL cS (hr.mono ()) rfl (ak (qw 1) (ak (qw 3) aq)) (aB (aB aP)))) (λ_ _ _ _=>(iW rfl (bM (cQ 0 (show (["kind","source","target","k"]:List Str).Nodup from by decide +kernel)) (bM (cQ 1 (show (["kind","source","target","k"]:List Str).Nodup from by decide +kernel)) (bM (cQ 2 (show (["kind","source","target","k"]:List Str).Nodup from by decide +kernel)) gR))))) (iY (bV aM (bV aM (bV aM iU)))) (λ_ _ _ _=>cN) (λ_ _ _ _=>(cP (ak (qw 3) (ak aQ (ak (qw 0) (ak (qw 1) (ak (qw 2) aq)))))))))
  (az (nM (pv 2) (gH ["source","target"] ["k"] [3] rfl (jx (aG rE)) (cA (bL av (hr.mono ()) rfl (ak (qw 1) (ak (qw 3) aq)) (aB (aB aP)))) (λ_ _ _ _=>(iW rfl (bM (cQ 0 (show (["source","target","k"]:List Str).Nodup from by decide +kernel)) (bM (cQ 1 (show (["source","target","k"]:List Str).Nodup from by decide +kernel)) gR)))) (iY (bV aM (bV aM iU))) (λ_ _ _ _=>cN) (λ_ _ _ _=>(cP (ak (qw 2) (ak aQ (ak bT (ak (qw 0) (ak (qw 1) aq)))))))))
  (aD (nM (pv 2) (gH ["source","target"] ["k"] [3] rfl (jx (aG rE)) (cA (bL aS (hr.mono ()) rfl (ak (qw 1) (ak (qw 3) aq)) (aB (aB aP)))) (λ_ _ _ _=>(iW rfl (bM (cQ 0 (show (["source","target","k"]:List Str).Nodup from by decide +kernel)) (bM (cQ 1 (show (["source","target","k"]:List Str).Nodup from by decide +kernel)) gR)))) (iY (bV aM (bV aM iU))) (λ_ _ _ _=>cN) (λ_ _ _ _=>(cP (ak (qw 2) (ak aQ (ak bT (ak (qw 0) (ak (qw 1) aq))))))))))))))
  (aD (bK (Gd (iQ (Ae rfl) (by rfl) (DR B) (by kernel_rfl) (wz (gA (Iu rfl hr.units) (by rfl) (S7 B) (by kernel_rfl) (ak (qw 2) aq)) zK))))))))]
theorem Gj(F:cL K mg "_law_cell_at" rG ["_law_script","_law_k"]):vU P w K mg base:=
 F.ok (k:=0) Ge λf hZ A outer s H E hr=>#[_,λ_ _=>rfl,(az (b8 (bN YS Vd (qw 1) (qL (eG B) (qw 0)) (bA _))
  (aD (bK (bj cg bQ (fP (qw 0) (qw 1) (λ_ _=>rfl)) aQ)))
  bH)
  (aD (bK aQ)))]
theorem J1(F:cL K mg "_law_names" mH ["_law_cell","_law_count"]):zm P w K mg base:=
 F.ok (k:=0) gq λf hZ A outer s H E hr=>#[_,λ_ _=>rfl,(az (wI (i:=2) gq.nd rfl (Or.inr rfl) bT)
  (az (cU 3 gq.nd (dz aq))
  (az (b8 (bN (cG hr) cH (bj cg bQ (qw 0) aQ) aQ (bA _))
  (az (cU 4 gq.nd (Zh (rR PySem.F.plainAttrs_str PySem.F.slot_str_join PySem.F.type_str_join QF bT (ak (gH ["_law_j"] ["_law_letters","_law_cell"] [2,0] rfl (jx (aG mH)) (mz rfl (pD B) (ak aQ aq)) (λ_ _ _ _=>(cQ 0 (show (["_law_j","_law_letters","_law_cell"]:List Str).Nodup from by decide +kernel))) aM (λ_ _ _ _=>cN) (λ_ _ _ _=>(fP (qw 1) (bj cg bQ (bj bD bF (bj dM cZ (qw 2) aQ) (bj nP lG aQ (qw 0))) aQ) (λ_ _=>rfl)))) aq))))
  (az (fK gN rfl (mz rfl (pD B) (ak (qw 1) aq)) (cQ 5 gq.nd) aM
  (aD (yE (pv 3) (rB (qw 4) (eX (bj cg bQ (qw 5) aQ)) (eX (bj bD bF (bj bD bF (bj cg bQ (qw 5) aQ) aQ) (bj dM cZ (qw 5) aQ)))))))
  (aD (gh (pv 3)))))
  bH)
  (az (cU 6 gq.nd (fP (dz (ak aQ (ak aQ (ak aQ (ak aQ (ak aQ (ak aQ (ak aQ aq)))))))) (bj cg bQ (bj dM cZ (qw 0) aQ) aQ) (λ_ _=>rfl)))
  (az (cU 7 gq.nd (bj cg bQ (bj dM cZ (qw 0) aQ) (qw 6)))
  (az (fK gN rfl (mz rfl (pD B) (ak (qw 1) aq)) (cQ 5 gq.nd) aM
  (az (uA (i:=8) ["_law_j"] ["_law_letters","_law_cell"] [2,0] gq.nd rfl rfl rfl (jx (aG mH)) (mz rfl (pD B) (ak (qw 6) aq)) (λ_ _ _ _=>(cQ 0 (show (["_law_j","_law_letters","_law_cell"]:List Str).Nodup from by decide +kernel))) aM (λ_ _ _ _=>cN) (λ_ _ _ _=>(fP (qw 1) (bj cg bQ (bj bD bF (bj dM cZ (qw 2) (bj bD bF (qw 0) aQ)) (bj nP lG (qw 0) (qw 0))) aQ) (λ_ _=>rfl))))
  (az (OX (KH (fP (qw 2) (bj cg bQ (bj bD bF (bj dM cZ (qw 0) aQ) (qw 5)) aQ) (λ_ _=>rfl)) (Eo (pv 8) (qw 7) set_list)))
  (aD (yE (pv 3) (Zh (rR PySem.F.plainAttrs_str PySem.F.slot_str_join PySem.F.type_str_join QF bT (ak (qw 8) aq))))))))
  (aD (gh (pv 3)))))))))]
theorem Av(F:cL K mg "_law_expression" nO ["_law_cell","_law_own","_law_lists"]):sY P w K mg base:=
 F.ok (k:=0) cR λf hZ A outer s H E hr=>#[_,λ_ _=>rfl,(az (cU 3 cR.nd (cP (ak bT (ak (bj cg bQ (bj nP lG (qw 0) aQ) (bj Ic OQ aQ aQ)) aq))))
  (az (b8 (PW.pt (pO (bN pL mC (qL (eG B) (qw 1)) aQ (bA _)) (mX (bN pL mC (bj cg bQ (qw 0) aQ) aQ (bA _)))))
  (aD (cU 3 cR.nd (cP (ak bT (ak (fP (qw 1) (bj cg bQ (bj dM cZ (qw 0) aQ) (qL (eG B) (qw 1))) (λ_ _=>rfl)) aq)))))
  bH)
  (az (fK gN rfl (mz rfl (pD B) (ak (fP (dz (ak aQ (ak aQ (ak aQ (ak aQ (ak aQ (ak aQ (ak aQ (ak aQ aq))))))))) (bj cg bQ (bj dM cZ (qw 0) aQ) aQ) (λ_ _=>rfl)) aq)) (cQ 4 cR.nd) aM
  (az (cU 5 cR.nd (bj cg bQ (bj nP lG (bj cg bQ (bj nP lG (qw 0) (bj bD bF (qw 4) aQ)) aQ) aQ) aQ))
  (az (cU 6 cR.nd (cP (ak bT (ak (bj cg bQ (qw 5) aQ) aq))))
  (az (b8 (PW.pt (pO (bN pL mC (qL (eG B) (qw 1)) aQ (bA _)) (mX (bN pL mC (bj cg bQ (qw 5) aQ) aQ (bA _)))))
  (aD (cU 6 cR.nd (cP (ak bT (ak (fP (qw 1) (bj cg bQ (bj dM cZ (qw 5) aQ) (qL (eG B) (qw 1))) (λ_ _=>rfl)) aq)))))
  bH)
  (az (b8 (PW.pt (pO (bN pL mC (qL (eG B) (qw 2)) aQ (bA _)) (mX (bN (cG hr) cH (bj cg bQ (qw 5) aQ) aQ (bA _)))))
  (aD (cU 6 cR.nd (cP (ak bT (ak (fP (qw 2) (bj cg bQ (bj dM cZ (qw 5) aQ) (qL (eG B) (qw 2))) (λ_ _=>rfl)) (ak (qw 6) aq))))))
  bH)
  (az (cU 7 cR.nd (fP bT (bj cg bQ (bj dM cZ (qw 5) aQ) aQ) (λ_ _=>rfl)))
  (aD (b8 (PW.pt (pO (bN pL mC (qL (eG B) (qw 2)) aQ (bA _)) (mX (bN (cG hr) cH (bj cg bQ (bj dM cZ (qw 5) aQ) aQ) aQ (bA _)))))
  (aD (cU 3 cR.nd (cP (ak bT (ak (fP (qw 2) (bj cg bQ (bj dM cZ (qw 5) aQ) (qL (eG B) (qw 2))) (λ_ _=>rfl)) (ak (qw 3) aq))))))
  (aD (b8 (bN (cG hr) cH (bj cg bQ (bj dM cZ (qw 5) aQ) aQ) aQ (bA _))
  (aD (cU 3 cR.nd (cP (ak (qw 7) (ak (qw 3) (ak (qw 6) aq))))))
  (aD (cU 3 cR.nd (cP (ak (qw 7) (ak (qw 6) (ak (qw 3) aq))))))))))))))))
  (aD (gh (pv 3))))))]
theorem Pk(F:cL K mg "_law_row" uo ["_law_cell","_law_own","_law_lists","_law_heads_here","_law_whos"])(oj:sY P w K mg base):De P w K mg base:=
 F.ok (k:=1) iy λf hZ A outer s H E hr=>#[_,λ_ _=>rfl,(az (cU 5 iy.nd (bL oj (hr.mono ()) rfl (ak (bj cg bQ (bj nP lG (qw 0) aQ) aQ) (ak (qw 1) (ak (qw 2) aq))) (aB (aB (aB aP)))))
  (az (cU 6 iy.nd (bL oj (hr.mono ()) rfl (ak (bj cg bQ (bj nP lG (qw 0) aQ) aQ) (ak (qw 1) (ak (qw 2) aq))) (aB (aB (aB aP)))))
  (az (cU 7 iy.nd (bj cg bQ (bj dM cZ (qw 0) aQ) aQ))
  (az (b8 (PW.pt (pO (bN (cG hr) cH (qw 7) aQ (bA _)) (mX (bN pL mC (qL (eG B) (qw 2)) aQ (bA _)))))
  (aD (bK (cP (ak bT (ak (fP (qw 2) (bj cg bQ (bj dM cZ (qw 0) aQ) (qL (eG B) (qw 2))) (λ_ _=>rfl)) (ak (qw 5) (ak (qw 6) aq)))))))
  bH)
  (az (b8 (bN (cG hr) cH (qw 7) aQ (bA _))
  (aD (bK (cP (ak bT (ak (qw 6) (ak (Fz (dz aq)) aq))))))
  bH)
  (az (b8 (PW.pt (Ke (bN (uR hr) qY (qw 7) (cP (ak aQ (ak aQ aq))) (by with_unfolding_all rfl)) (Fp (bN (cG hr) cH (qL (eG B) (qw 1)) aQ (bA _)))))
  (aD (bK (cP (ak bT (ak (qw 5) (ak (Fz (dz aq)) (ak (Fz (dz aq)) aq)))))))
  bH)
  (az (cU 8 iy.nd (fP (qw 1) (bj cg bQ (bj dM cZ (qw 0) aQ) (qL (eG B) (qw 1))) (λ_ _=>rfl)))
  (az (b8 (PW.pt (pO (bN (cG hr) cH (qw 7) aQ (bA _)) (mX (bN pL mC (qL (eG B) (qw 4)) aQ (bA _)))))
  (aD (bK (cP (ak bT (ak (qw 8) (ak (qw 5) (ak (fP (qw 4) (bj cg bQ (bj dM cZ (qw 0) aQ) (qL (eG B) (qw 4))) (λ_ _=>rfl)) aq)))))))
  bH)
  (az (b8 (PW.pt (pO (bN (uR hr) qY (qw 7) (cP (ak aQ (ak aQ aq))) (by with_unfolding_all rfl)) (mX (bN pL mC (qL (eG B) (qw 3)) aQ (bA _)))))
  (az (OG (fP (qw 3) (bj cg bQ (bj dM cZ (qw 0) aQ) (qL (eG B) (qw 3))) (λ_ _=>rfl)) (iW rfl (bM (cQ 9 iy.nd) (bM (cQ 10 iy.nd) gR))) (iY (bV aM (bV aM iU))))
  (az (uA (i:=11) ["_law_k"] ["_law_cell","_law_own","_law_lists"] [0,1,2] iy.nd rfl rfl rfl (jx (aG uo)) (mz rfl (pD B) (ak (qL (eG B) (qw 10)) aq)) (λ_ _ _ _=>(cQ 0 (show (["_law_k","_law_cell","_law_own","_law_lists"]:List Str).Nodup from by decide +kernel))) aM (λ_ _ _ _=>cN) (λ_ _ _ _=>(bL oj (hr.mono ()) rfl (ak (bj cg bQ (bj nP lG (qw 1) aQ) (bj T4 QD aQ (qw 0))) (ak (qw 2) (ak (qw 3) aq))) (aB (aB (aB aP))))))
  (aD (bK (cP (ak bT (ak (qw 8) (ak (qw 9) (ak (qw 11) aq)))))))))
  bH)
  (aD (bK (cP (ak bT (ak (qw 8) (ak (qw 6) aq)))))))))))))))]
theorem Nh(F:cL K mg "_law_rows" sE ["_law_cells","_law_own","_law_lists","_law_heads_here","_law_whos"])(v3:De P w K mg base):Ao P w K mg base:=
 F.ok (k:=2) mK λf hZ A outer s H E hr=>#[_,λ_ _=>rfl,(az (cU 5 mK.nd (Vg (dz aq)))
  (az (cU 6 mK.nd (Vg (dz (ak (Fz (dz (ak (qw 5) aq))) aq))))
  (az (fK gN rfl (cA (qw 0)) (cQ 7 mK.nd) aM
  (aD (b8 (PW.pt (pO (bN (cG hr) cH (bj cg bQ (qw 7) aQ) aQ (bA _)) (mX (bN pL mC (XH (iQ uJ (by rfl) (eG B) pb (ak (qw 6) aq))) aQ (bA _)))))
  (az (G5 (RO (rR lg PySem.F.slot_list_pop PySem.F.type_list_pop Wz (fP (qw 6) (v7 aQ) (λ_ _=>rfl)) (ak aQ aq))))
  (aD (b8 (bN (cG hr) cH (XH (iQ uJ (by rfl) (eG B) pb (ak (fP (qw 6) (v7 aQ) (λ_ _=>rfl)) aq))) aQ (bA _))
  (aD (G5 (RF (JI lg PySem.F.slot_list_pop PySem.F.type_list_pop JY (qw 6)))))
  bH)))
  (az (cU 8 mK.nd (bL v3 (hr.mono ()) rfl (ak (qw 7) (ak (qw 1) (ak (qw 2) (ak (qw 3) (ak (qw 4) aq))))) (aB (aB (aB (aB (aB aP)))))))
  (az (By (qK (rR lg oB oC oY (qI (fP (qw 6) (v7 aQ) (λ_ _=>rfl))) (ak (qw 8) aq))))
  (aD (b8 (PW.pt (pO (bN (uR hr) qY (qI (qw 8)) (cP (ak bT (ak bT aq))) (by with_unfolding_all rfl)) (mX (bN YS Vd (XH (iQ uJ (by rfl) (eG B) pb (ak (qw 6) aq))) aQ (bA _)))))
  (aD (By (qK (rR lg oB oC oY (qw 6) (ak (Fz (gH ["_law_inner"] [] [] rfl (jx (aG sE)) (cA (uC (qw 8) (eX aQ) jX)) (λ_ _ _ _=>(cQ 0 (show (["_law_inner"]:List Str).Nodup from by decide +kernel))) aM (λ_ _ _ _=>cN) (λ_ _ _ _=>(qw 0)))) aq)))))
  bH)))))))
  (aD (bK (RY (qw 5)))))))]
theorem J2(F:cL K mg "_law_heads" uZ ["_law_cell","_law_names_here"]):zp P w K mg base:=
 F.ok (k:=0) oG λf hZ A outer s H E hr=>#[_,λ_ _=>rfl,(az (cU 2 oG.nd (dz aq))
  (az (fK gN rfl (mz rfl (pD B) (ak (bj cg bQ (bj dM cZ (qw 0) aQ) aQ) aq)) (cQ 3 oG.nd) aM
  (az (cU 4 oG.nd (bj cg bQ (bj dM cZ (qw 0) (fP (dz (ak aQ (ak aQ (ak aQ (ak aQ aq))))) (qw 3) (λ_ _=>rfl))) aQ))
  (aD (yE (pv 2) (cP (ak (fP (qw 1) (bj bD bF aQ (qw 3)) (λ_ _=>rfl)) (ak (rB (qw 1) (eX (bj bD bF aQ (bj nP lG aQ (qw 3)))) (eX (bj bD bF (bj bD bF aQ (bj nP lG aQ (qw 3))) (qw 4)))) aq)))))))
  (aD (gh (pv 2)))))]
theorem Gk(F:cL K mg "_law_program" il ["_law_script"])(am:vU P w K mg base)(br:zp P w K mg base)(ay:zm P w K mg base)(aw:Ao P w K mg base):vV P w K mg base:=
 F.ok (k:=3) cD λf hZ A outer s H E hr=>#[_,λ_ _=>rfl,(az (wI (i:=1) cD.nd rfl (Or.inr rfl) (bL am (hr.mono ()) rfl (ak (qw 0) (ak aQ aq)) (aB (aB aP))))
  (az (cU 2 cD.nd (bL ay (hr.mono ()) rfl (ak (bL am (hr.mono ()) rfl (ak (qw 0) (ak aQ aq)) (aB (aB aP))) (ak aQ aq)) (aB (aB aP))))
  (az (wI (i:=3) cD.nd rfl (Or.inr rfl) (dz (ak Jg (ak bT (ak bT aq)))))
  (az (cU 4 cD.nd (rB (qw 2) jX (eX (bj cg bQ (qw 1) aQ))))
  (az (cU 5 cD.nd (rB (qw 2) (eX aQ) (eX (bj bD bF aQ (bj cg bQ (bj dM cZ (qw 1) aQ) aQ)))))
  (az (cU 6 cD.nd (bL br (hr.mono ()) rfl (ak (qw 1) (ak (qw 2) aq)) (aB (aB aP))))
  (az (uA (i:=7) ["_law_k","_law_name"] ["_law_ranks","_law_cell"] [3,1] cD.nd rfl rfl rfl (jx (aG il)) (Bx rfl (sO B) (ak (qw 4) aq)) (λ_ _ _ _=>(iW rfl (bM (cQ 0 (show (["_law_k","_law_name","_law_ranks","_law_cell"]:List Str).Nodup from by decide +kernel)) (bM (cQ 1 (show (["_law_k","_law_name","_law_ranks","_law_cell"]:List Str).Nodup from by decide +kernel)) gR)))) (iY (bV aM (bV aM iU))) (λ_ _ _ _=>cN) (λ_ _ _ _=>(cP (ak (qw 1) (ak aQ (ak (fP (qw 2) (bj cg bQ (bj bD bF (bj dM cZ (qw 3) aQ) (qw 0)) aQ) (λ_ _=>rfl)) aq))))))
  (az (cU 7 cD.nd (bj bD bF (qw 7) (gH ["_law_name"] ["_law_cell","_law_ranks"] [1,3] rfl (jx (aG il)) (cA (qw 5)) (λ_ _ _ _=>(cQ 0 (show (["_law_name","_law_cell","_law_ranks"]:List Str).Nodup from by decide +kernel))) aM (λ_ _ _ _=>cN) (λ_ _ _ _=>(cP (ak (qw 0) (ak (bj bD bF aQ (bj cg bQ (bj dM cZ (qw 1) aQ) aQ)) (ak (fP (qw 2) (bj cg bQ (bj dM cZ (qw 1) aQ) aQ) (λ_ _=>rfl)) aq))))))))
  (az (uA (i:=8) ["_law_number"] [] [] cD.nd rfl rfl rfl (jx (aG il)) (cA (rB (qw 0) (eX aQ) (eX aQ))) (λ_ _ _ _=>(cQ 0 (show (["_law_number"]:List Str).Nodup from by decide +kernel))) aM (λ_ _ _ _=>cN) (λ_ _ _ _=>(bj cg bQ (qw 0) aQ)))
  (az (cU 9 cD.nd (dz (ak bT aq)))
  (az (cU 10 cD.nd (dz aq))
  (az (fK gN rfl (Bx rfl (sO B) (ak (qw 6) aq)) (iW rfl (bM (cQ 11 cD.nd) (bM (cQ 12 cD.nd) gR))) (iY (bV aM (bV aM iU)))
  (az (cU 13 cD.nd (bL aw (hr.mono ()) rfl (ak (QM (qw 8) (eX (qw 11)) jX (eX (bj bD bF (qL (eG B) (qw 6)) aQ))) (ak (bj bD bF (bj bD bF (qw 4) (dz (ak (qI (qw 12)) aq))) (qI (qw 12))) (ak (qw 5) (ak (qw 6) (ak (qw 9) aq))))) (aB (aB (aB (aB (aB aP)))))))
  (aD (yE (pv 10) (cP (ak (qI (qw 12)) (ak (fP (qw 3) (bj cg bQ (bj bD bF (qw 1) (qw 11)) aQ) (λ_ _=>rfl)) (ak (gH ["_law_name"] [] [] rfl (jx (aG il)) (cA (qI (qw 12))) (λ_ _ _ _=>(cQ 0 (show (["_law_name"]:List Str).Nodup from by decide +kernel))) aM (λ_ _ _ _=>cN) (λ_ _ _ _=>(cP (ak (qw 0) (ak Jg aq))))) (ak (qw 13) aq)))))))))
  (az (cU 13 cD.nd (bL aw (hr.mono ()) rfl (ak (QM (qw 8) (eX (qL (eG B) (qw 6))) jX (eX (bj bD bF (qL (eG B) (qw 6)) aQ))) (ak (qw 4) (ak (qw 5) (ak (qw 6) (ak (qw 9) aq))))) (aB (aB (aB (aB (aB aP)))))))
  (aD (bK (cP (ak (qw 7) (ak (dz (ak (cP (ak bT (ak bT (ak bT aq)))) aq)) (ak (qw 10) (ak (qw 13) aq))))))))))))))))))))]
theorem Nj{n:Nat}(F:cL K mg "_law_read" sG ["_law_expression_here"])(cy:bI P w K mg base "_law_read" (0+n) ["_law_expression_here"] (bW K 1 (gK n))):bI P w K mg base "_law_read" (0+n+1) ["_law_expression_here"] (bW K 1 (gK (n+1))):=
 F.ok (k:=0+n) M7 λf hZ A outer s H E hr=>#[_,λ_ _=>rfl,(az (b8 (bN (cG hr) cH (qI (qw 0)) bT (bA _))
  (aD (bK (dz aq)))
  bH)
  (az (b8 (bN (cG hr) cH (qI (qw 0)) bT (bA _))
  (aD (bK (dz (ak (qI (qw 0)) aq))))
  bH)
  (az (b8 (bN (cG hr) cH (qI (qw 0)) bT (bA _))
  (aD (bK (bj bD bF (dz (ak (qI (qw 0)) aq)) (bL cy (hr.mono ()) rfl (ak (qI (qw 0)) aq) (aB aP)))))
  bH)
  (aD (bK (bj bD bF (bL cy (hr.mono ()) rfl (ak (qI (qw 0)) aq) (aB aP)) (bL cy (hr.mono ()) rfl (ak (qI (qw 0)) aq) (aB aP))))))))]
theorem zr(bp:cL K mg "_law_read" sG ["_law_expression_here"]):∀n:Nat,bI P w K mg base "_law_read" (0+n) ["_law_expression_here"] (bW K 1 (gK n))
 |0=>jY bp
 |n+1=>by let ih:=zr bp n;show Nj B bq bi eT bp ih
theorem Pn{n:Nat}(F:cL K mg "_law_all" uq ["_law_rows_here","_law_first","_law_told"])(ai:bI P w K mg base "_law_all" (0+n) ["_law_rows_here","_law_first","_law_told"] (bW K 3 (fL n))):bI P w K mg base "_law_all" (0+n+1) ["_law_rows_here","_law_first","_law_told"] (bW K 3 (fL (n+1))):=
 F.ok (k:=0+n) lK λf hZ A outer s H E hr=>#[_,λ_ _=>rfl,(az (cU 3 lK.nd (qw 1))
  (az (fK gN rfl (cA (qw 0)) (cQ 4 lK.nd) aM
  (az (By (qK (rR lg oB oC oY (qw 2) (ak (cP (ak (qw 3) (ak (qw 4) aq))) aq))))
  (az (cU 3 lK.nd (bj bD bF (qw 3) aQ))
  (aD (b8 (bN (uR hr) qY (qI (qw 4)) (cP (ak bT (ak bT aq))) (by with_unfolding_all rfl))
  (aD (fK gN rfl (cA (uC (qw 4) (eX aQ) jX)) (cQ 5 lK.nd) aM
  (aD (cU 3 lK.nd (bL ai (hr.mono ()) rfl (ak (qw 5) (ak (qw 3) (ak (qw 2) aq))) (aB (aB (aB aP))))))))
  bH)))))
  (aD (gh (pv 3)))))]
theorem Aw(v_:cL K mg "_law_all" uq ["_law_rows_here","_law_first","_law_told"]):∀n:Nat,bI P w K mg base "_law_all" (0+n) ["_law_rows_here","_law_first","_law_told"] (bW K 3 (fL n))
 |0=>jY v_
 |n+1=>by let ih:=Aw v_ n;show Pn B bq bi eT v_ ih
theorem UB(F:cL K mg "_law_value" uu ["_law_k","_law_name","_law_some"])(cy:Nb P w K mg base):ES P w K mg base:=
 F.ok (k:=40) qr λf hZ A outer s H E hr=>#[_,λ_ _=>rfl,(az (cU 3 qr.nd (dz (ak (cP (ak (qw 0) (ak aQ (ak bT (ak (bj bD bF bT (PE.imp (gA uI (by rfl) (S8 B) (by kernel_rfl) (ak (qw 0) aq)) (pP My))) (ak (bj bD bF bT (qw 1)) aq)))))) aq)))
  (az (fK gN rfl (cA (qw 2)) (cQ 4 qr.nd) aM
  (aD (fK gN rfl (cA (bL cy (hr.mono ()) rfl (ak (qw 4) aq) (aB aP))) (cQ 5 qr.nd) aM
  (aD (yE (pv 3) (cP (ak (qw 0) (ak aQ (ak bT (ak (bj bD bF bT (qw 5)) (ak (bj bD bF bT (qw 1)) aq)))))))))))
  (aD (gh (pv 3)))))]
theorem Pq(F:cL K mg "_law_due" ur ["_law_program_here","_law_k","_law_row_here"])(cy:Nb P w K mg base)(b9:ES P w K mg base):Df P w K mg base:=
 F.ok (k:=41) sI λf hZ A outer s H E hr=>#[_,λ_ _=>rfl,(az (cU 3 sI.nd (bj bD bF bT (PE.imp (gA uI (by rfl) (S8 B) (by kernel_rfl) (ak (qw 1) aq)) (pP My))))
  (az (b8 (bN (cG hr) cH (qI (qw 2)) bT (bA _))
  (aD (bK (bL b9 (hr.mono ()) rfl (ak (qw 1) (ak (qI (qw 2)) (ak (dz (ak (qI (qw 2)) aq)) aq))) (aB (aB (aB aP))))))
  bH)
  (az (b8 (bN (cG hr) cH (qI (qw 2)) bT (bA _))
  (aD (bK (bL b9 (hr.mono ()) rfl (ak (qw 1) (ak (qI (qw 2)) (ak (dz (ak (qI (qw 2)) (ak (qI (qw 2)) aq))) aq))) (aB (aB (aB aP))))))
  bH)
  (az (cU 4 sI.nd (dz aq))
  (az (b8 (bN (cG hr) cH (qI (qw 2)) bT (bA _))
  (az (uA (i:=4) ["_law_name_read"] ["_law_k"] [1] sI.nd rfl rfl rfl (jx (aG ur)) (cA (bL cy (hr.mono ()) rfl (ak (qI (qw 2)) aq) (aB aP))) (λ_ _ _ _=>(cQ 0 (show (["_law_name_read","_law_k"]:List Str).Nodup from by decide +kernel))) aM (λ_ _ _ _=>cN) (λ_ _ _ _=>(cP (ak (qw 1) (ak aQ (ak bT (ak (bj bD bF bT (qw 0)) (ak (bj bD bF bT (PE.imp (gA uI (by rfl) (S8 B) (by kernel_rfl) (ak (qw 1) aq)) (pP My))) aq))))))))
  (aD (cU 4 sI.nd (bj bD bF (qw 4) (dz (ak (cP (ak (qw 1) (ak aQ (ak bT (ak (bj bD bF bT (PE.imp (gA uI (by rfl) (S8 B) (by kernel_rfl) (ak (qw 1) aq)) (pP My))) (ak (bj bD bF bT (qI (qw 2))) aq)))))) (ak (cP (ak (qw 1) (ak aQ (ak bT (ak (qw 3) (ak (bj bD bF bT (qI (qw 2))) aq)))))) aq)))))))
  bH)
  (az (b8 (bN (cG hr) cH (qI (qw 2)) bT (bA _))
  (az (cU 4 sI.nd (dz (ak (cP (ak (qw 1) (ak aQ (ak bT (ak (qw 3) (ak (bj bD bF bT (qI (qw 2))) aq)))))) aq)))
  (aD (fK gN rfl (cA (qI (qw 0))) (iW rfl (bM (cQ 5 sI.nd) (bM (cQ 6 sI.nd) (bM (cQ 7 sI.nd) (bM (cQ 8 sI.nd) gR))))) (iY (bV aM (bV aM (bV aM (bV aM iU)))))
  (aD (b8 (bN (cG hr) cH (qw 5) (qI (qw 2)) (bA _))
  (aD (fK gN rfl (AT rfl (ER B) (ak (qw 7) (ak (qI (qw 2)) aq))) (iW rfl (bM (cQ 9 sI.nd) (bM (cQ 10 sI.nd) gR))) (iY (bV aM (bV aM iU)))
  (aD (cU 4 sI.nd (bj bD bF (qw 4) (bL b9 (hr.mono ()) rfl (ak (qw 1) (ak (qI (qw 9)) (ak (dz (ak (qw 10) aq)) aq))) (aB (aB (aB aP)))))))))
  bH)))))
  bH)
  (aD (gh (pv 4)))))))))]
theorem UC{f:Addr}{fd:FuncData}(F:vD K "law" "law" vP f fd)(ai:O9 P w K mg base)(wa:Df P w K mg base)(c0:vV P w K mg base)(wb:M9 P w K mg base):oK P w K mg base qD 87 f fd ["_law_script"] (bW K 1 S6):=
 vD.okP (k:=86) F jG λhZ A outer s H E hr=>#[_,λ_ _=>rfl,(az (cU 1 jG.nd (bL c0 (hr.mono ()) rfl (ak (qw 0) aq) (aB aP)))
  (az (cU 2 jG.nd (dz aq))
  (az (cU 3 jG.nd aQ)
  (az (fK gN rfl (cA (qI (qw 1))) (iW rfl (bM (cQ 4 jG.nd) (bM (cQ 5 jG.nd) (bM (cQ 6 jG.nd) (bM (cQ 7 jG.nd) gR))))) (iY (bV aM (bV aM (bV aM (bV aM iU)))))
  (aD (QJ (i:=2) (QQ (i:=2) (cU 3 jG.nd (bL ai (hr.mono ()) rfl (ak (qw 7) (ak (qw 3) (ak (qw 2) aq))) (aB (aB (aB aP)))))))))
  (az (QJ (i:=2) (QQ (i:=2) (G5 (bL ai (hr.mono ()) rfl (ak (qI (qw 1)) (ak (qw 3) (ak (qw 2) aq))) (aB (aB (aB aP)))))))
  (az (cU 8 jG.nd (dz aq))
  (az (fK gN rfl (cA (qw 2)) (iW rfl (bM (cQ 3 jG.nd) (bM (cQ 9 jG.nd) gR))) (iY (bV aM (bV aM iU)))
  (aD (cU 8 jG.nd (bj bD bF (qw 8) (bL wa (hr.mono ()) rfl (ak (qw 1) (ak (qw 3) (ak (qw 9) aq))) (aB (aB (aB aP))))))))
  (az (cU 10 jG.nd (bL wb (hr.mono ()) rfl (ak (qw 1) aq) (aB aP)))
  (aD (bK (Oy (Xk (cG hr) cH (gH ["_law_rule"] [] [] rfl (jx (aG vP)) (cA (qw 10)) (λ_ _ _ _=>(cQ 0 (show (["_law_rule"]:List Str).Nodup from by decide +kernel))) aM (λ_ _ _ _=>(Xr (bN (cG hr) cH (qI (qw 0)) aQ (bA _)))) (λ_ _ _ _=>(qw 0))) (Gd (iQ (Ae rfl) (by rfl) (DR B) (by kernel_rfl) (wz (gA (Iu rfl hr.units) (by rfl) (S7 B) (by kernel_rfl) (ak (qw 8) aq)) zK))) (bA _)) (Op (Xk (cG hr) cH (qw 1) (bL c0 (hr.mono ()) rfl (ak (qw 0) aq) (aB aP)) (bA _))))))))))))))]
end
mutual
def vo:PV->Nat
 |.tup ps=>cr ps+1
 |_=>1
def cr:List PV->Nat
 |[]=>0
 |p::ps=>max (vo p) (cr ps)
end
def fl(p:PV):Prop:=di p=true/\vo p<=20
def fls(ps:List PV):Prop:=cw ps=true/\cr ps<=20
def iR{p:PV}{ps:List PV}(h:fl p)(t:fls ps):fls (p::ps):=by
 let(h1,h2):=h;let(t1,t2):=t;show#[?_,?_]
 . show (di p&&cw ps)=true;rw[h1,t1];rfl
 . show max (vo p) (cr ps)<=20;lia
def uD:fls []:=#[rfl,gy _]
def iZ{x:Str}:fl (.str x):=#[rfl,by show 1<=20;decide]
def Nk:fl .non:=#[rfl,by show 1<=20;decide]
noncomputable abbrev zI (x:Int):Option Lc:=!(.sh (.int x))
abbrev zT(x:Str):Option Lc:=!(.sh (.str x))
abbrev zL(x:List PV):Option Lc:=!(.sh (.lst x))
abbrev zO(x:List PV):Option Lc:=!(.own (.lst x))
noncomputable abbrev zS (x:PV):Option Lc:=!(.sh x)
mutual
inductive c9 where
 |leaf (w:Str) (ps:List PV)
 |call (b:PV) (n:Str) (as:List PV)
 |wh (e:PV) (b:Rows)
 |iff (e:PV) (b c:Rows)
inductive Rows where
 |nil
 |cons (r:c9) (rs:Rows)
end
mutual
noncomputable def c9.pv:c9->PV
 |.leaf w ps=>.tup (.str w::ps)
 |.call b n as=>.tup [.str "call",b,.str n,.lst as]
 |.wh e b=>.tup [.str "while",e,.lst b.pvs]
 |.iff e b c=>.tup [.str "if",e,.lst b.pvs,.lst c.pvs]
noncomputable def Rows.pvs:Rows->List PV
 |.nil=>[]
 |.cons r rs=>r.pv::rs.pvs
end
mutual
def c9.dep:c9->Nat
 |.leaf _ _=>1
 |.call _ _ _=>1
 |.wh _ b=>b.dep+1
 |.iff _ b c=>max b.dep c.dep+1
def Rows.dep:Rows->Nat
 |.nil=>1
 |.cons r rs=>max (r.dep+1) rs.dep
end
theorem Rows.dep_pos:∀b:Rows,1<=b.dep
 |.nil=>eK _
 |.cons r rs=>gL (Rows.dep_pos rs) (Nat.le_max_right _ _)
def iP(w:Str):Prop:=(w== "if")=false/\(w== "while")=false/\(w== "call")=false
def ET(s:Str):Prop:=(s== "num")=false/\(s== "box")=false/\(s== "@")=false
inductive Rd:Nat->PV->List Str->Prop
 |num (n:Nat) (i:Int):Rd (n+1) (.tup [.str "num",.int i]) []
 |box (n:Nat) (x:Str):Rd (n+1) (.tup [.str "box",.str x]) [x]
 |at_ {n:Nat} {p:PV} {a:List Str} (x:Str) (h:Rd n p a):Rd (n+1) (.tup [.str "@",.str x,p]) (x::a)
 |op {n:Nat} {s:Str} {p q:PV} {a b:List Str} (hs:ET s) (h:Rd n p a) (g:Rd n q b):Rd (n+1) (.tup [.str s,p,q]) (a++b)
def Rd.mono{n m:Nat}{p:PV}{a:List Str}(h:Rd n p a):n<=m->Rd m p a:=by
 induction h generalizing m with
 |num n i=>intro l;obtain⟨k,rfl⟩:∃k,m=k+1:=#[m-1,()];show .num k i
 |box n x=>intro l;obtain⟨k,rfl⟩:∃k,m=k+1:=#[m-1,()];show .box k x
 |at_ x _ ih=>intro l;obtain⟨k,rfl⟩:∃k,m=k+1:=#[m-1,()];show .at_ x (ih ())
 |op hs _ _ ih jh=>intro l;obtain⟨k,rfl⟩:∃k,m=k+1:=#[m-1,()];show .op hs (ih ()) (jh ())
def Rd.flat{n:Nat}{p:PV}{a:List Str}(h:Rd n p a):di p=G/\vo p<=n+1:=by
 induction h with
 |num n i=>show#[O,by show 1+1<=_;lia]
 |box n x=>show#[O,by show 1+1<=_;lia]
 |at_ x _ j=>show#[by simp[di,cw,j.1],by simp only[vo,cr];lia]
 |op hs _ _ j q=>show#[by simp[di,cw,j.1,q.1],by simp only[vo,cr];lia]
abbrev Sh(a:List Str):Prop:=∀x∈a,-x<=100
def XG(p:PV):Prop:=∃n a,Rd n p a/\n<=15/\-a<=9/\Sh a
theorem XG.fl{p:PV}(h:XG p):fl p:=by let(n,a,h,l,_):=h;show#[h.flat.1,by have:=h.flat.2;lia]
theorem Gm:∀{i:List PV},(∀a∈i,XG a)->fls i
 |[],_=>uD
 |a::i,h=>iR (h a ed).fl (Gm λb j=>h b (e_ _ j))
inductive Lf:Str->List PV->Prop
 |set_ {x:Str} {e:PV} (h:-x<=100) (g:XG e):Lf "set" [.str x,e]
 |put {x:Str} {e f:PV} (h:-x<=100) (g:XG e) (g2:XG f):Lf "put" [.str x,e,f]
 |out {x:Str} {e:PV} (y:Str) (h:-x<=100) (g:XG e):Lf "out" [.str x,e,.str y]
theorem Lf.fls{w:Str}{ps:List PV}(h:Lf w ps):fls ps:=by
 cases h with
 |set_ _ g=>show iR iZ (iR g.fl uD)
 |put _ g j=>show iR iZ (iR g.fl (iR j.fl uD))
 |out y _ g=>show iR iZ (iR g.fl (iR iZ uD))
class FN where
 fn:Str->Prop
section
variable [HK][FN]
mutual
def c9.ok:c9->Prop
 |.leaf w ps=>iP w/\Lf w ps
 |.call b n as=>(∃x:Str,b=ZH x/\-x<=100)/\-n<=1000/\(∀a∈as,XG a)/\-as<=26/\FN.fn n
 |.wh e b=>XG e/\b.ok
 |.iff e b c=>XG e/\b.ok/\c.ok
def Rows.ok:Rows->Prop
 |.nil=>True
 |.cons r rs=>r.ok/\rs.ok
end
mutual
noncomputable def c9.cnt:c9->Nat
 |.leaf _ _=>1
 |.call _ _ _=>1
 |.wh _ b=>b.cnt+1
 |.iff _ b c=>b.cnt+c.cnt+1
noncomputable def Rows.cnt:Rows->Nat
 |.nil=>0
 |.cons r rs=>r.cnt+rs.cnt
end
def c9.cnt_pos:∀r:c9,1<=r.cnt:=λr=>by cases r<;>simp[c9.cnt]
def bw{f:EF}{a b:Str}{Y Y1:Ev}(h:f Y=!(Zp (ZH a),Y1)):tT (au fB f (d_ b)) aY Y=!(a==b,Y1):=jU (l:=Zp (.bl (a==b))) (bC h O O) O
def bG{c:TF}{f g:SF}{Y Y1:Ev}{b:Bool}(h:c Y=!(b,Y1))(i:b=M):aF (cC c f bR) g Y=g Y1:=by subst i;show G7 ((lU h).trans O)
def d7{c:TF}{f g:SF}{Y Y1 Y2:Ev}{b:Bool}{r:Lc}(h:c Y=!(b,Y1))(i:b=G)(h2:f Y1=!(.rt r Y2)):aF (cC c f bR) g Y=!(.rt r Y2):=by subst i;show G8 ((lR h).trans h2)
def nA{c:TF}{f g:SF}{Y Y1 Y2:Ev}{b:Bool}(h:c Y=!(b,Y1))(i:b=G)(h2:f Y1=!(.nx Y2)):aF (cC c f bR) g Y=g Y2:=by subst i;show G7 ((lR h).trans h2)
def md{p:PV}{t:List PV}:fO (p::t) 0=!p:=by let(x,h,h2):=uT (l:=p::t) (i:=0) () (by simp only[d6];lia);rw[h,<-h2];rfl
abbrev E1(p:PV)(mu:Mu):Ev:=#[[zS p],mu]
def w0{w:Str}{ps:List PV}{mu:Mu}:aJ (aa 0) (bh 0) (E1 (ZB (ZH w::ps)) mu)=!(Zp (ZH w),E1 (ZB (ZH w::ps)) mu):=
 dG (p:=ZB (ZH w::ps)) (q:=ZI 0) (l:=Zp (ZB (ZH w::ps))) (m:=Zp (ZI 0)) O O O O (λn h=>by cases h) (by show (fO (PV.str w::ps) 0).map _=_;rw[md];rfl)
def fY{b:BF}{te:EF}{x:PV}{xs:List PV}{Y Y1 Y2:Ev}{acc:List PV}{l:Lc}{ZN:Option (List PV×Mu)}(h1:b x Y=!Y1)(h2:te Y1=!(l,Y2))(j:-acc<100000)(i:dF b bB te xs Y2 (acc++[l.pv])=ZN):dF b bB te (x::xs) Y acc=ZN:=by show (b x Y).bind _=ZN;rw[h1,eH];show (te Y1).bind _=ZN;rw[h2,eH,dA j];show i
abbrev EU(n:Nat):EF:=aN (kE n) (aj (aa 0) ao)
def Nm{rs:Rows}{n:Nat}{mu:Mu}(h:dF (aC 0) bB (EU n) rs.pvs #[[J],mu] []=!([]++rs.pvs,mu)):cK (n+1) [R rs.pvs] mu=!(Zs (R rs.pvs),mu):=
 aO (Y:=#[[zL rs.pvs],mu]) (cT (eF (m:=1) (ixs:=[]) (Y1:=E1 (R rs.pvs) mu) (xs:=rs.pvs) (dC (l:=Zp (R rs.pvs)) O O) h))
mutual
theorem Jp:∀(r:c9)(f:Nat)(mu:Mu),r.ok->r.dep<=f->r.cnt<=1000->kE f [r.pv] mu=!(Zp r.pv,mu)
 |.leaf w ps=>λf mu ok j q=>by obtain⟨m,rfl⟩:∃m,f=m+1:=#[f-1,by simp only[c9.dep]at j;lia];let((h1,h2,N),_):=ok;show aO (Y:=#[[J],mu]) ?_;show(bG (bw w0) h1).trans ((bG (bw w0) h2).trans ((bG (bw w0) N).trans O))
 |.call b n i=>λf mu ok j q=>by obtain⟨m,rfl⟩:∃m,f=m+1:=#[f-1,by simp only[c9.dep]at j;lia];show aO (Y:=E1 (c9.call b n i).pv mu) ?_;show(bG (bw w0) ()).trans ((bG (bw w0) ()).trans (d7 (bw w0) () (cT (dm (ls:=[Zp (ZH "call"),Zp b,Zp (ZH n),Zs (R i)]) ?_ O O))));show aA (Y1:=E1 (c9.call b n i).pv mu) O (aA (Y1:=E1 (c9.call b n i).pv mu) O (aA (Y1:=E1 (c9.call b n i).pv mu) O (aA (Y1:=E1 (c9.call b n i).pv mu) (jN (ls:=[Zp (R i)]) (Y1:=E1 (c9.call b n i).pv mu) (aA (Y1:=E1 (c9.call b n i).pv mu) O O) O O) O)))
 |.wh e b=>λf mu ok j q=>by
  simp only[c9.dep]at j;simp only[c9.cnt]at q;obtain⟨m,rfl⟩:∃m,f=m+1:=#[f-1,()];have W:1<=b.dep:=Rows.dep_pos b;obtain⟨m,rfl⟩:∃k,m=k+1:=#[m-1,()];let D:=Nm (ba b m mu J [] ok.2 () (by simp only[eQ];lia));let P:_:=(c9.wh e b).pv;have z:aN (cK (m+1)) kX (E1 P mu)=!(Zs (R b.pvs),E1 P mu):=
   aR (ls:=[Zp (R b.pvs)]) (ps:=[R b.pvs]) (Y1:=E1 P mu) O O O O D
  show aO (Y:=E1 P mu) ?_;show(bG (bw w0) ()).trans (d7 (bw w0) () (cT (dm (ls:=[Zp (ZH "while"),Zp e,Zs (R b.pvs)]) (Y1:=E1 P mu) (aA (Y1:=E1 P mu) O (aA (Y1:=E1 P mu) O (aA z O))) O O)))
 |.iff e b c=>λf mu ok j q=>by
  simp only[c9.dep]at j;simp only[c9.cnt]at q;obtain⟨m,rfl⟩:∃m,f=m+1:=#[f-1,()];have W:1<=b.dep:=Rows.dep_pos b;obtain⟨m,rfl⟩:∃k,m=k+1:=#[m-1,()];let D:=Nm (ba b m mu J [] ok.2.1 () (by simp only[eQ];lia));let F:=Nm (ba c m mu J [] ok.2.2 () (by simp only[eQ];lia));let P:_:=(c9.iff e b c).pv;have z:aN (cK (m+1)) kX (E1 P mu)=!(Zs (R b.pvs),E1 P mu):=
   aR (ls:=[Zp (R b.pvs)]) (ps:=[R b.pvs]) (Y1:=E1 P mu) O O O O D
  have Q:aN (cK (m+1)) AU (E1 P mu)=!(Zs (R c.pvs),E1 P mu):=
   aR (ls:=[Zp (R c.pvs)]) (ps:=[R c.pvs]) (Y1:=E1 P mu) O O O O F
  show aO (Y:=E1 P mu) ?_;show d7 (bw w0) () (cT (dm (ls:=[Zp (ZH "if"),Zp e,Zs (R b.pvs),Zs (R c.pvs)]) (aA (Y1:=E1 P mu) O (aA (Y1:=E1 P mu) O (aA z (aA Q O)))) O O))
theorem ba:∀(rs:Rows)(n:Nat)(mu:Mu)(o:Option Lc)(acc:List PV),rs.ok->rs.dep<=n+1->-acc+rs.cnt<=1000->dF (aC 0) bB (EU n) rs.pvs #[[o],mu] acc=!(acc++rs.pvs,mu)
 |.nil=>λn mu o acc _ _ _=>by simp[Rows.pvs,dF]
 |.cons r rs=>λn mu o acc ok j q=>by simp only[Rows.dep]at j;simp only[Rows.cnt]at q;let h1:=r.cnt_pos;let z:=Jp r n mu ok.1 () ();let i:=ba rs n mu (zS r.pv) (acc++[r.pv]) ok.2 () (by rw[eM];simp only[d6,eQ];lia);show fY (Y1:=E1 r.pv mu) (Y2:=E1 r.pv mu) (l:=Zp r.pv) O (aR (ls:=[Zp r.pv]) (ps:=[r.pv]) (Y1:=E1 r.pv mu) O O O O z) () (i.trans ?_);simp only[Rows.pvs,fm];rfl
end
structure eR where
 w:Str
 ab:PV
 bl:Int
 r:c9
def eR.pv(e:eR):PV:=ZB [ZH e.w,e.ab,ZI e.bl,e.r.pv]
mutual
noncomputable def c9.es:c9->Str->PV->Int->Nat->List eR
 |.leaf x ps,w,ab,bl,_=>[#[w,ab,bl,.leaf x ps]]
 |.call b n as,w,ab,bl,_=>[#[w,ab,bl,.call b n as]]
 |.wh e b,w,ab,bl,k=>#[w,ab,bl,.wh e b]::b.es w (ZI k) 0 (k+1)
 |.iff e b c,w,ab,bl,k=>#[w,ab,bl,.iff e b c]::(b.es w (ZI k) 0 (k+1)++c.es w (ZI k) 1 (k+1+b.cnt))
noncomputable def Rows.es:Rows->Str->PV->Int->Nat->List eR
 |.nil,_,_,_,_=>[]
 |.cons r rs,w,ab,bl,k=>r.es w ab bl k++rs.es w ab bl (k+r.cnt)
end
mutual
theorem c9.es_len:∀(r:c9)(w:Str)(ab:PV)(bl:Int)(k:Nat),-(r.es w ab bl k)=r.cnt
 |.leaf _ _,w,ab,bl,k=>rfl
 |.call _ _ _,w,ab,bl,k=>rfl
 |.wh e b,w,ab,bl,k=>by simp[c9.es,c9.cnt,Rows.es_len b]
 |.iff e b c,w,ab,bl,k=>by simp[c9.es,c9.cnt,Rows.es_len b,Rows.es_len c]
theorem Rows.es_len:∀(rs:Rows)(w:Str)(ab:PV)(bl:Int)(k:Nat),-(rs.es w ab bl k)=rs.cnt
 |.nil,w,ab,bl,k=>rfl
 |.cons r rs,w,ab,bl,k=>by simp[Rows.es,Rows.cnt,c9.es_len r,Rows.es_len rs]
end
abbrev fT(l:List eR):List PV:=l.map eR.pv
def Hr(a b:List eR):fT (a++b)=fT a++fT b:=fx
def nC(a:List eR):-(fT a)=-a:=eI _
def xg{j q:EF}{Y Y1 Y2:Ev}{o y:Lc}{n:Nat}{ws0 ws:List PV}{p:PV}{mu:Mu}(h1:j Y=!(o,Y1))(F:o.pv=ZA n)(N:Y1.mu[n]?=!(!(R ws0)))(h2:q Y1=!(y,Y2))(z:y.pv=p)(i:Y2.mu[n]?=!(!(R ws)))(D:-ws<100000)(e:Y2.mu.set n (!(R (ws++[p])))=mu):ou j q Y=!(.nx #[Y2.vs,mu]):=by unfold ou;rw[h1,eH,F];dsimp only;rw[N];dsimp only;rw[h2,eH,i];dsimp only;rw[dA D,z,e]
def gw{b:BF}{body:SF}{x:PV}{xs:List PV}{Y Y1 Y2:Ev}{ZN:Option Fl}(h1:b x Y=!Y1)(h2:body Y1=!(.nx Y2))(i:eN b body xs Y2=ZN):eN b body (x::xs) Y=ZN:=by show (b x Y).bind _=_;rw[h1,eH,h2,eH];show i
def S9{b:BF}{body:SF}{x:PV}{Y Y1 Y2:Ev}(h1:b x Y=!Y1)(h2:body Y1=!(.nx Y2)):eN b body [x] Y=!(.nx Y2):=gw h1 h2 O
def Np{b:BF}{body:SF}{x y:PV}{Y Y1 Y2 Y3 Y4:Ev}(h1:b x Y=!Y1)(h2:body Y1=!(.nx Y2))(i:b y Y2=!Y3)(j:body Y3=!(.nx Y4)):eN b body [x,y] Y=!(.nx Y4):=gw h1 h2 (S9 i j)
def sS{w:Str}{ps:List PV}{mu:Mu}(h1:(w== "if")=M)(h2:(w== "while")=M):gJ [ZB (ZH w::ps)] mu=!(Zs (R []),mu):=
 aO (Y:=E1 (ZB (ZH w::ps)) mu) ((bG (bw w0) h1).trans ((bG (bw w0) h2).trans O))
def Jq{e p:PV}{mu:Mu}:gJ [ZB [ZH "while",e,p]] mu=!(Zs (R [p]),mu):=
 aO (Y:=E1 (ZB [ZH "while",e,p]) mu) ((bG (bw w0) ()).trans (d7 (bw w0) () O))
def Jr{e p q:PV}{mu:Mu}:gJ [ZB [ZH "if",e,p,q]] mu=!(Zs (R [p,q]),mu):=
 aO (Y:=E1 (ZB [ZH "if",e,p,q]) mu) (d7 (bw w0) () O)
abbrev LE(w:Str)(ab:PV)(bl:Int)(X:PV)(st:Nat)(acc:List PV)(o6 o7 o8 o9:Option Lc)(mu:Mu):Ev:=#[[zT w,zS ab,zI bl,zS X,zI st,zO acc,o6,o7,o8,o9],mu]
abbrev wc(n:Nat):SF:=gb 5 (aN (gP n) A9)
abbrev Zj(n:Nat):SF:=aF A0
 (aF A8
 (fX (uU (aN gJ (aj (aa 6) ao))) u4 (wc n)))
def Nq{n:Nat}{w:Str}{ab X:PV}{bl pl:Int}{st k:Nat}{acc qs:List PV}{o6:Option Lc}{p:PV}{mu:Mu}(h:gP n [ZH w,ZI k,ZI pl,p,ZI ((st+-acc:Nat):Int)] mu=!(Zs (R qs),mu))(j:-acc+-qs<=100000):
 wc n (LE w ab bl X st acc o6 (zI k) (zI pl) (zS p) mu)=!(.nx (LE w ab bl X st (acc++qs) o6 (zI k) (zI pl) (zS p) mu)):=
 jZ (i:=5) (ws0:=acc) (ws:=acc) (ps:=qs) (l:=Zs (R qs)) (Y1:=LE w ab bl X st acc o6 (zI k) (zI pl) (zS p) mu) O
  (aR (ls:=[Zp (ZH w),Zp (ZI k),Zp (ZI pl),Zp p,Zp (ZI ((st:Int)+-acc))]) (ps:=[ZH w,ZI k,ZI pl,p,ZI ((st+-acc:Nat):Int)]) (Y1:=LE w ab bl X st acc o6 (zI k) (zI pl) (zS p) mu) O (by simp[Lc.pv]) O O h) O O j O
abbrev en(w:Str)(ab:PV)(bl:Int)(r:c9):PV:=ZB [ZH w,ab,ZI bl,r.pv]
def Gn{n:Nat}{w:Str}{ab X:PV}{bl:Int}{st:Nat}{acc:List PV}{o7 o8 j:Option Lc}{mu:Mu}{r:c9}{ZN:Option Fl}{bs:List PV}(ok:r.ok)(q:r.dep<=40)(F:r.cnt<=1000)(N:-acc<1000)(D:∀mu,gJ [r.pv] mu=!(Zs (R bs),mu))
 (h:eN u4 (wc n) (ue bs) (LE w ab bl X st (acc++[en w ab bl r]) (zS r.pv) (zI ((st+-acc:Nat):Int)) o8 j mu)=ZN):
 Zj n (LE w ab bl X st acc (zS r.pv) o7 o8 j mu)=ZN:=by
 let z:=Jp r 40 mu ok q F;let E:_:=LE w ab bl X st acc (zS r.pv) (zI ((st+-acc:Nat):Int)) o8 j mu;show aH (Y':=E) (bu (l:=Zp (ZI ((st:Int)+-acc))) (Y1:=LE w ab bl X st acc (zS r.pv) o7 o8 j mu) O O (by show _=LE w ab bl X st acc (zS r.pv) (zI ((st+-acc:Nat):Int)) o8 j mu;rw[Int.natCast_add];rfl)) ?_;show aH (Y':=LE w ab bl X st (acc++[en w ab bl r]) (zS r.pv) (zI ((st+-acc:Nat):Int)) o8 j mu) ?_ ?_
 . show pR (i:=5) (ws0:=acc) (ws:=acc) (p:=en w ab bl r) (l:=Zp (en w ab bl r)) (Y1:=E) O
    (dm (ls:=[Zp (ZH w),Zp ab,Zp (ZI bl),Zp r.pv]) (aA (Y1:=E) O (aA (Y1:=E) O (aA (Y1:=E) O (aA (aR (ls:=[Zp r.pv]) (ps:=[r.pv]) (Y1:=E) O O O O z) O)))) O O) O O () O
 . show eO (xs:=ue bs) (Y1:=LE w ab bl X st (acc++[en w ab bl r]) (zS r.pv) (zI ((st+-acc:Nat):Int)) o8 j mu) ?_ h;unfold uU;rw[aR (ls:=[Zp r.pv]) (ps:=[r.pv]) (Y1:=LE w ab bl X st (acc++[en w ab bl r]) (zS r.pv) (zI ((st+-acc:Nat):Int)) o8 j mu) O O O O (D _),eH];rfl
def Kp{rs:Rows}{n:Nat}{w:Str}{ab:PV}{bl:Int}{st:Nat}{mu:Mu}
 (h:∃o6 o7 o8 i,eN (aC 6) (Zj n) rs.pvs (LE w ab bl (R rs.pvs) st [] J J J J mu)=!(.nx (LE w ab bl (R rs.pvs) st ([]++fT (rs.es w ab bl (st+0))) o6 o7 o8 i mu))):
 gP (n+1) [ZH w,ab,ZI bl,R rs.pvs,ZI st] mu=!(Zs (R (fT (rs.es w ab bl st))),mu):=by
 let(o6,o7,o8,i,h):=h;show aO (Y:=#[[zT w,zS ab,zI bl,zL rs.pvs,zI st,J,o6,o7,o8,i],mu]) ?_;show aH (Y':=LE w ab bl (R rs.pvs) st [] J J J J mu) O (aH (eO (xs:=rs.pvs) (Y1:=LE w ab bl (R rs.pvs) st [] J J J J mu) (dC (l:=Zp (R rs.pvs)) O O) h) O)
mutual
theorem UD:∀(r:c9)(n:Nat)(w:Str)(ab:PV)(bl:Int)(X:PV)(st:Nat)(acc:List PV)(o7 o8 F:Option Lc)(mu:Mu),r.ok->r.dep<=n->r.dep<=40->-acc+r.cnt<=1000->
 ∃p7 p8 p9,Zj n (LE w ab bl X st acc (zS r.pv) o7 o8 F mu)=!(.nx (LE w ab bl X st (acc++fT (r.es w ab bl (st+-acc))) (zS r.pv) p7 p8 p9 mu))
 |.leaf x ps=>λn w ab bl X st acc o7 o8 F mu ok Q q N=>by simp only[c9.cnt]at N;show#[zI ((st+-acc:Nat):Int),o8,F,Gn (r:=.leaf x ps) ok q (by simp only[c9.cnt];lia) () (λmu=>sS ok.1.1 ok.1.2.1) O]
 |.call b m as=>λn w ab bl X st acc o7 o8 F mu ok Q q N=>by simp only[c9.cnt]at N;show#[zI ((st+-acc:Nat):Int),o8,F,Gn (r:=.call b m as) ok q (by simp only[c9.cnt];lia) () (λmu=>sS () ()) O]
 |.wh e b=>λn w ab bl X st acc o7 o8 F mu ok Q q N=>by
  simp only[c9.cnt]at N;simp only[c9.dep]at Q q;let hb:=Rows.dep_pos b;obtain⟨m,rfl⟩:∃m,n=m+1:=#[n-1,()];let r:c9:=.wh e b;let k:_:=st+-acc;let i:_:=acc++[en w ab bl r];have z:-i=-acc+1:=by simp[i]
  let ih:=Kp (n:=m) (w:=w) (ab:=ZI (k:Nat)) (bl:=0) (st:=st+-i) (mu:=mu) (rs:=b) (ck b m w (ZI (k:Nat)) 0 (R b.pvs) (st+-i) [] J J J J mu ok.2 () () (by simp only[eQ];lia));have he:-(fT (b.es w (ZI (k:Nat)) 0 (st+i.length)))=b.cnt:=by rw[nC,Rows.es_len]
  let D:=Nq (n:=m+1) (w:=w) (ab:=ab) (X:=X) (bl:=bl) (pl:=0) (st:=st) (k:=k) (acc:=i) (o6:=zS r.pv) (p:=R b.pvs) ih (by rw[he,z];lia);show#[zI (k:Nat),zI 0,zL b.pvs,Gn (r:=.wh e b) ok (by simp only[c9.dep];lia) (by simp only[c9.cnt];lia) () (λmu=>Jq) ((S9 (Y1:=LE w ab bl X st i (zS r.pv) (zI (k:Nat)) (zI 0) (zL b.pvs) mu) O D).trans ?_)];have ek:st+-i=k+1:=by rw[z];lia
  rw[ek];simp only[c9.es,i,fm,kN,hJ,fT,fU];rfl
 |.iff e b c=>λn w ab bl X st acc o7 o8 F mu ok Q q N=>by
  simp only[c9.cnt]at N;simp only[c9.dep]at Q q;let hb:=Rows.dep_pos b;obtain⟨m,rfl⟩:∃m,n=m+1:=#[n-1,()];let r:c9:=.iff e b c;let k:_:=st+-acc;let i:_:=acc++[en w ab bl r];have z:-i=-acc+1:=by simp[i]
  let ih:=Kp (n:=m) (w:=w) (ab:=ZI (k:Nat)) (bl:=0) (st:=st+-i) (mu:=mu) (rs:=b) (ck b m w (ZI (k:Nat)) 0 (R b.pvs) (st+-i) [] J J J J mu ok.2.1 () () (by simp only[eQ];lia));have he:-(fT (b.es w (ZI (k:Nat)) 0 (st+i.length)))=b.cnt:=by rw[nC,Rows.es_len]
  let D:=Nq (n:=m+1) (w:=w) (ab:=ab) (X:=X) (bl:=bl) (pl:=0) (st:=st) (k:=k) (acc:=i) (o6:=zS r.pv) (p:=R b.pvs) ih (by rw[he,z];lia);let j:_:=i++fT (b.es w (ZI (k:Nat)) 0 (st+-i));have W:-j=-acc+1+b.cnt:=by show -(i++_)=_;rw[eM,he,z]
  let we:=Kp (n:=m) (w:=w) (ab:=ZI (k:Nat)) (bl:=1) (st:=st+-j) (mu:=mu) (rs:=c) (ck c m w (ZI (k:Nat)) 1 (R c.pvs) (st+-j) [] J J J J mu ok.2.2 () () (by simp only[eQ];lia));have UE:-(fT (c.es w (ZI (k:Nat)) 1 (st+j.length)))=c.cnt:=by rw[nC,Rows.es_len]
  let kl:=Nq (n:=m+1) (w:=w) (ab:=ab) (X:=X) (bl:=bl) (pl:=1) (st:=st) (k:=k) (acc:=j) (o6:=zS r.pv) (p:=R c.pvs) we (by rw[UE,W];lia);show#[zI (k:Nat),zI 1,zL c.pvs,Gn (r:=.iff e b c) ok (by simp only[c9.dep];lia) (by simp only[c9.cnt];lia) () (λmu=>Jr) ((Np (Y1:=LE w ab bl X st i (zS r.pv) (zI (k:Nat)) (zI 0) (zL b.pvs) mu) (Y3:=LE w ab bl X st j (zS r.pv) (zI (k:Nat)) (zI 1) (zL c.pvs) mu) O D O kl).trans ?_)];have ek:st+-i=k+1:=by rw[z];lia
  have UF:st+-j=k+1+b.cnt:=by rw[W];lia
  rw[UF];simp only[j,ek];simp only[c9.es,fT,fU,fx,i,fm,kN,hJ];rfl
theorem ck:∀(rs:Rows)(n:Nat)(w:Str)(ab:PV)(bl:Int)(X:PV)(st:Nat)(acc:List PV)(o6 o7 o8 i:Option Lc)(mu:Mu),rs.ok->rs.dep<=n+1->rs.dep<=41->-acc+rs.cnt<=1000->
 ∃z F q D,eN (aC 6) (Zj n) rs.pvs (LE w ab bl X st acc o6 o7 o8 i mu)=!(.nx (LE w ab bl X st (acc++fT (rs.es w ab bl (st+-acc))) z F q D mu))
 |.nil=>λn w ab bl X st acc o6 o7 o8 i mu ok N j W=>#[o6,o7,o8,i,by simp[Rows.pvs,eN,Rows.es,fT]]
 |.cons r rs=>λn w ab bl X st acc o6 o7 o8 i mu ok N j W=>by
  simp only[Rows.dep]at N j;simp only[Rows.cnt]at W;let(q7,q8,q9,e1):=UD r n w ab bl X st acc o7 o8 i mu ok.1 () () ();have Q:-(acc++fT (r.es w ab bl (st+acc.length)))=-acc+r.cnt:=by rw[eM,nC,c9.es_len]
  let(z,F,q,D,e2):=ck rs n w ab bl X st (acc++fT (r.es w ab bl (st+-acc))) (zS r.pv) q7 q8 q9 mu ok.2 () () (by rw[Q];lia);show#[z,F,q,D,gw (Y1:=LE w ab bl X st acc (zS r.pv) o7 o8 i mu) O e1 (e2.trans ?_)];rw[Q,<-Nat.add_assoc];simp only[Rows.es,Hr,fm]
end
def Dg{rs:Rows}{w:Str}{ab:PV}{bl:Int}{st:Nat}{mu:Mu}(ok:rs.ok)(i:rs.dep<=40)(j:rs.cnt<=1000):
 gP 40 [ZH w,ab,ZI bl,R rs.pvs,ZI st] mu=!(Zs (R (fT (rs.es w ab bl st))),mu):=
 Kp (n:=39) (ck rs 39 w ab bl _ st [] J J J J mu ok () () (by simp only[eQ];lia))
structure Fn where
 name:Str
 rank:PV
 params:List PV
 rows:Rows
def Fn.pv(f:Fn):PV:=ZB [ZH f.name,f.rank,R f.params,R f.rows.pvs]
structure Pg where
 boxes:List PV
 grants:List PV
 fns:List Fn
 rows:Rows
def Pg.pv(P:Pg):PV:=ZB [R P.boxes,R P.grants,R (P.fns.map Fn.pv),R P.rows.pvs]
def d8:List Fn->Nat
 |[]=>0
 |f::fs=>f.rows.cnt+d8 fs
def qJ:List Fn->Nat->List eR
 |[],_=>[]
 |f::fs,k=>f.rows.es f.name .non 0 k++qJ fs (k+f.rows.cnt)
theorem BZ:∀(fs:List Fn)(k:Nat),-(qJ fs k)=d8 fs
 |[],k=>rfl
 |f::fs,k=>by simp[qJ,d8,Rows.es_len,BZ fs]
def Pg.es(P:Pg):List eR:=qJ P.fns 0++P.rows.es "main" .non 0 (d8 P.fns)
structure Pg.ok(P:Pg):Prop where
 fn:∀f∈P.fns,f.rows.ok/\f.rows.dep<=30
 rw:P.rows.ok
 dp:P.rows.dep<=30
 ct:d8 P.fns+P.rows.cnt<=44
 pm:∀f∈P.fns,∃xs:List Str,f.params=xs.map (λx=>.tup [.str x,.non])/\-xs<=4/\Sh xs
 fl:-P.fns<=4
 nd:(P.fns.map Fn.name).Nodup
 nl:∀f∈P.fns,-f.name<=100
abbrev NE(p:PV)(acc:List PV)(o2 o3 o4 o5:Option Lc)(mu:Mu):Ev:=#[[zS p,zO acc,o2,o3,o4,o5],mu]
theorem QS{p:PV}:∀(fs:List Fn)(acc:List PV)(o2 o3 o4 o5:Option Lc)(mu:Mu),(∀f∈fs,f.rows.ok/\f.rows.dep<=30)->-acc+d8 fs<=1000->
 ∃p2 q D z,eN Bg u7 (fs.map Fn.pv) (NE p acc o2 o3 o4 o5 mu)=!(.nx (NE p (acc++fT (qJ fs (-acc))) p2 q D z mu))
 |[]=>λacc o2 o3 o4 o5 mu _ _=>#[o2,o3,o4,o5,by simp[eN,qJ,fT]]
 |f::fs=>λacc o2 o3 o4 o5 mu h N=>by
  simp only[d8]at N;let(ok,W):=h f ed;let e:=Dg (w:=f.name) (ab:=.non) (bl:=0) (st:=-acc) (mu:=mu) ok () ();have j:-(acc++fT (f.rows.es f.name .non 0 acc.length))=-acc+f.rows.cnt:=by rw[eM,nC,Rows.es_len]
  let E:_:=NE p acc (zT f.name) (zS f.rank) (zL f.params) (zL f.rows.pvs) mu;let(p2,q,D,z,Q):=QS (p:=p) fs (acc++fT (f.rows.es f.name .non 0 (-acc))) (zT f.name) (zS f.rank) (zL f.params) (zL f.rows.pvs) mu (λx F=>h x (e_ _ F)) (by rw[j];lia);have st:u7 E=!(.nx (NE p (acc++fT (f.rows.es f.name .non 0 (-acc))) (zT f.name) (zS f.rank) (zL f.params) (zL f.rows.pvs) mu)):=
   jZ (i:=1) (ws0:=acc) (ws:=acc) (ps:=fT (f.rows.es f.name .non 0 (-acc))) (l:=Zs (R (fT (f.rows.es f.name .non 0 (-acc))))) (Y1:=E) O
    (aR (ls:=[Zp (ZH f.name),Zp .non,Zp (ZI 0),Zp (R f.rows.pvs),Zp (ZI (-acc))]) (ps:=[ZH f.name,.non,ZI 0,R f.rows.pvs,ZI (-acc)]) (Y1:=E) O O O O e) O O (by rw[nC,Rows.es_len];lia) O
  show#[p2,q,D,z,(gw (Y1:=E) O st (Q.trans ?_))];rw[j];simp only[qJ,Hr,fm]
def Pr{P:Pg}{mu:Mu}(ok:P.ok):yK [P.pv] mu=!(Zs (R (fT P.es)),mu):=by
 let W:=ok.ct;let(p2,q,D,z,Q):=QS (p:=P.pv) P.fns [] J J J J mu ok.fn (by simp only[eQ];lia);simp only[hJ,eQ]at Q;let j:_:=fT (qJ P.fns 0);have F:-j=d8 P.fns:=by simp only[j,nC,BZ]
 let N:=Dg (w:="main") (ab:=.non) (bl:=0) (st:=-j) (mu:=mu) ok.rw (by have:=ok.dp;lia) ();rw[F]at N;let b:_:=fT (P.rows.es "main" .non 0 (d8 P.fns));show(aO (Y:=#[[zS P.pv,J,p2,q,D,z],mu]) (r:=Zs (R (j++b))) ?_).trans ?_
 . show aH (Y':=NE P.pv [] J J J J mu) O (aH (Y':=NE P.pv j p2 q D z mu) (eO (xs:=P.fns.map Fn.pv) (Y1:=NE P.pv [] J J J J mu) (dC (l:=Zp (R (P.fns.map Fn.pv))) O O) Q) (aH (Y':=NE P.pv (j++b) p2 q D z mu) ?_ O));show jZ (i:=1) (ws0:=j) (ws:=j) (ps:=b) (l:=Zs (R b)) (Y1:=NE P.pv j p2 q D z mu) O
    (aR (ls:=[Zp (ZH "main"),Zp .non,Zp (ZI 0),Zp (R P.rows.pvs),Zp (ZI (-j))]) (ps:=[ZH "main",.non,ZI 0,R P.rows.pvs,ZI (-j)]) (Y1:=NE P.pv j p2 q D z mu) O O O O (by rw[F];show N)) O O (by simp only[b];rw[F,nC,Rows.es_len];lia) O
 . simp only[j,b,Pg.es,Hr]
def eR.key(e:eR):List aV:=[!(.inr e.w),(okP e.ab).getD J,!(.inl e.bl)]
def pos(K:List aV):Nat->List eR->List Nat
 |_,[]=>[]
 |i,e::es=>if e.key=K then i::pos K (i+1) es else pos K (i+1) es
theorem pF(K:List aV):∀(i:Nat)(a b:List eR),pos K i (a++b)=pos K i a++pos K (i+-a) b
 |i,[],b=>rfl
 |i,e::a,b=>by show (if e.key=K then i::pos K (i+1) (a++b) else pos K (i+1) (a++b))=(if e.key=K then i::pos K (i+1) a else pos K (i+1) a)++_;rw[pF K (i+1) a b,show i+-(e::a)=i+1+-a by simp only[d6];omega];split<;>rfl
theorem Ca{K:List aV}:∀{i:Nat}{a:List eR},(∀e∈a,e.key≠K)->pos K i a=[]
 |i,[],_=>rfl
 |i,e::a,h=>by show (if e.key=K then i::pos K (i+1) a else pos K (i+1) a)=[];rw[dQ (h e ed)];show Ca λx j=>h x (e_ _ j)
def Rows.nums:Rows->Nat->List Nat
 |.nil,_=>[]
 |.cons r rs,k=>k::rs.nums (k+r.cnt)
abbrev hE(w:Str)(m:Nat)(b:Int):List aV:=[!(.inr w),!(.inl (m:Int)),!(.inl b)]
def key_ne{e:eR}{w:Str}{m:Nat}{b:Int}(h:e.ab≠ZI m)(z:e.ab=.non\/∃j:Nat,e.ab=ZI j):e.key≠hE w m b:=by
 intro q;unfold eR.key at q;injection q with _ q;injection q with q _;obtain i|⟨j,i⟩:=z
 . rw[i]at q;cases q
 . rw[i]at q h;have q:some (Sum.inl (j:Int))=!(Sum.inl (m:Int)):=q;injection q with q;injection q with q;show h (by rw[q])
def yN{e:eR}{w:Str}{m:Nat}{b:Int}(h:e.bl≠b):e.key≠hE w m b:=by intro q;unfold eR.key at q;injection q with _ q;injection q with _ q;injection q with q _;injection q with q;injection q with q;show h q
def tY(ab:PV)(s t:Nat)(e:eR):Prop:=e.ab=ab\/∃m:Nat,e.ab=ZI m/\s<=m/\m<t
def tY.mono{ab:PV}{s t s' t':Nat}{e:eR}(h:tY ab s t e)(h1:s'<=s)(h2:t<=t'):tY ab s' t' e:=by
 obtain h|⟨m,h,j,i⟩:=h
 . show Zl h
 . show YY #[m,h,(),()]
def tY.up{k s t:Nat}{ab:PV}{e:eR}(h:tY (ZI (k:Nat)) s t e)(h1:k<s)(h2:k<t):tY ab k t e:=by
 obtain h|⟨m,h,j,i⟩:=h
 . show YY #[k,h,eK _,h2]
 . show YY #[m,h,(),i]
mutual
theorem c9.abs:∀(r:c9)(w:Str)(ab:PV)(bl:Int)(k:Nat),∀e∈r.es w ab bl k,tY ab k (k+r.cnt) e
 |.leaf _ _=>λw ab bl k e i=>by rw[gT.mp i];show Zl O
 |.call _ _ _=>λw ab bl k e i=>by rw[gT.mp i];show Zl O
 |.wh x b=>λw ab bl k e i=>by
  obtain rfl|i:=d5.mp i
  . show Zl O
  . let h:=Rows.abs b w (ZI (k:Nat)) 0 (k+1) e i;simp only[c9.cnt];show(h.up () ()).mono (eK _) ()
 |.iff x b c=>λw ab bl k e i=>by
  simp only[c9.cnt];obtain rfl|i:=d5.mp i
  . show Zl O
  . obtain i|i:=fw.mp i
    . let h:=Rows.abs b w (ZI (k:Nat)) 0 (k+1) e i;show(h.up () ()).mono (eK _) ()
    . let h:=Rows.abs c w (ZI (k:Nat)) 1 (k+1+b.cnt) e i;show(h.up () ()).mono (eK _) ()
theorem Rows.abs:∀(rs:Rows)(w:Str)(ab:PV)(bl:Int)(k:Nat),∀e∈rs.es w ab bl k,tY ab k (k+rs.cnt) e
 |.nil=>λw ab bl k e i=>by cases i
 |.cons r rs=>λw ab bl k e i=>by
  simp only[Rows.cnt];obtain i|i:=fw.mp i
  . show(c9.abs r w ab bl k e i).mono (eK _) ()
  . show(Rows.abs rs w ab bl (k+r.cnt) e i).mono () ()
end
def vp(ab:PV)(k:Nat):Prop:=ab=.non\/∃j:Nat,ab=ZI j/\j<k
def tY.num{ab:PV}{s t k:Nat}{e:eR}(h:tY ab s t e)(a:vp ab k):e.ab=.non\/∃j:Nat,e.ab=ZI j:=by
 obtain h|⟨m,h,_⟩:=h
 . obtain a|⟨j,a,_⟩:=a
   . show Zl (h.trans a)
   . show YY #[j,h.trans a]
 . show YY #[m,h]
def xn{a b:Nat}(h:a≠b):(PV.int (a:Nat))≠ZI (b:Nat):=λq=>by injection q with q;show h ()
def tY.ne{ab:PV}{s t m:Nat}{e:eR}(h:tY ab s t e)(h1:ab≠ZI m)(h2:m<s\/t<=m):e.ab≠ZI m:=by
 obtain h|⟨j,h,q,i⟩:=h
 . rw[h];show h1
 . rw[h];show xn ()
def vp.ne{ab:PV}{k m:Nat}(a:vp ab k)(h:k<=m):ab≠ZI m:=by
 obtain a|⟨j,a,i⟩:=a
 . rw[a];intro q;cases q
 . rw[a];show xn ()
def c9.pos_top(r:c9)(w:Str)(m:Nat)(b:Int)(k:Nat)(h:m<k):pos (hE w m b) k (r.es w (ZI m) b k)=[k]:=by
 have own:∀(e:eR),e.w=w->e.ab=ZI m->e.bl=b->e.key=hE w m b:=λe h1 h2 j=>by unfold eR.key;rw[h1,h2,j];rfl
 have sub:∀(rs:Rows)(c:Int)(s:Nat),k<s->pos (hE w m b) s (rs.es w (ZI (k:Nat)) c s)=[]:=λrs c s hs=>Ca λe q=>by let g:=Rows.abs rs w (ZI (k:Nat)) c s e q;show key_ne (g.ne (xn ()) (Zl ())) (g.num (k:=s) (YY #[k,O,hs]))
 cases r with
 |leaf x ps=>show (if _ then _ else _)=_;rw[dA (own _ O O O)];rfl
 |call x n z=>show (if _ then _ else _)=_;rw[dA (own _ O O O)];rfl
 |wh x c=>
  show (if _ then _ else _)=_;rw[dA (own _ O O O),sub c 0 (k+1) ()]
 |iff x c d=>
  show (if _ then _ else _)=_;rw[dA (own _ O O O),pF,Rows.es_len,sub c 0 (k+1) (),sub d 1 (k+1+c.cnt) ()];rfl
theorem Rows.pos_top:∀(rs:Rows)(w:Str)(m:Nat)(b:Int)(k:Nat),m<k->pos (hE w m b) k (rs.es w (ZI m) b k)=rs.nums k
 |.nil=>λw m b k h=>rfl
 |.cons r rs=>λw m b k h=>by show pos _ k (r.es w (ZI m) b k++rs.es w (ZI m) b (k+r.cnt))=_;rw[pF,c9.pos_top r w m b k h,c9.es_len,Rows.pos_top rs w m b (k+r.cnt) ()];rfl
def c9.bnums:c9->Nat->Int->List Nat
 |.wh _ b,k,i=>if i=0 then b.nums (k+1) else []
 |.iff _ b c,k,i=>if i=0 then b.nums (k+1) else if i=1 then c.nums (k+1+b.cnt) else []
 |_,_,_=>[]
def c9.pos_in(r:c9)(w:Str)(ab:PV)(bl:Int)(k:Nat)(i:Int)(a:vp ab k):pos (hE w k i) k (r.es w ab bl k)=r.bnums k i:=by
 have own:∀(e:eR),e.ab=ab->e.key≠hE w k i:=λe h=>key_ne (by rw[h];show a.ne (eK _)) (by
  obtain a|⟨j,a,_⟩:=a
  . show Zl (h.trans a)
  . show YY #[j,h.trans a])
 have sub:∀(rs:Rows)(c:Int)(s:Nat),k<s->c≠i->pos (hE w k i) s (rs.es w (ZI (k:Nat)) c s)=[]:=λrs c s hs F=>by
  have go:∀(rs:Rows)(s:Nat),k<s->pos (hE w k i) s (rs.es w (ZI (k:Nat)) c s)=[]:=by
   intro rs;induction rs using Rows.rec (motive_1:=λ_=>True) with
   |nil=>intro s _;rfl
   |cons r rs _ N=>
    intro s hs;show pos _ s (r.es w (ZI (k:Nat)) c s++rs.es w (ZI (k:Nat)) c (s+r.cnt))=_;rw[pF,c9.es_len,N (s+r.cnt) (),f_];have z:∀(bs:Rows)(d:Int)(t:Nat),s<t->pos (hE w k i) t (bs.es w (ZI (s:Nat)) d t)=[]:=λbs d t Q=>Ca λe W=>by let g:=Rows.abs bs w (ZI (s:Nat)) d t e W;show key_ne (g.ne (xn ()) (Zl ())) (g.num (k:=t) (YY #[s,O,Q]))
    cases r with
    |leaf x ps=>show (if _ then _ else _)=_;rw[dQ (yN F)];rfl
    |call x n as=>show (if _ then _ else _)=_;rw[dQ (yN F)];rfl
    |wh x bs=>show (if _ then _ else _)=_;rw[dQ (yN F)];show z bs 0 (s+1) ()
    |iff x bs cs=>show (if _ then _ else _)=_;rw[dQ (yN F),pF,Rows.es_len,z bs 0 (s+1) (),z cs 1 (s+1+bs.cnt) ()];rfl
   |_=>trivial
  show go rs s hs
 cases r with
 |leaf x ps=>show (if _ then _ else _)=_;rw[dQ (own _ O)];rfl
 |call x n as=>show (if _ then _ else _)=_;rw[dQ (own _ O)];rfl
 |wh x c=>
  show (if _ then _ else _)=_;rw[dQ (own _ O)];show _=if i=0 then c.nums (k+1) else []
  by_cases hi:i=0
  . subst hi;rw[dA O];show Rows.pos_top c w k 0 (k+1) ()
  . rw[dQ hi];show sub c 0 (k+1) () (λq=>hi q.symm)
 |iff x c d=>
  show (if _ then _ else _)=_;rw[dQ (own _ O),pF,Rows.es_len];show _=if i=0 then c.nums (k+1) else if i=1 then d.nums (k+1+c.cnt) else []
  by_cases hi:i=0
  . subst hi;rw[dA O,Rows.pos_top c w k 0 (k+1) (),sub d 1 (k+1+c.cnt) () (),f_]
  . rw[dQ hi,sub c 0 (k+1) () (λq=>hi q.symm),hJ];by_cases h1:i=1
    . subst h1;rw[dA O];show Rows.pos_top d w k 1 (k+1+c.cnt) ()
    . rw[dQ h1];show sub d 1 (k+1+c.cnt) () (λq=>h1 q.symm)
structure qx(es:List eR)(w:Str)(ab:PV)(bl:Int)(k:Nat)(rs:Rows):Prop where
 ex:∃pre post,es=pre++(rs.es w ab bl k++post)/\-pre=k/\∀e∈pre++post,(e.ab=.non\/∃j:Nat,e.ab=.int j)/\∀m:Nat,k<=m->m<k+rs.cnt->e.ab≠.int m
 ab:vp ab k
structure qy(es:List eR)(w:Str)(ab:PV)(bl:Int)(k:Nat)(r:c9):Prop where
 ex:∃pre post,es=pre++(r.es w ab bl k++post)/\-pre=k/\∀e∈pre++post,(e.ab=.non\/∃j:Nat,e.ab=.int j)/\∀m:Nat,k<=m->m<k+r.cnt->e.ab≠.int m
 ab:vp ab k
def vp.mono{ab:PV}{k k':Nat}(a:vp ab k)(h:k<=k'):vp ab k':=by
 obtain a|⟨j,a,i⟩:=a
 . show Zl a
 . show YY #[j,a,()]
theorem qx.cons{es:List eR}{w:Str}{ab:PV}{bl:Int}{k:Nat}{r:c9}{rs:Rows}(h:qx es w ab bl k (.cons r rs)):qy es w ab bl k r/\qx es w ab bl (k+r.cnt) rs:=by
 let((Q,i,e,W,N),F):=h;simp only[Rows.cnt]at N;show#[#[#[Q,rs.es w ab bl (k+r.cnt)++i,by rw[e];simp only[Rows.es,fm],W,λx j=>?_],F],#[#[Q++r.es w ab bl k,i,by rw[e];simp only[Rows.es,fm],by rw[eM,c9.es_len,W],λx j=>?_],F.mono ()]]
 . obtain q|q:=fw.mp j
   . let(D,z):=N x (i6 _ q);show#[D,λm h1 h2=>z m h1 ()]
   . obtain q|q:=fw.mp q
     . let g:=Rows.abs rs w ab bl (k+r.cnt) x q;show#[g.num F,λm h1 h2=>g.ne (F.ne h1) (Zl ())]
     . let(D,z):=N x (h_ _ q);show#[D,λm h1 h2=>z m h1 ()]
 . obtain q|q:=fw.mp j
   . obtain q|q:=fw.mp q
     . let(D,z):=N x (i6 _ q);show#[D,λm h1 h2=>z m () ()]
     . let g:=c9.abs r w ab bl k x q;show#[g.num F,λm h1 h2=>g.ne (F.ne ()) (YY h1)]
   . let(D,z):=N x (h_ _ q);show#[D,λm h1 h2=>z m () ()]
theorem qy.wh{es:List eR}{w:Str}{ab:PV}{bl:Int}{k:Nat}{x:PV}{b:Rows}(h:qy es w ab bl k (.wh x b)):qx es w (ZI (k:Nat)) 0 (k+1) b:=by
 let((F,i,e,hl,D),Q):=h;simp only[c9.cnt]at D;show#[#[F++[#[w,ab,bl,.wh x b]],i,by rw[e];simp[c9.es],by simp[hl],λy W=>?_],YY #[k,O,()]];obtain q|q:=fw.mp W
 . obtain q|q:=fw.mp q
   . let(N,z):=D y (i6 _ q);show#[N,λm h1 h2=>z m () ()]
   . rw[gT.mp q];show#[by obtain a|⟨j,a,_⟩:=Q;show Zl a;show YY #[j,a],λm h1 _=>Q.ne ()]
 . let(N,z):=D y (h_ _ q);show#[N,λm h1 h2=>z m () ()]
theorem qy.iff{ab:PV}(h:qy es w ab bl k (.iff x b c)):qx es w (ZI (k:Nat)) 0 (k+1) b/\qx es w (ZI (k:Nat)) 1 (k+1+b.cnt) c:=by
 let((N,i,e,hl,F),Q):=h;simp only[c9.cnt]at F;have own:(ab=.non\/∃j:Nat,ab=ZI j):=by obtain a|⟨j,a,_⟩:=Q;show Zl a;show YY #[j,a]
 have hk:∀s,k<s->vp (ZI (k:Nat)) s:=λs hs=>YY #[k,O,hs];show#[#[#[N++[#[w,ab,bl,.iff x b c]],c.es w (ZI (k:Nat)) 1 (k+1+b.cnt)++i,by rw[e];simp[c9.es],by simp[hl],λy W=>?_],hk _ ()],#[#[N++(#[w,ab,bl,.iff x b c]::b.es w (ZI (k:Nat)) 0 (k+1)),i,by rw[e];simp[c9.es],by simp[Rows.es_len];lia,λy W=>?_],hk _ ()]]
 . obtain q|q:=fw.mp W
   . obtain q|q:=fw.mp q
     . let(D,z):=F y (i6 _ q);show#[D,λm h1 h2=>z m () ()]
     . rw[gT.mp q];show#[own,λm h1 _=>Q.ne ()]
   . obtain q|q:=fw.mp q
     . let g:=Rows.abs c w (ZI (k:Nat)) 1 (k+1+b.cnt) y q;show#[g.num (hk (k+1) ()),λm h1 h2=>g.ne (xn ()) (Zl ())]
     . let(D,z):=F y (h_ _ q);show#[D,λm h1 h2=>z m () ()]
 . obtain q|q:=fw.mp W
   . obtain q|q:=fw.mp q
     . let(D,z):=F y (i6 _ q);show#[D,λm h1 h2=>z m () ()]
     . obtain rfl|q:=d5.mp q
       . show#[own,λm h1 _=>Q.ne ()]
       . let g:=Rows.abs b w (ZI (k:Nat)) 0 (k+1) y q;show#[g.num (hk (k+1) ()),λm h1 h2=>g.ne (xn ()) (YY ())]
   . let(D,z):=F y (h_ _ q);show#[D,λm h1 h2=>z m () ()]
def c9.es_head(r:c9)(w:Str)(ab:PV)(bl:Int)(k:Nat):∃t,r.es w ab bl k=#[w,ab,bl,r]::t:=by cases r<;>show#[_,O]
def qy.get{ab:PV}(h:qy es w ab bl k r):es[k]?=!#[w,ab,bl,r]:=by let((z,i,e,q,F),D):=h;let(t,j):=r.es_head w ab bl k;rw[e,j,hW (),q,i8];rfl
theorem qy.pos{ab:PV}(h:qy es w ab bl k r)(i:Int):Law.pos (hE w k i) 0 es=r.bnums k i:=by
 let((z,q,e,D,Q),N):=h;let hc:=r.cnt_pos;have out:∀(l:List eR)(j:Nat),(∀x∈l,x∈z++q)->Law.pos (hE w k i) j l=[]:=λl j D=>Ca λx F=>by let(g1,W):=Q x (D x F);show key_ne (W k () ()) g1
 rw[e,pF,pF,out z 0 λx h=>i6 _ h,out q _ λx h=>h_ _ h,hJ,f_,ke,D];show r.pos_in w ab bl k i N
mutual
def c9.sp:c9->Bool
 |.leaf _ _=>M
 |.call _ _ _=>G
 |.wh _ _=>G
 |.iff _ b c=>b.sp||c.sp
def Rows.sp:Rows->Bool
 |.nil=>M
 |.cons r rs=>r.sp||rs.sp
end
noncomputable def k5 (k:Nat):Str:="at " ++ (toString (k:Int):Str)
mutual
def c9.bt:c9->Nat->List Str
 |.leaf _ _,k=>[k5 k]
 |.call _ n _,k=>[k5 k,"leave " ++ n]
 |.wh _ _,k=>[k5 k]
 |.iff _ b c,k=>[k5 k]++(if b.sp then b.lbt (k+1) else [])++(if c.sp then c.lbt (k+1+b.cnt) else [])
def Rows.lbt:Rows->Nat->List Str
 |.nil,_=>[]
 |.cons r .nil,k=>r.bt k
 |.cons r (.cons r' rs),k=>(Rows.cons r' rs).lbt (k+r.cnt)
end
mutual
def c9.bl:c9->Nat
 |.leaf _ _=>1
 |.call _ _ _=>2
 |.wh _ _=>1
 |.iff _ b c=>1+b.bl+c.bl
def Rows.bl:Rows->Nat
 |.nil=>0
 |.cons r rs=>max r.bl rs.bl
end
mutual
theorem c9.bt_len:∀(r:c9)(k:Nat),-(r.bt k)<=r.bl
 |.leaf _ _,k=>eK _
 |.call _ _ _,k=>eK _
 |.wh _ _,k=>eK _
 |.iff _ b c,k=>by let h1:=Rows.lbt_len b (k+1);let h2:=Rows.lbt_len c (k+1+b.cnt);simp only[c9.bt,c9.bl,eM,d6];split<;>split<;>(try simp only[eQ])<;>lia
theorem Rows.lbt_len:∀(rs:Rows)(k:Nat),-(rs.lbt k)<=rs.bl
 |.nil,k=>eK _
 |.cons r .nil,k=>by have:=c9.bt_len r k;simp only[Rows.lbt,Rows.bl];lia
 |.cons r (.cons i rs),k=>by have:=Rows.lbt_len (.cons i rs) (k+r.cnt);simp only[Rows.lbt,Rows.bl]at this ⊢;lia
end
mutual
noncomputable def c9.rws:c9->List c9
 |.leaf w ps=>[.leaf w ps]
 |.call b n as=>[.call b n as]
 |.wh e b=>.wh e b::b.rws
 |.iff e b c=>.iff e b c::(b.rws++c.rws)
noncomputable def Rows.rws:Rows->List c9
 |.nil=>[]
 |.cons r rs=>r.rws++rs.rws
end
mutual
theorem c9.rws_len:∀r:c9,-r.rws=r.cnt
 |.leaf _ _=>rfl
 |.call _ _ _=>rfl
 |.wh _ b=>by simp[c9.rws,c9.cnt,Rows.rws_len b]
 |.iff _ b c=>by simp[c9.rws,c9.cnt,Rows.rws_len b,Rows.rws_len c]
theorem Rows.rws_len:∀rs:Rows,-rs.rws=rs.cnt
 |.nil=>rfl
 |.cons r rs=>by simp[Rows.rws,Rows.cnt,c9.rws_len r,Rows.rws_len rs]
end
abbrev iO(l:List c9):List PV:=l.map c9.pv
def uE(l:List c9):-(iO l)=-l:=eI _
abbrev IE(X:PV)(acc:List PV)(o2 o3:Option Lc)(mu:Mu):Ev:=#[[zS X,zO acc,o2,o3],mu]
abbrev wf(n:Nat):SF:=gb 1 (aN (iz n) (aj (aa 3) ao))
abbrev q_(n:Nat):SF:=aF (jM 1 (aa 2)) (fX (dh (aN gJ (aj (aa 2) ao)) bJ) (aC 3) (wf n))
def Nr{o2:Option Lc}(h:iz n [p] mu=!(Zs (R qs),mu))(i:-acc+-qs<=100000):wf n (IE X acc o2 (zS p) mu)=!(.nx (IE X (acc++qs) o2 (zS p) mu)):=
 jZ O (aR O O O O h) O O i O
def Gp{o3:Option Lc}{r:c9}(j:-acc<1000)(i:∀mu,gJ [r.pv] mu=!(Zs (R bs),mu))(h:eN (aC 3) (wf n) bs (IE X (acc++[r.pv]) (zS r.pv) o3 mu)=ZN):q_ n (IE X acc (zS r.pv) o3 mu)=ZN:=
 aH (pR O O O O () O)
  (eO (dC (aR O O O O (i _)) O) h)
def in_of{rs:Rows}(h:∃o2 o3,eN (aC 2) (q_ n) rs.pvs (IE (R rs.pvs) [] J J mu)=!(.nx (IE (R rs.pvs) ([]++iO rs.rws) o2 o3 mu))):iz (n+1) [R rs.pvs] mu=!(Zs (R (iO rs.rws)),mu):=by let(o2,o3,h):=h;show aO (Y:=#[[zL rs.pvs,J,o2,o3],mu]) ?_;show aH O (aH () O)
mutual
theorem UH:∀(r:c9)(n:Nat)(X:PV)(acc:List PV)(o3:Option Lc)(mu:Mu),r.ok->r.dep<=n->-acc+r.cnt<=1000->∃F,q_ n (IE X acc (zS r.pv) o3 mu)=!(.nx (IE X (acc++iO r.rws) (zS r.pv) F mu))
 |.leaf x ps=>λn X acc o3 mu ok i j=>by show#[o3,Gp () (λmu=>sS ok.1.1 ok.1.2.1) O]
 |.call b m N=>λn X acc o3 mu ok i j=>by show#[o3,Gp () (λmu=>sS () ()) O]
 |.wh e b=>λn X acc o3 mu ok i j=>by simp only[c9.cnt]at j;simp only[c9.dep]at i;obtain⟨m,rfl⟩:∃m,n=m+1:=#[n-1,()];let r:c9:=.wh e b;let q:=in_of (al b m (R b.pvs) [] J J mu ok.2 () (by simp only[eQ];lia));let st:=Nr (X:=X) (acc:=acc++[r.pv]) (o2:=zS r.pv) q (by rw[uE,Rows.rws_len,eM];simp only[d6,eQ];lia);show#[zL b.pvs,Gp () (λmu=>Jq) ((S9 O st).trans ?_)];simp only[fm];rfl
 |.iff e b c=>λn X acc o3 mu ok i j=>by simp only[c9.cnt]at j;simp only[c9.dep]at i;obtain⟨m,rfl⟩:∃m,n=m+1:=#[n-1,()];let r:c9:=.iff e b c;let q:=in_of (al b m (R b.pvs) [] J J mu ok.2.1 () (by simp only[eQ];lia));let z:=in_of (al c m (R c.pvs) [] J J mu ok.2.2 () (by simp only[eQ];lia));let st:=Nr (X:=X) (acc:=acc++[r.pv]) (o2:=zS r.pv) q (by rw[uE,Rows.rws_len,eM];simp only[d6,eQ];lia);let D:=Nr (X:=X) (acc:=acc++[r.pv]++iO b.rws) (o2:=zS r.pv) z (by rw[uE,Rows.rws_len,eM,eM,uE,Rows.rws_len];simp only[d6,eQ];lia);show#[zL c.pvs,Gp () (λmu=>Jr) ((Np O st O D).trans ?_)];simp only[c9.rws,fm,fU,fx];rfl
theorem al:∀(rs:Rows)(n:Nat)(X:PV)(acc:List PV)(o2 o3:Option Lc)(mu:Mu),rs.ok->rs.dep<=n+1->-acc+rs.cnt<=1000->∃p2 i,eN (aC 2) (q_ n) rs.pvs (IE X acc o2 o3 mu)=!(.nx (IE X (acc++iO rs.rws) p2 i mu))
 |.nil=>λn X acc o2 o3 mu ok j q=>#[o2,o3,by simp[Rows.pvs,eN,Rows.rws]]
 |.cons r rs=>λn X acc o2 o3 mu ok j q=>by simp only[Rows.dep]at j;simp only[Rows.cnt]at q;let(z,D):=UH r n X acc o3 mu ok.1 () ();let(p2,i,F):=al rs n X (acc++iO r.rws) (zS r.pv) z mu ok.2 () (by rw[eM,uE,c9.rws_len];lia);show#[p2,i,gw O D (F.trans ?_)];simp only[Rows.rws,fx,fm]
end
def kq:PV->Bool
 |ZB (ZH s::_)=>(("while" : Str)==s||(("call" : Str)==s||false))
 |_=>M
def xx{a b:Str}(h:(a==b)=M):(b==a)=M:=by rw[nB]at h ⊢;show λq=>h q.symm
mutual
theorem c9.hots:∀r:c9,r.ok->(iO r.rws).any kq=r.sp
 |.leaf w ps,ok=>by let((_,h2,i),_):=ok;show ((("while" : Str)==w||(("call" : Str)==w||false))||false)=M;rw[xx h2,xx i];rfl
 |.call b n j,ok=>by show ((("while" : Str)== "call" || (("call" : Str)== "call" || false))||false)=G;decide +kernel
 |.wh e b,ok=>by show ((("while" : Str)== "while" || (("call" : Str)== "while" || false))||(iO b.rws).any kq)=G;rfl
 |.iff e b c,ok=>by show ((("while" : Str)== "if" || (("call" : Str)== "if" || false))||(iO (b.rws++c.rws)).any kq)=(b.sp||c.sp);rw[show (("while" : Str)== "if" || (("call" : Str)== "if" || false))=M by decide +kernel,Bool.false_or,iO,fx,List.any_append,Rows.hots b ok.2.1,Rows.hots c ok.2.2]
theorem Rows.hots:∀rs:Rows,rs.ok->(iO rs.rws).any kq=rs.sp
 |.nil,_=>rfl
 |.cons r rs,ok=>by show (iO (r.rws++rs.rws)).any kq=(r.sp||rs.sp);rw[iO,fx,List.any_append,c9.hots r ok.1,Rows.hots rs ok.2]
end
theorem rP{α:Type}(f:α->Bool):∀cs:List α,fF (cs.map λc=>.bl (f c))=!(cs.map f)
 |[]=>rfl
 |c::cs=>by show (fF (cs.map λc=>.bl (f c))).map _=_;rw[rP f cs];rfl
def c9.head(r:c9):∃w t,r.pv=ZB (ZH w::t):=by cases r<;>show#[_,_,O]
def Js{r:c9}(ok:r.ok)(z:r.dep<=38)(N:r.cnt<=900):yM [r.pv] mu=!(Zp (.bl r.sp),mu):=by
 let o:=in_of (al (.cons r .nil) 39 _ [] J J mu #[ok,True.intro] (by simp only[Rows.dep];lia) (by simp only[Rows.cnt,eQ];lia));let L:_:=iO (Rows.cons r .nil).rws;have F:-L<=1000:=by simp only[L,uE,Rows.rws_len,Rows.cnt];lia
 have c:dF (aC 0) bB BA L #[[J],mu] []=!(L.map λq=>.bl (kq q),mu):=by
  show Jc (λY=>∃o,Y=#[[o],mu]) (λY ⟨o,e⟩=>by rw[e]) (λq=>.bl (kq q)) #[J,O] () ?_ ?_
  . intro x i Y q0;let(o,rfl):=q0;let(y,_,rfl):=fy.mp i;let(s,t,j):=y.head;rw[j];show#[_,O,Zp (.bl (kq (ZB (ZH s::t)))),#[[zS (ZB (ZH s::t))],mu],?_,O,_,O];show dj w0 O O O ?_;rfl
  . rintro y D Y Y1 ⟨o,rfl⟩ h;cases h;show#[_,O]
 show aO (Y:=#[[zS r.pv],mu]) (cT ?_);show jN (aA ((eF (Vk (aR (aA (pQ (aA O O) O O) O) O O O o) O O) c).trans O) O) O ?_;show ((fF (L.map λq=>.bl (kq q))).map _)=_;rw[rP,kA];have e:L.any kq=r.sp:=by have:=Rows.hots (.cons r .nil) #[ok,True.intro];rw[show (Rows.cons r .nil).sp=(r.sp||false) from O,Bool.or_false]at this;show this
 rw[<-e];simp[List.any_map]
noncomputable abbrev aU (l:List Nat):List PV:=l.map λ(i:Nat)=>PV.int (i:Nat)
abbrev SD:=List (List aV×List Nat)
noncomputable def iT (K:List aV) (i:Nat):SD->SD
 |[]=>[(K,[i])]
 |x::r=>if x.1=K then (x.1,x.2++[i])::r else x::iT K i r
noncomputable def j5:SD->List aV->Option (List Nat)
 |[],_=>J
 |x::r,K=>if x.1=K then !x.2 else j5 r K
noncomputable def pz:Nat->SD->uk
 |_,[]=>[]
 |N,x::r=>(x.1,ZA N)::pz (N+1) r
abbrev fM(S:SD):Mu:=S.map λx=>!(R (aU x.2))
theorem Vz:∀(N:Nat)(S:SD),-(pz N S)=-S
 |_,[]=>rfl
 |N,x::r=>by simp[pz,Vz]
theorem EV:∀l:uk,(l.map (·.1)).zip (l.map (·.2))=l
 |[]=>rfl
 |x::r=>by rw[fU,fU,mN,EV r]
theorem VB:∀{S:SD}{N i:Nat}{K:List aV},j5 S K=J->j0 (pz N S) K=J/\iT K i S=S++[(K,[i])]/\pz N (iT K i S)=pz N S++[(K,ZA (N+-S))]
 |[],N,i,K,_=>#[O,O,O]
 |x::r,N,i,K,h=>by
  unfold j5 at h;split at h
  . cases h
  . rename_i j;let(h1,h2,q):=VB h;show#[?_,?_,?_]
    . show (if x.1=K then _ else _)=_;rw[dQ j];show h1
    . show (if x.1=K then _ else _)=_;rw[dQ j,h2];rfl
    . unfold iT;rw[dQ j];show (x.1,PV.ptr N)::pz (N+1) (iT K i r)=_;rw[q,show N+1+-r=N+-(x::r) by simp only[d6];omega];rfl
theorem VD:∀{S:SD}{N i:Nat}{K:List aV}{l:List Nat},j5 S K=!l->∃j,j0 (pz N S) K=!(ZA (N+j))/\(fM S)[j]?=!(!(R (aU l)))/\(fM S).set j (!(R (aU (l++[i]))))=fM (iT K i S)/\pz N (iT K i S)=pz N S
 |[],N,i,K,l,h=>by cases h
 |x::r,N,i,K,l,h=>by
  unfold j5 at h;split at h
  . rename_i q;cases h;show#[0,?_,O,?_,?_]
    . show (if x.1=K then _ else _)=_;rw[dA q];rfl
    . unfold iT;rw[dA q];rfl
    . unfold iT;rw[dA q];rfl
  . rename_i q;let(j,h1,h2,z,D):=VD h;show#[j+1,?_,?_,?_,?_]
    . show (if x.1=K then _ else _)=_;rw[dQ q,h1,show N+1+j=N+(j+1) by omega]
    . simpa using h2
    . unfold iT;rw[dQ q];show _::(fM r).set j _=_::fM (iT K i r);rw[z]
    . unfold iT;rw[dQ q];show (x.1,PV.ptr N)::pz (N+1) (iT K i r)=_;rw[D];rfl
def UI{K j:List aV}:(j5 (iT j i S) K).getD []=(j5 S K).getD []++if j=K then [i] else []:=by
 induction S with
 |nil=>
  show (if j=K then ![i] else J).getD []=[]++_;split<;>rfl
 |cons x r D=>
  unfold iT;by_cases z:x.1=j
  . rw[dA z];show (if x.1=K then !(x.2++[i]) else j5 r K).getD []=(if x.1=K then !x.2 else j5 r K).getD []++_;by_cases h:x.1=K
    . rw[dA h,dA h,dA (z▸h)];rfl
    . rw[dQ h,dQ h,dQ (λq=>h ∅),f_]
  . rw[dQ z];show (if x.1=K then !x.2 else j5 (iT j i r) K).getD []=(if x.1=K then !x.2 else j5 r K).getD []++_;by_cases h:x.1=K
    . rw[dA h,dA h,dQ (λq=>z ∅),f_]
    . rw[dQ h,dQ h];show D
def oJ:Nat->List eR->SD->SD
 |_,[],S=>S
 |i,e::es,S=>oJ (i+1) es (iT e.key i S)
theorem Cd{K:List aV}:∀(es:List eR)(i:Nat)(S:SD),(j5 (oJ i es S) K).getD []=(j5 S K).getD []++pos K i es
 |[]=>λi S=>(f_ _).symm
 |e::es=>λi S=>by
  show (j5 (oJ (i+1) es (iT e.key i S)) K).getD []=_++if e.key=K then i::pos K (i+1) es else pos K (i+1) es
  rw[Cd es,UI,fm];split<;>rfl
theorem Nt{K:List aV}:∀S:SD,-(iT K i S)<=-S+1
 |[]=>eK _
 |x::r=>by
  unfold iT;split
  . simp
  . have:=Nt (K:=K) (i:=i) r;simp only[d6];lia
def ij(m:Nat)(S:SD):Prop:=∀x∈S,-x.2<=m
theorem ij.put{K:List aV}:∀{S:SD},ij m S->ij (m+1) (iT K i S)
 |[]=>λ_ x j=>by rw[gT.mp j];simp
 |y::r=>λh x j=>by
  unfold iT at j;split at j
  . obtain rfl|j:=d5.mp j
    . have:=h y ed;simp only[eM,d6,eQ];lia
    . have:=h x (e_ _ j);lia
  . obtain rfl|j:=d5.mp j
    . have:=h x ed;lia
    . show ij.put (λz q=>h z (e_ _ q)) x j
theorem VF:∀{S:SD}{K:List aV}{l:List Nat},j5 S K=!l->∃x∈S,x.2=l
 |[],K,l,h=>by cases h
 |y::r,K,l,h=>by
  unfold j5 at h;split at h
  . cases h;show#[y,ed,O]
  . let(x,i,e):=VF h;show#[x,e_ _ i,e]
theorem QT:∀(S:SD)(A:Mu),meltL (A++fM S) ((pz (-A) S).map (·.2))=!(S.map λx=>R (aU x.2),A++S.map λ_=>J)
 |[]=>λA=>by simp[pz,meltL]
 |x::r=>λA=>by
  let i:=QT r (A++[J]);rw[eM]at i;have q:(A++fM (x::r))[-A]?=!(!(R (aU x.2))):=by rw[hW (),i8];rfl
  have j:(A++fM (x::r)).set (-A) J=(A++[J])++fM r:=by rw[List.set_append_right _ _ (),i8,fm];rfl
  show meltL (A++fM (x::r)) (ZA (-A)::(pz (-A+1) r).map (·.2))=_;unfold meltL;rw[q];dsimp only;rw[j,show -A+1=-A+[(J:Option PV)].length from O,i,kA];simp
theorem Kq:∀(S:SD)(N:Nat)(K:List aV),j0 (((pz N S).map (·.1)).zip (S.map λx=>PV.lst (aU x.2))) K=(j5 S K).map λl=>R (aU l)
 |[]=>λN K=>rfl
 |x::r=>λN K=>by
  show (if x.1=K then !(PV.lst (aU x.2)) else j0 (((pz (N+1) r).map (·.1)).zip (r.map λx=>PV.lst (aU x.2))) K)=(if x.1=K then !x.2 else j5 r K).map _;by_cases h:x.1=K
  . rw[dA h,dA h];rfl
  . rw[dQ h,dQ h];show Kq r (N+1) K
noncomputable def Ax:Nat->List PV->List PV
 |_,[]=>[]
 |i,p::ps=>ZB [ZI (i:Nat),p]::Ax (i+1) ps
theorem VG:∀(ps:List PV)(i:Nat),(ps.zipIdx i).map (λx=>PV.tup [ZI (x.2:Nat),x.1])=Ax i ps
 |[],i=>rfl
 |p::ps,i=>by rw[List.zipIdx_cons,fU,VG ps (i+1)];rfl
def Ed(ps:List PV):ue ps=Ax 0 ps:=VG ps 0
section
abbrev qz(N:Nat)(S:SD):PV:=.dx HK.hk ((pz N S).map (·.1)) ((pz N S).map (·.2))
noncomputable abbrev AE (o0 o1 o2 o3 o4 o5 o6 o7 o8 o9 ol:Option Lc) (mu:Mu):Ev:=#[[o0,o1,o2,o3,o4,o5,o6,o7,o8,o9,ol],mu]
abbrev EW:SF:=ou BN (aa 4)
def Jt{e:eR}(i:e.ab=.non\/∃j:Nat,e.ab=ZI j):pX [ZH e.w,e.ab,ZI e.bl]=!e.key:=by unfold eR.key;rcases i with h|⟨j,h⟩<;>rw[h]<;>rfl
open Classical in
def UM{e:eR}{D o1 o2 o6 o7 o8 F q:Option Lc}(Q:e.ab=.non\/∃j:Nat,e.ab=ZI j)(hS:-S<=1000)(hs:ij 1000 S):
 EW (AE D o1 o2 (!(Zs (qz (-A) S))) (zI (i:Nat)) (zS e.pv) o6 o7 o8 F q (A++fM S))=!(.nx (AE D o1 o2 (!(Zs (qz (-A) (iT e.key i S)))) (zI (i:Nat)) (zS e.pv) o6 o7 o8 F q (A++fM (iT e.key i S)))):=by
 let E:_:=AE D o1 o2 (!(Zs (qz (-A) S))) (zI (i:Nat)) (zS e.pv) o6 o7 o8 F q (A++fM S);have hk:j7 (aa 5) eU (cM (bh 3)) E=!(Zp (ZB [ZH e.w,e.ab,ZI e.bl]),E):=O;have set:BR 3 (j7 (aa 5) eU (cM (bh 3))) E=(match j0 (pz (-A) S) e.key with
  |some p=>!(Zp p,E)
  | none=>!(Zp (ZA (-(A++fM S))),#[E.vs.set 3 (!(Zs (.dx HK.hk ((pz (-A) S).map (·.1)++[e.key]) ((pz (-A) S).map (·.2)++[ZA (-(A++fM S))])))),(A++fM S)++[!(R [])]])):=by
  unfold BR;rw[show E.vs[3]?=some (!(Zs (qz (-A) S))) from O];show ((pX [ZH e.w,e.ab,ZI e.bl]).bind _)=_;rw[Jt Q,eH,dA #[O,by rw[eI,Vz];lia],EV]
  all_goals (cases j0 (pz (-A) S) e.key<;>rfl)
 cases h:j5 S e.key with
 |none=>
  let(h1,h2,z):=VB h;rw[h1]at set;have N:-(A++fM S)=-A+-S:=by rw[eM,eI]
  show(xg set O (ws0:=[]) (ws:=[]) ?_ O O ?_ () O).trans ?_
  . rw[hW (),i8];rfl
  . show ((A++fM S)++[!(PV.lst [])])[-(A++fM S)]?=_;rw[hW (),i8];rfl
  . show some (Fl.nx #[_,((A++fM S)++[!(PV.lst [])]).set (-(A++fM S)) _])=_;rw[List.set_append_right _ _ (),i8,qz,z,h2,fx,fx,N,show fM (S++[(e.key,[i])])=fM S++[!(R (aU [i]))] from fx,<-fm];rfl
 |some l=>
  let(j,h1,h2,z,h4):=VD h;rw[h1]at set;let(x,W,ex):=VF h;let N:=hs x W;have g:(A++fM S)[-A+j]?=!(!(R (aU l))):=by rw[hW (),show -A+j-(-A)=j by omega];show h2
  show(xg set O (p:=ZI (i:Nat)) g (Y2:=E) O O g ∅ O).trans ?_;rw[List.set_append_right _ _ (),show -A+j-(-A)=j by lia,show aU l++[PV.int (i:Nat)]=aU (l++[i]) by simp[aU],z,qz,h4]
theorem QV{Q o1 o2 o6 o7 o8 W q:Option Lc}:∀(es:List eR)(i:Nat)(S:SD)(o4 o5:Option Lc),(∀e∈es,e.ab=.non\/∃j:Nat,e.ab=ZI j)->-S+-es<=1000->∀m,ij m S->m+-es<=1000->
 ∃D z,eN vj EW (Ax i (fT es)) (AE Q o1 o2 (!(Zs (qz (-A) S))) o4 o5 o6 o7 o8 W q (A++fM S))=!(.nx (AE Q o1 o2 (!(Zs (qz (-A) (oJ i es S)))) D z o6 o7 o8 W q (A++fM (oJ i es S))))
 |[]=>λi S o4 o5 _ _ m _ _=>#[o4,o5,O]
 |e::es=>λi S o4 o5 N hl m hs hm=>by simp only[d6]at hl hm;let hp:=Nt (K:=e.key) (i:=i) S;let(D,z,ih):=QV es (i+1) (iT e.key i S) (zI (i:Nat)) (zS e.pv) (λx F=>N x (e_ _ F)) () (m+1) hs.put ();show#[D,z,gw O (UM (N e ed) () λx F=>by have:=hs x F;lia) ih]
end
theorem VH{α β:Type}:∀l:List (α×β),(l.map (·.1)).zip (l.map (·.2))=l
 |[]=>rfl
 |x::r=>by rw[fU,fU,mN,VH r]
def Hs(h1:fv Y=!(y,Y1))(i:y.pv=p)(h2:fo Y1=!(x,Y2))(j:x.pv=ZA n)(z:Y2.mu[n]?=!(!(gf C l)))(q:-l<1000):BP C f fo fv Y=!(.nx #[Y2.vs,Y2.mu.set n (!(gf C (su f p l)))]):=by unfold BP;rw[h1,eH,h2,eH,j];dsimp only;rw[z];unfold gf;dsimp only;rw[dA #[O,by rw[eI];show q],VH,i]
def sZ(h2:fo Y=!(x,Y1))(q:x.pv=ZA n)(j:Y1.mu[n]?=!(!(gf C l)))(i:sr l f=!p):jB C f fo Y=!(Zp p,Y1):=by unfold jB;rw[h2,eH,q];dsimp only;rw[j];unfold gf;dsimp only;rw[dA O,VH,i];rfl
def xG(h1:fo Y=!(x,Y1))(z:x.pv=ZA n)(D:Y1.mu[n]?=!(!(gf C l)))(j:(l.map (·.1)).contains m=M)(h2:a Y1=!(ls,Y2))(i:ls.map Lc.pv=ps)(q:g (ZA n::ps) Y2.mu=!(r,kr)):cX C m g fo a Y=!(r,#[Y2.vs,kr]):=by unfold cX;rw[h1,eH,z];dsimp only;rw[D];unfold gf;dsimp only;rw[dA #[O,j],h2,eH,i,q];rfl
def UN(h:a Y=!(ls,Y1))(i:ls.map Lc.pv=ps)(h2:g (ZA (-Y1.mu)::ps) (Y1.mu++[!(gf C [])])=!(Zp .non,kr)):FT C g a Y=!(Zp (ZA (-Y1.mu)),#[Y1.vs,kr]):=by unfold FT;rw[h,eH,i];rw[show g (ZA (-Y1.mu)::ps) (Y1.mu++[!(.obj C [] [])])=_ from h2];rfl
theorem Ju:∀l:PD,-(vN k v l)=-l
 |[]=>rfl
 |x::r=>by simp[vN,Ju r]
def Yh:-(uV l k v)<=-l+1:=by
 unfold uV;split
 . rw[Ju];lia
 . simp
section
abbrev wm:EF:=bU (dh (aa 9) bJ) 2 [] ma bB (aa 0)
theorem QW:∀(xs:List Str)(i o1:Option Lc)(acc:List PV),-acc+-xs<=1000->dF ma bB (aa 0) (xs.map λx=>ZB [ZH x,.non]) #[[i,o1],mu] acc=!(acc++xs.map PV.str,mu)
 |[]=>λi o1 acc _=>by simp[dF]
 |x::xs=>λi o1 acc h=>by simp only[d6]at h;show fY (Y2:=#[[zT x,!(Zp .non)],mu]) O O () ((QW xs _ _ (acc++[ZH x]) ∅).trans ?_);simp
def EX(f:Fn)(p:PV):Prop:=∃xs:List Str,f.params=xs.map (λx=>ZB [ZH x,.non])/\-xs<=4/\Sh xs/\p=R (xs.map PV.str)
theorem Nu:∀l:PD,iG (vN k v l) k'=if k=k' then (iG l k).map λ_=>v else iG l k'
 |[]=>by simp[vN,iG]
 |x::r=>by have:=Nu (k:=k) (k':=k') (v:=v) r;grind [vN,iG]
theorem Nv:∀l:PD,iG l k=J->iG (l++[(k,v)]) k'=if k=k' then !v else iG l k'
 |[]=>λ_=>rfl
 |x::r=>λh=>by have:=Nv (k:=k) (k':=k') (v:=v) r;grind [iG]
def QX:iG (uV l k v) k'=if k=k' then !v else iG l k':=by
 unfold uV;cases h:iG l k with
 |none=>show Nv l h
 |some w=>rw[Nu,h];rfl
def UO{j o1 o2 o3 o4 o5 o8 i:Option Lc}(q:∃xs:List Str,f.params=xs.map (λx=>ZB [ZH x,.non])/\-xs<=4/\Sh xs)(F:-d<=1000):∃p,EX f p/\
 FJ 6 (aa 7) wm (AE j o1 o2 o3 o4 o5 (!(Zs (nG d))) (zT f.name) o8 (zL f.params) i mu)=!(.nx (AE j o1 o2 o3 o4 o5 (!(Zs (nG (uV d (.inr f.name) p)))) (zT f.name) o8 (zL f.params) i mu)):=by
 let(xs,e,z,D):=q;let E:_:=AE j o1 o2 o3 o4 o5 (!(Zs (nG d))) (zT f.name) o8 (zL f.params) i mu;show#[R (xs.map PV.str),#[xs,e,z,D,O],?_];have c:wm E=!(Zs (R (xs.map PV.str)),E):=eF (Y1:=E) () (by rw[e];show QW xs J J [] ∅);unfold FJ;rw[c,eH];show (if -(d.map (·.1))<100000 then _ else _)=_;rw[dA ∅,VH];rfl
def Tc(fs:List Fn)(d:PD):Prop:=∀f∈fs,∃p,EX f p/\iG d (.inr f.name)=!p
theorem QZ{o0 o1 o2 o3 o4 o5:Option Lc}:∀(fs:List Fn)(d:PD)(o7 o8 F i:Option Lc),(∀f∈fs,∃xs:List Str,f.params=xs.map (λx=>ZB [ZH x,.non])/\-xs<=4/\Sh xs)->(fs.map Fn.name).Nodup->-d+-fs<=1000->
 ∃z W N Q j,Tc fs z/\(∀x∉fs.map Fn.name,iG z (.inr x)=iG d (.inr x))/\eN BO (FJ 6 (aa 7) wm) (fs.map Fn.pv) (AE o0 o1 o2 o3 o4 o5 (!(Zs (nG d))) o7 o8 F i mu)=!(.nx (AE o0 o1 o2 o3 o4 o5 (!(Zs (nG z))) W N Q j mu))
 |[]=>λd o7 o8 F i _ _ _=>#[d,o7,o8,F,i,λf hf=>(by cases hf),λ_ _=>O,O]
 |f::fs=>λd o7 o8 F i h nd hl=>by
  simp only[d6]at hl;let(n1,n2):=ip.mp nd;let(p,hp,st):=UO (d:=d) (h f ed) ();let Me:=Yh (k:=.inr f.name) (v:=p) (l:=d);let(z,W,N,Q,j,k1,k2,ih):=QZ fs (uV d (.inr f.name) p) (zT f.name) (zS f.rank) (zL f.params) (zL f.rows.pvs) (λx D=>h x (e_ _ D)) n2 ();show#[z,W,N,Q,j,λg hg=>?_,λx D=>?_,gw O st ih]
  . obtain rfl|hg:=d5.mp hg
    . show#[p,hp,by rw[k2 _ n1,QX,dA O]]
    . show k1 g hg
  . rw[k2 x λq=>D (e_ _ q),QX,dQ];intro q;injection q with q;show D ∅
abbrev LX(N:Nat)(S:SD):PV:=.dx HK.hk ((pz N S).map (·.1)) (S.map λx=>R (aU x.2))
abbrev Q0(es:List eR)(N:Nat)(hd:PV):FD:=[("told",R (fT es)),("lists",LX N (oJ 0 es [])),("heads",hd)]
def UP(P:Pg):∀e∈P.es,e.ab=.non\/∃j:Nat,e.ab=ZI j:=by
 have f:∀(fs:List Fn)(k:Nat),∀e∈qJ fs k,e.ab=.non\/∃j:Nat,e.ab=ZI j:=by
  intro fs;induction fs with
  |nil=>intro k e i;cases i
  |cons f fs q=>
   intro k e i;obtain i|i:=fw.mp i
   . show(Rows.abs f.rows f.name .non 0 k e i).num (k:=0) (Zl O)
   . show q _ e i
 intro e i;obtain i|i:=fw.mp i
 . show f _ _ e i
 . show(Rows.abs P.rows "main" .non 0 _ e i).num (k:=0) (Zl O)
theorem es_len(P:Pg):-P.es=d8 P.fns+P.rows.cnt:=by unfold Pg.es;rw[eM,BZ,Rows.es_len]
def Td{α:Type}{A B:List α}{x:α}:(A++x::B)[-A]?=!x:=by rw[hW (),i8];rfl
def Te{α:Type}{A B:List α}{x y:α}:(A++x::B).set (-A) y=A++y::B:=by rw[List.set_append_right _ _ (),i8];rfl
def UQ{P:Pg}(ok:P.ok)(A:Mu):∃d B,Tc P.fns d/\kI [ZA (-A),P.pv] (A++[!(gf "Plan" [])])=!(Zp .non,A++some (gf "Plan" (Q0 P.es (-A+1) (nG d)))::B):=by
 let hc:=ok.ct;let hlen:=es_len P;let i:Mu:=A++[!(gf "Plan" [])];have wn:-i=-A+1:=by simp[i]
 let S:_:=oJ 0 P.es [];let o0:Option Lc:=zS (ZA (-A));let o1:Option Lc:=zS P.pv;let o2:Option Lc:=zL (fT P.es);let(p4,z,e1):=QV P.es 0 [] J J (UP P) ∅ 0 (λx hx=>by cases hx) ();let(d,D,N,p9,j,F,_,e2):=QZ P.fns [] J J J J ok.pm ok.nd (by have:=ok.fl;simp only[eQ];lia);let n1:=Pr (mu:=i) ok;let T:PV:=R (fT P.es);let q:Mu:=A++[!(gf "Plan" [("told",T)])];let B:Mu:=S.map λ_=>J;have EZ:-q=-i:=by simp[i,q]
 let hm:=QT S q;rw[EZ]at hm;let Q:_:=AE o0 o1 o2 (!(Zs (qz (-i) S))) p4 z (!(Zs (nG d))) D N p9 j;let Q2:_:=AE o0 o1 o2 (zS (qz (-i) S)) p4 z (!(Zs (nG d))) D N p9 j;let Q3:_:=AE o0 o1 o2 (zS (qz (-i) S)) p4 z (zS (nG d)) D N p9 j;show#[d,B,F,?_];have W:∀{g:SF}{Y1:Ev},g (env0 11 [ZA (-A),P.pv] i)=!(.nx Y1)->cY 11 g [ZA (-A),P.pv] i=!(Zp .non,Y1.mu):=λh=>PR h;show W (Y1:=Q3 (A++some (gf "Plan" (Q0 P.es (-A+1) (nG d)))::B)) ?_;show aH (bu (aR O O O O n1) O O) ?_;show aH O ?_;show aH (eO ?_ e1) ?_
 . rw[<-Ed,show i++fM []=i from f_ _];rfl
 show aH O ?_;show aH () ?_;show aH (Y':=Q (q++fM S)) ((Hs (C:="Plan") (f:="told") (l:=[]) O O O O ?_ ()).trans ?_) ?_
 . rw[fm];show Td
 . show some (Fl.nx #[_,(A++[!(gf "Plan" [])]++fM S).set (-A) _])=!(Fl.nx #[_,A++[!(gf "Plan" [("told",T)])]++fM S]);rw[fm,fm,List.singleton_append,Te];rfl
 show aH (Y':=Q2 (A++some (gf "Plan" [("told",T),("lists",LX (-i) S)])::B)) ((Hs (C:="Plan") (f:="lists") (l:=[("told",T)]) (y:=Zp (LX (-i) S)) (Y1:=Q2 (q++B)) ?_ O O O ?_ (by simp only[d6,eQ];lia)).trans ?_) ?_
 . unfold M4;show ((meltL (q++fM S) ((pz (-i) S).map (·.2))).map _)=_;rw[hm];rfl
 . rw[fm];show Td
 . show some (Fl.nx #[_,(A++[!(gf "Plan" [("told",T)])]++B).set (-A) _])=!(Fl.nx #[_,A++some (gf "Plan" [("told",T),("lists",LX (-i) S)])::B]);rw[fm,List.singleton_append,Te];rfl
 show(Hs (C:="Plan") (f:="heads") O O O O Td (by simp only[d6,eQ];lia)).trans ?_;show some (Fl.nx #[_,(A++some (gf "Plan" [("told",T),("lists",LX (-i) S)])::B).set (-A) _])=!(Fl.nx #[_,A++some (gf "Plan" (Q0 P.es (-A+1) (nG d)))::B]);rw[Te,<-wn];rfl
end
abbrev c7(l:List Str):List PV:=l.map PV.str
abbrev lF(k:Nat):Str:=(toString ((k:Nat):Int):Str)
def Gq:∀k<256,ψ (ZI ((k:Nat):Int))=!(lF k)/\-("at " : Str)+-(lF k)<=1000/\jj [ZI ((k:Nat):Int)]=zT (lF k):=by
 have g:∀k<256,-("at " : Str)+-(lF k)<=1000/\((k:Nat):Int).natAbs.log2<1920:=by decide +kernel
 intro k hk;let(j,i):=g k hk;show#[?_,j,?_]
 . show (if ((k:Nat):Int).natAbs.log2<1920 then (if -(lF k)<=100000 then !(lF k) else J) else J)=_;rw[dA i,dA ()]
 . show (if ((k:Nat):Int).natAbs.log2<1920 then !(Lc.sh (ZH (lF k))) else J)=_;rw[dA i]
section
structure jb(mu:Mu)(n:Nat)(es:List eR):Prop where
 ex:∃N hd,mu[n]?=!(!(gf "Plan" (Q0 es N hd)))
def Ht(h:es[k]?=!e):fO (fT es) ((k:Nat):Int)=!e.pv:=PN ∅
def tu(h:jb mu n es)(he:es[k]?=!e):dY [ZA n,ZI (k:Nat)] mu=!(Zp e.r.pv,mu):=by let(N,j,i):=h;let E:Ev:=#[[zS (ZA n),zI (k:Nat)],mu];show aO (cT (dG (Y2:=E) (l:=Zp e.pv) (dG (sZ O O i O) O O O (λn h=>by cases h) ?_) O O O (λn h=>by cases h) O));show (fO (fT es) ((k:Nat):Int)).map _=_;rw[Ht he];rfl
open Classical in
def Eg(h:jb mu n es)(he:es[k]?=!e):dZ [ZA n,ZI (k:Nat),ZI i] mu=!(Zs (R (aU (pos (hE e.w k i) 0 es))),mu):=by
 let(N,z,j):=h;let E:Ev:=#[[zS (ZA n),zI (k:Nat),zI i],mu];have hk:aX BB E=!(Zp (ZB [ZH e.w,ZI (k:Nat),ZI i]),E):=by show dm (aA (dG (l:=Zp e.pv) (dG (sZ O O j O) O O O (λn h=>by cases h) ?_) O O O (λn h=>by cases h) O) O) O O;show (fO (fT es) ((k:Nat):Int)).map _=_;rw[Ht he];rfl
 let S:_:=oJ 0 es [];have F:(j5 S (hE e.w k i)).getD []=pos (hE e.w k i) 0 es:=Cd es 0 [];have g:∃l,yD (jB "Plan" "lists" (aa 0)) BC E=!(l,E)/\l.pv=R (aU ((j5 S (hE e.w k i)).getD [])):=by
  unfold yD;rw[sZ (C:="Plan") (f:="lists") O O j O,eH];show ∃l,((aX BB E).bind _)=!(l,E)/\_;rw[hk,eH];show ∃l,(if HK.hk=HK.hk then !((match j0 (((pz N S).map (·.1)).zip (S.map λx=>PV.lst (aU x.2))) (hE e.w k i) with |some p=>Lc.sh p |none=>Zs (R [])),E) else J)=!(l,E)/\_;rw[dA O,Kq];cases j5 S (hE e.w k i) with
  |none=>show#[_,O,O]
  |some l=>show#[_,O,O]
 let(l,q,D):=g;show aO (cT (jN (ps:=[R (aU (pos (hE e.w k i) 0 es))]) (Y1:=E) (aA q O) ∅ O))
def Rows.sps:Rows->List Bool
 |.nil=>[]
 |.cons r rs=>r.sp::rs.sps
theorem Rows.sps_any:∀rs:Rows,rs.sps.any id=rs.sp
 |.nil=>rfl
 |.cons r rs=>by simp[Rows.sps,Rows.sp,Rows.sps_any rs]
abbrev E_:EF:=aN yM BD
theorem Q4(h:jb mu n es):∀(rs:Rows)(s:Nat)(o:Option Lc)(acc:List PV),qx es w ab bl s rs->rs.ok->rs.dep<=38->-acc+rs.cnt<=900->dF (aC 0) bB E_ (aU (rs.nums s)) #[[o,zS (ZA n)],mu] acc=!(acc++rs.sps.map PV.bl,mu)
 |.nil=>λs o acc _ _ _ _=>by simp[Rows.nums,Rows.sps,dF]
 |.cons r rs=>λs o acc hs ok q D=>by simp only[Rows.dep]at q;simp only[Rows.cnt]at D;let h1:=r.cnt_pos;let(F,z):=hs.cons;let E:Ev:=#[[zI (s:Nat),zS (ZA n)],mu];let(N,i,j):=h;have st:E_ E=!(Zp (.bl r.sp),E):=aR (ps:=[r.pv]) (aA (xG O O j () O O (tu #[N,i,j] F.get)) O) O O O (Js ok.1 () ());show fY O st () ((Q4 #[N,i,j] rs (s+r.cnt) _ (acc++[.bl r.sp]) z ok.2 () ∅).trans ?_);simp[Rows.sps]
def Pu{rs:Rows}(h:jb mu n es)(hs:qx es w ab bl s rs)(ok:rs.ok)(i:rs.dep<=38)(j:rs.cnt<=900):fV [ZA n,R (aU (rs.nums s))] mu=!(Zp (.bl rs.sp),mu):=by let E:Ev:=#[[zS (ZA n),zL (aU (rs.nums s))],mu];let c:=Q4 h rs s J [] hs ok i ∅;show aO (Y:=E) (cT ?_);show jN (aA ((eF () c).trans O) O) O ?_;show ((fF (rs.sps.map PV.bl)).map _)=_;rw[show rs.sps.map PV.bl=rs.sps.map (λb=>PV.bl (id b)) from O,rP,kA,List.map_id];rw[Rows.sps_any]
def Rows.lnum:Rows->Nat->Nat
 |.nil,k=>k
 |.cons _ .nil,k=>k
 |.cons r (.cons r' rs),k=>(Rows.cons r' rs).lnum (k+r.cnt)
theorem Rows.nums_last:∀(r:c9)(rs:Rows)(s:Nat),∃a,(Rows.cons r rs).nums s=a++[(Rows.cons r rs).lnum s]
 |r,.nil,s=>#[[],O]
 |r,.cons i rs,s=>by let(a,e):=Rows.nums_last i rs (s+r.cnt);show#[s::a,?_];show s::(Rows.cons i rs).nums (s+r.cnt)=_;rw[e];rfl
abbrev BE(n k:Nat)(p:PV)(acc:List PV)(o4:Option Lc)(mu:Mu):Ev:=#[[zS (ZA n),zI (k:Nat),zS p,zO acc,o4],mu]
abbrev Fa(f:Nat):SF:=cC BI
 (gb 3 (aN (dJ f) BG))
 bR
def Q5{rs:Rows}(h:jb mu n es)(hs:qx es w ab bl s rs)(ok:rs.ok)(D:rs.dep<=38)(hc:rs.cnt<=900)(hz:-acc+-(rs.lbt s)<=1000)
 (Q:∀r i,rs=.cons r i->dJ f [ZA n,ZI (rs.lnum s:Nat)] mu=!(Zs (R (c7 (rs.lbt s))),mu)):
 Fa f (BE n k p acc (zL (aU (rs.nums s))) mu)=!(.nx (BE n k p (acc++c7 (if rs.sp then rs.lbt s else [])) (zL (aU (rs.nums s))) mu)):=by
 let E:_:=BE n k p acc (zL (aU (rs.nums s))) mu;let(N,q,z):=h;have t:tT S0 qW E=!(rs.sp,E):=jU (xG (Y2:=E) O O z () O O (Pu #[N,q,z] hs ok D hc)) O;cases j:rs.sp with
 |false=>
  rw[j]at t;show(lU t).trans ?_;simp[c7];rfl
 |true=>
  rw[j]at t;show(lR t).trans ?_;cases rs with
  |nil=>cases j
  |cons r i=>
   let F:=Q r i O;let(a,ea):=Rows.nums_last r i s;have W:aJ (aa 4) (jq (bh 1)) E=!(Zp (ZI ((Rows.cons r i).lnum s:Nat)),E):=by show dG O O O O (λn h=>by cases h) ?_;show (fO (aU ((Rows.cons r i).nums s)) (-1)).map _=_;rw[ea,aU,fx,List.map_singleton,qN];rfl
   show(jZ O (aR (aA O (aA W O)) O O O F) O O ∅ O).trans ?_;rfl
end
section
def wB{o4:Option Lc}:aJ (aa 2) (bh 0) (BE n k (ZB (ZH w::ps)) acc o4 mu)=!(Zp (ZH w),BE n k (ZB (ZH w::ps)) acc o4 mu):=
 dG O O O O (λn h=>by cases h) (by show (fO (PV.str w::ps) 0).map _=_;rw[md];rfl)
abbrev UR(f:Nat):SF:=aF (cC qB
 BH
 bR)
 (aF (cC ve
 (fX BM (aC 4)
 (Fa f))
 bR)
 (gZ 3))
def Kr{o4:Option Lc}(h:jb mu n es)(hs:qy es w ab bl k r)(hk:k<256)(j:UR f (BE n k r.pv [ZH (k5 k)] J mu)=!(.rt (Zs (R L)) #[[zS (ZA n),zI (k:Nat),zS r.pv,J,o4],mu])):
 dJ (f+1) [ZA n,ZI (k:Nat)] mu=!(Zs (R L),mu):=by
 let(z,Q,F):=Gq k hk;let i:=tu h hs.get;let(N,D,q):=h;show aO (Y:=#[[zS (ZA n),zI (k:Nat),zS r.pv,J,o4],mu]) ?_;show aH (bu (xG O O q () O O i) O O) ?_;show aH (bu (pQ (aA (Ga O z ()) O) O O) O O) j
mutual
theorem VJ(h:jb mu n es):∀(r:c9)(f k:Nat)(w:Str)(ab:PV)(bl:Int),qy es w ab bl k r->r.ok->r.dep<=f->r.dep<=37->k+r.cnt<=256->r.bl<=900->dJ f [ZA n,ZI (k:Nat)] mu=!(Zs (R (c7 (r.bt k))),mu)
 |.leaf x ps=>λf k w ab bl hs ok D j z W=>by simp only[c9.cnt]at z;obtain⟨m,rfl⟩:∃m,f=m+1:=#[f-1,by simp only[c9.dep]at D;lia];let((h1,h2,h3),_):=ok;show Kr h hs () ((bG (bw wB) h3).trans ((bG (bw wB) h1).trans O))
 |.call x m as=>λf k w ab bl hs ok D j z W=>by
  simp only[c9.cnt]at z;obtain⟨f,rfl⟩:∃m,f=m+1:=#[f-1,by simp only[c9.dep]at D;lia];let(_,hn,_):=ok;let P:_:=(c9.call x m as).pv;show Kr h hs () ((nA (Y2:=BE n k P [ZH (k5 k),ZH ("leave " ++ m)] J mu) (bw wB) () ?_).trans ((bG (bw wB) ()).trans O));show pR (l:=Zp (ZH ("leave " ++ m))) (Y1:=BE n k P [ZH (k5 k)] J mu) O ?_ O O (by simp only[d6,eQ];lia) O;show dj O O O O ?_;show (if -("leave " : Str)+-m<=100000 then _ else _)=_;have h6:-("leave " : Str)=6:=by decide +kernel
  rw[dA ()]
 |.wh x b=>λf k w ab bl hs ok D j z W=>by simp only[c9.cnt]at z;obtain⟨m,rfl⟩:∃m,f=m+1:=#[f-1,by simp only[c9.dep]at D;lia];show Kr h hs () ((bG (bw wB) ()).trans ((bG (bw wB) ()).trans O))
 |.iff x b c=>λf k w ab bl hs ok D j z W=>by
  simp only[c9.cnt]at z;simp only[c9.dep]at D j;simp only[c9.bl]at W;obtain⟨m,rfl⟩:∃m,f=m+1:=#[f-1,()];let(s1,s2):=hs.iff;have p0:pos (hE w k 0) 0 es=b.nums (k+1):=hs.pos 0;have p1:pos (hE w k 1) 0 es=c.nums (k+1+b.cnt):=hs.pos 1;let b0:=Eg (i:=0) h hs.get;let b1:=Eg (i:=1) h hs.get;have q0:dZ [ZA n,ZI (k:Nat),ZI 0] mu=!(Zs (R (aU (b.nums (k+1)))),mu):=by rw[b0,p0]
  have q1:dZ [ZA n,ZI (k:Nat),ZI 1] mu=!(Zs (R (aU (c.nums (k+1+b.cnt)))),mu):=by rw[b1,p1]
  let P:_:=(c9.iff x b c).pv;let F:List PV:=[ZH (k5 k)];let Q:_:=F++c7 (if b.sp then b.lbt (k+1) else []);let A2:_:=Q++c7 (if c.sp then c.lbt (k+1+b.cnt) else []);let l1:=Rows.lbt_len b (k+1);let l2:=Rows.lbt_len c (k+1+b.cnt);have wn:-Q<=1+b.bl:=by simp only[Q,F,eM,eI,d6,eQ];split<;>(try simp only[eQ])<;>lia
  let e1:=Q5 (k:=k) (p:=P) (acc:=F) h s1 ok.2.1 () () (by simp only[F,d6,eQ];lia) λr rs e=>ax h b m (k+1) w (ZI (k:Nat)) 0 #[r,rs,e] s1 ok.2.1 () () () ();let e2:=Q5 (k:=k) (p:=P) (acc:=Q) h s2 ok.2.2 () () () λr rs e=>ax h c m (k+1+b.cnt) w (ZI (k:Nat)) 1 #[r,rs,e] s2 ok.2.2 () () () ();let(N,US,hm):=h;let E:_:=BE n k P F J mu;have me:∀(i:Int)(l:List PV),dZ [ZA n,ZI (k:Nat),ZI i] mu=!(Zs (R l),mu)->cX "Plan" "block" dZ (aa 0) (aj (aa 1) (aj (bh i) ao)) E=!(Zs (R l),E):=λi l q=>xG (n:=n) (x:=Zp (ZA n)) (Y1:=E) (Y2:=E) (ls:=[Zp (ZI (k:Nat)),Zp (ZI i)]) O O hm (by show (["told","lists","heads"]:List Str).contains "block"=M;decide +kernel) O O q;show Kr (o4:=zL (aU (c.nums (k+1+b.cnt)))) #[N,US,hm] hs () ((bG (bw wB) ()).trans ((nA (Y2:=BE n k P A2 (zL (aU (c.nums (k+1+b.cnt)))) mu) (bw wB) () ?_).trans ?_))
  . show eO (xs:=[R (aU (b.nums (k+1))),R (aU (c.nums (k+1+b.cnt)))]) (Y1:=E) (dC (l:=Zp (ZB [R (aU (b.nums (k+1))),R (aU (c.nums (k+1+b.cnt)))])) (dm (ls:=[Zs (R (aU (b.nums (k+1)))),Zs (R (aU (c.nums (k+1+b.cnt))))]) (aA (me 0 _ q0) (aA (me 1 _ q1) O)) O O) O) ?_;show Np (Y1:=BE n k P F (zL (aU (b.nums (k+1)))) mu) (Y3:=BE n k P Q (zL (aU (c.nums (k+1+b.cnt)))) mu) O e1 O e2
  . have eA:A2=c7 ((c9.iff x b c).bt k):=by simp only[A2,Q,F,c9.bt,c7,fx,fU,oP]
    rw[<-eA];rfl
theorem ax{mu:Mu}{n:Nat}{es:List eR}(h:jb mu n es):∀(rs:Rows)(f s:Nat)(w:Str)(ab:PV)(bl:Int),(∃r z,rs=.cons r z)->qx es w ab bl s rs->rs.ok->rs.dep<=f+1->rs.dep<=38->s+rs.cnt<=256->rs.bl<=900->dJ f [ZA n,ZI (rs.lnum s:Nat)] mu=!(Zs (R (c7 (rs.lbt s))),mu)
 |.nil=>λf s w ab bl z6 _ _ _ _ _ _=>by let(_,_,e):=z6;cases e
 |.cons r .nil=>λf s w ab bl _ hs ok D j hc F=>by simp only[Rows.dep,Rows.cnt,Rows.bl]at D j hc F;show VJ h r f s w ab bl hs.cons.1 ok.1 () () () ()
 |.cons r (.cons i rs)=>λf s w ab bl _ hs ok D j hc F=>by
  have N:(Rows.cons i rs).dep<=f+1:=gL (Nat.le_max_right _ _) D;have q:(Rows.cons i rs).dep<=38:=gL (Nat.le_max_right _ _) j;have W:(Rows.cons i rs).bl<=900:=gL (Nat.le_max_right _ _) F;have Q:s+r.cnt+(Rows.cons i rs).cnt<=256:=by have:(Rows.cons r (.cons i rs)).cnt=r.cnt+(Rows.cons i rs).cnt:=O;lia
  show ax h (.cons i rs) f (s+r.cnt) w ab bl #[i,rs,O] hs.cons.2 ok.2 N q Q W
end
end
def jO(w:Str):Bool:=("if"== w)||(("while"== w)||false)
def Hu(h:iP w):jO w=M:=by unfold jO;rw[xx h.1,xx h.2.1];rfl
section
def gm:Nat->List c9->List PV
 |_,[]=>[]
 |i,r::rs=>ZB [ZI (i:Nat),r.pv]::gm (i+1) rs
theorem xH:∀(i:Nat)(a b:List c9),gm i (a++b)=gm i a++gm (i+-a) b
 |i,[],b=>rfl
 |i,r::a,b=>by show _::gm (i+1) (a++b)=_::(gm (i+1) a++_);rw[xH (i+1) a b,show i+-(r::a)=i+1+-a by simp only[d6];omega]
theorem xJ:∀(i:Nat)(a:List c9),-(gm i a)=-a
 |i,[]=>rfl
 |i,r::a=>by simp[gm,xJ]
abbrev MA(mu:Mu)(t:Nat)(acc:List PV):Mu:=mu.set t (!(R acc))
def Gr(h:t< -mu):(MA mu t acc)[t]?=!(!(R acc)):=k_ h
def UU:(MA mu t acc).set t (!(R acc'))=MA mu t acc':=j2 ..
abbrev GE(X:PV)(f0 t k:Nat)(o4 o5:Option Lc)(mu:Mu):Ev:=#[[zS X,zI (f0:Nat),zS (ZA t),zI (k:Nat),o4,o5],mu]
abbrev Yi_:TF:=tT EB aY
def wG{o5:Option Lc}:aJ (aa 4) (bh 0) (GE X f0 t k (zS (ZB (ZH w::ps))) o5 mu)=!(Zp (ZH w),GE X f0 t k (zS (ZB (ZH w::ps))) o5 mu):=
 dG O O O O (λn h=>by cases h) (by show (fO (PV.str w::ps) 0).map _=_;rw[md];rfl)
def Zk{o5:Option Lc}:Yi_ (GE X f0 t k (zS (ZB (ZH w::ps))) o5 mu)=!(jO w,GE X f0 t k (zS (ZB (ZH w::ps))) o5 mu):=
 jU (bC wG O O) O
abbrev wo(n:Nat):SF:=aL 3 (aN (fL n) Ef)
abbrev Zm(n:Nat):SF:=aF EA
 (aF (aL 3 (au bf (aa 3) (bh 1)))
 (cC Yi_
 (fX vT (aC 5)
 (wo n))
 bR))
def Gs{r:c9}{o5:Option Lc}(j:t< -mu)(q:-acc<1000)(i:Yi_ (GE X f0 t (k+1) (zS r.pv) o5 (MA mu t (acc++[ZB [ZI (k:Nat),r.pv]])))=!(b,GE X f0 t (k+1) (zS r.pv) o5 (MA mu t (acc++[ZB [ZI (k:Nat),r.pv]]))))
 (h:(if b then fX vT (aC 5) (wo n) else bR) (GE X f0 t (k+1) (zS r.pv) o5 (MA mu t (acc++[ZB [ZI (k:Nat),r.pv]])))=ZN):
 Zm n (GE X f0 t k (zS r.pv) o5 (MA mu t acc))=ZN:=by
 show aH (xg O O (Gr j) O O (Gr j) () UU) ?_;cases b with
 |true=>show(lR i).trans h
 |false=>show(lU i).trans h
def Nx{o4:Option Lc}(h:fL n [p,ZI (k:Nat),ZA t] mu=!(Zp (ZI (k':Nat)),hU)):wo n (GE X f0 t k o4 (zS p) mu)=!(.nx (GE X f0 t k' o4 (zS p) hU)):=
 bu (aR O O O O h) O O
def Ks{rs:Rows}(h:∃o4 o5,eN (aC 4) (Zm n) rs.pvs (GE (R rs.pvs) k t k J J (MA mu t acc))=!(.nx (GE (R rs.pvs) k t (k+rs.cnt) o4 o5 (MA mu t (acc++gm k rs.rws))))):fL (n+1) [R rs.pvs,ZI (k:Nat),ZA t] (MA mu t acc)=!(Zp (ZI ((k+rs.cnt:Nat):Int)),MA mu t (acc++gm k rs.rws)):=by let(o4,o5,h):=h;show aO (Y:=#[[zL rs.pvs,zI (k:Nat),zS (ZA t),J,o4,o5],MA mu t (acc++gm k rs.rws)]) ?_;show aH O (aH () O)
mutual
theorem UX(q:t< -mu):∀(r:c9)(n:Nat)(X:PV)(j k:Nat)(acc:List PV)(o5:Option Lc),r.ok->r.dep<=n->-acc+r.cnt<=1000->∃p5,Zm n (GE X j t k (zS r.pv) o5 (MA mu t acc))=!(.nx (GE X j t (k+r.cnt) (zS r.pv) p5 (MA mu t (acc++gm k r.rws))))
 |.leaf x ps=>λn X j k acc o5 ok D z=>by show#[o5,Gs (b:=M) q () (by rw[<-Hu ok.1];show Zk) O]
 |.call b m as=>λn X j k acc o5 ok D z=>by simp only[c9.cnt]at z;show#[o5,Gs (b:=M) q () (by rw[show M=jO "call" by decide +kernel];show Zk) O]
 |.wh e b=>λn X j k acc o5 ok D z=>by
  simp only[c9.cnt]at z;simp only[c9.dep]at D;let hb:=Rows.dep_pos b;obtain⟨m,rfl⟩:∃m,n=m+1:=#[n-1,()];let P:_:=(c9.wh e b).pv;let i:_:=acc++[ZB [ZI (k:Nat),P]];have hA:-i=-acc+1:=by simp[i]
  let W:=Ks (af q b m (R b.pvs) (k+1) (k+1) i J J ok.2 () ());show#[zL b.pvs,Gs (b:=G) q () (by rw[show G=jO "while" by decide +kernel];show Zk) ?_];show eO (dC O O) ((S9 (Y1:=GE X j t (k+1) (zS P) (zL b.pvs) (MA mu t i)) O (Nx W)).trans ?_);have N:k+1+b.cnt=k+(c9.wh e b).cnt:=by simp only[c9.cnt];lia
  have Q:i++gm (k+1) b.rws=acc++gm k (c9.wh e b).rws:=by simp[i,c9.rws,gm,P]
  rw[N,Q]
 |.iff e b c=>λn X j k acc o5 ok D z=>by
  simp only[c9.cnt]at z;simp only[c9.dep]at D;let hb:=Rows.dep_pos b;obtain⟨m,rfl⟩:∃m,n=m+1:=#[n-1,()];let P:_:=(c9.iff e b c).pv;let i:_:=acc++[ZB [ZI (k:Nat),P]];have hA:-i=-acc+1:=by simp[i]
  let W:=Ks (af q b m (R b.pvs) (k+1) (k+1) i J J ok.2.1 () ());let F:_:=i++gm (k+1) b.rws;have EZ:-F=-acc+1+b.cnt:=by show -(i++gm (k+1) b.rws)=_;rw[eM,xJ,Rows.rws_len,hA]
  let we:=Ks (af q c m (R c.pvs) (k+1+b.cnt) (k+1+b.cnt) F J J ok.2.2 () ());show#[zL c.pvs,Gs (b:=G) q () (by rw[show G=jO "if" by decide +kernel];show Zk) ?_];show eO (dC O O) ((Np (Y3:=GE X j t (k+1+b.cnt) (zS P) (zL c.pvs) (MA mu t F)) O (Nx W) O (Nx we)).trans ?_);have N:k+1+b.cnt+c.cnt=k+(c9.iff e b c).cnt:=by simp only[c9.cnt];lia
  have Q:F++gm (k+1+b.cnt) c.rws=acc++gm k (c9.iff e b c).rws:=by simp[F,i,c9.rws,gm,P,xH,Rows.rws_len]
  rw[N,Q]
theorem af(F:t< -mu):∀(rs:Rows)(n:Nat)(X:PV)(i k:Nat)(acc:List PV)(o4 o5:Option Lc),rs.ok->rs.dep<=n+1->-acc+rs.cnt<=1000->∃q j,eN (aC 4) (Zm n) rs.pvs (GE X i t k o4 o5 (MA mu t acc))=!(.nx (GE X i t (k+rs.cnt) q j (MA mu t (acc++gm k rs.rws))))
 |.nil=>λn X i k acc o4 o5 ok z D=>#[o4,o5,by simp[Rows.pvs,eN,Rows.rws,gm,Rows.cnt]]
 |.cons r rs=>λn X i k acc o4 o5 ok z D=>by
  simp only[Rows.dep]at z;simp only[Rows.cnt]at D;let(W,Q):=UX F r n X i k acc o5 ok.1 () ();let(q,j,e2):=af F rs n X i (k+r.cnt) (acc++gm k r.rws) (zS r.pv) W ok.2 () (by rw[eM,xJ,c9.rws_len];lia);show#[q,j,gw O Q (e2.trans ?_)];have e3:k+r.cnt+rs.cnt=k+(Rows.cons r rs).cnt:=by simp only[Rows.cnt];lia
  have N:acc++gm k r.rws++gm (k+r.cnt) rs.rws=acc++gm k (Rows.cons r rs).rws:=by simp[Rows.rws,xH,c9.rws_len]
  rw[e3,N]
end
def VL{rs:Rows}(j:t< -mu)(ok:rs.ok)(q:rs.dep<=40)(i:-acc+rs.cnt<=1000):fL 40 [R rs.pvs,ZI (k:Nat),ZA t] (MA mu t acc)=!(Zp (ZI ((k+rs.cnt:Nat):Int)),MA mu t (acc++gm k rs.rws)):=
 Ks (af j rs 39 _ k k acc J J ok () i)
mutual
theorem c9.es_rws:∀(r:c9)(w:Str)(ab:PV)(bl:Int)(k:Nat),(r.es w ab bl k).map eR.r=r.rws
 |.leaf _ _,w,ab,bl,k=>rfl
 |.call _ _ _,w,ab,bl,k=>rfl
 |.wh e b,w,ab,bl,k=>by simp[c9.es,c9.rws,Rows.es_rws b]
 |.iff e b c,w,ab,bl,k=>by simp[c9.es,c9.rws,Rows.es_rws b,Rows.es_rws c]
theorem Rows.es_rws:∀(rs:Rows)(w:Str)(ab:PV)(bl:Int)(k:Nat),(rs.es w ab bl k).map eR.r=rs.rws
 |.nil,w,ab,bl,k=>rfl
 |.cons r rs,w,ab,bl,k=>by simp[Rows.es,Rows.rws,c9.es_rws r,Rows.es_rws rs]
end
def jk(es:List eR)(k:Nat)(r:c9):Prop:=∃w ab bl,qy es w ab bl k r
mutual
theorem c9.spots:∀(r:c9){es:List eR}{w:Str}{ab:PV}{bl:Int}{k:Nat},qy es w ab bl k r->∀(i:Nat) x,r.rws[i]?=!x->jk es (k+i) x
 |.leaf a ps,es,w,ab,bl,k=>λh i x j=>by
  match i,j with
  |0,j=>cases j;show#[w,ab,bl,h]
 |.call a n z,es,w,ab,bl,k=>λh i x j=>by
  match i,j with
  |0,j=>cases j;show#[w,ab,bl,h]
 |.wh e b,es,w,ab,bl,k=>λh i x j=>by
  match i,j with
  |0,j=>cases j;show#[w,ab,bl,h]
  |i+1,j=>
   have:=Rows.spots b h.wh i x ();rw[show k+(i+1)=k+1+i by omega];show this
 |.iff e b c,es,w,ab,bl,k=>λh i x j=>by
  match i,j with
  |0,j=>cases j;show#[w,ab,bl,h]
  |i+1,j=>
   have q:(b.rws++c.rws)[i]?=!x:=by simpa [c9.rws] using j
   obtain hi|hi:=Nat.lt_or_ge i (-b.rws)
   . rw[jp hi]at q;have:=Rows.spots b h.iff.1 i x q;rw[show k+(i+1)=k+1+i by omega];show this
   . rw[hW hi]at q;have:=Rows.spots c h.iff.2 _ x q;rw[Rows.rws_len]at this hi;rw[show k+(i+1)=k+1+b.cnt+(i-b.cnt) by omega];show this
theorem Rows.spots:∀(rs:Rows){es:List eR}{w:Str}{ab:PV}{bl:Int}{k:Nat},qx es w ab bl k rs->∀(i:Nat) x,rs.rws[i]?=!x->jk es (k+i) x
 |.nil,es,w,ab,bl,k=>λh i x q=>by cases q
 |.cons r rs,es,w,ab,bl,k=>λh i x q=>by
  let(h1,h2):=h.cons;have j:(r.rws++rs.rws)[i]?=!x:=q;obtain hi|hi:=Nat.lt_or_ge i (-r.rws)
  . rw[jp hi]at j;show c9.spots r h1 i x j
  . rw[hW hi]at j;have:=Rows.spots rs h2 _ x j;rw[c9.rws_len]at this hi;rw[show k+i=k+r.cnt+(i-r.cnt) by omega];show this
end
def lN:List Fn->List c9
 |[]=>[]
 |f::fs=>f.rows.rws++lN fs
theorem vq:∀fs:List Fn,-(lN fs)=d8 fs
 |[]=>rfl
 |f::fs=>by simp[lN,d8,Rows.rws_len,vq fs]
def Pg.rws(P:Pg):List c9:=lN P.fns++P.rows.rws
theorem Ny:∀(fs:List Fn)(k:Nat)(D z:List eR),es=D++(qJ fs k++z)->-D=k->(∀e∈D++z,(e.ab=.non\/∃j:Nat,e.ab=ZI j)/\∀m:Nat,k<=m->m<k+d8 fs->e.ab≠ZI m)->∀(i:Nat) x,(lN fs)[i]?=!x->jk es (k+i) x
 |[]=>λk D z _ _ _ i x hx=>by cases hx
 |f::fs=>λk D z e hl N i x hx=>by
  simp only[d8]at N;have UY:∀(fs:List Fn)(k:Nat),∀e∈qJ fs k,(e.ab=.non\/∃j:Nat,e.ab=ZI j)/\∀m:Nat,m<k->e.ab≠ZI m:=by
   intro fs;induction fs with
   |nil=>intro k e he;cases he
   |cons f fs ih=>
    intro k e he;obtain he|he:=fw.mp he
    . let g:=Rows.abs f.rows f.name .non 0 k e he;show#[g.num (k:=0) (Zl O),λm hm=>g.ne ∅ (Zl hm)]
    . let(Q,F):=ih _ e he;show#[Q,λm hm=>F m ()]
  have W:(f.rows.rws++lN fs)[i]?=!x:=hx;obtain hi|hi:=Nat.lt_or_ge i (-f.rows.rws)
  . rw[jp hi]at W;show Rows.spots f.rows (w:=f.name) (bl:=0) #[#[D,qJ fs (k+f.rows.cnt)++z,by rw[e];simp[qJ],hl,λy hy=>?_],Zl O] i x W;obtain q|q:=fw.mp hy
    . let(Q,F):=N y (i6 _ q);show#[Q,λm h1 h2=>F m h1 ()]
    . obtain q|q:=fw.mp q
      . let(Q,F):=UY fs _ y q;show#[Q,λm h1 h2=>F m h2]
      . let(Q,F):=N y (h_ _ q);show#[Q,λm h1 h2=>F m h1 ()]
  . rw[hW hi]at W;have:=Ny (es:=es) fs (k+f.rows.cnt) (D++f.rows.es f.name .non 0 k) z (by rw[e];simp[qJ]) (by rw[eM,Rows.es_len,hl]) (λy hy=>by
     obtain q|q:=fw.mp hy
     . obtain q|q:=fw.mp q
       . let(Q,F):=N y (i6 _ q);show#[Q,λm h1 h2=>F m () ()]
       . let g:=Rows.abs f.rows f.name .non 0 k y q;show#[g.num (k:=0) (Zl O),λm h1 h2=>g.ne ∅ (YY h1)]
     . let(Q,F):=N y (h_ _ q);show#[Q,λm h1 h2=>F m () ()]) _ x W
    rw[Rows.rws_len]at this hi;rw[show k+i=k+f.rows.cnt+(i-f.rows.cnt) by omega];show this
def Yj(P:Pg)(i:Nat)(x:c9)(hx:P.rws[i]?=!x):jk P.es i x:=by
 have N:∀e∈P.rows.es "main" .non 0 (d8 P.fns),(e.ab=.non\/∃j:Nat,e.ab=ZI j)/\∀m:Nat,m<d8 P.fns->e.ab≠ZI m:=λe z=>by let g:=Rows.abs P.rows "main" .non 0 _ e z;show#[g.num (k:=0) (Zl O),λm W=>g.ne ∅ (Zl W)]
 have Q:∀(fs:List Fn)(k:Nat),∀e∈qJ fs k,(e.ab=.non\/∃j:Nat,e.ab=ZI j)/\∀m:Nat,k+d8 fs<=m->e.ab≠ZI m:=by
  intro fs;induction fs with
  |nil=>intro k e z;cases z
  |cons f fs ih=>
   intro k e z;simp only[d8];obtain z|z:=fw.mp z
   . let g:=Rows.abs f.rows f.name .non 0 k e z;show#[g.num (k:=0) (Zl O),λm W=>g.ne ∅ (YY ())]
   . let(F,D):=ih _ e z;show#[F,λm W=>D m ()]
 have q:(lN P.fns++P.rows.rws)[i]?=!x:=hx;obtain hi|hi:=Nat.lt_or_ge i (-(lN P.fns))
 . rw[jp hi]at q;have:=Ny P.fns 0 [] (P.rows.es "main" .non 0 (d8 P.fns)) O O (λy hy=>by let(F,D):=N y ();show#[F,λm _ h2=>D m ()]) i x q
   rwa [ke]at this
 . rw[hW hi]at q;have:=Rows.spots P.rows (es:=P.es) (w:="main") (bl:=0) #[#[qJ P.fns 0,[],by simp[Pg.es],BZ _ _,λy hy=>by let(F,D):=Q P.fns 0 y ∅;show#[F,λm h1 _=>D m ()]],Zl O] _ x q
   rw[vq]at this hi;rw[show i=d8 P.fns+(i-d8 P.fns) by omega];show this
end
noncomputable abbrev SS (xs:List Str):List PV:=xs.map ZH
def UZ{ns:List Int}{i:Int}(z:0<=i)(h1:i< -ns):∃c∈ns,qG (R (ns.map ZI)) (ZI i)=zI c:=by let(x,e,j):=uT (l:=ns.map PV.int) z ∅;rw[fI]at j;let(c,q,rfl):=eW j;show#[c,g7 q,by show (fO (ns.map PV.int) i).map _=_;rw[e];rfl]
def VA(z:0<=i)(h1:i< -ns):∃c∈ns,qG (R (SS ns)) (ZI i)=zT c:=by let(x,e,j):=uT (l:=SS ns) z ∅;rw[fI]at j;let(c,q,rfl):=eW j;show#[c,g7 q,by show (fO (SS ns) i).map _=_;rw[e];rfl]
def cell_eq{ns:List Int}(i:0<=k):∃c,0<=c/\∀mu,nj [R (ns.map ZI),ZI k] mu=!(Zp (ZI c),mu):=by
 have t:∀mu,tT CC aY (env0 2 [R (ns.map ZI),ZI k] mu)=!(decide (k< -(ns.map PV.int)),#[[zL (ns.map ZI),zI k],mu]):=λmu=>O;by_cases h:k< -(ns.map PV.int)
 . let(c,_,e):=UZ i (by rw[eI]at h;show h);show#[c%1000000007,j6 _ (),λmu=>aO (Y:=#[[zL (ns.map ZI),zI k],mu]) (G8 ((lR ((t mu).trans (by rw[kR h]))).trans (cT (dj (dG (l:=Zp (R (ns.map ZI))) (m:=Zp (ZI k)) O O O O (λn h=>by cases h) e) O O O ()))))]
 . show#[0,by decide,λmu=>aO (Y:=#[[zL (ns.map ZI),zI k],mu]) (aH ((lU ((t mu).trans ∅)).trans O) O)]
abbrev k6:Str:="abcdefghijklmnopqrstuvwxyz"
noncomputable def xM (i:Int):Nat:=97+(i%26).toNat
abbrev one(c:Nat):Str:=#[(List.toArray [c])]
def Nz(i:Int):qG (ZH k6) (ZI (i%26))=zT (one (xM i)):=by
 unfold xM;let q:=j6 i (b:=26) ();let h1:=ku i (b:=26) ();generalize i%26=r at q h1;let(n,rfl):=Int.eq_ofNat_of_zero_le q;have h2:n<26:=()
 have:∀n:Nat,n<26->(match qG (ZH k6) (ZI (n:Int)) with |some (Zp (ZH x))=>x.cps.toList==[97+n] |_=>M)=G:=by decide +kernel
 let j:=this n h2;split at j
 . rename_i x e;rw[e];have D:x.cps.toList=[97+n]:=by simpa using j
   have F:x=one (97+n):=by
    cases x with |mk z=>
    congr 1;show Array.toList_inj.mp D
   rw[F];rfl
 . cases j
def Tf:∀cs:List Nat,Txt.join "" (cs.map one)=#[cs.toArray]:=by
 intro cs;unfold Txt.join;rw[StrLaws.glued_eq_join];induction cs with
 |nil=>rfl
 |cons c cs i=>
  cases cs with
  |nil=>rfl
  |cons d cs=>
   show (one c ++ "" ++ Str.join "" ((d::cs).map one):Str)=_;rw[i];show Str.mk (((List.toArray [c])++#[])++(d::cs).toArray)=_;simp
theorem strs_map:∀xs:List Str,gs (SS xs)=!xs
 |[]=>rfl
 |x::xs=>by show (gs (SS xs)).map _=_;rw[strs_map xs];rfl
theorem NB:∀cs:List Nat,((cs.map one).map (·.length)).sum=-cs
 |[]=>rfl
 |c::cs=>by rw[fU,fU,List.sum_cons,NB cs,d6];show 1+_=_;lia
def Q6{cs:List Nat}(h:fa Y=!(m,Y1))(i:m.pv=R (SS (cs.map one)))(j:-cs<=100):rY (d_ "") (aj fa ao) Y=!(Zp (ZH #[cs.toArray]),Y1):=by rw[<-Tf];show XC O (aA h O) O i (strs_map _) ?_;rw[NB,eI,show -("" : Str)=0 from O];lia
def i_(l_:0<=k)(hk:k<100)(he:∀i:Nat,(i:Int)<k->elt #[[zI (0+i),zT k6,zI c],mu]=!(Zp (ZH (one (g i))),#[[zI (0+i),zT k6,zI c],mu])):
 dF (aC 0) bB elt (jo 0 k.toNat) #[[J,zT k6,zI c],mu] []=!(SS (((List.range k.toNat).map g).map one),mu):=by
 have:=Jc (b:=aC 0) (λY=>∃o,Y=#[[o,zT k6,zI c],mu]) (λY ⟨o,e⟩=>by rw[e]) (λp=>match p with |ZI i=>ZH (one (g i.toNat)) |_=>.non)
  (xs:=jo 0 k.toNat) #[J,O] (by rw[wM];lia) (by
    intro x j Y q0;let(o,rfl):=q0;let(i,hi,rfl):=PC j;show#[_,O,_,_,he i (),?_,_,O];show PV.str _=PV.str (one (g (0+(i:Int)).toNat));rw[Int.zero_add,sd]) (by
    rintro x j Y Y1 ⟨o,rfl⟩ e;cases e;show#[_,O])
 rw[this];congr 2;unfold jo SS;rw[im,im,im];show r_ λi _=>?_;show PV.str (one (g (0+(i:Int)).toNat))=PV.str (one (g i));rw[Int.zero_add,sd]
def VC:∃m:Int,0<m/\m<=8/\qG (R [ZI 1,ZI 2,ZI 3,ZI 5,ZI 6,ZI 7,ZI 8]) (ZI (c%7))=zI m:=by
 let i:=j6 c (b:=7) ();let h1:=ku c (b:=7) ();generalize c%7=r at i h1;obtain rfl|rfl|rfl|rfl|rfl|rfl|rfl:=(by omega:r=0\/r=1\/r=2\/r=3\/r=4\/r=5\/r=6)
 . show#[1,by decide,by decide,O]
 . show#[2,by decide,by decide,O]
 . show#[3,by decide,by decide,O]
 . show#[5,by decide,by decide,O]
 . show#[6,by decide,by decide,O]
 . show#[7,by decide,by decide,O]
 . show#[8,by decide,by decide,O]
def VM:SS xs++[ZH x]=SS (xs++[x]):=by show _=List.map PV.str (xs++[x]);rw[fx];rfl
abbrev jJ(c n:Int)(l3 o4 o5 o6 o7 o8:Option Lc)(mu:Mu):Ev:=#[[zI c,zI n,zT k6,l3,o4,o5,o6,o7,o8],mu]
def cO(d:Int):List Nat:=(List.range 10).map λi:Nat=>xM (d/2+3*(0+i))
def Jv(d:Int)(k:Nat):Str:=lY #[(cO d).toArray] (!((0+k:Int)%5)) (!((0+k:Int)%5+1+(0+k:Int)/5))
def mf(l:List Nat)(d:Int)(a:Nat)(k:Nat):Str:=#[(l.set a (xM (d/112+(0+k)))).toArray]
def VE{l:List Nat}:(SS (l.map one)).set a (ZH (one c))=SS ((l.set a c).map one):=by show (List.map PV.str (l.map one)).set a _=List.map PV.str (List.map one (l.set a c));rw[List.map_set,List.map_set]
def VI(k:Nat):-(Jv d k)<=100:=by
 have h:-(cO d)=10:=by unfold cO;simp
 unfold Jv lY Str.length;simp only[gX,j_,mS];lia
def VO(N:6<=i)(F:i<j)(q:j<10):Jv d i≠Jv d j:=by
 have g:∀k:Nat,6<=k->k<10->(Jv d k).cps[0]?=!(xM (d/2+3*((k:Int)-5))):=λk h1 h2=>by rcases (by omega:k=6\/k=7\/k=8\/k=9) with rfl|rfl|rfl|rfl<;>rfl
 intro e;let z:=g i N ();rw[e,g j () q]at z;let D:=gt z;unfold xM at D;lia
def VQ(z:a< -l)(F:i<j)(N:j<26):mf l d a i≠mf l d a j:=by have g:∀k:Nat,(mf l d a k).cps.toList[a]?=!(xM (d/112+(0+k))):=λk=>k_ z;intro e;let q:=g i;rw[e,g j]at q;let D:=gt q;unfold xM at D;lia
def Yk(Fc:10<=n)(hn:n<=26):∃xs:List Str,-xs=n.toNat/\(∀x∈xs,-x<=100)/\(∀i j:Nat,6<=i->i<j->j<10->xs[i]?≠xs[j]?)/\∀mu,u9 [ZI c,ZI n] mu=!(Zs (R (SS xs)),mu):=by
 obtain⟨d,nE⟩:∃d,c=d:=#[c,O];have head:∀(mu:Mu)(g:SF) ZN,g (jJ d n (zO (SS [])) J J J J J mu)=ZN->(aF CL (aF (aL 3 (cu ao)) g)) (env0 9 [ZI c,ZI n] mu)=ZN:=λmu g ZN hg=>by subst nE;show aH O (aH O hg)
 have t1:∀mu:Mu,tT CH aY (jJ d n (zO (SS [])) J J J J J mu)=!(d%2==1,jJ d n (zO (SS [])) J J J J J mu):=λmu=>O;have rg:∀(mu:Mu) l3 o4 o6 o7 o8,iK (aj (aa 1) ao) (jJ d n l3 o4 J o6 o7 o8 mu)=!(jo 0 n.toNat,jJ d n l3 o4 J o6 o7 o8 mu):=λmu l3 o4 o6 o7 o8=>mY O O () ();cases h2:(d%2==1) with
 |true=>
  show#[(List.range n.toNat).map (Jv d),by simp,λx z=>?_,λi j h6 F Q q=>?_,λmu=>?_]
  . let(k,_,rfl):=fy.mp z;show VI k
  . rw[fI,fI,List.getElem?_range (),List.getElem?_range ()]at q;show VO h6 F Q (gt q)
  let ec:=i_ (elt:=aJ (aa 1) Tk) (k:=10) (mu:=mu) () () (λi _=>dG O O (bC (bC (bC O O (gU () ())) (bC O O (Mz () ())) O) O (dI ())) O (λn h=>by cases h) (Nz (d/2+3*(0+i))));obtain⟨t,rt,lt⟩:∃t:Str,t=⟨(cO d).toArray⟩/\-t<=100000:=#[_,O,by show (cO d).toArray.size<=_;unfold cO;simp];have ej:∀(fa:EF)(Y Y1:Ev)(m:Lc),fa Y=!(m,Y1)->m.pv=R (SS ((cO d).map one))->rY (d_ "") (aj fa ao) Y=!(Zp (ZH t),Y1):=λfa Y Y1 m h hm=>by rw[rt];show Q6 h hm (by unfold cO;simp)
  have nk:∀j:Nat,lY t (!((0+j:Int)%5)) (!((0+j:Int)%5+1+(0+j:Int)/5))=Jv d j:=λj=>by rw[rt];rfl
  clear rt;have s4:aL 4 CY (jJ d n (zO (SS [])) J J J J J mu)=!(.nx (jJ d n (zO (SS [])) (zT t) J J J J mu)):=
   bu (ej _ _ (jJ d n (zO (SS [])) J J J J J mu) (Zs (R (SS ((cO d).map one)))) ((eF (mY O O () ()) ec).trans O) O) O O
  let(Y',ef,xs,o5,rfl,z):=QH (b:=aC 5) (body:=jM 3 CO) (xs:=jo 0 n.toNat)
   (λi Y=>∃xs o5,Y=jJ d n (zO (SS xs)) (zT t) o5 J J J mu/\xs=(List.range i).map (Jv d)) #[[],J,O,O] (by
     intro i x Y z q0;let(xs,o5,rfl,hl):=q0;have hi:i<n.toNat:=by have:=(fS.mp z).1;rw[wM]at this;show this
     obtain⟨j,rfl,rfl⟩:∃j:Nat,j=i/\x=ZI (0+(j:Int)):=#[i,O,by unfold jo at z;rw[fI,List.getElem?_range hi]at z;cases z;rfl];have VS:-xs=j:=by rw[hl];simp
     have es:mF (aa 4) (cM (au aZ (aa 5) (bh 5))) Tl (jJ d n (zO (SS xs)) (zT t) (zI (0+j)) J J J mu)=!(Zp (ZH (lY t (!((0+j:Int)%5)) (!((0+j:Int)%5+1+(0+j:Int)/5)))),jJ d n (zO (SS xs)) (zT t) (zI (0+j)) J J J mu):=by show (if -t<=100000 then _ else J)=_;rw[dA lt];rfl
     show#[_,O,jJ d n (!(Zs (R (SS (xs++[lY t (!((0+j:Int)%5)) (!((0+j:Int)%5+1+(0+j:Int)/5))]))))) (zT t) (zI (0+j)) J J J mu,Zl ((pR O es O O (by rw[eI];lia) O).trans ?_),_,_,O,by rw[nk,hl,List.range_succ,fx];rfl];rw[<-VM];rfl)
  rw[wM]at z;subst z;show aO (Y:=jJ d n J (zT t) o5 J J J mu) (head mu _ _ (G8 ((lR ((t1 mu).trans (by rw[h2]))).trans (aH s4 (aH (eO (rg mu _ _ _ _ _) ef) O)))))
 |false=>
  let(m,W,hm8,em):=VC (c:=d/2);let n_:=j6 (d/14) (b:=m) ();let kH:=ku (d/14) (b:=m) W;show#[(List.range n.toNat).map (mf ((List.range m.toNat).map λi:Nat=>xM (d/((0+i:Int)+1)+(0+i)*(0+i))) d (d/14%m).toNat),by simp,λx z=>?_,λi j h6 F Q q=>?_,λmu=>?_]
  . let(k,_,rfl):=fy.mp z;unfold mf Str.length;simp;lia
  . rw[fI,fI,List.getElem?_range (),List.getElem?_range ()]at q;show VQ (by simp;lia) F () (gt q)
  have s6:aL 6 CS (jJ d n (zO (SS [])) J J J J J mu)=!(.nx (jJ d n (zO (SS [])) J J (zI m) J J mu)):=
   bu (dG (l:=Zs (R [ZI 1,ZI 2,ZI 3,ZI 5,ZI 6,ZI 7,ZI 8])) (q:=ZI (d/2%7)) O O O O (λn h=>by cases h) em) O O
  have s7:aL 7 CF (jJ d n (zO (SS [])) J J (zI m) J J mu)=!(.nx (jJ d n (zO (SS [])) J J (zI m) (zI (d/14%m)) J mu)):=
   bu (dj O O O O (dI W)) O O
  generalize d/14%m=at_ at s7 n_ kH;let Fd:=i_ (elt:=aJ (aa 1) Tn) (c:=d) (k:=m) (mu:=mu) (g:=λi:Nat=>xM (d/((0+i:Int)+1)+(0+i)*(0+i))) () () (λi hi=>dG (q:=ZI ((d/((0+i:Int)+1)+(0+i)*(0+i))%26)) O O (bC (bC (bC O O (gU () ())) (bC O O (Mz () ())) O) O (dI ())) O (λn h=>by cases h) (Nz (d/((0+i:Int)+1)+(0+i)*(0+i))));obtain⟨l,rl⟩:∃l,l=(List.range m.toNat).map λi:Nat=>xM (d/((0+i:Int)+1)+(0+i)*(0+i)):=#[_,O];rw[<-rl]at Fd;have l1:-l=m.toNat:=by rw[rl];simp
  obtain⟨ps,N⟩:∃ps,ps=SS (l.map one):=#[_,O];let ec:=Fd;rw[<-N]at ec;have lps:-ps=m.toNat:=by rw[N,eI,eI,l1]
  let(Y',ef,xs,o5,o8,rfl,z):=QH (b:=aC 5) (body:=aF CU
   (aF CM
   CD)) (xs:=jo 0 n.toNat) (Y:=jJ d n (zO (SS [])) J J (zI m) (zI at_) J mu)
   (λi Y=>∃xs o5 o8,Y=jJ d n (zO (SS xs)) J o5 (zI m) (zI at_) o8 mu/\xs=(List.range i).map (mf l d at_.toNat)) #[[],J,J,O,O] (by
     intro i x Y z q0;let(xs,o5,o8,rfl,hl):=q0;have hi:i<n.toNat:=by have:=(fS.mp z).1;rw[wM]at this;show this
     obtain⟨j,rfl,rfl⟩:∃j:Nat,j=i/\x=ZI (0+(j:Int)):=#[i,O,by unfold jo at z;rw[fI,List.getElem?_range hi]at z;cases z;rfl];have VS:-xs=j:=by rw[hl];simp
     obtain⟨D,VT,e⟩:∃D,D=xM (d/112+(0+j))/\qG (ZH k6) (ZI ((d/112+(0+j))%26))=zS (ZH ⟨(List.toArray [D])⟩):=#[_,O,Nz _];obtain⟨t,rt⟩:∃t:Str,t=mf l d at_.toNat j:=#[_,O];have ej:∀(fa:EF)(Y Y1:Ev)(m:Lc),fa Y=!(m,Y1)->m.pv=R (ps.set at_.toNat (ZH #[(List.toArray [D])]))->rY (d_ "") (aj fa ao) Y=!(Zp (ZH t),Y1):=λfa Y Y1 m h hm=>by rw[rt];rw[N,VE,VT]at hm;show Q6 h hm (by rw[nv,l1];lia)
     have g1:aL 8 To (jJ d n (zO (SS xs)) J (zI (0+j)) (zI m) (zI at_) o8 mu)=!(.nx (jJ d n (zO (SS xs)) J (zI (0+j)) (zI m) (zI at_) (zO ps) mu)):=
      bu ((eF (Y1:=jJ d n (zO (SS xs)) J (zI (0+j)) (zI m) (zI at_) o8 mu) (mY (l:=Zp (ZI m)) (n:=m) O O () ()) ec).trans O) O O
     have g2:Bu 8 (aa 7) Tj (jJ d n (zO (SS xs)) J (zI (0+j)) (zI m) (zI at_) (zO ps) mu)=!(.nx (jJ d n (zO (SS xs)) J (zI (0+j)) (zI m) (zI at_) (zO (ps.set at_.toNat (ZH #[(List.toArray [D])]))) mu)):=by show PY (k:=at_) (j:=at_.toNat) (dG (q:=ZI ((d/112+(0+j))%26)) O O O O (λn h=>by cases h) e) O O O O O ?_ O;unfold uL;rw[dA n_,dA ()]
     show#[_,O,jJ d n (zO (SS (xs++[t]))) J (zI (0+j)) (zI m) (zI at_) (zL (ps.set at_.toNat (ZH #[(List.toArray [D])]))) mu,Zl (aH g1 (aH g2 ((pR O (ej (aa 8) _ (jJ d n (zO (SS xs)) J (zI (0+j)) (zI m) (zI at_) (zL (ps.set at_.toNat (ZH #[(List.toArray [D])]))) mu) (Zp (R (ps.set at_.toNat (ZH #[(List.toArray [D])])))) O O) O O (by rw[eI];lia) O).trans ?_))),_,_,_,O,by rw[rt,hl,List.range_succ,fx];rfl];rw[<-VM];rfl)
  rw[wM]at z;subst z;rw[rl]at *;show aO (Y:=jJ d n J J o5 (zI m) (zI at_) o8 mu) (head mu _ _ (aH ((lU ((t1 mu).trans (by rw[h2]))).trans O) (aH s6 (aH s7 (aH (eO (rg mu _ _ _ _ _) ef) O)))))
def tB(xs:List Str):-(SS xs)=-xs:=eI _
def xN(j:aa i Y=!(Zp (R (SS xs)),Y)):tT (au iV (eB cz (aj (aa i) ao)) (bh 0)) aY Y=!(not xs.isEmpty,Y):=by
 show jU (l:=Zp (.bl (not xs.isEmpty))) (dj (jN (aA j O) O O) O O O ?_) O;show some (Lc.sh (.bl (decide ((-(SS xs):Int)>0))))=_;cases xs with
 |nil=>rfl
 |cons x xs=>simp
def VU(j:aa i Y=!(Zp (R (SS xs)),Y)):tT (au fB (eB cz (aj (aa i) ao)) (bh 0)) aY Y=!(xs.isEmpty,Y):=by
 show jU (l:=Zp (.bl xs.isEmpty)) (dj (jN (aA j O) O O) O O O ?_) O;show some (Lc.sh (.bl ((-(SS xs):Int)==0)))=_;cases xs with
 |nil=>rfl
 |cons x xs=>simp;lia
def pick(h:xs≠[])(a d:Int)(F:0<d)(j:d<1073741824):∃x∈xs,∀(i:Nat)(fa:EF)(Y:Ev),aa i Y=!(Zp (R (SS xs)),Y)->fa Y=!(Zp (ZI a),Y)->aJ (aa i) (au aZ (au bO fa (bh d)) (eB cz (aj (aa i) ao))) Y=!(Zp (ZH x),Y):=by
 have z:(0:Int)< -xs:=by have:=List.length_pos_iff.mpr h;lia
 let(x,N,e):=VA (j6 _ ()) (ku _ z);show#[x,N,λi fa Y q D=>dG (m:=Zp (ZI (a/d%-xs))) q O (bC (bC D O (gU F j)) (jN (aA q O) O O) ?_) O (λn h=>by cases h) e];rw[tB];show dI z
abbrev XE(c:Int)(own ls:List Str)(p:PV)(o4 o5 o6 o7:Option Lc)(mu:Mu):Ev:=#[[zI c,zL (SS own),zL (SS ls),zS p,o4,o5,o6,o7],mu]
def VW(a:Int):∃s,ET s/\qG (ZH "+-*<=") (ZI (a%5))=zT s:=by
 let i:=j6 a (b:=5) ();let h1:=ku a (b:=5) ();generalize a%5=r at i h1;have h:∀n:Nat,n<5->(match qG (ZH "+-*<=") (ZI (n:Int)) with |some (Zp (ZH s))=>not (s== "num")&&not (s== "box")&&not (s== "@") |_=>M)=G:=by decide +kernel
 let g:=h r.toNat ();rw[Int.toNat_of_nonneg i]at g;split at g
 . rename_i x e;simp only[iX,Bool.not_eq_true']at g;show#[x,#[g.1.1,g.1.2,g.2],e]
 . cases g
def Ay:Sh []:=λx h=>by cases h
def xO(h:-x<=100)(t:Sh a):Sh (x::a):=λy i=>by
 obtain rfl|i:=d5.mp i
 . show h
 . show t y i
def Gu(h:Sh a)(t:Sh b):Sh (a++b):=λy i=>(fw.mp i).elim (h y) (t y)
def Cg{xs:List Str}(h:(not xs.isEmpty&&b)=G):xs≠[]:=by intro e;rw[e]at h;simp at h
def VX(ho:Sh own)(ja:Sh ls)(l_:0<=k)(hk:k<100)(hn:2<=n)(hp:Rd n p a)(ha:Sh a):∃q b p5 p6 p7,(Rd (n+1) q b/\-b<=-a+2/\Sh b)/\∀(mu:Mu)(o5 o6 o7:Option Lc),vt (XE c own ls p (zI k) o5 o6 o7 mu)=!(.nx (XE c own ls q (zI k) (!p5) (!p6) (!p7) mu)):=by
 let z:Int:=c*(k+2)%2147483647*16807%2147483647;let K:Option Lc:=zI k;let Z:Option Lc:=zI z;have s1:∀(mu:Mu)(o5 o6 o7:Option Lc),aL 5 C_ (XE c own ls p K o5 o6 o7 mu)=!(.nx (XE c own ls p K Z o6 o7 mu)):=λmu o5 o6 o7=>
  bu (bC (bC (bC (bC O O (wL () ())) O (dI ())) O (wL () ())) O ()) O O
 let n0:PV:=ZB [ZH "num",ZI (z%1000)];have s2:∀(mu:Mu)(o6 o7:Option Lc),aL 6 C3 (XE c own ls p K Z o6 o7 mu)=!(.nx (XE c own ls p K Z (zS n0) o7 mu)):=λmu o6 o7=>O;have g3:∃D N,(Rd 1 D N/\-N<=1/\Sh N)/\∀(g:SF)(mu:Mu)(o7:Option Lc),aF (cC C6
  C7
  bR) g (XE c own ls p K Z (zS n0) o7 mu)=g (XE c own ls p K Z (zS D) o7 mu):=by
  have t:∀(mu:Mu)(o7:Option Lc),eE C0 Tp (XE c own ls p K Z (zS n0) o7 mu)=!(not own.isEmpty&&decide (z%6>0),XE c own ls p K Z (zS n0) o7 mu):=λmu o7=>nU (xN O) O;cases i:(not own.isEmpty&&decide (z%6>0)) with
  |false=>show#[n0,[],#[.num 0 _,gy _,Ay],λg mu o7=>bG (t mu o7) i]
  |true=>
   let(x,xm,hx):=pick (Cg i) z 6 () ();show#[ZB [ZH "box",ZH x],[x],#[.box 0 x,eK _,xO (ho x xm) Ay],λg mu o7=>nA (t mu o7) i (bu (dm (aA O (aA (hx 1 (aa 5) _ O O) O)) O O) O O)]
 let(D,N,(f1,d1,c1),g3):=g3;have g4:∃F Q,(Rd 2 F Q/\-Q<=2/\Sh Q)/\∀(g:SF)(mu:Mu)(o7:Option Lc),aF (cC vb
  Db
  bR) g (XE c own ls p K Z (zS D) o7 mu)=g (XE c own ls p K Z (zS F) o7 mu):=by
  have t:∀(mu:Mu)(o7:Option Lc),eE vn Ts (XE c own ls p K Z (zS D) o7 mu)=!(not ls.isEmpty&&(z%7==5),XE c own ls p K Z (zS D) o7 mu):=λmu o7=>nU (xN O) O;cases i:(not ls.isEmpty&&(z%7==5)) with
  |false=>show#[D,N,#[f1.mono (),(),c1],λg mu o7=>bG (t mu o7) i]
  |true=>
   let(x,xm,hx):=pick (Cg i) z 42 () ();show#[ZB [ZH "@",ZH x,D],x::N,#[.at_ x f1,by simp only[d6];lia,xO (ja x xm) c1],λg mu o7=>nA (t mu o7) i (bu (dm (aA O (aA (hx 2 (aa 5) _ O O) O)) O O) O O)]
 let(F,Q,(f2,d2,c2),g4):=g4;let(s,W,es):=VW (z/77);let j:Option Lc:=zS F;let ZT:Option Lc:=zT s;have s7:∀(mu:Mu)(o7:Option Lc),aL 7 C4 (XE c own ls p K Z j o7 mu)=!(.nx (XE c own ls p K Z j ZT mu)):=λmu o7=>
  bu (dG O O (bC (bC O O (gU () ())) O (dI ())) O (λn h=>by cases h) es) O O
 have g8:∃q b,(Rd (n+1) q b/\-b<=-a+2/\Sh b)/\∀(mu:Mu),cC Dx
  Dp
  (cC C5
  C1
  C2) (XE c own ls p K Z j ZT mu)=!(.nx (XE c own ls q K Z j ZT mu)):=by
  have t:∀(mu:Mu),eE vn TB (XE c own ls p K Z j ZT mu)=!(not ls.isEmpty&&(z/5%3==0),XE c own ls p K Z j ZT mu):=λmu=>nU (xN O) O;have t2:∀(mu:Mu),tT Tx aY (XE c own ls p K Z j ZT mu)=!(z/5%3==1,XE c own ls p K Z j ZT mu):=λmu=>O;cases i:(not ls.isEmpty&&(z/5%3==0)) with
  |true=>
   let(x,xm,hx):=pick (Cg i) z 15 () ();show#[ZB [ZH "@",ZH x,p],x::a,#[.at_ x hp,by simp only[d6];lia,xO (ja x xm) ha],λmu=>(lR ((t mu).trans (by rw[i]))).trans (bu (dm (aA O (aA (hx 2 (aa 5) _ O O) O)) O O) O O)]
  |false=>
   cases hc:(z/5%3==1) with
   |true=>show#[ZB [ZH s,p,F],a++Q,#[.op W hp (f2.mono hn),by simp only[eM];lia,Gu ha c2],λmu=>(lU ((t mu).trans (by rw[i]))).trans ((lR ((t2 mu).trans (by rw[hc]))).trans O)]
   |false=>show#[ZB [ZH s,F,p],Q++a,#[.op W (f2.mono hn) hp,by simp only[eM];lia,Gu c2 ha],λmu=>(lU ((t mu).trans (by rw[i]))).trans ((lU ((t2 mu).trans (by rw[hc]))).trans O)]
 let(q,b,fq,g8):=g8;show#[q,b,Zp (ZI z),Zp F,Zp (ZH s),fq,λmu o5 o6 o7=>aH (s1 mu o5 o6 o7) (aH (s2 mu o6 o7) ((g3 _ mu o7).trans ((g4 _ mu o7).trans (aH (s7 mu o7) (g8 mu)))))]
theorem Q7(W:Sh own)(i:Sh ls):∀(ks:List Int)(p:PV)(n:Nat)(a:List Str),(∀k∈ks,0<=k/\k<100)->2<=n->Rd n p a->Sh a->∃q b,(Rd (n+-ks) q b/\-b<=-a+2*-ks/\Sh b)/\∀(mu:Mu)(o4 o5 o6 o7:Option Lc),∃p4 j z F,eN (aC 4) vt (ks.map PV.int) (XE c own ls p o4 o5 o6 o7 mu)=!(.nx (XE c own ls q p4 j z F mu))
 |[]=>λp n a _ Q N D=>#[p,a,#[N,eK _,D],λmu o4 o5 o6 o7=>#[o4,o5,o6,o7,O]]
 |k::ks=>λp n a h Q N D=>by let(h0,h1):=h k ed;let(q1,b1,j,z,F,(f1,d1,c1),e1):=VX W i h0 h1 Q N D;let(q,b,(fq,dq,cq),ih):=Q7 W i ks q1 (n+1) b1 (λx hx=>h x (e_ _ hx)) () f1 c1;show#[q,b,#[by rw[show n+-(k::ks)=n+1+-ks by simp only[d6];omega];show fq,by simp only[d6];lia,cq],λmu o4 o5 o6 o7=>?_];let(r4,r5,r6,r7,e2):=ih mu (zI k) (!j) (!z) (!F);show#[r4,r5,r6,r7,gw O (e1 mu o5 o6 o7) e2]
def om(c:Int):∃m:Nat,m<=4/\qG (R [ZI 0,ZI 0,ZI 1,ZI 1,ZI 2,ZI 2,ZI 3,ZI 4]) (ZI (c%8))=zI (m:Nat):=by
 let i:=j6 c (b:=8) ();let h1:=ku c (b:=8) ();generalize c%8=r at i h1;obtain rfl|rfl|rfl|rfl|rfl|rfl|rfl|rfl:=(by omega:r=0\/r=1\/r=2\/r=3\/r=4\/r=5\/r=6\/r=7)
 . show#[0,by decide,O]
 . show#[0,by decide,O]
 . show#[1,by decide,O]
 . show#[1,by decide,O]
 . show#[2,by decide,O]
 . show#[2,by decide,O]
 . show#[3,by decide,O]
 . show#[4,by decide,O]
def Eh(n:Nat):jo 0 n=((List.range n).map λi:Nat=>(0+(i:Int))).map PV.int:=by rw[im];rfl
def Hv(c:Int)(ho:Sh own)(Q:Sh ls):∃p,XG p/\∀mu,dU [ZI c,R (SS own),R (SS ls)] mu=!(Zp p,mu):=by
 let z:PV:=ZB [ZH "num",ZI (c*7919%10 ^ 12)];let E0:Mu->Ev:=λmu=>#[[zI c,zL (SS own),zL (SS ls),J,J,J,J,J],mu];have s1:∀mu,aL 3 DA (E0 mu)=!(.nx (XE c own ls z J J J J mu)):=λmu=>
  bu (dm (aA O (aA (bC (bC O O (wL () ())) O ()) O)) O O) O O
 have F:∃D j,(Rd 2 D j/\-j<=1/\Sh j)/\∀(g:SF)(mu:Mu),aF (cC DB
  DC
  bR) g (XE c own ls z J J J J mu)=g (XE c own ls D J J J J mu):=by
  have t:∀(mu:Mu),eE C0 TD (XE c own ls z J J J J mu)=!(not own.isEmpty&&decide (c%5>0),XE c own ls z J J J J mu):=λmu=>nU (xN O) O;cases N:(not own.isEmpty&&decide (c%5>0)) with
  |false=>show#[z,[],#[.num 1 _,gy _,Ay],λg mu=>bG (t mu) N]
  |true=>
   let(x,xm,hx):=pick (Cg N) c 5 () ();show#[ZB [ZH "box",ZH x],[x],#[.box 1 x,eK _,xO (ho x xm) Ay],λg mu=>nA (t mu) N (bu (dm (aA O (aA (hx 1 (aa 0) _ O O) O)) O O) O O)]
 let(D,j,(f1,d1,c1),F):=F;let(m,hm,em):=om (c/60);let(q,b,(fq,dq,cq),W):=Q7 ho Q ((List.range m).map λi:Nat=>(0+(i:Int))) D 2 j (λk hk=>by let(i,hi,rfl):=fy.mp hk;have:=List.mem_range.mp hi;lia) () f1 c1
 rw[eI,ik]at dq fq;show#[q,#[_,b,fq,(),(),cq],λmu=>?_];let(p4,p5,p6,p7,W):=W mu J J J J;show aO (Y:=#[[zI c,zL (SS own),zL (SS ls),J,p4,p5,p6,p7],mu]) (aH (s1 mu) ((F _ mu).trans (aH (eO (xs:=jo 0 m) ?_ (by rw[Eh];show W)) O)));show mY (aA (dG (q:=ZI (c/60%8)) (l:=Zs (R [ZI 0,ZI 0,ZI 1,ZI 1,ZI 2,ZI 2,ZI 3,ZI 4])) O O O O (λn h=>by cases h) em) O) O () ()
inductive Dr where
 |row (r:c9)
 |wh (e:PV)
 |iff (e:PV)
def Dr.pv:Dr->Nat->PV
 |.row r,_=>r.pv
 |.wh e,n=>ZB [ZH "while",e,ZA n]
 |.iff e,n=>ZB [ZH "if",e,ZA n,ZA (n+1)]
noncomputable def Dr.cl:Dr->Mu
 |.row _=>[]
 |.wh _=>[!(R [])]
 |.iff _=>[!(R []),!(R [])]
def c9.low:c9->Prop
 |.leaf w ps=>(c9.leaf w ps).ok
 |.call b n as=>(c9.call b n as).ok
 |_=>False
def Dr.ok:Dr->Prop
 |.row r=>r.low
 |.wh e=>XG e
 |.iff e=>XG e
def Q8(j:aa i Y=!(Zp (R ps),Y)):tT (au iV (eB cz (aj (aa i) ao)) (bh 0)) aY Y=!(not ps.isEmpty,Y):=by
 show jU (l:=Zp (.bl (not ps.isEmpty))) (dj (jN (aA j O) O O) O O O ?_) O;show some (Lc.sh (.bl (decide ((-ps:Int)>0))))=_;cases ps with
 |nil=>rfl
 |cons x xs=>simp
def VY(h:ps≠[])(a d:Int)(N:0<d)(j:d<1073741824):∃x∈ps,∀(i:Nat)(fa:EF)(Y:Ev),aa i Y=!(Zp (R ps),Y)->fa Y=!(Zp (ZI a),Y)->aJ (aa i) (au aZ (au bO fa (bh d)) (eB cz (aj (aa i) ao))) Y=!(Zp x,Y):=by
 have z:(0:Int)< -ps:=by have:=List.length_pos_iff.mpr h;lia
 let(x,e,F):=uT (j6 _ ()) (ku _ z);show#[x,g7 F,λi fa Y q D=>dG q O (bC (bC D O (gU N j)) (jN (aA q O) O O) (dI z)) O (λn h=>by cases h) ?_];show (fO ps (a/d%-ps)).map _=_;rw[e];rfl
abbrev Hd:=List (Str×List Str)
abbrev gY(hs:Hd):List PV:=hs.map λh=>ZB [ZH h.1,R (SS h.2)]
abbrev RE(c:Int)(own ls:List Str)(hs:Hd)(ws:List Str)(o5 o6 o7 o8 o9 ol kL:Option Lc)(mu:Mu):Ev:=#[[zI c,zL (SS own),zL (SS ls),zL (gY hs),zL (SS ws),o5,o6,o7,o8,o9,ol,kL],mu]
abbrev VZ:EF:=aN dU DV
theorem Q9(c:Int)(q:Sh own)(j:Sh ls):∀(ks:List Int),(∀k∈ks,0<=k/\k<100)->∃i:List PV,(∀a∈i,XG a)/\-i=-ks/\∀(mu:Mu)(o:Option Lc)(acc:List PV),-acc+-ks<=1000->
 dF (aC 0) bB VZ (ks.map PV.int) #[[o,zI c,zL (SS own),zL (SS ls)],mu] acc=!(acc++i,mu)
 |[]=>λ_=>#[[],λa h=>(by cases h),O,λmu o acc _=>by simp[dF]]
 |k::ks=>λh=>by let(W,h1):=h k ed;let(p,fp,F):=Hv (c*40692%(2147483399-k)) q j;let(i,fa,z,Q):=Q9 c q j ks λx D=>h x (e_ _ D);show#[p::i,λa h=>(d5.mp h).elim (λe=>e▸fp) (fa a),by simp[z],λmu o acc N=>?_];simp only[d6]at N;show fY O (aR (aA (bC (bC O O (wL () ())) O (dI ())) O) O O O (F mu)) () ((Q mu _ (acc++[p]) ∅).trans ?_);simp
def Yl{ps:List PV}(h:(b&&not ps.isEmpty)=G):ps≠[]:=by intro e;rw[e]at h;simp at h
def NK{xs:List Str}(h:(b&&not xs.isEmpty)=G):xs≠[]:=by intro e;rw[e]at h;simp at h
def VN:iP "put":=#[by decide +kernel,by decide +kernel,by decide +kernel]
def VP:iP "out":=#[by decide +kernel,by decide +kernel,by decide +kernel]
def VV:iP "set":=#[by decide +kernel,by decide +kernel,by decide +kernel]
def V_(c:Int)(ho:Sh own)(ja:Sh ls)(hs:Hd)(ws:List Str)(hh:∀h∈hs,-h.1<=1000/\-h.2<=26/\FN.fn h.1):∃d:Dr,d.ok/\∀mu,iB [ZI c,R (SS own),R (SS ls),R (gY hs),R (SS ws)] mu=!(Zp (d.pv (-mu)),mu++d.cl):=by
 let(W,f1,e1):=Hv (c*48271%2147483647) ho ja;let(p2,f2,e2):=Hv (c*69621%2147483647) ho ja;let kd:Int:=c/8%9;let F:Option Lc:=zS W;let N:Option Lc:=zS p2;let Q:Option Lc:=zI kd;let E0:Mu->Ev:=λmu=>RE c own ls hs ws J J J J J J J mu;let wq:Mu->Ev:=λmu=>RE c own ls hs ws F J J J J J J mu;let E2:Mu->Ev:=λmu=>RE c own ls hs ws F N J J J J J mu;let E3:Mu->Ev:=λmu=>RE c own ls hs ws F N Q J J J J mu;have s5:∀mu,aL 5 TU (E0 mu)=!(.nx (wq mu)):=λmu=>
  bu (aR (aA (bC (bC O O (wL () ())) O (dI ())) O) O O O (e1 mu)) O O
 have s6:∀mu,aL 6 TW (wq mu)=!(.nx (E2 mu)):=λmu=>
  bu (aR (aA (bC (bC O O (wL () ())) O (dI ())) O) O O O (e2 mu)) O O
 have s7:∀mu,aL 7 TJ (E2 mu)=!(.nx (E3 mu)):=λmu=>bu (bC (bC O O (gU () ())) O (dI ())) O O;have head:∀(mu:Mu)(g:SF) ZN,g (E3 mu)=ZN->(aF DT (aF DU (aF DG g))) (E0 mu)=ZN:=λmu g ZN hg=>aH (s5 mu) (aH (s6 mu) (aH (s7 mu) hg));have t1:∀mu,eE TH vn (E3 mu)=!((kd==1)&&not ls.isEmpty,E3 mu):=λmu=>nU O (xN O);cases b1:((kd==1)&&not ls.isEmpty) with
 |true=>
  let(x,xm,hx):=pick (NK b1) c 72 () ();show#[.row (.leaf "put" [ZH x,W,p2]),#[VN,.put (ja x xm) f1 f2],λmu=>?_];rw[show mu++Dr.cl (.row (.leaf "put" [ZH x,W,p2]))=mu from f_ _];show aO (Y:=E3 mu) (head mu _ _ (d7 (t1 mu) b1 (cT (dm (aA (Y1:=E3 mu) O (aA (hx 2 (aa 0) _ O O) O)) O O))))
 |false=>
 have t2:∀mu,tT (au fB (aa 7) (bh 6)) aY (E3 mu)=!(kd==6,E3 mu):=λmu=>O;cases b2:(kd==6) with
 |true=>
  show#[.wh p2,f2,λmu=>?_];show iB _ mu=!(Zp (ZB [ZH "while",p2,ZA (-mu)]),mu++[!(R [])]);show aO (Y:=RE c own ls hs ws F N Q J J J J (mu++[!(R [])])) (r:=Zp (ZB [ZH "while",p2,ZA (-mu)])) ?_;show head mu _ _ ?_;show(bG (t1 mu) b1).trans ?_;show d7 (t2 mu) b2 ?_;show cT (dm (ls:=[Zp (ZH "while"),Zp p2,Zp (ZA (-mu))]) (aA (Y1:=E3 mu) O (aA (Y1:=E3 mu) O (aA (Y1:=RE c own ls hs ws F N Q J J J J (mu++[!(R [])])) O O))) O O)
 |false=>
 have t3:∃b,∀mu,tT TL aY (E3 mu)=!(b,E3 mu):=#[_,λmu=>O];let(b3,t3):=t3;have Fh:∀mu,tO TN TK (E3 mu)=!(b3||own.isEmpty,E3 mu):=λmu=>rZ (t3 mu) (VU O);cases re:(b3||own.isEmpty) with
 |true=>
  show#[.iff W,f1,λmu=>?_];show iB _ mu=!(Zp (ZB [ZH "if",W,ZA (-mu),ZA (-mu+1)]),mu++[!(R []),!(R [])]);show aO (Y:=RE c own ls hs ws F N Q J J J J (mu++[!(R []),!(R [])])) (r:=Zp (ZB [ZH "if",W,ZA (-mu),ZA (-mu+1)])) ?_;show head mu _ _ ?_;show(bG (t1 mu) b1).trans ?_;show(bG (t2 mu) b2).trans ?_;show d7 (Fh mu) re ?_;show cT (dm (ls:=[Zp (ZH "if"),Zp W,Zp (ZA (-mu)),Zp (ZA (-mu+1))]) (aA (Y1:=E3 mu) O (aA (Y1:=E3 mu) O (aA (Y1:=RE c own ls hs ws F N Q J J J J (mu++[!(R [])])) O (aA (Y1:=RE c own ls hs ws F N Q J J J J (mu++[!(R []),!(R [])])) ?_ O)))) O O);show some (Lc.sh (ZA (-(mu++[!(PV.lst [])]))),RE c own ls hs ws F N Q J J J J ((mu++[!(PV.lst [])])++[!(PV.lst [])]))=_;rw[eM,fm];rfl
 |false=>
 have hown:own≠[]:=by intro e;rw[e]at re;simp at re
 let(z,wt,hx):=pick hown c 72 () ();let GL:Option Lc:=zT z;let D:Mu->Ev:=λmu=>RE c own ls hs ws F N Q GL J J J mu;have s8:∀mu,aL 8 TR (E3 mu)=!(.nx (D mu)):=λmu=>bu (l:=Zp (ZH z)) (Y1:=E3 mu) (hx 1 (aa 0) _ O O) O O;have j:∀(mu:Mu)(g:SF) ZN,g (D mu)=ZN->(aF (cC DS
  D0
  bR)
  (aF (cC DE
  DL
  bR)
  (aF (cC DZ
  DO
  bR)
  (aF DM g)))) (E3 mu)=ZN:=λmu g ZN hg=>(bG (t1 mu) b1).trans ((bG (t2 mu) b2).trans ((bG (Fh mu) re).trans (aH (s8 mu) hg)))
 have t4:∀mu,eE DF DH (D mu)=!((kd==2)&&not ws.isEmpty,D mu):=λmu=>nU O (xN O);cases b4:((kd==2)&&not ws.isEmpty) with
 |true=>
  let(wh,_,hw):=pick (NK b4) c 7 () ();show#[.row (.leaf "out" [ZH z,W,ZH wh]),#[VP,.out wh (ho z wt) f1],λmu=>?_];rw[show mu++Dr.cl (.row (.leaf "out" [ZH z,W,ZH wh]))=mu from f_ _];show aO (Y:=D mu) (head mu _ _ (j mu _ _ (d7 (t4 mu) b4 (cT (dm (ls:=[Zp (ZH "out"),Zp (ZH z),Zp W,Zp (ZH wh)]) (aA (Y1:=D mu) O (aA (Y1:=D mu) O (aA (Y1:=D mu) O (aA (hw 4 (aa 0) _ O O) O)))) O O)))))
 |false=>
 have t5:∃b,∀mu,tT TM aY (D mu)=!(b,D mu):=#[_,λmu=>O];let(b5,t5):=t5;have Fk:∀mu,eE DJ DI (D mu)=!(b5&&not (gY hs).isEmpty,D mu):=λmu=>nU (t5 mu) (Q8 O);cases wu:(b5&&not (gY hs).isEmpty) with
 |true=>
  let(q,hq,Wa):=VY (Yl wu) c 792 () ();let(h,hm,rfl):=fy.mp hq;let(yn,kT,lq):=hh h hm;let(as,fa,la,ea):=Q9 c ho ja ((List.range (-h.2)).map λi:Nat=>(0+(i:Int))) λk hk=>by let(i,hi,rfl):=fy.mp hk;have:=List.mem_range.mp hi;lia
  rw[eI,ik]at la;show#[.row (.call (ZH z) h.1 as),#[#[z,O,ho z wt],yn,fa,(),lq],λmu=>?_];rw[show mu++Dr.cl (.row (.call (ZH z) h.1 as))=mu from f_ _];let E5:_:=RE c own ls hs ws F N Q GL (zT h.1) (zL (SS h.2)) J mu;let E6:_:=RE c own ls hs ws F N Q GL (zT h.1) (zL (SS h.2)) (zO as) mu;let E7:_:=RE c own ls hs ws F N Q GL (zT h.1) (zL (SS h.2)) (zL as) mu;let ec:=ea mu J [] (by rw[eI,ik];simp only[eQ];lia);rw[<-Eh,hJ]at ec;show aO (Y:=E7) (head mu _ _ (j mu _ _ ((bG (t4 mu) b4).trans (d7 (Fk mu) wu ?_))));show aH (Y':=E5) ?_ (aH (Y':=E6) (bu (l:=Zs (R as)) (Y1:=E5) ((eF (Y1:=E5) (xs:=jo 0 (-h.2)) (mY (Y1:=E5) (l:=Zp (ZI (-(SS h.2):Nat))) (n:=((-h.2:Nat):Int)) (aA (jN (ls:=[Zp (R (SS h.2))]) (ps:=[R (SS h.2)]) (Y1:=E5) O O O) O) (by rw[tB];rfl) () ()) ec).trans O) O O) O);unfold Xn;rw[Wa 3 (aa 0) _ O O];rfl
 |false=>
  show#[.row (.leaf "set" [ZH z,p2]),#[VV,.set_ (ho z wt) f2],λmu=>?_];rw[show mu++Dr.cl (.row (.leaf "set" [ZH z,p2]))=mu from f_ _];show aO (Y:=D mu) (head mu _ _ (j mu _ _ ((bG (t4 mu) b4).trans ((bG (Fk mu) wu).trans O))))
mutual
theorem mQ:∀(p:PV)(k:Nat),di p=G->fQ mu k p=p
 |.non,k,_=>by cases k<;>rfl
 |.bl _,k,_=>by cases k<;>rfl
 |ZI _,k,_=>by cases k<;>rfl
 |ZH _,k,_=>by cases k<;>rfl
 |ZB ps,k,h=>by
  cases k with
  |zero=>rfl
  |succ k=>
   show PV.tup (ps.map (fQ mu k))=_;rw[c5 ps k ()]
 |R _,k,h=>by simp[di]at h
 |.dk _ _,k,h=>by simp[di]at h
 |.dt _ _,k,h=>by simp[di]at h
 |.obj _ _ _,k,h=>by simp[di]at h
 |.df _ _,k,h=>by simp[di]at h
 |.dtf _ _,k,h=>by simp[di]at h
 |.dx _ _ _,k,h=>by simp[di]at h
 |ZA _,k,h=>by simp[di]at h
theorem c5:∀(ps:List PV)(k:Nat),cw ps=G->ps.map (fQ mu k)=ps
 |[],k,_=>rfl
 |p::ps,k,h=>by simp only[cw,iX]at h;rw[fU,mQ p k h.1,c5 ps k h.2]
end
def Ym(h:cw ps=G):fQ mu k (R ps)=R ps:=by
 cases k with
 |zero=>rfl
 |succ k=>
  show PV.lst (ps.map (fQ mu k))=_;rw[c5 ps k h]
abbrev vZ:=List (Nat×PV)
def Holds(mu:Mu)(L:vZ):Prop:=(L.map (·.1)).Nodup/\∀x∈L,mu[x.1]?=!(!x.2)
def Holds.perm(h:Holds mu L)(p:L'.Perm L):Holds mu L':=#[(p.map _).nodup_iff.mpr h.1,λx i=>h.2 x ∅]
def Holds.sub(h:Holds mu L)(p:L'.Sublist L):Holds mu L':=#[h.1.sublist (p.map _),λx i=>h.2 x ∅]
def Holds.tail{L:vZ}(h:Holds mu (x::L)):Holds mu L:=h.sub (gI _ _)
def Holds.head{L:vZ}(h:Holds mu ((n,p)::L)):mu[n]?=!(!p):=h.2 _ ed
theorem Holds.set{L:vZ}(h:Holds mu ((n,p)::L)):Holds (mu.set n (!q)) ((n,q)::L):=by
 let j:=(fS.mp h.head).1;show#[h.1,λx i=>?_];obtain rfl|i:=d5.mp i
 . show k_ j
 . let ne:=λe=>(ip.mp h.1).1 (fy.mpr #[x,i,e]);rw[oy (λe=>ne e.symm)];show h.2 x (e_ _ i)
def Holds.lt(h:Holds mu L):∀x∈L,x.1< -mu:=λx i=>(fS.mp (h.2 x i)).1
def Holds.push(h:Holds mu L)(p:PV):Holds (mu++[!p]) ((-mu,p)::L):=by
 show#[ip.mpr #[λj=>?_,h.1],λx i=>?_]
 . let(x,i,e):=fy.mp j;have:=h.lt x i;have q:x.1=-mu:=e;lia
 . obtain rfl|i:=d5.mp i
   . rw[hW (),i8];rfl
   . rw[jp (h.lt x i)];show h.2 x i
structure gu where
 p:PV
 r:c9
 L:vZ
def gu.fit(d:gu):Prop:=d.r.ok/\∀mu k,Holds mu d.L->3*d.r.dep<=k->fQ mu k d.p=d.r.pv
noncomputable def dy:List c9->Rows
 |[]=>.nil
 |r::l=>.cons r (dy l)
theorem Gv:∀l:List c9,(dy l).pvs=l.map c9.pv
 |[]=>rfl
 |r::l=>by simp[dy,Rows.pvs,Gv l]
theorem tE:∀l:List c9,(∀r∈l,r.ok)->(dy l).ok
 |[]=>λ_=>True.intro
 |r::l=>λh=>#[h r ed,tE l λx i=>h x (e_ _ i)]
theorem uv:∀l:List c9,∀r∈l,r.dep+1<=(dy l).dep
 |[]=>λr h=>by cases h
 |x::l=>λr h=>by
  simp only[dy,Rows.dep];obtain rfl|h:=d5.mp h
  . lia
  . have:=uv l r h;lia
theorem zu(i:1<=n):∀l:List c9,(∀r∈l,r.dep+1<=n)->(dy l).dep<=n
 |[]=>λ_=>i
 |x::l=>λh=>by let h1:=h x ed;let h2:=zu i l λr j=>h r (e_ _ j);simp only[dy,Rows.dep];lia
theorem Az:∀l:List c9,(∀r∈l,r.bl<=n)->(dy l).bl<=n
 |[]=>λ_=>gy _
 |x::l=>λh=>by let h1:=h x ed;let h2:=Az l λr i=>h r (e_ _ i);simp only[dy,Rows.bl];lia
def fZ(l:List c9):Nat:=(l.map c9.cnt).sum
theorem nD:∀l:List c9,(dy l).cnt=fZ l
 |[]=>rfl
 |r::l=>by simp[dy,Rows.cnt,fZ,nD l]
def Ei(a b:List c9):fZ (a++b)=fZ a+fZ b:=by simp[fZ]
abbrev d9(ds:List gu):List PV:=ds.map (·.p)
noncomputable abbrev iM (ds:List gu):List c9:=ds.map (·.r)
noncomputable def dL:List gu->vZ
 |[]=>[]
 |d::ds=>d.L++dL ds
theorem NP:∀a b:List gu,dL (a++b)=dL a++dL b
 |[],b=>rfl
 |d::a,b=>by simp[dL,NP a]
theorem V0:∀{ds:List gu}{d:gu},d∈ds->d.L.Sublist (dL ds)
 |[],d,h=>by cases h
 |x::ds,d,h=>by
  obtain rfl|h:=d5.mp h
  . show j1 _ _
  . show(V0 h).trans (mM _ _)
def Ci(j:∀d∈ds,d.fit)(q:mu[n]?=!(!(R (d9 ds))))(H:Holds mu (dL ds))(hk:∀d∈ds,3*d.r.dep<=k):fQ mu (k+2) (ZA n)=R (dy (iM ds)).pvs:=by show (match mu[n]? with |some (!p)=>fQ mu (k+1) p |_=>ZA n)=_;rw[q];show PV.lst ((d9 ds).map (fQ mu k))=_;rw[Gv,d9,iM,im,im];congr 1;show r_ λd i=>?_;show(j d i).2 mu k (H.sub (V0 i)) (hk d i)
def V1(he:XG e)(i:∀d∈ds,d.fit):gu.fit #[ZB [ZH "while",e,ZA n],.wh e (dy (iM ds)),(n,R (d9 ds))::dL ds]:=by
 show#[#[he,tE _ λr z=>?_],λmu k H hk=>?_]
 . let(d,q,rfl):=fy.mp z;show(i d q).1
 . simp only[c9.dep]at hk;obtain⟨k,rfl⟩:∃j,k=j+3:=#[k-3,()];let D:=Ci (k:=k) i H.head H.tail λd q=>by have:=uv (iM ds) d.r ∅;lia
   show PV.tup [fQ mu (k+2) (ZH "while"),fQ mu (k+2) e,fQ mu (k+2) (ZA n)]=_;rw[D,mQ e _ he.fl.1];rfl
def Hw(he:XG e)(D:∀d∈bs,d.fit)(z:∀d∈ds,d.fit):gu.fit #[ZB [ZH "if",e,ZA m,ZA n],.iff e (dy (iM bs)) (dy (iM ds)),(m,R (d9 bs))::(n,R (d9 ds))::(dL bs++dL ds)]:=by
 show#[#[he,tE _ λr q=>?_,tE _ λr q=>?_],λmu k H hk=>?_]
 . let(d,i,rfl):=fy.mp q;show(D d i).1
 . let(d,i,rfl):=fy.mp q;show(z d i).1
 . simp only[c9.dep]at hk;obtain⟨k,rfl⟩:∃j,k=j+3:=#[k-3,()];let N:=Ci (k:=k) D H.head (H.tail.tail.sub (j1 _ _)) λd i=>by have:=uv (iM bs) d.r ∅;lia
   let F:=Ci (k:=k) z H.tail.head (H.tail.tail.sub (mM _ _)) λd i=>by have:=uv (iM ds) d.r ∅;lia
   show PV.tup [fQ mu (k+2) (ZH "if"),fQ mu (k+2) e,fQ mu (k+2) (ZA m),fQ mu (k+2) (ZA n)]=_;rw[N,F,mQ e _ he.fl.1];rfl
def Wp(h:r.low):gu.fit #[r.pv,r,[]]:=by
 cases r with
 |leaf w ps=>
  let(h1,h2):=h;show#[#[h1,h2],λmu k _ _=>?_];show mQ _ k (by simp[c9.pv,di,cw,h2.fls.1])
 |call b n z=>
  let(h1,h2,i,D):=h;show#[#[h1,h2,i,D],λmu k _ hk=>?_];let(x,rfl,_):=h1;simp only[c9.dep]at hk;obtain⟨k,rfl⟩:∃j,k=j+1:=#[k-1,()];show PV.tup [fQ mu k (ZH "call"),fQ mu k (ZH x),fQ mu k (ZH n),fQ mu k (R z)]=_;rw[mQ (ZH x) _ O,mQ (ZH "call") k O,mQ (ZH n) k O,Ym (Gm i).1];rfl
 |wh e b=>cases h
 |iff e b c=>cases h
inductive Kd where
 |root
 |W (e:PV)
 |I1 (e:PV) (m:Nat)
 |I2 (e:PV) (m:Nat) (bs:List gu)
structure Fr where
 n:Nat
 s:Nat
 ds:List gu
 kd:Kd
noncomputable def Fr.op (f:Fr):PV:=match f.kd with
 |.root=>.non
 |.W e=>ZB [ZH "while",e,ZA f.n]
 |.I1 e m=>ZB [ZH "if",e,ZA f.n,ZA m]
 |.I2 e m _=>ZB [ZH "if",e,ZA m,ZA f.n]
def Kd.st:Kd->vZ
 |.I1 _ m=>[(m,R [])]
 |.I2 _ m bs=>(m,R (d9 bs))::dL bs
 |_=>[]
def Fr.sc(f:Fr):List PV:=match f.kd with
 |.I1 _ m=>[ZA f.n,ZA m]
 |_=>[ZA f.n]
def Fr.cls(f:Fr):gu:=match f.kd with
 |.root=>#[.non,.leaf "" [],[]]
 |.W e=>#[f.op,.wh e (dy (iM f.ds)),(f.n,R (d9 f.ds))::dL f.ds]
 |.I1 e m=>#[f.op,.iff e (dy (iM f.ds)) .nil,(f.n,R (d9 f.ds))::(m,R [])::(dL f.ds++[])]
 |.I2 e m bs=>#[f.op,.iff e (dy (iM bs)) (dy (iM f.ds)),(m,R (d9 bs))::(f.n,R (d9 f.ds))::(dL bs++dL f.ds)]
def Kd.fit:Kd->Prop
 |.root=>True
 |.W e=>XG e
 |.I1 e _=>XG e
 |.I2 e _ bs=>XG e/\∀d∈bs,d.fit
def Fr.fit(f:Fr):Prop:=(∀d∈f.ds,d.fit)/\f.kd.fit
def Ra{f:Fr}(h:f.fit)(q:f.kd≠.root):f.cls.fit:=by
 let(n,s,ds,kd):=f;let(h1,h2):=h;cases kd with
 |root=>show absurd O q
 |W e=>show V1 h2 h1
 |I1 e m=>show Hw (ds:=[]) h2 h1 (λd j=>by cases j)
 |I2 e m bs=>show Hw h2.1 h2.2 h1
def WA{f:Fr}(i:f.kd≠.root):f.cls.p=f.op:=by let(n,s,ds,kd):=f;cases kd<;>first |show absurd O i |rfl
def WB{f:Fr}(j:f.kd≠.root):f.cls.L.Perm ((f.n,R (d9 f.ds))::(f.kd.st++dL f.ds)):=by
 let(n,s,ds,kd):=f;cases kd with
 |root=>show absurd O j
 |W e=>show List.Perm.refl _
 |I1 e m=>
  show List.Perm ((n,PV.lst (d9 ds))::(m,R [])::(dL ds++[])) ((n,R (d9 ds))::([(m,R [])]++dL ds));rw[f_];show List.Perm.refl _
 |I2 e m bs=>show List.Perm.swap _ _ _
def FS:List Fr->List PV->vZ
 |[],_=>[]
 |f::fs,o=>(f.n,R (d9 f.ds++o))::(f.s,R f.sc)::((f.kd.st++dL f.ds)++FS fs [f.op])
def Gw{f g:Fr}(i:f.kd≠.root):List.Perm (FS (#[g.n,g.s,g.ds++[f.cls],g.kd]::fs) []) ((f.n,R (d9 f.ds))::((f.kd.st++dL f.ds)++FS (g::fs) [f.op])):=by
 have j:(#[g.n,g.s,g.ds++[f.cls],g.kd]:Fr).op=g.op:=by cases g with |mk n s ds kd=>cases kd<;>rfl
 have es:(#[g.n,g.s,g.ds++[f.cls],g.kd]:Fr).sc=g.sc:=by cases g with |mk n s ds kd=>cases kd<;>rfl
 show List.Perm ((g.n,PV.lst (d9 (g.ds++[f.cls])++[]))::(g.s,R (#[g.n,g.s,g.ds++[f.cls],g.kd]:Fr).sc)::((g.kd.st++dL (g.ds++[f.cls]))++FS fs [(#[g.n,g.s,g.ds++[f.cls],g.kd]:Fr).op])) _;rw[j,es,f_,NP,show d9 (g.ds++[f.cls])=d9 g.ds++[f.op] by rw[d9,fx,List.map_singleton,WA i],show dL [f.cls]=f.cls.L from f_ _];let z:=WB i;have p2:List.Perm ((f.n,PV.lst (d9 f.ds))::((f.kd.st++dL f.ds)++FS (g::fs) [f.op])) (f.cls.L++FS (g::fs) [f.op]):=z.symm.append_right _;show List.Perm.trans ?_ p2.symm;have q:List.Perm ((g.kd.st++(dL g.ds++f.cls.L))++FS fs [g.op]) (f.cls.L++((g.kd.st++dL g.ds)++FS fs [g.op])):=by rw[<-fm,fm (g.kd.st++dL g.ds),<-fm f.cls.L];rw[<-fm];show(ky).append_right _
 show((q.cons _).cons _).trans ((List.perm_middle.symm.cons _).trans gW.symm)
def mR:FS (f::fs) []=(f.n,R (d9 f.ds))::(f.s,R f.sc)::((f.kd.st++dL f.ds)++FS fs [f.op]):=by show (f.n,PV.lst (d9 f.ds++[]))::_=_;rw[f_]
def Px(i:f.kd≠.root)(h:Holds mu (FS (f::g::fs) [])):Holds mu (FS (#[g.n,g.s,g.ds++[f.cls],g.kd]::fs) []):=by rw[mR]at h;show(h.sub ((gI _ _).cons₂ _)).perm (Gw i)
def Holds.grow(h:Holds mu L)(X:Mu):Holds (mu++X) L:=#[h.1,λx i=>by rw[jp (h.lt x i)];show h.2 x i]
inductive UK where
 |root
 |W (e:PV)
 |I1 (e:PV)
 |I2 (e:PV) (b:List c9)
abbrev U_:=List c9×UK
def Kd.u:Kd->UK
 |.root=>.root
 |.W e=>.W e
 |.I1 e _=>.I1 e
 |.I2 e _ bs=>.I2 e (iM bs)
def Fr.u(f:Fr):U_:=(iM f.ds,f.kd.u)
def UK.close:UK->List c9->c9
 |.root,_=>.leaf "" []
 |.W e,rs=>.wh e (dy rs)
 |.I1 e,rs=>.iff e (dy rs) .nil
 |.I2 e b,rs=>.iff e (dy b) (dy rs)
def Zn{f:Fr}:f.cls.r=f.kd.u.close (iM f.ds):=by let(n,s,ds,kd):=f;cases kd<;>rfl
def yP:List U_->List U_
 |(rs,.I1 e)::us=>([],.I2 e rs)::us
 |(rs,k)::(WC,k')::us=>(WC++[k.close rs],k')::us
 |us=>us
noncomputable def vy (d:Dr):List U_->List U_
 |[]=>[]
 |(rs,k)::us=>match d with
  |.row r=>(rs++[r],k)::us
  |.wh e=>if -us+1<5 then ([],.W e)::(rs,k)::us else (rs++[.wh e .nil],k)::us
  |.iff e=>if -us+1<5 then ([],.I1 e)::(rs,k)::us else (rs++[.iff e .nil .nil],k)::us
def qC(us:List U_)(c:Int)(d:Dr):List U_:=if ((c%8==0)&&decide ((-us:Int)>1))=G then yP us else vy d us
def iS(b:Nat):List Fr->Prop
 |[]=>False
 |[f]=>f.kd=.root/\f.n=b
 |f::g::r=>f.kd≠.root/\iS b (g::r)
abbrev stk(fs:List Fr):List PV:=fs.reverse.map λf=>ZA f.s
def kJ:stk (f::fs)=stk fs++[ZA f.s]:=by simp[stk]
def Rb:-(stk fs)=-fs:=by simp[stk]
structure St(mu:Mu)(b S t:Nat)(fs:List Fr):Prop where
 h:Holds mu ((S,.lst (stk fs))::FS fs [])
 fit:∀f∈fs,f.fit
 sh:iS b fs
 ln:-fs<=5
 sz:∀f∈fs,-f.ds<=t
def Hx(h:f Y=!(l,Y1))(hl:l.pv=ZA n)(hm:Y1.mu[n]?=!(!(R ws))):oO f Y=!(Zp (ZI (-ws:Nat)),Y1):=by unfold oO;rw[h,eH,hl];dsimp only;rw[hm]
def WE{Y Y1:Ev}{mu:Mu}(h1:fo Y=!(o,Y1))(i:o.pv=ZA n)(j:Y1.mu[n]?=!(!(R (ws++[p]))))(e:Y1.mu.set n (!(R ws))=mu):FZ fo Y=!(Zp p,#[Y1.vs,mu]):=by unfold FZ;rw[h1,eH,i];dsimp only;rw[j];dsimp only;rw[eM,d6,eQ,hW (),List.dropLast_concat,e];simp
def WG(h:f Y=!(Zs p,Y1))(hn:-Y1.mu=n):oh f Y=!(Zp (ZA n),#[Y1.vs,Y1.mu++[!p]]):=by unfold oh;rw[h,eH,hn]
abbrev ZE(X:PV)(own ls:List Str)(hs:Hd)(ws:List Str)(b S:Nat)(o7 o8:Option Lc)(mu:Mu):Ev:=#[[zS X,zL (SS own),zL (SS ls),zL (gY hs),zL (SS ws),zS (ZA b),zS (ZA S),o7,o8],mu]
abbrev Ba:EF:=aJ (aa 6) (jq (bh 1))
abbrev wv:=au fB (oO Ba) (bh 0)
abbrev wx:SF:=aF (rW (An Ba))
 (cC (tT wv aY)
 (rW (FZ (aa 6)))
 bR)
abbrev WH:SF:=cC D6
 D4
 bR
abbrev Zo:SF:=aF D2
 (aF (ou (aJ Ba (bh 0)) (aa 8))
 WH)
abbrev Fm:SF:=cC D5 wx Zo
section
variable {X:PV}{own ls:List Str}{hs:Hd}{ws:List Str}{b S:Nat}{o7 o8:Option Lc}{mu:Mu}
def Gx(h:mu[S]?=!(!(R (stk (f::fs))))):Ba (ZE X own ls hs ws b S o7 o8 mu)=!(Zp (ZA f.s),ZE X own ls hs ws b S o7 o8 mu):=
 Vj O O O O h (by rw[kJ];show qN _ _)
def Fr.sc_head(f:Fr):∃t,f.sc=ZA f.n::t:=by let(n,s,ds,kd):=f;cases kd<;>show#[_,O]
def WI(h:mu[S]?=!(!(R (stk (f::fs)))))(h2:mu[f.s]?=!(!(R f.sc))):aJ Ba (bh 0) (ZE X own ls hs ws b S o7 o8 mu)=!(Zp (ZA f.n),ZE X own ls hs ws b S o7 o8 mu):=by let(t,i):=f.sc_head;show Vj (Gx h) O O O h2 (by rw[i];show md)
def Zq(h:mu[S]?=!(!(R (stk fs)))):oO (aa 6) (ZE X own ls hs ws b S o7 o8 mu)=!(Zp (ZI (-fs:Nat)),ZE X own ls hs ws b S o7 o8 mu):=by have:=Hx (f:=aa 6) (Y:=ZE X own ls hs ws b S o7 o8 mu) O O h;rw[Rb]at this;show this
def Zr{t:Nat}(h:Holds mu ((S,R (stk (f::fs)))::FS (f::fs) []))(i:-f.ds<=1000):ou (aJ Ba (bh 0)) (aa 8) (ZE X own ls hs ws b S o7 (zS p) mu)=!(.nx (ZE X own ls hs ws b S o7 (zS p) (mu.set f.n (!(R (d9 f.ds++[p])))))):=by let h1:=h.head;let h2:=h.tail;rw[mR]at h2;show xg (Y2:=ZE X own ls hs ws b S o7 (zS p) mu) (WI h1 h2.tail.head) O h2.head O O h2.head ∅ O
end
def Gy(h:f Y=!(l,Y1)):rW f Y=!(.nx Y1):=by unfold rW;rw[h];rfl
section
variable {X:PV}{own ls:List Str}{hs:Hd}{ws:List Str}{b S t:Nat}{o7 o8:Option Lc}{mu:Mu}
def WJ(h:mu[S]?=!(!(R (stk fs)))):eE T1 TZ (ZE X own ls hs ws b S (zI c) o8 mu)=!((c%8==0)&&decide ((-fs:Int)>1),ZE X own ls hs ws b S (zI c) o8 mu):=
 nU O (jU (dj (Zq h) O O O O) O)
def Bb(h:iS b (g::fs)):iS b (#[g.n,g.s,d,g.kd]::fs):=by
 cases fs with
 |nil=>show h
 |cons x fs=>show h
def Rc(h:St mu b S t (f::g::fs))(F:f.sc=[ZA f.n])(hu:yP ((f::g::fs).map Fr.u)=((g::fs).map Fr.u).modifyHead λu=>(u.1++[f.kd.u.close (iM f.ds)],u.2)):∃z g_,wx (ZE X own ls hs ws b S o7 o8 mu)=!(.nx (ZE X own ls hs ws b S o7 o8 z))/\St z b S (t+1) g_/\g_.map Fr.u=yP ((f::g::fs).map Fr.u):=by
 let(H,fit,sh,ln,sz):=h;let N:=sh.1;rw[mR,F]at H;let H1:=H.perm (gW (l₁:=[(S,PV.lst (stk (f::g::fs))),(f.n,R (d9 f.ds))])).symm;let H2:=H1.set (q:=R []);have H3:Holds ((mu.set f.s (!(R []))).set S (!(R (stk (g::fs))))) ((S,R (stk (g::fs)))::(f.s,R [])::(f.n,R (d9 f.ds))::((f.kd.st++dL f.ds)++FS (g::fs) [f.op])):=(H2.perm (List.Perm.swap _ _ _)).set;let H4:=H3.sub ((gI _ _).cons₂ _);let Q:=H4.perm ((Gw N).cons _);show#[(mu.set f.s (!(R []))).set S (!(R (stk (g::fs)))),#[g.n,g.s,g.ds++[f.cls],g.kd]::fs,?_,#[?_,λx D=>?_,Bb sh.2,?_,λx D=>?_],?_]
 . let i:_:=mu.set f.s (!(R []));show aH (Gy (M3 (Gx H.head) O H1.head O)) ?_;have tt:tT wv aY (ZE X own ls hs ws b S o7 o8 i)=!(G,ZE X own ls hs ws b S o7 o8 i):=jU (dj (Hx (Gx H2.tail.head) O H2.head) O O O O) O;show(lR tt).trans (Gy (WE (Y1:=ZE X own ls hs ws b S o7 o8 i) (p:=ZA f.s) O O ?_ O));rw[<-kJ];show H2.tail.head
 . have e:stk (#[g.n,g.s,g.ds++[f.cls],g.kd]::fs)=stk (g::fs):=by rw[kJ,kJ]
   rw[e];show Q
 . obtain rfl|D:=d5.mp D
   . let(g1,W):=fit g (by simp);show#[λd j=>?_,W];obtain j|j:=fw.mp j
     . show g1 d j
     . rw[gT.mp j];show Ra (fit f (by simp)) N
   . show fit x ∅
 . simp only[d6]at ln ⊢;lia
 . obtain rfl|D:=d5.mp D
   . have:=sz g (by simp);simp only[eM,d6,eQ];lia
   . have:=sz x ∅;lia
 . rw[hu];show (iM (g.ds++[f.cls]),g.kd.u)::fs.map Fr.u=(iM g.ds++[f.kd.u.close (iM f.ds)],g.kd.u)::fs.map Fr.u;rw[iM,fx,List.map_singleton,Zn]
def Yn(h:St mu b S t (f::g::fs)):∃i g_,wx (ZE X own ls hs ws b S o7 o8 mu)=!(.nx (ZE X own ls hs ws b S o7 o8 i))/\St i b S (t+1) g_/\g_.map Fr.u=yP ((f::g::fs).map Fr.u):=by
 let(n,s,ds,kd):=f;cases kd with
 |root=>show absurd O h.sh.1
 |W e=>show Rc h O O
 |I2 e m bs=>show Rc h O O
 |I1 e m=>
  let(H,fit,sh,ln,sz):=h;let f:Fr:=#[n,s,ds,.I1 e m];let N:Fr:=#[m,s,[],.I2 e n ds];rw[mR]at H;let z:=H;let H1:=z.perm (gW (l₁:=[(S,PV.lst (stk (f::g::fs))),(n,R (d9 ds))])).symm;let H2:=H1.set (q:=R [ZA m]);show#[mu.set s (!(R [ZA m])),N::g::fs,?_,#[?_,λx j=>?_,#[∅,sh.2],ln,λx j=>?_],?_]
  . let D:_:=mu.set s (!(R [ZA m]));show aH (Gy (M3 (Gx z.head) O H1.head O)) ?_;have tt:tT wv aY (ZE X own ls hs ws b S o7 o8 D)=!(M,ZE X own ls hs ws b S o7 o8 D):=jU (dj (Hx (Gx H2.tail.head) O H2.head) O O O O) O;show(lU tt).trans O
  . let e:=(kJ (f:=N)).trans (kJ (f:=f) (fs:=g::fs)).symm;rw[mR,e];show Holds _ ((S,R (stk (f::g::fs)))::(m,R [])::(s,R [ZA m])::(n,R (d9 ds))::((dL ds++[])++FS (g::fs) [f.op]));rw[f_];show H2.perm ?_;show(gW (l₁:=[(S,PV.lst (stk (f::g::fs))),(m,R [])])).trans (((List.Perm.swap _ _ _).cons _).cons _)
  . obtain rfl|j:=d5.mp j
    . let(g1,g2):=fit f ∅;show#[(λd Q=>(by cases Q)),g2,g1]
    . show fit x ∅
  . obtain rfl|j:=d5.mp j
    . show gy _
    . have:=sz x ∅;lia
  . rfl
def WO(h:Holds mu ((S,R (stk (f::fs)))::FS (f::fs) []))(h2:Holds mu (L++((S,R (stk (f::fs)))::FS (f::fs) [])))(D:d.L=L):Holds (mu.set f.n (!(R (d9 f.ds++[d.p])))) ((S,R (stk (f::fs)))::FS (#[f.n,f.s,f.ds++[d],f.kd]::fs) []):=by
 rw[mR]at h2;have j:List.Perm ((f.n,PV.lst (d9 f.ds))::(L++((S,R (stk (f::fs)))::(f.s,R f.sc)::((f.kd.st++dL f.ds)++FS fs [f.op])))) (L++((S,R (stk (f::fs)))::(f.n,R (d9 f.ds))::(f.s,R f.sc)::((f.kd.st++dL f.ds)++FS fs [f.op]))):=by have:=(gW (l₁:=L++[(S,PV.lst (stk (f::fs)))]) (a:=(f.n,PV.lst (d9 f.ds))) (l₂:=(f.s,R f.sc)::((f.kd.st++dL f.ds)++FS fs [f.op]))).symm;simpa using this
 let H1:=(h2.perm j).set (q:=R (d9 f.ds++[d.p]));have z:(#[f.n,f.s,f.ds++[d],f.kd]:Fr).op=f.op:=by cases f with |mk n s ds kd=>cases kd<;>rfl
 have es:(#[f.n,f.s,f.ds++[d],f.kd]:Fr).sc=f.sc:=by cases f with |mk n s ds kd=>cases kd<;>rfl
 rw[mR,z,es];rw[show d9 (f.ds++[d])=d9 f.ds++[d.p] by simp[d9],NP,show dL [d]=L by rw[<-D];show f_ _];show H1.perm ?_;have q:List.Perm ((f.kd.st++(dL f.ds++L))++FS fs [f.op]) (L++((f.kd.st++dL f.ds)++FS fs [f.op])):=by rw[<-fm (f.kd.st),<-fm L];show List.perm_append_comm.append_right _
 let i:=((q.cons (f.s,PV.lst f.sc)).cons (S,PV.lst (stk (f::fs)))).trans ((List.perm_middle.symm.cons _).trans gW.symm);show(List.Perm.swap _ _ _).trans (i.cons _)
def WS(h:St mu b S t (f::fs))(z:d.fit)(H:Holds hU ((S,R (stk (f::fs)))::FS (#[f.n,f.s,f.ds++[d],f.kd]::fs) [])):St hU b S (t+1) (#[f.n,f.s,f.ds++[d],f.kd]::fs):=by
 let(_,fit,sh,q,sz):=h;show#[?_,λx j=>?_,Bb sh,by simpa using q,λx j=>?_]
 . have e:stk (#[f.n,f.s,f.ds++[d],f.kd]::fs)=stk (f::fs):=by rw[kJ,kJ]
   rw[e];show H
 . obtain rfl|j:=d5.mp j
   . let(F,D):=fit f (by simp);show#[λy i=>?_,D];obtain i|i:=fw.mp i
     . show F y i
     . rw[gT.mp i];show z
   . show fit x ∅
 . obtain rfl|j:=d5.mp j
   . have:=sz f (by simp);simp only[eM,d6,eQ];lia
   . have:=sz x ∅;lia
end
section
variable {X:PV}{own ls:List Str}{hs:Hd}{ws:List Str}{b S t:Nat}{o7 o8:Option Lc}{mu:Mu}
def Yo{f F:Fr}(z:F.ds=[])(i:Holds mu (((F.n,R [])::F.kd.st)++((S,R (stk (f::fs)))::FS (f::fs) [])))(hs:F.s=-mu):
 Holds ((mu.set f.n (!(PV.lst (d9 f.ds++[F.op])))++[!(PV.lst F.sc)]).set S (!(PV.lst (stk (F::f::fs))))) ((S,R (stk (F::f::fs)))::FS (F::f::fs) []):=by
 rw[mR]at i;let K:_:=F.kd.st;let A:Nat×PV:=(F.n,R []);let E:Nat×PV:=(f.s,R f.sc);let ZN:_:=(f.kd.st++dL f.ds)++FS fs [f.op];have N:List.Perm ((f.n,PV.lst (d9 f.ds))::((S,R (stk (f::fs)))::((A::K)++(E::ZN)))) (((F.n,R [])::F.kd.st)++((S,R (stk (f::fs)))::(f.n,R (d9 f.ds))::E::ZN)):=by show List.Perm.trans ?_ (gW).symm;show(List.Perm.swap _ _ _).trans ((gW).symm.cons _)
 let H1:=(i.perm N).set (q:=R (d9 f.ds++[F.op]));let H2:=H1.push (R F.sc);rw[nv,<-hs]at H2;let B:Nat×PV:=(F.s,R F.sc);let D:Nat×PV:=(f.n,R (d9 f.ds++[F.op]));let Q:=H2.perm (gW (l₁:=[B,D])).symm;let j:=Q.set (q:=R (stk (F::f::fs)));show j.perm (List.Perm.cons _ ?_);rw[mR,z];show List.Perm (A::B::((K++[])++(D::E::ZN))) (B::D::((A::K)++(E::ZN)));rw[f_];show(List.Perm.swap _ _ _).trans ((((gW).cons A).trans (List.Perm.swap _ _ _)).cons B)
def wZ:aJ (aa 8) (bh 0) (ZE X own ls hs ws b S o7 (zS (ZB (ZH w::ps))) mu)=!(Zp (ZH w),ZE X own ls hs ws b S o7 (zS (ZB (ZH w::ps))) mu):=
 dG O O O O (λn h=>by cases h) (by show (fO (PV.str w::ps) 0).map _=_;rw[md];rfl)
def NQ(h:mu[S]?=!(!(R (stk fs)))):eE D3 D1 (ZE X own ls hs ws b S o7 (zS (ZB (ZH w::ps))) mu)=!(jO w&&decide ((-fs:Int)<5),ZE X own ls hs ws b S o7 (zS (ZB (ZH w::ps))) mu):=
 nU (jU (bC wZ O O) O) (jU (dj (Zq h) O O O O) O)
def Ej{d:Dr}(W:iB [ZI c,R (SS own),R (SS ls),R (gY hs),R (SS ws)] mu=!(Zp (d.pv (-mu)),mu++d.cl))(h:St mu b S t (f::fs))(ht:t<=1000)
 (z:d.pv (-mu)=ZB (ZH w::ps)) (hD:D.p=d.pv (-mu)) (N:D.fit) (hL:Holds (mu++d.cl) (D.L++((S,R (stk (f::fs)))::FS (f::fs) []))) (hb:(jO w&&decide ((-(f::fs):Int)<5))=M):
 ∃i Q,Zo (ZE X own ls hs ws b S (zI c) o8 mu)=!(.nx (ZE X own ls hs ws b S (zI c) Q i))/\St i b S (t+1) (#[f.n,f.s,f.ds++[D],f.kd]::fs):=by
 let F:=h.h.grow d.cl;let hz:=h.sz f ed;let C:Option Lc:=zI c;let P:Option Lc:=zS (d.pv (-mu));let q:=WO F hL O;rw[hD]at q;show#[(mu++d.cl).set f.n (!(PV.lst (d9 f.ds++[d.pv (-mu)]))),P,?_,WS h N q];show aH (bu (aR O O O O W) O O) ?_;show aH (Zr (t:=t) F ()) ?_;let j:=NQ (X:=X) (own:=own) (ls:=ls) (hs:=hs) (ws:=ws) (b:=b) (o7:=C) (w:=w) (ps:=ps) q.head;rw[hb]at j;rw[show P=zS (ZB (ZH w::ps)) from congrArg (λx=>!(Lc.sh x)) z,z];rw[z]at j;show(lU j).trans O
def NT{f F:Fr}{d:Dr}(er:iB [ZI c,R (SS own),R (SS ls),R (gY hs),R (SS ws)] mu=!(Zp (d.pv (-mu)),mu++d.cl))(h:St mu b S t (f::fs))(ht:t<=1000)
 (hp:d.pv (-mu)=ZB (ZH w::ps)) (hF:F.ds=[]) (WU:F.op=d.pv (-mu)) (hk:F.fit) (hr:F.kd≠.root) (jv:F.s=-(mu++d.cl)) (hL:Holds (mu++d.cl) (((F.n,R [])::F.kd.st)++((S,R (stk (f::fs)))::FS (f::fs) []))) (hb:(jO w&&decide ((-(f::fs):Int)<5))=G)
 (hc:∀mu:Mu,bU T0 1 [] (aC 0) bB (aa 0) (ZE X own ls hs ws b S (zI c) (zS F.op) mu)=!(Zs (R F.sc),ZE X own ls hs ws b S (zI c) (zS F.op) mu)):
 ∃N p8,Zo (ZE X own ls hs ws b S (zI c) o8 mu)=!(.nx (ZE X own ls hs ws b S (zI c) p8 N))/\St N b S (t+1) (F::f::fs):=by
 let Q:=h.h.grow d.cl;let hz:=h.sz f ed;let C:Option Lc:=zI c;let P:Option Lc:=zS F.op;let H5:=Yo hF hL jv;let(_,fit,sh,ln,sz):=h;have D:-(f::fs)<5:=by let h2:=(iX _ _▸hb).2;let h3:=of_decide_eq_true h2;lia
 let i:_:=(mu++d.cl).set f.n (!(PV.lst (d9 f.ds++[F.op])));have j:i[S]?=!(!(R (stk (f::fs)))):=by
  have ne:f.n≠S:=by let nd:=Q.1;show λq=>(ip.mp nd).1 (by rw[<-q];show ed)
  rw[oy ne];show Q.head
 show#[(i++[!(PV.lst F.sc)]).set S (!(PV.lst (stk (F::f::fs)))),P,?_,#[H5,λx z=>?_,#[hr,sh],by simp only[d6]at D ⊢;lia,λx z=>?_]]
 . show aH (bu (l:=Zp F.op) (aR O O O O (by rw[WU];show er)) O O) ?_;show aH (Zr (t:=t) Q ()) ?_;let tt:=NQ (X:=X) (own:=own) (ls:=ls) (hs:=hs) (ws:=ws) (b:=b) (o7:=C) (w:=w) (ps:=ps) j;rw[hb]at tt;have e9:P=zS (ZB (ZH w::ps)):=congrArg (λx=>!(Lc.sh x)) ∅;have W:eE D3 D1 (ZE X own ls hs ws b S C P i)=!(G,ZE X own ls hs ws b S C P i):=by rw[e9];show tt
   show(lR W).trans ?_;let lt:=(fS.mp j).1;show xg (ws:=stk (f::fs)) (p:=ZA F.s) O O j (WG (hc i) ∅) O ?_ ∅ ?_
   . rw[jp lt];show j
   . rw[<-kJ]
 . obtain rfl|z:=d5.mp z
   . show hk
   . show fit x z
 . obtain rfl|z:=d5.mp z
   . rw[hF];show gy _
   . have:=sz x z;lia
def Yp(j:d.ok)(Q:∀mu,iB [ZI c,R (SS own),R (SS ls),R (gY hs),R (SS ws)] mu=!(Zp (d.pv (-mu)),mu++d.cl))(h:St mu b S t (f::fs))(ht:t<=1000):
 ∃i g_ z,Zo (ZE X own ls hs ws b S (zI c) o8 mu)=!(.nx (ZE X own ls hs ws b S (zI c) z i))/\St i b S (t+1) g_/\g_.map Fr.u=vy d ((f::fs).map Fr.u):=by
 have hl:-(fs.map Fr.u)=-fs:=eI _;cases d with
 |row r=>
  let hr:=j;obtain⟨w,ps,e,hw⟩:∃w ps,r.pv=ZB (ZH w::ps)/\jO w=M:=by
   cases r with
   |leaf w ps=>show#[w,ps,O,Hu hr.1]
   |call x n as=>show#["call",_,O,by decide +kernel]
   |wh x c=>cases hr
   |iff x c d=>cases hr
  let(i,z,N,D):=Ej (Q mu) h ht e O (Wp hr) (by rw[show mu++Dr.cl (.row r)=mu from f_ _];show h.h) (by rw[hw];rfl);show#[i,_,z,N,D,?_];show (iM (f.ds++[#[r.pv,r,[]]]),f.kd.u)::fs.map Fr.u=(iM f.ds++[r],f.kd.u)::fs.map Fr.u;rw[iM,fx];rfl
 |wh e=>
  let he:=j;let H1:=h.h.push (R []);by_cases hb:-fs+1<5
  . let(i,z,N,D):=NT (F:=#[-mu,-mu+1,[],.W e]) (Q mu) h ht (w:="while") O O O #[(λd j=>(by cases j)),he] (by intro q;cases q) (by simp[Dr.cl]) H1 (by rw[show jO "while"=G by decide +kernel,Bool.true_and];show kR (by simp only[d6];lia)) (λmu=>O)
    show#[i,_,z,N,D,?_];show _=if -(fs.map Fr.u)+1<5 then _ else _
    rw[hl,dA hb];rfl
  . let(i,z,N,D):=Ej (Q mu) h ht (w:="while") O O (V1 (ds:=[]) he λd j=>by cases j) H1 (by rw[show jO "while"=G by decide +kernel,Bool.true_and];show kf (by simp only[d6];lia))
    show#[i,_,z,N,D,?_];show _=if -(fs.map Fr.u)+1<5 then _ else _
    rw[hl,dQ hb];show (iM (f.ds++[_]),f.kd.u)::fs.map Fr.u=_;rw[iM,fx];rfl
 |iff e=>
  let he:=j;let Fs:=(h.h.push (R [])).push (R []);have D:(mu++[!(PV.lst [])])++[!(PV.lst [])]=mu++Dr.cl (.iff e):=by simp[Dr.cl]
  rw[D,show -(mu++[!(PV.lst [])])=-mu+1 by simp]at Fs;let H1:=Fs.perm (List.Perm.swap _ _ _);by_cases hb:-fs+1<5
  . let(i,z,N,D):=NT (F:=#[-mu,-mu+2,[],.I1 e (-mu+1)]) (Q mu) h ht (w:="if") O O O #[(λd j=>(by cases j)),he] (by intro q;cases q) (by simp[Dr.cl]) H1 (by rw[show jO "if"=G by decide +kernel,Bool.true_and];show kR (by simp only[d6];lia)) (λmu=>O)
    show#[i,_,z,N,D,?_];show _=if -(fs.map Fr.u)+1<5 then _ else _
    rw[hl,dA hb];rfl
  . let(i,z,N,D):=Ej (Q mu) h ht (w:="if") O O (Hw (bs:=[]) (ds:=[]) he (λd j=>by cases j) λd j=>by cases j) H1 (by rw[show jO "if"=G by decide +kernel,Bool.true_and];show kf (by simp only[d6];lia))
    show#[i,_,z,N,D,?_];show _=if -(fs.map Fr.u)+1<5 then _ else _
    rw[hl,dQ hb];show (iM (f.ds++[_]),f.kd.u)::fs.map Fr.u=_;rw[iM,fx];rfl
end
def NZ(hV:Nat)(r:c9):Prop:=r.ok/\r.dep<=10-2*hV/\r.bl+1<=3*2 ^ (4-hV)
def UK.ok(hV:Nat):UK->Prop
 |.root=>hV=0
 |.W e=>0<hV/\XG e
 |.I1 e=>0<hV/\XG e
 |.I2 e b=>0<hV/\XG e/\∀r∈b,NZ hV r
def vz:List U_->Prop
 |[]=>True
 |u::us=>(∀r∈u.1,NZ (-us) r)/\u.2.ok (-us)/\vz us
def UK.cnt:UK->Nat
 |.root=>0
 |.W _=>1
 |.I1 _=>1
 |.I2 _ b=>fZ b+1
def ir:List U_->Nat
 |[]=>0
 |u::us=>fZ u.1+u.2.cnt+ir us
def Ek{rs:List c9}(q:hV<=4)(h:∀r∈rs,NZ hV r):(dy rs).ok/\(dy rs).dep<=11-2*hV/\(dy rs).bl+1<=3*2 ^ (4-hV):=by
 have j:1<=2 ^ (4-hV):=Nat.one_le_two_pow;show#[tE _ λr i=>(h r i).1,zu () _ λr i=>?_,?_]
 . have:=(h r i).2.1;lia
 . have:=Az (n:=3*2 ^ (4-hV)-1) rs λr i=>by have:=(h r i).2.2;lia
   lia
def Jw{k:UK}{rs:List c9}(q:hV+1<=4)(hk:k.ok (hV+1))(h:∀r∈rs,NZ (hV+1) r):NZ hV (k.close rs)/\(k.close rs).cnt=fZ rs+k.cnt:=by
 let(i,N,g3):=Ek q h;have e:2 ^ (4-hV)=2*2 ^ (4-(hV+1)):=by rw[show 4-hV=(4-(hV+1))+1 by lia,Nat.pow_succ,Nat.mul_comm]
 have D:Rows.dep .nil=1:=O;cases k with
 |root=>cases hk
 |W e=>
  show#[#[#[hk.2,i],?_,?_],?_]
  . show (dy rs).dep+1<=_;lia
  . show 1+1<=_;lia
  . show (dy rs).cnt+1=_;rw[nD];rfl
 |I1 e=>
  show#[#[#[hk.2,i,True.intro],?_,?_],?_]
  . show max (dy rs).dep (Rows.dep .nil)+1<=_;lia
  . show 1+(dy rs).bl+0+1<=_;lia
  . show (dy rs).cnt+0+1=_;rw[nD];rfl
 |I2 e b=>
  let(z,b2,b3):=Ek q hk.2.2;show#[#[#[hk.2.1,z,i],?_,?_],?_]
  . show max (dy b).dep (dy rs).dep+1<=_;lia
  . show 1+(dy b).bl+(dy rs).bl+1<=_;lia
  . show (dy b).cnt+(dy rs).cnt+1=fZ rs+(fZ b+1);rw[nD,nD];lia
def WV(F:d.ok)(h:vz i)(hl:-i<=5)(hn:i≠[]):vz (vy d i)/\-(vy d i)<=5/\vy d i≠[]/\ir (vy d i)<=ir i+1:=by
 cases i with
 |nil=>show absurd O hn
 |cons u i=>
  let(rs,k):=u;let(h1,h2,Q):=h;simp only[d6]at hl;have hp:1<=2 ^ (4-(-i)):=Nat.one_le_two_pow;have put:∀r:c9,NZ (-i) r->r.cnt=1->vz ((rs++[r],k)::i)/\-((rs++[r],k)::i)<=5/\((rs++[r],k)::i)≠[]/\ir ((rs++[r],k)::i)<=ir ((rs,k)::i)+1:=λr q hc=>by
   show#[#[λx D=>?_,h2,Q],(),∅,?_]
   . obtain D|D:=fw.mp D
     . show h1 x D
     . rw[gT.mp D];show q
   . show fZ (rs++[r])+k.cnt+ir i<=fZ rs+k.cnt+ir i+1;rw[Ei];have:fZ [r]=r.cnt:=by simp[fZ]
     lia
  have push:∀z:UK,z.ok (-i+1)->z.cnt=1->-i+1<5->vz (([],z)::(rs,k)::i)/\-(([],z)::(rs,k)::i)<=5/\(([],z)::(rs,k)::i)≠[]/\ir (([],z)::(rs,k)::i)<=ir ((rs,k)::i)+1:=λz hk hc j=>by show#[#[λx D=>(by cases D),hk,h1,h2,Q],(),∅,?_];show fZ []+z.cnt+ir ((rs,k)::i)<=_;have:fZ []=0:=O;lia
  cases d with
  |row r=>
   let q:=F;show put r ?_ ?_
   . cases r with
     |leaf w ps=>show#[q,by show 1<=_;lia,by show 1+1<=_;lia]
     |call x n as=>show#[q,by show 1<=_;lia,by show 2+1<=_;lia]
     |wh x c=>cases q
     |iff x c d=>cases q
   . cases r with
     |leaf w ps=>rfl
     |call x n as=>rfl
     |wh x c=>cases q
     |iff x c d=>cases q
  |wh e=>
   by_cases j:-i+1<5
   . rw[vy,dA j];show push (.W e) #[(),F] O j
   . rw[vy,dQ j];show put (.wh e .nil) #[#[F,True.intro],by show 1+1<=_;lia,by show 1+1<=_;lia] O
  |iff e=>
   by_cases j:-i+1<5
   . rw[vy,dA j];show push (.I1 e) #[(),F] O j
   . rw[vy,dQ j];show put (.iff e .nil .nil) #[#[F,True.intro,True.intro],by show max 1 1+1<=_;lia,by show 1+0+0+1<=_;lia] O
def WZ(h:vz j)(F:-j<=5)(hn:-j>1):vz (yP j)/\-(yP j)<=5/\yP j≠[]/\ir (yP j)<=ir j+1:=by
 match j,h,F,hn with
 |(rs,k)::(i,z)::j,h,F,hn=>
  let(h1,h2,N,h4,h5):=h;simp only[d6]at F h1 h2;have low:vz ((i++[k.close rs],z)::j)/\-((i++[k.close rs],z)::j)<=5/\((i++[k.close rs],z)::j)≠[]/\ir ((i++[k.close rs],z)::j)<=ir ((rs,k)::(i,z)::j)+1:=by
   let(c1,c2):=Jw () h2 h1;show#[#[λx D=>?_,h4,h5],∅,∅,?_]
   . obtain D|D:=fw.mp D
     . show N x D
     . rw[gT.mp D];show c1
   . show fZ (i++[k.close rs])+z.cnt+ir j<=fZ rs+k.cnt+(fZ i+z.cnt+ir j)+1;rw[Ei];have:fZ [k.close rs]=(k.close rs).cnt:=by simp[fZ]
     lia
  cases k with
  |root=>cases h2
  |W e=>show low
  |I2 e b=>show low
  |I1 e=>
   show#[#[λx D=>(by cases D),#[h2.1,h2.2,h1],N,h4,h5],F,(by intro q;cases q),?_];show fZ []+(fZ rs+1)+ir ((i,z)::j)<=fZ rs+1+ir ((i,z)::j)+1;have:fZ []=0:=O;lia
def uw:List U_->List Int->List Dr->List U_
 |us,c::cs,d::ds=>uw (qC us c d) cs ds
 |us,_,_=>us
def Yq(z:d.ok)(h:vz us)(i:-us<=5)(j:us≠[]):vz (qC us c d)/\-(qC us c d)<=5/\qC us c d≠[]/\ir (qC us c d)<=ir us+1:=by
 unfold qC;split
 . rename_i q;let h2:=(iX _ _▸q).2;let D:=of_decide_eq_true h2;show WZ h i ()
 . show WV z h i j
theorem N5:∀(cs:List Int)(ds:List Dr)(i:List U_),(∀d∈ds,d.ok)->vz i->-i<=5->i≠[]->vz (uw i cs ds)/\-(uw i cs ds)<=5/\uw i cs ds≠[]/\ir (uw i cs ds)<=ir i+-cs
 |[],ds=>λi _ h q j=>#[h,q,j,eK _]
 |c::cs,[]=>λi _ h q j=>#[h,q,j,oz _ _]
 |c::cs,d::ds=>λi z h q j=>by let(g1,F,g3,g4):=Yq (z d ed) h q j;let(Q,D,W,k4):=N5 cs ds (qC i c d) (λx N=>z x (e_ _ N)) g1 F g3;show#[Q,D,W,?_];simp only[d6];show ir (uw (qC i c d) cs ds)<=_;lia
def Cj(u v:U_):U_:=(v.1++[u.2.close u.1],v.2)
def Bc:List U_->List c9
 |[]=>[]
 |u::us=>(us.foldl Cj u).1
theorem Jx:∀(i:List U_)(u:U_),vz (u::i)->-(u::i)<=5->(∀r∈Bc (u::i),NZ 0 r)/\fZ (Bc (u::i))<=ir (u::i)
 |[]=>λu h _=>#[h.1,by show fZ u.1<=fZ u.1+u.2.cnt+0;lia]
 |v::i=>λu h D=>by
  let(h1,h2,z,N,F):=h;simp only[d6]at D h1 h2;let(c1,Q):=Jw () h2 h1;let q:=Jx i (Cj u v) #[λx j=>by
   obtain j|j:=fw.mp j
   . show z x j
   . rw[gT.mp j];show c1,N,F] ∅
  show#[q.1,gL q.2 ?_];show fZ (v.1++[u.2.close u.1])+v.2.cnt+ir i<=fZ u.1+u.2.cnt+(fZ v.1+v.2.cnt+ir i);rw[Ei];have:fZ [u.2.close u.1]=(u.2.close u.1).cnt:=by simp[fZ]
  lia
theorem Jy:∀(fs:List Fr)(f:Fr),Holds mu (FS (f::fs) [])->(∀x∈f::fs,x.fit)->iS b (f::fs)->∃F:Fr,Holds mu (FS [F] [])/\F.fit/\F.n=b/\iM F.ds=Bc ((f::fs).map Fr.u)
 |[]=>λf h i hs=>#[f,h,i f ed,hs.2,O]
 |g::fs=>λf h i hs=>by
  let z:=hs.1;let H:=Px z h;let(F,W,D,k3,Q):=Jy fs #[g.n,g.s,g.ds++[f.cls],g.kd] H (λx q=>by
   obtain rfl|q:=d5.mp q
   . let(g1,N):=i g (by simp);show#[λd j=>?_,N];obtain j|j:=fw.mp j
     . show g1 d j
     . rw[gT.mp j];show Ra (i f ed) z
   . show i x ∅) (Bb hs.2)
  show#[F,W,D,k3,Q.trans ?_];show ((fs.map Fr.u).foldl Cj (Fr.u #[g.n,g.s,g.ds++[f.cls],g.kd])).1=((fs.map Fr.u).foldl Cj (Cj f.u g.u)).1;have e:Fr.u #[g.n,g.s,g.ds++[f.cls],g.kd]=Cj f.u g.u:=by show (iM (g.ds++[f.cls]),g.kd.u)=(iM g.ds++[f.kd.u.close (iM f.ds)],g.kd.u);rw[iM,fx,List.map_singleton,Zn]
  rw[e]
section
variable {X:PV}{own ls:List Str}{hs:Hd}{ws:List Str}
def W1(hd:d.ok)(er:∀mu,iB [ZI c,R (SS own),R (SS ls),R (gY hs),R (SS ws)] mu=!(Zp (d.pv (-mu)),mu++d.cl))(h:St mu b S t fs)(ht:t<=1000):
 ∃i g_ D,Fm (ZE X own ls hs ws b S (zI c) o8 mu)=!(.nx (ZE X own ls hs ws b S (zI c) D i))/\St i b S (t+1) g_/\g_.map Fr.u=qC (fs.map Fr.u) c d:=by
 let j:=WJ (X:=X) (own:=own) (ls:=ls) (hs:=hs) (ws:=ws) (b:=b) (o8:=o8) (c:=c) h.h.head;have q:qC (fs.map Fr.u) c d=if ((c%8==0)&&decide ((-fs:Int)>1))=G then yP (fs.map Fr.u) else vy d (fs.map Fr.u):=by unfold qC;rw[eI]
 cases Q:((c%8==0)&&decide ((-fs:Int)>1)) with
 |true=>
  rw[Q]at j q;let h2:=(iX _ _▸Q).2;let z:=of_decide_eq_true h2
  match fs,h,z,j,q with
  |f::g::fs,h,z,j,q=>
   let(i,g_,F,N,W):=Yn h;show#[i,g_,o8,(lR j).trans F,N,W.trans ∅]
  |[f],h,z,j,q=>simp at z
  |[],h,z,j,q=>simp at z
 |false=>
  rw[Q]at j q
  match fs,h,j,q with
  |f::fs,h,j,q=>
   let(i,g_,D,F,N,W):=Yp hd er h ht;show#[i,g_,D,(lU j).trans F,N,W.trans ∅]
  |[],h,j,q=>show h.sh.elim
theorem Rf(ho:Sh own)(i:Sh ls)(hh:∀h∈hs,-h.1<=1000/\-h.2<=26/\FN.fn h.1):∀(cs:List Int),∃ds:List Dr,(∀d∈ds,d.ok)/\∀(X:PV)(b S t:Nat)(o7 o8:Option Lc)(mu:Mu)(fs:List Fr),St mu b S t fs->t+-cs<=1000->
 ∃j g_ N z,eN (aC 7) Fm (cs.map PV.int) (ZE X own ls hs ws b S o7 o8 mu)=!(.nx (ZE X own ls hs ws b S N z j))/\St j b S (t+-cs) g_/\g_.map Fr.u=uw (fs.map Fr.u) cs ds
 |[]=>#[[],λd q=>(by cases q),λX b S t o7 o8 mu fs h _=>#[mu,fs,o7,o8,O,h,O]]
 |c::cs=>by
  let(d,q,er):=V_ c ho i hs ws hh;let(ds,D,ih):=Rf ho i hh cs;show#[d::ds,λx W=>?_,λX b S t o7 o8 mu fs h hl=>?_]
  . obtain rfl|W:=d5.mp W
    . show q
    . show D x W
  . simp only[d6]at hl;let(i7,F,q8,e1,e2,e3):=W1 q er h ();let(Q,W_,N,z,k1,k2,k3):=ih X b S (t+1) (zI c) q8 i7 F e2 ();show#[Q,W_,N,z,gw O e1 k1,?_,k3.trans (by rw[e3];rfl)];rw[show t+-(c::cs)=t+1+-cs by simp only[d6];omega];show k2
def Rg(ho:Sh own)(ja:Sh ls)(hh:∀h∈hs,-h.1<=1000/\-h.2<=26/\FN.fn h.1)(cs:List Int)(hc:-cs<=900):∃rs:Rows,rs.ok/\rs.dep<=11/\rs.bl<=47/\rs.cnt<=-cs/\∀mu,∃j,sJ [R (cs.map PV.int),R (SS own),R (SS ls),R (gY hs),R (SS ws)] mu=!(Zp (R rs.pvs),j):=by
 let(ds,xE,lp):=Rf ho ja hh cs;let(g1,g2,g3,g4):=N5 cs ds [([],.root)] xE #[λx N=>(by cases N),O,True.intro] () ();obtain⟨u,D,eu⟩:∃u D,uw [([],.root)] cs ds=u::D:=by
  cases h:uw [([],.root)] cs ds with
  |nil=>show absurd h g3
  |cons u D=>show#[u,D,O]
 rw[eu]at g1 g2 g4;let(k1,k2):=Jx D u g1 g2;let(r1,r2,r3):=Ek () k1;show#[dy (Bc (u::D)),r1,r2,?_,?_,λmu=>?_]
 . have:3*2 ^ (4-0)=48:=by decide
   lia
 . rw[nD];have:ir [(([],.root):U_)]=0:=O;lia
 . let b:_:=-mu;let q:Mu:=mu++[!(R [])];let i:Mu:=q++[!(R [ZA b])];let z:Mu:=i++[!(R [ZA (-q)])];let f0:Fr:=#[b,-q,[],.root];let X:PV:=R (cs.map PV.int);have H:Holds z ((-i,R [ZA (-q)])::(-q,R [ZA b])::(b,R [])::[]):=((Holds.push (L:=[]) #[oQ,λx N=>(by cases N)] _).push _).push _;have st:St z b (-i) 0 [f0]:=#[H.perm ((List.Perm.swap _ _ _).cons _),λx N=>(by
    rw[gT.mp N];show#[λd W=>(by cases W),True.intro]),#[O,O],(by simp),λx N=>(by
    rw[gT.mp N];show eK _)]
   let(j,g_,p7,p8,e1,Q,e3):=lp X b (-i) 0 J J z [f0] st ();obtain⟨f,fs,ef⟩:∃f fs,g_=f::fs:=by
    cases g_ with
    |nil=>show Q.sh.elim
    |cons f fs=>show#[f,fs,O]
   subst ef;let(F,c1,c2,c3,c4):=Jy fs f Q.h.tail Q.fit Q.sh;let e4:=e3.trans eu;rw[e4]at c4;rw[mR]at c1;have Xs:fQ j 40 (ZA b)=R (dy (Bc (u::D))).pvs:=by
    rw[<-c4,<-c3];show Ci c2.1 c1.head (c1.tail.tail.sub ?_) λd W=>?_
    . show(mM _ _).trans (j1 _ _)
    . have:=(k1 d.r (by rw[<-c4];show fy.mpr #[d,W,O])).2.1;lia
   show#[j.map λ_=>J,?_];let A:Mu->Option Lc->Option Lc->Option Lc->Option Lc->Ev:=λm o5 o6 o7 o8=>#[[zS X,zL (SS own),zL (SS ls),zL (gY hs),zL (SS ws),o5,o6,o7,o8],m];show aO (Y:=A (j.map λ_=>J) (zS (ZA b)) (zS (ZA (-i))) p7 p8) ?_;show aH O (aH O (aH (eO (dC O O) e1) (cT (X8 (Y1:=ZE X own ls hs ws b (-i) p7 p8 j) O Xs))))
end
theorem Bd:∀ps:List PV,(∀p∈ps,f p p=!G)->uQ f ps ps=!G
 |[]=>λ_=>rfl
 |p::ps=>λh=>by show (f p p).bind _=_;rw[h p ed,eH,Bd ps λq i=>h q (e_ _ i)];rfl
def mU(h:∀p∈ps,dH n p p=!G):dH (n+1) (ZB ps) (ZB ps)=!G:=by show (uQ (dH n) ps ps).map _=_;rw[Bd ps h];rw[kg];rfl
def jr(h:∀p∈ps,dH n p p=!G):dH (n+1) (R ps) (R ps)=!G:=by show (if -ps=-ps then uQ (dH n) ps ps else !M)=_;rw[dA O,Bd ps h]
mutual
theorem Rh:∀(p:PV)(n:Nat),di p=G->vo p<=n->dH n p p=!G
 |.non,n,_,h=>by obtain⟨m,rfl⟩:∃m,n=m+1:=#[n-1,by simp only[vo]at h;lia];rfl
 |.bl x,n,_,h=>by obtain⟨m,rfl⟩:∃m,n=m+1:=#[n-1,by simp only[vo]at h;lia];show some (x==x)=_;rw[kg]
 |ZI x,n,_,h=>by obtain⟨m,rfl⟩:∃m,n=m+1:=#[n-1,by simp only[vo]at h;lia];show some (x==x)=_;rw[kg]
 |ZH x,n,_,h=>by obtain⟨m,rfl⟩:∃m,n=m+1:=#[n-1,by simp only[vo]at h;lia];show some (x==x)=_;rw[kg]
 |ZB ps,n,f,h=>by simp only[vo]at h;obtain⟨m,rfl⟩:∃m,n=m+1:=#[n-1,()];show mU (ah ps m () ())
 |R _,n,f,_=>by simp[di]at f
 |.dk _ _,n,f,_=>by simp[di]at f
 |.dt _ _,n,f,_=>by simp[di]at f
 |.obj _ _ _,n,f,_=>by simp[di]at f
 |.df _ _,n,f,_=>by simp[di]at f
 |.dtf _ _,n,f,_=>by simp[di]at f
 |.dx _ _ _,n,f,_=>by simp[di]at f
 |ZA _,n,f,_=>by simp[di]at f
theorem ah:∀(ps:List PV)(n:Nat),cw ps=G->cr ps<=n->∀p∈ps,dH n p p=!G
 |[]=>λn _ _ p i=>by cases i
 |q::ps=>λn f h p i=>by
  simp only[cw,iX]at f;simp only[cr]at h;obtain e|i:=d5.mp i
  . rw[e];show Rh q n f.1 ()
  . show ah ps n f.2 () p i
end
def ig{f:PV->Prop}(h:f p)(t:∀q∈ps,f q):∀q∈p::ps,f q:=λq i=>by
 obtain rfl|i:=d5.mp i
 . show h
 . show t q i
def Ck{f:PV->Prop}:∀q∈([]:List PV),f q:=λq i=>by cases i
def jl(h:fl p)(i:20<=n):dH n p p=!G:=Rh p n h.1 (gL h.2 i)
mutual
theorem Yr:∀(r:c9)(n:Nat),r.ok->2*r.dep+22<=n->dH n r.pv r.pv=!G
 |.leaf w ps=>λn ok h=>by obtain⟨m,rfl⟩:∃m,n=m+1:=#[n-1,()];show mU (ig (jl iZ ()) (ah ps m ok.2.fls.1 (by have:=ok.2.fls.2;lia)))
 |.call b x i=>λn ok h=>by obtain⟨m,rfl⟩:∃m,n=m+2:=#[n-2,()];show mU (ig () (ig (by let(x,e,_):=ok.1;rw[e];show jl iZ ()) (ig (jl iZ ()) (ig (jr (ah i m (Gm ok.2.2.1).1 (by have:=(Gm ok.2.2.1).2;lia))) Ck))))
 |.wh e b=>λn ok h=>by simp only[c9.dep]at h;obtain⟨m,rfl⟩:∃m,n=m+2:=#[n-2,()];show mU (ig () (ig (jl ok.1.fl ()) (ig (jr (aI b m ok.2 ())) Ck)))
 |.iff e b c=>λn ok h=>by simp only[c9.dep]at h;obtain⟨m,rfl⟩:∃m,n=m+2:=#[n-2,()];show mU (ig () (ig (jl ok.1.fl ()) (ig (jr (aI b m ok.2.1 ())) (ig (jr (aI c m ok.2.2 ())) Ck))))
theorem aI:∀(rs:Rows)(n:Nat),rs.ok->2*rs.dep+20<=n->∀p∈rs.pvs,dH n p p=!G
 |.nil=>λn _ _ p i=>by cases i
 |.cons r rs=>λn ok h p i=>by
  simp only[Rows.dep]at h;obtain e|i:=d5.mp i
  . rw[e];show Yr r n ok.1 ()
  . show aI rs n ok.2 () p i
end
structure Pg.fine(P:Pg):Prop where
 ok:P.ok
 bx:fls P.boxes
 gr:fls P.grants
 rk:∀f∈P.fns,fl f.rank
 dd:P.rows.dep<=11
 fd:∀f∈P.fns,f.rows.dep<=11
def Xt{P:Pg}(h:P.fine):fB P.pv P.pv=zS (.bl G):=by
 have e:dH 150 P.pv P.pv=!G:=by show mU (ig (jr (ah _ 148 h.bx.1 (by have:=h.bx.2;lia))) (ig (jr (ah _ 148 h.gr.1 (by have:=h.gr.2;lia))) (ig (jr λp z=>?_) (ig (jr (aI P.rows 148 h.ok.rw (by have:=h.ok.dp;lia))) Ck))));let(f,i,rfl):=fy.mp z;let(xs,ex,_):=h.ok.pm f i;let(D,F):=h.ok.fn f i;show mU (ig (jl iZ ()) (ig (jl (h.rk f i) ()) (ig (jr λq j=>?_) (ig (jr (aI f.rows 146 D ())) Ck))));rw[ex]at j;let(x,_,rfl):=fy.mp j;show mU (ig (jl iZ ()) ())
 show (dH 150 P.pv P.pv).map _=_;rw[e];rfl
def V2(f:α->β)(xs:List α)(lo hi st:Option Int):pk (xs.map f) lo hi st=(pk xs lo hi st).map f:=by unfold pk;rw[eI,List.map_filterMap];congr 1;funext i;rw[fI]
def V3(xs:List α)(N:0<=a)(j:0<n):(-(pk xs (!a) J (!n)):Int)*n<=-xs+n-1:=by
 have l:-(pk xs (!a) J (!n))<=-(sliceRange (sliceBounds (!a) J (!n) xs.length).1 (sliceBounds (!a) J (!n) xs.length).2.1 (sliceBounds (!a) J (!n) xs.length).2.2):=List.length_filterMap_le _ _;generalize (-(pk xs (!a) J (!n)))=z at l ⊢;have q:(sliceBounds (!a) J (!n) (-xs)).2.1=(-xs:Int):=by show (if n>0 then (-xs:Int) else -1)=_;rw[dA j]
 have D:(sliceBounds (!a) J (!n) (-xs)).2.2=n:=O;have F:0<=(sliceBounds (!a) J (!n) (-xs)).1:=by show 0<=(let i:=if a<0 then a+-xs else a;if n>0 then max 0 (min i (-xs)) else max (-1) (min i ((-xs:Int)-1)));rw[dA j];lia
 unfold sliceRange at l;rw[eI,ik,q,D,dA j]at l;generalize (sliceBounds (!a) J (!n) (-xs)).1=s at F l
 split at l
 . let h1:=Int.ediv_mul_le ((-xs:Int)-s+n-1) (b:=n) ();have h2:0<=((-xs:Int)-s+n-1)/n:=Int.ediv_nonneg () ();have Q:(z:Int)*n<=((-xs:Int)-s+n-1)/n*n:=Int.mul_le_mul_of_nonneg_right () ();lia
 . have:(z:Int)=0:=()
   rw[this,Int.zero_mul];lia
def oV{α:Type}(xs:List α)(lo hi:Option Int):List α:=(xs.drop (HT.sIx (-xs) 0 lo)).take (HT.sIx (-xs) (-xs) hi-HT.sIx (-xs) 0 lo)
def Cm(f:α->PV)(xs:List α)(lo hi:Option Int):rm (xs.map f) lo hi=(oV xs lo hi).map f:=by unfold rm oV;rw[eI,List.map_take,List.map_drop]
def N6(xs:List α)(lo hi:Option Int):-(oV xs lo hi)<=-xs:=by unfold oV;rw[j_,mS];lia
def Em{lo hi:Option Int}(h:x∈oV xs lo hi):x∈xs:=List.mem_of_mem_drop (List.mem_of_mem_take h)
abbrev HE(c:Int)(nm:List Str)(acc:List PV)(o3 o4:Option Lc)(mu:Mu):Ev:=#[[zI c,zL (SS nm),zO acc,o3,o4],mu]
def wE(j:Int)(i:0<=j)(h:j<4):∃q:Int,0<q/\q<10000/\qG (R [ZI 75,ZI 375,ZI 1875,ZI 9375]) (ZI j)=zI q:=by
 obtain rfl|rfl|rfl|rfl:=(by omega:j=0\/j=1\/j=2\/j=3)
 . show#[75,by decide,by decide,O]
 . show#[375,by decide,by decide,O]
 . show#[1875,by decide,by decide,O]
 . show#[9375,by decide,by decide,O]
def nl:∀n,PV.lst ps≠ZA n:=λn h=>by cases h
def Cp{lo hi:OF}(h1:f Y=!(l,Y1))(hl:l.pv=R ps)(h2:lo Y1=!(a,Y2))(h3:hi Y2=!(b,Y3)):mF f lo hi Y=!(Zs (R (rm ps a b)),Y3):=by unfold mF;rw[h1,eH,h2,eH,h3,eH,hl]
def oW(h:f Y=!(l,Y1))(hl:l.pv=ZI i):cM f Y=!(!i,Y1):=by unfold cM;rw[h,eH,hl]
def XA(z:0<=i)(h1:i< -ns):∃c,ns[i.toNat]?=!c/\qG (R (SS ns)) (ZI i)=zT c:=by let(x,e,j):=uT z (by rw[tB];show h1);rw[fI]at j;let(c,q,rfl):=Option.map_eq_some_iff.mp j;show#[c,q,by show (fO (SS ns) i).map _=_;rw[e];rfl]
def XB(xs:List α)(j:Nat)(D:0<=z)(q:z<5):-(oV xs (!(10+4*(j:Int))) (!(10+4*(j:Int)+z)))<=4:=by unfold oV;rw[j_,mS];have e1:HT.sIx (-xs) 0 (!(10+4*(j:Int)))=min (10+4*j) (-xs):=HT.sIx_nat (-xs) 0 (10+4*j);obtain⟨y,rfl⟩:∃y:Nat,z=y:=#[z.toNat,()];have e2:HT.sIx (-xs) (-xs) (!(10+4*(j:Int)+(y:Int)))=min (10+4*j+y) (-xs):=HT.sIx_nat (-xs) (-xs) (10+4*j+y);rw[e1,e2];lia
def Ys(W:0<=j)(h1:j<4)(hl:-nm=26):∃h:Str×List Str,nm[(6+j).toNat]?=!h.1/\(-h.2<=4/\∀x∈h.2,x∈nm)/\∃z:Int,∀(acc:List PV)(o4:Option Lc)(mu:Mu),-acc<=100->vM (HE c nm acc (zI j) o4 mu)=!(.nx (HE c nm (acc++[ZB [ZH h.1,R (SS h.2)]]) (zI j) (zI z) mu)):=by
 let(q,F,hq1,eq):=wE j W h1;let(x,Q,ex):=XA (ns:=nm) (i:=6+j) () ();let z:Int:=c/q%5;let xs:_:=oV nm (!(10+4*j)) (!(10+4*j+z));show#[(x,xs),Q,#[by
  obtain⟨y,rfl⟩:∃y:Nat,j=y:=#[j.toNat,()];show XB nm y () (),λy N=>Em N],z,λacc o4 mu ha=>?_]
 let D:_:=HE c nm acc (zI j) (zI z) mu;show aH (bu (bC (bC O (dG O O O O nl eq) (gU F ())) O ()) O O) ?_;show pR O (dm (ls:=[Zp (ZH x),Zs (R (SS xs))]) (aA (dG O O O O nl ex) (aA (Y1:=D) ?_ O)) O O) O O () O;have em:gM (ZI 4) (ZI j)=zI (4*j):=Mz () ();have e1:au bf (bh 10) (au gM (bh 4) (aa 3)) D=!(Zp (ZI (10+4*j)),D):=bC O () O;have e2:au bf vF (aa 4) D=!(Zp (ZI (10+4*j+z)),D):=bC e1 O O;show(Cp O O () (oW e2 O)).trans ?_;rw[Cm]
theorem N7(hl:-nm=26):∀(i:List Int),(∀j∈i,0<=j/\j<4)->∃hs:Hd,hs.map (λh=>!h.1)=i.map (λj=>nm[(6+j).toNat]?)/\(∀h∈hs,h.1∈nm/\-h.2<=4/\∀x∈h.2,x∈nm)/\∀(acc:List PV)(o3 o4:Option Lc)(mu:Mu),-acc+-i<=100->∃F Q,eN (aC 3) vM (i.map PV.int) (HE c nm acc o3 o4 mu)=!(.nx (HE c nm (acc++gY hs) F Q mu))
 |[]=>λ_=>#[[],O,λh N=>(by cases N),λacc o3 o4 mu _=>#[o3,o4,by simp[eN]]]
 |j::i=>λh=>by
  let(h0,h1):=h j ed;let(d,D,sB,z,e1):=Ys h0 h1 hl;let(hs,W,N,ih):=N7 hl i λx q=>h x (e_ _ q);show#[d::hs,by rw[fU,fU,W,D],λx q=>?_,λacc o3 o4 mu ha=>?_]
  . obtain rfl|q:=d5.mp q
    . show#[g7 D,sB]
    . show N x q
  . simp only[d6]at ha;let(F,Q,e2):=ih (acc++[ZB [ZH d.1,R (SS d.2)]]) (zI j) (zI z) mu ∅;show#[F,Q,gw O (e1 acc o4 mu ()) (e2.trans ?_)];simp[gY]
def Yt(c:Int)(W:-nm=26)(Q:∀i j:Nat,6<=i->i<j->j<10->nm[i]?≠nm[j]?):∃hs:Hd,-hs<=4/\(hs.map (·.1)).Nodup/\(∀h∈hs,h.1∈nm/\-h.2<=4/\∀x∈h.2,x∈nm)/\∀mu,vd [ZI c,R (SS nm)] mu=!(Zs (R (gY hs)),mu):=by
 let(hs,l1,F,lp):=N7 W ((List.range (c/15%5).toNat).map λi:Nat=>(0+(i:Int))) λj hj=>by let(i,hi,rfl):=fy.mp hj;have:=List.mem_range.mp hi;lia
 let l2:=congrArg List.length l1;simp only[eI,ik]at l2;have D:(hs.map (·.1)).Nodup:=by
  have n1:(hs.map λh=>!h.1).Nodup:=by rw[l1,im];show List.pairwise_map.mpr (List.Pairwise.imp_of_mem (λ{a b} _ hb l q=>?_) List.pairwise_lt_range);have:=List.mem_range.mp hb;show Q (6+(0+(a:Int))).toNat (6+(0+(b:Int))).toNat () () () q
  show List.pairwise_map.mpr ((List.pairwise_map.mp n1).imp λq e=>q (congrArg some e))
 show#[hs,(),D,F,λmu=>?_];let(z,N,e):=lp [] J J mu ∅;rw[<-Eh,hJ]at e;show aO (Y:=#[[zI c,zL (SS nm),J,z,N],mu]) ?_;show aH O (aH (eO ?_ e) O);show mY () O () ()
abbrev rk:List PV:=[.non,ZH "low",ZH "high"]
def XI(a:Int):∃r,fl r/\qG (R rk) (ZI (a%3))=zS r:=by
 let i:=j6 a (b:=3) ();let h1:=ku a (b:=3) ();generalize a%3=r at i h1;obtain rfl|rfl|rfl:=(by omega:r=0\/r=1\/r=2)
 . show#[.non,Nk,O]
 . show#[ZH "low",iZ,O]
 . show#[ZH "high",iZ,O]
def V4(h:fl r)(j:vo r<=1):fl (ZB [ZH x,ZI i,r]):=by
 show#[?_,?_]
 . simp[di,cw,h.1]
 . simp only[vo,cr];lia
def V5(a:Int):∃r,(fl r/\vo r<=1)/\qG (R rk) (ZI (a%3))=zS r:=by
 let i:=j6 a (b:=3) ();let h1:=ku a (b:=3) ();generalize a%3=r at i h1;obtain rfl|rfl|rfl:=(by omega:r=0\/r=1\/r=2)
 . show#[.non,#[Nk,eK _],O]
 . show#[ZH "low",#[iZ,eK _],O]
 . show#[ZH "high",#[iZ,eK _],O]
abbrev XO:EF:=aX Ec
theorem Ri(c:Int):∀(xs:List Str)(i:Nat),∃bs:List PV,fls bs/\-bs=-xs/\∀(j o1:Option Lc)(mu:Mu)(acc:List PV),-acc+-xs<=1000->
 dF ma bB XO (Ax i (SS xs)) #[[j,o1,zL rk,zI c],mu] acc=!(acc++bs,mu)
 |[]=>λi=>#[[],uD,O,λj o1 mu acc _=>by simp[Ax,dF]]
 |x::xs=>λi=>by let(r,(D,N),z):=V5 (c/3072+(i:Nat));let(bs,fb,Q,F):=Ri c xs (i+1);show#[ZB [ZH x,ZI 0,r]::bs,iR (V4 D N) fb,by simp[Q],λj o1 mu acc q=>?_];simp only[d6]at q;let E:Ev:=#[[zI (i:Nat),zT x,zL rk,zI c],mu];show fY O (dm (aA O (aA O (aA (Y1:=E) (dG O O (bC (bC (bC O O (gU () ())) O O) O (dI ())) O nl z) O))) O O) () ((F _ _ mu (acc++[ZB [ZH x,ZI 0,r]]) ∅).trans ?_);simp
abbrev XT:EF:=aX Ee
theorem Rj(c:Int):∀(xs:List Str),∃bs:List PV,fls bs/\-bs=-xs/\∀(i:Option Lc)(mu:Mu)(acc:List PV),-acc+-xs<=1000->
 dF (aC 0) bB XT (SS xs) #[[i,zI c,zL rk],mu] acc=!(acc++bs,mu)
 |[]=>#[[],uD,O,λi mu acc _=>by simp[dF]]
 |x::xs=>by let(r,(N,z),D):=V5 (c/9216);let(bs,fb,F,q):=Rj c xs;show#[ZB [ZH x,ZI (1+c/48%8),r]::bs,iR (V4 N z) fb,by simp[F],λi mu acc j=>?_];simp only[d6]at j;let E:Ev:=#[[zT x,zI c,zL rk],mu];show fY O (dm (aA O (aA (bC O (bC (bC O O (gU () ())) O ()) O) (aA (Y1:=E) (dG O O (bC (bC O O (gU () ())) O (dI ())) O nl D) O))) O O) () ((q _ mu (acc++[ZB [ZH x,ZI (1+c/48%8),r]]) ∅).trans ?_);simp
theorem Rk:∀(xs:List Int)(o:Option Lc)(mu:Mu)(acc:List PV),-acc+-xs<=1000->dF (aC 0) bB D_ (xs.map PV.int) #[[o],mu] acc=!(acc++(xs.map λx=>x%1000000007).map PV.int,mu)
 |[]=>λo mu acc _=>by simp[dF]
 |x::xs=>λo mu acc i=>by simp only[d6]at i;show fY (Y2:=#[[zI x],mu]) O () () ((Rk xs _ mu (acc++[ZI (x%1000000007)]) ∅).trans ?_);simp
theorem Rm:∀(xs:List Str)(o:Option Lc)(acc:List PV),-acc+-xs<=1000->dF (aC 0) bB D7 (SS xs) #[[o],mu] acc=!(acc++xs.map (λx=>ZB [ZH x,.non]),mu)
 |[]=>λo acc _=>by simp[dF]
 |x::xs=>λo acc i=>by simp only[d6]at i;show fY (Y2:=#[[zT x],mu]) O O () ((Rm xs _ (acc++[ZB [ZH x,.non]]) ∅).trans ?_);simp
abbrev QE(S:PV)(c:Int)(nm nb ls:List Str)(hs:Hd)(bx:List PV)(l8 l9:Lc)(fns:List PV)(kL mh mi:Option Lc)(mu:Mu):Ev:=#[[zS S,zI c,zL (SS nm),zL rk,zL (SS nb),zL (SS ls),zL (gY hs),zO bx,!l8,!l9,zO fns,kL,mh,mi],mu]
abbrev v4:List Str:=["somebody"]
section
variable {S:PV}{c:Int}{nm nb ls:List Str}{hs:Hd}{bx:List PV}{cs:List Int}
def V6{lo hi st:OF}(h1:f Y=!(l,Y1))(hl:l.pv=R ps)(h2:lo Y1=!(a,Y2))(h3:hi Y2=!(b,Y3))(h4:st Y3=!(!n,Y4))(hn:0<n):DN f lo hi st Y=!(Zs (R (pk ps a b (!n))),Y4):=by unfold DN;rw[h1,eH,h2,eH,h3,eH,h4,eH,hl];show (if some n≠!0 then _ else _)=_;rw[dA ∅]
structure Zu(m:Nat)(f:Fn):Prop where
 ok:f.rows.ok
 dp:f.rows.dep<=11
 bl:f.rows.bl<=47
 ct:f.rows.cnt*m<=44
 pm:∃xs:List Str,f.params=xs.map (λx=>.tup [.str x,.non])/\-xs<=4/\Sh xs
 rk:fl f.rank
def v8(h:l8.pv=p):aa 8 (QE S c nm nb ls hs bx l8 l9 fns kL mh mi mu)=!(Zp p,QE S c nm nb ls hs bx (Zp p) l9 fns kL mh mi mu):=by subst h;cases l8<;>rfl
def v9(h:l9.pv=p):aa 9 (QE S c nm nb ls hs bx l8 l9 fns kL mh mi mu)=!(Zp p,QE S c nm nb ls hs bx l8 (Zp p) fns kL mh mi mu):=by subst h;cases l9<;>rfl
def Fu:au bf (eB cz (aj (aa 6) ao)) (bh 1) (QE S c nm nb ls hs bx l8 l9 fns kL mh mi mu)=!(Zp (ZI (-(gY hs)+1)),QE S c nm nb ls hs bx l8 l9 fns kL mh mi mu):=rfl
def XU(mn:Sh nb)(ja:Sh ls)(Q:∀h∈hs,-h.1<=100/\-h.2<=4/\Sh h.2/\FN.fn h.1)(N:h∈hs)(l4:-hs<=4)(qh:-nb<=26)(hc:-cs<=40):∃f:Fn,Zu (-hs+1) f/\f.name=h.1/\∀(W F:Lc)(i:List PV)(q:Option Lc)(mu:Mu),W.pv=R (cs.map PV.int)->F.pv=R (SS v4)->-i<=100->
 ∃z no,vS (QE S c nm nb ls hs bx W F i (zI (j:Nat)) (zS (ZB [ZH h.1,R (SS h.2)])) q mu)=!(.nx (QE S c nm nb ls hs bx (Zp (R (cs.map PV.int))) (Zp (R (SS v4))) (i++[f.pv]) (zI (j:Nat)) (zS (ZB [ZH h.1,R (SS h.2)])) no z)):=by
 let n:Int:=-(gY hs)+1;let D:_:=pk cs (!(j:Int)) J (!n);have hn:0<n:=by show (0:Int)< -(gY hs)+1;lia
 let kT:=V3 cs (a:=(j:Int)) () hn;let own:_:=nb++[h.1]++h.2;let(h1,XW,h3,_):=Q h N;have ln:n=-hs+1:=by show (-(gY hs):Int)+1=_;rw[eI]
 have l2:-D*(-hs+1)<=44:=by
  have e:((-D*(-hs+1):Nat):Int)=(-D:Int)*n:=by rw[ln,Int.natCast_mul];rfl
  have:(-D:Int)*n<=-cs+n-1:=kT;lia
 have l3:-D<=-D*(-hs+1):=Nat.le_mul_of_pos_right _ ();let(rs,r1,r2,r3,r4,er):=Rg (Gu (Gu mn (xO h1 Ay)) h3) ja (λh N=>#[by have:=(Q h N).1;lia,by have:=(Q h N).2.1;lia,(Q h N).2.2.2]) D ();let(r,fr,XX):=XI (c+(j:Nat));let f:Fn:=#[h.1,r,h.2.map (λx=>ZB [ZH x,.non]),rs];show#[f,#[r1,r2,r3,gL (Nat.mul_le_mul_right _ r4) l2,#[h.2,O,XW,h3],fr],O,λW F i q mu h8 h9 hf=>?_];let(z,er):=er mu;let ZU:Option Lc:=zI (j:Nat);let T:PV:=ZB [ZH h.1,R (SS h.2)];let C8:Lc:=Zp (R (cs.map PV.int));let C9:Lc:=Zp (R (SS v4));let Ea:_:=QE S c nm nb ls hs bx C8 F i ZU (zS T) q mu;have sl:DN (aa 8) (cM (aa 11)) eU qV (QE S c nm nb ls hs bx W F i ZU (zS T) q mu)=!(Zs (R (D.map PV.int)),Ea):=by show(V6 (Y4:=Ea) (v8 h8) O O O (oW Fu O) hn).trans ?_;rw[V2]
 have ow:au bf D9 (aJ (aa 12) (bh 1)) Ea=!(Zs (R (SS own)),Ea):=by
  show bC (x:=Zs (R (SS nb++[ZH h.1]))) (bC (y:=Zs (R [ZH h.1])) O O ?_) O ?_
  . show (if -(SS nb)+1<=100000 then _ else _)=_;rw[dA (by rw[tB];lia)]
  . show (if -(SS nb++[PV.str h.1])+-(SS h.2)<=100000 then _ else _)=_;rw[dA (by rw[eM,tB,tB];simp only[d6,eQ];lia)];simp[own]
 show#[z,zL rs.pvs,?_];show aH (bu (aR (aA sl (aA ow (aA O (aA O (aA (v9 h9) O))))) O O O er) O O) ?_;let ec:=Rm (mu:=z) h.2 J [] (by simp only[eQ];lia);rw[hJ]at ec;show pR O (dm (aA O (aA (dG O O (bC O O (dI ())) O nl XX) (aA ((eF (dC O O) ec).trans O) (aA O O)))) O O) O O () O
theorem Rn(mn:Sh nb)(ja:Sh ls)(hh:∀h∈hs,-h.1<=100/\-h.2<=4/\Sh h.2/\FN.fn h.1)(l4:-hs<=4)(qh:-nb<=26)(hc:-cs<=40):∀(Q:Hd)(i:Nat),(∀h∈Q,h∈hs)->∃fs:List Fn,fs.map Fn.name=Q.map (·.1)/\(∀f∈fs,Zu (-hs+1) f)/\∀(W l9:Lc)(j:List PV)(D z q:Option Lc)(mu:Mu),W.pv=R (cs.map PV.int)->l9.pv=R (SS v4)->-j+-Q<=100->
 ∃m8 m9 F XY XZ N,m8.pv=R (cs.map PV.int)/\m9.pv=R (SS v4)/\eN Eb vS (Ax i (gY Q)) (QE S c nm nb ls hs bx W l9 j D z q mu)=!(.nx (QE S c nm nb ls hs bx m8 m9 (j++fs.map Fn.pv) XY XZ N F))
 |[]=>λi _=>#[[],O,λf hf=>(by cases hf),λW l9 j D z q mu h8 h9 _=>#[W,l9,mu,D,z,q,h8,h9,by simp[Ax,eN]]]
 |h::Q=>λi hg=>by
  let(f,ff,fe,st):=XU mn ja hh (hg h ed) l4 qh hc;let(fs,lf,X0,ih):=Rn mn ja hh l4 qh hc Q (i+1) λx hx=>hg x (e_ _ hx);show#[f::fs,by rw[fU,fU,lf,fe],λx hx=>?_,λW l9 j D z q mu h8 h9 hl=>?_]
  . obtain rfl|hx:=d5.mp hx
    . show ff
    . show X0 x hx
  . simp only[d6]at hl;let(i7,N,e1):=st W l9 j q mu h8 h9 ();let(m8,m9,F,X1,X_,Ya,k8,k9,e2):=ih (Zp (R (cs.map PV.int))) (Zp (R (SS v4))) (j++[f.pv]) (zI (i:Nat)) (zS (ZB [ZH h.1,R (SS h.2)])) N i7 O O ∅;show#[m8,m9,F,X1,X_,Ya,k8,k9,gw O e1 (e2.trans ?_)];simp
end
end
section
variable [HK]
theorem Ro:∀{a b:List PV},fls a->fls b->fls (a++b)
 |[],b,_,h=>h
 |p::a,b,h,g=>by let(h1,h2):=h;simp only[cw,iX]at h1;simp only[cr]at h2;show iR #[h1.1,()] (Ro #[h1.2,()] g)
def Yf(xs:List α):-(oV xs (!2) (!42))<=40:=by unfold oV;rw[j_,mS];have j:HT.sIx (-xs) 0 (!2)=min 2 (-xs):=HT.sIx_nat (-xs) 0 2;have i:HT.sIx (-xs) (-xs) (!42)=min 42 (-xs):=HT.sIx_nat (-xs) (-xs) 42;lia
theorem Rp:∀fs:List Fn,(∀f∈fs,f.rows.cnt*m<=44)->d8 fs*m<=44*-fs
 |[]=>λ_=>by simp[d8]
 |f::fs=>λh=>by let h1:=h f ed;let h2:=Rp fs λg i=>h g (e_ _ i);simp only[d8,d6,Nat.add_mul];lia
abbrev pH(S:PV)(a1 a2 a3 a4 a5 a6 a7 a8 a9 k7 YA YE YH:Option Lc)(mu:Mu):Ev:=#[[zS S,a1,a2,a3,a4,a5,a6,a7,a8,a9,k7,YA,YE,YH],mu]
section
def Tg(ns:List Int)(hl:-ns<=63):∃(F:FN)(P:Pg),P.fine/\(∀n,FN.fn n->∃f∈P.fns,f.name=n)/\∀mu,∃hU,nq [R (ns.map PV.int)] mu=!(Zp P.pv,hU):=by
 have F0:FN:=#[λ_=>True];let(c,_,ec):=cell_eq (ns:=ns) (k:=0) ();let(c1,_,YI):=cell_eq (ns:=ns) (k:=1) ();let(nm,wP,nk,YN,en):=Yk (c:=c1) (n:=26) () ();let wP:=wP;let nb:_:=oV nm J (!(c%5));let ls:_:=oV nm (!4) (!(4+c/5%3));have YO:-nb<=26:=by have:=N6 nm J (!(c%5));show -(oV nm J (!(c%5)))<=26;lia
 have lls:-ls<=26:=by have:=N6 nm (!4) (!(4+c/5%3));show -(oV nm (!4) (!(4+c/5%3)))<=26;lia
 let(hs,lhs,YR,wS,eh):=Yt c wP YN;clear F0;let F:FN:=#[λn=>∃h∈hs,h.1=n];have hh:∀h∈hs,-h.1<=100/\-h.2<=4/\Sh h.2/\F.fn h.1:=λh q=>#[nk h.1 (wS h q).1,(wS h q).2.1,λx hx=>nk x ((wS h q).2.2 x hx),h,q,O];have mn:Sh nb:=λx hx=>nk x (Em hx);have FA:Sh ls:=λx hx=>nk x (Em hx);let(i,f1,l1,e7):=Ri c nb 0;let(wT,f2,l2,e8):=Rj c ls;let xs:_:=oV ns (!2) (!42);have YU:-xs<=40:=Yf ns;let cs:_:=xs.map λx=>x%1000000007;have Zt:-cs<=40:=by show -(xs.map _)<=40;rw[eI];show YU
 let S:PV:=R (ns.map PV.int);let bx:_:=i++wT;let(fs,lf,D,rh):=Rn mn FA hh lhs YO Zt hs 0 λh q=>q;have lf2:-fs=-hs:=by have:=congrArg List.length lf;simpa using this
 let n:Int:=-(gY hs);have Fc:0<=n:=by show (0:Int)<=-(gY hs);lia
 let c2:_:=pk cs (!n) J (!(n+1));let Zw:=V3 cs (n:=n+1) Fc ();have ln:n=-hs:=by show (-(gY hs):Int)=_;rw[eI]
 have l2:-c2*(-hs+1)<=44:=by
  have e:((-c2*(-hs+1):Nat):Int)=(-c2:Int)*(n+1):=by rw[ln,Int.natCast_mul];rfl
  have:(-c2:Int)*(n+1)<=-cs+(n+1)-1:=Zw;lia
 have l3:-c2<=-c2*(-hs+1):=Nat.le_mul_of_pos_right _ ();let(rs,r1,r2,r3,r4,er):=Rg mn FA (λh q=>#[by have:=(hh h q).1;lia,by have:=(hh h q).2.1;lia,(hh h q).2.2.2]) c2 ();let gr:List PV:=[ZB [ZH "somebody",ZH "high",ZH "low"]];let P:Pg:=#[bx,gr,fs,rs];let hfc:=Rp fs λf j=>(D f j).ct;have FC:d8 fs+rs.cnt<=44:=by let h1:=gL (Nat.mul_le_mul_right _ r4) l2;show Nat.le_of_mul_le_mul_right (c:=-hs+1) ?_ ();rw[Nat.add_mul];lia
 show#[F,P,#[#[λf j=>#[(D f j).ok,by have:=(D f j).dp;lia],r1,by show rs.dep<=30;lia,FC,λf j=>(D f j).pm,by show -fs<=4;lia,by show (fs.map Fn.name).Nodup;rw[lf];show YR,λf j=>by
  have:f.name∈hs.map (·.1):=by rw[<-lf];show List.mem_map_of_mem j
  let(h,q,e):=fy.mp this;rw[<-e];show(hh h q).1],Ro f1 f2,#[O,by show (2:Nat)<=20;decide],λf j=>(D f j).rk,r2,λf j=>(D f j).dp],λn hn=>?_,λmu=>?_]
 . let(h,q,rfl):=hn;have:h.1∈fs.map Fn.name:=by rw[lf];show fy.mpr #[h,q,O]
   let(f,j,e):=fy.mp this;show#[f,j,e]
 let C:Option Lc:=zI c;let N:Option Lc:=zL (SS nm);let ZN:Option Lc:=zL rk;let B4:Option Lc:=zL (SS nb);let B5:Option Lc:=zL (SS ls);let O4:Option Lc:=zO (SS nb);let O5:Option Lc:=zO (SS ls);let W:Option Lc:=zO (gY hs);let OR:Option Lc:=zO rk;let L8:Lc:=Zs (R (cs.map PV.int));let L9:Lc:=Zs (R (SS v4));let E0:_:=pH S J J J J J J J J J J J J J mu;let wq:_:=pH S C J J J J J J J J J J J J mu;let E2:_:=pH S C (zO (SS nm)) J J J J J J J J J J J mu;let E3:_:=pH S C (zO (SS nm)) OR J J J J J J J J J J mu;let E4:_:=pH S C N OR O4 J J J J J J J J J mu;let E5:_:=pH S C N OR O4 O5 J J J J J J J J mu;let E6:_:=pH S C N OR O4 O5 W J J J J J J J mu;let E7:_:=pH S C N ZN B4 O5 W (zO i) J J J J J J mu;let E8:_:=pH S C N ZN B4 B5 W (zO bx) J J J J J J mu;let E9:_:=pH S C N ZN B4 B5 W (zO bx) (!L8) J J J J J mu;let ZY:_:=pH S C N ZN B4 B5 W (zO bx) (!L8) (!L9) J J J J mu;let Z_:_:=pH S C N ZN B4 B5 W (zO bx) (!L8) (!L9) (zO []) J J J mu;let(m8,m9,i7,Q,z,no,k8,k9,rh):=rh L8 L9 [] J J J mu O O (by simp only[eQ];lia);rw[hJ]at rh;let(kr,er):=er i7;let Q1:_:=QE S c nm nb ls hs bx m8 m9 (fs.map Fn.pv) Q z no i7;let C8:Lc:=Zp (R (cs.map PV.int));let C9:Lc:=Zp (R (SS v4));let Qa:_:=QE S c nm nb ls hs bx C8 m9 (fs.map Fn.pv) Q z no i7;let Qb:_:=QE S c nm nb ls hs bx C8 C9 (fs.map Fn.pv) Q z no i7;let Qc:_:=QE S c nm nb ls hs bx C8 C9 (fs.map Fn.pv) Q z (zL rs.pvs) kr;show#[kr,?_];show aO (Y:=pH S C N ZN B4 B5 (zL (gY hs)) (zL bx) (!C8) (!C9) (zL (fs.map Fn.pv)) Q z (zL rs.pvs) kr) ?_;show aH (bu (aR O O O O (ec mu)) O O) ?_;show aH (bu (aR (aA (aR O O O O (YI mu)) O) O O O (en mu)) O O) ?_;show aH O ?_;show aH (bu ((Cp O O O (oW (bC O O (dI ())) O)).trans (by rw[Cm]<;>rfl)) O O) ?_;show aH (bu ((Cp (Y1:=E4) O O O (oW (l:=Zp (ZI (4+c/5%3))) (bC (x:=Zp (ZI 4)) (y:=Zp (ZI (c/5%3))) O (bC (x:=Zp (ZI (c/5))) (bC (x:=Zp (ZI c)) O O (gU () ())) O (dI ())) O) O)).trans (by rw[Cm]<;>rfl)) O O) ?_;show aH (Y':=E6) (bu (l:=Zs (R (gY hs))) (Y1:=E5) (aR (ls:=[Zp (ZI c),Zp (R (SS nm))]) (ps:=[ZI c,R (SS nm)]) (Y1:=E5) O O O O (eh mu)) O O) ?_;show aH (Y':=E7) (bu (l:=Zs (R i)) (Y1:=pH S C N ZN B4 O5 W J J J J J J J mu) ((eF (Y1:=pH S C N OR B4 O5 W J J J J J J J mu) (xs:=Ax 0 (SS nb)) (by rw[<-Ed];rfl) (e7 J J mu [] (by simp only[eQ];lia))).trans O) O O) ?_;show aH (Y':=E8) (bu (l:=Zs (R bx)) (Y1:=pH S C N ZN B4 B5 W (zL i) J J J J J J mu) (bC (x:=Zp (R i)) (y:=Zs (R wT)) (Y1:=pH S C N ZN B4 O5 W (zL i) J J J J J J mu) O ((eF (Y1:=pH S C N ZN B4 B5 W (zL i) J J J J J J mu) (xs:=SS ls) (dC (l:=Zp (R (SS ls))) O O) (e8 J mu [] (by simp only[eQ];lia))).trans O) ?_) O O) ?_
 . show (if -i+-wT<=100000 then _ else _)=_;rw[dA ()]
 let FE:=Rk xs J mu [] (by simp only[eQ];lia);rw[hJ]at FE;show aH (Y':=E9) (bu (l:=L8) (Y1:=E8) ((eF (Y1:=E8) (xs:=xs.map PV.int) (dC (l:=Zs (R (xs.map PV.int))) ((Cp (ps:=ns.map PV.int) (l:=Zp S) (Y1:=E8) (a:=!2) (b:=!42) O O O O).trans (by rw[Cm]<;>rfl)) O) FE).trans O) O O) ?_;show aH (Y':=ZY) O ?_;show aH (Y':=Z_) O ?_;show aH (Y':=Q1) (eO (xs:=Ax 0 (gY hs)) (Y1:=QE S c nm nb ls hs bx L8 L9 [] J J J mu) (by rw[<-Ed];rfl) rh) ?_;have sl:DN (aa 8) (cM (eB cz (aj (aa 6) ao))) eU qV Q1=!(Zs (R (c2.map PV.int)),Qa):=by show(V6 (Y1:=Qa) (Y2:=Qa) (Y3:=Qa) (Y4:=Qa) (l:=C8) (ps:=cs.map PV.int) (a:=!n) (b:=J) (n:=n+1) (v8 k8) O (oW (l:=Zp (ZI n)) O O) O (oW Fu O) ()).trans ?_;rw[V2]
 show aH (Y':=Qc) (bu (l:=Zp (R rs.pvs)) (Y1:=QE S c nm nb ls hs bx C8 C9 (fs.map Fn.pv) Q z no kr) (aR (ls:=[Zs (R (c2.map PV.int)),Zp (R (SS nb)),Zp (R (SS ls)),Zp (R (gY hs)),Zp (R (SS v4))]) (ps:=[R (c2.map PV.int),R (SS nb),R (SS ls),R (gY hs),R (SS v4)]) (Y1:=Qb) (aA sl (aA (Y1:=Qa) O (aA (Y1:=Qa) O (aA (Y1:=Qa) O (aA (v9 k9) O))))) O O O er) O O) ?_;rfl
end
end
section
variable [HK][FN]
mutual
theorem c9.dep_pos:∀r:c9,1<=r.dep
 |.leaf _ _=>eK _
 |.call _ _ _=>eK _
 |.wh _ b=>by simp only[c9.dep];lia
 |.iff _ b c=>by simp only[c9.dep];lia
end
def Rows.nil_of{rs:Rows}(h:rs.dep<=1):rs=.nil:=by
 cases rs with
 |nil=>rfl
 |cons r rs=>
  have:=r.dep_pos;simp only[Rows.dep]at h;lia
def pI(h:a<=b):2 ^ a<=2 ^ b:=Nat.pow_le_pow_right () h
mutual
theorem c9.bl_le:∀r:c9,r.bl+1<=3*2 ^ ((r.dep-1)/2)
 |.leaf _ _=>by simp only[c9.bl,c9.dep];decide
 |.call _ _ _=>by simp only[c9.bl,c9.dep];decide
 |.wh _ b=>by have:1<=2 ^ (((b.dep+1)-1)/2):=Nat.one_le_two_pow;simp only[c9.bl,c9.dep];lia
 |.iff _ b c=>by
  let D:=Rows.bl_le b;let F:=Rows.bl_le c;simp only[c9.bl,c9.dep];by_cases h:max b.dep c.dep<=1
  . let j:=Rows.nil_of (rs:=b) ();let i:=Rows.nil_of (rs:=c) ();rw[j,i];decide
  . let q:=pI (a:=(b.dep-2)/2) (b:=(max b.dep c.dep-2)/2) ();let z:=pI (a:=(c.dep-2)/2) (b:=(max b.dep c.dep-2)/2) ();have e:2 ^ ((max b.dep c.dep+1-1)/2)=2*2 ^ ((max b.dep c.dep-2)/2):=by rw[show (max b.dep c.dep+1-1)/2=(max b.dep c.dep-2)/2+1 by lia,Nat.pow_succ,Nat.mul_comm]
    lia
theorem Rows.bl_le:∀rs:Rows,rs.bl+1<=3*2 ^ ((rs.dep-2)/2)
 |.nil=>by  decide
 |.cons r rs=>by let h1:=c9.bl_le r;let h2:=Rows.bl_le rs;let j:=pI (a:=(r.dep-1)/2) (b:=(max (r.dep+1) rs.dep-2)/2) ();let i:=pI (a:=(rs.dep-2)/2) (b:=(max (r.dep+1) rs.dep-2)/2) ();simp only[Rows.bl,Rows.dep];lia
end
def FF{r:c9}(h:r.dep<=10):r.bl<=47:=by
 let h1:=r.bl_le;let m:=pI (a:=(r.dep-1)/2) (b:=4) ()
 lia
mutual
theorem c9.subs:∀r:c9,r.ok->∀x∈r.rws,x.ok/\x.dep<=r.dep
 |.leaf w ps=>λok x i=>by rw[gT.mp i];show#[ok,eK _]
 |.call b n z=>λok x i=>by rw[gT.mp i];show#[ok,eK _]
 |.wh e b=>λok x i=>by
  obtain h|h:=d5.mp i
  . rw[h];show#[ok,eK _]
  . let(j,q):=Rows.subs b ok.2 x h;show#[j,by simp only[c9.dep];lia]
 |.iff e b c=>λok x i=>by
  obtain h|h:=d5.mp i
  . rw[h];show#[ok,eK _]
  . obtain h|h:=fw.mp h
    . let(j,q):=Rows.subs b ok.2.1 x h;show#[j,by simp only[c9.dep];lia]
    . let(j,q):=Rows.subs c ok.2.2 x h;show#[j,by simp only[c9.dep];lia]
theorem Rows.subs:∀rs:Rows,rs.ok->∀x∈rs.rws,x.ok/\x.dep+1<=rs.dep
 |.nil=>λ_ x i=>by cases i
 |.cons r rs=>λok x i=>by
  simp only[Rows.dep];obtain h|h:=fw.mp i
  . let(j,q):=c9.subs r ok.1 x h;show#[j,()]
  . let(j,q):=Rows.subs rs ok.2 x h;show#[j,()]
end
theorem N8:∀fs:List Fn,(∀f∈fs,f.rows.ok/\f.rows.dep<=11)->∀x∈lN fs,x.ok/\x.dep<=10
 |[]=>λ_ x i=>by cases i
 |f::fs=>λh x i=>by
  obtain i|i:=fw.mp i
  . let(h1,h2):=h f ed;let(q,z):=Rows.subs f.rows h1 x i;show#[q,()]
  . show N8 fs (λg j=>h g (e_ _ j)) x i
def Eo{P:Pg}(h:P.fine):∀x∈P.rws,x.ok/\x.dep<=10:=λx i=>by
 obtain i|i:=fw.mp i
 . show N8 P.fns (λf j=>#[(h.ok.fn f j).1,h.fd f j]) x i
 . let(q,z):=Rows.subs P.rows h.ok.rw x i;have:=h.dd;show#[q,()]
abbrev srt(ss:List Str):List PV:=(pU (uX ss)).map PV.str
theorem Jz:∀i:List Str,BJ (i.map PV.str)=!i
 |[]=>rfl
 |x::i=>by show (BJ (i.map PV.str)).map _=_;rw[Jz i];rfl
def aeo(h:f Y=!(l,Y1))(hl:l.pv=R (c7 ss))(hn:-ss<64):yw f Y=!(Zs (R (srt ss)),Y1):=by unfold yw;rw[h,eH,hl];show ((BJ (ss.map PV.str)).bind _)=_;rw[Jz,eH,dA hn]
def Yu(h:jk es k r):k+r.cnt<=-es:=by let(w,z,bl,((j,i,e,q,_),_)):=h;rw[e,eM,eM,c9.es_len];lia
structure mo(P:Pg)(k:Nat)(r:c9):Prop where
 sp:jk P.es k r
 ok:r.ok
 dp:r.dep<=10
def abd(h:P.fine)(i:P.rws[k]?=!r):mo P k r:=by let(j,q):=Eo h r (g7 i);show#[Yj P k r i,j,q]
def yQ(h:P.fine)(H:mo P k r):k+r.cnt<=256:=by let h1:=Yu H.sp;let h2:=es_len P;let i:=h.ok.ct;lia
theorem V7:∀i:List Str,-(uX i)<=-i
 |[]=>eK _
 |x::i=>by have:=V7 i;unfold uX;split<;>simp only[d6]<;>lia
def Hy:x∈pU (uX a) ↔ x∈a:=by rw[uf.mem_iff,Am]
theorem yR{α:Type}(i:Ev->Prop)(q:∀Y,i Y->Y.mu=mu)(g r:α->PV):∀(l:List α)(Y:Ev)(acc:List PV),i Y->-acc+-l<=100000->(∀x∈l,∀Y,i Y->∃Y1 y Y2,b (g x) Y=!Y1/\te Y1=!(y,Y2)/\y.pv=r x/\i Y2)->dF b bB te (l.map g) Y acc=!(acc++l.map r,mu)
 |[]=>λY acc h _ _=>by simp[dF,q Y h]
 |x::l=>λY acc h j hs=>by simp only[d6]at j;let(Y1,y,Y2,D,F,N,h2):=hs x ed Y h;show fY D F () ((yR i q g r l Y2 (acc++[y.pv]) h2 ∅ λz j=>hs z (e_ _ j)).trans ?_);rw[N];simp
def ww{α:Type}{g r:α->PV}{l:List α}(h:f Y=!(L,Y1))(q:bJ L.pv=!(l.map g))(F:-l<=100000)(i:(ie ixs Y1).vs=vs)(D:nT 1 ixs (ie ixs Y1)=#[J::jf,Y1.mu])
 (z:∀x∈l,te #[zS (g x)::jf,Y1.mu]=!(Zp (r x),#[zS (g x)::jf,Y1.mu])):bU (dh f bJ) 1 ixs (aC 0) bB te Y=!(Zs (R (l.map r)),#[vs,Y1.mu]):=by
 let c:=yR (b:=aC 0) (λY=>∃o,Y=#[o::jf,Y1.mu]) (λY ⟨o,e⟩=>by rw[e]) g r l #[J::jf,Y1.mu] [] #[_,O] ∅ λx j Y ⟨o,e⟩=>#[_,_,_,by rw[e];rfl,z x j,O,_,O];rw[<-i];show eF (dC h q) ∅
def Th{α:Type}{j i r:α->PV}{l:List α}(h:f Y=!(L,Y1))(F:L.pv=R (l.map λx=>ZB [j x,i x]))(Q:-l<=100000)(q:(ie ixs Y1).vs=vs)(N:nT 2 ixs (ie ixs Y1)=#[J::J::jf,Y1.mu])
 (z:∀x∈l,te #[zS (j x)::zS (i x)::jf,Y1.mu]=!(Zp (r x),#[zS (j x)::zS (i x)::jf,Y1.mu])):bU (dh f bJ) 2 ixs ma bB te Y=!(Zs (R (l.map r)),#[vs,Y1.mu]):=by
 let c:=yR (b:=fC 2 (aW (aC 0) (aW (aC 1) fu))) (λY=>∃o p,Y=#[o::p::jf,Y1.mu]) (λY ⟨o,p,e⟩=>by rw[e]) (λx=>ZB [j x,i x]) r l #[J::J::jf,Y1.mu] [] #[_,_,O] ∅ λx D Y ⟨o,p,e⟩=>#[_,_,_,by rw[e];rfl,z x D,O,_,_,O];rw[<-q];show eF (dC h (by rw[F];rfl)) ∅
def afi{α:Type}{z i j r:α->PV}{l:List α}(h:f Y=!(L,Y1))(F:L.pv=R (l.map λx=>ZB [z x,i x,j x]))(W:-l<=100000)(N:(ie ixs Y1).vs=vs)(hc:nT 3 ixs (ie ixs Y1)=#[J::J::J::jf,Y1.mu])
 (Q:∀x∈l,te #[zS (z x)::zS (i x)::zS (j x)::jf,Y1.mu]=!(Zp (r x),#[zS (z x)::zS (i x)::zS (j x)::jf,Y1.mu])):bU (dh f bJ) 3 ixs Tb bB te Y=!(Zs (R (l.map r)),#[vs,Y1.mu]):=by
 let c:=yR (b:=fC 3 Ta) (λY=>∃o p q,Y=#[o::p::q::jf,Y1.mu]) (λY ⟨o,p,q,e⟩=>by rw[e]) (λx=>ZB [z x,i x,j x]) r l #[J::J::J::jf,Y1.mu] [] #[_,_,_,O] ∅ λx D Y ⟨o,p,q,e⟩=>#[_,_,_,by rw[e];rfl,Q x D,O,_,_,_,O];rw[<-N];show eF (dC h (by rw[F];rfl)) ∅
def Hz(h:-a+-b<=100000):bf (R a) (R b)=zO (a++b):=dA h
def Be(h:-a+-b<=100000):bf (ZH a) (ZH b)=zT (a++b):=dA h
abbrev jc(w:Str×Str):PV:=ZB [ZH w.1,ZH w.2]
def Yv(h:Rd n p a):∀(f:Nat)(mu:Mu),n<=f->-a<=100->∃ws:List (Str×Str),ws.map (·.2)=a/\ni f [p] mu=!(Zs (R (ws.map jc)),mu):=by
 induction h with
 |num n i=>
  intro f mu z _;obtain⟨f,rfl⟩:∃k,f=k+1:=#[f-1,()];show#[[],O,aO (Y:=E1 (ZB [ZH "num",ZI i]) mu) ?_];show d7 () () O
 |box n x=>
  intro f mu z _;obtain⟨f,rfl⟩:∃k,f=k+1:=#[f-1,()];show#[[("box",x)],O,aO (Y:=E1 (ZB [ZH "box",ZH x]) mu) ?_];show(bG () ()).trans ()
 | @at_ n p a x h Q=>
  intro f mu z N;obtain⟨f,rfl⟩:∃k,f=k+1:=#[f-1,()];simp only[d6]at N;let(ws,j,F):=Q f mu () ();let D:=congrArg List.length j;rw[eI]at D;show#[("list",x)::ws,by rw[fU,j],aO (Y:=E1 (ZB [ZH "@",ZH x,p]) mu) ?_];show(bG () ()).trans ((bG () ()).trans (d7 () () ?_));show cT (dj (p:=R [jc ("list",x)]) O O (aR O O O O F) O (Hz ∅))
 | @op n s p q a b hs h g Q jh=>
  intro f mu z N;obtain⟨f,rfl⟩:∃k,f=k+1:=#[f-1,()];rw[eM]at N;let(ws,j,F):=Q f mu () ();let(us,e3,e4):=jh f mu () ();let D:=congrArg List.length j;let W:=congrArg List.length e3;rw[eI]at D W;show#[ws++us,by rw[fx,j,e3],aO (Y:=E1 (ZB [ZH s,p,q]) mu) ?_];rw[fx];show(bG () hs.1).trans ((bG () hs.2.1).trans ((bG () hs.2.2).trans ?_));show cT (dj (aR O O O O F) O (aR O O O O e4) O (Hz ∅))
def Yw(h:Rd n p a):∀(f:Nat)(mu:Mu),n<=f->-a<=100->gK f [p] mu=!(Zs (R (c7 a)),mu):=by
 induction h with
 |num n i=>
  intro f mu j _;obtain⟨f,rfl⟩:∃k,f=k+1:=#[f-1,()];show aO (Y:=E1 (ZB [ZH "num",ZI i]) mu) ?_;show d7 () () O
 |box n x=>
  intro f mu j _;obtain⟨f,rfl⟩:∃k,f=k+1:=#[f-1,()];show aO (Y:=E1 (ZB [ZH "box",ZH x]) mu) ?_;show(bG () ()).trans ()
 | @at_ n p a x h F=>
  intro f mu j D;obtain⟨f,rfl⟩:∃k,f=k+1:=#[f-1,()];simp only[d6]at D;let z:=F f mu () ();show aO (Y:=E1 (ZB [ZH "@",ZH x,p]) mu) ?_;show(bG () ()).trans ((bG () ()).trans (d7 () () ?_));show cT (dj (p:=R [ZH x]) O O (aR O O O O z) O (Hz ∅))
 | @op n s p q a b hs h g F Q=>
  intro f mu j D;obtain⟨f,rfl⟩:∃k,f=k+1:=#[f-1,()];rw[eM]at D;let z:=F f mu () ();let N:=Q f mu () ();show aO (Y:=E1 (ZB [ZH s,p,q]) mu) ?_;rw[c7,fx];show(bG () hs.1).trans ((bG () hs.2.1).trans ((bG () hs.2.2).trans ?_));show cT (dj (aR O O O O z) O (aR O O O O N) O (Hz ∅))
def Xa(p:PV)(a:List Str):Prop:=∃n,Rd n p a/\n<=15/\-a<=9/\Sh a
open Classical in
def zA(p:PV):List Str:=if h:∃a,Xa p a then Classical.choose h else []
def xP(h:XG p):Xa p (zA p):=by let(n,a,h):=h;have h:∃a,Xa p a:=#[a,n,h];unfold zA;rw[dif_pos h];show Classical.choose_spec h
abbrev wV(p:PV):List Str:=pU (uX (zA p))
def Rq(p:PV):-(wV p)<=-(zA p):=by rw[uf.length_eq];show V7 _
def Py(h:XG p)(mu:Mu):yL [p] mu=!(Zs (R (c7 (wV p))),mu):=by let(n,h1,h2,z,D):=xP h;let(ws,i,q):=Yv h1 40 mu () ();let j:=congrArg List.length i;rw[eI]at j;show aO (cT (aeo (Th (aR O O O O q) O () O O λx _=>O) ?_ ()));rw[<-i,c7,im];rfl
def nZ(x:Str):Str:="box " ++ x
abbrev jy(p:PV):List Str:=(wV p).map nZ
def HD:-("box " : Str)=4:=by decide +kernel
def yS(h:XG p)(mu:Mu):iI [p] mu=!(Zs (R (c7 (jy p))),mu):=by
 let(n,h1,h2,q,j):=xP h;let l:=Rq p;show(aO (cT (ww (r:=λx=>ZH (nZ x)) (aR O O O O (Py h mu)) O () O O λx i=>?_))).trans (by rw[c7,im];rfl);have:=j x (Hy.mp i);have i:-x<=100000:=()
 show Ga O (dA i) (by rw[HD];lia)
end
noncomputable section
variable [HK][FN]
structure PA(mu:Mu)(n:Nat)(P:Pg):Prop where
 ex:∃N d,mu[n]?=!(!(gf "Plan" (Q0 P.es N (nG d))))/\Tc P.fns d
def PA.pl(h:PA mu n P):jb mu n P.es:=by let(N,d,h,_):=h;show#[N,_,h]
def kO(h1:fo Y=!(x,Y1))(hx:x.pv=ZA n)(h2:a Y1=!(ls,Y2))(hps:ls.map Lc.pv=ps)(h3:g (ZA n::ps) Y2.mu=!(r,kr))(pa:jb Y1.mu n es)(hc:(["told","lists","heads"]:List Str).contains m=M:=by decide +kernel):cX "Plan" m g fo a Y=!(r,#[Y2.vs,kr]):=by let(N,Q,F):=pa;show xG h1 hx F hc h2 hps h3
abbrev dw(n k:Nat)(t:List (Option Lc))(mu:Mu):Ev:=#[zS (ZA n)::zI (k:Nat)::t,mu]
def Oa(h:jb mu n es)(he:es[k]?=!e):aJ u8 (aa 1) (dw n k t mu)=!(Zp e.pv,dw n k t mu):=by let(N,j,i):=h;show dG (sZ O O i O) O O O nl ?_;show (fO (fT es) ((k:Nat):Int)).map _=_;rw[Ht he];rfl
def nt:∀n,PV.tup ps≠ZA n:=λn h=>by cases h
def Rr(h:jb mu n es)(he:es[k]?=!e):mL [ZA n,ZI (k:Nat)] mu=!(Zp (ZH e.w),mu):=
 aO (Y:=dw n k [] mu) (cT (dG (Oa h he) O O O nt O))
def Yx(h:jb mu n es)(he:es[k]?=!e):oH [ZA n,ZI (k:Nat)] mu=!(Zp e.ab,mu):=
 aO (Y:=dw n k [] mu) (cT (dG (Oa h he) O O O nt O))
def Ti(h:jb mu n es)(j:-es<=100000):qm [ZA n] mu=!(Zs (R (aU (List.range (-es)))),mu):=by let(N,q,i):=h;show aO (Y:=#[[zS (ZA n)],mu]) (cT ?_);unfold SN;rw[jN (aA (sZ O O i O) O) O O,eH];show (if 0<=(-(fT es):Int)/\(-(fT es):Int)<=100000 then _ else _)=_;rw[nC,dA ()];rfl
def V8(h:PA mu n P)(i:f∈P.fns):∃xs:List Str,f.params=xs.map (λx=>ZB [ZH x,.non])/\-xs<=4/\Sh xs/\rN [ZA n,ZH f.name] mu=!(Zs (R (c7 xs)),mu):=by let(N,d,F,z):=h;let(p,(xs,Q,j,D,rfl),q):=z f i;show#[xs,Q,j,D,aO (Y:=#[[zS (ZA n),zT f.name],mu]) (cT (jN (ls:=[Zp (R (c7 xs))]) (aA ?_ O) O O))];unfold ui;rw[sZ (C:="Plan") (f:="heads") O O F O,eH];show ((iG ((d.map (·.1)).zip (d.map (·.2))) (.inr f.name)).map _)=_;rw[VH,q];rfl
theorem Ob{K:List aV}:∀{es:List eR}{i j:Nat},j∈pos K i es->j<i+-es
 |[],i,j,h=>by cases h
 |e::es,i,j,h=>by
  unfold pos at h;have:=@Ob K es (i+1) j
  grind
def Rt:∀{i k:Nat}{e:eR},es[k]?=!e->i+k∈pos e.key i es:=by
 induction es with
 |nil=>intro i k e h;cases h
 |cons x es j=>
  intro i k e h;unfold pos;cases k with
  |zero=>
   cases h;rw[dA O];show ed
  |succ k=>
   have:=j (i:=i+1) h;rw[show i+(k+1)=i+1+k by omega];split
   . show e_ _ this
   . show this
def adx{K:List aV}(h:j∈pos K 0 es):j5 (oJ 0 es []) K=!(pos K 0 es):=by
 let e:=Cd (K:=K) es 0 [];cases q:j5 (oJ 0 es []) K with
 |none=>rw[q]at e;have e:[]=pos K 0 es:=e;rw[<-e]at h;cases h
 |some l=>rw[q]at e;show congrArg some e
abbrev KB(w:Str):List aV:=[!(.inr w),J,!(.inl 0)]
open Classical in
def abe(h:jb mu n es):qu [ZA n,ZH w] mu=!(Zs (R (aU (pos (KB w) 0 es))),mu):=by
 let(N,q,j):=h;let E:Ev:=#[[zS (ZA n),zT w],mu];let S:_:=oJ 0 es [];have D:(j5 S (KB w)).getD []=pos (KB w) 0 es:=Cd es 0 [];have g:∃l,yD (jB "Plan" "lists" (aa 0)) Cn E=!(l,E)/\l.pv=R (aU ((j5 S (KB w)).getD [])):=by
  unfold yD;rw[sZ (C:="Plan") (f:="lists") O O j O,eH];have hk:aX Ch E=!(Zp (ZB [ZH w,.non,ZI 0]),E):=O;show ∃l,((aX Ch E).bind _)=!(l,E)/\_;show ∃l,(if HK.hk=HK.hk then !((match j0 (((pz N S).map (·.1)).zip (S.map λx=>PV.lst (aU x.2))) (KB w) with |some p=>Lc.sh p |none=>Zs (R [])),E) else J)=!(l,E)/\_;rw[dA O,Kq];cases j5 S (KB w) with
  |none=>show#[_,O,O]
  |some l=>show#[_,O,O]
 let(l,i,z):=g;show aO (cT (jN (ps:=[R (aU (pos (KB w) 0 es))]) (Y1:=E) (aA i O) ∅ O))
theorem Ru:∀l:List Nat,tR (dH 150) (ZI (k:Nat)) (aU l)=!(decide (k∈l))
 |[]=>rfl
 |a::l=>by show ((!(((a:Nat):Int)==((k:Nat):Int))).bind λb=>(tR (dH 150) (ZI (k:Nat)) (aU l)).map λc=>b||c)=_;rw[Ru l];show some ((((a:Nat):Int)==((k:Nat):Int))||decide (k∈l))=_;congr 1;rw[Bool.eq_iff_iff,Bool.or_eq_true,beq_iff_eq,decide_eq_true_eq,decide_eq_true_eq,d5,Int.natCast_inj];show or_congr_left eq_comm
open Classical in
def Yy(he:es[k]?=!e)(F:e.ab=.non\/∃j:Nat,e.ab=ZI j)(hl:-es<=1000):∃r,(r=.non\/∃a:Nat,a< -es/\r=ZI (a:Nat))/\∀mu n,jb mu n es->iH [ZA n,ZI (k:Nat)] mu=!(Zp r,mu):=by
 let hk:=Rt (i:=0) he;rw[ke]at hk;let l:_:=pos e.key 0 es;have ll:-l<=100000:=by
  have:∀(es:List eR)(i:Nat),-(pos e.key i es)<=-es:=λes=>by
   induction es with
   |nil=>show λi=>eK _
   |cons x es ih=>intro i;unfold pos;have:=ih (i+1);split<;>simp only[d6]<;>lia
  have:=this es 0;show -(pos e.key 0 es)<=_;lia
 let j:_:=(aU l).findIdx λq=>(dH 150 q (ZI (k:Nat))).getD M;have hj:j< -(aU l):=List.findIdx_lt_length_of_exists #[ZI (k:Nat),fy.mpr #[k,hk,O],by show (((k:Nat):Int)==((k:Nat):Int))=G;simp];rw[eI]at hj;have fin:∃r,(r=.non\/∃a:Nat,a< -es/\r=ZI (a:Nat))/\∀(n:Nat)(mu:Mu),Zb BS (eC .non) BU (dw n k [zL (aU l),zI (j:Nat)] mu)=!(Zp r,dw n k [zL (aU l),zI (j:Nat)] mu):=by
  by_cases h0:j=0
  . show#[.non,Zl O,λn mu=>?_];rw[h0];rfl
  . have z:l[j-1]?=some l[j-1]:=gz ();show#[ZI (l[j-1]:Nat),YY #[l[j-1],by have:=Ob (g7 z);lia,O],λn mu=>?_];show (if (((j:Nat):Int)==0)=G then _ else _)=_;rw[dQ (by simp;lia)];show dG O O O O nl ?_;show (fO (aU l) (((j:Nat):Int)-1)).map _=_;rw[show ((j:Nat):Int)-1=((j-1:Nat):Int) by lia,PN (by rw[fI,z];rfl)];rfl
 let(r,hr,fin):=fin;show#[r,hr,λmu n h=>?_];let h':=h;let(N,hd,hm):=h';let E0:_:=dw n k [J,J] mu;let D:_:=dw n k [zL (aU l),J] mu;let E3:_:=dw n k [zL (aU l),zI (j:Nat)] mu;have W:S5 (jB "Plan" "lists" (aa 0)) (j7 vi eU (cM (bh 3))) E0=!(Zp (R (aU l)),E0):=by
  unfold S5;rw[sZ (C:="Plan") (f:="lists") (Y1:=E0) O O hm O,eH];have sl:j7 (aJ u8 (aa 1)) eU (cM (bh 3)) E0=!(Zp (ZB [ZH e.w,e.ab,ZI e.bl]),E0):=by unfold j7;rw[Oa h he,eH];rfl
  rw[sl,eH];show ((pX [ZH e.w,e.ab,ZI e.bl]).bind _)=_;rw[Jt F,eH,dA O,Kq,adx hk];rfl
 have Q:MF (aa 2) (aa 1) D=!(Zp (ZI (j:Nat)),D):=by show (if tR (dH 150) (ZI (k:Nat)) (aU l)=!G/\-(aU l)<=100000 then _ else _)=_;rw[dA #[by rw[Ru,kR hk],by rw[eI];show ll]];rfl
 show aO (aH (bu W O O) (aH (Y':=E3) (bu Q O O) (cT (fin n mu))))
end
noncomputable section
variable [HK][FN]
mutual
theorem c9.es_w:∀(r:c9)(w:Str)(ab:PV)(bl:Int)(k:Nat),∀e∈r.es w ab bl k,e.w=w
 |.leaf _ _,w,ab,bl,k,e,h=>by rw[gT.mp h]
 |.call _ _ _,w,ab,bl,k,e,h=>by rw[gT.mp h]
 |.wh x b,w,ab,bl,k,e,h=>(d5.mp h).elim (λh=>by rw[h]) (Rows.es_w b _ _ _ _ e)
 |.iff x b c,w,ab,bl,k,e,h=>(d5.mp h).elim (λh=>by rw[h]) λh=>(fw.mp h).elim (Rows.es_w b _ _ _ _ e) (Rows.es_w c _ _ _ _ e)
theorem Rows.es_w:∀(rs:Rows)(w:Str)(ab:PV)(bl:Int)(k:Nat),∀e∈rs.es w ab bl k,e.w=w
 |.nil,w,ab,bl,k,e,h=>by cases h
 |.cons r rs,w,ab,bl,k,e,h=>(fw.mp h).elim (c9.es_w r _ _ _ _ e) (Rows.es_w rs _ _ _ _ e)
end
def Rows.first{rs:Rows}(h:e∈rs.es w .non 0 k):e.w=w/\∃i∈rs.es w .non 0 k,i.key=KB w:=by
 show#[Rows.es_w _ _ _ _ _ e h,?_];cases rs with
 |nil=>cases h
 |cons r rs=>
  let(t,j):=r.es_head w .non 0 k;show#[#[w,.non,0,r],i6 _ ∅,O]
theorem JB:∀{fs:List Fn}{k:Nat}{e:eR},(∀f∈fs,-f.name<=100)->e∈qJ fs k->-e.w<=100/\∃i∈qJ fs k,i.key=KB e.w
 |[],k,e=>λ_ h=>by cases h
 |f::fs,k,e=>λq h=>by
  obtain h|h:=fw.mp h
  . let(j,i,h1,h2):=Rows.first h;show#[by rw[j];show q f ed,i,i6 _ h1,by rw[h2,j]]
  . let(h1,i,h2,D):=JB (λg z=>q g (e_ _ z)) h;show#[h1,i,h_ _ h2,D]
def Yz{P:Pg}(h:P.fine)(he:e∈P.es):-e.w<=100/\∃j,j∈pos (KB e.w) 0 P.es:=by
 have:-e.w<=100/\∃i∈P.es,i.key=KB e.w:=by
  obtain q|q:=fw.mp he
  . let(h1,i,h2,z):=JB h.ok.nl q;show#[h1,i,i6 _ h2,z]
  . let(D,i,h1,h2):=Rows.first q;show#[by rw[D];decide +kernel,i,h_ _ h1,by rw[h2,D]]
 let(h1,i,h2,z):=this;let(j,F):=List.getElem?_of_mem h2;show#[h1,_,z▸Rt F]
structure Pl(P:Pg)(k:Nat)(e:eR):Prop where
 at_:P.es[k]?=!e
 he:mo P k e.r
 ab:vp e.ab k
 wl:-e.w<=100
 bd:∃j,j∈pos (KB e.w) 0 P.es
 si:qy P.es e.w e.ab e.bl k e.r
def Bf{P:Pg}:-P.rws=-P.es:=by unfold Pg.rws;rw[eM,vq,Rows.rws_len,es_len]
def Ku(h:P.fine)(hk:k< -P.es):∃e,Pl P k e/\P.rws[k]?=!e.r:=by rw[<-Bf]at hk;let i:=gz hk;let H:=abd h i;let(w,j,bl,s):=H.sp;let(h1,h2):=Yz h (g7 s.get);show#[#[w,j,bl,P.rws[k]],#[s.get,H,s.ab,h1,h2,s],i]
def Pl.lt(h:Pl P k e):k< -P.es:=(fS.mp h.at_).1
def oX{P:Pg}(h:P.fine):-P.es<=44:=by rw[es_len];show h.ok.ct
def Pl.num(h:Pl P k e):e.ab=.non\/∃j:Nat,e.ab=ZI j:=h.ab.imp id λ⟨j,q,_⟩=>#[j,q]
def Zv(h:P.fine)(p:Pl P k e)(i:PA mu n P):dJ 40 [ZA n,ZI (k:Nat)] mu=!(Zs (R (c7 (e.r.bt k))),mu):=
 VJ i.pl e.r 40 k e.w e.ab e.bl p.si p.he.ok (by have:=p.he.dp;lia) (by have:=p.he.dp;lia) (yQ h p.he) (by have:=FF p.he.dp;lia)
def w4(p:Pl P k e):-(e.r.bt k)<=47:=gL (e.r.bt_len k) (FF p.he.dp)
def Dh(P:Pg)(i:Nat):Bool:=((P.rws[i]?).map c9.sp).getD M
def V9(h:P.fine)(q:∀i∈l,i< -P.es)(h2:-l<=1000)(j:PA mu n P):fV [ZA n,R (aU l)] mu=!(Zp (.bl (l.any (Dh P))),mu):=by
 show aO (Y:=#[[zS (ZA n),zL (aU l)],mu]) (cT (jN (aA (ww (r:=λi=>.bl (Dh P i)) O O () O O λi hi=>?_) O) O ?_))
 . let(e,p,z):=Ku h (q i hi);have D:Dh P i=e.r.sp:=by unfold Dh;rw[z];rfl
   rw[D];show aR (aA (kO O O O O (tu j.pl p.at_) j.pl) O) O O O (Js p.he.ok (by have:=p.he.dp;lia) (by have:=yQ h p.he;lia))
 . show ((fF (l.map λi=>.bl (Dh P i))).map _)=_;rw[rP,kA];simp[List.any_map]
def tG(h:aa i Y=!(Zp (ZI (k:Nat)),Y))(hk:k<256)(j:-c<=10):nW c (aa i) Y=!(Zp (ZH (c++lF k)),Y):=by let(h1,h2,_):=Gq k hk;show Ga h h1 ()
def aep{r:c9}(ok:r.ok):(∃e b c,r=.iff e b c)\/∃w t,r.pv=ZB (ZH w::t)/\(w== "if")=M:=by
 cases r with
 |leaf w ps=>show YY #[w,ps,O,ok.1.1]
 |call b n j=>show YY #[_,_,O,by decide +kernel]
 |wh e b=>show YY #[_,_,O,by decide +kernel]
 |iff e b c=>show Zl #[e,b,c,O]
def aeq{r:c9}(ok:r.ok):(∃e b,r=.wh e b)\/∃w t,r.pv=ZB (ZH w::t)/\(w== "while")=M:=by
 cases r with
 |leaf w ps=>show YY #[w,ps,O,ok.1.2.1]
 |call b n j=>show YY #[_,_,O,by decide +kernel]
 |iff e b c=>show YY #[_,_,O,by decide +kernel]
 |wh e b=>show Zl #[e,b,O]
def pJ(h:aa i Y=!(Zp (ZB (ZH w::t)),Y)):aJ (aa i) (bh 0) Y=!(Zp (ZH w),Y):=
 dG h O O O nt (by show (fO (PV.str w::t) 0).map _=_;rw[md];rfl)
def uF(h:XG p):-(jy p)<=9:=by let(n,h1,h2,i,j):=xP h;have:=Rq p;rw[eI];lia
def mm{α:Type}(f:α->Str×Str)(l:List α):(l.map f).map jc=l.map λy=>jc (f y):=im ..
def YB(h:P.fine)(p:Pl P k e):∃A:List (Str×Str),-A<=10/\∀mu n,PA mu n P->lW [ZA n,ZI (k:Nat)] mu=!(Zs (R (A.map jc)),mu):=by
 have D:∀mu n,PA mu n P->aL 2 BY (dw n k [J,J,J] mu)=!(.nx (dw n k [zS e.ab,J,J] mu)):=λmu n i=>bu (kO O O O O (Yx i.pl p.at_) i.pl) O O;obtain q|⟨j,q,hj⟩:=p.ab
 . rw[q]at D;show#[[("enter","enter " ++ e.w)],by simp,λmu n i=>?_];have l6:-("enter " : Str)=6:=by decide +kernel
   have:=p.wl;show aO (Y:=dw n k [!(Zp .non),J,J] mu) (aH (D mu n i) (d7 O O (cT (pQ (aA (dm (aA O (aA (dj O O (kO O O O O (Rr i.pl p.at_) i.pl) O (Be ())) O)) O O) O) O O))))
 . rw[q]at D;let(e2,p2,_):=Ku h (show j< -P.es by have:=p.lt;lia);let hl:=oX h;let hjl:=p2.lt;let W:Str×Str:=("within","at " ++ lF j);let E3:Nat->Mu->Option Lc->List (Str×Str)->Ev:=λn mu o A=>dw n k [zI (j:Nat),zO (A.map jc),o] mu;have z:∀mu n,PA mu n P->∀(g:SF) ZN,g (E3 n mu (zS e2.r.pv) [W])=ZN->(aF vc (aF B0 g)) (dw n k [zI (j:Nat),J,J] mu)=ZN:=λmu n i g ZN Q=>by show aH (bu (pQ (aA (dm (aA O (aA (tG O () ()) O)) O O) O) O O) O O) ?_;show aH (bu (kO O O O O (tu i.pl p2.at_) i.pl) O O) Q
   obtain⟨x,b,c,F⟩|⟨w,t,F,hw⟩:=aep p2.he.ok
   . let ok:=p2.he.ok;rw[F]at ok;let N:=uF ok.1;show#[W::(jy x).map λy=>("choice",y),by simp only[d6,eI]at N ⊢;lia,λmu n i=>?_];let z:=z mu n i;rw[F]at z;show aO (Y:=dw n k [zI (j:Nat),J,!(Zp (c9.iff x b c).pv)] mu) (aH (D mu n i) ((bG O O).trans (z _ _ ?_)));show(nA (Y2:=E3 n mu (!(Zp (c9.iff x b c).pv)) (W::(jy x).map λy=>("choice",y))) (bw (pJ O)) () ?_).trans O;show jZ O (ww (aR O O O O (yS ok.1 mu)) O () O O λy _=>O) O O (by simp only[eI,d6,eQ]at N ⊢;lia) ?_;show dw n k [_,!(Zs (R ([jc W]++(jy x).map λy=>jc ("choice",y)))),_] mu=dw n k [_,!(Zs (R (jc W::((jy x).map λy=>(("choice" : Str),y)).map jc))),_] mu;rw[mm];rfl
   . show#[[W],by simp,λmu n i=>?_];let z:=z mu n i;rw[F]at z;show aO (Y:=dw n k [zI (j:Nat),J,zS (ZB (ZH w::t))] mu) (aH (D mu n i) ((bG O O).trans (z _ _ ((bG (bw (pJ O)) hw).trans O))))
end
noncomputable section
variable [HK][FN]
def abf(a b:List Str):c7 (a++b)=c7 a++c7 b:=fx
def FH(h:c Y=!(b,Y1))(i:b=G)(h2:f Y1=ZN):cC c f g Y=ZN:=by subst i;show(lR h).trans h2
def FI(h:c Y=!(b,Y1))(i:b=M)(h2:g Y1=ZN):cC c f g Y=ZN:=by subst i;show(lU h).trans h2
def FK(h:l≠[]):∃j∈l,fO (aU l) (-1)=!(ZI (j:Nat)):=by obtain⟨a,j,rfl⟩:∃a j,l=a++[j]:=#[l.dropLast,l.getLast h,(List.dropLast_concat_getLast h).symm];show#[j,by simp,by rw[aU,fx,List.map_singleton,qN]]
def abh(h:P.fine)(p:Pl P k e)(F:e.r=.wh x b):∃A:List Str,-A<=56/\∀mu n,PA mu n P->rM [ZA n,ZI (k:Nat)] mu=!(Zs (R (c7 A)),mu):=by
 let ok:=p.he.ok;rw[F]at ok;let lb:=uF ok.1;let l:_:=pos (hE e.w k 0) 0 P.es;let E3:Nat->Mu->List Str->Ev:=λn mu A=>dw n k [zL (aU l),zO (c7 A)] mu;have D:∀mu n,PA mu n P->∀(g:SF) ZN,g (dw n k [zO (aU l),zO (c7 (jy x))] mu)=ZN->(aF B1 (aF B2 g)) (dw n k [J,J] mu)=ZN:=λmu n i g ZN W=>by show aH (bu (kO O O O O (Eg i.pl p.at_) i.pl) O O) ?_;let r:=tu i.pl p.at_;rw[F]at r;show aH (bu (aR (aA (dG (kO O O O O r i.pl) O O O nt O) O) O O O (yS ok.1 mu)) O O) W
 by_cases z:l=[]
 . show#[jy x,(),λmu n i=>?_];show aO (Y:=dw n k [zL (aU l),J] mu) (D mu n i _ _ ((bG (Bv O O (by rw[z];rfl)) O).trans O))
 . let(j,Q,N):=FK z;let(q,p2,_):=Ku h (show j< -P.es by have:=Ob Q;lia);let lt:=w4 p2;show#[jy x++q.r.bt j,by rw[eM];lia,λmu n i=>?_];show aO (Y:=dw n k [zL (aU l),J] mu) (D mu n i _ _ ((nA (Y2:=E3 n mu (jy x++q.r.bt j)) (Bv (p:=R (aU l)) O O ?_) O ?_).trans O))
   . cases h:aU l with
     |nil=>show absurd (List.map_eq_nil_iff.mp h) z
     |cons _ _=>rfl
   . show jZ O (aR (ls:=[Zp (ZA n),Zp (ZI (j:Nat))]) (aA O (aA (dG O O O O nl (by show (fO (aU l) (-1)).map _=_;rw[N];rfl)) O)) O O O (Zv h p2 i)) O O ∅ ?_;show _=dw n k [_,zO (c7 (jy x++q.r.bt j))] mu;rw[abf];rfl
def YC(h:P.fine)(p:Pl P k e):∃A:List (Str×Str),-A<=103/\∀mu n,PA mu n P->jH [ZA n,ZI (k:Nat)] mu=!(Zs (R (A.map jc)),mu):=by
 let hl:=oX h;let(r,hr,N):=Yy p.at_ p.num ();have i:∃A:List (Str×Str),-A<=47/\∀mu n,PA mu n P->∀(g:SF) ZN,g (dw n k [zS r,zO (A.map jc)] mu)=ZN->(aF vm (aF (aL 3 (cu ao)) (aF (cC vk
  B6
  B8) g))) (dw n k [J,J] mu)=ZN:=by
  have s:∀mu n,PA mu n P->∀(g:SF) ZN,g (dw n k [zS r,zO []] mu)=ZN->(aF vm (aF (aL 3 (cu ao)) g)) (dw n k [J,J] mu)=ZN:=λmu n j g ZN D=>aH (bu (kO O O O O (N mu n j.pl) j.pl) O O) ();obtain q|⟨a,F,q⟩:=hr
  . subst q;let(A,Q,eA):=YB h p;show#[A,(),λmu n j g ZN D=>s mu n j _ _ (aH (FH O O (jZ O (aR O O O O (eA mu n j)) O O (by rw[eI];simp only[eQ];lia) O)) D)]
  . subst q;let(W,p2,_):=Ku h F;let lt:=w4 p2;show#[(W.r.bt a).map λy=>("behind",y),by rw[eI];show lt,λmu n j g ZN D=>s mu n j _ _ (aH (FI O O (jZ O (ww (aR O O O O (Zv h p2 j)) O () O O λy _=>O) O O (by rw[eI];simp only[eQ];lia) ?_)) D)];rw[mm];rfl
 let(A,Q,i):=i;have t:∀{w:Str}{t:List PV}{mu:Mu}{n:Nat},PA mu n P->e.r.pv=ZB (ZH w::t)->tT B7 aY (dw n k [zS r,zO (A.map jc)] mu)=!(w== "while",dw n k [zS r,zO (A.map jc)] mu):=λ{w t mu n} j z=>by let q:=tu j.pl p.at_;rw[z]at q;show bw (dG (kO O O O O q j.pl) O O O nt (by show (fO (PV.str w::t) 0).map _=_;rw[md];rfl))
 obtain⟨x,b,z⟩|⟨w,t',z,hw⟩:=aeq p.he.ok
 . let(B,lB,eB):=abh h p z;show#[A++B.map λy=>(("turns" : Str),y),by rw[eM,eI];lia,λmu n j=>?_];show aO (Y:=dw n k [zS r,J] mu) (i mu n j _ _ ((nA (Y2:=dw n k [zS r,!(Zs (R ((A++B.map λy=>(("turns" : Str),y)).map jc)))] mu) (t j (by rw[z];rfl)) () ?_).trans O));show jZ O (ww (aR O O O O (eB mu n j)) O () O O λy _=>O) O O (by rw[eI,eI];lia) ?_;rw[fx,mm];rfl
 . show#[A,(),λmu n j=>aO (Y:=dw n k [zS r,J] mu) (i mu n j _ _ ((bG (t j z) hw).trans O))]
def YD(h:P.fine)(p:Pl P k e):∃A:List (Str×Str),-A<=47/\∀mu n,PA mu n P->lu [ZA n,ZI (k:Nat)] mu=!(Zs (R (A.map jc)),mu):=by
 let hl:=oX h;let l:_:=pos (KB e.w) 0 P.es;have D:l≠[]:=λq=>by let(j,F):=p.bd;rw[show pos (KB e.w) 0 P.es=[] from q]at F;cases F
 let(j,F,ej):=FK D;let lt:=w4 p;have ll:∀i∈l,i< -P.es:=λi hi=>by have:=Ob hi;lia
 have l1:-l<=1000:=by
  have:∀(es:List eR)(i:Nat),-(pos (KB e.w) i es)<=-es:=λes=>by
   induction es with
   |nil=>show λi=>eK _
   |cons x es ih=>intro i;unfold pos;have:=ih (i+1);split<;>simp only[d6]<;>lia
  have:=this P.es 0;show -(pos (KB e.w) 0 P.es)<=_;lia
 let E3:Nat->Mu->Ev:=λn mu=>dw n k [zT e.w,zL (aU l)] mu;have N:∀mu n,PA mu n P->∀(g:SF) ZN,g (dw n k [zT e.w,zO (aU l)] mu)=ZN->(aF Cq (aF Cr g)) (dw n k [J,J] mu)=ZN:=λmu n z g ZN W=>
  aH (bu (kO O O O O (Rr z.pl p.at_) z.pl) O O) (aH (bu (kO (m:="body") O O O O (abe z.pl) z.pl) O O) W)
 have t:∀mu n,PA mu n P->tO Co Cs (dw n k [zT e.w,zO (aU l)] mu)=!(not (((j:Nat):Int)==((k:Nat):Int))||not (l.any (Dh P)),E3 n mu):=λmu n z=>
  rZ (Bv (dj (dG O O O O nl (by show (fO (aU l) (-1)).map _=_;rw[ej];rfl)) O O O O) O O) (Vi (Bv (kO (m:="spending") (Y2:=E3 n mu) O O O O (V9 h ll l1 z) z.pl) O O))
 have l6:-("leave " : Str)=6:=by decide +kernel
 let hw:=p.wl;cases Q:not (((j:Nat):Int)==((k:Nat):Int))||not (l.any (Dh P)) with
 |true=>show#[[],gy _,λmu n z=>aO (Y:=E3 n mu) (N mu n z _ _ (d7 (t mu n z) Q O))]
 |false=>
  show#[(e.r.bt k).map λy=>(y,"leave " ++ e.w),by rw[eI];show lt,λmu n z=>?_];rw[mm];show aO (Y:=E3 n mu) (N mu n z _ _ ((bG (t mu n z) Q).trans (cT (ww (Y1:=E3 n mu) (aR O O O O (Zv h p z)) O () O O λy _=>?_))));show dm (aA O (aA (Ga O (dA ()) ()) O)) O O
end
noncomputable section
variable [HK][FN]
theorem uG{α:Type}(g:α->PV)(q:List α->Ev->Prop):∀(l i:List α)(Y:Ev),q i Y->(∀j x,-j< -i+-l->x∈l->∀Y,q j Y->∃Y1 Y2,b (g x) Y=!Y1/\body Y1=!(.nx Y2)/\q (j++[x]) Y2)->∃Y',eN b body (l.map g) Y=!(.nx Y')/\q (i++l) Y'
 |[]=>λi Y h _=>#[Y,O,by rw[f_];show h]
 |x::l=>λi Y h hs=>by simp only[d6]at hs;let(Y1,Y2,F,N,h2):=hs i x () ed Y h;let(Y',Q,z):=uG g q l (i++[x]) Y2 h2 λp y W D=>hs p y ∅ (e_ _ D);show#[Y',gw F N Q,by rw[fm]at z;show z]
abbrev S3:=Str×Str×Str
noncomputable abbrev mV (y:S3):PV:=ZB [ZH y.1,ZH y.2.1,ZH y.2.2]
noncomputable abbrev dv (k:Nat) (y:S3):PV:=ZB [ZI (k:Nat),ZI 1,ZH y.1,ZH y.2.1,ZH y.2.2]
def pK{α β:Type}(f:α->List β)(l:List α)(x:α):(l++[x]).flatMap f=l.flatMap f++f x:=by simp
def vB(x:Str)(e:PV):List S3:=(jy e).map λb=>("value",b,nZ x)
def vE(x:Str)(e:PV):List S3:=(zA e).map λy=>("value",nZ y,nZ x)
def GC(h:XG e):-(vB x e)<=9:=by unfold vB;rw[eI];show uF h
def rj(h:XG e):-(vE x e)<=9:=by let(n,h1,h2,i,j):=xP h;unfold vE;rw[eI];show i
def zae:y∈vB x e ↔ y∈vE x e:=by
 unfold vB vE;simp only[fy];constructor
 . rintro⟨b,⟨z,i,rfl⟩,rfl⟩;show#[z,Hy.mp i,O]
 . rintro⟨z,i,rfl⟩;show#[_,#[z,Hy.mpr i,O],O]
def gB(k:Nat)(x:Str)(es:List PV):List S3:=("done","at " ++ lF k,nZ x)::es.flatMap (vB x)
def gE(k:Nat)(x:Str)(es:List PV):List S3:=("done","at " ++ lF k,nZ x)::es.flatMap (vE x)
def w6:y∈gB k x es ↔ y∈gE k x es:=by unfold gB gE;simp only[d5,List.mem_flatMap,zae]
def Zx(h:aa i Y=!(Zp (ZH x),Y))(j:-x<=100):nW "box " (aa i) Y=!(Zp (ZH (nZ x)),Y):=
 Ga h (dA ()) (by rw[HD];lia)
def En(hk:k<256)(q:-x<=100)(he:∀e∈es,XG e)(N:-es<=26):lr [ZI (k:Nat),ZH x,R es] mu=!(Zs (R ((gB k x es).map mV)),mu):=by
 let D:S3:=("done","at " ++ lF k,nZ x);let E:List S3->Option Lc->Ev:=λA o=>#[[zI (k:Nat),zT x,zL es,zO ((D::A).map mV),o],mu];let(Y',z,o,rfl,_):=uG (b:=aC 4) (body:=gb 3 B9) id (λi Y=>∃o,Y=E (i.flatMap (vB x)) o/\-(i.flatMap (vB x))<=9*-i) es [] (E [] J) #[J,O,eK _] λi e F j Y ⟨o,eY,hz⟩=>by
  subst eY;simp only[eQ]at F;let Q:=GC (x:=x) (he e j);show#[E (i.flatMap (vB x)) (zS e),E ((i++[e]).flatMap (vB x)) (zS e),O,?_,_,O,by rw[pK,eM,eM];simp only[d6];lia];rw[pK];show jZ O (ww (r:=λb=>mV ("value",b,nZ x)) (aR O O O O (yS (he e j) mu)) O (by have:=uF (he e j);lia) O O λb _=>?_) O O ?_ ?_
  . show dm (aA O (aA O (aA (Zx O q) O))) O O
  . have:=uF (he e j);simp only[eI,d6]at this hz ⊢;lia
  . show (#[[_,_,_,!(Zs (R ((D::i.flatMap (vB x)).map mV++(jy e).map λb=>mV ("value",b,nZ x)))),_],mu]:Ev)=#[[_,_,_,zO ((D::(i.flatMap (vB x)++vB x e)).map mV),_],mu];unfold vB;simp only[fU,fx,im];rfl
 rw[List.map_id,hJ]at z;show aO (Y:=#[[zI (k:Nat),zT x,zL es,J,o],mu]) (aH (bu (pQ (aA (dm (aA O (aA (tG O hk ()) (aA (Zx O q) O))) O O) O) O O) O O) (aH () O))
def Wb(h:aa i Y=!(Zp (ZI (k:Nat)),Y))(hk:k<256)(q:-c<=10):au bf (d_ c) (eB jj (aj (aa i) ao)) Y=!(Zp (ZH (c++lF k)),Y):=by let(_,h2,j):=Gq k hk;show dj O O (jN (aA h O) O j) O (Be ())
def rz(h:aa i Y=!(Zp (ZH x),Y))(j:-x<=100):au bf (d_ "box ") (aa i) Y=!(Zp (ZH (nZ x)),Y):=
 dj O O h O (Be (by rw[HD];lia))
def value_eq(hk:k<256)(F:-x<=100)(he:∀e∈es,XG e)(hl:-es<=26):oi [ZI (k:Nat),ZH x,R es] mu=!(Zs (R ((gE k x es).map (dv k))),mu):=by
 let D:S3:=("done","at " ++ lF k,nZ x);let E:List S3->Option Lc->Option Lc->Ev:=λA o p=>#[[zI (k:Nat),zT x,zL es,zO ((D::A).map (dv k)),o,p],mu];let(Y',e1,o,p,rfl,_):=uG (b:=aC 4) (body:=fX EC (aC 5)
  ED) id (λi Y=>∃o p,Y=E (i.flatMap (vE x)) o p/\-(i.flatMap (vE x))<=9*-i) es [] (E [] J J) #[J,J,O,eK _] λi e hp N Y ⟨o,p,eY,hz⟩=>by
  subst eY;simp only[eQ]at hp;let lb:=rj (x:=x) (he e N);let(n,h1,h2,h3,h4):=xP (he e N);let j:Str->S3:=λy=>("value",nZ y,nZ x);let(Y',e2,q,rfl):=uG (b:=aC 5) (body:=jM 3 Uf) PV.str (λz Y=>∃q,Y=E (i.flatMap (vE x)++z.map j) (zS e) q) (zA e) [] (E (i.flatMap (vE x)) (zS e) p) #[p,by rw[oP,f_]] λz y Q W Y ⟨q,eY⟩=>by subst eY;simp only[eQ]at Q;show#[E (i.flatMap (vE x)++z.map j) (zS e) (zT y),E (i.flatMap (vE x)++(z++[y]).map j) (zS e) (zT y),O,?_,_,O];show pR O (dm (aA (Y1:=E (i.flatMap (vE x)++z.map j) (zS e) (zT y)) O (aA O (aA O (aA (rz O (h4 y W)) (aA (rz O F) O))))) O O) O O ∅ ?_;show (#[[_,_,_,zO ((D::(i.flatMap (vE x)++z.map j)).map (dv k)++[dv k (j y)]),_,_],mu]:Ev)=#[[_,_,_,zO ((D::(i.flatMap (vE x)++(z++[y]).map j)).map (dv k)),_,_],mu];simp
  show#[E (i.flatMap (vE x)) (zS e) p,E ((i++[e]).flatMap (vE x)) (zS e) q,O,eO (dC (aR O O O O (Yw h1 40 mu () ())) O) (e2.trans (by rw[pK];rfl)),_,_,O,by rw[pK,eM,eM];simp only[d6];lia]
 rw[List.map_id,hJ]at e1;show aO (Y:=#[[zI (k:Nat),zT x,zL es,J,o,p],mu]) (aH (bu (pQ (aA (dm (aA O (aA O (aA O (aA (Wb O hk ()) (aA (rz O F) O))))) O O) O) O O) O O) (aH () O))
end
noncomputable section
variable [HK][FN]
def map_two{α β γ:Type}(f:α->β)(g:β->γ)(l:List α)(o:List β):(l.map f++o).map g=(l.map λx=>g (f x))++o.map g:=by rw[fx];congr 1;show im ..
theorem Zy:∀(xs:List Str)(i:List PV),uW (c7 xs) i=(xs.zip i).map λz=>ZB [ZH z.1,z.2]
 |[],i=>rfl
 |x::xs,[]=>rfl
 |x::xs,a::i=>by show _::uW (c7 xs) i=_;rw[Zy xs i];rfl
theorem FL:∀(xs:List Str)(i:List PV),uW (xs.map λx=>ZB [ZH x,.non]) i=(xs.zip i).map λz=>ZB [ZB [ZH z.1,.non],z.2]
 |[],i=>rfl
 |x::xs,[]=>rfl
 |x::xs,a::i=>by show _::uW (xs.map _) i=_;rw[FL xs i];rfl
def FO(h1:f Y=!(x,Y1))(hx:x.pv=R ps)(h2:g Y1=!(y,Y2))(hy:y.pv=R qs):Km f g Y=!(uW ps qs,Y2):=by unfold Km;rw[h1,eH,h2,eH,hx,hy]
abbrev cB(k:Nat)(z:Str×PV):List S3:=gB k z.1 [z.2]
abbrev cE(k:Nat)(z:Str×PV):List S3:=gE k z.1 [z.2]
def Oi(h:XG z.2):-(cB k z)<=10:=by have:=GC (x:=z.1) h;simp[gB];show this
def w_(h:XG z.2):-(cE k z)<=10:=by have:=rj (x:=z.1) h;simp[gE];show this
structure Dn(P:Pg)(k:Nat)(e:eR)(B E:List S3):Prop where
 lB:-B<=41
 lE:-E<=161
 mem:∀y,y∈B ↔ y∈E
 told:∀mu n,PA mu n P->qt [.ptr n,.int (k:Nat)] mu=!(.own (.lst (B.map mV)),mu)
 due:∀mu,ut [P.pv,.int (k:Nat),e.r.pv] mu=!(.own (.lst (E.map (dv k))),mu)
def abl:km [ZB [ZH "set",x,e]] mu=!(Zs (R [e]),mu):=
 aO (Y:=E1 (ZB [ZH "set",x,e]) mu) ((bG () ()).trans ((bG () ()).trans ((bG () ()).trans O)))
def abm:km [ZB [ZH "put",x,e,f]] mu=!(Zs (R [e,f]),mu):=
 aO (Y:=E1 (ZB [ZH "put",x,e,f]) mu) ((bG () ()).trans ())
def xR(p:Pl P k e)(i:PA mu n P)(j:g (dw n k [zS e.r.pv,J,J,J] mu)=ZN):aF og g (dw n k [J,J,J,J] mu)=ZN:=
 aH (bu (kO O O O O (tu i.pl p.at_) i.pl) O O) j
abbrev LD(p:PV)(k:Nat)(r:PV)(o3 o4 o5 o6 o7 o8 o9 ol:Option Lc)(mu:Mu):Ev:=#[[zS p,zI (k:Nat),zS r,o3,o4,o5,o6,o7,o8,o9,ol],mu]
def on(hk:k<256)(i:g (LD p k r (!(Zp (ZH ("at " ++ lF k)))) J J J J J J J mu)=ZN):aF EK g (LD p k r J J J J J J J J mu)=ZN:=
 aH (bu (Wb O hk ()) O O) i
section
variable {P:Pg}{k:Nat}{e:eR}
def adH(p:Pl P k e)(hk:k<256)(j:e.r.pv=ZB [ZH "set",ZH x,a])(q:-x<=100)(i:XG a):Dn P k e (gB k x [a]) (gE k x [a]):=by
 have D:∀y∈[a],XG y:=λy N=>by rw[gT.mp N];show i
 show#[gL (Oi (z:=(x,a)) i) (),gL (w_ (z:=(x,a)) i) (),λy=>w6,λmu n F=>?_,λmu=>?_]
 . show aO (Y:=dw n k [!(Zp (ZB [ZH "set",ZH x,a])),J,J,J] mu) (xR p F ?_);rw[j];show d7 (rZ (bw (pJ O)) ()) () (cT (aR (aA O (aA O (aA (aR O O O O abl) O))) O O O (En hk q D (by simp))))
 . rw[j];show aO (Y:=LD P.pv k (ZB [ZH "set",ZH x,a]) (!(Zp (ZH ("at " ++ lF k)))) J J J J J J J mu) (on hk ?_);show d7 (bw (pJ O)) () (cT (aR O O O O (value_eq hk q D (by simp))))
def adI(p:Pl P k e)(hk:k<256)(z:e.r.pv=ZB [ZH "put",ZH x,a,b])(D:-x<=100)(i:XG a)(j:XG b):Dn P k e (gB k x [a,b]) (gE k x [a,b]):=by
 have F:∀y∈[a,b],XG y:=λy q=>by
  obtain rfl|q:=d5.mp q
  . show i
  . rw[gT.mp q];show j
 let l1:=GC (x:=x) i;let l2:=GC (x:=x) j;let Q:=rj (x:=x) i;let W:=rj (x:=x) j;show#[by simp[gB];lia,by simp[gE];lia,λy=>w6,λmu n N=>?_,λmu=>?_]
 . show aO (Y:=dw n k [!(Zp (ZB [ZH "put",ZH x,a,b])),J,J,J] mu) (xR p N ?_);rw[z];show d7 (rZ (bw (pJ O)) ()) () (cT (aR (aA O (aA O (aA (aR O O O O abm) O))) O O O (En hk D F (by simp))))
 . rw[z];show aO (Y:=LD P.pv k (ZB [ZH "put",ZH x,a,b]) (!(Zp (ZH ("at " ++ lF k)))) J J J J J J J mu) (on hk ?_);show(bG (bw (pJ O)) ()).trans (d7 (bw (pJ O)) () (cT (aR O O O O (value_eq hk D F (by simp)))))
def adJ(p:Pl P k e)(hk:k<256)(er:e.r.pv=ZB [ZH "out",ZH x,a,ZH y])(hx:-x<=100)(F:XG a):∃B E,Dn P k e B E:=by
 let(n,h1,h2,h3,h4):=xP F;let lb:=uF F;let j:List S3:=[("out","out " ++ lF k,nZ x),("done","at " ++ lF k,nZ x)];let i:Str->S3:=λb=>("let",b,"let " ++ lF k);show#[(jy a).map i++j,(zA a).map (λz=>i (nZ z))++j,by simp only[eM,eI,j,d6,eQ]at lb ⊢;lia,by simp only[eM,eI,j,d6,eQ];lia,λz=>?_,λmu n pa=>?_,λmu=>?_]
 . simp only[fw,fy];show or_congr_left #[?_,?_]
   . rintro⟨b,⟨u,Q,rfl⟩,rfl⟩;show#[u,Hy.mp Q,O]
   . rintro⟨u,Q,rfl⟩;show#[_,#[u,Hy.mpr Q,O],O]
 . let r:PV:=ZB [ZH "out",ZH x,a,ZH y];let E3:Option Lc->Ev:=λo=>dw n k [zS r,o,J,J] mu;show aO (Y:=E3 (zL ((jy a).map λb=>mV (i b)))) (xR p pa ?_);rw[er];show(bG (rZ (bw (pJ O)) (bw (pJ O))) ()).trans (d7 (bw (pJ O)) () (aH (bu (ww (r:=λb=>mV (i b)) (aR O O O O (yS F mu)) O () O O λb _=>?_) O O) (cT ?_)))
   . show dm (aA O (aA O (aA (tG O hk ()) O))) O O
   . let D:_:=E3 (zL ((jy a).map λb=>mV (i b)));have q:au bf (d_ "box ") (aJ (aa 2) (bh 1)) D=!(Zp (ZH (nZ x)),D):=dj O O O O (Be (by rw[HD];lia));rw[map_two];show dj O O (pQ (aA (dm (aA O (aA (tG O hk ()) (aA q O))) O O) (aA (dm (aA O (aA (tG O hk ()) (aA q O))) O O) O)) O O) O (Hz (by simp only[eI,j,d6,eQ]at lb ⊢;lia))
 . let r:PV:=ZB [ZH "out",ZH x,a,ZH y];let H:Option Lc:=!(Zp (ZH ("at " ++ lF k)));let W:Option Lc->Ev:=λo=>LD P.pv k r H o J J J J J J mu;let N:List PV:=(zA a).map λz=>dv k (i (nZ z));rw[er];show aO (Y:=LD P.pv k r (!(Zp (ZH ("at " ++ lF k)))) J J J J J J J mu) (on hk ?_);show(bG (bw (pJ O)) ()).trans ((bG (bw (pJ O)) ()).trans (aH O ?_));show(nA (bw (pJ O)) () (aH (bu (ww (r:=λz=>dv k (i (nZ z))) (aR O O O O (Yw h1 40 mu () ())) O () O O λz hz=>?_) O O) (bu (Y1:=W (zL N)) ?_ O O))).trans ((bG (bw (pJ O)) ()).trans O)
   . show dm (aA O (aA O (aA O (aA (rz O (h4 z hz)) (aA (Wb O hk ()) O))))) O O
   . let D:_:=W (zL N);have q:au bf (d_ "box ") (aJ (aa 2) (bh 1)) D=!(Zp (ZH (nZ x)),D):=dj O O O O (Be (by rw[HD];lia));rw[map_two];show dj O O (pQ (aA (dm (aA O (aA O (aA O (aA (Wb O hk ()) (aA q O))))) O O) (aA (dm (aA O (aA O (aA O (aA O (aA q O))))) O O) O)) O O) O (Hz (by simp only[N,eI,j,d6,eQ];lia))
def Zz(p:Pl P k e)(hk:k<256)(j:e.r.pv=ZB (ZH w::t))(D:(w== "set")=M/\(w== "put")=M/\(w== "out")=M/\(w== "call")=M):Dn P k e [] []:=by
 let(h1,h2,i,q):=D;show#[gy _,gy _,λy=>Iff.rfl,λmu n z=>?_,λmu=>?_]
 . show aO (Y:=dw n k [zS (ZB (ZH w::t)),J,J,J] mu) (xR p z ?_);rw[j];show(bG (rZ (bw (pJ O)) (bw (pJ O))) ∅).trans ((bG (bw (pJ O)) i).trans ((bG (bw (pJ O)) q).trans O))
 . rw[j];show aO (Y:=LD P.pv k (ZB (ZH w::t)) (!(Zp (ZH ("at " ++ lF k)))) J J J J J J J mu) (on hk ?_);show(bG (bw (pJ O)) h1).trans ((bG (bw (pJ O)) h2).trans (aH O ((bG (bw (pJ O)) i).trans ((bG (bw (pJ O)) q).trans O))))
end
end
noncomputable section
variable [HK][FN]
theorem Rx:∀{xs ys:List Str},xs.map (λx=>PV.tup [ZH x,.non])=ys.map (λx=>PV.tup [ZH x,.non])->xs=ys
 |[],[],_=>rfl
 |[],y::ys,h=>by cases h
 |x::xs,[],h=>by cases h
 |x::xs,y::ys,h=>by injection h with h1 h2;injection h1 with h1;injection h1 with h1 _;injection h1 with h1;rw[h1,Rx h2]
theorem FQ:∀{fs:List Fn},(fs.map Fn.name).Nodup->∀f∈fs,∀g∈fs,f.name=g.name->f=g
 |[]=>λ_ f i _ _ _=>by cases i
 |x::fs=>λD f i g j e=>by
  let(z,F):=ip.mp D;obtain q|q:=d5.mp i
  . obtain r|r:=d5.mp j
    . rw[q,r]
    . show(z ∅).elim
  . obtain r|r:=d5.mp j
    . show(z ∅).elim
    . show FQ F f q g r e
def pnm:PV->Str
 |ZB (ZH x::_)=>x
 |_=>""
def oq(f:Fn):List Str:=f.params.map pnm
def rL(h:f.params=xs.map λx=>ZB [ZH x,.non]):oq f=xs:=by unfold oq;rw[h,im];show List.map_id'' (λ_=>O) xs
def zam{α β:Type}{f g:α->List β}{l:List α}{y:β}(h:∀x∈l,y∈f x ↔ y∈g x):y∈l.flatMap f ↔ y∈l.flatMap g:=by simp only[List.mem_flatMap];show#[λ⟨x,hx,q⟩=>#[x,hx,(h x hx).mp q],λ⟨x,hx,q⟩=>#[x,hx,(h x hx).mpr q]]
theorem uM{α β:Type}{f:α->List β}:∀{l:List α},(∀x∈l,-(f x)<=c)->-(l.flatMap f)<=c*-l
 |[]=>λ_=>gy _
 |x::l=>λh=>by let h1:=h x ed;let h2:=uM λy i=>h y (e_ _ i);rw[List.flatMap_cons,eM,d6,Nat.mul_succ];lia
section
variable {P:Pg}{k:Nat}{e:eR}
abbrev FR:SF:=aL 4 EL
abbrev FU:SF:=cC EI (fX EG vw FR) bR
def i5(k:Nat)(n:Str)(as:List PV)(f:Fn):List S3:=if (f.name==n)=G then ((oq f).zip as).flatMap (cE k) else []
def abn(h:P.fine)(p:Pl P k e)(hk:k<256)(hF:∀n,FN.fn n->∃f∈P.fns,f.name=n)(er:e.r=.call b m as):∃B E,Dn P k e B E:=by
 let ok:=p.he.ok;rw[er]at ok;let((x,rfl,hx),hn,ha,hla,lq):=ok;let(f,hf,fe):=hF m lq;let(xs,ex,lx,sx):=h.ok.pm f hf;let C:S3:=("call","at " ++ lF k,"enter " ++ m);let zs:_:=xs.zip as;have hz:∀z∈zs,-z.1<=100/\XG z.2:=λz hz=>by let(h1,h2):=kz hz;show#[sx _ h1,ha _ h2]
 have lz:-zs<=4:=by show -(xs.zip as)<=4;rw[List.length_zip];lia
 have l6:-("enter " : Str)=6:=by decide +kernel
 let r:PV:=(c9.call (ZH x) m as).pv;have lB:-(zs.flatMap (cB k))<=10*-zs:=uM λz q=>Oi (hz z q).2;have fl:∀g∈P.fns,-((oq g).zip as)<=4/\∀z∈(oq g).zip as,-z.1<=100/\XG z.2:=λg hg=>by let(ys,ey,ly,sy):=h.ok.pm g hg;rw[rL ey];show#[by rw[List.length_zip];lia,λz hz=>?_];let(h1,h2):=kz hz;show#[sy _ h1,ha _ h2]
 have fE:∀g∈P.fns,-(i5 k m as g)<=40:=λg hg=>by
  unfold i5;split
  . have:=uM (f:=cE k) λz hz=>w_ ((fl g hg).2 z hz).2;have:=(fl g hg).1;lia
  . show gy _
 let lE:=uM fE;let l4:=h.ok.fl;show#[C::zs.flatMap (cB k),C::P.fns.flatMap (i5 k m as),by simp only[d6];lia,by simp only[d6];lia,λy=>?_,λmu n pa=>?_,λmu=>?_]
 . rw[d5,d5];show or_congr_right ?_;have q:y∈zs.flatMap (cB k) ↔ y∈i5 k m as f:=by unfold i5;rw[dA (by rw[fe];show kg m),rL ex];show zam λz _=>w6
   rw[q,List.mem_flatMap];show#[λq=>#[f,hf,q],λz85=>?_];let(g,hg,q):=z85;by_cases e1:g.name=m
   . rw[<-FQ h.ok.nd g hg f hf (e1.trans fe.symm)];show q
   . unfold i5 at q;rw[dQ (by rw[beq_iff_eq];show e1)]at q;cases q
 . let(ys,ey,_,_,pe):=V8 pa hf;rw[<-Rx (ex.symm.trans ey),fe]at pe;let E3:List S3->Option Lc->Option Lc->Ev:=λA o q=>dw n k [zS r,zO ((C::A).map mV),o,q] mu;let(Y',e1,o,q,rfl,_):=uG (b:=fC 2 SU) (body:=gb 3 Cf) (λz:Str×PV=>ZB [ZH z.1,z.2]) (λj Y=>∃o q,Y=E3 (j.flatMap (cB k)) o q/\-(j.flatMap (cB k))<=10*-j) zs [] (E3 [] J J) #[J,J,O,eK _] λj z hp hm Y z86=>by let(o,q,eY,hy):=z86;subst eY;simp only[eQ]at hp;let(g1,g2):=hz z hm;let lc:=Oi (k:=k) g2;show#[E3 (j.flatMap (cB k)) (zT z.1) (zS z.2),E3 ((j++[z]).flatMap (cB k)) (zT z.1) (zS z.2),O,?_,_,_,O,by rw[pK,eM,eM];simp only[d6,eQ];lia];rw[pK];show jZ (ps:=(cB k z).map mV) O (aR O O O O (En hk g1 (λy hy=>by rw[gT.mp hy];show g2) (by simp))) O O (by simp only[eI,d6];lia) ?_;show dw n k [_,zO ((C::j.flatMap (cB k)).map mV++(cB k z).map mV),_,_] mu=dw n k [_,zO ((C::(j.flatMap (cB k)++cB k z)).map mV),_,_] mu;rw[<-fx];rfl
   rw[hJ,<-Zy]at e1;show aO (Y:=dw n k [zS r,J,o,q] mu) (xR p pa ?_);rw[er];show(bG (rZ (bw (pJ O)) (bw (pJ O))) ()).trans ((bG (bw (pJ O)) ()).trans (d7 (bw (pJ O)) () (aH (bu (pQ (aA (dm (aA O (aA (tG O hk ()) (aA (dj O O O O (Be ())) O))) O O) O) O O) O O) (aH (eO (FO (kO (Y2:=E3 [] J J) (ps:=[ZH m]) O O O O pe pa.pl) O O O) e1) O))))
 . let H:Option Lc:=!(Zp (ZH ("at " ++ lF k)));let F:List S3->Option Lc->Option Lc->Option Lc->Option Lc->Option Lc->Option Lc->Ev:=λA o5 o6 o7 o8 D i=>LD P.pv k r H (zO ((C::A).map (dv k))) o5 o6 o7 o8 D i mu;let(Y',e1,o5,o6,o7,o8,D,i,rfl,_):=uG (b:=fC 4 EJ) (body:=FU) Fn.pv (λj Y=>∃o5 o6 o7 o8 D i,Y=F (j.flatMap (i5 k m as)) o5 o6 o7 o8 D i/\-(j.flatMap (i5 k m as))<=40*-j) P.fns [] (F [] J J J J J J) #[J,J,J,J,J,J,O,eK _] λj g hp hm Y z87=>by
    let(o5,o6,o7,o8,D,i,eY,hy):=z87
    subst eY;simp only[eQ]at hp;let fg:=fE g hm;let A:_:=j.flatMap (i5 k m as);have yT:-A<=40*-j:=hy;let ZT:List S3->Option Lc->Option Lc->Ev:=λA D i=>F A (zT g.name) (zS g.rank) (zL g.params) (zL g.rows.pvs) D i;have t:tT Up aY (ZT A D i)=!(g.name==m,ZT A D i):=Bv (p:=.bl (g.name==m)) (dj (p:=ZH g.name) (q:=ZH m) O O O O O) O O;have lA:-(A++i5 k m as g)<=40*-(j++[g]):=by rw[eM,eM];simp only[d6,eQ];lia
    suffices hs:∃Q N,FU (ZT A D i)=some (.nx (ZT (A++i5 k m as g) Q N)) by let(Q,N,hs):=hs;show#[ZT A D i,ZT (A++i5 k m as g) Q N,O,hs,_,_,_,_,_,_,by rw[pK],by rw[pK];show lA]
    cases hb:(g.name==m) with
    |false=>
     show#[D,i,FI t hb ?_];rw[show i5 k m as g=[] from dQ (by rw[hb];decide),f_];rfl
    |true=>
     let(ys,ey,ly,sy):=h.ok.pm g hm;have eg:i5 k m as g=(ys.zip as).flatMap (cE k):=by rw[show i5 k m as g=_ from dA hb,rL ey]
     let pG:=(fl g hm).2;rw[rL ey]at pG;rw[eg]at fg ⊢;let(Y2,e2,Q,N,rfl,_):=uG (b:=fC 2 S1) (body:=FR) (λz:Str×PV=>ZB [ZB [ZH z.1,.non],z.2]) (λpr Y=>∃Q N,Y=ZT (A++pr.flatMap (cE k)) Q N/\-(pr.flatMap (cE k))<=10*-pr) (ys.zip as) [] (ZT A D i) #[D,i,by rw[List.flatMap_nil,f_],eK _] λpr z hq hzm Y z88=>by let(Q,N,eY,AS):=z88;subst eY;simp only[eQ,List.length_zip]at hq;let(g1,g2):=pG z hzm;let lc:=w_ (k:=k) g2;let bX:Option Lc:=zS (ZB [ZH z.1,.non]);let xa:Option Lc:=zS z.2;let B:_:=A++pr.flatMap (cE k);let G':Ev:=LD P.pv k r H (zL ((C::B).map (dv k))) (zT g.name) (zS g.rank) (zL g.params) (zL g.rows.pvs) bX xa mu;show#[ZT B bX xa,ZT (A++(pr++[z]).flatMap (cE k)) bX xa,O,?_,_,_,O,by rw[pK,eM,eM];simp only[d6,eQ];lia];rw[pK,<-fm];show bu (l:=Zs (R ((C::(B++cE k z)).map (dv k)))) (Y1:=G') (dj (p:=R ((C::B).map (dv k))) (q:=R ((cE k z).map (dv k))) (Y1:=G') O O (aR (ps:=[ZI (k:Nat),ZH z.1,R [z.2]]) (Y1:=G') O O O O (value_eq hk g1 (λy hy=>by rw[gT.mp hy];show g2) (by simp))) O ?_) O O;rw[Hz (by simp only[B,eI,d6,eM];lia),<-fx];rfl
     rw[hJ,<-FL,<-ey]at e2;show#[Q,N,FH t hb (eO (Y1:=ZT A D i) (FO (Y1:=ZT A D i) (ps:=g.params) (qs:=as) O O O O) e2)]
   rw[hJ]at e1;rw[er];show aO (Y:=LD P.pv k r H J o5 o6 o7 o8 D i mu) (on hk ?_);show(bG (bw (pJ O)) ()).trans ((bG (bw (pJ O)) ()).trans (aH (Y':=LD P.pv k r H (zO []) J J J J J J mu) O ((bG (bw (pJ O)) ()).trans ((nA (Y2:=F (P.fns.flatMap (i5 k m as)) o5 o6 o7 o8 D i) (bw (pJ O)) () (aH (Y':=F [] J J J J J J) (bu (pQ (aA (dm (aA (Y1:=LD P.pv k r H (zO []) J J J J J J mu) O (aA O (aA O (aA O (aA (dj (p:=ZH "enter ") (q:=ZH m) O O O O (Be ())) O))))) O O) O) O O) O O) (eO (Y1:=F [] J J J J J J) (dC (l:=Zp (R (P.fns.map Fn.pv))) O O) e1))).trans O))))
def aet(h:P.fine)(p:Pl P k e)(N:∀n,FN.fn n->∃f∈P.fns,f.name=n):∃B E,Dn P k e B E:=by
 have hk:k<256:=by have:=oX h;have:=p.lt;lia
 let ok:=p.he.ok;cases j:e.r with
 |leaf w ps=>
  rw[j]at ok;have z:e.r.pv=ZB (ZH w::ps):=by rw[j];rfl
  let(_,W):=ok;cases W with
  |set_ q i=>show#[_,_,adH p hk z q i]
  |put q i Q=>show#[_,_,adI p hk z q i Q]
  |out y q i=>show adJ p hk z q i
 |call b n as=>show abn h p hk N j
 |wh x b=>show#[_,_,Zz p hk (w:="while") (by rw[j];rfl) ()]
 |iff x b c=>show#[_,_,Zz p hk (w:="if") (by rw[j];rfl) ()]
def abo(p:Pl P k e)(hk:k<256):∃A:List (Str×Str),-A<=3/\∀mu n,PA mu n P->j4 [ZA n,ZI (k:Nat)] mu=!(Zs (R (A.map jc)),mu):=by
 have z:∀{mu:Mu}{n:Nat},PA mu n P->∀{g:SF}{ZN:Option Fl},g (dw n k [zS e.r.pv] mu)=ZN->aF og g (dw n k [J] mu)=ZN:=λ{mu n} j {g ZN} hg=>aH (bu (kO O O O O (tu j.pl p.at_) j.pl) O O) hg;have t:∀{mu:Mu}{n:Nat}{w:Str}{t:List PV},tT BQ aY (dw n k [zS (ZB (ZH w::t))] mu)=!(not (w== "call"),dw n k [zS (ZB (ZH w::t))] mu):=λ{mu n w t}=>Bv (dj (pJ O) O O O O) O O;have q:∀{w:Str}{ps:List PV},e.r.pv=ZB (ZH w::ps)->(w== "call")=M->∃A:List (Str×Str),-A<=3/\∀mu n,PA mu n P->j4 [ZA n,ZI (k:Nat)] mu=!(Zs (R (A.map jc)),mu):=λ{w ps} i hw=>#[[],gy _,λmu n j=>by show aO (Y:=dw n k [zS (ZB (ZH w::ps))] mu) (z j ?_);rw[i];show d7 t ∅ O]
 let ok:=p.he.ok;cases i:e.r with
 |leaf w ps=>rw[i]at ok;show q (by rw[i];rfl) ok.1.2.2
 |wh x b=>show q (w:="while") (by rw[i];rfl) ()
 |iff x b c=>show q (w:="if") (by rw[i];rfl) ()
 |call b m F=>
  rw[i]at ok;let((x,rfl,N),Q,_):=ok;have W:-("leave " : Str)=6:=by decide +kernel
  let S:List Str:=[nZ m,"at " ++ lF k,"leave " ++ m];show#[S.map λy=>(y,nZ x),by simp[S],λmu n j=>?_];let r:PV:=(c9.call (ZH x) m F).pv;let E3:_:=dw n k [zS r] mu;rw[mm];show aO (Y:=E3) (z j ?_);rw[i];show(bG t ()).trans (cT (ww (Y1:=E3) (dm (aA (dj O O O O (Be (by rw[HD];lia))) (aA (tG O hk ()) (aA (dj O O O O (Be ())) O))) O O) O ∅ O O λy _=>?_));show dm (aA O (aA (dj O O O O (Be (by rw[HD];lia))) O)) O O
end
end
noncomputable section
variable [HK][FN]
abbrev kp(l:List aV):PV:=ZB (l.map wU)
noncomputable abbrev rt (k:Nat) (t:Int) (y:S3):List aV:=[!(.inl (k:Int)),!(.inl t),!(.inr y.1),!(.inr y.2.1),!(.inr y.2.2)]
def JC(l:List aV):Prop:=∃k t y,l=rt k t y
theorem abp:∀k:aV,SQ (wU k)=!k
 |none=>rfl
 |some (.inl _)=>rfl
 |some (.inr _)=>rfl
theorem JD:∀l:List aV,BV (l.map wU)=!l
 |[]=>rfl
 |k::l=>by show ((SQ (wU k)).bind λx=>(BV (l.map wU)).map (x::·))=_;rw[abp,JD l];rfl
theorem JF:∀L:List (List aV),BW (L.map kp)=!L
 |[]=>rfl
 |l::L=>by show ((BV (l.map wU)).bind λx=>(BW (L.map kp)).map (x::·))=_;rw[JD,JF L];rfl
def aeu(h:∀l∈L,JC l):Vu L=G:=by
 cases L with
 |nil=>rfl
 |cons l L=>
  let(k,t,y,rfl):=h l ed;unfold Vu;rw[iX,List.all_eq_true];show#[O,λx i=>?_];let(j,z,q,rfl):=h x i;rfl
def Oj(h:f Y=!(l,Y1))(j:l.pv=R (L.map kp))(i:-L<9000)(q:∀l∈L,JC l):sX f Y=!(Zs (R ((jV L).map kp)),Y1):=by unfold sX;rw[h,eH,j];show ((BW (L.map kp)).bind _)=_;rw[JF,eH,dA #[i,aeu q]]
structure RR where
 A:List (Str×Str)
 B:List S3
 C:List (Str×Str)
 D:List (Str×Str)
 E:List S3
structure RR.ok(P:Pg)(k:Nat)(e:eR)(ZN:RR):Prop where
 lA:-ZN.A<=103
 lC:-ZN.C<=3
 lD:-ZN.D<=47
 tA:∀mu n,PA mu n P->jH [.ptr n,.int (k:Nat)] mu=!(.own (.lst (ZN.A.map jc)),mu)
 tC:∀mu n,PA mu n P->j4 [.ptr n,.int (k:Nat)] mu=!(.own (.lst (ZN.C.map jc)),mu)
 tD:∀mu n,PA mu n P->lu [.ptr n,.int (k:Nat)] mu=!(.own (.lst (ZN.D.map jc)),mu)
 dn:Dn P k e ZN.B ZN.E
def rA(k:Nat)(a:Str×Str):List aV:=rt k 0 (a.1,a.2,"at " ++ lF k)
def rC(k:Nat)(a:Str×Str):List aV:=rt k 2 ("back",a.1,a.2)
def rD(k:Nat)(a:Str×Str):List aV:=rt k 3 ("leave",a.1,a.2)
def RR.ks(k:Nat)(ZN:RR):List (List aV):=ZN.A.map (rA k)++(ZN.B.map (rt k 1)++(ZN.C.map (rC k)++ZN.D.map (rD k)))
def RR.is{ZN:RR}:∀l∈ZN.ks k,JC l:=λl i=>by unfold RR.ks at i;simp only[fw,fy]at i;rcases i with ⟨y,_,rfl⟩|⟨y,_,rfl⟩|⟨y,_,rfl⟩|⟨y,_,rfl⟩<;>show#[_,_,_,O]
def adK(h:P.fine)(j:∀n,FN.fn n->∃f∈P.fns,f.name=n):∃f:Nat->RR,∀k,k< -P.es->∃e,(f k).ok P k e/\P.rws[k]?=!e.r:=by
 show Classical.axiomOfChoice (r:=λk ZN=>k< -P.es->∃e,RR.ok P k e ZN/\P.rws[k]?=!e.r) λk=>?_;by_cases hk:k< -P.es
 . let(e,p,z):=Ku h hk;let hl:=oX h;let(A,i,tA):=YC h p;let(B,E,N):=aet h p j;let(C,W,tC):=abo p ();let(D,F,Q):=YD h p;show#[#[A,B,C,D,E],λ_=>#[e,#[i,W,F,tA,tC,Q,N],z]]
 . show#[#[[],[],[],[],[]],λq=>absurd q hk]
abbrev ruB:SF:=(aF CB
 (aF va
 (aF Ct
 CA)))
abbrev RU(p:PV)(n:Nat)(L:List (List aV))(o:Option Lc)(mu:Mu):Ev:=#[[zS p,zS (ZA n),zO (L.map kp),o],mu]
def Ol{α:Type}(f:α->List aV)(l:List α):(l.map λa=>kp (f a))=(l.map f).map kp:=by rw[im];rfl
def GD(h:f (RU p n L o mu)=!(Zs (R ps),RU p n L o mu))(e:ps=L'.map kp)(hz:-L+-L'<=100000):gb 2 f (RU p n L o mu)=!(.nx (RU p n (L++L') o mu)):=by subst e;show jZ O h O O ∅ ?_;show (#[[_,_,zO (L.map kp++L'.map kp),_],mu]:Ev)=#[[_,_,zO ((L++L').map kp),_],mu];rw[fx]
def YF(h:P.fine){f:Nat->RR}(hf:∀k,k< -P.es->∃e,(f k).ok P k e/\P.rws[k]?=!e.r)(mu:Mu):∃F,Hi [P.pv] mu=!(Zs (R ((jV ((List.range (-P.es)).flatMap λk=>(f k).ks k)).map kp)),F):=by
 let(d,B,hd,ei):=UQ h.ok mu;let i:_:=mu++some (gf "Plan" (Q0 P.es (-mu+1) (nG d)))::B;have z:PA i (-mu) P:=#[_,_,Td,hd];let hl:=oX h;let g:Nat->List (List aV):=λk=>(f k).ks k;let E:_:=RU P.pv (-mu);let(Y',e1,o,rfl,l1):=uG (b:=aC 3) (body:=ruB) (λk:Nat=>ZI (k:Nat)) (λj Y=>∃o,Y=E (j.flatMap g) o i/\-(j.flatMap g)<=194*-j) (List.range (-P.es)) [] (E [] J i) #[J,O,eK _] λj k hp Q Y ⟨o,eY,N⟩=>by
  subst eY;simp only[eQ,ik]at hp;let(e,ZN,_):=hf k (List.mem_range.mp Q);have hk:k<256:=by have:=List.mem_range.mp Q;lia
  let K:Option Lc:=zI (k:Nat);let L:_:=j.flatMap g;have N:-L<=194*-j:=N;have gk:-(g k)=-((f k).ks k):=O;let lA:=ZN.lA;let lB:=ZN.dn.lB;let lC:=ZN.lC;let lD:=ZN.lD;have lk:-((f k).ks k)<=194:=by unfold RR.ks;simp only[eM,eI];lia
  show#[E L K i,E ((j++[k]).flatMap g) K i,O,?_,_,O,by rw[pK,eM,eM];simp only[d6,eQ];lia];rw[pK];show _=!(Fl.nx (E (L++(f k).ks k) K i));unfold RR.ks;rw[<-fm,<-fm,<-fm];show aH (GD (Th (r:=λa=>kp (rA k a)) (aR O O O O (ZN.tA i _ z)) O () O O λa _=>?_) (Ol _ _) (by rw[eI];lia)) ?_
  . show dm (aA O (aA O (aA O (aA O (aA (tG O hk ()) O))))) O O
  show aH (GD (afi (r:=λa=>kp (rt k 1 a)) (aR O O O O (ZN.dn.told i _ z)) O () O O λa _=>O) (Ol _ _) (by simp only[eM,eI];lia)) ?_;show aH (GD (Th (r:=λa=>kp (rC k a)) (aR O O O O (ZN.tC i _ z)) O () O O λa _=>O) (Ol _ _) (by simp only[eM,eI];lia)) ?_;show GD (Th (aR O O O O (ZN.tD i _ z)) O () O O λa _=>O) (Ol _ _) (by simp only[eM,eI];lia)
 rw[hJ]at e1 l1;rw[ik]at l1;show#[i,aO (Y:=#[[zS P.pv,zS (ZA (-mu)),zL (((List.range (-P.es)).flatMap g).map kp),o],i]) ?_];show aH (bu (UN O O ei) O O) (aH O (aH (eO (dC (kO O O O O (Ti z.pl ()) z.pl) O) e1) (cT (Oj O O (by show -((List.range P.es.length).flatMap g)<9000;lia) λl D=>?_))));let(k,_,q):=List.mem_flatMap.mp D;show RR.is l q
end
noncomputable section
variable [HK]
section
variable [FN]
abbrev LW(S P:PV)(a2 a3 a4 a5 a6 a7 a8 a9 k7:Option Lc)(mu:Mu):Ev:=#[[zS S,zS P,a2,a3,a4,a5,a6,a7,a8,a9,k7],mu]
abbrev xb:SF:=Bw 2 vW
def Ry{mu:Mu}:MA (mu++[!(R acc)]) (-mu) acc=mu++[!(R acc)]:=Te
def abq{rs:Rows}(ok:rs.ok)(z:rs.dep<=40)(D:-acc+rs.cnt<=1000):∃q,xb (LW S P (zO acc) (zI (k:Nat)) a4 a5 a6 (zL rs.pvs) a8 a9 k7 mu)=!(.nx (LW S P (zO (acc++gm k rs.rws)) (zI ((k+rs.cnt:Nat):Int)) a4 a5 a6 (zL rs.pvs) a8 a9 k7 q)):=by
 let j:Mu:=mu++[!(R acc)];have lt:-mu< -j:=by simp[j]
 let e:=VL (k:=k) lt ok z D;rw[Ry]at e;let i:_:=MA j (-mu) (acc++gm k rs.rws);show#[i.set (-mu) J,?_];have st:vW (LW S P (zO acc) (zI (k:Nat)) a4 a5 a6 (zL rs.pvs) a8 a9 k7 mu)=!(.nx (LW S P (zS (ZA (-mu))) (zI ((k+rs.cnt:Nat):Int)) a4 a5 a6 (zL rs.pvs) a8 a9 k7 i)):=by show aL 3 _ (LW S P (zS (ZA (-mu))) (zI (k:Nat)) a4 a5 a6 (zL rs.pvs) a8 a9 k7 j)=_;show bu (aR O O O O e) O O
 unfold xb Bw;rw[st,eH];show (match i[-mu]? with |some (!p)=>some (Ev.mk _ _) |_=>J).map _=_;rw[show i[-mu]?=some (!(R (acc++gm k rs.rws))) from Gr lt];rfl
theorem Wc:∀(fs:List Fn)(acc:List PV)(k:Nat)(Q D F N q z i:Option Lc)(mu:Mu),(∀f∈fs,f.rows.ok/\f.rows.dep<=11)->-acc+d8 fs<=1000->∃p4 W p6 p7 j,eN EO xb (fs.map Fn.pv) (LW S P (zO acc) (zI (k:Nat)) Q D F N q z i mu)=!(.nx (LW S P (zO (acc++gm k (lN fs))) (zI ((k+d8 fs:Nat):Int)) p4 W p6 p7 q z i j))
 |[]=>λacc k Q D F N q z i mu _ _=>#[Q,D,F,N,mu,by simp[eN,lN,gm,d8]]
 |f::fs=>λacc k Q D F N q z i mu h hl=>by
  simp only[d8]at hl;let(h1,h2):=h f ed;let(i7,e1):=abq (acc:=acc) h1 () ();let(p4,W,p6,p7,j,e2):=Wc fs (acc++gm k f.rows.rws) (k+f.rows.cnt) (zT f.name) (zS f.rank) (zL f.params) (zL f.rows.pvs) q z i i7 (λg hg=>h g (e_ _ hg)) (by rw[eM,xJ,Rows.rws_len];lia);show#[p4,W,p6,p7,j,gw O e1 (e2.trans ?_)];have e3:k+f.rows.cnt+d8 fs=k+d8 (f::fs):=by simp only[d8];lia
  have e4:acc++gm k f.rows.rws++gm (k+f.rows.cnt) (lN fs)=acc++gm k (lN (f::fs)):=by simp[lN,xH,Rows.rws_len]
  rw[e3,e4]
theorem Wd:∀(i:Nat)(rs:List c9),gm i rs=(rs.zipIdx i).map λx=>ZB [ZI (x.2:Nat),x.1.pv]
 |i,[]=>rfl
 |i,r::rs=>by rw[List.zipIdx_cons,fU,<-Wd (i+1) rs];rfl
def abr(h:f Y=!(Zp (.bl G),Y1))(h2:g Y1=ZN):Ma f g Y=ZN:=by unfold Ma;rw[h,eH];show h2
def afl(h:JC l):fl (kp l):=by let(k,t,y,rfl):=h;show#[O,by show 1+1<=20;decide]
def We{L:List (List aV)}(h:∀l∈L,JC l):fB (R (L.map kp)) (R (L.map kp))=zS (.bl G):=by
 show (dH 150 (R (L.map kp)) (R (L.map kp))).map _=_;rw[jr λp i=>by let(l,j,rfl):=fy.mp i;show jl (afl (h l j)) ()]
 rfl
def c1:PV->Bool
 |ZB (_::ZI t::_)=>t==1
 |_=>M
def abt{L:List (List aV)}(j:aa i Y0=!(Zp (R (L.map kp)),Y))(h:∀l∈L,JC l)(D:-L<=100000):bU (dh (aa i) bJ) 1 [] (aC 0) EN (aa 0) Y0=!(Zs (R ((L.filter λl=>c1 (kp l)).map kp)),Y):=by
 let c:=yu (b:=aC 0) (tc:=tT UA aY) (te:=aa 0) (λU=>∃o,U=#[[o],Y.mu]) (λU ⟨o,e⟩=>by rw[e]) c1 id (xs:=L.map kp) (Y:=#[[J],Y.mu]) (acc:=[]) #[_,O] ∅ λx q U ⟨o,e⟩=>by let(l,z,rfl):=fy.mp q;let(k,t,y,rfl):=h l z;subst e;show#[_,O,_,O,#[_,O],λ_=>#[_,_,O,O,_,O]]
 rw[hJ,List.map_id,List.filter_map]at c;show eF (dC j O) c
theorem Om:∀l:List (List aV),-(uY k l)<=-l+1
 |[]=>eK _
 |x::l=>by
  have:=Om (k:=k) l;unfold uY;split
  . show eK _
  . split<;>simp only[d6]<;>lia
theorem JG:∀l:List (List aV),-(jV l)<=-l
 |[]=>eK _
 |k::l=>by let h1:=JG l;let h2:=Om (k:=k) (jV l);show -(uY k (jV l))<=_;rw[d6];lia
end
def law_true(ns:List Int)(hl:-ns<=63):∃mu,S6 [R (ns.map PV.int)] []=!(Zp (.bl G),mu):=by
 let(F,P,h,hF,ep):=Tg ns hl;let(i7,e1):=ep [];let S:PV:=R (ns.map PV.int);let FC:=h.ok.ct;let(f,hf):=adK h hF;let el:=oX h;let(p4,p5,p6,p7,i,e4):=Wc P.fns [] 0 J J J J J J J i7 (λf hf=>#[(h.ok.fn f hf).1,h.fd f hf]) (by simp only[eQ];lia);rw[hJ,ke]at e4;let A1:_:=gm 0 (lN P.fns);have wn:-A1=d8 P.fns:=by show -(gm 0 (lN P.fns))=_;rw[xJ,vq]
 let Q:Mu:=i++[!(R A1)];have lt:-i< -Q:=by simp[Q]
 let e5:=VL (k:=d8 P.fns) (acc:=A1) lt h.ok.rw (by have:=h.dd;lia) ();rw[Ry]at e5;let A2:_:=A1++gm (d8 P.fns) P.rows.rws;have eA2:A2=P.rws.zipIdx.map λx=>ZB [ZI (x.2:Nat),x.1.pv]:=by rw[<-Wd];show gm 0 (lN P.fns)++gm (d8 P.fns) P.rows.rws=gm 0 (lN P.fns++P.rows.rws);rw[xH,vq,ke]
 let rQ:_:=MA Q (-i) A2;let K:Option Lc:=zI (d8 P.fns:Nat);let z:_:=rQ.set (-i) J;let T:Option Lc:=zL A2;let g:c9×Nat->List (List aV):=λx=>(f x.2).E.map (rt x.2 1);let V:List (List aV)->Option Lc->Option Lc->Ev:=λL o3 o9=>LW S P.pv T o3 p4 p5 p6 p7 (zO (L.map kp)) o9 J z;have hx:∀x∈P.rws.zipIdx,∃e,(f x.2).ok P x.2 e/\e.r=x.1:=λx hx=>by let q:=List.mem_zipIdx_iff_getElem?.mp hx;let(e,ZN,er):=hf x.2 (by rw[<-Bf];show(fS.mp q).1);rw[q]at er;show#[e,ZN,(gt er).symm]
 let(Y',e6,q3,q9,rfl,l6):=uG (b:=fC 2 (aW (aC 3) (aW (aC 9) fu))) (body:=EM) (λx:c9×Nat=>ZB [ZI (x.2:Nat),x.1.pv]) (λj Y=>∃o3 o9,Y=V (j.flatMap g) o3 o9/\-(j.flatMap g)<=161*-j) P.rws.zipIdx [] (V [] K J) #[K,J,O,eK _] λj x hp hm Y ⟨o3,o9,eY,hy⟩=>by subst eY;simp only[eQ,List.length_zipIdx,Bf]at hp;let(e,ZN,er):=hx x hm;let lE:=ZN.dn.lE;let X3:Option Lc:=zI (x.2:Nat);let X9:Option Lc:=zS x.1.pv;let L:_:=j.flatMap g;have hy:-L<=161*-j:=hy;have gx:-(g x)=(f x.2).E.length:=eI _;let V':Ev:=LW S P.pv T X3 p4 p5 p6 p7 (zL (L.map kp)) X9 J z;show#[V L X3 X9,V ((j++[x]).flatMap g) X3 X9,O,?_,_,_,O,by rw[pK,eM,eM];simp only[d6,eQ];lia];rw[pK];let du:=ZN.dn.due z;rw[er,show (f x.2).E.map (dv x.2)=(g x).map kp from Ol (rt x.2 1) (f x.2).E]at du;show bu (dj (p:=R (L.map kp)) (q:=R ((g x).map kp)) O O (aR O O O O du) O ?_) O O;rw[Hz (by rw[eI,eI];lia),<-fx]
 rw[hJ]at e6 l6;rw[List.length_zipIdx,Bf]at l6;rw[<-eA2]at e6;let D:_:=P.rws.zipIdx.flatMap g;let(N,e7):=YF h hf z;let L:_:=jV ((List.range (-P.es)).flatMap λk=>(f k).ks k);let(FV,e8):=ep N;have iL:∀l∈L,JC l:=λl hl=>by let(k,_,q):=List.mem_flatMap.mp (pC.mp hl);show RR.is l q
 have iD:∀l∈D,JC l:=λl hl=>by let(x,_,q):=List.mem_flatMap.mp hl;let(y,_,rfl):=fy.mp q;show#[_,_,_,O]
 have eLD:(L.filter λl=>c1 (kp l))=jV D:=by
  show SX (yF.filter _) yF λl=>?_;rw[List.mem_filter,pC,pC,List.mem_flatMap,List.mem_flatMap];constructor
  . rintro⟨⟨k,hk,q⟩,hc⟩;let(e,ZN,er):=hf k (List.mem_range.mp hk);unfold RR.ks at q;simp only[fw,fy]at q;obtain⟨y,_,rfl⟩|⟨y,hy,rfl⟩|⟨y,_,rfl⟩|⟨y,_,rfl⟩:=q
    . cases hc
    . show#[(e.r,k),List.mem_zipIdx_iff_getElem?.mpr er,fy.mpr #[y,(ZN.dn.mem y).mp hy,O]]
    . cases hc
    . cases hc
  . rintro⟨x,FX,q⟩;let(e,ZN,er):=hx x FX;let(y,hy,rfl):=fy.mp q;show#[#[x.2,List.mem_range.mpr ?_,?_],O]
    . rw[<-Bf];show(fS.mp (List.mem_zipIdx_iff_getElem?.mp FX)).1
    . unfold RR.ks;simp only[fw,fy];show YY (Zl #[y,(ZN.dn.mem y).mpr hy,O])
 have lL:-L<=100000:=by
  let h1:=JG ((List.range (-P.es)).flatMap λk=>(f k).ks k);let h2:=uM (f:=λk=>(f k).ks k) (c:=194) λk hk=>by let(e,ZN,_):=hf k (List.mem_range.mp hk);let lA:=ZN.lA;let lB:=ZN.dn.lB;let lC:=ZN.lC;let lD:=ZN.lD;unfold RR.ks;simp only[eM,eI];lia
  rw[ik]at h2;have h3:-L<=-((List.range P.es.length).flatMap λk=>(f k).ks k):=h1;lia
 let W:Lc->Lc->Mu->Ev:=λd r mu=>LW S P.pv T q3 p4 p5 p6 p7 (!d) q9 (!r) mu;let dO:Lc:=Zs (R (D.map kp));let dS:Lc:=Zp (R (D.map kp));let rO:Lc:=Zs (R (L.map kp));let rS:Lc:=Zp (R (L.map kp));show#[FV,?_];show aO (Y:=W dS rS FV) ?_;show aH (bu (aR O O O O e1) O O) ?_;show aH O ?_;show aH O ?_;show aH (eO (Y1:=LW S P.pv (zO []) (zI ((0:Nat):Int)) J J J J J J J i7) (dC (l:=Zp (R (P.fns.map Fn.pv))) O O) e4) ?_;show aH (Y':=LW S P.pv (zO A2) K p4 p5 p6 p7 J J J z) ?_ ?_
 . have st:wQ 2 EQ (LW S P.pv (zO A1) K p4 p5 p6 p7 J J J i)=!(.nx (LW S P.pv (zS (ZA (-i))) K p4 p5 p6 p7 J J J rQ)):=by show rW _ (LW S P.pv (zS (ZA (-i))) K p4 p5 p6 p7 J J J Q)=_;show Gy (aR (ls:=[Zp (R P.rows.pvs),Zp (ZI (d8 P.fns:Nat)),Zp (ZA (-i))]) (ps:=[R P.rows.pvs,ZI (d8 P.fns:Nat),ZA (-i)]) (Y1:=LW S P.pv (zS (ZA (-i))) K p4 p5 p6 p7 J J J Q) O O O O e5)
   unfold Bw;rw[st,eH];show (match rQ[-i]? with |some (!p)=>some (Ev.mk _ _) |_=>J).map _=_;rw[show rQ[-i]?=some (!(R A2)) from Gr lt];rfl
 show aH (Y':=LW S P.pv (zO A2) K p4 p5 p6 p7 (zO []) J J z) O ?_;show aH (eO (xs:=A2) (Y1:=V [] K J) (dC (l:=Zp (R A2)) O O) e6) ?_;show aH (Y':=W dO rO N) (bu (aR (ls:=[Zp P.pv]) (ps:=[P.pv]) (Y1:=V D q3 q9) O O O O e7) O O) ?_;show cT (abr (Y1:=W dS rS N) ?_ ?_)
 . show dj (p:=R ((jV D).map kp)) (q:=R ((jV D).map kp)) (Y1:=W dO rS N) (l:=Zs (R ((jV D).map kp))) ?_ O (Oj (l:=dS) O O (by show -(P.rws.zipIdx.flatMap g)<9000;lia) iD) O (We λl hl=>iD l (pC.mp hl));rw[<-eLD];show abt O iL lL
 . show bC (x:=Zp P.pv) (y:=Zp P.pv) (Y1:=W dS rS N) O (aR (ls:=[Zp S]) (ps:=[S]) (Y1:=W dS rS N) O O O O e8) (Xt h)
end
section
variable (K:FG)(x qq:Str)(st:Stmt)(f c:Addr)
abbrev FY:Prop:=∃(oc kV dc pm cd ct:Value)(od an:Option Addr)(sl:Array (Option Value)),K.lookup f=!#[oc,od,.func (W.fnOf x qq (qO st) (jC st) (aG st) .none kV dc pm an cd ct),sl]/\W.codeIn K cd qq=G/\W.keepIn K (YV f)=G
abbrev FD:Prop:=∃f,W.nsIn K mainGlobals x=!(!(YV f))/\FY K x x st f
abbrev FM:Prop:=∃f,W.findIn K (YV c) x=!(!(YV f))/\W.isFn K (YV f)=G/\FY K x qq st f
abbrev KC:Prop:=W.nsIn K mainGlobals x=!(!(YV c))/\W.plainGet K c Str.empty=G/\W.hasDictIn K c=G/\W.plainOver K c=G/\W.findIn K (YV c) "__setattr__"=!(!(.builtin "object.__setattr__"))/\W.makesIn K c=G/\W.keepIn K (YV c)=G
abbrev HB(ps:List Str):Prop:=∀(kV kS pm:Value)(an:Option Addr)(hZ ct:Value)(us:List Value),-us=-ps->bindArgs (W.fnOf x qq (qO st) (jC st) (aG st) .none kV kS pm an hZ ct) #[us,[]]=pure (ps.zip us)
end
section
variable {K:FG}{h:Heap}{mg:Str->Option Value}{x qq:Str}{st:Stmt}{c:Addr}{ps:List Str}
def jd(X:K.In h)(ZT:h.Ns mainGlobals mg)(d:FD K x st)(i:HB x x st ps):cL K mg x st ps:=by let(f,a,_,_,_,_,_,_,_,_,_,l,e,k):=d;show#[_,_,zQ l e k,W.mg_of X ZT a,(zQ l e k).binds i]
def Di(d:FM K x qq st c)(j:HB x qq st ps):wO K c x qq st ps:=by let(f,a,i,_,_,_,_,_,_,_,_,_,l,e,k):=d;show#[_,_,zQ l e k,a,i,(zQ l e k).binds j]
def mkT(X:K.In h)(G:h.Ns mainGlobals mg)(d:KC K x c):yx K mg x c:=#[d.1,#[d.2.1,d.2.2.1,d.2.2.2.1,d.2.2.2.2.1],W.mg_of X G d.1]
def xh(n:W.findIn K (YV c) x=!J)(t:∀f∈l,kW K c f):∀f∈x::l,kW K c f:=by
 intro g i;obtain e|i:=d5.mp i
 . rw[e];show n
 . show t g i
def nan:∀f∈([]:List Str),kW K c f:=λ_ h=>nomatch h
def bc(X:K.In h)(ZT:h.Ns mainGlobals mg)(n:W.nsIn K mainGlobals x=!J)(t:QG mg l):QG mg (x::l):=by
 intro g i;obtain e|i:=d5.mp i
 . rw[e];show W.mg_none_of X ZT n
 . show t g i
def bn:QG mg []:=λ_ h=>nomatch h
end
local macro_rules | `(tactic| walk_at "b")=>`(tactic| (intro _ _ _ _ _ _ us hl; first | (obtain⟨_,e⟩:=yZ hl; subst e; rfl) | (obtain⟨_,_,e⟩:=n5 hl; subst e; rfl) | (obtain⟨_,_,_,e⟩:=AK hl; subst e; rfl) | (obtain⟨_,_,_,_,_,e⟩:=Od hl; subst e; rfl)))
def all_mk{l:W.OpenLaw}{K:FG}{h:Heap}{mg:Str->Option Value}{fa:Addr}(X:K.In h)(ZT:h.Ns mainGlobals mg)(hfa:mg "law"=!(YV fa))
 (ahG:∃c,KC K "Plan" c/\(W.findIn K (YV c) "told"=!J/\W.findIn K (YV c) "lists"=!J/\W.findIn K (YV c) "heads"=!J)/\FM K "__init__" "Plan.__init__" j8 c/\FM K "numbers" "Plan.numbers" qg c/\FM K "params" "Plan.params" rH c/\FM K "row" "Plan.row" wk c/\FM K "home" "Plan.home" u5 c/\FM K "outer" "Plan.outer" tU c/\FM K "body" "Plan.body" u6 c/\FM K "block" "Plan.block" tV c/\FM K "just_ahead" "Plan.just_ahead" mJ c/\FM K "spending" "Plan.spending" j9 c)
 (ahr:FD K "blocks_of" wj)
 (agZ:FD K "expressions_of" oR)
 (ahC:FD K "copied" yG)
 (ahf:FD K "all_copied" mG)
 (ahv:FD K "in_order" uh)
 (ahw:FD K "laid_out" ul)
 (ahx:FD K "numbered" yH)
 (ahE:FD K "reads" BX)
 (ahy:FD K "names_in" um)
 (ahD:FD K "spends" yI)
 (ahg:FD K "behind_row" pY)
 (ahF:FD K "rules" rE)
 (ahh:FD K "boxes_read" pZ)
 (ag2:FD K "begin_sources" jF)
 (ag3:FD K "first_sources" lV)
 (ag7:FD K "turn_sources" rF)
 (ahi:FD K "done_steps" qd)
 (ahb:FD K "given_steps" oA)
 (ahj:FD K "back_steps" qe)
 (ahc:FD K "leave_steps" oE)
 (ag8:FD K "_law_cell_at" rG)
 (ahk:FD K "_law_names" mH)
 (agW:FD K "_law_expression" nO)
 (ahz:FD K "_law_row" uo)
 (ahs:FD K "_law_rows" sE)
 (ahl:FD K "_law_heads" uZ)
 (ag9:FD K "_law_program" il)
 (aht:FD K "_law_read" sG)
 (ahA:FD K "_law_all" uq)
 (ahm:FD K "_law_value" uu)
 (ahB:FD K "_law_due" ur)
 (ahH:FD K "law" vP)
 (z0:W.nsIn K mainGlobals "any"=!J)
 (z1:W.nsIn K mainGlobals "enumerate"=!J)
 (z2:W.nsIn K mainGlobals "len"=!J)
 (z3:W.nsIn K mainGlobals "list"=!J)
 (z4:W.nsIn K mainGlobals "range"=!J)
 (z5:W.nsIn K mainGlobals "set"=!J)
 (z6:W.nsIn K mainGlobals "sorted"=!J)
 (z7:W.nsIn K mainGlobals "str"=!J)
 (z8:W.nsIn K mainGlobals "zip"=!J)
 (HL:∀[HK] (ns:List Int),-ns<=63->∃mu,S6 [R (ns.map PV.int)] []=!(Zp (.bl G),mu))
 : ∃fd:FuncData,(∀(s:Shared)(v:Value),BindsTo s fd #[[v],[]] [("_law_script",v)])/\∀base:Heap,K.In base->base.Ns mainGlobals mg->oK l.prog w K mg base qD 87 fa fd ["_law_script"] (Kl K):=by
 letI:HK:=#[CT l.prog w]
 have eT:HK.hk=CT l.prog w:=O;let(ag,z,(n0,n1,n2),ag0,ag4,aha,ahu,aho,ahd,ahp,ahe,agV,ag1):=ahG;let bq:=mkT X ZT z;let bi:=xh n0 (xh n1 (xh n2 (nan)));have B:QG mg BL:=bc X ZT z0 (bc X ZT z1 (bc X ZT z2 (bc X ZT z3 (bc X ZT z4 (bc X ZT z5 (bc X ZT z6 (bc X ZT z7 (bc X ZT z8 (bn)))))))));let(_,a,_,kV,dc,pm,cd,ct,_,an,_,lk,ce,kp):=ahH;let e:=hfa.symm.trans (W.mg_of X ZT a);cases e;show#[W.fnOf "law" "law" (qO vP) (jC vP) (aG vP) .none kV dc pm an cd ct,λs v=>.of_eq O,λbase _ _=>?_];let F:=Nf (base:=base) B bq bi eT (jd X ZT ahr (by walk_at "b"));let vX:=Cy (base:=base) B bq bi eT (jd X ZT agZ (by walk_at "b"));let F1:=Gg (base:=base) B bq bi eT (jd X ZT ahC (by walk_at "b")) (jd X ZT ahf (by walk_at "b")) 40;let bS:=F1.1;let cf:=F1.2;let bv:=Aq (base:=base) B bq bi eT (jd X ZT ahv (by walk_at "b")) F 40;let c6:=Ar (base:=base) B bq bi eT (jd X ZT ahw (by walk_at "b")) F bS 40;let agQ:=Ph (base:=base) B bq bi eT (jd X ZT ahx (by walk_at "b")) c6;let aE:=Jo (base:=base) B bq bi eT (jd X ZT ahE (by walk_at "b")) 40;let agR:=Pj (base:=base) B bq bi eT (jd X ZT ahy (by walk_at "b")) aE;let agY:=Vy (base:=base) B bq bi eT (jd X ZT ahD (by walk_at "b")) bv;let D:=Hk (base:=base) B bq bi eT (Di ahe (by walk_at "b"));let i:=Ng (base:=base) B bq bi eT (Di ahu (by walk_at "b"));let N:=Cz (base:=base) B bq bi eT (Di ag1 (by walk_at "b")) i agY;let q:=xf (base:=base) B bq bi eT (jd X ZT ahg (by walk_at "b")) D i N 40;let vY:=QY (CG (base:=base) B bq bi eT (Di ag0 (by walk_at "b")) agQ) z.2.2.2.2.2.1 z.2.2.2.2.2.2;let ap:=DW (base:=base) B bq bi eT (Di ag4 (by walk_at "b"));let av:=JV (base:=base) B bq bi eT (jd X ZT ahj (by walk_at "b")) i;let bP:=zB (base:=base) B bq bi eT (Di agV (by walk_at "b"));let Q:=JW (base:=base) B bq bi eT (Di aho (by walk_at "b"));let ae:=Hl (base:=base) B bq bi eT (Di ahd (by walk_at "b"));let j:=JX (base:=base) B bq bi eT (jd X ZT ahh (by walk_at "b")) agR;let ar:=DX (base:=base) B bq bi eT (jd X ZT ag3 (by walk_at "b")) Q ae i j;let agA:=Gh (base:=base) B bq bi eT (jd X ZT ag7 (by walk_at "b")) D i q j;let cv:=DY (base:=base) B bq bi eT (jd X ZT ag2 (by walk_at "b")) bP i q ar agA;let be:=Gi (base:=base) B bq bi eT (Di aha (by walk_at "b"));let cp:=Hm (base:=base) B bq bi eT (jd X ZT ahb (by walk_at "b")) j;let cS:=JZ (base:=base) B bq bi eT (jd X ZT ahi (by walk_at "b")) be i j vX cp;let aT:=J0 (base:=base) B bq bi eT (Di ahp (by walk_at "b"));let aS:=Hn (base:=base) B bq bi eT (jd X ZT ahc (by walk_at "b")) aT Q N q;let wb:=Yg (base:=base) B bq bi eT (jd X ZT ahF (by walk_at "b")) vY ap av cv cS aS;let am:=Gj (base:=base) B bq bi eT (jd X ZT ag8 (by walk_at "b"));let ay:=J1 (base:=base) B bq bi eT (jd X ZT ahk (by walk_at "b"));let oj:=Av (base:=base) B bq bi eT (jd X ZT agW (by walk_at "b"));let v3:=Pk (base:=base) B bq bi eT (jd X ZT ahz (by walk_at "b")) oj;let aw:=Nh (base:=base) B bq bi eT (jd X ZT ahs (by walk_at "b")) v3;let br:=J2 (base:=base) B bq bi eT (jd X ZT ahl (by walk_at "b"));let c0:=Gk (base:=base) B bq bi eT (jd X ZT ag9 (by walk_at "b")) am br ay aw;let cy:=zr (base:=base) B bq bi eT (jd X ZT aht (by walk_at "b")) 40;let ai:=Aw (base:=base) B bq bi eT (jd X ZT ahA (by walk_at "b")) 40;let b9:=UB (base:=base) B bq bi eT (jd X ZT ahm (by walk_at "b")) cy;let wa:=Pq (base:=base) B bq bi eT (jd X ZT ahB (by walk_at "b")) cy b9;show Ps (UC (base:=base) B bq bi eT (zQ (st:=vP) lk ce kp) ai wa c0 wb) HL
def walk{l:W.OpenLaw}{K:Params->FG}(N:l.most=!63)(i:d.params.defaults=[])
 (j:∀(w:World)(h:Heap),YP w h->(K w.params).In h)
 (F:∀(w:World)(mg:Str->Option Value)(fa:Addr)(h:Heap),(K w.params).In h->h.Ns mainGlobals mg->mg d.name=!(YV fa)->
   ∃fd:FuncData,(∀(s:Shared)(u:Value),BindsTo s fd #[[u],[]] [("_law_script",u)])/\∀base:Heap,(K w.params).In base->base.Ns mainGlobals mg->oK l.prog w (K w.params) mg base qD 87 fa fd ["_law_script"] (Kl (K w.params))):
 W.WalkO q loose XP YP l.row.toRowW d [] (λf vs=>PySem.call f vs):=
 L2.walk_of (x:="_law_script") N () i #[λ_=>O,by decide,by decide,O] j F (λ_ _ a ns Q _ hS=>#[a,ns,O,hS,Q,λ_=>O]) λ_ _ _ _ _ z=>z
end Law
namespace PySem.W.Fast
def tw10656310786369949787:=0
def tw17520522212142700620:=0
def tw12344107693709460598:=0
def tw10092458823452765189:=0
def tw15051788464661291452:=0
def tw17494135389729777766:=0
def tw6084219048423885244:=0
def tw3458107944075222244:=0
def tw13171726922584516770:=0
def tw10269201080222329202:=0
def tw4665417119303186290:=0
def tw11882227841775527159:=0
def tw6844842589540843320:=0
def tw1850913815409169569:=0
def tw4551834689325750219:=0
def tw9541091838955332146:=0
def tw12601397193777033934:=0
def tw16742465013453797432:=0
def tw17989150562235592763:=0
def tw16747703648843432344:=0
def tw16044255136392972775:=0
def tw1866222011056844448:=0
def tw10278605803487177732:=0
def tw4856116281997928281:=0
def tw9213254466874213417:=0
def tw10272072528636870388:=0
def tw16074284506462505439:=0
def tw195580201581674023:=0
def tw9447609696334032050:=0
def tw4634478562663398204:=0
def tw7335739902105822989:=0
def tw15674157055161170799:=0
def tw8326304196997088775:=0
def tw5080394758099483284:=0
def tw9268679619742985114:=0
def tw3132103515637313496:=0
def tw14184354357022942982:=0
def tw2401736757439168428:=0
def tw13560172474133332183:=0
def tw14414457798309882129:=0
def tw14675992158070126987:=0
def tw4187109158614076811:=0
def tw5750017194998154145:=0
def tw17892876868001655607:=0
def tw3407814629729108158:=0
def tw11736577861082963705:=0
def tw596289989829549552:=0
def tw10402072713111948423:=0
def tw6796080468981939927:=0
def tw5726835754848796329:=0
def tw2810193980435529390:=0
def tw8816057792909920466:=0
def tw1661647708535600792:=0
def tw9084047053940284480:=0
def tw14698754709743974163:=0
def tw1179109946568628070:=0
def tw5055646903901395845:=0
def tw8294063578466898278:=0
def tw3807533872548493554:=0
def tw7708041349729513598:=0
def tw874014478408788930:=0
def tw4899876956357325992:=0
def tw8229066694974219513:=0
def tw17648665253078292292:=0
def tw13348316237329116729:=0
def tw2438121119104757947:=0
def tw12799928266210805837:=0
def tw17334250398445840326:=0
def tw12829250287431723804:=0
def tw17684367490515593911:=0
def tw1237657780525569167:=0
def tw14463122433658829614:=0
def tw13421772441342783769:=0
def tw3346809909216304474:=0
def tw4339470999037916445:=0
def tw4531998137220733381:=0
def tw3330762215901692768:=0
def tw3186832928358689064:=0
def tw3852449653646475147:=0
def tw13986312335960089432:=0
def tw1174436596579236149:=0
def tw5888478565845759295:=0
def tw15924436485721416489:=0
def tw6130070367717465099:=0
def tw12635734058950738494:=0
def tw2058413100879576518:=0
def tw4109032598583047864:=0
def tw16131832562009494846:=0
def tw12777071176500200206:=0
def tw5429085054702148751:=0
def tw10613368682194616514:=0
def tw5697684950894790276:=0
def tw5059807947548253956:=0
def tw4905489754890863559:=0
def tw14591964078412960195:=0
def tw15341197330019014175:=0
def tw4823449454709273325:=0
def tw13805503313749601397:=0
def tw2212199103901052595:=0
def tw2056458504175622883:=0
def tw3987673102953777358:=0
def tw2352059737501928644:=0
def tw7831058407483044122:=0
def tw11823035449893183801:=0
def tw17410777703913547056:=0
def tw15600763603997040065:=0
def tw18262502822064635081:=0
def tw6922268882102232927:=0
def tw8189530627426698739:=0
def tw6637900148337990927:=0
def tw16253012754947160242:=0
def tw8621774998496991911:=0
def tw8786670728691217388:=0
def tw13818859160746054995:=0
def tw10068919371205573068:=0
def tw2999652591199908426:=0
def tw3319604671561533632:=0
def tw16314307099143244700:=0
def tw6184407863387070713:=0
def tw8373454105407428765:=0
def tw117562195602900774:=0
def tw576835682027039192:=0
def tw18244982877168706142:=0
def tw17664495259800271291:=0
def tw3237807158396406418:=0
def tw16509096192854408829:=0
def tw17503140120947331451:=0
def tw7950430510332097026:=0
def tw18085613303023945332:=0
def tw8284741841465715779:=0
def tw18046727655338399473:=0
def tw1839436602935585182:=0
def tw6026898460420470028:=0
def tw8029994366355899380:=0
def tw3289182799741234351:=0
def tw11338094033607080030:=0
def tw15954391910437829032:=0
def tw888592389628309085:=0
def tw17487777909843172568:=0
def tw16818405786160468876:=0
def tw17858830787271438626:=0
def tw14489553819060140097:=0
def tw17995935681783680036:=0
def tw7870030124668510183:=0
def tw12574943842295314468:=0
def tw114668653318423845:=0
def tw4385198559383407747:=0
def tw13769441338610398374:=0
def tw16530364452390084550:=0
def tw15737201640655386478:=0
def tw5374070928419404248:=0
def tw17951980730664304922:=0
def tw6327032172332968262:=0
def tw10391557209050835933:=0
end PySem.W.Fast
end
open PySem PySem.W PyProof.Rows
local macro_rules | `(tactic| walk_at "m")=>`(tactic| exact ⟨_,by k_is,by k_is,_,_,_,_,_,_,_,_,_,by k_is,by k_is,by k_is⟩)
local macro_rules | `(tactic| walk_at "d")=>`(tactic| exact ⟨_,by k_is,_,_,_,_,_,_,_,_,_,by k_is,by k_is,by k_is⟩)
set_option maxRecDepth 100000 in
set_option maxHeartbeats 0 in
theorem PySem.Challenge.cw_hushwise_k34_rules_as_a_row_is_done_holds : PySem.Challenge.rw_hushwise_k34_rules_as_a_row_is_done.Holds := by
 w_on; o_law; k_head; (case hw=>w_witness2)
 k_fill
 refine Law.walk (l:=PySem.Challenge.rw_hushwise_k34_rules_as_a_row_is_done) rfl rfl (fun w h Y=>W.kIn_of Y) ?F
 case F=>
  intro w mg fa h KX G hmg
  refine' Law.all_mk KX G hmg ?_ ?_ ?_ ?_ ?_ ?_ ?_ ?_ ?_ ?_ ?_ ?_ ?_ ?_ ?_ ?_ ?_ ?_ ?_ ?_ ?_ ?_ ?_ ?_ ?_ ?_ ?_ ?_ ?_ ?_ ?_ ?_ ?_ ?_ ?_ ?_ ?_ ?_ ?_ ?_ ?_ ?_ Law.law_true
  exact ⟨_,⟨by k_is,by k_is,by k_is,by k_is,by k_is,by k_is,by k_is⟩,⟨by k_is,by k_is,by k_is⟩,by walk_at "m",by walk_at "m",by walk_at "m",by walk_at "m",by walk_at "m",by walk_at "m",by walk_at "m",by walk_at "m",by walk_at "m",by walk_at "m"⟩
  iterate 32 walk_at "d"
  iterate 9 k_is
