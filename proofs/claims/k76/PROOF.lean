import PyProof.Rows.All
import Wide.All
import OpenK.AllK
import Wide.FinOn
import Lean
import PyProof.EqAt
import PyProof.EqKinds
import PyProof.TupleCall
import PySem.Challenge.RW_spinfloor_k76_fans_just_rough_enough
open PyProof.Rows renaming callWith_type1->Qo, kindOf->QA, IntsAre->QF, seqObj->QY, get?_update_seq->QZ
open PyProof.Rows.F renaming plain_set_update_loop->Rq
open PyProof.Rows.LCg renaming lst->QM
open PySem renaming sizeLine->P7, mainGlobals->P9, bootBuiltins->Qa, starEach->Qd, wpAny_mono->Qe, compareOp->Qf, wpAny_truthy_bool->Qg, assignEach->Qh, wpAny_bind->Qi, wpAny_holding->Qj, wpAny_passesOwn->Qk, wpAny_pure->Ql, foldedSetIterable->Qp, binaryOp->Qq, codeAny->Qu, codeAny_mono->Qy, wpAny_Call_Name_kw->Qz, wpAny_specialOf->QH, wpAny_ite_split->QJ, wpAny_isInstance->QK, wpAny_newObj_type->QN, wpAny_call_entry->QO, wpAny_callSpecial?_slot->QR, wpAny_typeNameOfWhole_itemiter->QS, wpAny_isOneOf_itemiter->QU, wpAny_setField_rec->QV, wpAny_letGo->QX, wpAny_newList->Q0, codeAny_builtin->Rb, wpAny_seqItems->Rf, wpAny_tryCatch->Rg, updateSeq->Rh, wpAny_updateSeq->Ri, plainId_quiet->Rj, wpAny_setState_of->Ro, wpAny_askSetting->Rr
open PySem.Around renaming under_plainId->Rc
open PySem.Builtin renaming bitAnd->Qr, bitOr->Qs, bitXor->Qt
open PySem.Builtin.Builtins renaming bindParams->Rk
open PySem.Builtin.Dict_items renaming ownsTuple->QP, pairFromOwner->QW
open PySem.Builtin.List renaming listLengthHint->QI, listExtendWith->Rt, listSameRef->Ru, listItems->Rv
open PySem.Calls renaming spliced_nil->Qw, spliced_cons->Qx, callWith_builtin->QE
open PySem.Heap renaming lt_size->P8, get?_none_of_le->Qb, SameBut->Qc, get?_push_of_some->Qm, get?_push_size->Qn, size_push->Qv, get?_update_self->QC, get?_update_other->QD, size_update->Ra
open PySem.Heap.SameBut renaming update->QT
open PySem.Obj renaming mapSeq->QB
open PySem.PyData renaming depth->QL
open PySem.SetTable renaming below->Rm, grown->Rp
open Array renaming length_toList->L4, getElem?_toList->Mp, getElem?_eq_getElem->M4, getD_eq_getD_getElem?->Od, getElem?_eq_some_iff->Oe, toList_push->O5, getD->O6, perm_iff_toList_perm->Pz
open Bool renaming false_ne_true->LS, xor_false->Ml, false_eq_true->MI, or_eq_true->Nf, xor_comm->NK, true_and->NL, and_eq_true->NN, eq_iff_iff->Oc, xor_assoc->Om, not_true->Ow, false_xor->OO, false_and->OP, xor_self->OY, noConfusion->Pj, and_false->PH, or_false->P5
open Int renaming toNat_natCast->Ly, le_refl->Mn, zero_add->Nb, le_antisymm->NS, le_trans->O9, fdiv_eq_ediv_of_nonneg->Py
open Int.ofNat renaming inj->N7
open List renaming getElem?_eq_getElem->Lj, getElem?_eq_some_iff->Ll, mem_of_getElem?->Lm, length_map->Lp, getElem?_append_right->Lq, mem_cons_of_mem->Lr, length_append->Ls, getElem?_append_left->Lu, mem_cons_self->Lv, mem_cons->Lw, getElem?_map->Lx, replicate->Lz, getD_eq_getElem?_getD->LA, mem_singleton->LB, range->LD, map_append->LH, take_add_one->LI, take_length->LQ, map_cons->LR, nodup_cons->LV, mem_map->LW, mem_append_right->LX, mem_append->LY, length_singleton->LZ, mem_range->L5, length_range->L7, size_toArray->Mc, length_take->Me, getElem?_of_mem->Mg, eq_nil_of_length_eq_zero->Mh, mem_append_left->Mo, not_mem_nil->Mr, nodup_append->Mt, getElem?_eq_none->Mv, length_cons->My, map_congr_left->MA, getElem_of_mem->MB, mem_flatten->MC, pairwise_iff_getElem->ME, getElem?_replicate->MG, map_map->MH, mem_iff_getElem?->MR, perm_ext_iff_of_nodup->MX, mem_filter->M6, length_filter_le->M7, filter_append->M9, nodup_nil->Na, append_nil->Nd, getElem_mem->Nh, replicate_succ'->Nk, erase_cons_head->Nl, length_set->Nn, idxOf_lt_length_iff->Np, length_reverse->Nt, length_pos_of_mem->Nx, pairwise_cons->Ny, mem_filterMap->Nz, take_append_drop->ND, length_nil->NF, find?_cons->NG, sum_cons->NJ, nodup_range->NM, flatten_append->NO, length_eq_zero_iff->NR, take_of_length_le->NT, pairwise_map->NX, getElem?_set->NY, append_assoc->NZ, length_replicate->N0, getElem?_reverse->N3, perm_cons_erase->N5, range_succ->Oa, getElem?_range->Ob, mem_or_eq_of_mem_set->Ol, foldl_append->Oq, flatten_cons->Ot, lookup->Ou, filter_cons_of_neg->Ov, mem_reverse->Oy, filter_cons->Oz, perm_append_comm->OE, of_mem_zip->OF, mem_of_mem_erase->OG, filterMap_append->OH, mem_of_mem_take->OJ, mem_erase_of_ne->OL, length_pos_iff->OS, filterMap_cons->OT, getElem?_drop->OX, reverse_perm->O3, ext_getElem?->O4, length_drop->Pb, isEmpty_nil->Pc, ext_getElem->Pd, cons_append->Pe, any_eq_true->Pg, all_eq_true->Ph, dropLast_concat_getLast->Pk, foldl_cons->Pr, length_eraseIdx_of_lt->Px, getElem?_zip_eq_some->PF, length_erase_of_mem->PR, filter_cons_of_pos->P4
open Nat renaming le_refl->Lo, ne_of_lt->LJ, le_of_lt->LK, testBit_two_pow->LP, zero_le->LU, lt_of_lt_of_le->L6, eq_of_testBit_eq->Ma, sub_self->Mb, le_trans->Mi, pow_lt_pow_right->Mj, testBit_xor->Mm, xor_assoc->Mu, testBit_or->Mw, pow_le_pow_right->Mx, ne_of_gt->Mz, xor_lt_two_pow->MF, not_lt_zero->MJ, zero_testBit->MN, mod_eq_of_lt->MO, le_add_right->MP, lt_succ_of_lt->MQ, two_pow_pos->MV, lt_pow_two_of_testBit->M3, min_le_left->M5, lt_trans->Ni, lt_irrefl->Nj, xor_self->Nq, lt_succ_self->Nv, testBit_and->NB, le_succ->NC, testBit->NV, le_succ_of_le->NW, le_of_not_lt->N4, testBit_two_pow_sub_one->N9, zero_add->Of, xor_zero->Og, xor_comm->Oh, mod_self->Oi, not_lt_of_le->Ox, testBit_lt_two_pow->OA, mul_le_mul_right->OI, sub_add_eq->ON, add_sub_cancel->OW, testBit_eq_decide_div_mod_eq->OZ, or_lt_two_pow->O2, le_of_eq->O7, add_comm->O8, strongRecOn->Pp, min_eq_left->Pq, testBit_div_two_pow->P2
open Nat.succ renaming inj->OD
open Option renaming map_eq_some_iff->LC, isSome_iff_exists->Oo, toList_some->OV, isSome_map->O1
open Option.some renaming inj->L3
open PySem renaming Spec->LF, mem_of_lookup->Nc, frameOf->PU
open PySem.F renaming plainAttrs_list->LG, type_list_append->LL, slot_list_append->LN, plain_min_loop->Md, plain_extend_loop->MZ, entry_min_loop->Ng, plainAttrs_dict->Nr, slot_dict_items->NQ, slot_dict_get->OC, excBase_ValueError->Pt, args_dict_items_1->PD, type_list_extend->PJ, slot_list_extend->PK, slot_dict_values->PM, entry_dict_items->PN, args_list_init_2->PQ, type_dict_items->PV, typeCall_list_1->PX, entry_list_init->PY, args_dict_get_3->PZ
open PySem.W renaming Frag->Ln, findIn->L0, nsIn->L8, keepIn->L9, mg_none_of->Mf, fnOf->Mq, codeIn->MD, mg_of->MT, kia_one->MU, emptyDict->MY, instObj->Nm, plainGet->Nu, CodeHd->Nw, isFn->NA, tabIn->NH, hasDictIn->NI, callWith_K->NP, plainOver->NU, mroIn->N6, makesIn->N8, kitOne->Oj, kla_obj->OB, lookIn->OM, plainGet_of->OQ, hideAll_get->OR, excIn->OU, methodObj->O0, kbt_mask->Pa, takerIn->Pm, OpenLaw->Po, tabObj->PB
open _root_ renaming autoParam->uP_
open Std.Slice renaming Self.eq._autoParam->uR_
open Rat renaming den_nz._autoParam->uD_
open _root_ renaming Nat->R, List->E, Int->G
set_option Elab.async false
set_option linter.all false
set_option compiler.extract_closed false
set_option bootstrap.genMatcherCode false
set_option genSizeOf false
set_option maxRecDepth 100000
local macro_rules | `(tactic| lia) => `(tactic| first | assumption | lia (splits:=9) | omega +splitDisjunctions)
local macro_rules | `(tactic| ac_rfl) => `(tactic| omega +splitDisjunctions)
local macro_rules | `(tactic| ac_nf) => `(tactic| exact ⟨rfl,rfl,rfl,by decide +kernel,rfl,by decide +kernel,by decide +kernel⟩)
local macro_rules | `(tactic| decide) => `(tactic| decide +kernel)
local macro_rules | `(∅) => `(by first|decide|lia)
local macro_rules | `(tactic| walk_at "cc") => `(tactic| first | exact ⟨by decide, by decide⟩ | (show (0 : G) < _; decide) | (show (0 : G) < _; lia) | (show (0 : G) ≤ _; lia) | exact ⟨by decide, by decide, by decide⟩ | exact ⟨by lia, by lia, by decide⟩ | exact Or.inl ⟨by decide, by decide⟩ | exact Or.inl ⟨by lia, by lia⟩)
local macro_rules | `(tactic| walk_at "rd") => `(tactic| repeat (first | refine ⟨_, rfl, ?_⟩ | (refine ⟨_, _, rfl, rfl, ?cc, ?_⟩; (case cc => walk_at "cc")) | refine ⟨_, _, rfl, rfl, ?_⟩ | refine ⟨rfl, ?_⟩ | (refine ⟨?cc, ?_⟩; (case cc => walk_at "cc"))))
local macro_rules | `(tactic| walk_at "l") => `(tactic| (intro _ _ _ _ h; first | (cases h; subst_vars; rfl) | repeat (first | (obtain ⟨e, _⟩ := h; subst e; rfl) | obtain ⟨_, h⟩ := h)))
def hA(a:Array Lean.Syntax):Lean.MacroM (Array Lean.Term):=do
 let mut r:=#[]
 for e in a do
  match e.isNatLit? with
  |some n=>
   if e[0].getAtomVal.startsWith "0" then r:=r.push ⟨e⟩
   else
    let mut n:=n
    while n>0 do
     r:=r.push (←match (n-1)%4 with|0=>`(_)|1=>`($(Lean.mkIdent `U))|2=>`(?_)|_=>`(∅))
     n:=(n-1)/4
  |_=>r:=r.push ⟨e⟩
 return r
local macro_rules(kind:=«term{_}»)|`({$x,$y})=>`({$x with heap:=$y})
local macro_rules|`(tactic|simp!)=>`(tactic|simp_all)
def hB(r:Bool):Lean.Name->Lean.Name|.str p s=>if r||!p.isAnonymous then .str (hB r p) (match s with|"L"=>"length"|"H"=>"heap"|"J"=>"size"|"M"=>"objs"|"O"=>"testBit"|"Q"=>"trans"|"R"=>"get?"|"U"=>"toNat"|"X"=>"extBut"|"Y"=>"symm"|"Z"=>"lookup"|"h"=>"map"|"l"=>"Nodup"|"n"=>"toList"|"o"=>"push"|"e"=>"prog"|"i"=>"env"|"j"=>"take"|"x"=>"reverse"|"y"=>"Pairwise"|"f"=>"getD"|"v"=>"toks"|_=>s) else .str p s|n=>n
def hC(k:Nat)(x:Lean.Syntax):Lean.Syntax:=if x.isIdent then let n:=hB false x.getId;if n==x.getId then x else Lean.mkIdentFrom x n else if x.isOfKind `Lean.Parser.Term.proj then match k with|0=>x|k+1=>let n:=hB true x[2].getId;(x.setArg 0 (hC k x[0])).setArg 2 (if n==x[2].getId then x[2] else Lean.mkIdentFrom x[2] n) else x
def hD(x:Lean.Syntax):Lean.MacroM Lean.Term:=let i n:=Lean.mkIdent n;match x.getId with|`kt=>`($(i `FnOk) $(i `P) $(i `w) $(i `K) $(i `mg) $(i `base) $(i `CX0))|`k9=>`($(i `Cal) $(i `P) $(i `w) $(i `K) $(i `mg) $(i `base))|`lf=>`($(i `wpAny) ($(i `model) $(i `prog) $(i `w)))|`li=>`($(i `wpAny) ($(i `model) $(i `X.prog) $(i `X.w)) $(i `X.A))|`mi=>`($(i `Inv) $(i `X) $(i `pins))|`mj=>`($(i `bc) $(i `PassesOwn.never) $(i `U))|`mo=>`($(i `Same) $(i `H) $(i `H'))|`mu=>`($(i `Inv) $(i `X) $(i `B) $(i `L))|`mx=>`($(i `E) ($(i `E) $(i `R)))|`nv=>`($(i `SqL) $(i `K) $(i `H))|_=>do let y:=hC 99 x;if y==x then Lean.Macro.throwUnsupported else return ⟨y⟩
local macro_rules
 |`($x:ident)=>hD x
 |`($e.$x:ident)=>do let y←`($e.$x:ident);hD y
 |`($f $a*)=>do
  match ←hD f with
  |`($g $b*)=>`($g $b* $a*)
  |g=>`($g $a*)
def hP(k:Nat)(e:Lean.Syntax):Lean.MacroM (Lean.TSyntax `rcasesPat):=do
 if e.isIdent then `(rcasesPat|$(⟨e⟩):ident)
 else if e.isOfKind `Lean.Parser.Term.hole then `(rcasesPat|_)
 else if e.isOfKind `Lean.Parser.Term.anonymousCtor then
  match k with
  |0=>Lean.Macro.throwUnsupported
  |k+1=>
   let q←e[1].getSepArgs.mapM (hP k)
   `(rcasesPat|⟨$[$q],*⟩)
 else Lean.Macro.throwUnsupported
def hG:Nat->Nat->Bool
 |k+1,n+1=>n%4==2||hG k (n/4)
 |_,_=>false
def hQ(k:Nat)(e:Lean.Syntax):Bool:=e.isOfKind `Lean.Parser.Term.syntheticHole||(match e.isNatLit? with|some n=>hG 999 n|_=>match k with|0=>false|k+1=>e.getArgs.any (hQ k))
local macro_rules|`(λ$xs* =>$b)=>do
 unless xs.any (·.raw.isOfKind `Lean.Parser.Term.anonymousCtor)&&!hQ 999 b do Lean.Macro.throwUnsupported
 let q←xs.mapM λx=>do `(rintroPat|$(←hP 99 x):rcasesPat)
 `(by rintro $q*;exact $b)
local macro_rules
 |`(tactic|let $c:letConfig $d:letDecl)=>do
  let z:=d.raw[0]
  unless z.isOfKind ``Lean.Parser.Term.letIdDecl do Lean.Macro.throwUnsupported
  if z[1].getNumArgs==0 then return ←`(tactic|have $c:letConfig $d:letDecl)
  let f(e:Lean.Syntax):Lean.MacroM (Lean.TSyntax `rcasesPat):=if e.isIdent then `(rcasesPat|$(⟨e⟩):ident) else `(rcasesPat|_)
  let mut p:=#[]
  for b in #[z[0][0]]++z[1].getArgs do
   if b.isOfKind ``Lean.Parser.Term.implicitBinder then
    let q←b[1].getArgs.mapM f
    p:=p.push (←`(rcasesPat|⟨$[$q],*⟩))
   else unless b.isOfKind `hygieneInfo do p:=p.push (←f b)
  if z[2].getNumArgs==0 then `(tactic|obtain ⟨$[$p],*⟩:=$(⟨z[4]⟩):term) else `(tactic|obtain ⟨$[$p],*⟩:$(⟨z[2][0][1]⟩):term:=$(⟨z[4]⟩):term)
local macro_rules|`(tactic|erw[$r,*])=>do
  `(tactic|refine ⟨$[$(←hA (r.getElems.map λe=>e.raw[1]))],*⟩)
theorem P6{p:Prop}[Decidable p](h:¬p):decide p=false:=decide_eq_false h
theorem QG{p:Prop}[Decidable p](h:p):decide p=true:=decide_eq_true h
theorem Rl{p:Prop}[Decidable p](h:decide p=true):p:=of_decide_eq_true h
theorem Rw.{u}{c:Prop}{h:Decidable c}(T:c){α:Sort u}{t e:α}:ite c t e=t:=if_pos T
theorem Rx.{u}{c:Prop}{h:Decidable c}(T:¬c){α:Sort u}{t e:α}:ite c t e=e:=if_neg T
theorem Ry{a b:Prop}(h:a)(g:¬a):b:=absurd h g
open PySem (Addr Around CmpOp Env Expr FuncData Heap Obj Pos Program Result Scope Sem Shared Stmt Str Value World)
variable{C I PL a f f1 f2 i1 i2 i3 it p q va wd z:Addr}{A:Around}{items:Array Value}{op:CmpOp}{env:Env}{e:Expr}{eg fd:FuncData}{base h h':Heap}{O:E (Addr×Obj)}{rs ts:E (E R)}{kv:E (R×R)}{T:E (Option G)}{fr:E (Str×R)}{ch fp:E Addr}{outer:E Env}{ns ord:E G}{W ks l l':E R}{ps:E Str}{its us vs:E Value}{K:Ln}{M N ep i j m mk n t':R}{F J:R->Bool}{ex ex':R->R->Prop}{o ob:Obj}{pos tp:Pos}{P prog:Program}{B:Prop}{ad:Result->Shared->Prop}{scope:Scope}{pl:Sem Bool}{s s':Shared}{x:Str}{mg:Str->Option Value}{α:Type}{ct u:Value}{ef Q:Value->Shared->Prop}{w:World}
theorem U.{u}{α:Sort u}{a:α}:a=a:=rfl
open Option renaming some->Z
inductive Ex2{α β:Sort _}(p:α->β->Prop):Prop|mk a b:p a b->Ex2 p
inductive Ex3{α β γ:Sort _}(p:α->β->γ->Prop):Prop|mk a b c:p a b c->Ex3 p
inductive Ex4{α β γ δ:Sort _}(p:α->β->γ->δ->Prop):Prop|mk a b c d:p a b c d->Ex4 p
inductive Ex5{α β γ δ ε:Sort _}(p:α->β->γ->δ->ε->Prop):Prop|mk a b c d e:p a b c d e->Ex5 p
inductive Ex6{α β γ δ ε ζ:Sort _}(p:α->β->γ->δ->ε->ζ->Prop):Prop|mk a b c d e f:p a b c d e f->Ex6 p
inductive An3(a b c:Prop):Prop|mk:a->b->c->An3 a b c
inductive An4(a b c d:Prop):Prop|mk:a->b->c->d->An4 a b c d
inductive An5(a b c d e:Prop):Prop|mk:a->b->c->d->e->An5 a b c d e
inductive An6(a b c d e f:Prop):Prop|mk:a->b->c->d->e->f->An6 a b c d e f
inductive An7(a b c d e f g:Prop):Prop|mk:a->b->c->d->e->f->g->An7 a b c d e f g
local macro_rules|`(∃$xs:explicitBinders,$b)=>do
 let x:=xs.raw[0]
 let mut v:=#[]
 if x.isOfKind `Lean.unbracketedExplicitBinders then
  for i in x[0].getArgs do v:=v.push (i[0],x[1][1])
 else
  for z in x.getArgs do
   for i in z[1].getArgs do v:=v.push (i[0],z[3])
 let mut c:Array Lean.Term:=#[]
 let mut e:Lean.Term:=b
 while true do
  match e with
  |`($p∧$q)=>c:=c.push p;e:=q
  |_=>break
 if v.size<2&&c.size<2 then Lean.Macro.throwUnsupported
 while c.size>0 do
  let a:=(c.extract (c.size-6) c.size).push e
  c:=c.extract 0 (c.size-6)
  e←if a.size<3 then `($(a[0]!)∧$e) else `($(Lean.mkIdent (.mkSimple s!"An{a.size}")) $a*)
 while v.size>0 do
  let g:=v.extract (v.size-6) v.size
  v:=v.extract 0 (v.size-6)
  let f←g.mapM λ(i,t)=>do
   let i←if i.isIdent then pure ⟨i⟩ else `(_)
   if t.isMissing then `(Lean.Parser.Term.funBinder|$i:term) else `(Lean.Parser.Term.funBinder|($i:term:$(⟨t⟩)))
  e←`($(if g.size<2 then Lean.mkIdent `Exists else Lean.mkIdent (.mkSimple s!"Ex{g.size}")) λ$f*=>$e)
 return e
def hS(x:Lean.Syntax):Lean.Syntax:=Id.run<|x.rewriteBottomUp (·.setInfo .none)
local macro_rules|`($x:declaration)=>do
 let d:=x.raw[1]
 unless x.raw[0].getArgs.all (·.getNumArgs==0) do Lean.Macro.throwUnsupported
 if d.isOfKind `Lean.Parser.Command.definition||d.isOfKind `Lean.Parser.Command.abbrev then
  if d.isOfKind `Lean.Parser.Command.definition&&d[3][1].isOfKind `Lean.Parser.Term.byTactic then
   let t:=(←`(theorem x:True:=x)).raw[1]
   return hS (x.raw.setArg 1 (t.setArgs #[t[0],d[1],d[2].setArg 1 d[2][1][0],d[3]]))
  return hS (x.raw.setArg 0 (←`(noncomputable def x:=1)).raw[0])
 if d.isOfKind `Lean.Parser.Command.theorem&&x.raw.getPos?.isSome&&!(d[1][0].getId.getRoot==`PySem) then return hS x
 if d.isOfKind `Lean.Parser.Command.inductive&&d[2][1].getNumArgs==0&&d[4].getNumArgs==1 then
  let v n:=Lean.mkIdent n
  let s:=(←`(inductive X($(v `vs):ident:E $(v `L2.V))($(v `H):ident:$(v `L2.Hp))($(v `Q):ident:$(v `L2.VK))(_:$(v `L2.XK)):Prop|mk)).raw[1][2]
  return x.raw.setArg 1 (d.setArg 2 (s.setArg 0 (Lean.mkNullNode (d[2][0].getArgs++s[0].getArgs))))
 Lean.Macro.throwUnsupported
open PySem renaming Value->eK, Addr->eN, Shared->e9, Heap->fc, Str->ff, FuncData->fk, Expr->fm, Stmt->fo, Program->fI, PyData->ge, Env->gi, Obj->hb, Scope->hr, World->hx, Builtin->hX, SetTable->ih
open _root_ renaming Option->ii, Bool->im, Array->io
open Bool renaming true->i0, false->j5
open Option renaming none->kf
namespace L2
open PySem PySem.Spec PyProof.Rows
abbrev Key:=Sum G ff
def pU:Key->eK->im
 |.inl k,v=>eK.isInt k v
 |.inr x,v=>eK.isStrOf x v
def keyH(w:hx):Key->G
 |.inl k=>hashInt k
 |.inr x=>hashStr w x
theorem aY:∀{k:Key}{v:eK},pU k v=i0->(∃ i t,k=Sum.inl i/\v=eK.int i t)∨(∃ x t,k=Sum.inr x/\v=eK.str x t)
 |.inl i,v,h=>by
  let t e:=eK.isInt_shape (k:=i) (v:=v) h;exact .inl ⟨i,t,U,e⟩
 |.inr x,v,h=>by
  let t e:=eK.isStrOf_shape (x:=x) (v:=v) h;exact .inr ⟨x,t,U,e⟩
def DL(i:G)(t:Tok):pU (.inl i) (.int i t)=i0:=by simp[pU,eK.isInt]
def DJ(x:ff)(t:Tok):pU (.inr x) (.str x t)=i0:=by simp[pU,eK.isStrOf]
def key_ll(a b:G):decide ((Sum.inl a:Key)=Sum.inl b)=(a == b):=by
 by_cases e:a=b
 .subst e;simp
 .simp!
def key_rr(a b:ff):decide ((Sum.inr a:Key)=Sum.inr b)=decide (a=b):=by
 simp!
theorem key_lr(a:G)(b:ff):decide ((Sum.inl a:Key)=Sum.inr b)=j5:=P6 (λq=>nomatch q)
theorem key_rl(a:ff)(b:G):decide ((Sum.inr a:Key)=Sum.inl b)=j5:=P6 (λq=>nomatch q)
def bx(prog:fI)(w:hx):PySem.KeyKind prog w Key where
 is:=pU
 hash:=keyH w
 inj:=λv a b o M=>by
  rcases aY o with⟨i,t,rfl,rfl⟩|⟨x,t,rfl,rfl⟩
  .rcases aY M with⟨j,u,rfl,e⟩|⟨y,u,rfl,e⟩
   .injection e with f _;rw[f]
   .contradiction
  .rcases aY M with⟨j,u,rfl,e⟩|⟨y,u,rfl,e⟩
   .contradiction
   .injection e with f _;rw[f]
 byValue:=λk v h=>by
  rcases aY h with⟨i,t,rfl,rfl⟩|⟨x,t,rfl,rfl⟩<;>rfl
 pyHash:=λH h=>by
  rcases aY H with⟨i,t,rfl,rfl⟩|⟨x,t,rfl,rfl⟩
  .exact wpAny_pyHash_int h
  .exact wpAny_pyHash_str h
 eqBool:=λeg H h=>by
  rcases aY eg with⟨i,t,rfl,rfl⟩|⟨x,t,rfl,rfl⟩
  .rcases aY H with⟨j,u,rfl,rfl⟩|⟨y,u,rfl,rfl⟩
   .rw[key_ll]at h;exact wpAny_eqBool_int h
   .rw[key_lr]at h;exact SeqAt.EqAt.int_str i t y u _ _ _ _ h
  .rcases aY H with⟨j,u,rfl,rfl⟩|⟨y,u,rfl,rfl⟩
   .rw[key_rl]at h;exact SeqAt.EqAt.str_int x t j u _ _ _ _ h
   .rw[key_rr]at h;exact wpAny_eqBool_str h
 «strs»:=λk x t v h=>by
  rcases aY h with⟨i,u,rfl,e⟩|⟨y,u,rfl,e⟩
  .exact nomatch e
  .injection e with f _;subst f
   cases v<;>rfl
theorem yy(prog:fI)(w:hx)(i:G)(t:Tok):(bx prog w).is (.inl i) (.int i t)=i0:=DL i t
theorem yx(prog:fI)(w:hx)(x:ff)(t:Tok):(bx prog w).is (.inr x) (.str x t)=i0:=DJ x t
inductive V where
 |non|bl (b:im)|int (i:G)|str (x:ff)|byt (b:io UInt8)|flt (b:UInt64)|ref (a:eN)|ty (n:String)
 deriving DecidableEq
def RelV:V->eK->Prop
 |.non,u=>u=eK.none
 |.bl b,u=>u=eK.bool b
 |.int i,u=>∃ t,u=eK.int i t
 |.str x,u=>∃ t,u=eK.str x t
 |.byt b,u=>∃ t,u=eK.bytes b t
 |.flt b,u=>∃ t,u=eK.float b t
 |.ref a,u=>u=eK.ref a
 |.ty n,u=>u=eK.type n
abbrev Vals:E V->E eK->Prop:=Paired RelV
def Vals.unc{x:V}{xs:E V}(h:Vals (x::xs) us):∃ u w,us=u::w/\RelV x u/\Vals xs w:=by
 cases h with
 |cons r t=>exact⟨_,_,U,r,t⟩
theorem Vals.length{xs:E V}{us:E eK}(r:Vals xs us):xs.L=us.L:=Paired.length r
theorem Vals.get:∀{xs:E V}{us:E eK}{i:R}{x:V},Vals xs us->xs[i]?=Z x->∃ u,us[i]?=Z u/\RelV x u
 |_,_,_,_,.nil,e=>by simp at e
 |_,_,0,_,.cons r _,e=>by simp at e;subst e;erw[9,r]
 |_,_,i+1,x,.cons _ t,e=>by
  let u Y O:=Vals.get (i:=i) (x:=x) t (by simpa using e)
  erw[u,by assumption,O]
theorem Vals.set{x:V}{u:eK}(r:RelV x u):∀{xs:E V}{us:E eK}(i:R),Vals xs us->Vals (xs.set i x) (us.set i u)
 |_,_,_,.nil=>.nil
 |_,_,0,.cons _ t=>.cons r t
 |_,_,i+1,.cons q t=>.cons q (Vals.set r i t)
theorem Vals.append:∀{xs ys:E V}{us ws:E eK},Vals xs us->Vals ys ws->Vals (xs++ys) (us++ws)
 |_,_,_,_,.nil,s=>s
 |_,_,_,_,.cons r t,s=>.cons r (Vals.append t s)
theorem Vals.take:∀{xs:E V}{us:E eK}(n:R),Vals xs us->Vals (xs.j n) (us.j n)
 |_,_,0,_=>.nil
 |_,_,_+1,.nil=>.nil
 |_,_,n+1,.cons r t=>.cons r (Vals.take n t)
theorem Vals.drop:∀{xs:E V}{us:E eK}(n:R),Vals xs us->Vals (xs.drop n) (us.drop n)
 |_,_,0,r=>r
 |_,_,_+1,.nil=>.nil
 |_,_,n+1,.cons _ t=>Vals.drop n t
def RelO:ii V->ii eK->Prop
 |some v,Z u=>RelV v u
 |none,kf=>True
 |_,_=>False
def KV{a:Type}:E (a×V)->E (a×eK)->Prop:=Paired λ(p:a×V) (q:a×eK)=>p.1=q.1/\RelV p.2 q.2
def kV:Key->V
 |.inl i=>.int i
 |.inr x=>.str x
inductive HO where
  |lst (xs:E V)
  |tup (xs:E V)
  |dK (kvs:E (Key×V))|dT (kvs:E (E Key×V))
  |set (S:G->im) (n:R)
  |ins (C dx:eN) (fs:E (ff×V))
  |own (x:eN)
  |xd (fs:E (ff×V))
  |met (f x:eN)
  |rng (lo hi:G)
  |frz (o:hb) (u:HO)
  |tbl (ps:io eK)
  |ext (φ:fc->Prop)
abbrev Hp:=eN->ii HO
def upd(H:Hp)(a:eN)(o:HO):Hp:=λb=>if b=a then Z o else H b
def af{H:Hp}{o:HO}:upd H a o a=Z o:=by unfold upd;rw[Rw U]
def ao{H:Hp}{b:eN}{o:HO}(h:b≠a):upd H a o b=H b:=by unfold upd;rw[Rx h]
def A6{H:Hp}{b:eN}{o u:HO}(h:H a=Z o)(h':H b=Z u)(d:o≠u):a≠b:=by
 intro e;subst e;grind
def aB{H:Hp}{b:eN}{o:HO}(h:H a=Z o)(h':H b=kf):a≠b:=by
 grind
section
variable(P:fI)(w:hx)
def bu(H:Hp)(h:fc)(a:eN):HO->Prop
 |.lst D=>D.L<=P7/\∃(J:E eK)(n:R),Vals D J/\h.R a=Z {cls:=.type "list",data:=.seq J.toArray n}
 |.tup D=>D.L<=P7/\∃ J:E eK,Vals D J/\IsTup h a J.toArray
 |.dK N=>N.L<=P7/\(a == sysModules)=j5/\∃ M,KV N M/\h.DictOf (bx P w) a M
 |.dT N=>N.L<=P7/\(a == sysModules)=j5/\∃ D:E (E Key×eN×eK),
   Paired (λ(p:E Key×V) (q:E Key×eN×eK)=>p.1=q.1/\H q.2.1=Z (.tup (p.1.h kV))/\RelV p.2 q.2.2) N D /\
   ∃ o y ef,h.R a=Z o/\o.ExactDict/\o.data=.dict y ef/\y.n=D.h (entryOfKey (tupleKind (bx P w)))/\(D.h (·.1)).l
 |.set S n=>h.SetOf (intKind P w) a S n
 |.ins C j fs=>H j=Z (.own a)/\fs.L<=1000/\j≠a/\h.R a=Z (Nm C j) /\
   ∃ l,h.Ns1 j l/\(∀ f,RelO (fs.Z f) (l f))/\PySem.Within l (fs.h (·.1))
 |.own _=>∃ o,h.R a=Z o
 |.xd fs=>∃ l,h.Ns1 a l/\∀ f,RelO (fs.Z f) (l f)
 |.rng lo B=>∃ t u v,h.R a=Z {cls:=.type "range",data:=.fields #[.int lo t,.int B u,.int 1 v]}
 |.frz o u=>h.R a=Z o/\bu H h a u
 |.tbl T=>h.R a=Z {cls:=.none,data:=.fields T}
 |.met f x=>h.R a=Z (O0 (.ref f) (.ref x))
 |.ext s=>s h/\(∃ o,h.R a=Z o)/\∀ Y O:fc,s Y->(∀ o,Y.R a=Z o->O.R a=Z o)->s O
def HOk(H:Hp)(h:fc):Prop:=∀ a o,H a=Z o->bu P w H h a o
end
section
variable{P:fI}{w:hx}{H H':Hp}{h h':fc}{a:eN}{o:HO}
def bu.lt(x:bu P w H h a o):a<h.M.J:=by
 cases o with
 |lst D=>obtain⟨_,_,_,_,e⟩:=x;exact P8 e
 |tup D=>obtain⟨_,_,_,p⟩:=x;exact p.lt
 |dK N=>obtain⟨_,_,_,_,o,_,_,e,_⟩:=x;exact P8 e
 |dT N=>obtain⟨_,_,_,_,o,_,_,e,_⟩:=x;exact P8 e
 |set S n=>obtain⟨o,_,_,_,e,_⟩:=x;exact P8 e
 |ins C j fs=>obtain⟨_,_,_,e,_⟩:=x;exact P8 e
 |own y=>obtain⟨_,e⟩:=x;exact P8 e
 |xd fs=>obtain⟨_,⟨_,_,_,e,_⟩,_⟩:=x;exact P8 e
 |rng lo B=>obtain⟨_,_,_,e⟩:=x;exact P8 e
 |frz g u=>obtain⟨e,_⟩:=x;exact P8 e
 |tbl T=>exact P8 (show h.R a=Z _ from x)
 |met f y=>exact P8 (show h.R a=Z _ from x)
 |ext s=>obtain⟨_,⟨_,e⟩,_⟩:=x;exact P8 e
theorem Paired.mapP{α j:Type}{F eg:α->j->Prop}:∀{c:E α}{d:E j},Paired F c d->(∀ a b,F a b->eg a b)->Paired eg c d
 |_,_,.nil,_=>.nil
 |_,_,.cons r t,f=>.cons (f _ _ r) (Paired.mapP t f)
def bu.stay(x:bu P w H h a o)(k:∀ b u,(b=a∨H b=Z (.own a))->h.R b=Z u->h'.R b=Z u)(D:∀ b,H b=Z (.own a)->H' b=Z (.own a))(Q:∀ b xs,H b=Z (.tup xs)->H' b=Z (.tup xs)):bu P w H' h' a o:=by
 induction o with
 |lst xs=>obtain⟨z,J,n,r,e⟩:=x;erw[z,J,n,r,k _ _ (.inl U) e]
 |tup xs=>obtain⟨z,J,r,g,e,c⟩:=x;erw[z,J,r,g,k _ _ (.inl U) e,c]
 |dK N=>obtain⟨z,y,I,r,g,M,ef,e,c⟩:=x;erw[z,y,I,r,g,M,ef,k _ _ (.inl U) e,c]
 |dT N =>
  let z y xs r g M ef e c c2 c3 c4:=x;erw[z,y,xs,Paired.mapP r λp q z=>⟨z.1,Q _ _ z.2.1,z.2.2⟩,g,M,ef,k _ _ (.inl U) e,c,c2,c3,c4]
 |set S n=>obtain⟨g,M,ef,t,e,c⟩:=x;erw[g,M,ef,t,k _ _ (.inl U) e,c]
 |ins C j fs =>
  let d z ne e l{m M ef A c}r i:=x;erw[D _ d,z,ne,k _ _ (.inl U) e,l,⟨m,M,ef,k _ _ (.inr d) A,c⟩,r,i]
 |own y=>obtain⟨g,e⟩:=x;erw[g,k _ _ (.inl U) e]
 |xd fs=>obtain⟨l,⟨m,M,ef,e,c⟩,r⟩:=x;erw[l,⟨m,M,ef,k _ _ (.inl U) e,c⟩,r]
 |rng lo B=>obtain⟨t,u,v,e⟩:=x;erw[t,u,v,k _ _ (.inl U) e]
 |frz g u L=>obtain⟨e,q⟩:=x;erw[k _ _ (.inl U) e,L q]
 |tbl T =>
  let e:h.R a=Z {cls:=.none,data:=.fields T}:=x;show h'.R a=Z {cls:=.none,data:=.fields T};exact k a _ (.inl U) e
 |met f y =>
  let e:h.R a=Z (O0 (.ref f) (.ref y)):=x;show h'.R a=Z (O0 (.ref f) (.ref y));exact k a _ (.inl U) e
 |ext s=>obtain⟨p,⟨o,e⟩,st⟩:=x;erw[st _ _ p λo q=>k _ _ (.inl U) q,⟨o,k _ _ (.inl U) e⟩,st]
theorem HOk.lt(x:HOk P w H h)(e:H a=Z o):a<h.M.J:=(x a o e).lt
def HOk.fresh(x:HOk P w H h)(e:h.M.J<=a):H a=kf:=by
 cases q:H a with
 |none=>rfl
 |some u=>exact Ry (L6 (x.lt q) e) (Nj _)
theorem HOk.kept(x:HOk P w H h)(k:∀ b u,h.R b=Z u->h'.R b=Z u):HOk P w H h':=λa o e =>
 (x a o e).stay (λb u _ q=>k b u q) (λ_ q=>q) λ_ _ q=>q
theorem HOk.laid(x:HOk P w H h)(k:∀ b u,h.R b=Z u->h'.R b=Z u)(Y:h.M.J<=a)(new:bu P w (upd H a o) h' a o):HOk P w (upd H a o) h':=λb u e=>by
 let y:=x.fresh Y;by_cases M:b=a
 .subst M;rw[af]at e;cases e;exact new
 .rw[ao M]at e;exact(x b u e).stay (λc v _ q=>k c v q) (λc q=>by rw[ao (aB q y)];exact q) λc D q=>by rw[ao (aB q y)];exact q
end
def Rd(H:Hp)(a:eN)(u:HO):Prop:=H a=Z u∨∃ o,H a=Z (.frz o u)
def Rd.ok{H:Hp}{u:HO}(r:Rd H a u)(x:HOk P w H h):bu P w H h a u:=by
 obtain r|⟨o,r⟩:=r
 .exact x a u r
 .let _ q:=x a _ r;exact q
def Mut:ii HO->Prop
 |some (.lst _)=>True
 |some (.dK _)=>True
 |some (.dT _)=>True
 |some (.set _ _)=>True
 |some (.ins _ _ _)=>True
 |some (.ext _)=>True
 |_=>False
section
variable{P:fI}{w:hx}{H:Hp}{h h':fc}{x e:eN}{o':HO}
theorem HOk.write(ok:HOk P w H h)(g:Mut (H x))(eg:e=x∨H e=Z (.own x))(k:∀ b u,b≠e->h.R b=Z u->h'.R b=Z u)(f:∃ u,h'.R e=Z u)
  (new:bu P w (upd H x o') h' x o'):HOk P w (upd H x o') h':=λb u q=>by
 let j:∀ c y,H c=Z (.own y)->c≠x:=λc y r z=>by subst z;rw[r]at g;exact g
 let i:∀ c D,H c=Z (.tup D)->c≠x:=λc D r z=>by subst z;rw[r]at g;exact g
 by_cases M:b=x
 .subst M;rw[af]at q;cases q;exact new
 .rw[ao M]at q;by_cases a:b=e
  .let d:H b=Z (.own x):=by
    obtain z|z:=eg
    .exact Ry (a.Q z) M
    .rw[a];exact z
   rw[q]at d;cases d;let v l:=f;erw[v,by rw[a];exact l]
  .refine(ok b u q).stay (λc v T r=>k c v ?_ r) (λc r=>by rw[ao (j c b r)];exact r) λc D r=>by rw[ao (i c D r)];exact r
   obtain rfl|T:=T
   .exact a
   .grind
end
structure Un(fs ex:E eN)(H H':Hp)(h h':fc):Prop where
 keep:∀ b o,h.R b=Z o->H b=kf->b∉fs->b∉ex->h'.R b=Z o
 slot:∀ b o,h.R b=Z o->H b=kf->b∈fs->b∉ex->∃ sl,h'.R b=Z {o with slots:=sl}
 free:∀ b o,h.R b=Z o->H b=kf->b∉ex->H' b=kf
 there:∀ b o,h.R b=Z o->b∉ex->∃ o',h'.R b=Z o'
 tups:∀ b xs,H b=Z (.tup xs)->H' b=Z (.tup xs)
 frzs:∀ b o u,H b=Z (.frz o u)->H' b=Z (.frz o u)
 tbls:∀ b ps,H b=Z (.tbl ps)->∃ more,H' b=Z (.tbl (ps++more))
section
variable{fs fs' ex ex':E eN}{H H1 H2:Hp}{h h1 h2 h':fc}{a x e:eN}{o:HO}
def Un.any(u:Un fs ex H H1 h h1){b:eN}(q:h.R b=Z ob)(n:H b=kf)(J:b∉ex):∃ sl,h1.R b=Z {ob with slots:=sl}:=by
 by_cases M:b∈fs
 .exact u.slot b ob q n M J
 .erw[ob.slots,u.keep b ob q n M J]
theorem Un.kept(k:∀ b u,h.R b=Z u->h'.R b=Z u):Un fs ex H H h h' :=
 ⟨λb g q _ _ _=>k b g q,λb g q _ _ _=>⟨g.slots,k b g q⟩,λ_ _ _ n _=>n,λb g q _=>⟨g,k b g q⟩,λ_ _ q=>q,λ_ _ _ q=>q,λ_ T q=>⟨#[],by assumption⟩⟩
theorem Un.refl:Un fs ex H H h h:=Un.kept λ_ _ q=>q
theorem Un.laid(k:∀ b u,h.R b=Z u->h'.R b=Z u)(Y:h.M.J<=a)(y:H a=kf):Un fs ex H (upd H a o) h h' where
 keep:=λb u q _ _ _=>k b u q
 slot:=λb u q _ _ _=>⟨u.slots,k b u q⟩
 free:=λb u q n _=>by rw[ao (LJ (L6 (P8 q) Y))];exact n
 there:=λb u q _=>⟨u,k b u q⟩
 tups:=λb D q=>by rw[ao (aB q y)];exact q
 frzs:=λb u D q=>by rw[ao (aB q y)];exact q
 tbls:=λb T q=>⟨#[],by rw[ao (aB q y),q];simp⟩
def Un.write(g:Mut (H x))(eg:e=x∨H e=Z (.own x))(k:∀ b u,b≠e->h.R b=Z u->h'.R b=Z u)(f:∃ u,h'.R e=Z u):Un fs ex H (upd H x o) h h':=by
 let J:∀ b,H b=kf->b≠x:=λb n z=>by subst z;rw[n]at g;exact g
 let M:∀ b,H b=kf->b≠e:=λb n z=>by
  simp!
 let C:∀ b u,H b=Z u->¬ Mut (Z u)->b≠x:=λb u q d z=>by simp!
 erw[λb u q n _ _=>k b u (M b n) q,λb u q n _ _=>⟨u.slots,k b u (M b n) q⟩,λb u q n _=>by rw[ao (J b n)];exact n,λb u q _=>?_,
  λb D q=>by rw[ao (C b _ q λz=>z)];exact q,λb u D q=>by rw[ao (C b _ q λz=>z)];exact q,λb T q=>⟨#[],by rw[ao (C b _ q λz=>z),q];simp⟩]
 by_cases a:b=e
 .subst a;exact f
 .erw[u,k b u a q]
end
def trk(h:fc)(H:Hp):E eN:=(LD h.M.J).filter λa=>(H a).isSome
def hidT(h:fc)(H:Hp):fc:=PySem.W.hideAll h (trk h H)
theorem D3(h:fc)(H:Hp):(hidT h H).M.J=h.M.J:=PySem.W.hideAll_size _ _
theorem oR{H:Hp}{b:eN}(e:h.R b=Z o)(n:H b=kf):(hidT h H).R b=Z o :=
 OR _ e λC=>by
  let q:(H b).isSome=i0:=(M6.mp C).2;rw[n]at q;simp at q
def Km{H:Hp}{b:eN}(e:(hidT h H).R b=Z o):h.R b=Z o/\H b=kf:=by
 let N:h.R b=Z o:=PySem.W.of_hideAll (trk h H) e;erw[N,3]
 cases q:H b with
 |none=>rfl
 |some x =>
  let C:b∈trk h H:=M6.mpr ⟨L5.mpr (P8 N),by simp[q]⟩
  let z:(hidT h H).R b=kf:=PySem.W.hideAll_none (trk h H) C;simp!
structure Mod(K:Ln)(mg:ff->ii eK)(base:fc):Prop where
 kin:K.In base
 glob:base.Ns P9 mg
 blt:∃ mb,base.Ns builtinsNs mb/\∀ x:ff,x≠"__name__"->mb x=Qa x
 nolimit:base.NoLimit
set_option genInjectivity false in
structure Cx where
 prog:fI
 w:hx
 K:Ln
 mg:ff->ii eK
 base:fc
 A:Around
 N:E ff
 s₀:e9
 H₀:Hp
 env:gi
 outer:E gi
 stack:E gi
 ex:E eN
 fn:ff->im
 calm:im
 pn:E (eN×hb)
 xe:eK->e9->Prop
def frs(l:E gi):E eN:=l.filterMap (·.frame)
abbrev Cx.fs(X:Cx):E eN:=frs X.outer
def Vis(a:hr)(x:ff):Prop:=a.names.Z x=Z .local∨a.names.Z x=Z .cell∨a.names.Z x=Z .free
def Loc(a:hr)(x:ff):Prop:=a.names.Z x=Z .local∨a.names.Z x=Z .cell
def Look(env:gi)(h:fc)(m:ff->ii eK)(x:ff)(u:eK):Prop :=
 (env.kindOf x=Z .local/\m x=Z u)∨((env.kindOf x=Z .cell∨env.kindOf x=Z .free)/\∃ c,env.cells.Z x=Z c/\h.IsCell c (Z u))
structure Cx.Ok(X:Cx):Prop where
 mod:Mod X.K X.mg X.base
 kind:X.i.scope.kind=.function
 glob:X.i.globals=P9
 blt:X.i.builtins=builtinsNs
 above:X.s₀.H.M.J<=X.i.locals
 inj:∀ x y c,X.i.cells.Z x=Z c->X.i.cells.Z y=Z c->x=y
 has:∀ x,(X.i.kindOf x=Z .cell∨X.i.kindOf x=Z .free)->∃ c,X.i.cells.Z x=Z c
 cab:∀ x c,X.fn x=i0->X.i.cells.Z x=Z c->X.s₀.H.M.J<=c
 hd:X.calm=i0->X.A.handled=kf
 frames:X.A.frames=Z X.stack
 stk:X.stack=X.outer∨(X.stack=X.i::X.outer/\X.i.frame=Z X.i.locals)
 exf:∀ b∈X.ex,b≠X.i.locals/\∀ x c,X.i.cells.Z x=Z c->c≠b
 bs:∀ b o,X.base.R b=Z o->X.s₀.H.R b=Z o/\X.H₀ b=kf
 bsz:X.base.M.J<=X.s₀.H.M.J
 noex:∀ b o,X.base.R b=Z o->b∉X.ex
 exfs:∀ b∈X.ex,b∉X.fs
 funs:X.s₀.H.FunFrames X.base X.outer
 frf:∀ b∈X.fs,X.H₀ b=kf
structure Inv(X:Cx)(pins:E (eN×hb))(σ:E (ii V))(H:Hp)(s:e9):Prop where
 ok:X.Ok
 os:s.os=X.s₀.os
 bare:AllBare s.gens
 base:Un X.fs X.ex X.H₀ H X.s₀.H s.H
 loc:∃ m,s.H.Ns X.i.locals m/\∀(i:R)(x:ff)(v:V),X.N[i]?=Z x->σ[i]?=Z (Z v)->Vis X.i.scope x->∃ u,RelV v u/\Look X.i s.H m x u
 cell:∀ x c,X.i.cells.Z x=Z c->∃ v,s.H.IsCell c v
 free:H X.i.locals=kf
 freeC:∀ x c,X.i.cells.Z x=Z c->H c=kf
 pin:∀ p∈X.pn++pins,s.H.R p.1=Z p.2/\H p.1=kf/\p.1≠X.i.locals/\p.1∉X.fs/\∀ v,p.2.data≠.cell v
 hok:HOk X.e X.w H s.H
 len:σ.L=X.N.L
section
variable{X:Cx}{pins:E (eN×hb)}{σ:E (ii V)}{H H':Hp}{s:e9}{h':fc}
theorem Cx.Ok.nofr(ok:X.Ok){b:eN}(e:X.base.R b=Z o):b∉X.fs:=λM=>by
 let:=(ok.funs.mem M).1;simp!
theorem Inv.bs(I:Inv X pins σ H s):∀ b o,X.base.R b=Z o->s.H.R b=Z o/\H b=kf:=λb o e =>
 ⟨I.base.keep b o (I.ok.bs b o e).1 (I.ok.bs b o e).2 (I.ok.nofr e) (I.ok.noex b o e),I.base.free b o (I.ok.bs b o e).1 (I.ok.bs b o e).2 (I.ok.noex b o e)⟩
theorem Inv.bk(I:Inv X pins σ H s):∀ b o,X.base.R b=Z o->s.H.R b=Z o:=λb o e=>(I.bs b o e).1
theorem Inv.mod(I:Inv X pins σ H s):Mod X.K X.mg X.base:=I.ok.mod
theorem Inv.kIn(I:Inv X pins σ H s):X.K.In s.H:=I.ok.mod.kin.keeps I.bk
theorem Inv.nolimit(I:Inv X pins σ H s):s.H.NoLimit:=I.ok.mod.nolimit.keeps I.bk
theorem Inv.lt(I:Inv X pins σ H s):X.i.locals<s.H.M.J:=let ⟨_,y,_⟩:=I.loc;y.lt
theorem Inv.sz(I:Inv X pins σ H s):X.s₀.H.M.J<=s.H.M.J:=Mi I.ok.above (LK I.lt)
theorem Inv.nofs(I:Inv X pins σ H s)(h:s.H.M.J<=a):a∉X.fs:=λM=>by
 let _ o D _:=I.ok.funs.mem M;exact Ry (L6 (P8 D) (Mi I.sz h)) (Nj _)
theorem Inv.cne(I:Inv X pins σ H s):∀ x c,X.i.cells.Z x=Z c->c≠X.i.locals:=λx c e z=>by
 let v o D hd:=I.cell x c e;let m{j y f k O _}_:=I.loc;simp!
def Inv.funs(I:Inv X pins σ H s):s.H.FunFrames X.base X.outer:=by
 let all:∀(l:E gi),(∀ b∈frs l,b∈X.fs)->X.s₀.H.FunFrames X.base l->s.H.FunFrames X.base l:=by
  intro l;induction l with
  |nil=>intro _ _;trivial
  |cons j r ef =>
   intro f C;let g{L o A y D hd}N:=C;let d:L∈X.fs:=f L (by unfold frs;rw[OT,A];exact Lv)
   let h e:=I.base.slot L o D (I.ok.frf L d) d λz=>I.ok.exfs L z d;erw[g,⟨L,_,A,y,e,hd⟩,ef (λb M=>f b (by unfold frs;rw[OT,A];exact Lr _ M)) N]
 exact all X.outer (λ_ M=>M) I.ok.funs
def Inv.stack(I:Inv X pins σ H s):s.H.FunFrames X.base X.stack:=by
 obtain e|⟨e,A⟩:=I.ok.stk
 .rw[e];exact I.funs
 .rw[e];let m y _:=I.loc;refine .cons (by rw[I.ok.kind];decide) A y ?_ I.funs
  exact Qb (Mi I.ok.bsz I.ok.above)
theorem Inv.stkSub(I:Inv X pins σ H s):∀ b∈frs X.stack,b∈X.i.locals::X.fs:=λb M=>by
 obtain e|⟨e,A⟩:=I.ok.stk
 .rw[e]at M;exact Lr _ M
 .rw[e]at M;unfold frs at M;rw[OT,A]at M;exact M
theorem Inv.stkFree(I:Inv X pins σ H s):∀ b∈frs X.stack,H b=kf:=λb M=>by
 rcases Lw.mp (I.stkSub b M)with e|M
 .rw[e];exact I.free
 .let _ o D _:=I.ok.funs.mem M;exact I.base.free b o D (I.ok.frf b M) λz=>I.ok.exfs b z M
def Inv.step{g':io GenState}{t':R}{d':Drawn}{ch:E eN}(I:Inv X pins σ H s)(g:∀ b∈ch,(b∈X.ex∨X.s₀.H.M.J<=b)/\b≠X.i.locals/\(∀ x c,X.i.cells.Z x=Z c->c≠b)/\∀ p∈X.pn++pins,p.1≠b)(keep:∀ b o,b≠X.i.locals->b∉X.fs->b∉ch->s.H.R b=Z o->H b=kf->h'.R b=Z o)(slot:∀ b o,b≠X.i.locals->b∈X.fs->b∉ch->s.H.R b=Z o->H b=kf->∃ sl,h'.R b=Z {o with slots:=sl})(free:∀ b o,b∉ch->s.H.R b=Z o->H b=kf->H' b=kf)(there:∀ b o,b∉ch->s.H.R b=Z o->∃ j,h'.R b=Z j)(tups:∀ b xs,H b=Z (.tup xs)->H' b=Z (.tup xs))(frzs:∀ b o u,H b=Z (.frz o u)->H' b=Z (.frz o u))(tbls:∀ b ps,H b=Z (.tbl ps)->∃ more,H' b=Z (.tbl (ps++more)))(ns:∀ m,s.H.Ns X.i.locals m->h'.Ns X.i.locals m)(ef:HOk X.e X.w H' h')(O:AllBare g'):
  mi σ H' {s with heap:=h',gens:=g',drawn:=d',toks:=t'}:=by
 let L:∀ b o,X.s₀.H.R b=Z o->b≠X.i.locals:=λb o e=>LJ (L6 (P8 e) I.ok.above);let h:∀ b o,X.s₀.H.R b=Z o->b∉X.ex->b∉ch:=λb o e J M=>by
  rcases(g b M).1 with z|z
  .exact J z
  .exact Ry (L6 (P8 e) z) (Nj _)
 let t:∀ x c,X.i.cells.Z x=Z c->∀ v,s.H.IsCell c v->h'.IsCell c v:=λx c e v ⟨o,D,hd⟩=>by
  let N:c∉ch:=λz=>(g c z).2.2.1 x c e U;by_cases T:c∈X.fs
  .let sl q:=slot c o (I.cne x c e) T N D (I.freeC x c e);erw[_,q,hd]
  .erw[o,keep c o (I.cne x c e) T N D (I.freeC x c e),hd]
 erw[I.ok,I.os,O,⟨λb o e n M J=>?_,λb o e n M J=>?_,λb o e n J=>?_,λb o e J=>?_,λb xs e=>tups b xs (I.base.tups b xs e),λb o xs e=>frzs b o xs (I.base.frzs b o xs e),λb ps e=>?_⟩,3,λx c e=>?_,3,λx c e=>?_,λp Y=>?_,ef,I.len]
 .exact keep b o (L b o e) M (h b o e J) (I.base.keep b o e n M J) (I.base.free b o e n J)
 .let sl f:=I.base.slot b o e n M J;let aa A:=slot b _ (L b o e) M (h b o e J) f (I.base.free b o e n J);erw[aa,A]
 .let j f:=I.base.there b o e J;exact free b j (h b o e J) f (I.base.free b o e n J)
 .let j f:=I.base.there b o e J;exact there b j (h b o e J) f
 .let Q f:=I.base.tbls b ps e;let a A:=tbls b _ f;erw[Q++a,by simp[*]]
 .let m y C:=I.loc;erw[m,ns m y,λi x v f A B=>?_];let u r l:=C i x v f A B;erw[u,r,3];obtain l|⟨k,c,e,z⟩:=l
  .exact .inl l
  .exact .inr ⟨k,c,e,t x c e _ z⟩
 .let v z:=I.cell x c e;erw[v,t x c e v z]
 .let m{o _ _ D _}_:=I.loc;exact free _ o (λz=>(g _ z).2.1 U) D I.free
 .let v o D hd:=I.cell x c e;exact free c o (λz=>(g c z).2.2.1 x c e U) D (I.freeC x c e)
 .let e n ne eg d:=I.pin p Y;let N:p.1∉ch:=λz=>(g p.1 z).2.2.2 p Y U;erw[keep p.1 p.2 ne eg N e n,free p.1 p.2 N e n,ne,eg,d]
def Inv.un(I:Inv X pins σ H s)(u:Un X.fs [] H H' s.H h')(ef:HOk X.e X.w H' h'):Inv X pins σ H' {s with heap:=h',toks:=t'}:=by
 let m{o y f D r}_:=id I.loc;let h d:=u.any D I.free (by simp)
 exact I.step (g':=s.gens) (d':=s.drawn) (ch:=[]) (λ_ z=>nomatch z) (λb o _ M _ e n=>u.keep b o e n M (by simp)) (λb o _ M _ e n=>u.slot b o e n M (by simp)) (λb o _ e n=>u.free b o e n (by simp)) (λb o _ e=>u.there b o e (by simp)) u.tups u.frzs u.tbls (λa C=>by
  let j i l k v:=C;rw[D]at k;cases k
  erw[_,i,l,d,v]) ef I.bare
def Inv.call{g':io GenState}{d':Drawn}(I:Inv X pins σ H s)(u:Un (frs X.stack) ch H H' s.H h')(ef:HOk X.e X.w H' h')(O:AllBare g')(g:∀ b∈ch,(b∈X.ex∨X.s₀.H.M.J<=b)/\b≠X.i.locals/\(∀ x c,X.i.cells.Z x=Z c->c≠b)/\∀ p∈X.pn++pins,p.1≠b):
  mi σ H' {s with heap:=h',gens:=g',drawn:=d',toks:=t'}:=by
 let m{o y f D r}_:=id I.loc;let h d:=u.any D I.free λz=>(g _ z).2.1 U
 exact I.step (ch:=ch) g (λb o d M T e n=>u.keep b o e n (λz=>(Lw.mp (I.stkSub b z)).elim d M) T) (λb o _ _ T e n=>u.any e n T) (λb o T e n=>u.free b o e n T) (λb o T e=>u.there b o e T) u.tups u.frzs u.tbls (λa C=>by
  let j i l k v:=C;rw[D]at k;cases k
  erw[_,i,l,d,v]) ef O
def Inv.turned(I:Inv X pins σ H s)(k:∀ b o,b≠it->s.H.R b=Z o->h'.R b=Z o)(l:H it=kf)(d:it≠X.i.locals)(Y:it∈X.ex∨X.s₀.H.M.J<=it)(h2:∀ x c,X.i.cells.Z x=Z c->c≠it)(ef:∀ p∈X.pn++pins,p.1≠it):Inv X pins σ H {s with heap:=h',toks:=t'}:=by
 let h:∀ b u,H b=Z u->b≠it:=λb u e z=>by simp!
 refine I.step (g':=s.gens) (d':=s.drawn) (ch:=[it]) (λb M=>?_) (λb o _ _ T e _=>k b o (λz=>T (by simp[z])) e) (λb o _ _ T e _=>⟨o.slots,k b o (λz=>T (by simp[z])) e⟩) (λ_ _ _ _ n=>n)
  (λb o T e=>⟨o,k b o (λz=>T (by simp[z])) e⟩) (λ_ _ e=>e) (λ_ _ _ e=>e) (λb eg e=>⟨#[],by assumption⟩) (λm C=>?_) (λb u e=>?_) I.bare
 .let e:b=it:=by simpa using M
  subst e;erw[Y,d,h2,ef]
 .let o y f D r:=C;erw[o,y,f,k _ o (Ne.Y d) D,r]
 .refine(I.hok b u e).stay (λc v T q=>k c v ?_ q) (λ_ q=>q) λ_ _ q=>q;obtain z|z:=T
  .rw[z];exact h b u e
  .exact h c _ z
theorem Inv.tok(I:Inv X pins σ H s)(t:R):Inv X pins σ H {s with toks:=t}:=I.un (h':=s.H) (t':=t) Un.refl I.hok
theorem Inv.kept{t':R}(I:Inv X pins σ H s)(k:∀ b u,s.H.R b=Z u->h'.R b=Z u):Inv X pins σ H {s with heap:=h',toks:=t'}:=I.un (Un.kept k) (I.hok.kept k)
theorem Inv.laid{a:eN}{o:HO}{t':R}(I:Inv X pins σ H s)(k:∀ b u,s.H.R b=Z u->h'.R b=Z u)(Y:s.H.M.J<=a)(new:bu X.e X.w (upd H a o) h' a o):
  mi σ (upd H a o) {s with heap:=h',toks:=t'}:=I.un (Un.laid k Y (I.hok.fresh Y)) (I.hok.laid k Y new)
theorem Inv.write{x e:eN}{o:HO}{t':R}(I:Inv X pins σ H s)(g:Mut (H x))(eg:e=x∨H e=Z (.own x))(k:∀ b u,b≠e->s.H.R b=Z u->h'.R b=Z u)(f:∃ u,h'.R e=Z u)(new:bu X.e X.w (upd H x o) h' x o):Inv X pins σ (upd H x o) {s with heap:=h',toks:=t'}:=I.un (Un.write g eg k f) (I.hok.write g eg k f new)
theorem Inv.weak{σ':E (ii V)}(I:Inv X pins σ H s)(hl:σ'.L=σ.L)(w:∀ (i:R) v,σ'[i]?=Z (Z v)->σ[i]?=Z (Z v)):Inv X pins σ' H s :=
 ⟨I.ok,I.os,I.bare,I.base,let ⟨m,y,c⟩:=I.loc;⟨m,y,λi x v f A B=>c i x v f (w i v A) B⟩,I.cell,I.free,I.freeC,I.pin,I.hok,hl.Q I.len⟩
theorem Inv.pins_of(I:Inv X pins σ H s)(h:∀ p∈O,s.H.R p.1=Z p.2/\H p.1=kf/\p.1≠X.i.locals/\p.1∉X.fs/\∀ v,p.2.data≠.cell v):Inv X O σ H s :=
 ⟨I.ok,I.os,I.bare,I.base,I.loc,I.cell,I.free,I.freeC,λp Y=>(LY.mp Y).elim (λz=>I.pin p (Mo _ z)) (h p),I.hok,I.len⟩
def Au{N:E ff}(o:N.l)(a:N[i]?=Z x)(b:N[j]?=Z x):i=j:=by
 let Y f:=Ll.mp a;let O A:=Ll.mp b;exact(List.getElem_inj o).mp (f.Q A.Y)
def Ca{M:Model}{v:V}{Q:Unit->e9->Prop}(I:mi σ H s)(hN:X.N.l)(hi:X.N[i]?=Z x)(J:Loc X.i.scope x)(r:RelV v u)(h:∀ s',mi (σ.set i (Z v)) H s'->(∃ a,Qc a s.H s'.H/\(a=X.i.locals∨X.i.cells.Z x=Z a))->Q () s')(L:X.fn x=i0∨X.i.scope.names.Z x=Z .local:=by first|exact .inl rfl|exact .inr rfl|assumption):wpAny M A (storeName X.i x u) Q ef s:=by
 let m l C:=id I.loc;let al:(X.i.scope.kind == .class||(X.i.scope.kind == .module&&X.i.locals != X.i.globals))=j5:=by rw[I.ok.kind];rfl
 let am:i<σ.L:=by rw[I.len];exact(Ll.mp hi).1
 let cne:=I.cne;let aa:∀{a:eN}{h':fc},(∃ o,s.H.R a=Z o/\H a=kf)->Qc a s.H h'->HOk X.e X.w H h':=λ{a h'} O hs b ob e=>by
  let _ _ av:=O;refine(I.hok b ob e).stay (λc w' T q=>(hs.2 c ?_).Q q) (λ_ q=>q) λ_ _ q=>q;rintro rfl;simp!
 obtain D|D:=J
 .refine wpAny_storeName_local D l (λh' aI hs=>?_) al;let oL _ _ ab _:=id l;refine h _ ⟨I.ok,I.os,I.bare,⟨λb o e n g J=>?_,λb o e n g J=>?_,I.base.free,λb o e J=>?_,I.base.tups,I.base.frzs,I.base.tbls⟩,⟨_,aI,λj y v' f t e3=>?_⟩,λy c e=>?_,I.free,I.freeC,λp Y=>?_,aa ⟨oL,ab,I.free⟩ hs,by simpa using I.len⟩ ⟨_,hs,.inl U⟩
  .exact(hs.2 b (LJ (L6 (P8 e) I.ok.above))).Q (I.base.keep b o e n g J)
  .let sl f:=I.base.slot b o e n g J;erw[sl,(hs.2 b (LJ (L6 (P8 e) I.ok.above))).Q f]
  .let o' f:=I.base.there b o e J;erw[o',(hs.2 b (LJ (L6 (P8 e) I.ok.above))).Q f]
  .by_cases eg:j=i
   .subst eg;rw[hi]at f;cases f;rw[List.getElem?_set_self am]at t
    cases t
    erw[u,r,.inl ⟨D,by simp⟩]
   .rw[List.getElem?_set_ne (Ne.Y eg)]at t;let u' r' q:=C j y v' f t e3;erw[u',r',3];rcases q with⟨k,e⟩|⟨k,c,e,z⟩
    .refine .inl ⟨k,?_⟩;let:y≠x:=λe=>eg (Au hN f (e▸hi));simp[this,e]
    .exact .inr ⟨k,c,e,z.sameBut hs (cne y c e)⟩
  .let w' z:=I.cell y c e;erw[w',z.sameBut hs (cne y c e)]
  .let e n ne nf d:=I.pin p Y;erw[(hs.2 p.1 ne).Q e,n,ne,nf,d]
 .let an:X.fn x=i0:=by simp!
  let c T:=I.ok.has x (.inl D);let w' z:=I.cell x c T;refine wpAny_storeName_cell I.ok.kind D T z (λh' ac hs=>?_);let oc aS aT:=id z;refine h {s,h'} ⟨I.ok,I.os,I.bare,⟨λb o e n g J=>?_,λb o e n g J=>?_,I.base.free,λb o e J=>?_,I.base.tups,I.base.frzs,I.base.tbls⟩,⟨m,l.sameBut hs (Ne.Y (cne x c T)),λj y v' f t e3=>?_⟩,λy B e=>?_,I.free,I.freeC,λp Y=>?_,aa ⟨oc,aS,I.freeC x c T⟩ hs,by simpa using I.len⟩ ⟨c,hs,.inr T⟩
  .exact(hs.2 b (LJ (L6 (P8 e) (I.ok.cab x c an T)))).Q (I.base.keep b o e n g J)
  .let sl f:=I.base.slot b o e n g J;erw[sl,(hs.2 b (LJ (L6 (P8 e) (I.ok.cab x c an T)))).Q f]
  .let o' f:=I.base.there b o e J;erw[o',(hs.2 b (LJ (L6 (P8 e) (I.ok.cab x c an T)))).Q f]
  .by_cases eg:j=i
   .subst eg;rw[hi]at f;cases f;rw[List.getElem?_set_self am]at t
    cases t
    erw[u,r,.inr ⟨.inl D,c,T,ac⟩]
   .rw[List.getElem?_set_ne (Ne.Y eg)]at t;let u' r' q:=C j y v' f t e3;erw[u',r',3];obtain q|⟨k,B,e,z'⟩:=q
    .exact .inl q
    .refine .inr ⟨k,B,e,z'.sameBut hs ?_⟩;rintro rfl;exact eg (Au hN f (I.ok.inj _ _ _ e T▸hi))
  .by_cases ap:B=c
   .subst ap;erw[_,ac]
   .let w2 z2:=I.cell y B e;erw[w2,z2.sameBut hs ap]
  .let e n ne nf d:=I.pin p Y;erw[(hs.2 p.1 ?_).Q e,n,ne,nf,d];intro q;simp!
theorem rS{M:Model}{v:V}{Q:Unit->e9->Prop}(I:mi σ H s)(o:X.N.l)(hi:X.N[i]?=Z x)(J:Loc X.i.scope x)(r:RelV v u)(h:∀ s',mi (σ.set i (Z v)) H s'->Q () s')(q:X.fn x=i0∨X.i.scope.names.Z x=Z .local:=by first|exact .inl rfl|exact .inr rfl|assumption):wpAny M A (storeName X.i x u) Q ef s :=
 Ca I o hi J r (λs' y _=>h s' y) q
def Inv.call'(I:Inv X pins σ H s)(D:s'.os=s.os)(u:Un (frs X.stack) ch H H' s.H s'.H)(ef:HOk X.e X.w H' s'.H)(O:AllBare s'.gens)(g:∀ b∈ch,(b∈X.ex∨X.s₀.H.M.J<=b)/\b≠X.i.locals/\(∀ x c,X.i.cells.Z x=Z c->c≠b)/\∀ p∈X.pn++pins,p.1≠b):Inv X pins σ H' s':=by
 let h' g' d' t' j:=s';let e:j=s.os:=D;subst e;exact I.call (g':=g') (t':=t') (d':=d') u ef O g
end
abbrev XK:=eK->ii eN->Hp->Prop
abbrev St:=E (ii V)
abbrev VK:=V->Hp->Prop
abbrev TE:=St->Hp->VK->Prop
abbrev TT:=St->Hp->(im->Hp->Prop)->Prop
abbrev TA:=St->Hp->(E V->Hp->Prop)->Prop
set_option genInjectivity false in
structure Ends where
 nx:St->Hp->Prop
 rt:VK
 bk:St->Hp->Prop:=λ_ _=>False
 ct:St->Hp->Prop:=λ_ _=>False
abbrev Ends.nxt(D:Ends)(n:St->Hp->Prop):Ends:={D with nx:=n}
abbrev Ends.lop(D:Ends)(n:St->Hp->Prop):Ends:={D with nx:=n,ct:=n,bk:=D.nx}
abbrev TS:=Ends->St->Hp->Prop
def EP(X:Cx)(B:E (eN×hb))(L:St)(Q:VK)(u:eK)(s':e9):Prop:=∃ v eg,mu eg s'/\RelV v u/\Q v eg
def TP(X:Cx)(B:E (eN×hb))(L:St)(Q:im->Hp->Prop)(b:im)(s':e9):Prop:=∃ eg,mu eg s'/\Q b eg
def AP(X:Cx)(B:E (eN×hb))(L:St)(Q:E V->Hp->Prop)(us:E eK)(s':e9):Prop:=∃ n eg,mu eg s'/\Vals n us/\Q n eg
def SP(X:Cx)(B:E (eN×hb))(D:Ends)(f:Flow)(s':e9):Prop :=
 match f with
 |.next=>∃ p eg,Inv X B p eg s'/\D.nx p eg
 |.brk=>∃ p eg,Inv X B p eg s'/\D.bk p eg
 |.cont=>∃ p eg,Inv X B p eg s'/\D.ct p eg
 |.ret u=>∃ v p eg,Inv X B p eg s'/\RelV v u/\D.rt v eg
def PE(X:Cx)(e:fm)(t:TE):Prop :=
 ∀(B:E (eN×hb))(s:e9)(L:St)(H:Hp)(Q:VK),mu H s->t L H Q->li (eval e X.i) (EP X B L Q) X.xe s
def PT(X:Cx)(e:fm)(t:TT):Prop :=
 ∀(B:E (eN×hb))(s:e9)(L:St)(H:Hp)(Q:im->Hp->Prop),mu H s->t L H Q->li (isTrue e X.i (eval e X.i)) (TP X B L Q) X.xe s
def PW(X:Cx)(e:fm)(t:TT):Prop :=
 ∀(whole:Sem eK)(B:E (eN×hb))(s:e9)(L:St)(H:Hp)(Q:im->Hp->Prop),mu H s->t L H Q->li (isTrue e X.i whole) (TP X B L Q) X.xe s
theorem PW.pt{X:Cx}{t:TT}(h:PW X e t):PT X e t:=h _
def PA(X:Cx)(es:E fm)(t:TA):Prop :=
 ∀(f:Pos)(B:E (eN×hb))(s:e9)(L:St)(H:Hp)(Q:E V->Hp->Prop),mu H s->t L H Q->li (spliced (backTo f (Qd es X.i))) (AP X B L Q) X.xe s
def PS(X:Cx)(st:fo)(t:TS):Prop :=
 ∀(B:E (eN×hb))(s:e9)(L:St)(H:Hp)(D:Ends),mu H s->t D L H->li (exec st X.i) (SP X B D) X.xe s
def PSs(X:Cx)(st:E fo)(t:TS):Prop :=
 ∀(B:E (eN×hb))(s:e9)(L:St)(H:Hp)(D:Ends),mu H s->t D L H->li (execs st X.i) (SP X B D) X.xe s
theorem thn{t:Sem α}{Q v:α->e9->Prop}{M:Model}(h:wpAny M A t Q ef s)(H:∀ a s,Q a s->v a s):wpAny M A t v ef s:=Qe h H λ_ _ x=>x
section
variable{X:Cx}
inductive tVar(i:R)(σ:L2.St)(H:L2.Hp)(Q:L2.VK):Prop
 |mk (v:_) (_:σ[i]?=Z (Z v))(_:Q v H)
def tC(v:V):TE:=λ_ H Q=>Q v H
def pe_var(o:X.N[i]?=Z x)(hv:Vis X.i.scope x)(hd:uP_ ((x == ("__debug__" : ff))=j5) uD_)(z:uP_ ((x == ("__classdict__" : ff))=j5) uD_):PE X (.Name x pos) (tVar i):=by
 intro B s L H Q I h;let v e h:=h;let m y C:=I.loc;let u r l:=C i x v o e hv;let a:EP X B L Q u s:=⟨v,H,I,r,h⟩;rcases l with⟨g,D⟩|⟨g,c,T,b⟩
 .exact wpAny_Name (wpAny_loadName_local I.ok.kind g y D a) hd
 .obtain g|g:=g
  .exact wpAny_Name (wpAny_loadName_cell I.ok.kind g T b a) hd
  .exact wpAny_Name (wpAny_loadName_free I.ok.kind g T b a z) hd
theorem ak{i j pos}:PE X (.Constant (.int i) j pos) (tC (.int i)):=λ_ _ _ H _ I h=>wpAny_Constant_int ⟨.int i,H,I.tok _,⟨_,U⟩,h⟩
theorem tH{b j pos}:PE X (.Constant (.bool b) j pos) (tC (.bl b)):=λ_ _ _ H _ I h=>Constant_bool ⟨.bl b,H,I,U,h⟩
theorem kC{j pos}:PE X (.Constant .none j pos) (tC .non):=λ_ _ _ H _ I h=>Constant_none ⟨.non,H,I,U,h⟩
theorem Ik{x j pos}:PE X (.Constant (.str x) j pos) (tC (.str x)):=λ_ _ _ H _ I h=>Calls.Constant_str ⟨.str x,H,I.tok _,⟨_,U⟩,h⟩
def Gl(X:Cx)(x:ff):Prop:=X.i.kindOf x=Z .globalImplicit
theorem lx{L:St}{H:Hp}(I:Inv X O L H s)(n:Gl X x)(C:X.mg x=Z u)(h:Q u s)(hd:uP_ ((x == ("__debug__" : ff))=j5) uD_):li (eval (.Name x pos) X.i) Q ef s :=
 Calls.Name_function_global I.ok.kind n (Calls.loadGlobal_global (by rw[I.ok.glob];exact I.mod.glob.keeps I.bk) C h) hd
def gC{L:St}{H:Hp}(I:Inv X O L H s)(n:Gl X x)(C:X.mg x=kf)(hv:Qa x=Z u)(h:Q u s)(y:uP_ (x≠"__name__") uD_)(hd:uP_ ((x == ("__debug__" : ff))=j5) uD_):li (eval (.Name x pos) X.i) Q ef s:=by
 let a Y j:=I.mod.blt;exact Calls.Name_function_global I.ok.kind n (Calls.loadGlobal_builtin (by rw[I.ok.glob];exact I.mod.glob.keeps I.bk) C (by rw[I.ok.blt];exact Y.keeps I.bk) ((j x y).Q hv) h) hd
theorem JT{v:V}(O:Gl X x)(C:X.mg x=Z u)(r:RelV v u)(hd:uP_ ((x == ("__debug__" : ff))=j5) uD_):PE X (.Name x pos) (tC v) :=
 λ_ _ _ H _ I h=>lx I O C ⟨v,H,I,r,h⟩ hd
theorem yi{v:V}(O:Gl X x)(C:X.mg x=kf)(hv:Qa x=Z u)(r:RelV v u)(y:uP_ (x≠"__name__") uD_)(hd:uP_ ((x == ("__debug__" : ff))=j5) uD_):PE X (.Name x pos) (tC v) :=
 λ_ _ _ H _ I h=>gC I O C hv ⟨v,H,I,r,h⟩ y hd
variable{a b:fm}{ta tb:TE}{pos:Pos}
def PC(X:Cx)(op:CmpOp)(a b:fm)(t:TE):Prop :=
 ∀(B:E (eN×hb))(s:e9)(L:St)(H:Hp)(Q:VK),mu H s->t L H Q ->
  li (eval a X.i) (λv f=>li (eval b X.i) (λu m=>li (Qf op v u) (EP X B L Q) X.xe m) X.xe f) X.xe s
def tB(t:TE):TT:=λL H Q=>t L H λx l=>∃ c,x=.bl c/\Q c l
def Ak{t:TE}(h:PC X op a b t)(Y:behindInMarks op b=j5:=by first|exact nobehind _ ∅ ∅|rfl):PT X (.Compare a [op] [b] pos) (tB t):=by
 intro B s L H Q I y;refine wpAny_isTrue_Compare1 (thn (h B s L H _ I y) λv m Y=>thn Y λu k O=>thn O λc p ⟨x,l,i,g,ef⟩=>?_) Y;let d rfl q:=ef
 cases g
 exact Qg ⟨l,i,q⟩
def pJ{t:TE}(h:PE X e t)(eg:∀ whole,isTrue e X.i whole=(do let v ← whole;standAt e.pos;holding [v] (truthy v)):=by intro _;rfl):PT X e (tB t):=by
 intro B s L H Q I y;refine isTrue_plain (thn (h B s L H _ I y) λv m ⟨x,l,i,g,ef⟩=>?_) (eg _);let d rfl q:=ef
 cases g
 exact Qg ⟨l,i,q⟩
variable{tA tB':TT}{rest:E fm}
def tAnd(t u:TT):TT:=λL H Q=>t L H λc l=>if c=i0 then u L l Q else Q j5 l
def tOr(t u:TT):TT:=λL H Q=>t L H λc l=>if c=i0 then Q i0 l else u L l Q
def tNot(t:TT):TT:=λL H Q=>t L H λc l=>Q (!c) l
def JK(o:PT X a tA):PW X (.BoolOp .And [a] pos) tA:=by
 intro d B s L H Q I h;refine isTrue_and (thn (o B s L H Q I h) λc m e=>?_)
 cases c with
 |true=>exact isTrue_and_nil e
 |false=>exact e
def rh(o:PT X a tA):PW X (.BoolOp .Or [a] pos) tA:=by
 intro d B s L H Q I h;refine isTrue_or (thn (o B s L H Q I h) λc m e=>?_)
 cases c with
 |false=>exact isTrue_or_nil e
 |true=>exact e
def Ii(o:PT X a tA)(M:PW X (.BoolOp .And (b::rest) pos) tB'):PW X (.BoolOp .And (a::b::rest) pos) (tAnd tA tB'):=by
 intro d B s L H Q I h;refine isTrue_and (thn (o B s L H _ I h) λc m ⟨l,i,ef⟩=>?_)
 cases c with
 |true=>exact M d B m L l Q i ef
 |false=>exact⟨l,i,ef⟩
def xZ(o:PT X a tA)(M:PW X (.BoolOp .Or (b::rest) pos) tB'):PW X (.BoolOp .Or (a::b::rest) pos) (tOr tA tB'):=by
 intro d B s L H Q I h;refine isTrue_or (thn (o B s L H _ I h) λc m ⟨l,i,ef⟩=>?_)
 cases c with
 |true=>exact⟨l,i,ef⟩
 |false=>exact M d B m L l Q i ef
def Aj(o:PT X a tA):PT X (.UnaryOp .Not a pos) (tNot tA):=by
 intro B s L H Q I h;exact isTrue_not (o B s L H (λc l=>Q (!c) l) I h)
def tAndV(ta tb:TE):TE:=λL H Q=>ta L H λx l=>∃ c,x=.bl c/\if c=i0 then tb L l Q else Q (.bl j5) l
theorem pe_one{op}{t:TE}(h:PE X a t):PE X (.BoolOp op [a] pos) t:=λB s L H Q I y=>BoolOp_one (h B s L H Q I y)
def pe_and(o:PE X a ta)(M:PE X (.BoolOp .And (b::rest) pos) tb):PE X (.BoolOp .And (a::b::rest) pos) (tAndV ta tb):=by
 intro B s L H Q I h;refine BoolOp_and (thn (o B s L H _ I h) λv m ⟨x,l,i,g,ef⟩=>?_);let c rfl ef:=ef
 cases g
 refine Qg ?_
 cases c with
 |true=>exact M B m L l Q i ef
 |false=>exact⟨.bl j5,l,i,U,ef⟩
def tIf(t:TT)(ta tb:TE):TE:=λL H Q=>t L H λc l=>if c=i0 then ta L l Q else tb L l Q
def g9{c:fm}(T:PT X c tA)(o:PE X a ta)(M:PE X b tb):PE X (.IfExp c a b pos) (tIf tA ta tb):=by
 intro B s L H Q I h;refine wpAny_IfExp (thn (T B s L H _ I h) λd m ⟨l,i,ef⟩=>?_)
 cases d with
 |true=>exact o B m L l Q i ef
 |false=>exact M B m L l Q i ef
end
def SqL(K:Ln)(H:Hp)(a:eN)(xs:E V):Prop :=
 Rd H a (.lst xs) ∨
  ∃(o:hb)(J:io eK)(n:R),K.Z a=Z o/\o.cls=.type "list"/\o.dict=kf/\o.data=.seq J n/\J.J<=P7/\Vals xs J.n
def SqT(K:Ln)(H:Hp)(a:eN)(xs:E V):Prop :=
 Rd H a (.tup xs) ∨
  ∃(o:hb)(J:io eK)(n:R),K.Z a=Z o/\o.cls=.type "tuple"/\o.data=.seq J n/\J.J<=P7/\Vals xs J.n
def absV:eK->ii V
 |.none=>Z .non
 |.bool b=>Z (.bl b)
 |.int i _=>Z (.int i)
 |.str x _=>Z (.str x)
 |.bytes b _=>Z (.byt b)
 |.float b _=>Z (.flt b)
 |.ref a=>Z (.ref a)
 |.type n=>Z (.ty n)
 |_=>kf
def RelV.abs{x:V}(r:RelV x u):absV u=Z x:=by
 cases x with
 |non=>cases r;rfl
 |bl _=>cases r;rfl
 |int _=>obtain⟨t,rfl⟩:=r;rfl
 |str _=>obtain⟨t,rfl⟩:=r;rfl
 |byt _=>obtain⟨t,rfl⟩:=r;rfl
 |flt _=>obtain⟨t,rfl⟩:=r;rfl
 |ref _=>cases r;rfl
 |ty _=>cases r;rfl
theorem RelV.inj{x y:V}(r:RelV x u)(q:RelV y u):x=y:=L3 (r.abs.Y.Q q.abs)
theorem Vals.inj:∀{xs ys:E V}{us:E eK},Vals xs us->Vals ys us->xs=ys
 |_,_,_,.nil,.nil=>rfl
 |_,_,_,.cons r t,.cons v M=>by rw[r.inj v,Vals.inj t M]
section
variable{X:Cx}{pins:E (eN×hb)}{σ:St}{H:Hp}{s:e9}{a:eN}{xs ys:E V}
theorem SqL.of(h:H a=Z (.lst xs)):SqL K H a xs:=.inl (.inl h)
theorem SqT.of(h:H a=Z (.tup xs)):SqT K H a xs:=.inl (.inl h)
def Inv.list(I:Inv X pins σ H s)(h:SqL X.K H a xs):∃ its:E eK,Vals xs its/\PlainL s.H a its.toArray/\xs.L<=P7:=by
 obtain h|⟨o,its,n,g,T,hd,f,d,r⟩:=h
 .let z its n r e:=h.ok I.hok;erw[its,r,⟨_,n,e,U,U,U⟩,z]
 .erw[its.n,r,⟨o,n,I.kIn a o g,T,hd,∅⟩,3]
  let e:=r.L;simp[*]
def Inv.tuple(I:Inv X pins σ H s)(h:SqT X.K H a xs):∃ its:E eK,Vals xs its/\IsTup s.H a its.toArray/\xs.L<=P7:=by
 obtain h|⟨o,its,n,g,T,f,d,r⟩:=h
 .let z its r p:=h.ok I.hok;erw[its,r,p,z]
 .erw[its.n,r,⟨o,I.kIn a o g,T,n,∅⟩,3]
  let e:=r.L;simp[*]
def Inv.list_inj(I:Inv X pins σ H s)(h:SqL X.K H a xs)(h':SqL X.K H a ys):xs=ys:=by
 let J r{o n e _ _ d}_:=I.list h;let c v{j i N _ _ b}_:=I.list h';rw[e]at N;cases N;rw[d]at b;injection b with d1 _;let:J=c:=by simpa using congrArg io.toList d1
 subst this;exact r.inj v
end
abbrev Cx.wish(X:Cx)(ef:eK->e9->Prop):Cx:={X with xe:=ef}
abbrev Cx.nox(X:Cx):Cx:=X.wish λ_ _=>False
theorem Cx.Ok.wish{X:Cx}(ok:X.Ok)(ef:eK->e9->Prop):(X.wish ef).Ok :=
 ⟨ok.mod,ok.kind,ok.glob,ok.blt,ok.above,ok.inj,ok.has,ok.cab,ok.hd,ok.frames,ok.stk,ok.exf,ok.bs,ok.bsz,ok.noex,ok.exfs,ok.funs,ok.frf⟩
theorem Cx.Ok.unwish{X:Cx}(ok:(X.wish ef).Ok):X.Ok :=
 ⟨ok.mod,ok.kind,ok.glob,ok.blt,ok.above,ok.inj,ok.has,ok.cab,ok.hd,ok.frames,ok.stk,ok.exf,ok.bs,ok.bsz,ok.noex,ok.exfs,ok.funs,ok.frf⟩
section
variable{X:Cx}{pins:E (eN×hb)}{σ:St}{H:Hp}{s:e9}{ef:eK->e9->Prop}
theorem Inv.wish(I:Inv X pins σ H s)(ef:eK->e9->Prop):Inv (X.wish ef) pins σ H s:=⟨I.ok.wish ef,I.os,I.bare,I.base,I.loc,I.cell,I.free,I.freeC,I.pin,I.hok,I.len⟩
theorem Inv.unwish(I:Inv (X.wish ef) pins σ H s):Inv X pins σ H s:=⟨I.ok.unwish,I.os,I.bare,I.base,I.loc,I.cell,I.free,I.freeC,I.pin,I.hok,I.len⟩
def SP.unwish{D:Ends}{f:Flow}{s':e9}(h:SP (X.wish ef) pins D f s'):SP X pins D f s':=by
 cases f with
 |next=>obtain⟨p,eg,I,q⟩:=h;erw[p,eg,I.unwish,q]
 |brk=>obtain⟨p,eg,I,q⟩:=h;erw[p,eg,I.unwish,q]
 |cont=>obtain⟨p,eg,I,q⟩:=h;erw[p,eg,I.unwish,q]
 |ret u=>obtain⟨v,p,eg,I,r,q⟩:=h;erw[v,p,eg,I.unwish,r,q]
theorem PSs.nox{st:E fo}{t:TS}(h:PSs X.nox st t):PSs X st t:=λpins s σ H D I y =>
 Qe (h pins s σ H D (I.wish _) y) (λ_ _ q=>q.unwish) λ_ _ z=>False.elim z
end
section
variable{X:Cx}{st:fo}{rest:E fo}{t u:TS}{e:fm}{te:TE}{pos:Pos}
def tNext:TS:=λD L H=>D.nx L H
def tSeq(t u:TS):TS:=λD L H=>t (D.nxt (u D)) L H
theorem aQ:PSs X [] tNext:=λ_ _ L H _ I h=>wpAny_execs_nil ⟨L,H,I,h⟩
def ag(Y:PS X st t)(h2:PSs X rest u):PSs X (st::rest) (tSeq t u):=by
 intro B s L H D I h;refine wpAny_execs_cons (thn (Y B s L H (D.nxt (u D)) I h) λf m q=>?_)
 cases f with
 |next =>
  let p eg y q:=q;exact h2 B m p eg D y q
 |ret v=>exact q
 |brk=>exact q
 |cont=>exact q
def aj(Y:PS X st t):PSs X [st] t:=by
 intro B s L H D I h;refine wpAny_execs_cons (thn (Y B s L H D I h) λf m q=>?_)
 cases f with
 |next=>exact wpAny_execs_nil q
 |ret v=>exact q
 |brk=>exact q
 |cont=>exact q
def Inv.quiet{L:St}{H:Hp}(I:Inv X O L H s):interactive X.i=j5:=by simp[interactive,I.ok.kind]
def tDrop(te:TE):TS:=λD L H=>te L H λ_ l=>D.nx L l
def aR(eg:PE X e te)(hs:uP_ (swapsWith e kf pos.line X.i=pure j5) uR_):PS X (.Expr e pos) (tDrop te):=by
 intro B s L H D I h;exact wpAny_Expr_any (thn (eg B s L H _ I h) λv m ⟨x,l,i,g,ef⟩=>⟨L,l,i,ef⟩) I.quiet hs
def tRet(te:TE):TS:=λD L H=>te L H D.rt
def aF(eg:PE X e te):PS X (.Return (Z e) pos) (tRet te):=by
 intro B s L H D I h;exact wpAny_Return_some (thn (eg B s L H _ I h) λv m ⟨x,l,i,g,ef⟩=>⟨x,L,l,i,g,ef⟩)
def tIfS(c:TT)(t u:TS):TS:=λD L H=>c L H λb l=>if b=i0 then t D L l else u D L l
def cz{c:fm}{a b:E fo}{e:TT}(T:PT X c e)(o:PSs X a t)(M:PSs X b u):PS X (.If c a b pos) (tIfS e t u):=by
 intro B s L H D I h;refine wpAny_If (thn (T B s L H _ I h) λd m ⟨l,i,ef⟩=>?_)
 cases d with
 |true=>exact o B m L l D i ef
 |false=>exact M B m L l D i ef
def tNever:TS:=λ_ _ _=>False
theorem cG:PS X st tNever:=λ_ _ _ _ _ _ h=>h.elim
end
abbrev TG:=V->St->Hp->(St->Hp->Prop)->Prop
abbrev TGs:=E V->St->Hp->(St->Hp->Prop)->Prop
def PG(X:Cx)(a:fm)(t:TG):Prop :=
 ∀(B:E (eN×hb))(s:e9)(L:St)(H:Hp)(v:V)(u:eK)(Q:St->Hp->Prop),mu H s->RelV v u->t v L H Q ->
  li (assign a X.i u) (λ_ k=>∃ p eg,Inv X B p eg k/\Q p eg) X.xe s
def PGs(X:Cx)(ts:E fm)(t:TGs):Prop :=
 ∀(B:E (eN×hb))(s:e9)(L:St)(H:Hp)(n:E V)(j:E eK)(Q:St->Hp->Prop),mu H s->Vals n j->t n L H Q ->
  li (assignInOrder ((Qh ts X.i).h (·.2)) j) (λ_ k=>∃ p eg,Inv X B p eg k/\Q p eg) X.xe s
abbrev TSet:=V->V->V->Hp->(Hp->Prop)->Prop
def PSet(X:Cx)(t:TSet):Prop :=
 ∀(B:E (eN×hb))(s:e9)(L:St)(H:Hp)(o i v:V)(N n u:eK)(Q:Hp->Prop),mu H s->RelV o N->RelV i n->RelV v u->t o i v H Q ->
  li (setItem N n u) (λ_ k=>∃ eg,mu eg k/\Q eg) X.xe s
abbrev TIp:=V->V->Hp->VK->Prop
def PIp(X:Cx)(op:Operator)(t:TIp):Prop :=
 ∀(B:E (eN×hb))(s:e9)(L:St)(H:Hp)(x y:V)(v u:eK)(Q:VK),mu H s->RelV x v->RelV y u->t x y H Q ->
  li (inplaceOp op v u) (EP X B L Q) X.xe s
section
variable{X:Cx}{pos:Pos}
def ui(i:R):TG:=λv L H Q=>Q (L.set i (Z v)) H
def aU(o:X.N.l)(hi:X.N[i]?=Z x)(J:Loc X.i.scope x)(A:X.fn x=i0∨X.i.scope.names.Z x=Z .local:=by first|exact .inl rfl|exact .inr rfl|assumption):PG X (.Name x pos) (ui i):=by
 intro B s L H v u Q I r h;exact wpAny_assign_Name (rS I o hi J r (λk y=>⟨_,H,y,h⟩) A)
def gNil:TGs:=λn L H Q=>n=[]/\Q L H
inductive gCons(t:TG)(u:TGs)(vs:E L2.V)(σ:L2.St)(H:L2.Hp)(Q:(L2.St->L2.Hp->Prop)):Prop
 |mk (v r:_) (_:vs=v::r)(_:t v σ H λσ' H'=>u r σ' H' Q)
def br:PGs X [] gNil:=by
 intro B s L H n j Q I r h;let e h:=h;subst e
 cases r
 exact assignInOrder_nil ⟨L,H,I,h⟩
def ay{es:E fm}{t:TG}{u:TGs}(Y:PG X e t)(h2:PGs X es u)(hs:uP_ ((Qh (e::es) X.i).h (·.2)=assign e X.i::(Qh es X.i).h (·.2)) uR_):PGs X (e::es) (gCons t u):=by
 intro B s L H n j Q I r h;let v q f h:=h;subst f
 cases r with
 |cons r c =>
  rw[hs];refine assignInOrder_cons (thn (Y B s L H _ _ _ I r h) λ_ m ⟨g,l,i,ef⟩=>?_);exact h2 B m g l _ _ Q i c ef
inductive gTup(K:Ln)(n:R)(t:TGs)(v:L2.V)(σ:L2.St)(H:L2.Hp)(Q:(L2.St->L2.Hp->Prop)):Prop
 |mk (a xs:_) (_:v=.ref a)(_:SqT K H a xs)(_:xs.L=n)(_:t xs σ H Q)
def iM{es:E fm}{k:R}{t:TGs}(T:X.calm=i0)(h:PGs X es t)(l:uP_ ((Qh es X.i).L=n) uR_)(j:uP_ ((Qh es X.i).findIdx? (·.1)=kf) uR_):PG X (.Tuple es k pos) (gTup X.K n t):=by
 intro B s L H v u Q I r x;let a D f Y C x:=x;subst f
 cases r
 let g rv y d:=I.tuple Y;refine assign_Tuple_tuple (I.ok.hd T) y (by simp[l,← C,rv.L]) j λeg J=>?_
 let i:mu H {s,eg}:=I.kept (t':=s.v) λb o e=>J b o (LJ (P8 e)) e;exact h B _ L H D _ Q i (by simpa using rv) x
def gSub(b a:TE)(t:TSet):TG:=λv L H Q=>b L H λo l=>a L l λi O=>t o i v O λj=>Q L j
def vy{o i:fm}{b a:TE}{t:TSet}(D:PE X o b)(hi:PE X i a)(hs:PSet X t)(J:∀ v,assign (.Subscript o i pos) X.i v=(do
   let ov ← holding [v] (eval o X.i)
   let n ← holding [v,ov] (eval i X.i)
   standAt pos
   holding [v,ov,n] (setItem ov n v)
   release [v,ov,n] []):=by intro _;rfl):PG X (.Subscript o i pos) (gSub b a t):=by
 intro B s L H v u Q I r h;rw[J];refine Qi (Qj (thn (D B s L H _ I h) λov m ⟨x,l,f,g,ef⟩=>?_));refine Qi (Qj (thn (hi B m L l _ f ef) λn k ⟨y,O,z,T,p⟩=>?_));refine Qi (wpAny_standAt (Qi (Qj (thn (hs B k L O x y v ov n u _ z g T r p) λ_ d ⟨j,w,C⟩=>?_))));exact wpAny_release ⟨L,j,w,C⟩
def tAsg(p:TE)(g:TG):TS:=λD L H=>p L H λx l=>g x L l D.nx
def vp{tg:fm}{p:TE}{g:TG}(eg:PE X e p)(O:PG X tg g)(hs:uP_ (swapsWithSole [tg] e pos.line X.i=pure j5) uR_)(hw:uP_ (swappedStores [tg] e X.i=pure kf) uR_)(Y:uP_ ((Qh [tg] X.i).h (·.2)=[assign tg X.i]) uR_):PS X (.Assign [tg] e pos) (tAsg p g):=by
 intro B s L H D I h;refine wpAny_Assign_stores (thn (eg B s L H _ I h) λv m ⟨x,l,i,w,ef⟩=>?_) hs hw;rw[Y];exact thn (O B m L l x v _ i w ef) λ_ k q=>q
def ps_set{p:TE}{a:Pos}(o:X.N.l)(hi:X.N[i]?=Z x)(J:Loc X.i.scope x)(eg:PE X e p)(hs:uP_ (swapsWith e (Z (.Name x a)) pos.line X.i=pure j5) uR_)(A:X.fn x=i0∨X.i.scope.names.Z x=Z .local:=by first|exact .inl rfl|exact .inr rfl|assumption):
  PS X (.Assign [.Name x a] e pos) (tAsg p (ui i)):=by
 intro B s L H D I h;refine wpAny_Assign_Name (thn (eg B s L H _ I h) λv m ⟨y,l,f,g,ef⟩=>?_) hs;exact rS f o hi J g (λk z=>⟨_,l,z,ef⟩) A
def tAugS(b a p:TE)(d:V->V->Hp->VK->Prop)(f:TIp)(e:TSet):TS:=λD L H=>b L H λo l=>a L l λi O=>d o i O λx j=>p L j λy c=>f x y c λz Q=>e o i z Q λw=>D.nx L w
def PGet(X:Cx)(t:V->V->Hp->VK->Prop):Prop :=
 ∀(B:E (eN×hb))(s:e9)(L:St)(H:Hp)(o i:V)(N n:eK)(Q:VK),mu H s->RelV o N->RelV i n->t o i H Q ->
  li (getItem N n) (EP X B L Q) X.xe s
def JN{o i:fm}{to ti te:TE}{aa:V->V->Hp->VK->Prop}{ac:TIp}{ab:TSet}{op:Operator}{al:Pos}(N:PE X o to)(hi:PE X i ti)(n:PGet X aa)(eg:PE X e te)(Y:PIp X op ac)(hs:PSet X ab)(J:∀ ov A new,augStore i ov A new=(do holding [new,ov,A] (setItem ov A new);release [new,ov,A] [];pure .next):=by intros;rfl):PS X (.AugAssign (.Subscript o i al) op e pos) (tAugS to ti te aa ac ab):=by
 intro B s L H D I h;refine wpAny_AugAssign_SubscriptAny (thn (N B s L H _ I h) λov m ⟨M,l,f,g,ef⟩=>?_) J;refine thn (hi B m L l _ f ef) λA k C=>?_;let r O z T p:=C;refine thn (n B k L O M r ov A _ z g T p) λu d C=>?_;let x3 j y r3 t:=C;refine thn (eg B d L j _ y t) λv q C=>?_;let x4 c I4 r4 q4:=C;refine thn (Y B q L c x3 x4 u v _ I4 r3 r4 q4) λnew a C=>?_;let x5 Q I5 r5 x:=C;exact thn (hs B a L Q M r x5 ov A new _ I5 g T r5 x) λ_ b ⟨w,I6,q6⟩=>⟨L,w,I6,q6⟩
def ipI(f:G->G->G):TIp:=λx y H Q=>∃ i j,x=.int i/\y=.int j/\Q (.int (f i j)) H
def ip_add:PIp X .Add (ipI λi j=>i+j):=by
 intro B s L H x y v u Q I g T h;let i j f A q:=h;subst f;subst A;let t rfl:=g;let M rfl:=T;exact iadd_int ⟨.int _,H,I.tok _,⟨_,U⟩,q⟩
inductive HJ(c:TT)(tb:TS)(D:L2.Ends)(σ:L2.St)(H:L2.Hp):Prop
 |mk (W:R->St->Hp->Prop) (_:(∃ m,W m σ H))(_:∀ m σ H,W m σ H ->
 c σ H λb H1=>if b=i0 then ∃ N:St->Hp->Prop,(∀ σ' H',N σ' H'->∃ m',m'<m/\W m' σ' H')/\tb (D.lop (N)) σ H1 else D.nx σ H1)
def fN{c:fm}{a:E fo}{tc:TT}{tb:TS}(Y:PassesOwn (model X.e X.w) X.A X.i X.xe)(T:PT X c tc)(M:PSs X a tb):PS X (.While c a [] pos) (HJ tc tb):=by
 intro B s L H D I h;let W{x r}turn:=h;refine wpAny_While (codeAny_whileLoop (λn q=>∃ ef eg,Inv X B ef eg q/\W n ef eg) ?_ x ⟨L,H,I,r⟩);rintro n m ⟨g,l,i,w1⟩;refine Qk Y (thn (T B m g l _ i (turn n g l w1)) λb k ⟨O,z,p⟩=>?_)
 cases b with
 |true =>
  let N o p:=p;rw[Rw U];refine Qk Y (thn (M B k g O _ z p) λf d t=>?_)
  cases f with
  |next =>
   let e j y Q:=t;let u C J:=o e j Q;erw[u,C,e,j,y,J]
  |cont =>
   let e j y Q:=t;let u C J:=o e j Q;erw[u,C,e,j,y,J]
  |brk=>exact t
  |ret v=>exact t
 |false =>
  rw[Rx LS];exact wpAny_execs_nil ⟨g,O,z,p⟩
end
set_option genInjectivity false in
structure It where
 go:R->Hp->Prop
 yld:R->Hp->V->Hp->Prop
 stop:R->Hp->Prop
def FpOk(X:Cx)(B:E (eN×hb))(H:Hp)(b:eN):Prop :=
 H b=kf/\b≠X.i.locals/\b∉X.fs/\(b∈X.ex∨X.s₀.H.M.J<=b)/\(∀ x c,X.i.cells.Z x=Z c->c≠b)/\∀ p∈X.pn++B,p.1≠b
def Inv.fpOk{X:Cx}{L:St}{H H':Hp}{b:eN}(I:Inv X O L H s)(M:s.H.M.J<=b)(y:H' b=kf):FpOk X O H' b:=by
 erw[y,Mz (L6 I.lt M),I.nofs M,.inr (Mi I.sz M),λx c e z=>?_,λp Y z=>?_]
 .let v q:=I.cell x c e;exact Ry (L6 q.lt (by simp!)) (Nj _)
 .exact Ry (L6 (P8 (I.pin p Y).1) (by simp!)) (Nj _)
structure Turn(P:fI)(w:hx)(K:Ln)(tg:fm)(J:It)(fp:E eN)(it:eN)(tn:R->fc->Prop):Prop where
 mem:it∈fp
 obj:∀ i h,tn i h->∀ b∈fp,∃ o,h.R b=Z o/\∀ v,o.data≠.cell v
 keep:∀ i h h',tn i h->(∀ b∈fp,∀ o,h.R b=Z o->h'.R b=Z o)->tn i h'
 item:∀(X:Cx),X.e=P->X.w=w->X.K=K->X.calm=i0->∀(i:R)(pins:E (eN×hb))(s:e9)(σ:St)(H:Hp)(ef:eK->e9->Prop),mi σ H s->(∀ b∈fp,FpOk X pins H b)->tn i s.H->J.go i H ->
  wpAny (model P w) X.A (pyNext (.ref it)) (λr s1=>∃ u,r=Z u /\
   wpAny (model P w) X.A (letOwnedTupleGo tg (.ref it) u) (λ_ s2=>∃ x H',mi σ H' s2/\RelV x u/\J.yld i H x H'/\tn (i+1) s2.H/\∀ b∈fp,H' b=kf) ef s1) ef s
 done:∀(X:Cx),X.e=P->X.w=w->X.K=K->X.calm=i0->∀(i:R)(pins:E (eN×hb))(s:e9)(σ:St)(H:Hp)(ef:eK->e9->Prop),mi σ H s->(∀ b∈fp,FpOk X pins H b)->tn i s.H->J.stop i H ->
  wpAny (model P w) X.A (pyNext (.ref it)) (λr s1=>r=kf/\mi σ H s1) ef s
 self:∀(A:Around)(i:R)(s:e9)(Q:eK->e9->Prop)(ef:eK->e9->Prop),tn i s.H->Q (.ref it) s->wpAny (model P w) A (pyIter (.ref it)) Q ef s
abbrev TI:=St->Hp->(It->Hp->Prop)->Prop
def PIE(X:Cx)(B:E (eN×hb))(L:St)(tg:fm)(ad:It->Hp->Prop)(d:eK)(s2:e9):Prop :=
 ∃(e:eN)(c:E eN)(a:R->fc->Prop)(J:It)(eg:Hp),d=.ref e/\mu eg s2/\Turn X.e X.w X.K tg J c e a/\a 0 s2.H/\(∀ b∈c,FpOk X B eg b)/\ad J eg
def PI(X:Cx)(tg f:fm)(k:TI):Prop :=
 ∀(B:E (eN×hb))(s:e9)(L:St)(H:Hp)(ad:It->Hp->Prop),mu H s->k L H ad ->
  li (eval f X.i) (λv m=>li (pyIter v) (PIE X B L tg ad) X.xe m) X.xe s
def D8{M:Model}{tg:fm}{n:String}{vs:io eK}{Q:Unit->e9->Prop}(D:s.H.R it=Z o)(T:o.cls=.type n)(hd:o.data=.fields vs)(y : ["enumerate","zip","dict_itemiterator","dict_reverseitemiterator","odict_iterator","itertools.zip_longest","itertools.pairwise"].contains n=j5)(H:Q () s):wpAny M A (letOwnedTupleGo tg (.ref it) u) Q ef s:=by
 unfold letOwnedTupleGo
 cases tg<;>first
  |exact Ql H
  | (cases u<;>first
    |exact Ql H
    | (refine Qi (wpAny_load D ?_)
       rw[T,hd]
       show wpAny M A (if(["enumerate","zip","dict_itemiterator","dict_reverseitemiterator","odict_iterator","itertools.zip_longest","itertools.pairwise"].contains n&&vs[0]? == Z (rawInt _))=i0 then _ else _) Q ef s
       rw[Rx (by intro h;rw[y,OP]at h;cases h)]
       exact Ql H))
def Itl(K:Ln)(a:eN):It :=
 ⟨λi H=>∃ D x,nv a D/\D[i]?=Z x,λi H x eg=>eg=H/\∀ D,nv a D->D[i]?=Z x,λi H=>∃ D,nv a D/\D.L<=i⟩
def Itr(lo:G)(n:R):It:=⟨λi _=>i<n,λi H x eg=>eg=H/\x=.int (lo+i),λi _=>n<=i⟩
theorem B5{tg:fm}(a it:eN):Turn P w K tg (Itl K a) [it] it (λi h=>h.IsListIter it a i) where
 mem:=by simp
 obj:=λi h st b M=>by
  let e:b=it:=by simpa using M
  subst e;let o e c d:=st;erw[o,e,λv z=>by simp!]
 keep:=λi h t st k=>st.at λo e=>k it (by simp) o e
 item:=by
  intro X q y hK T i B s L H ef I A st O;subst q y hK;let D x Y J:=O;let f rv p r:=I.list Y;let u eg ru:=rv.get J;let f0 m n f3 N f5:=A it (by simp)
  refine wpAny_pyNext_list_item st p.isList (x:=u) (by simpa using eg) λt aa sb=>?_
  let g:mu H {s,t}:=I.turned (t':=s.v) (λb o M e=>(sb.2 b M).Q e) f0 m f3 N f5;let o e c d:=id aa;erw[u,U,D8 (s:={s,t}) e c d ∅ ⟨x,H,g,ru,⟨U,λj Q=>by rw[I.list_inj Q Y];exact J⟩,aa,λb M=>(A b M).1⟩]
 done:=by
  intro X q y hK T i B s L H ef I A st O;subst q y hK;let D Y J:=O;let f rv p r:=I.list Y;let f0 m n f3 N f5:=A it (by simp)
  let C:=rv.L;exact wpAny_pyNext_list_end (I.ok.hd T) st p.isList (by simp!) λt l=>⟨U,I.turned (t':=s.v) (λb o M e=>l b o M e) f0 m f3 N f5⟩
 self:=λ_ _ _ _ _ st h=>wpAny_pyIter_listiter st h
theorem AY{tg:fm}(it:eN)(lo:G)(n:R):Turn P w K tg (Itr lo n) [it] it (λi h=>IsRangeIter h it (lo+(i:R)*1) ((n:G)-(i:R)) 1) where
 mem:=by simp
 obj:=λi h st b M=>by
  let e:b=it:=by grind
  subst e
  erw[_,st,λv z=>by
   contradiction]
 keep:=λi h eg st k=>k it (by simp) _ st
 item:=by
  intro X q y c T i B s L H ef I A st O;subst q y c;let Q g a x j J:=A it (by simp)
  let W:=Walks.range (prog:=X.e) (w:=X.w) (I.ok.hd T) it lo 1 n;refine W.item i s _ _ O st λv eg D l m d=>?_;let t rfl:=l;let f:mu H {s with heap:=eg,toks:=D}:=I.turned (λb o M e=>d b o (by simpa using M) e) Q g x j J
  erw[9,D8 (s:={s with heap:=eg,toks:=D}) (n:="range_iterator") m U U ∅ ⟨.int (lo+i),H,f,⟨t,?_⟩,⟨U,U⟩,m,λb M=>(A b M).1⟩]
  rw[Int.mul_one]
 done:=by
  intro X q y c T i B s L H ef I A st O;subst q y c;let Q g a x j J:=A it (by simp)
  exact wpAny_pyNext_range_end (I.ok.hd T) st (by let:n<=i:=O;lia) λeg p=>⟨U,I.turned (t':=s.v) (λb o M e=>p b o M e) Q g x j J⟩
 self:=λ_ _ _ _ _ st h=>wpAny_pyIter_rangeiter st h
section
variable{X:Cx}{tg:fm}
def iList(K:Ln)(tl:TE):TI:=λL H ad=>tl L H λx l=>∃ a,x=.ref a/\(∃ D,SqL K l a D)/\ad (Itl K a) l
def aJ{l:fm}{tl:TE}(hl:PE X l tl):PI X tg l (iList X.K tl):=by
 intro B s L H ad I h;refine thn (hl B s L H _ I h) λv m C=>?_;let x ef i g r:=C;let a e{D Y}q:=r;subst e
 cases g
 let J rv p d:=i.list Y;refine wpAny_pyIter_list p.isList ?_;erw[m.H.M.J,[m.H.M.J],5,ef,U,i.kept (t':=m.v) λb o e=>Qm _ e,B5 a _,⟨_,Qn _ U,U,U⟩,λb M=>?_,q];let e:b=m.H.M.J:=by simpa using M
 subst e;exact i.fpOk (Lo _) (i.hok.fresh (Lo _))
def FO{L:St}{H:Hp}{ad:It->Hp->Prop}{lo hi:G}{t u v:Tok}{tk:R}(I:Inv X O L H s)(Y : -(2^62)<=lo)(h2:lo<2^62)(B : -(2^62)<=hi)(m:hi<2^62)(q:ad (Itr lo (hi-lo).U) H):li (pyIter (.ref s.H.M.J)) (PIE X O L tg ad) ef {s with heap:=s.H.o {cls:=.type "range",data:=.fields #[.int lo t,.int hi u,.int 1 v]},toks:=tk}:=by
 refine wpAny_pyIter_range (IsRange.new ..) (small_one Y h2 B m) ?_;let i:Inv X O L H {s with heap:=s.H.o {cls:=.type "range",data:=.fields #[.int lo t,.int hi u,.int 1 v]},toks:=tk}:=I.kept λb o e=>Qm _ e
 erw[(s.H.o {cls:=.type "range",data:=.fields #[.int lo t,.int hi u,.int 1 v]}).M.J,[(s.H.o {cls:=.type "range",data:=.fields #[.int lo t,.int hi u,.int 1 v]}).M.J],5,H,U,
  i.kept (t':=tk) λb o e=>Qm _ e,AY _ lo (hi-lo).U,3,λb M=>?_,q]
 .let f:lo+((0:R):G)*1=lo:=by simp
  let J:(((hi-lo).U:R):G)-((0:R):G)=hX.Range.rangeSize lo hi 1:=by rw[rangeSize_one];grind
  show IsRangeIter _ _ (lo+((0:R):G)*1) ((((hi-lo).U:R):G)-((0:R):G)) 1;rw[f,J];exact Qn _ U
 .let e:b=(s.H.o {cls:=.type "range",data:=.fields #[.int lo t,.int hi u,.int 1 v]}).M.J:=by simpa using M
  subst e;exact i.fpOk (Lo _) (i.hok.fresh (Lo _))
def iRng1(d:TA):TI:=λL H ad=>d L H λn l=>∃ j:G,n=[.int j]/\-(2^62)<=j/\j<2^62/\ad (Itr 0 j.U) l
def bf{a:fm}{d:TA}{p:Pos}(O:Gl X "range")(C:X.mg "range"=kf)(o:PA X [a] d)(hs:uP_ (Qd [a] X.i=[(j5,eval a X.i)]) uR_):PI X tg (.Call (.Name "range" p) [a] [] pos) (iRng1 d):=by
 intro B s L H ad I h;refine Call_ (gC I O C boot_range (Qo (thn (o pos B s L H _ I h) λx m ⟨n,l,i,g,ef⟩=>?_) hs U));let j e ef M q:=ef;subst e
 cases g with
 |cons r c =>
  cases c
  let t rfl:=r;exact call_range_1 (FO i ∅ ∅ ef M (by simpa using q))
def tFor(k:TI)(g:TG)(tb:TS):TS:=λD L H=>k L H λJ l=>∃ W:R->R->St->Hp->Prop,(∃ m,W 0 m L l)/\∀ i m L H,W i m L H ->
 (J.stop i H/\D.nx L H)∨(J.go i H/\∃ N:St->Hp->Prop,(∀ p eg,N p eg->∃ u,u<m/\W (i+1) u p eg)/\∀ x eg,J.yld i H x eg->g x L eg λh O=>tb (D.lop (N)) h O)
def Am(fp:E eN)(h:fc):E (eN×hb):=fp.filterMap λb=>(h.R b).h λo=>(b,o)
theorem jY{b:eN}(M:b∈fp)(e:h.R b=Z o):(b,o)∈Am fp h:=Nz.mpr ⟨b,M,by rw[e];rfl⟩
def Dj{p:eN×hb}(Y:p∈Am fp h):p.1∈fp/\h.R p.1=Z p.2:=by
 let b M e:=Nz.mp Y
 cases q:h.R b with
 |none=>simp!
 |some o =>
  rw[q]at e;let N:(b,o)=p:=L3 e;subst N;erw[M,q]
theorem Inv.pinned{L:St}{H:Hp}(I:Inv X O L H s)(A:∀ b∈fp,FpOk X O H b)(D:∀ b∈fp,∃ o,s.H.R b=Z o/\∀ v,o.data≠.cell v):Inv X (O++Am fp s.H) L H s :=
 I.pins_of λp Y=>(LY.mp Y).elim (λz=>I.pin p (LX _ z)) λz=>by
  let M e:=Dj z;let Q g a _:=A p.1 M;let o N d:=D p.1 M;rw[e]at N;cases N;erw[e,Q,g,a,d]
theorem Inv.unpinned{pl:E (eN×hb)}{L:St}{H:Hp}(I:Inv X (O++pl) L H s):Inv X O L H s:=I.pins_of λp Y=>I.pin p (LX _ (Mo _ Y))
def bc{ac:fm}{aa:E fo}{wi:TI}{g:TG}{tb:TS}(t:PassesOwn (model X.e X.w) X.A X.i X.xe)(p:X.calm=i0)(hi:PI X tg ac wi)(a:PG X tg g)(M:PSs X aa tb)(hs:∀ x,Qp ac X.i x=pure x:=by intro _;rfl):PS X (.For tg ac aa [] pos) (tFor wi g tb):=by
 intro B s L H D I h;refine wpAny_For (thn (hi B s L H _ I h) λv q Y=>thn Y λaT k O=>?_) hs;let it fp tn J l e z T ab f2 W{m0 w0}turn:=O;subst e;let am:∀{H':Hp},(∀ b∈fp,H' b=kf)->∀ b∈fp,FpOk X B H' b:=λy b M=>⟨y b M,(f2 b M).2⟩;refine codeAny_forLoop_any (λn s'=>∃ i ef H',Inv X B ef H' s'/\tn i s'.H/\(∀ b∈fp,H' b=kf)/\W i n ef H') ?_ m0 ⟨0,L,l,z,ab,λb M=>(f2 b M).1,w0⟩;rintro n c ⟨i,al,j,I3,aI,aS,w3⟩;rcases turn i n al j w3 with⟨stop,qn⟩|⟨go,N,hN,step⟩
 .refine Qk t (thn (T.done X U U U p i B c al j X.xe I3 (am aS) aI stop) λr s4 ⟨eg,I4⟩=>?_);subst eg;exact wpAny_execs_nil ⟨al,j,I4,qn⟩
 .refine Qk t (thn (T.item X U U U p i B c al j X.xe I3 (am aS) aI go) λr s4 ⟨u,eg,h4⟩=>?_);subst eg;refine Qk t (thn h4 λ_ s5 ⟨x,Q,I5,r5,y5,ap,aZ⟩=>?_);let a0:=I5.pinned (am aZ) (T.obj _ _ ap);refine Qk t (thn (a _ s5 al Q x u _ a0 r5 (step x Q y5)) λ_ s6 ⟨av,H6,I6,q6⟩=>?_);refine Qk t (thn (M _ s6 av H6 _ I6 q6) λf s7 q7=>?_);let again:∀{an:St}{H7:Hp},Inv X (B++Am fp s5.H) an H7 s7->N an H7->∃ m,m<n/\∃ i ef H',Inv X B ef H' s7/\tn i s7.H/\(∀ b∈fp,H' b=kf)/\W i m ef H':=λ{an H7} I7 n7=>by
   let m' C w7:=hN an H7 n7;erw[m',C,i+1,an,H7,I7.unpinned,T.keep _ _ _ ap λb M o e=>(I7.pin (b,o) (LX _ (LX _ (jY M e)))).1,λb M=>?_,w7];let o e d:=T.obj _ _ ap b M;exact(I7.pin (b,o) (LX _ (LX _ (jY M e)))).2.1
  cases f with
  |next=>obtain⟨an,H7,I7,n7⟩:=q7;exact again I7 n7
  |cont=>obtain⟨an,H7,I7,n7⟩:=q7;exact again I7 n7
  |brk=>obtain⟨an,H7,I7,q7⟩:=q7;erw[an,H7,I7.unpinned,q7]
  |ret v=>obtain⟨x7,an,H7,I7,r7,q7⟩:=q7;erw[x7,an,H7,I7.unpinned,r7,q7]
end
def bh{xs:E V}{g:TG}{tb:TS}{D:Ends}{L:St}{H:Hp}(Pv:R->St->Hp->Prop)(A:Pv 0 L H)(hl:∀ i L H,i<=xs.L->Pv i L H->nv a xs)(hs:∀ i x L H,xs[i]?=Z x->Pv i L H->g x L H λh H2=>tb (D.lop (Pv (i+1))) h H2)(hd:∀ L H,Pv xs.L L H->D.nx L H):
  ∃ W:R->R->St->Hp->Prop,(∃ m,W 0 m L H)/\∀ i m L H,W i m L H ->
   ((Itl K a).stop i H/\D.nx L H)∨((Itl K a).go i H/\∃ N:St->Hp->Prop,(∀ σ' H',N σ' H'->∃ u,u<m/\W (i+1) u σ' H')/\∀ x H',(Itl K a).yld i H x H'->g x L H' λh H2=>tb (D.lop (N)) h H2):=by
 erw[λi m L H=>m=xs.L-i/\i<=xs.L/\Pv i L H,⟨xs.L,by simp,LU _,A⟩,3]
 rintro i m L H ⟨rfl,B,p⟩;let q:=hl i L H B p;by_cases j:i<xs.L
 .refine .inr ⟨⟨xs,xs[i],q,by simp⟩,Pv (i+1),λσ' H' I=>⟨xs.L-(i+1),∅,U,j,I⟩,λx H' y=>?_⟩
  let e y:=y;subst e;exact hs i x L _ (y xs q) p
 .let e:i=xs.L:=by lia
  subst e;exact .inl ⟨⟨xs,q,Lo _⟩,hd L H p⟩
def dU{lo:G}{g:TG}{tb:TS}{D:Ends}{L:St}{H:Hp}(Pv:R->St->Hp->Prop)(A:Pv 0 L H)(hs:∀ i L H,i<n->Pv i L H->g (.int (lo+i)) L H λh H2=>tb (D.lop (Pv (i+1))) h H2)(hd:∀ L H,Pv n L H->D.nx L H):
  ∃ W:R->R->St->Hp->Prop,(∃ m,W 0 m L H)/\∀ i m L H,W i m L H ->
   ((Itr lo n).stop i H/\D.nx L H)∨((Itr lo n).go i H/\∃ N:St->Hp->Prop,(∀ σ' H',N σ' H'->∃ u,u<m/\W (i+1) u σ' H')/\∀ x H',(Itr lo n).yld i H x H'->g x L H' λh H2=>tb (D.lop (N)) h H2):=by
 erw[λi m L H=>m=n-i/\i<=n/\Pv i L H,⟨n,by simp,LU _,A⟩,3]
 rintro i m L H ⟨rfl,B,p⟩;by_cases j:i<n
 .refine .inr ⟨j,Pv (i+1),λσ' H' I=>⟨n-(i+1),∅,U,j,I⟩,λx H' y=>?_⟩
  let e y:=y;subst e y;exact hs i L _ j p
 .let e:i=n:=by lia
  subst e;exact .inl ⟨Lo _,hd L H p⟩
def gL{c:TT}{tb:TS}{D:Ends}{L:St}{H:Hp}(Pv:St->Hp->Prop)(a:St->Hp->R)(A:Pv L H)(hs:∀ L H,Pv L H->c L H λb H1=>if b=i0 then tb (D.lop (λσ' H'=>Pv σ' H'/\a σ' H'<a L H)) L H1 else D.nx L H1)(mono:∀ L H Q v,(∀ b H1,Q b H1->v b H1)->c L H Q->c L H v):HJ c tb D L H:=by
 erw[λm L H=>m=a L H/\Pv L H,⟨_,U,A⟩,3];rintro m L H ⟨rfl,p⟩;refine mono L H _ _ (λb H1 q=>?_) (hs L H p)
 cases b with
 |true=>exact⟨_,λσ' H' ⟨I,l⟩=>⟨_,l,U,I⟩,q⟩
 |false=>exact q
abbrev R2:=V->V->Hp->VK->Prop
def OpR(X:Cx)(f:eK->eK->Sem eK)(r:R2):Prop :=
 ∀(B:E (eN×hb))(s:e9)(L:St)(H:Hp)(x y:V)(v u:eK)(Q:VK),mu H s->RelV x v->RelV y u->r x y H Q ->
  li (f v u) (EP X B L Q) X.xe s
def UnR(X:Cx)(f:eK->Sem eK)(r:V->Hp->VK->Prop):Prop :=
 ∀(B:E (eN×hb))(s:e9)(L:St)(H:Hp)(x:V)(v:eK)(Q:VK),mu H s->RelV x v->r x H Q ->
  li (f v) (EP X B L Q) X.xe s
def iJ(X:Cx)(f:eK)(r:E V->Hp->VK->Prop):Prop :=
 ∀(B:E (eN×hb))(s:e9)(L:St)(H:Hp)(D:E V)(j:E eK)(Q:VK),mu H s->Vals D j->r D H Q ->
  li (call f j) (EP X B L Q) X.xe s
def tOp(r:R2)(d tb:TE):TE:=λL H Q=>d L H λx l=>tb L l λy O=>r x y O Q
def tUn(r:V->Hp->VK->Prop)(d:TE):TE:=λL H Q=>d L H λx l=>r x l Q
inductive rI(C:G->G->Prop)(g:G->G->V)(x:L2.V)(y:L2.V)(H:L2.Hp)(Q:L2.VK):Prop
 |mk (i j:_) (_:x=.int i)(_:y=.int j)(_:C i j)(_:Q (g i j) H)
inductive rI0(g:G->G->V)(x:L2.V)(y:L2.V)(H:L2.Hp)(Q:L2.VK):Prop
 |mk (i j:_) (_:x=.int i)(_:y=.int j)(_:Q (g i j) H)
inductive rU(g:G->V)(x:L2.V)(H:L2.Hp)(Q:L2.VK):Prop
 |mk (i:_) (_:x=.int i)(_:Q (g i) H)
section
variable{X:Cx}{a b c:fm}{ta tb tc:TE}{pos:Pos}
def binT(o:PE X a ta)(M:PE X b tb){L:St}{H:Hp}{ad:V->V->Hp->Prop}(I:Inv X O L H s)(h:ta L H λx H1=>tb L H1 λy H2=>ad x y H2){f:eK->eK->Sem eK}(q:∀ v u s2 x y H2,Inv X O L H2 s2->RelV x v->RelV y u->ad x y H2->li (f v u) Q X.xe s2):
  li (eval a X.i) (λv s₁=>li (eval b X.i) (λu s₂=>li (f v u) Q X.xe s₂) X.xe s₁) X.xe s:=by
 refine thn (o O s L H _ I h) λv m C=>?_;let x H1 i g ef:=C;refine thn (M O m L H1 _ i ef) λu s2 C=>?_;let y H2 z T p:=C;exact q v u s2 x y H2 z g T p
def ax{op:Operator}{r:R2}(D:OpR X (Qq op) r)(o:PE X a ta)(M:PE X b tb):PE X (.BinOp a op b pos) (tOp r ta tb):=by
 intro B s L H Q I h;exact wpAny_BinOp (binT o M I h λv u k x y O z T c q=>D B k L O x y v u Q z T c q)
def pe_un{op:UnaryOp}{r:V->Hp->VK->Prop}(D:UnR X (unaryOp op) r)(o:PE X a ta):PE X (.UnaryOp op a pos) (tUn r ta):=by
 intro B s L H Q I h;exact UnaryOp_ (thn (o B s L H _ I h) λv m ⟨x,l,i,g,ef⟩=>D B m L l x v Q i g ef)
def opI{f:eK->eK->Sem eK}{C:G->G->Prop}{g:G->G->G}(rule:∀(i j:G)(t u:Tok)(s:e9)(Q:eK->e9->Prop)(ef:eK->e9->Prop),C i j->Q (.int (g i j) s.v) {s with toks:=s.v+1}->li (f (.int i t) (.int j u)) Q ef s):
  OpR X f (rI C λi j=>.int (g i j)):=by
 intro B s L H x y v u Q I a c h;let i j rfl rfl T q:=h;let t rfl:=a;let M rfl:=c;exact rule i j t M s _ _ T ⟨.int (g i j),H,I.tok _,⟨_,U⟩,q⟩
def opI0{f:eK->eK->Sem eK}{g:G->G->G}(rule:∀(i j:G)(t u:Tok)(s:e9)(Q:eK->e9->Prop)(ef:eK->e9->Prop),Q (.int (g i j) s.v) {s with toks:=s.v+1}->li (f (.int i t) (.int j u)) Q ef s):
  OpR X f (rI0 λi j=>.int (g i j)):=by
 intro B s L H x y v u Q I T c h;let i j rfl rfl q:=h;let t rfl:=T;let M rfl:=c;exact rule i j t M s _ _ ⟨.int (g i j),H,I.tok _,⟨_,U⟩,q⟩
def opB0{f:eK->eK->Sem eK}{g:G->G->im}(rule:∀(i j:G)(t u:Tok)(s:e9)(Q:eK->e9->Prop)(ef:eK->e9->Prop),Q (.bool (g i j)) s->li (f (.int i t) (.int j u)) Q ef s):
  OpR X f (rI0 λi j=>.bl (g i j)):=by
 intro B s L H x y v u Q I T c h;let i j rfl rfl q:=h;let t rfl:=T;let M rfl:=c;exact rule i j t M s _ _ ⟨.bl (g i j),H,I,U,q⟩
def CDiv(i j:G):Prop:=0<j/\j<1073741824
def CPow(i j:G):Prop:=0<=j/\j<=1000000/\i.natAbs<2^64
def CMul(i j:G):Prop:=(-(2^64)<i/\i<2^64)∨(-(2^64)<j/\j<2^64)
def CMul.ok{i j:G}(h:CMul i j):IntMulOk i j:=by
 rcases h with⟨Y,O⟩|⟨Y,O⟩
 .exact .of_left (intBits_le_64 Y O)
 .exact .of_right (intBits_le_64 Y O)
def AW(k:R):(0:G)<=2^k:=by
 rw[two_pow_cast];exact Int.natCast_nonneg _
theorem cV:OpR X (Qq .Add) (rI0 λi j=>.int (i+j)):=opI0 λ_ _ _ _ _ _ _ q=>add_int q
theorem kD:OpR X (Qq .Sub) (rI0 λi j=>.int (i-j)):=opI0 λ_ _ _ _ _ _ _ q=>sub_int q
theorem mB:OpR X (Qq .Mult) (rI CMul λi j=>.int (i*j)):=opI λ_ _ _ _ _ _ _ T q=>mul_int q T.ok
theorem kX:OpR X (Qq .FloorDiv) (rI CDiv λi j=>.int (i/j)):=opI λi j _ _ _ _ _ T q=>by
 let Y:(0:G)<j:=T.1;let O:j<1073741824:=T.2;exact floordiv_int ∅ (by rw[Py i ∅];exact q) (.inl (PyProof.noPylong_small ∅))
theorem iO:OpR X (Qq .Mod) (rI (λ_ j=>0<j) λi j=>.int (i%j)):=opI λi j _ _ _ _ _ T q=>by
 let Y:(0:G)<j:=T;exact mod_int' ∅ (by rw[Int.fmod_eq_emod_of_nonneg i ∅];exact q)
theorem op_pow:OpR X (Qq .Pow) (rI CPow λi j=>.int (i^j.U)):=opI λ_ _ _ _ _ _ _ T q=>pow_int_small T.1 T.2.1 T.2.2 q
theorem bI:OpR X (Qq .LShift) (rI CPow λi j=>.int (i*2^j.U)):=opI λ_ _ _ _ _ _ _ T q=>lshift_int_small T.1 T.2.1 T.2.2 q
theorem iN:OpR X (Qq .RShift) (rI (λ_ j=>0<=j) λi j=>.int (i/2^j.U)):=opI λi j _ _ _ _ _ T q =>
 rshift_int T (by rw[Py i (AW _)];exact q)
theorem eB:OpR X (Qq .BitAnd) (rI0 λi j=>.int (Qr i j)):=opI0 λ_ _ _ _ _ _ _ q=>and_int q
theorem i9:OpR X (Qq .BitOr) (rI0 λi j=>.int (Qs i j)):=opI0 λ_ _ _ _ _ _ _ q=>or_int q
theorem i8:OpR X (Qq .BitXor) (rI0 λi j=>.int (Qt i j)):=opI0 λ_ _ _ _ _ _ _ q=>xor_int q
def unI{f:eK->Sem eK}{g:G->G}(rule:∀(i:G)(t:Tok)(s:e9)(Q:eK->e9->Prop)(ef:eK->e9->Prop),Q (.int (g i) s.v) {s with toks:=s.v+1}->li (f (.int i t)) Q ef s):
  UnR X f (rU λi=>.int (g i)):=by
 intro B s L H x v Q I T h;let i rfl q:=h;let t rfl:=T;exact rule i t s _ _ ⟨.int (g i),H,I.tok _,⟨_,U⟩,q⟩
theorem un_neg:UnR X (unaryOp .USub) (rU λi=>.int (-i)):=unI λ_ _ _ _ _ q=>neg_int q
end
def scal:V->V->im
 |.non,.non=>i0 | .non,.int _=>i0 | .int _,.non=>i0 | .non,.bl _=>i0 | .bl _,.non=>i0 | .non,.str _=>i0 | .str _,.non=>i0
 |.int _,.int _=>i0 | .bl _,.bl _=>i0 | .str _,.str _=>i0 | .byt _,.byt _=>i0
 |.int _,.str _=>i0 | .str _,.int _=>i0 | .bl _,.str _=>i0 | .str _,.bl _=>i0
 |_,_=>j5
def rEq:R2:=λx y H Q=>scal x y=i0/\Q (.bl (decide (x=y))) H
def rNe:R2:=λx y H Q=>scal x y=i0/\Q (.bl (!decide (x=y))) H
def EB{i j:G}:decide (V.int i=V.int j)=(i == j):=by
 rw[Oc];simp
def IF{i j:im}:decide (V.bl i=V.bl j)=(i == j):=by
 rw[Oc];simp
def EA{i j:ff}:decide (V.str i=V.str j)=(i == j):=by
 rw[Oc];simp
def EC{i j:io UInt8}:decide (V.byt i=V.byt j)=(i.n == j.n):=by
 rw[Oc];simp
section
variable{X:Cx}{a b c:fm}{ta tb tc:TE}{pos:Pos}
def bw{L:St}{H:Hp}{Q:VK}{k k':im}(I:Inv X O L H s)(q:Q (.bl k) H)(e:k=k'):EP X O L Q (.bool k') s:=by
 subst e;erw[.bl k,H,I,U,q]
def eO:OpR X (Qf .Eq) rEq:=by
 intro B s L H x y v u Q I T c h;let f q:=h
 cases x with
 |non =>
  cases T
  cases y with
  |non=>cases c;exact PySem.EqNone.eq_none_none (bw I q (by simp))
  |bl j=>cases c;exact PySem.EqNone.eq_none_bool (bw I q (by simp))
  |int j=>obtain⟨M,rfl⟩:=c;exact PySem.EqNone.eq_none_int (bw I q (by simp))
  |str j=>obtain⟨M,rfl⟩:=c;exact PySem.EqNone.eq_none_str (bw I q (by simp))
  |_=>exact Ry (show j5=i0 from f) LS
 |bl i =>
  cases T
  cases y with
  |non=>cases c;exact PySem.EqNone.eq_bool_none (bw I q (by simp))
  |bl j=>cases c;exact eq_bool (bw I q IF)
  |str j=>obtain⟨M,rfl⟩:=c;exact PySem.EqMixed.eq_bool_str (bw I q (by simp))
  |_=>exact Ry (show j5=i0 from f) LS
 |int i =>
  let t rfl:=T
  cases y with
  |non=>cases c;exact PySem.EqNone.eq_int_none (bw I q (by simp))
  |int j=>obtain⟨M,rfl⟩:=c;exact eq_int (bw I q EB)
  |str j=>obtain⟨M,rfl⟩:=c;exact PySem.EqMixed.eq_int_str (bw I q (by simp))
  |_=>exact Ry (show j5=i0 from f) LS
 |str i =>
  let t rfl:=T
  cases y with
  |non=>cases c;exact PySem.EqNone.eq_str_none (bw I q (by simp))
  |bl j=>cases c;exact PySem.EqMixed.eq_str_bool (bw I q (by simp))
  |int j=>obtain⟨M,rfl⟩:=c;exact PySem.EqMixed.eq_str_int (bw I q (by simp))
  |str j=>obtain⟨M,rfl⟩:=c;exact eq_str (bw I q EA)
  |_=>exact Ry (show j5=i0 from f) LS
 |byt i =>
  let t rfl:=T
  cases y with
  |byt j=>obtain⟨M,rfl⟩:=c;exact PySem.W.eq_bytes (bw I q EC)
  |_=>exact Ry (show j5=i0 from f) LS
 |_=>cases y<;>exact Ry (show j5=i0 from f) LS
def mz:OpR X (Qf .NotEq) rNe:=by
 intro B s L H x y v u Q I T c h;let f q:=h
 cases x with
 |non =>
  cases T
  cases y with
  |non=>cases c;exact PySem.EqNone.ne_none_none (bw I q (by simp))
  |bl j=>cases c;exact PySem.EqNone.ne_none_bool (bw I q (by simp))
  |int j=>obtain⟨M,rfl⟩:=c;exact PySem.EqNone.ne_none_int (bw I q (by simp))
  |str j=>obtain⟨M,rfl⟩:=c;exact PySem.EqNone.ne_none_str (bw I q (by simp))
  |_=>exact Ry (show j5=i0 from f) LS
 |bl i =>
  cases T
  cases y with
  |non=>cases c;exact PySem.EqNone.ne_bool_none (bw I q (by simp))
  |bl j=>cases c;exact ne_bool (bw I q (congrArg not IF))
  |str j=>obtain⟨M,rfl⟩:=c;exact PySem.EqMixed.ne_bool_str (bw I q (by simp))
  |_=>exact Ry (show j5=i0 from f) LS
 |int i =>
  let t rfl:=T
  cases y with
  |non=>cases c;exact PySem.EqNone.ne_int_none (bw I q (by simp))
  |int j=>obtain⟨M,rfl⟩:=c;exact ne_int (bw I q (congrArg not EB))
  |str j=>obtain⟨M,rfl⟩:=c;exact PySem.EqMixed.ne_int_str (bw I q (by simp))
  |_=>exact Ry (show j5=i0 from f) LS
 |str i =>
  let t rfl:=T
  cases y with
  |non=>cases c;exact PySem.EqNone.ne_str_none (bw I q (by simp))
  |bl j=>cases c;exact PySem.EqMixed.ne_str_bool (bw I q (by simp))
  |int j=>obtain⟨M,rfl⟩:=c;exact PySem.EqMixed.ne_str_int (bw I q (by simp))
  |str j=>obtain⟨M,rfl⟩:=c;exact ne_str (bw I q (congrArg not EA))
  |_=>exact Ry (show j5=i0 from f) LS
 |byt i =>
  let t rfl:=T
  cases y with
  |byt j=>obtain⟨M,rfl⟩:=c;exact PySem.W.ne_bytes (bw I q (congrArg not EC))
  |_=>exact Ry (show j5=i0 from f) LS
 |_=>cases y<;>exact Ry (show j5=i0 from f) LS
theorem A4:OpR X (Qf .Lt) (rI0 λi j=>.bl (decide (i<j))):=opB0 λ_ _ _ _ _ _ _ q=>lt_int q
theorem yj:OpR X (Qf .Gt) (rI0 λi j=>.bl (decide (j<i))):=opB0 λ_ _ _ _ _ _ _ q=>gt_int q
theorem op_ge:OpR X (Qf .GtE) (rI0 λi j=>.bl (decide (j<=i))):=opB0 λ_ _ _ _ _ _ _ q=>ge_int q
def Im:OpR X (Qf .Is) (λx y H Q=>y=.non/\Q (.bl (decide (x=.non))) H):=by
 intro B s L H x y v u Q I T c h;let rfl q:=h
 cases c
 refine is_none_gen (bw I q ?_)
 cases x<;>first
  | (cases T;rfl)
  | (let t rfl:=T;rfl)
def C5:OpR X (Qf .IsNot) (λx y H Q=>y=.non/\Q (.bl (!decide (x=.non))) H):=by
 intro B s L H x y v u Q I T c h;let rfl q:=h
 cases c
 refine isnot_none_gen (bw I q ?_)
 cases x<;>first
  | (cases T;rfl)
  | (let t rfl:=T;rfl)
def aH(b:fm)(h:uP_ (op≠.In) uD_)(h2:uP_ (op≠.NotIn) uD_):behindInMarks op b=j5:=by
 let f:(op == CmpOp.In)=j5:=by simp!
 let A:(op == CmpOp.NotIn)=j5:=by simp!
 cases b<;>simp[behindInMarks,f,A]
def nB{r:R2}(D:OpR X (Qf op) r)(o:PE X a ta)(M:PE X b tb)(C:behindInMarks op b=j5):PE X (.Compare a [op] [b] pos) (tOp r ta tb):=by
 intro B s L H Q I h;exact wpAny_Compare1 (binT o M I h λv u k x y O z T c q=>D B k L O x y v u Q z T c q) C
def tTest(t:TE):TT:=λL H Q=>t L H λx eg=>∃ k,x=.bl k/\Q k eg
def aA{r:R2}(D:OpR X (Qf op) r)(o:PE X a ta)(M:PE X b tb)(C:behindInMarks op b=j5):PT X (.Compare a [op] [b] pos) (tTest (tOp r ta tb)):=by
 intro B s L H Q I h
 refine wpAny_isTrue_Compare1 (thn (o B s L H _ I h) λv m ⟨x,l,i,g,ef⟩=>thn (M B m L l _ i ef) λu J ⟨y,O,f,T,p⟩ =>
  thn (D B J L O x y v u _ f g T p) λc d ⟨z,j,w,A,k,e,t⟩=>?_) C
 subst e
 cases A
 exact Qg ⟨j,w,t⟩
def rq:(P7:R)<2^63:=by rw[sizeLine_eq];decide
def kJ{x:V}(r:Vals [x] us):∃ u,us=[u]/\RelV x u:=by
 cases r with
 |cons g T=>cases T;erw[9,g]
def Ji{x y:V}(r:Vals [x,y] us):∃ u w',us=[u,w']/\RelV x u/\RelV y w':=by
 cases r with
 |cons g T =>
  cases T with
  |cons A a=>cases a;erw[37,g,A]
def wX:iJ X (.type "int") (λxs H Q=>(∃ i,xs=[.int i]/\Q (.int i) H)∨∃ k,xs=[.bl k]/\Q (.int (if k then 1 else 0)) H):=by
 intro B s L H xs j Q I r h;rcases h with⟨i,rfl,q⟩|⟨k,rfl,q⟩
 .let u rfl t rfl:=kJ r;exact call_int_int ⟨.int i,H,I,⟨_,U⟩,q⟩
 .let u rfl g:=kJ r
  cases g
  exact call_int_bool ⟨.int (if k then 1 else 0),H,I.tok _,⟨_,U⟩,q⟩
end
structure ObjM(h:fc)(x dx C:eN)(mA:ff->ii eK):Prop where
 obj:h.R x=Z (Nm C dx)
 ns:h.Ns1 dx mA
 ne:dx≠x
def DE{l:ff->ii eK}(n:h.Ns1 p l):∃ m,h.R p=Z m/\∀ name,OM name m=Z (l name):=by
 let o M f D hd g _ C:=n;erw[o,D,λname=>?_];let e:=C name;unfold nsFind findBy at e;rw[← io.find?_toList]at e;unfold OM;rw[hd];dsimp only;split
 .simp!
 .rename_i q;rw[q]at e;let a:M.n.any (·.refKey)=j5:=by
   rw[List.any_eq_false];intro y Q;let z t b:=g y (io.mem_toList_iff.mp Q);simp[DictEntry.refKey,b]
  let J:¬ M.n.any (·.refKey)=i0:=by lia
  rw[Rx J];exact congrArg Z e
theorem ObjM.look{x:eN}{l:ff->ii eK}(I:ObjM h x a C l):∃ m,PySem.W.InstAt h x (Nm C a) C (Z m)/\∀ name,OM name m=Z (l name) :=
 let ⟨m,D,v⟩:=DE I.ns
 ⟨m,⟨I.obj,U,U,D⟩,v⟩
section
variable{prog:fI}{w:hx}{A:Around}{ef:eK->e9->Prop}{s:e9}{K:Ln}{x dx C f:eN}{mA:ff->ii eK}{name:ff}{v:eK}
def KL{b:im}(X:K.In s.H)(I:ObjM s.H x dx C mA)(O:Nu K C name=i0)(L:NI K C=i0)(o:L0 K (.ref C) name=Z kf)(hv:mA name=Z v)(a:PySem.W.handedIn v=i0)(h:Q v {s with toks:=s.v+1}):
  lf A (getAttr (.ref x) name b) Q ef s:=by
 let m J B:=I.look;exact PySem.W.get_value X J (OQ O).1 (PySem.W.findObj_own L o U (by rw[B,hv])) a h
def GV{Q:eK×E eK->e9->Prop}(X:K.In s.H)(I:ObjM s.H x dx C mA)(O:Nu K C name=i0)(q:L0 K (.ref C) name=Z (Z (.ref f)))(u:NA K (.ref f)=i0)(hv:mA name=kf)(h:Q (.ref f,[.ref x]) s):
  lf A (getMethod (.ref x) name pl) Q ef s:=by
 let m J v:=I.look;exact PySem.W.method_fn X J (OQ O).1 (OQ O).2 q (beq_iff_eq.mp u) (by show(OM name m).h (·.isSome)=Z j5;simp[*]) h
def JC{ns:E ff}{Q:Unit->e9->Prop}(X:K.In s.H)(I:ObjM s.H x dx C mA)(hs:L0 K (.ref C) "__setattr__"=Z (Z (.builtin "object.__setattr__")))(Y:NU K C=i0)(u:Pm K C name=Z kf)(L:NI K C=i0)(hw:PySem.Within mA ns)(hsz:ns.L<=P7)(h:∀ h',ObjM h' x dx C (λy=>if y=name then Z v else mA y)->Qc dx s.H h'->Q () {s with heap:=h',toks:=s.v+2}):
  lf A (setAttr (.ref x) name v) Q ef s:=by
 let m J B:=I.look;refine PySem.W.set_plain X J hs (PySem.W.osa_open (s:={s with toks:=s.v+1}) (r:=kf) X J Y u λb=>?_);let M T O:=PySem.W.any_some L;let j:s.H.R x=Z ⟨.ref C,Z dx,.plain,#[]⟩:=I.obj;refine Qi (Ql (Qi (Qi (wpAny_loadPart j (Qi (PySem.W.Looks.here (s:={s with toks:=s.v+1}) (PySem.W.looks_clsIn X T) ?_))))));rw[O];refine Ql (a:=Z dx) (Qi (Ql (Qi ?_)));refine wpAny_nsSet1 (s:={s with toks:=s.v+1}) I.ns λh' d c=>?_;let l k e f g i:=d.count (PySem.Within.cons name v hw);refine Qi (wpAny_lookBehind f (by rw[g];exact pastItsLine_dict (Mi i (by simp[*]))) ?_)
 exact Ql (h _ ⟨(c.2 _ (Ne.Y I.ne)).Q I.obj,d,I.ne⟩ c)
def GB{kw:E (ff×eK)}(X:K.In s.H)(D:N8 K C=i0)(hi:L0 K (.ref C) "__init__"=some (some (.ref f)))(q:PySem.W.typeIn K (.ref f)=some (.type "function"))(h:Qu (model prog w) (A.under (.builtin "type.__call__" ⟨.ref C::vs,kw⟩)) (.call (.ref f) ⟨.ref (s.H.M.J+1)::vs,kw⟩) (PySem.W.InitBack (s.H.M.J+1) ad)
   {s,(s.H.o MY).o (Nm C s.H.M.J)}):
  Qu (model prog w) A (.call (.ref C) ⟨vs,kw⟩) ad s:=by
 let L g d t os:=s;exact PySem.W.make_core (PySem.W.makes_of X D) (PySem.W.looks_findIn X hi) (λa=>PySem.W.bind_fn X a q) (.inl U) h
end
def putF(f:ff)(v:V):E (ff×V)->E (ff×V)
 |[]=>[(f,v)]
 | (g,x)::r=>if g=f then(g,v)::r else(g,x)::putF f v r
theorem aM(f g:ff)(v:V):∀ fs:E (ff×V),(putF f v fs).Z g=if g=f then Z v else fs.Z g
 |[]=>by
  show Ou g [(f,v)]=_;by_cases h:g=f
  .simp[*]
  .simp[*]
 | (k,x)::r=>by
  let L:=aM f g v r;rw[show putF f v ((k,x)::r)=(if k=f then(k,v)::r else(k,x)::putF f v r) from rfl];by_cases D:k=f
  .rw[Rw D];by_cases h:g=k
   .simp[*]
   .let M:(g == k)=j5:=beq_eq_false_iff_ne.mpr h
    simp only[Ou,M,Rx (λe:g=f=>h (e.Q D.Y))]
  .rw[Rx D];by_cases h:g=k
   .simp[*]
   .let M:(g == k)=j5:=beq_eq_false_iff_ne.mpr h
    simp only[Ou,M];exact L
theorem pT(f:ff)(v:V):∀ fs:E (ff×V),f∈(putF f v fs).h (·.1)/\∀ g,g∈fs.h (·.1)->g∈(putF f v fs).h (·.1)
 |[]=>⟨by simp[putF],λg h=>by simp at h⟩
 | (k,x)::r=>by
  let q J:=pT f v r;rw[show putF f v ((k,x)::r)=(if k=f then(k,v)::r else(k,x)::putF f v r) from rfl];grind
theorem pR(f:ff)(v:V):∀ fs:E (ff×V),(putF f v fs).L<=fs.L+1
 |[]=>by simp[putF]
 | (k,x)::r=>by
  let L:=pR f v r;rw[show putF f v ((k,x)::r)=(if k=f then(k,v)::r else(k,x)::putF f v r) from rfl];by_cases g:k=f
  .simp[*]
  .simp[*]
def RelO.some_of{v:V}{o:ii eK}(r:RelO (Z v) o):∃ u,o=Z u/\RelV v u:=by
 cases o with
 |none=>exact(show False from r).elim
 |some u=>exact⟨u,U,r⟩
def RelO.none_of{o:ii eK}(r:RelO kf o):o=kf:=by
 cases o with
 |none=>rfl
 |some u=>contradiction
def D6{v:V}(r:RelV v u):PySem.W.handedIn u=i0:=by
 cases v with
 |non=>cases (show u=eK.none from r);rfl
 |bl b=>cases (show u=eK.bool b from r);rfl
 |int i=>obtain⟨t,e⟩:=(show ∃ t,u=eK.int i t from r);cases e;rfl
 |str x=>obtain⟨t,e⟩:=(show ∃ t,u=eK.str x t from r);cases e;rfl
 |byt b=>obtain⟨t,e⟩:=(show ∃ t,u=eK.bytes b t from r);cases e;rfl
 |flt b=>obtain⟨t,e⟩:=(show ∃ t,u=eK.float b t from r);cases e;rfl
 |ref a=>cases (show u=eK.ref a from r);rfl
 |ty n=>cases (show u=eK.type n from r);rfl
section
variable{P:fI}{w:hx}{H H':Hp}{h h':fc}{a C dx:eN}{fs fs':E (ff×V)}
def uc(ef:HOk P w H h)(e:H a=Z (.ins C dx fs)):∃ l,ObjM h a dx C l/\(∀ f,RelO (fs.Z f) (l f))/\PySem.Within l (fs.h (·.1))/\fs.L<=1000/\H dx=Z (.own a):=by
 let d z ne g l n r q:=(show bu P w H h a (.ins C dx fs) from ef a _ e);erw[l,⟨g,n,ne⟩,r,q,z,d]
end
structure Cls(K:Ln)(C:eN):Prop where
 pg:Nu K C ff.empty=i0
 hd:NI K C=i0
 po:NU K C=i0
 sa:L0 K (.ref C) "__setattr__"=Z (Z (.builtin "object.__setattr__"))
theorem Cls.get(c:Cls K C)(f:ff):Nu K C f=i0:=c.pg
def fY(K:Ln)(C:eN)(f:ff):Prop:=L0 K (.ref C) f=Z kf
def fY.taker{f:ff}(n:fY K C f):Pm K C f=Z kf:=by
 unfold Pm;rw[show L0 K (.ref C) f=Z kf from n];rfl
structure Meth(K:Ln)(C:eN)(m:ff)(f:eN):Prop where
 at_:L0 K (.ref C) m=Z (Z (.ref f))
 fn:NA K (.ref f)=i0
 kp:L9 K (.ref f)=i0
section
variable{X:Cx}{pins:E (eN×hb)}{σ:St}{H:Hp}{s:e9}{a C dx:eN}{fs:E (ff×V)}{f:ff}{v:V}{A:Around}{ef:eK->e9->Prop}
def Bi{b:im}(I:mi σ H s)(e:H a=Z (.ins C dx fs))(c:Cls X.K C)(n:fY X.K C f)(l:fs.Z f=Z v)(h:∀ u s',mi σ H s'->RelV v u->Q u s'):wpAny (model X.e X.w) A (getAttr (.ref a) f b) Q ef s:=by
 let B O r _ _ _:=uc I.hok e;let u eg i:=RelO.some_of (v:=v) (o:=B f) (by rw[← l];exact r f)
 exact KL I.kIn O (c.get f) c.hd n eg (D6 i) (h u _ (I.tok _) i)
def rC{m:ff}{g:eN}{Q:eK×E eK->e9->Prop}(I:mi σ H s)(e:H a=Z (.ins C dx fs))(c:Cls X.K C)(k:Meth X.K C m g)(l:fs.Z m=kf)(h:Q (.ref g,[.ref a]) s):wpAny (model X.e X.w) A (getMethod (.ref a) m pl) Q ef s:=by
 let B O r _ _ _:=uc I.hok e;let y:B m=kf:=RelO.none_of (by rw[← l];exact r m)
 exact GV I.kIn O (c.get m) k.at_ k.fn y h
def A0{y:V}{Q:Unit->e9->Prop}(I:mi σ H s)(e:H a=Z (.ins C dx fs))(c:Cls X.K C)(n:fY X.K C f)(hl:fs.L<1000)(J:RelV y u)(h:∀ s',mi σ (upd H a (.ins C dx (putF f y fs))) s'->Q () s'):wpAny (model X.e X.w) A (setAttr (.ref a) f u) Q ef s:=by
 let l O r k _ D:=uc I.hok e;let d:(fs.h (·.1)).L<=P7:=by rw[Lp,sizeLine_eq];lia
 refine JC I.kIn O c.sa c.po n.taker c.hd k d λeg i j=>h _ ?_;let hd:∃ o,eg.R dx=Z o:=let ⟨o,_,_,N,_⟩:=i.ns;⟨o,N⟩;refine I.write (x:=a) (e:=dx) (by rw[e];exact True.intro) (.inr D) (λb q M z=>(j.2 b M).Q z) hd ?_
 erw[by rw[ao O.ne];exact D,3,O.ne,i.obj,_,i.ns,λg=>?_,λg t=>?_]
 .let:=pR f y fs;lia
 .show RelO ((putF f y fs).Z g) (if g=f then Z u else l g);rw[aM];by_cases q:g=f
  .rw[Rw q,Rw q];exact J
  .rw[Rx q,Rx q];exact r g
 .by_cases q:g=f
  .rw[q];exact(pT f y fs).1
  .refine(pT f y fs).2 g (k g λz=>t ?_);simp!
def Inv.made(I:Inv X pins σ H s):Inv X pins σ (upd (upd H s.H.M.J (.own (s.H.M.J+1))) (s.H.M.J+1) (.ins C s.H.M.J []))
  {s,(s.H.o MY).o (Nm C s.H.M.J)}:=by
 let f:(s.H.o MY).R s.H.M.J=Z MY:=Qn s.H U;let A:((s.H.o MY).o (Nm C s.H.M.J)).R (s.H.M.J+1)=Z (Nm C s.H.M.J):=by
  let:=Qn (s.H.o MY) (o:=Nm C s.H.M.J) U;rwa[Qv]at this
 let B:(s.H.o MY).Ns s.H.M.J (λ_=>kf):=⟨MY,#[],_,f,U,(λe eg=>Ry eg (by simp)),λ_=>rfl⟩
 let i:=I.laid (a:=s.H.M.J) (o:=.own (s.H.M.J+1)) (h':=s.H.o MY) (t':=s.v) (λb u q=>Qm _ q) (Lo _) ⟨_,f⟩;refine i.laid (a:=s.H.M.J+1) (o:=.ins C s.H.M.J []) (t':=s.v) (λb u q=>Qm _ q) (O7 (Qv _ _)) ?_;let ne:s.H.M.J≠s.H.M.J+1:=LJ (Nv _);erw[by rw[ao ne,af],LU _,ne,A,λ_=>kf,(fc.Ns1.of_empty B).at λo q=>Qm _ q,λ_=>True.intro,λy Q=>Ry rfl Q]
theorem Lg{f:ff}{s:e9}(M:attributeBase e f env (eval e env)=eval e env)(h:lf A (eval e env) (λo s₁=>lf A (getAttr o f i0) Q ef s₁) ef s):lf A (eval (.Attribute e f pos) env) Q ef s :=
 Attribute_any_ h (by rw[arm_eval_Attribute,M])
end
def tFld(K:Ln)(d:TE)(f:ff):TE:=λL H Q=>d L H λx l=>∃ a C j fs v,x=.ref a/\l a=Z (.ins C j fs)/\Cls K C/\fY K C f/\fs.Z f=Z v/\Q v l
def sFld(K:Ln)(d e:TE)(f:ff):TS:=λD L H=>e L H λy l=>d L l λx O=>∃ a C j fs,x=.ref a/\O a=Z (.ins C j fs)/\Cls K C/\fY K C f/\fs.L<1000 /\
 D.nx L (upd O a (.ins C j (putF f y fs)))
section
variable{X:Cx}{o e value:fm}{f:ff}{pos pos' tpos:Pos}{ta tv:TE}
def aW(eg:PE X e ta)(M:attributeBase e f X.i (eval e X.i)=eval e X.i):PE X (.Attribute e f pos) (tFld X.K ta f):=by
 intro B s L H Q I h;refine Lg M (thn (eg B s L H _ I h) λu m ⟨x,p,i,T,a,C,j,fs,v,b,r,c,n,l,q⟩=>?_);subst b;obtain rfl:u=eK.ref a:=T;exact Bi i r c n l λO k z A=>⟨v,p,z,A,q⟩
def nO(J:PE X o ta)(hv:PE X value tv)(hs:swapsWith value (Z (.Attribute o f pos')) pos.line X.i=pure j5):PS X (.Assign [.Attribute o f pos'] value pos) (sFld X.K ta tv f):=by
 intro B s L H D I h;refine plainObj_wpAny_Assign_Attribute (thn (hv B s L H _ I h) λu m ⟨y,p,i,e,q⟩=>thn (J B m L p _ i q) λN k ⟨x,O,z,T,a,C,j,fs,b,r,c,n,l,M⟩=>?_) hs;subst b;obtain rfl:N=eK.ref a:=T;exact A0 z r c n l e λd w=>⟨L,_,w,M⟩
end
section
variable{X:Cx}{pins:E (eN×hb)}{σ:St}{H:Hp}{s:e9}{A:Around}{ef:eK->e9->Prop}{Q:eK->e9->Prop}{c:eK}{b:im}
inductive TyOf(K:Ln)(H:Hp):V->eK->Prop where
 |non:TyOf K H .non (.type "NoneType")
 |bl (x:im):TyOf K H (.bl x) (.type "bool")
 |int (i:G):TyOf K H (.int i) (.type "int")
 |str (x:ff):TyOf K H (.str x) (.type "str")
 |flt (x:UInt64):TyOf K H (.flt x) (.type "float")
 |lst {a:eN} {xs:E V} (e:H a=Z (.lst xs)):TyOf K H (.ref a) (.type "list")
 |frz {a:eN} {o:hb} {xs:E V} (e:H a=Z (.frz o (.lst xs))):TyOf K H (.ref a) (.type "list")
 |tup {a:eN} {xs:E V} (e:H a=Z (.tup xs)):TyOf K H (.ref a) (.type "tuple")
 |dK {a:eN} {kvs:E (Key×V)} (e:H a=Z (.dK kvs)):TyOf K H (.ref a) (.type "dict")
 |dT {a:eN} {kvs:E (E Key×V)} (e:H a=Z (.dT kvs)):TyOf K H (.ref a) (.type "dict")
 |ins {a C dx:eN} {fs:E (ff×V)} (e:H a=Z (.ins C dx fs)) (cl:Cls K C) (ha:L0 K (.ref C) "__class__"=Z (Z (.builtin "object.__class__")))
   (hn:PySem.W.specialIn K (.builtin "object.__class__") "__get__"=Z (Z (.builtin "getset_descriptor.__get__"))) (htk:PySem.W.takesIn K (.builtin "object.__class__")=Z i0)
   (hm:N6 K C (.type "object")=Z i0):TyOf K H (.ref a) (.ref C)
def DS{x:V}{t:eK}(I:mi σ H s)(T:RelV x u)(ty:TyOf X.K H x t)(e:Oj X.K t c=Z b)(h:∀ tk,Q (.bool b) {s with toks:=tk}):
  wpAny (model X.e X.w) A (call (.builtin "isinstance") [u,c]) Q ef s:=by
 cases ty with
 |non=>cases (show u=eK.none from T);exact MU PySem.W.kitx_none I.kIn True.intro e (λz=>nomatch z) h
 |bl y=>cases (show u=eK.bool y from T);exact MU PySem.W.kitx_bool I.kIn True.intro e (λz=>nomatch z) h
 |int i=>obtain⟨t,q⟩:=(show ∃ t,u=eK.int i t from T);cases q;exact MU PySem.W.kitx_int I.kIn True.intro e (λz=>nomatch z) h
 |str y=>obtain⟨t,q⟩:=(show ∃ t,u=eK.str y t from T);cases q;exact MU PySem.W.kitx_str I.kIn True.intro e (λz=>nomatch z) h
 |flt y=>obtain⟨t,q⟩:=(show ∃ t,u=eK.float y t from T);cases q;exact MU PySem.W.kitx_float I.kIn True.intro e (λz=>nomatch z) h
 | @lst a D r =>
  cases (show u=eK.ref a from T)
  let _ _ n _ Y:=(show bu X.e X.w H s.H a (.lst D) from I.hok a _ r);exact MU PySem.W.kitx_list I.kIn ⟨_,Y,U⟩ e (λz=>nomatch z) h
 | @frz a g D r =>
  cases (show u=eK.ref a from T)
  let _ _ _ n _ Y:=(show bu X.e X.w H s.H a (.frz g (.lst D)) from I.hok a _ r);exact MU PySem.W.kitx_list I.kIn ⟨_,Y,U⟩ e (λz=>nomatch z) h
 | @tup a D r =>
  cases (show u=eK.ref a from T)
  let _ _ _ p:=(show bu X.e X.w H s.H a (.tup D) from I.hok a _ r);let o Y j _:=p;exact MU PySem.W.kitx_tuple I.kIn ⟨o,Y,j⟩ e (λz=>nomatch z) h
 | @dK a N r =>
  cases (show u=eK.ref a from T)
  let _ _ m _ p:=(show bu X.e X.w H s.H a (.dK N) from I.hok a _ r);let o M f Y j _:=p;exact MU PySem.W.kitx_dict I.kIn ⟨o,Y,j.1⟩ e (λz=>nomatch z) h
 | @dT a N r =>
  cases (show u=eK.ref a from T)
  let _ _ D _ o M f Y j _:=(show bu X.e X.w H s.H a (.dT N) from I.hok a _ r);exact MU PySem.W.kitx_dict I.kIn ⟨o,Y,j.1⟩ e (λz=>nomatch z) h
 | @ins a C L fs r v k l aa d =>
  cases (show u=eK.ref a from T)
  let B O _:=uc I.hok r;let eg J _:=O.look;exact MU (PySem.W.kitx_own (v.get _) v.hd k l aa d) I.kIn J e (λz=>nomatch z) h
end
structure Room(k:R)(A:Around):Prop where
 hd:A.handled=kf
 dp:A.depth+3*k+5<recursionLimit
 un:A.units+16*k+200<cLine
theorem Room.mono{k:R}(r:Room k A)(h:j<=k):Room j A:=⟨r.hd,by let:=r.dp;lia,by let:=r.un;lia⟩
theorem Room.deeper{k:R}(r:Room (k+1) A)(env:gi):Room k (A.deeper env) :=
 ⟨r.hd,by let:=r.dp;show A.depth+1+3*k+5<_;lia,by let:=r.un;show A.units+3+16*k+200<_;lia⟩
def Bb{kw:E (ff×eK)}:(A.under (.builtin "type.__call__" ⟨.ref C::us,kw⟩)).depth=A.depth+1:=by
 rfl
def Ba{kw:E (ff×eK)}:(A.under (.builtin "type.__call__" ⟨.ref C::us,kw⟩)).units=A.units+1:=by
 rfl
theorem Room.make{k:R}(r:Room (k+1) A)(C:eN)(us:E eK)(kw:E (ff×eK)):Room k (A.under (.builtin "type.__call__" ⟨.ref C::us,kw⟩)) :=
 ⟨r.hd,by let:=r.dp;rw[Bb];lia,by let:=r.un;rw[Ba];lia⟩
def Room.depth{k:R}(r:Room k A):A.depth<recursionLimit:=by let:=r.dp;lia
def Room.units{k:R}(r:Room k A):A.units+64<cLine:=by let:=r.un;lia
def tNil:TA:=λ_ H Q=>Q [] H
def Jv(d:TE)(tr:TA):TA:=λL H Q=>d L H λx l=>tr L l λD O=>Q (x::D) O
section
variable{X:Cx}{e:fm}{es:E fm}{te:TE}{t:TA}{pos:Pos}
theorem ai:PA X [] tNil:=λ_ _ _ _ H Q I h=>Qw ⟨[],H,I,.nil,h⟩
def ae(o:PE X e te)(N:PA X es t)(hs:uP_ (Qd (e::es) X.i=(j5,eval e X.i)::Qd es X.i) uR_):PA X (e::es) (Jv te t):=by
 intro pos B s L H Q I h;rw[hs];show wpAny _ _ (spliced ((j5,eval e X.i)::backTo pos (Qd es X.i))) _ _ s;refine Qx (thn (o B s L H _ I h) λu m ⟨x,l,i,g,ef⟩=>?_);exact thn (N pos B m L l _ i ef) λj k ⟨D,O,z,T,p⟩=>⟨x::D,O,z,.cons g T,p⟩
def tTup(t:TA):TE:=λL H Q=>t L H λD l=>D.L<=P7/\∀ p,l p=kf->Q (.ref p) (upd l p (.tup D))
def tLst(t:TA):TE:=λL H Q=>t L H λD l=>D.L<=P7/\∀ p,l p=kf->Q (.ref p) (upd l p (.lst D))
def cm{x1}(h:PA X es t):PE X (.Tuple es x1 pos) (tTup t):=by
 intro B s L H Q I Y;refine wpAny_Tuple_spliced (thn (h pos B s L H _ I Y) λj m ⟨D,l,i,r,z,q⟩=>⟨by rw[← r.L];exact z,?_⟩)
 let A:l m.H.M.J=kf:=i.hok.fresh (Lo _);erw[.ref m.H.M.J,upd l m.H.M.J (.tup D),i.laid (t':=m.v) (λb u e=>Qm _ e) (Lo _) ?_,U,q _ A];erw[z,j,r,⟨_,Qn _ U,U,_,U⟩]
def bC(h:PA X es t):PE X (.List es pos) (tLst t):=by
 intro B s L H Q I Y;refine wpAny_List_spliced (thn (h pos B s L H _ I Y) λj m ⟨D,l,i,r,z,q⟩=>⟨by rw[← r.L];exact z,?_⟩)
 let A:l m.H.M.J=kf:=i.hok.fresh (Lo _);erw[.ref m.H.M.J,upd l m.H.M.J (.lst D),i.laid (t':=m.v) (λb u e=>Qm _ e) (Lo _) ?_,U,q _ A];erw[z,j,00,r,Qn _ U]
end
abbrev Sp:=E V->Hp->VK->XK->Prop
abbrev CXT:=E gi->Hp->e9->XK->eK->e9->Prop
structure Env0(P:fI)(w:hx)(K:Ln)(mg:ff->ii eK)(base:fc)(A:Around)(outer:E gi)(s:e9)(H:Hp):Prop where
 frames:A.frames=Z outer
 mod:Mod K mg base
 bs:∀ b o,base.R b=Z o->s.H.R b=Z o/\H b=kf
 bsz:base.M.J<=s.H.M.J
 funs:s.H.FunFrames base outer
 frf:∀ b∈frs outer,H b=kf
 hok:HOk P w H s.H
 bare:AllBare s.gens
def CE(outer:E gi)(P:fI)(w:hx)(H:Hp)(s:e9)(Q:VK)(u:eK)(s':e9):Prop :=
 ∃ v eg,s'.os=s.os/\AllBare s'.gens/\Un (frs outer) [] H eg s.H s'.H/\HOk P w eg s'.H/\RelV v u/\Q v eg
def CR(CX:CXT)(outer:E gi)(P:fI)(w:hx)(H:Hp)(s:e9)(Q:VK)(ef:XK)(r:Result)(s':e9):Prop :=
 match r with
 |.ok (.ret u)=>CE outer P w H s Q u s'
 |.ok _=>False
 |.error e=>CX outer H s ef e s'
structure FnOk(P:fI)(w:hx)(K:Ln)(mg:ff->ii eK)(base:fc)(CX:CXT)(k:R)(f:eN)(fd:fk)(ps:E ff)(sp:Sp):Prop where
 len:∀ vs H Q ef,sp vs H Q ef->vs.L=ps.L
 run:∀(A:Around)(outer:E gi)(s:e9)(H:Hp)(args:Args)(us:E eK)(vs:E V)(Q:VK)(ef:XK),Room k A->Env0 P w K mg base A outer s H->BindsTo s fd args (ps.zip us)->Vals vs us->sp vs H Q ef ->
  Qu (model P w) A (.call (.ref f) args) (CR CX outer P w H s Q ef) s
theorem Env0.make{H:Hp}(e:Env0 P w K mg base A outer s H)(C:eN)(us:E eK)(kw:E (ff×eK)):
  Env0 P w K mg base (A.under (.builtin "type.__call__" ⟨.ref C::us,kw⟩)) outer s H:=⟨by first|exact e.frames|(simpa[Around.under,Code.envs,Code.isFrame,pushEnvs] using e.frames),e.mod,e.bs,e.bsz,e.funs,e.frf,e.hok,e.bare⟩
section
variable{X:Cx}{pins:E (eN×hb)}{σ:St}{H:Hp}{s s':e9}
theorem Inv.env0(I:Inv X pins σ H s):Env0 X.e X.w X.K X.mg X.base X.A X.stack s H :=
 ⟨I.ok.frames,I.ok.mod,I.bs,Mi I.ok.bsz I.sz,I.stack,I.stkFree,I.hok,I.bare⟩
def Inv.after{Q:VK}(I:Inv X pins σ H s)(h:CE X.stack X.e X.w H s Q u s'):EP X pins σ Q u s':=by
 let v eg os a un ef r q:=h;let L g d t c:=s';obtain rfl:c=s.os:=os;erw[v,eg,I.call (h':=L) (g':=g) (d':=d) (t':=t) (ch:=[]) un ef a (λb z=>Ry z (by simp)),r,q]
end
def FA(sp:Sp)(dvs:E V)(ef:XK)(t:TA):TE:=λL H Q=>t L H λn l=>sp (n++dvs) l Q ef
def Fz(C:eN)(m:ff)(sp:Sp)(dvs:E V)(ef:XK)(d:TE)(t:TA):TE:=λL H Q=>d L H λx l=>∃ a j fs,x=.ref a/\l a=Z (.ins C j fs)/\fs.Z m=kf /\
 t L l λn O=>sp (x::(n++dvs)) O Q ef
def tMake(C:eN)(sp:Sp)(dvs:E V)(ef:XK)(t:TA):TE:=λL H Q=>t L H λn l=>∀ x j,l x=kf->l j=kf->j≠x ->
 sp (.ref x::(n++dvs)) (upd (upd l j (.own x)) x (.ins C j [])) (λv O=>v=.non/\Q (.ref x) O) ef
def dY(K:Ln)(fd:fk)(ps:E ff)(ds:E eK):Prop :=
 ∀(s:e9)(j:E eK),K.In s.H->(j++ds).L=ps.L->BindsTo s fd ⟨j,[]⟩ (ps.zip (j++ds))
theorem dY.all(h:∀ us:E eK,us.L=ps.L->bindArgs fd ⟨us,[]⟩=pure (ps.zip us)):dY K fd ps []:=λs us _ C=>by
 rw[Nd]at C ⊢;exact .of_eq (h us C)
def nY(CX:CXT)(X:Cx)(ef:XK):Prop:=∀(B:E (eN×hb))(L:St)(H:Hp)(s:e9)(e:eK)(k:e9),mu H s->CX X.stack H s ef e k->X.xe e k
section
variable{X:Cx}{CX:CXT}{k:R}{f C:eN}{fd:fk}{ps:E ff}{sp:Sp}{dvs:E V}{ds:E eK}{ef:XK}{x m:ff}{p pos apos:Pos}{e o:fm}{es:E fm}{ta:TE}{t:TA}
def Af{L:St}{H:Hp}{Q:VK}{vs:E V}(F:FnOk X.e X.w X.K X.mg X.base CX k f fd ps sp)(N:Room k X.A)(M:dY X.K fd ps ds)(hd:Vals dvs ds)(J:nY CX X ef)(I:Inv X O L H s)(r:Vals vs us)(h:sp (vs++dvs) H Q ef):li (call (.ref f) us) (EP X O L Q) X.xe s:=by
 let T:Vals (vs++dvs) (us++ds):=r.append hd;let C:(us++ds).L=ps.L:=by rw[← T.L];exact F.len _ _ _ _ h
 refine wpAny_call (Qy (F.run X.A X.stack s H ⟨us,[]⟩ (us++ds) (vs++dvs) Q ef N I.env0 (M s us I.kIn C) T h) λr q Y=>?_)
 cases r with
 |error e=>exact J O L H s e q I Y
 |ok D =>
  cases D with
  |ret u=>exact I.after Y
  |next=>exact False.elim Y
  |brk=>exact False.elim Y
  |cont=>exact False.elim Y
def JU(F:FnOk X.e X.w X.K X.mg X.base CX k f fd ps sp)(N:Room k X.A)(O:Gl X x)(C:X.mg x=Z (.ref f))(g:L9 X.K (.ref f)=i0)(M:dY X.K fd ps ds)(hd:Vals dvs ds)(J:nY CX X ef)(o:PA X (e::es) t)(v:uP_ ((x == ("__debug__" : ff))=j5) uD_)(eg:uP_ (Qd (e::es) X.i=(j5,eval e X.i)::Qd es X.i) uR_)(u:uP_ ((backTo pos (Qd es X.i)).any (·.1)=j5) uR_):
  PE X (.Call (.Name x p) (e::es) [] pos) (FA sp dvs ef t):=by
 intro B s L H Q I h;refine Qz (lx I O C ?_ v);refine NP (h₀:=X.base) I.ok.mod.kin g (thn (o pos B s L H _ I h) λj m ⟨n,l,i,r,q⟩=>⟨i.kIn,?_⟩) eg u;exact Af F N M hd J i r q
def FY(F:FnOk X.e X.w X.K X.mg X.base CX k f fd ps sp)(N:Room k X.A)(O:Gl X x)(C:X.mg x=Z (.ref f))(g:L9 X.K (.ref f)=i0)(M:dY X.K fd ps ds)(hd:Vals dvs ds)(J:nY CX X ef)(v:uP_ ((x == ("__debug__" : ff))=j5) uD_):PE X (.Call (.Name x p) [] [] pos) (FA sp dvs ef tNil):=by
 intro B s L H Q I h;refine Qz (lx I O C ?_ v);exact PySem.W.callWith_K0 I.kIn g (Af (us:=[]) F N M hd J I .nil h)
def tw(eg:PE X o ta)(c:Cls X.K C)(D:Meth X.K C m f)(F:FnOk X.e X.w X.K X.mg X.base CX k f fd ps sp)(N:Room k X.A)(M:dY X.K fd ps ds)(hd:Vals dvs ds)(J:nY CX X ef)(i:PA X (e::es) t)(ab:uP_ (Qd (e::es) X.i=(j5,eval e X.i)::Qd es X.i) uR_)(aa:uP_ ((backTo pos (Qd es X.i)).any (·.1)=j5) uR_)(y:uP_ (eval (.Call (.Attribute o m apos) (e::es) [] pos) X.i=(do
   let ov ← eval o X.i
   standAt apos.atName
   let (f,first) ← holding [ov] (getMethod ov m pl)
   callWith pos f first (backTo pos (Qd (e::es) X.i)) (backToKw pos (keywordEach [] X.i)))) uR_):
  PE X (.Call (.Attribute o m apos) (e::es) [] pos) (Fz C m sp dvs ef ta t):=by
 intro B s L H Q I h;refine PySem.W.methodCall_KW (pl:=pl) (thn (eg B s L H _ I h) λu n ⟨x,p,g,T,a,j,fs,v,Y,l,q⟩=>?_) y;subst v;obtain rfl:u=eK.ref a:=T;refine rC g Y c D l ?_;refine NP (first:=[.ref a]) (h₀:=X.base) I.ok.mod.kin D.kp (thn (i pos B n L p _ g q) λus b ⟨vs,O,z,r,d⟩=>⟨z.kIn,?_⟩) ab aa;exact Af (us:=.ref a::us) (vs:=.ref a::vs) F N M hd J z (.cons U r) d
def mh(eg:PE X o ta)(c:Cls X.K C)(D:Meth X.K C m f)(F:FnOk X.e X.w X.K X.mg X.base CX k f fd ps sp)(N:Room k X.A)(M:dY X.K fd ps ds)(hd:Vals dvs ds)(J:nY CX X ef)(y:uP_ (eval (.Call (.Attribute o m apos) [] [] pos) X.i=(do
   let ov ← eval o X.i
   standAt apos.atName
   let (f,first) ← holding [ov] (getMethod ov m pl)
   callWith pos f first (backTo pos (Qd [] X.i)) (backToKw pos (keywordEach [] X.i)))) uR_):
  PE X (.Call (.Attribute o m apos) [] [] pos) (Fz C m sp dvs ef ta tNil):=by
 intro B s L H Q I h;refine PySem.W.methodCall_KW (pl:=pl) (thn (eg B s L H _ I h) λu r ⟨x,p,i,T,a,j,fs,b,d,l,q⟩=>?_) y;subst b;obtain rfl:u=eK.ref a:=T;refine rC i d c D l ?_;exact PySem.W.callWith_K0 (first:=[.ref a]) i.kIn D.kp (Af (us:=[.ref a]) (vs:=[.ref a]) F N M hd J i (.cons U .nil) q)
structure Mk(K:Ln)(C f:eN):Prop where
 makes:N8 K C=i0
 init:L0 K (.ref C) "__init__"=Z (Z (.ref f))
 fn:NA K (.ref f)=i0
 kp:L9 K (.ref C)=i0
def FN{L:St}{H:Hp}{Q:VK}{vs:E V}(M:Mk X.K C f)(F:FnOk X.e X.w X.K X.mg X.base CX k f fd ps sp)(N:Room (k+1) X.A)(g:dY X.K fd ps ds)(hd:Vals dvs ds)(J:nY CX X ef)(I:Inv X O L H s)(r:Vals vs us)(h:∀ x j,H x=kf->H j=kf->j≠x->sp (.ref x::(vs++dvs)) (upd (upd H j (.own x)) x (.ins C j [])) (λv H2=>v=.non/\Q (.ref x) H2) ef):
  li (call (.ref C) us) (EP X O L Q) X.xe s:=by
 let Y:=h (s.H.M.J+1) s.H.M.J (I.hok.fresh (NC _)) (I.hok.fresh (Lo _)) (LJ (Nv _));let z:=Inv.made (C:=C) I;let T:Vals (V.ref (s.H.M.J+1)::(vs++dvs)) (eK.ref (s.H.M.J+1)::(us++ds)):=.cons U (r.append hd);let B:(eK.ref (s.H.M.J+1)::us++ds).L=ps.L:=by
  let e:=T.L;rw[F.len _ _ _ _ Y]at e;exact e.Y
 refine wpAny_call (GB (f:=f) I.kIn M.makes M.init (beq_iff_eq.mp M.fn) (Qy (F.run _ X.stack _ _ ⟨eK.ref (s.H.M.J+1)::us,[]⟩ (eK.ref (s.H.M.J+1)::(us++ds)) _ _ ef (N.make C us [])
  (z.env0.make C us []) (g _ (eK.ref (s.H.M.J+1)::us) z.kIn B) T Y) λr q a=>?_))
 cases r with
 |error e=>exact J O L _ _ e q z a
 |ok D =>
  cases D with
  |ret u =>
   let v eg y rv p t:=z.after a;subst p;erw[rv,⟨V.ref (s.H.M.J+1),eg,y,U,t⟩]
  |next=>exact False.elim a
  |brk=>exact False.elim a
  |cont=>exact False.elim a
def yh(M:Mk X.K C f)(F:FnOk X.e X.w X.K X.mg X.base CX k f fd ps sp)(N:Room (k+1) X.A)(O:Gl X x)(D:X.mg x=Z (.ref C))(g:dY X.K fd ps ds)(hd:Vals dvs ds)(J:nY CX X ef)(o:PA X (e::es) t)(v:uP_ ((x == ("__debug__" : ff))=j5) uD_)(eg:uP_ (Qd (e::es) X.i=(j5,eval e X.i)::Qd es X.i) uR_)(u:uP_ ((backTo pos (Qd es X.i)).any (·.1)=j5) uR_):
  PE X (.Call (.Name x p) (e::es) [] pos) (tMake C sp dvs ef t):=by
 intro B s L H Q I h;refine Qz (lx I O D ?_ v);refine NP (h₀:=X.base) I.ok.mod.kin M.kp (thn (o pos B s L H _ I h) λj m ⟨n,l,i,r,q⟩=>⟨i.kIn,?_⟩) eg u;exact FN M F N g hd J i r q
end
section
variable{X:Cx}{CX:CXT}{k:R}{f C:eN}{fd:fk}{ps ks:E ff}{sp:Sp}{ef:XK}{x m:ff}{p pos apos kpos:Pos}{e o:fm}{es:E fm}{kws:E Keyword}{te ta:TE}{t tk:TA}{nm:ii ff}
variable{g:E eK->E eK->E eK}{gV:E V->E V->E V}
end
structure aw(N P:E ff)(sc:hr):Prop where
 kind:sc.kind=.function
 co:sc.isCoroutine=j5
 gen:sc.isGenerator=j5
 nd:N.l
 pre:N.j P.L=P
 par:∀ x∈P,sc.names.Z x=Z .local∨sc.names.Z x=Z .cell
 nofree:∀ y∈sc.names,y.2≠.free
theorem xc{QA:ff->ii NameKind}{x:ff}:∀{binds:E (ff×eK)}{m:ff->ii eK},(∀ v,(x,v)∉binds)->bindL QA binds m x=m x
 |[],_,_=>rfl
 | (n,v)::r,m,h=>by
  unfold bindL;rw[xc λw y=>h w (Lr _ y)];split
  .let:x≠n:=by rintro rfl;exact h v Lv
   simp[this]
  .rfl
theorem xj{QA:ff->ii NameKind}{x:ff}:∀{binds:E (ff×eK)}{m:ff->ii eK},(∀ v,(x,v)∉binds)->bindC QA binds m x=m x
 |[],_,_=>rfl
 | (n,v)::r,m,h=>by
  unfold bindC;rw[xj λw y=>h w (Lr _ y)];split
  .rfl
  .let:x≠n:=by rintro rfl;exact h v Lv
   simp[this]
theorem xh{QA:ff->ii NameKind}{x:ff}{v:eK}:∀{P:E ff}{vs:E eK}{i:R}{m:ff->ii eK},P.l->P[i]?=Z x->vs[i]?=Z v->QA x=Z .local ->
  bindL QA (P.zip vs) m x=Z v
 |[],_,_,_,_,h,_,_=>by contradiction
 |_::_,[],_,_,_,_,h,_=>by contradiction
 |p::P,w::vs,0,m,n,Y,O,g=>by
  simp at Y O;subst Y;subst O;show bindL QA ((p,w)::P.zip vs) m p=_;unfold bindL;rw[xc λv H=>(LV.mp n).1 (OF H).1,Rw g];simp
 |p::P,w::vs,i+1,m,n,Y,O,g=>by
  show bindL QA ((p,w)::P.zip vs) m x=_;unfold bindL;exact xh (i:=i) (LV.mp n).2 (by simpa using Y) (by simpa using O) g
theorem xk{QA:ff->ii NameKind}{x:ff}{v:eK}:∀{P:E ff}{vs:E eK}{i:R}{m:ff->ii eK},P.l->P[i]?=Z x->vs[i]?=Z v->QA x≠Z .local ->
  bindC QA (P.zip vs) m x=Z v
 |[],_,_,_,_,h,_,_=>by contradiction
 |_::_,[],_,_,_,_,h,_=>by contradiction
 |p::P,w::vs,0,m,n,Y,O,g=>by
  simp at Y O;subst Y;subst O;show bindC QA ((p,w)::P.zip vs) m p=_;unfold bindC;rw[xj λv H=>(LV.mp n).1 (OF H).1,Rx g];simp
 |p::P,w::vs,i+1,m,n,Y,O,g=>by
  show bindC QA ((p,w)::P.zip vs) m x=_;unfold bindC;exact xk (i:=i) (LV.mp n).2 (by simpa using Y) (by simpa using O) g
def n8(N:E ff)(vs:E V):St:=vs.h Z++Lz (N.L-vs.L) kf
def cxOf(CX:CXT)(P:fI)(w:hx)(K:Ln)(mg:ff->ii eK)(base:fc)(N:E ff)(j:ff)(scope:hr)(f:eN)(M:eK)(A:Around)(outer:E gi)(s:e9)(H:Hp)(ef:XK):Cx where
 prog:=P
 w:=w
 K:=K
 mg:=mg
 base:=base
 A:=A.deeper (envOfC j scope s.H.M.J f M)
 N:=N
 s₀:=s
 H₀:=H
 env:=envOfC j scope s.H.M.J f M
 outer:=outer
 stack:=envOfC j scope s.H.M.J f M::outer
 ex:=[]
 calm:=i0
 fn:=λ_=>i0
 pn:=[]
 xe:=λe k=>wpAny (model P w) (A.deeper (envOfC j scope s.H.M.J f M)) (leaving (envOfC j scope s.H.M.J f M) e) (λ_ a=>CX outer H s ef e a) (λY a=>CX outer H s ef Y a) k
def AO{a:hr}(h:a.names.Z x=Z .cell):∃ c,(cellsFrom n a.names []).Z x=Z c:=by
 let q:=PySem.W.cellsFrom_some a.names n [] (.inl h);exact Oo.mp q
def DT{CX:CXT}{N:E ff}{j:ff}{M:eK}{s1:e9}{H:Hp}{ef:XK}{vs:E V}(S:aw N ps scope)(hd:A.handled=kf)(e0:Env0 P w K mg base A outer s H)(hl:vs.L=ps.L)(r:Vals vs us)(x:InCallC s s.H.M.J (bindL (envOfC j scope s.H.M.J f M).kindOf (ps.zip us) λ_=>kf) (cellsFrom (s.H.M.J+1) scope.names []) (bindC (envOfC j scope s.H.M.J f M).kindOf (ps.zip us) λ_=>kf) s1):
  Inv (cxOf CX P w K mg base N j scope f M A outer s H ef) [] (n8 N vs) H s1:=by
 let d:ps.L<=N.L:=by let:=congrArg List.length S.pre;rw[Me]at this;lia
 let Y l rfl g:=x.done;let m:∀ b:eN,b∉(cxOf CX P w K mg base N j scope f M A outer s H ef).ex:=λb z=>Ry (show b∈([]:E eN) from z) (by simp)
 erw[⟨e0.mod,S.kind,U,U,Lo _,λy z c Y O=>?_,λy Q=>?_,λy c _ h=>?_,λ_=>hd,Around.frames_deeper e0.frames,.inr ⟨U,U⟩,λb z=>Ry z (m b),e0.bs,e0.bsz,λb _ _=>m b,λb z=>Ry z (m b),e0.funs,e0.frf⟩,
  rfl,e0.bare,Un.kept g,⟨_,x.toInCall.ns,λi y v Y O t=>?_⟩,λy c h=>⟨_,x.cell y c h⟩,e0.hok.fresh (Lo _),λy c h=>?_,λp T=>Ry (show p∈([]:E (eN×hb)) from T) (by simp),e0.hok.kept g,3]
 .exact name_of_addr x.apart (Nc Y) (Nc O)
 .let Q:scope.names.Z y=Z .cell∨scope.names.Z y=Z .free:=Q
  obtain Q|Q:=Q
  .exact AO Q
  .exact Ry U (S.nofree _ (Nc Q))
 .exact LK (x.above y c (Nc h))
 .let B:i<vs.L:=by
   unfold n8 at O;by_cases B:i<vs.L
   .exact B
   .rw[Lq (by simpa using B)]at O
    rw[MG]at O;simp!
  let o:vs[i]?=Z v:=by
   unfold n8 at O;rw[Lu (by simpa using B),Lx]at O
   cases e:vs[i]? with
   |none=>simp!
   |some a=>rw[e]at O;simp!
  let u eg rv:=r.get o;let T:ps[i]?=Z y:=by
   rw[← S.pre,List.getElem?_take_of_lt ∅];exact Y
  let C:ps.l:=by rw[← S.pre];exact S.nd.sublist (List.take_sublist _ _)
  erw[u,rv,3];rcases S.par y (Lm T)with k|k
  .exact .inl ⟨k,xh C T eg k⟩
  .let c e:=AO (n:=s.H.M.J+1) k;refine .inr ⟨.inl k,c,e,?_⟩;let q:=x.cell y c e;rw[xk C T eg (by show scope.names.Z y≠_;rw[k];decide)]at q
   exact q
 .exact e0.hok.fresh (LK (x.above y c (Nc h)))
 .unfold n8;show _=N.L;simp[*]
def Ed{CX:CXT}{k:R}{name j:ff}{ac:Arguments}{l:E fo}{dV kV B T g oc:eK}{an od:ii eN}{ab:io (ii eK)}{N:E ff}{sp:Sp}(lk:K.Z f=some ⟨oc,od,.func (Mq name j ac l scope dV kV B T an g ct),ab⟩)(h:MD K g j=i0)(S:aw N ps scope)(len:∀ vs H Q ef,sp vs H Q ef->vs.L=ps.L)(i:∀(A:Around)(outer:E gi)(s:e9)(H:Hp)(vs:E V)(Q:VK)(ef:XK),Room k (A.deeper (envOfC j scope s.H.M.J f g))->sp vs H Q ef ->
   ∃ t,PSs (cxOf CX P w K mg base N j scope f g A outer s H ef) l t/\t {nx:=λ_ H'=>Q .non H',rt:=Q} (n8 N vs) H):
  FnOk P w K mg base CX (k+1) f (Mq name j ac l scope dV kV B T an g ct) ps sp:=by
 erw[len,λA outer s H ap z vs Q ef eg D M r aa=>?_];let C:=len _ _ _ _ aa;let KX:K.In s.H:=D.mod.kin.keeps λb o e=>(D.bs b o e).1;let am:s.H.NoLimit:=D.mod.nolimit.keeps λb o e=>(D.bs b o e).1;let av:∀ y∈ps.zip z,scope.names.Z y.1=Z .local∨(scope.names.Z y.1=Z .cell/\((cellsFrom (s.H.M.J+1) scope.names []).Z y.1).isSome=i0):=λ⟨n,v⟩ m=>by
  obtain q|q:=S.par n (OF m).1
  .exact .inl q
  .exact .inr ⟨q,PySem.W.cellsFrom_some _ _ _ (.inl q)⟩
 refine codeAny_call_function eg.depth (KX _ _ lk) U S.co S.gen U (PySem.W.codeRec_of KX h) (M _ _ _ _ ?_);refine wpAny_newFunctionEnv_cells S.kind av λal d s1 x=>?_;subst d;erw[am.keeps x.toInCall.keep,codeAny_func ?_];let t c Y:=i A outer s H vs Q ef (eg.deeper _) aa;let I:Inv (cxOf CX P w K mg base N j scope f g A outer s H ef) [] (n8 N vs) H s1:=DT S eg.hd D C r x;refine Qe (c [] s1 (n8 N vs) H _ I Y) (λfl O L=>?_) λe O L=>L;let a:∀{p:St}{H':Hp}{v:V}{u:eK},Inv (cxOf CX P w K mg base N j scope f g A outer s H ef) [] p H' O->RelV v u->Q v H'->CE outer P w H s Q u O :=
  λ{p H' v u} J rv q=>⟨v,H',J.os,J.bare,J.base,J.hok,rv,q⟩
 cases fl with
 |ret u =>
  let v p H' J rv q:=L;exact a J rv q
 |next =>
  let p H' J q:=L;exact a (v:=V.non) (u:=eK.none) J U q
 |brk =>
  let _ _ _ q:=L;exact False.elim q
 |cont =>
  let _ _ _ q:=L;exact False.elim q
section
variable{X:Cx}{x:ff}{p pos:Pos}{e:fm}{es:E fm}{t:TA}{id T:String}{r:E V->Hp->VK->Prop}
def tCB(r:E V->Hp->VK->Prop)(t:TA):TE:=λL H Q=>t L H λn l=>r n l Q
def aG(T:iJ X (.builtin id) r)(O:Gl X x)(C:X.mg x=kf)(hv:Qa x=Z (.builtin id))(o:PA X (e::es) t)(y:uP_ (x≠"__name__") uD_)(v:uP_ ((x == ("__debug__" : ff))=j5) uD_)(eg:uP_ (Qd (e::es) X.i=(j5,eval e X.i)::Qd es X.i) uR_)(u:uP_ ((backTo pos (Qd es X.i)).any (·.1)=j5) uR_):PE X (.Call (.Name x p) (e::es) [] pos) (tCB r t):=by
 intro B s L H Q I h;refine Qz (gC I O C hv ?_ y v);exact PyProof.Rows.callWith_builtin1 (thn (o pos B s L H _ I h) λj m ⟨n,l,i,g,ef⟩=>T B m L l n j Q i g ef) eg u
def dQ(d:iJ X (.type T) r)(O:Gl X x)(C:X.mg x=kf)(hv:Qa x=Z (.type T))(o:PA X (e::es) t)(y:uP_ (x≠"__name__") uD_)(v:uP_ ((x == ("__debug__" : ff))=j5) uD_)(eg:uP_ (Qd (e::es) X.i=(j5,eval e X.i)::Qd es X.i) uR_)(u:uP_ ((backTo pos (Qd es X.i)).any (·.1)=j5) uR_):PE X (.Call (.Name x p) (e::es) [] pos) (tCB r t):=by
 intro B s L H Q I h;refine Qz (gC I O C hv ?_ y v);exact Qo (thn (o pos B s L H _ I h) λj m ⟨n,l,i,g,ef⟩=>d B m L l n j Q i g ef) eg u
end
end L2
variable{X:L2.Cx}{D:L2.Ends}{H H' H1 H2:L2.Hp}{sp:L2.Sp}{L:L2.St}{Y:L2.TE}{tb:L2.TS}{tt:L2.TT}{v y:L2.V}{kvs:E (L2.Key×L2.V)}{ws xs ys zs:E L2.V}{QQ:E L2.V->L2.Hp->Prop}
namespace HT
open PySem PyProof.Rows
section
open PySem.SeqAt
open PySem.AutoSeq1 (wpAny_loadPart')
open PySem.MeetsSeq PySem.MeetsSeq2 PySem.MeetsSeq3
end
def sIx(n d:R):ii G->R
 |none=>d
 |some v=>if v<0 then(v+(n:G)).U else min v.U n
theorem sIx_none(n d:R):sIx n d kf=d:=rfl
def sIx_nat(n d k:R):sIx n d (Z (k:G))=min k n:=by
 rfl
end HT
namespace L2
open PySem PySem.Spec PyProof.Rows
abbrev TO:=St->Hp->(ii G->Hp->Prop)->Prop
def PO(X:Cx)(e:ii fm)(t:TO):Prop :=
 ∀(B:E (eN×hb))(s:e9)(L:St)(H:Hp)(Q:ii G->Hp->Prop),mu H s->t L H Q ->
  li (evalPart e X.i) (λu k=>∃ o eg,mu eg k/\IsPart u o/\Q o eg) X.xe s
def Js:TO:=λ_ H Q=>Q kf H
def tPart(t:TE):TO:=λL H Q=>t L H λx l=>∃ i,x=.int i/\Q (Z i) l
section
variable{X:Cx}{e:fm}{te:TE}{lo hi:ii fm}{tl th:TO}{pos p2:Pos}
def pL:PO X kf Js:=by
 intro B s L H Q I h;rw[evalPart_none];exact Ql ⟨kf,H,I,.none,h⟩
def pK(h:PE X e te):PO X (Z e) (tPart te):=by
 intro B s L H Q I y;rw[evalPart_some];refine thn (h B s L H _ I y) λu m C=>?_;let x l f g ef:=C;let i rfl q:=ef;let t rfl:=g;erw[Z i,l,f,.int i t,q]
def SlR(X:Cx)(r:V->ii G->ii G->Hp->VK->Prop):Prop :=
 ∀(B:E (eN×hb))(s:e9)(L:St)(H:Hp)(x:V)(v eg o:eK)(lo hi:ii G)(h:eN)(Q:VK),mu H s->RelV x v->s.H.IsSliceOf h eg o .none->IsPart eg lo->IsPart o hi->r x lo hi H Q ->
  ∃ T id,typeLookup (.type T) "__getitem__"=pure (Z (.builtin id))/\s.TypeIs v T/\li (getItem v (.ref h)) (EP X B L Q) X.xe s
def tSl(r:V->ii G->ii G->Hp->VK->Prop)(te:TE)(tl th:TO):TE:=λL H Q=>te L H λx p=>tl L p λl O=>th L O λu j=>r x l u j Q
def ma{r:V->ii G->ii G->Hp->VK->Prop}(N:SlR X r)(eg:PE X e te)(hl:PO X lo tl)(t:PO X hi th):PE X (.Subscript e (.Slice lo hi kf p2) pos) (tSl r te tl th):=by
 intro B s L H Q I h;refine Subscript_ (thn (eg B s L H _ I h) λv m ⟨x,p,i,g,ef⟩=>?_);refine wpAny_Slice (thn (hl B m L p _ i ef) λJ k ⟨l,O,z,D,M⟩=>thn (t B k L O _ z M) λo d ⟨u,j,c,pu,C⟩=>?_);rw[evalPart_none];refine Ql ?_;let f:mu j {d,d.H.o {cls:=.type "slice",data:=.fields #[J,o,.none]}}:=c.kept (t':=d.v) λb a q=>Qm _ q;let T id Y y n:=N B {d,d.H.o {cls:=.type "slice",data:=.fields #[J,o,.none]}} L j x v J o l u d.H.M.J Q f g (fc.IsSliceOf.new ..) D pu C;show li (subscriptTail e (.Slice lo hi kf p2) v (.ref d.H.M.J)) (EP X B L Q) X.xe {d,d.H.o {cls:=.type "slice",data:=.fields #[J,o,.none]}};exact tail_any (ops:=[.ref d.H.M.J,v]) y Y n (by with_unfolding_all rfl)
def cutV(xs:E V)(lo hi:ii G):E V:=(xs.drop (HT.sIx xs.L 0 lo)).j (HT.sIx xs.L xs.L hi-HT.sIx xs.L 0 lo)
def zx(xs:E V)(lo hi:ii G):(cutV xs lo hi).L<=xs.L:=by
 unfold cutV;rw[Me,Pb];lia
end
def ixN(n:R)(i:G):ii R:=if 0<=i then(if i<n then Z i.U else kf) else if -(n:G)<=i then Z (i+n).U else kf
def atI{α:Type}(xs:E α)(i:G):ii α:=(ixN xs.L i).bind λj=>xs[j]?
def DP{i:G}(h:ixN n i=Z j):seqIndex? i n=Z j/\j<n/\-(n:G)<=i/\i<n:=by
 unfold ixN at h;by_cases A:0<=i
 .rw[Rw A]at h;by_cases Y:i<n
  .rw[Rw Y]at h;let e:i.U=j:=L3 h;erw[by rw[seqIndex_of A Y,e],20,Y]
  .simp!
 .rw[Rx A]at h;by_cases Y : -(n:G)<=i
  .rw[Rw Y]at h;let e:(i+n).U=j:=L3 h;erw[by rw[seqIndex_neg ∅ Y,e],4,Y,4]
  .simp!
def Fb{xs:E α}{i:G}{v:α}(h:atI xs i=Z v):∃ j,seqIndex? i xs.L=Z j/\xs[j]?=Z v/\j<xs.L/\-(xs.L:G)<=i/\i<xs.L:=by
 unfold atI at h
 cases e:ixN xs.L i with
 |none=>rw[e]at h;cases h
 |some j =>
  rw[e]at h;let Y O ef m:=DP e;erw[j,Y,h,O,ef,m]
def aE{xs:E α}{v:α}(h:xs[j]?=Z v):atI xs (j:G)=Z v:=by
 let I:j<xs.L:=(Ll.mp h).1;let e:ixN xs.L (j:G)=Z j:=by
  unfold ixN;rw[Rw ∅,Rw ∅];simp
 unfold atI;rw[e];exact h
def qI(b:fm):Prop:=∀ o i,subscripted b j5 o i=operate [o,i] (getItem o i)
def IxR(X:Cx)(r:R2):Prop :=
 ∀(o a:fm)(B:E (eN×hb))(s:e9)(L:St)(H:Hp)(x y:V)(v u:eK)(Q:VK),mu H s->RelV x v->RelV y u->r x y H Q ->
  subscripted a j5 v u=operate [v,u] (getItem v u)->li (subscriptTail o a v u) (EP X B L Q) X.xe s
def MtR(X:Cx)(id:String)(r:V->E V->Hp->VK->Prop):Prop :=
 ∀(B:E (eN×hb))(s:e9)(L:St)(H:Hp)(x:V)(D:E V)(v:eK)(j:E eK)(Q:VK),mu H s->RelV x v->Vals D j->r x D H Q ->
  li (call (.builtin id) (v::j)) (EP X B L Q) X.xe s
section
variable{X:Cx}{a b:fm}{ta tb:TE}{pos:Pos}
def FT{r:R2}(N:IxR X r)(o:PE X a ta)(M:PE X b tb)(hs:qI b):PE X (.Subscript a b pos) (tOp r ta tb):=by
 intro B s L H Q I h;exact Subscript_ (binT o M I h λv u k x y O z T c q=>N a b B k L O x y v u Q z T c q (hs _ _))
inductive rIxL(K:Ln)(x:L2.V)(y:L2.V)(H:L2.Hp)(Q:L2.VK):Prop
 |mk (p xs i v:_) (_:x=.ref p)(_:y=.int i)(_:nv p xs)(_:atI xs i=Z v)(_:Q v H)
inductive rIxT(K:Ln)(x:L2.V)(y:L2.V)(H:L2.Hp)(Q:L2.VK):Prop
 |mk (p xs i v:_) (_:x=.ref p)(_:y=.int i)(_:SqT K H p xs)(_:atI xs i=Z v)(_:Q v H)
def DO:IxR X (rIxL X.K):=by
 intro o a B s L H x y v u Q I T c h f;let p D i z rfl rfl d eg q:=h
 cases T
 let t rfl:=c;let J r m b:=I.list d;let j Y O ef g n:=Fb eg;let w ew e:=r.get O;let C:=r.L;let l:=rq;let N:EP X B L Q w s:=⟨z,H,I,e,q⟩;by_cases A:0<=i
 .let M:i.U=j:=by
   rw[seqIndex_of A n]at Y;exact L3 Y
  exact item_listR m.isList A ∅ (by simp[*]) N f
 .let M:(i+(J.toArray.J:G)).U=j:=by
   rw[seqIndex_neg ∅ g]at Y
   rw[Mc,← C];exact L3 Y
  exact subscriptTail_builtinR (x:=w) m.isList.typeIs slot_list_getitem.Z
   (wpAny_getItem_list_neg (Q:=λr k=>r=w/\EP X B L Q r k) m.isList ∅ (by simp!) ∅ (by rw[M];simpa using ew) ⟨U,N⟩) f
def Iz:IxR X (rIxT X.K):=by
 intro o a B s L H x y v u Q I T c h f;let p D i z rfl rfl d eg q:=h
 cases T
 let t rfl:=c;let J r m b:=I.tuple d;let j Y O ef g n:=Fb eg;let w e M:=r.get O;let C:=r.L;let l:=rq;let N:EP X B L Q w s:=⟨z,H,I,M,q⟩;exact subscriptTail_builtinR (x:=w) m.typeIs slot_tuple_getitem.Z
  (getItem_tuple (j:=j) (Q:=λr k=>r=w/\EP X B L Q r k) m ∅ ∅ (by simp!) (by simpa using e) ⟨U,N⟩) f
def A9(its:E eK)(n j:R)(u:eK):QB (·.setIfInBounds j u) {cls:=.type "list",data:=.seq its.toArray n}={cls:=.type "list",data:=.seq (its.set j u).toArray n}:=by
 simp[QB]
def Inv.lst{B:E (eN×hb)}{L:St}{H:Hp}{s:e9}{p:eN}{xs:E V}(I:Inv X B L H s)(h:H p=Z (.lst xs)):
  ∃(its:E eK)(n:R),Vals xs its/\s.H.R p=Z {cls:=.type "list",data:=.seq its.toArray n}/\xs.L<=P7:=by
 let z its n r e:=I.hok p _ h;erw[its,n,r,e,z]
def Inv.lstUpd{its':E eK}{f:hb->hb}(I:Inv X O L H s)(h:H p=Z (.lst xs))(D:s.H.R p=Z {cls:=.type "list",data:=.seq its.toArray n})(A:f {cls:=.type "list",data:=.seq its.toArray n}={cls:=.type "list",data:=.seq its'.toArray N})(r:Vals ys its')(hz:ys.L<=P7)(t:R):
  Inv X O L (upd H p (.lst ys)) {s with heap:=s.H.update p f,toks:=t}:=by
 let e:(s.H.update p f).R p=Z {cls:=.type "list",data:=.seq its'.toArray N}:=by
  rw[QC f D (by rw[A]<;>rfl),A]
 refine I.write (x:=p) (e:=p) (by rw[h];trivial) (.inl U) (λb u M q=>(QD _ _ (Ne.Y M)).Q q) ⟨_,e⟩ ?_
 erw[hz,its',N,r,e]
inductive rSetL(o:L2.V)(i:L2.V)(v:L2.V)(H:L2.Hp)(Q:(Hp->Prop)):Prop
 |mk (p xs k j:_) (_:o=.ref p)(_:i=.int k)(_:H p=Z (.lst xs))(_:ixN xs.L k=Z j)(_:Q (upd H p (.lst (xs.set j v))))
def jT:PSet X rSetL:=by
 intro B s L H o i v c a u Q I e l rv h;let p D k j rfl rfl T eg q:=h
 cases e
 let t rfl:=l;let J n r N d:=I.lst T;let Y O ef m:=DP eg;let C:=r.L;let y:=rq;let b:mu (upd H p (.lst (D.set j v))) {s,s.H.update p (QB (·.setIfInBounds j u))} :=
  I.lstUpd T N (A9 J n j u) (r.set rv j) (by rw[Nn];exact d) s.v
 by_cases A:0<=k
 .let g:k.U=j:=by
   rw[seqIndex_of A m]at Y;exact L3 Y
  exact PySem.W.ki_setAt N A ∅ (by simp!) (by rw[g];erw[_,b,q])
 .let g:(k+(J.toArray.J:G)).U=j:=by
   rw[seqIndex_neg ∅ ef]at Y
   rw[Mc,← C];exact L3 Y
  exact PySem.W.ki_setBack N ∅ (by simp!) ∅ (by rw[g];erw[_,b,q])
def vf(lo hi:ii G)(n:R):(sliceBounds lo hi kf n).1=((HT.sIx n 0 lo:R):G)/\(sliceBounds lo hi kf n).2.1=((HT.sIx n n hi:R):G)/\(sliceBounds lo hi kf n).2.2=1:=by
 erw[47]
 .cases lo with
  |none=>simp[sliceBounds,HT.sIx]
  |some i =>
   simp only[sliceBounds,HT.sIx,ii.getD_none,show(1:G) > 0 by decide,if_true]
   by_cases h:i<0
   .simp only[h,if_true]<;>lia
   .grind
 .cases hi with
  |none=>simp[sliceBounds,HT.sIx]
  |some i =>
   simp only[sliceBounds,HT.sIx,ii.getD_none,show(1:G) > 0 by decide,if_true]
   by_cases h:i<0
   .simp only[h,if_true]<;>lia
   .simp only[h,if_false]<;>lia
def rZ(its:E eK)(lo hi:ii G):slicePick its.toArray lo hi kf=((its.drop (HT.sIx its.L 0 lo)).j (HT.sIx its.L its.L hi-HT.sIx its.L 0 lo)).toArray:=by
 let Y O ef:=vf lo hi its.toArray.J;unfold slicePick;rw[Y,O,ef];simp only[sliceRange_one,pick_run,Mc]<;>rfl
inductive rSlL(K:Ln)(x:L2.V)(lo:ii G)(hi:ii G)(H:L2.Hp)(Q:L2.VK):Prop
 |mk (a xs:_) (_:x=.ref a)(_:nv a xs)(_:∀ p,H p=kf->Q (.ref p) (upd H p (.lst (cutV xs lo hi))))
def pA:SlR X (rSlL X.K):=by
 intro B s L H x v eg e lo N c Q I T y m j h;let a D rfl J q:=h
 cases T
 let f r u d:=I.list J;let i:=r.L;erw["list",_,slot_list_getitem.Z,u.isList.typeIs,3];refine wpAny_getItem_list_slice u.isList y m j .none (by simp) ?_ (by simp!)
 rw[rZ,← i];erw[.ref s.H.M.J,_,I.laid (t':=s.v) (o:=.lst (cutV D lo N)) (λb g q=>Qm _ q) (Lo _) ?_,U,q _ (I.hok.fresh (Lo _))];erw[Mi (zx D lo N) d,_,00,(r.drop (HT.sIx D.L 0 lo)).j (HT.sIx D.L D.L N-HT.sIx D.L 0 lo),Qn _ U]
def aD:iJ X (.builtin "len") (λxs H Q=>∃ p ys,xs=[.ref p]/\(SqL X.K H p ys∨SqT X.K H p ys)/\Q (.int ys.L) H):=by
 intro B s L H xs j Q I r h;let p ys rfl Y q:=h;let u rfl T:=kJ r
 cases T
 let y:=rq;obtain Y|Y:=Y
 .let J v D d:=I.list Y;let i:=v.L;exact Calls.call_len_list D.isList (by simp only[Mc]<;>lia) ⟨.int ys.L,H,I.tok _,⟨s.v+1,by rw[Mc,i]⟩,q⟩
 .let J v D d:=I.tuple Y;let i:=v.L;exact len_tuple D (by simp only[Mc]<;>lia) ⟨.int ys.L,H,I.tok _,⟨s.v+1,by rw[Mc,i]⟩,q⟩
def jG:iJ X (.type "list") (λxs H Q=>∃ p ys,xs=[.ref p]/\(SqL X.K H p ys∨SqT X.K H p ys)/\∀ l,H l=kf->Q (.ref l) (upd H l (.lst ys))):=by
 intro B s L H xs j Q I r h;let p ys rfl Y q:=h;let u rfl a:=kJ r
 cases a
 let N:∀(J:E eK),Vals ys J->ys.L<=P7->∀(eg:fc)(k:R),(∀ b c,s.H.R b=Z c->eg.R b=Z c) ->
   eg.R s.H.M.J=Z {cls:=.type "list",dict:=kf,data:=.seq J.toArray k,slots:=#[]}->EP X B L Q (.ref s.H.M.J) {s,eg}:=λJ v d eg k C e =>
  ⟨.ref s.H.M.J,_,I.laid (t':=s.v) C (Lo _) (show bu X.e X.w _ eg _ (.lst ys) from⟨d,J,k,v,e⟩),U,q _ (I.hok.fresh (Lo _))⟩
 obtain Y|Y:=Y
 .let J v m d:=I.list Y;let i:=v.L;let o D T n hd:=m.isList;exact call_list_seq p (.inl U) D T hd (λeg k C e=>N J v d eg k C e) (by simp!)
 .let J v m d:=I.tuple Y;let i:=v.L;let o D T n hd:=m;exact call_list_seq p (.inr U) D T hd (λeg k C e=>N J v d eg k C e) (by simp!)
def tyV(K:Ln)(T:String)(x:V)(H:Hp):Prop:=match x with
 |.str _=>T = "str"
 |.int _=>T = "int"
 |.ref p=>(T = "list"/\∃ D,nv p D)∨(T = "tuple"/\∃ o,K.Z p=Z o/\o.cls=.type "tuple"/\o.dict=kf) ∨
   (T = "dict"/\((∃ N,H p=Z (.dK N))∨∃ N,H p=Z (.dT N)))∨(T = "set"/\∃ S n,H p=Z (.set S n))
 |_=>False
def Hy{T:String}{x:V}{v:eK}(I:Inv X O L H s)(r:RelV x v)(ty:tyV X.K T x H):
  s.TypeIs v T/\∀ a,v=.ref a->∃ ob,s.H.R a=Z ob/\ob.dict=kf:=by
 cases x with
 |str z =>
  let t rfl:=r
  cases (show T = "str" from ty)
  erw[typeIs_str s z t,λ_ e=>nomatch e]
 |int i =>
  let t rfl:=r
  cases (show T = "int" from ty)
  erw[typeIs_int s i t,λ_ e=>nomatch e]
 |ref p =>
  cases r
  rcases ty with⟨rfl,D,Y⟩|⟨rfl,o,g,d,hd⟩|⟨rfl,g⟩|⟨rfl,S,n,g⟩
  .let J _ m _:=I.list Y;erw[m.isList.typeIs,λa e=>?_]
   cases e
   let o n e c hd _:=m;erw[o,e,hd]
  .erw[⟨o,I.kIn p o g,d⟩,λa e=>?_]
   cases e
   erw[o,I.kIn _ o g,hd]
  .let z:∃ o,s.H.R p=Z o/\o.ExactDict:=by
    rcases g with⟨N,g⟩|⟨N,g⟩
    .let _ _ _ _ o _ _ e b _:=I.hok p _ g;erw[o,e,b]
    .let _ _ _ _ o _ _ e b _:=I.hok p _ g;erw[o,e,b]
   let o e b:=z;erw[⟨o,e,b.1⟩,λa A=>?_]
   cases A
   erw[o,e,b.2.1]
  .let o _ _ _ e b _:=I.hok p _ g;erw[⟨o,e,b.1⟩,λa A=>?_]
   cases A
   erw[o,e,b.2.1]
 |_=>exact False.elim ty
def tBM0(K:Ln)(T:String)(r:V->E V->Hp->VK->Prop)(b:TE):TE:=λL H Q=>b L H λx l=>tyV K T x l/\r x [] l Q
def tBM(K:Ln)(T:String)(r:V->E V->Hp->VK->Prop)(b:TE)(t:TA):TE:=λL H Q=>b L H λx l=>tyV K T x l/\t L l λD O=>r x D O Q
variable{o e:fm}{es:E fm}{to:TE}{t:TA}{name:ff}{apos cpos:Pos}{T id:String}{r:V->E V->Hp->VK->Prop}
def CZ(c:PlainAttrs T)(slot:Slot T name id)(d:typeOf (.builtin id)=pure (.type "method_descriptor"))(C:MtR X id r)(D:PE X o to)(eg:uP_ (attributeBase o name X.i (eval o X.i)=eval o X.i) uR_)(N:uP_ ((apos.endLine == cpos.line)=i0) uR_):PE X (.Call (.Attribute o name apos) [] [] cpos) (tBM0 X.K T r to):=by
 intro B s L H Q I h;refine wpAny_Call_method0_late eg N (thn (D B s L H _ I h) λv m ⟨x,l,i,g,ty,ef⟩=>?_);let Y O:=Hy i g ty;erw[T,id,c,slot,d,Y,O,QE U (PySem.evalArgs_none (C B m L l x [] v [] Q i g .nil ef))]
def d7(c:PlainAttrs T)(slot:Slot T name id)(d:typeOf (.builtin id)=pure (.type "method_descriptor"))(C:MtR X id r)(D:PE X o to)(J:PA X (e::es) t)(eg:uP_ (attributeBase o name X.i (eval o X.i)=eval o X.i) uR_)(f:uP_ (((backTo cpos (Qd (e::es) X.i)).all (λx=>!x.1)&&(backToKw cpos (keywordEach [] X.i)).all (λx=>x.1.isSome)
   && decide ((e::es).L+([]:E Keyword).L+(if([]:E Keyword).isEmpty then 0 else 1)<30))=i0) uR_)(N:uP_ ((apos.endLine == cpos.line)=i0) uR_)(hs:uP_ (Qd (e::es) X.i=(j5,eval e X.i)::Qd es X.i) uR_)(q:uP_ ((backTo cpos (Qd es X.i)).any (·.1)=j5) uR_):
  PE X (.Call (.Attribute o name apos) (e::es) [] cpos) (tBM X.K T r to t):=by
 intro B s L H Q I h;refine wpAny_Call_method_late eg f N U (thn (D B s L H _ I h) λv m ⟨x,l,i,g,ty,ef⟩=>?_);let Y O:=Hy i g ty;erw[T,id,c,slot,d,Y,O,3];let b:=J cpos B m L l _ i ef;rw[hs]at b ⊢;refine QE (by assumption) (Calls.evalArgs_plain ?_)
 exact thn b λj k ⟨n,M,z,a,p⟩=>C B k L M x n v j Q z g a p
end
def MtM(X:Cx)(id:String)(r:V->E V->Hp->VK->Prop):Prop :=
 ∀(B:E (eN×hb))(s:e9)(L:St)(H:Hp)(x:V)(D:E V)(v:eK)(j:E eK)(Q:VK),mu H s->RelV x v->Vals D j->r x D H Q ->
  li (call (.builtin id) (v::j)) (EP X B L Q) X.xe s
theorem Vals.one:∀{x:V}{us:E eK},Vals [x] us->∃ u,us=[u]/\RelV x u
 |_,_,.cons r .nil=>⟨_,U,r⟩
theorem Vals.zero:∀{us:E eK},Vals [] us->us=[]
 |_,.nil=>rfl
def Vals.dropLast(h:Vals xs us):Vals xs.dropLast us.dropLast:=by
 induction h with
 |nil=>exact .nil
 |cons r t L =>
  cases t with
  |nil=>exact .nil
  |cons q M=>exact .cons r L
def Vals.reverse(h:Vals xs us):Vals xs.x us.x:=by
 induction h with
 |nil=>exact .nil
 |cons r t L=>rw[List.reverse_cons,List.reverse_cons];exact Vals.append L (.cons r .nil)
section
variable{X:Cx}{pins:E (eN×hb)}{σ:St}{H:Hp}{s:e9}{l b:eN}{xs ys zs:E V}
def Inv.lset{its':E eK}{f:io eK->io eK}(I:Inv X pins σ H s)(k:H l=Z (.lst xs))(e:s.H.R l=Z {cls:=.type "list",data:=.seq its.toArray n})(A:f its.toArray=its'.toArray)(hv:Vals ys its')(hz:ys.L<=P7):
  mi σ (upd H l (.lst ys)) {s with heap:=s.H.update l (QB f),toks:=t'}:=by
 let q:=PySem.IsL.update e f;rw[A]at q;refine I.write (x:=l) (e:=l) (by rw[k];exact trivial) (.inl U) (λw u M eg=>(QD s.H (QB f) (Ne.Y M)).Q eg) ⟨_,q⟩ ?_
 erw[hz,its',_,hv,q]
theorem Inv.lnew(I:Inv X pins σ H s)(hv:Vals ys its)(hz:ys.L<=P7):
  mi σ (upd H s.H.M.J (.lst ys)) {s with heap:=s.H.o {cls:=.type "list",data:=.seq its.toArray},toks:=t'} :=
 I.laid (λ_ _ q=>Qm _ q) (Lo _) ⟨hz,its,0,hv,Qn _ U⟩
theorem Inv.fresh(I:Inv X pins σ H s):H s.H.M.J=kf:=I.hok.fresh (Lo _)
def Inv.lstM(I:Inv X pins σ H s)(k:H l=Z (.lst xs)):xs.L<=P7/\∃(its:E eK)(n:R),Vals xs its/\xs.L=its.L/\s.H.R l=Z {cls:=.type "list",data:=.seq its.toArray n}:=by
 let z its n r e:=I.hok l _ k;erw[z,its,n,r,r.L,e]
def Gv(h:n<=P7):hX.List.listTooLong n=j5:=by
 unfold hX.List.listTooLong;lia
end
inductive JH(x:L2.V)(vs:E V)(H:L2.Hp)(Q:L2.VK):Prop
 |mk (l xs y:_) (_:x=.ref l)(_:vs=[y])(_:H l=Z (.lst xs))(_:xs.L<P7)(_:Q .non (upd H l (.lst (xs++[y]))))
def aO:MtM X "list.append" JH:=by
 intro B s L H x M v j Q I T rv h;let l D y rfl rfl k d q:=h
 cases T
 let u rfl A:=rv.one;let z J n r C e:=I.lstM k;refine call_meets F.slot_list_append ⟨_,e,U⟩ F.entry_list_append (F.args_list_append_2 _ _) (PySem.list_append l J.toArray n u (by simp!)) ⟨e,?_⟩
 erw[.non,_,I.lset (its':=J++[u]) k e (by simp) (r.append (.cons A .nil)) ?_,U,q]
 grind
inductive JG(x:L2.V)(vs:E V)(H:L2.Hp)(Q:L2.VK):Prop
 |mk (l b xs zs:_) (_:x=.ref l)(_:vs=[.ref b])(_:H l=Z (.lst xs))(_:H b=Z (.lst zs))(_:xs.L+zs.L<=P7)(_:Q .non (upd H l (.lst (xs++zs))))
def vH:MtM X "list.extend" JG:=by
 intro B s L H x M v j Q I T rv h;let l b D m rfl rfl k g d q:=h
 cases T
 let u rfl i:=rv.one
 cases i
 let z its n r C e:=I.lstM k;let eg f N a O A:=I.lstM g;let t:its.toArray.J+f.toArray.J<=P7:=by simp!
 let c:¬ (!its.toArray.isEmpty&&hX.List.listTooLong (its.toArray.J+f.toArray.J))=i0:=by
  rw[Gv t,PH];exact LS
 refine call_meets F.slot_list_extend ⟨_,e,U⟩ F.entry_list_extend (F.args_list_extend_2 _ _)
  (AutoSeq1.list_extend_list_list_0 l its.toArray n b f.toArray N c (by rw[Mc];lia) ∅) ⟨e,A,?_⟩
 erw[.non,_,I.lset (its':=its++f) k e (by simp) (r.append a) ?_,U,q]
 rw[Ls];lia
inductive rPop(x:L2.V)(vs:E V)(H:L2.Hp)(Q:L2.VK):Prop
 |mk (l xs y:_) (_:x=.ref l)(_:vs=[])(_:H l=Z (.lst xs))(_:xs[xs.L-1]?=Z y)(_:Q y (upd H l (.lst xs.dropLast)))
def mt_pop:MtM X "list.pop" rPop:=by
 intro B s L H x M v j Q I T rv h;let l D y rfl rfl k m q:=h
 cases T
 let a:=rv.zero;subst a;let z J n r C e:=I.lstM k;let u eg A:=r.get m;let b:J.toArray[J.toArray.J-1]?=Z u:=by
  show J.toArray[J.L-1]?=Z u;rw[← Mp,← C];exact eg
 refine call_meets F.slot_list_pop ⟨_,e,U⟩ F.entry_list_pop (F.args_list_pop_1 _) (MeetsSeq.list_pop_last l J.toArray n u b (by rw[Mc];lia)) ⟨e,?_⟩
 erw[y,_,I.lset (its':=J.dropLast) k e ?_ r.dropLast ?_,A,q]
 .show J.toArray.eraseIdxIfInBounds (J.toArray.J-1)=J.dropLast.toArray;simp
 .rw[List.length_dropLast];lia
inductive rCat(x:L2.V)(y:L2.V)(H:L2.Hp)(Q:L2.VK):Prop
 |mk (l b xs zs:_) (_:x=.ref l)(_:y=.ref b)(_:H l=Z (.lst xs))(_:H b=Z (.lst zs))(_:xs.L+zs.L<=P7)(_:∀ p,H p=kf->Q (.ref p) (upd H p (.lst (xs++zs))))
def op_cat:OpR X (Qq .Add) rCat:=by
 intro B s L H x y v u Q I T c h;let l b D m rfl rfl k g d q:=h
 cases T
 cases c
 let z J n r C e:=I.lstM k;let eg f N a O A:=I.lstM g;refine PySem.P.add_list e A ?_ (by simp!)
 let Y:J.toArray++f.toArray=(J++f).toArray:=by simp
 rw[Y];erw[.ref _,_,I.lnew (t':=s.v) (r.append a) (by rw[Ls];lia),U,q _ I.fresh]
end L2
namespace Att
open PySem PySem.W PySem.Calls PyProof.Rows
def pX{P:Params}:∀(ns:E G)(vs:E eK),WellAll P h vs (ns.h WData.int)->QF vs ns:=by
 intro ns;induction ns with
 |nil =>
  intro vs w;rw[List.map_nil]at w
  cases w
  exact .nil
 |cons n ns L =>
  intro vs w;rw[LR]at w
  cases w with
  |cons a b =>
   cases a
   exact .cons _ _ (L _ b)
def Cw{l:OpenLaw}(y:l.most=Z n){P:Params}{args:E WData}{e:E eK}(j:l.row.toRowW.claim.pre args=i0)(b:WellAll P h e args):
  ∃ a vs ns,e=[eK.ref a]/\args=[WData.list (ns.h WData.int)]/\h.R a=Z {cls:=.type "list",data:=.seq vs.toArray}/\QF vs ns/\ns.L<=n:=by
 let c:WShape.hasAll [] args [.list .int]=i0:=(pre_splitW j).1;let T:l.pre.holds [] {args:=args}=i0:=(pre_splitW j).2;let d r rfl Y O:=hasAllW_cons c;obtain rfl:=hasAllW_nil O;let D rfl ef:=hasW_list Y;let ns rfl:=items_int ef;let i:ns.L<=n:=by
  unfold OpenLaw.pre at T;let m:(WTm.not (.lt (.lit (.int (n:G))) (.len (.arg 0)))).holds [] {args:=[.list (ns.h .int)]}=i0:=by
   let m:=(holds_andW T).1;rw[y]at m;exact m
  let I:=condW_of m (w_not (w_lt w_lit (w_len_list (w_arg U))));rw[Lp]at I;refine N4 λq=>?_;let v:(n:G)<((ns.L:R):G):=by lia
  first
   | (simp!)
   | (simp at I;lia)
 cases b with
 |cons p A =>
  cases A
  cases p with
  |list N u=>exact⟨_,_,ns,U,U,N,pX ns _ u,i⟩
theorem CK(l:OpenLaw)(args:E WData):l.row.toRowW.claim.post args (.bool i0) args=i0 :=
 postW_of (r:=l.row.toRowW) (X:=(i0 == i0))
  (show WShape.has [] (.bool i0) .bool=i0 by rfl)
  (show(WTm.eq .res (.lit (.bool i0))).value [] {args:=args,res:=Z (.bool i0),after:=args}=Z (.bool (i0 == i0)) from w_eq_bool (w_res U) w_lit) U
def attach_call{l:OpenLaw}{q:fI}{Q:E ff}{N:(ff->ii eK)->fc->Prop}{A:hx->fc->Prop}{d:DefRec}(y:l.most=some n)(p:d.params.defaults=[])(call:∀(w:hx)(s₀ s₁:e9)(mg s:ff->ii eK)(J:eN)(o:hb)(T M B:eK)(a:eN)(vs:E eK)(ns:E G),
   Ground q Q [] N w s₀ mg s s₁.H->A w s₁.H ->
   s₁.H.R J=Z o->o.data=.func (docDef d.name d.params d.body d.scope T M B)->s₁.H.CodeRec M d.name->mg d.name=Z (.ref J) ->
   s₁.H.R a=Z {cls:=.type "list",data:=.seq vs.toArray}->QF vs ns->ns.L<=n->s₁.gens=#[] ->
   Qu (model l.e w) callerA (.call (.ref J) ⟨[.ref a],[]⟩) (λr s'=>r=.ok (.ret (.bool i0))/\OldK s₁.H s'.H/\s'.os=s₁.os/\AllBare s'.gens) s₁):
  WalkO q Q N A l.row.toRowW d [] (λf vs=>PySem.call f vs):=by
 intro w s₀ s₁ mg s eg Y J o T M B H kV D hd z L h t v e as j k x b I;obtain rfl:H=.none:=Dflts.none L p;obtain rfl:kV=.none:=Dflts.noKw L;let a vs ns rfl rfl c g i:=Cw y j b;refine enter_call (Qy (call w s₀ s₁ mg s J o T M B a vs ns eg Y D (fd_plain hd) z h c g i t) λr s' u=>?_);let rfl O ef m:=u;erw[.inl ⟨.bool i0,.bool i0,[],U,λ_=>rfl,.bool i0,CK l _,λ_=>⟨List.Pairwise.nil,λ_ C=>(nomatch C)⟩⟩,O,ef,m]
section
variable{prog:fI}{w:hx}{A:Around}{ef:eK->e9->Prop}{s:e9}{K:Frag}
end
end Att
namespace L2
open PySem PySem.Spec PyProof.Rows
theorem vc:∀{vs:E eK}{ns:E G},QF vs ns->Vals (ns.h V.int) vs
 |_,_,.nil=>.nil
 |_,_,.cons n t h=>.cons ⟨t,U⟩ (vc h)
def nF(s:fo)(j:R):fo:=match s with
 |.ClassDef _ _ _ l _ _ _ _ _ _ _=>l.f j (.Pass ⟨0,0,0,0⟩)
 |_=>.Pass ⟨0,0,0,0⟩
def bQ(s:fo):Arguments:=match s with
 |.FunctionDef _ a _ _ _ _ _ _ _ _=>a
 |_=>{posonlyargs:=[],args:=[],vararg:=kf,kwonlyargs:=[],kw_defaults:=[],kwarg:=kf,defaults:=[]}
def bq(s:fo):E fo:=match s with
 |.FunctionDef _ _ b _ _ _ _ _ _ _=>b
 |_=>[]
def aq(s:fo):hr:=match s with
 |.FunctionDef _ _ _ _ _ _ a _ _ _=>a
 |_=>{kind:=.function,names:=[],isGenerator:=j5,isCoroutine:=j5}
abbrev CX0:CXT:=λ_ _ _ _ _ _=>False
abbrev E0:XK:=λ_ _ _=>False
theorem mw:nY CX0 X E0:=λ_ _ _ _ _ _ _ h=>h.elim
structure Fun(K:Ln)(x qual:ff)(st:fo)(f:eN)(fd:fk):Prop where
 ex:∃(oc:eK)(od:ii eN)(kV doc pm:eK)(an:ii eN)(cdv ct:eK)(osl:io (ii eK)),
  fd=Mq x qual (bQ st) (bq st) (aq st) .none kV doc pm an cdv ct/\K.Z f=Z ⟨oc,od,.func fd,osl⟩/\MD K cdv qual=i0
 kp:L9 K (.ref f)=i0
def Fun.ok{j:ff}{st:fo}{N:E ff}{k:R}(F:Fun K x j st f fd)(S:aw N ps (aq st))(len:∀ vs H Q ef,sp vs H Q ef->vs.L=ps.L)(i:∀(g:eK)(A:Around)(outer:E gi)(s:e9)(H:Hp)(vs:E V)(Q:VK)(ef:XK),Room k (A.deeper (envOfC j (aq st) s.H.M.J f g))->sp vs H Q ef ->
   let X:=(cxOf CX0 P w K mg base N j (aq st) f g A outer s H ef).nox;let D:Ends:={nx:=λ_ H'=>Q .non H',rt:=Q};∃ t,PSs X (bq st) t/\t D (n8 N vs) H):kt (k+1) f fd ps sp:=by
 let l m kV B T p g a b rfl v z:=F.ex;refine Ed v z S len λA outer s H vs Q ef eg I=>?_;let t h q:=i g A outer s H vs Q ef eg I;erw[t,h.nox,q]
def Fun.binds{j:ff}{st:fo}(F:Fun K x j st f fd)(h:∀(kV B T:eK)(p:ii eN)(g ct:eK)(us:E eK),us.L=ps.L->bindArgs (Mq x j (bQ st) (bq st) (aq st) .none kV B T p g ct) ⟨us,[]⟩=pure (ps.zip us)):dY K fd ps []:=by
 let l m kV B T p g ct b rfl v z:=F.ex;exact .all (h kV B T p g ct)
theorem fun_mk{j:ff}{st:fo}{m p:ii eN}{b:io (ii eK)}{kV B T g:eK}(l:K.Z f=Z ⟨u,m,.func (Mq x j (bQ st) (bq st) (aq st) .none kV B T p g ct),b⟩)(c:MD K g j=i0)(k:L9 K (.ref f)=i0):Fun K x j st f (Mq x j (bQ st) (bq st) (aq st) .none kV B T p g ct):=⟨⟨u,m,kV,B,T,p,g,ct,b,U,l,c⟩,k⟩
theorem oy{k:R}(N:Room k A):A.units+1<cLine:=Nat.lt_of_le_of_lt (Nat.add_le_add_left (by decide:1<=64) _) N.units
theorem ar(h:n<=1000):n<P7:=Nat.lt_of_le_of_lt h ∅
theorem pv(i:R)(o:uP_ (X.N[i]?=Z x) uR_)(hv:Vis X.i.scope x:=by first|exact Or.inl rfl|exact Or.inr (Or.inl U)|exact Or.inr (Or.inr U))(hd:uP_ ((x == ("__debug__" : ff))=j5) uD_)(z:uP_ ((x == ("__classdict__" : ff))=j5) uD_):PE X (.Name x pos) (tVar i):=pe_var o hv hd z
def iteF{A:Prop}(h:B):if j5=i0 then A else B:=by
 rw[Rx LS];exact h
def iteT{A:Prop}(h:A):if i0=i0 then A else B:=by
 rw[Rw U];exact h
def ite2{c A:Prop}[Decidable c](Y:c->A)(h2:¬ c->B):if c then A else B:=by
 by_cases h:c
 .rw[Rw h];exact Y h
 .rw[Rx h];exact h2 h
def vR{c A:Prop}[Decidable c](T:c)(h:B):if(!decide c)=i0 then A else B:=by
 rw[QG T];exact iteF h
def Same(H H':Hp):Prop:=∀ b o,H b=Z o->H' b=Z o
theorem Same.trans(a:Same H H1)(b:Same H1 H2):Same H H2:=λc o h=>b c o (a c o h)
def Same.seq(e:Same H H')(h:nv a xs):SqL K H' a xs:=by
 rcases h with(h|⟨o,h⟩)|h
 .exact .inl (.inl (e _ _ h))
 .exact .inl (.inr ⟨o,e _ _ h⟩)
 .exact .inr h
end L2
set_option maxRecDepth 100000
set_option maxHeartbeats 4000000
namespace L2
open PySem PySem.Spec PyProof.Rows
section
variable{κ:Type} [DecidableEq κ]
def valV(kvs:E (κ×V))(k:κ):ii V:=(kvs.find? λw=>decide (w.1=k)).h (·.2)
def putK(kvs:E (κ×V))(k:κ)(v:V):E (κ×V) :=
 if(kvs.any λw=>decide (w.1=k))=i0 then kvs.h (λw=>if w.1=k then(w.1,v) else w) else kvs++[(k,v)]
def oz(kvs:E (κ×V))(k:κ):E (κ×V):=kvs.filter λw=>decide (w.1≠k)
def bE{p:κ×V}{r:E (κ×V)}{k:κ}(e:p.1=k):valV (p::r) k=Z p.2:=by simp[valV,NG,e]
def bF{p:κ×V}{r:E (κ×V)}{k:κ}(e:¬ p.1=k):valV (p::r) k=valV r k:=by simp[valV,NG,e]
theorem gN(k:κ):∀ kvs:E (κ×V),(kvs.any λkv=>decide (kv.1=k))=(valV kvs k).isSome
 |[]=>rfl
 |p::r=>by
  rw[List.any_cons];by_cases e:p.1=k
  .simp only[bE e,QG e,im.true_or,ii.isSome_some]
  .rw[bF e,P6 e,im.false_or];exact gN k r
theorem zT(k j:κ)(y:V):∀ kvs:E (κ×V),valV (kvs.h λkv=>if kv.1=k then(kv.1,y) else kv) j=(valV kvs j).h λx=>if j=k then y else x
 |[]=>rfl
 |p::r=>by
  let L:=zT k j y r;rw[LR];by_cases h:p.1=k
  .rw[Rw h];by_cases e:p.1=j
   .rw[bE (p:=(p.1,y)) e,bE e,ii.map_some,Rw (e.Y.Q h)]
   .rw[bF (p:=(p.1,y)) e,bF e,L]
  .rw[Rx h];by_cases e:p.1=j
   .rw[bE (p:=p) e,bE e,ii.map_some,Rx (λz=>h (e.Q z))]
   .rw[bF (p:=p) e,bF e,L]
theorem vd(k j:κ)(y:V):∀ kvs:E (κ×V),valV kvs k=kf->valV (kvs++[(k,y)]) j=if j=k then Z y else valV kvs j
 |[],_=>by
  by_cases e:k=j
  .rw[Rw e.Y];exact bE (p:=(k,y)) e
  .rw[Rx (λz=>e z.Y)];exact bF (p:=(k,y)) e
 |p::r,l=>by
  rw[Pe];let g:¬ p.1=k:=λz=>by rw[bE z]at l;cases l
  rw[bF g]at l;let L:=vd k j y r l;by_cases e:p.1=j
  .rw[bE e,bE e,Rx (λz=>g (e.Q z))]
  .rw[bF e,bF e,L]
def gM(kvs:E (κ×V))(k j:κ)(y:V):valV (putK kvs k y) j=if j=k then Z y else valV kvs j:=by
 unfold putK;by_cases a:(kvs.any λw=>decide (w.1=k))=i0
 .rw[Rw a,zT];rw[gN]at a;by_cases e:j=k
  .let x J:=Oo.mp a;simp[*]
  .simp[*]
 .rw[Rx a];refine vd k j y kvs ?_;rw[gN]at a;simp!
def fE(kvs:E (κ×V))(k:κ)(v:V):(putK kvs k v).L<=kvs.L+1:=by
 unfold putK;split
 .simp
 .simp
def sU{kvs:E (κ×V)}{k:κ}(v:V)(h:valV kvs k=kf):putK kvs k v=kvs++[(k,v)]:=by
 unfold putK;rw[gN,h];rfl
def RelO.isSome_eq{o:ii V}{u:ii eK}(r:RelO o u):o.isSome=u.isSome:=by
 cases o with
 |none=>cases u with
  |none=>rfl
  |some _=>contradiction
 |some _=>cases u with
  |none=>contradiction
  |some _=>rfl
def RelO.getD{o:ii V}{u:ii eK}{d:V}{d':eK}(r:RelO o u)(f:RelV d d'):RelV (o.f d) (u.f d'):=by
 cases o with
 |none=>cases u with
  |none=>exact f
  |some _=>exact(show False from r).elim
 |some _=>cases u with
  |none=>exact(show False from r).elim
  |some _=>exact r
def KV.val{kvs:E (κ×V)}{vs:E (κ×eK)}(r:KV kvs vs)(k:κ):RelO (valV kvs k) (valueAt vs k):=by
 unfold KV at r;induction r with
 |nil=>exact True.intro
 | @cons p q T i h t L =>
  let Y O:=h;by_cases e:p.1=k
  .let N:q.1=k:=Y.Y.Q e
   let b:valueAt (q::i) k=Z q.2:=by simp[valueAt,NG,N]
   rw[bE e,b];exact O
  .let N:¬ q.1=k:=λz=>e (Y.Q z)
   let b:valueAt (q::i) k=valueAt i k:=by simp[valueAt,NG,N]
   rw[bF e,b];exact L
def KV.any{kvs:E (κ×V)}{vs:E (κ×eK)}(r:KV kvs vs)(k:κ):(kvs.any λkv=>decide (kv.1=k))=vs.any λkv=>decide (kv.1=k):=by
 unfold KV at r;induction r with
 |nil=>rfl
 |cons h t L=>simp[*]
def KV.repl{kvs:E (κ×V)}{vs:E (κ×eK)}(r:KV kvs vs)(k:κ)(c:RelV y u):
  KV (kvs.h λkv=>if kv.1=k then(kv.1,y) else kv) (vs.h λkv=>if kv.1=k then(kv.1,u) else kv):=by
 unfold KV at r ⊢;induction r with
 |nil=>exact .nil
 | @cons p q T i h t L =>
  rw[LR,LR];refine .cons ?_ L;let Y O:=h;by_cases e:p.1=k
  .rw[Rw e,Rw (Y.Y.Q e)];erw[Y,c]
  .rw[Rx e,Rx (λz=>e (Y.Q z))];erw[Y,O]
def KV.put{kvs:E (κ×V)}{vs:E (κ×eK)}(r:KV kvs vs)(k:κ)(c:RelV y u):KV (putK kvs k y) (stored vs k u):=by
 unfold putK stored;rw[r.any k];by_cases e:(vs.any λw=>decide (w.1=k))=i0
 .rw[Rw e,Rw e];exact r.repl k c
 .rw[Rx e,Rx e];exact Paired.snoc r ⟨U,c⟩
def KV.drop{kvs:E (κ×V)}{vs:E (κ×eK)}(r:KV kvs vs)(k:κ):KV (oz kvs k) (without vs k):=by
 unfold KV at r ⊢;unfold oz without;induction r with
 |nil=>exact .nil
 | @cons p q T i h t L =>
  let Y O:=h;rw[Oz,Oz];by_cases e:p.1=k
  .let a:¬ decide (p.1≠k)=i0:=by simp[e]
   let b:¬ decide (q.1≠k)=i0:=by simp!
   rw[Rx a,Rx b];exact L
  .let N:¬ q.1=k:=λz=>e (Y.Q z)
   let a:decide (p.1≠k)=i0:=by simp[e]
   let b:decide (q.1≠k)=i0:=by simp[N]
   rw[Rw a,Rw b];exact .cons ⟨Y,O⟩ L
theorem KV.length{kvs:E (κ×V)}{vs:E (κ×eK)}(r:KV kvs vs):kvs.L=vs.L:=Paired.length r
theorem Hd(kvs:E (κ×V))(k:κ):(oz kvs k).L<=kvs.L:=M7 _ _
end
def vN{k:Key}(r:RelV (kV k) u):(bx P w).is k u=i0:=by
 cases k with
 |inl i=>obtain⟨t,e⟩:=(show ∃ t,u=eK.int i t from r);subst e;exact yy P w i t
 |inr x=>obtain⟨t,e⟩:=(show ∃ t,u=eK.str x t from r);subst e;exact yx P w x t
theorem vQ{P:fI}{w:hx}:∀{ks:E Key}{us:E eK},Vals (ks.h kV) us->ItemsAre (bx P w) ks us
 |[],_,r=>by rw[List.map_nil]at r;cases r;exact .nil
 |k::ks,_,r=>by
  rw[LR]at r
  cases r with
  |cons h t=>exact .cons (vN h) (vQ t)
abbrev KT(H:Hp):E (E Key×V)->E (E Key×eN×eK)->Prop:=Paired λp q=>p.1=q.1/\H q.2.1=Z (.tup (p.1.h kV))/\RelV p.2 q.2.2
def KT.val{kvs:E (E Key×V)}{xs:E (E Key×eN×eK)}(r:KT H kvs xs)(k:E Key):RelO (valV kvs k) ((atKey xs k).h (·.2)):=by
 induction r with
 |nil=>exact True.intro
 | @cons p q T i h t L =>
  let Y _ O:=h;by_cases e:p.1=k
  .let N:q.1=k:=Y.Y.Q e
   let b:atKey (q::i) k=Z q.2:=by simp[atKey,NG,N]
   rw[bE e,b];exact O
  .let N:¬ q.1=k:=λz=>e (Y.Q z)
   let b:atKey (q::i) k=atKey i k:=by simp[atKey,NG,N]
   rw[bF e,b];exact L
def KT.repl{kvs:E (E Key×V)}{xs:E (E Key×eN×eK)}(r:KT H kvs xs)(k:E Key)(c:RelV y u):
  KT H (kvs.h λkv=>if kv.1=k then(kv.1,y) else kv) (xs.h (putAt k u)):=by
 induction r with
 |nil=>exact .nil
 | @cons p q T i h t L =>
  rw[LR,LR];refine .cons ?_ L;let Y O ef:=h;unfold putAt;by_cases e:p.1=k
  .rw[Rw e,Rw (Y.Y.Q e)];erw[Y,O,c]
  .rw[Rx e,Rx (λz=>e (Y.Q z))];erw[Y,O,ef]
def KT.put{kvs:E (E Key×V)}{xs:E (E Key×eN×eK)}(r:KT H kvs xs)(k:E Key){b:eN}(M:H b=Z (.tup (k.h kV)))(c:RelV y u):
  KT H (putK kvs k y) (storedH xs k b u):=by
 let e:(kvs.any λw=>decide (w.1=k))=(atKey xs k).isSome:=by
  rw[gN,(r.val k).isSome_eq,O1]
 unfold putK storedH;rw[e];by_cases q:(atKey xs k).isSome=i0
 .rw[Rw q,Rw q];exact r.repl k c
 .rw[Rx q,Rx q];exact Paired.snoc r ⟨U,M,c⟩
theorem KT.keeps{kvs:E (E Key×V)}{xs:E (E Key×eN×eK)}(r:KT H kvs xs)(u:∀ b ys,H b=Z (.tup ys)->H' b=Z (.tup ys)):KT H' kvs xs :=
 Paired.mapP r λ_ _ z=>⟨z.1,u _ _ z.2.1,z.2.2⟩
theorem rd_of{u:HO}(ok:HOk P w H h)(e:Rd H a u):bu P w H h a u:=e.ok ok
theorem y8(ok:HOk P w H h)(e:Rd H a (.dK kvs)):kvs.L<=P7/\(a == sysModules)=j5/\∃ vs,KV kvs vs/\h.DictOf (bx P w) a vs :=
 show bu P w H h a (.dK kvs) from rd_of ok e
theorem wq(ok:HOk P w H h)(e:H a=Z (.dK kvs)):kvs.L<=P7/\(a == sysModules)=j5/\∃ vs,KV kvs vs/\h.DictOf (bx P w) a vs:=y8 ok (.inl e)
def rB{ks:E Key}(ok:HOk P w H h)(e:H a=Z (.tup (ks.h kV))):(tupleKind (bx P w)).is h ks a:=by
 let _ J r o Y O n ef:=(show bu P w H h a (.tup (ks.h kV)) from ok a _ e);erw[o,J.toArray,n,Y,O,ef,by simpa using vQ r]
def yY{kvs:E (E Key×V)}(ok:HOk P w H h)(e:Rd H a (.dT kvs)):kvs.L<=P7/\(a == sysModules)=j5 /\
  ∃ xs,KT H kvs xs/\h.DictOfH (tupleKind (bx P w)) a xs:=by
 let z y xs r o M f Y O ef g I:=(show bu P w H h a (.dT kvs) from rd_of ok e);erw[z,y,xs,r,o,M,f,Y,O,ef,g,λx J=>?_,I];let all:∀{l:E (E Key×V)}{m:E (E Key×eN×eK)},KT H l m->∀ x∈m,(tupleKind (bx P w)).is h x.1 x.2.1:=by
  intro l m q;induction q with
  |nil=>simp
  | @cons p q T i d t L =>
   intro x J;obtain e|J:=Lw.mp J
   .subst e;exact rB ok (by simp!)
   .exact L x J
 exact all r x J
theorem dt_of{kvs:E (E Key×V)}(ok:HOk P w H h)(e:H a=Z (.dT kvs)):kvs.L<=P7/\(a == sysModules)=j5 /\
  ∃ xs,KT H kvs xs/\h.DictOfH (tupleKind (bx P w)) a xs:=yY ok (.inl e)
def DGet(H:Hp)(a:eN)(y:V)(r:ii V):Prop :=
 (∃ N k,Rd H a (.dK N)/\y=kV k/\r=valV N k)∨∃ N k b,Rd H a (.dT N)/\y=.ref b/\H b=Z (.tup (k.h kV))/\r=valV N k
def DPut(H:Hp)(a:eN)(y v:V)(H':Hp):Prop :=
 (∃ N k,H a=Z (.dK N)/\y=kV k/\N.L<P7/\H'=upd H a (.dK (putK N k v))) ∨
 ∃ N k b,H a=Z (.dT N)/\y=.ref b/\H b=Z (.tup (k.h kV))/\N.L<P7/\H'=upd H a (.dT (putK N k v))
theorem DGet.k{H:Hp}{a:eN}{kvs:E (Key×V)}{k:Key}(e:H a=Z (.dK kvs)):DGet H a (kV k) (valV kvs k):=.inl ⟨kvs,k,.inl e,U,U⟩
theorem DPut.k{H:Hp}{a:eN}{kvs:E (Key×V)}{k:Key}{v:V}(e:H a=Z (.dK kvs))(hl:kvs.L<P7):DPut H a (kV k) v (upd H a (.dK (putK kvs k v))):=.inl ⟨kvs,k,e,U,hl,U⟩
section
variable{X:Cx}{pins:E (eN×hb)}{σ:St}{H:Hp}{s:e9}{a:eN}{y v:V}{u r:eK}{o:ii V}{A:Around}{ef:eK->e9->Prop}
def Inv.big(I:Inv X pins σ H s):sysModules<s.H.M.J:=by
 let h:P9<s.H.M.J:=(I.mod.glob.keeps I.bk).lt;exact Ni ∅ h
def EL(eg:A.units+1<cLine)(I:mi σ H s)(g:DGet H a y (Z v))(c:RelV y u)(h:∀ w' s',mi σ H s'->RelV v w'->Q w' s'):
  wpAny (model X.e X.w) A (getItem (.ref a) u) Q ef s:=by
 rcases g with⟨N,k,e,j,l⟩|⟨N,k,b,e,j,t,l⟩
 .subst j;let z hd n rel T:=y8 I.hok e;let w' x M:=RelO.some_of (v:=v) (o:=valueAt n k) (by rw[l];exact rel.val k)
  exact wpAny_getItem_of (vN c) T.mapOf x (h w' _ (I.tok _) M)
 .subst j
  cases (show u=eK.ref b from c)
  let z hd D rel T:=yY I.hok e;let w' x M:=RelO.some_of (v:=v) (o:=(atKey D k).h (·.2)) (by rw[l];exact rel.val k)
  let p Y d:=LC.mp x;refine wpAny_getItem_heap (tupleKind_room_in1 eg) (rB I.hok t) T Y ?_;rw[d];exact h w' _ (I.tok _) M
def d_in(eg:A.units+1<cLine)(I:mi σ H s)(g:DGet H a y o)(c:RelV y u)(h:∀ s',mi σ H s'->Q (.bool o.isSome) s'):
  wpAny (model X.e X.w) A (Qf .In u (.ref a)) Q ef s:=by
 rcases g with⟨N,k,e,j,l⟩|⟨N,k,b,e,j,t,l⟩
 .subst j;let z hd n rel T:=y8 I.hok e;refine wpAny_in_of (vN c) hd T.mapOf ?_;rw[← (rel.val k).isSome_eq,← l];exact h _ (I.tok _)
 .subst j
  cases (show u=eK.ref b from c)
  let z hd D rel T:=yY I.hok e;refine wpAny_in_heap (tupleKind_room_in1 eg) (rB I.hok t) hd T ?_;let q:=(rel.val k).isSome_eq;rw[O1]at q;rw[← q,← l];exact h _ (I.tok _)
def K5(eg:A.units+1<cLine)(I:mi σ H s)(g:DGet H a y o)(c:RelV y u)(h:∀ s',mi σ H s'->Q (.bool (!o.isSome)) s'):
  wpAny (model X.e X.w) A (Qf .NotIn u (.ref a)) Q ef s:=by
 rcases g with⟨N,k,e,j,l⟩|⟨N,k,b,e,j,t,l⟩
 .subst j;let z hd n rel T:=y8 I.hok e;refine wpAny_notIn_of (vN c) hd T.mapOf ?_;rw[← (rel.val k).isSome_eq,← l];exact h _ (I.tok _)
 .subst j
  cases (show u=eK.ref b from c)
  let z hd D rel T:=yY I.hok e;refine wpAny_notIn_heap (tupleKind_room_in1 eg) (rB I.hok t) hd T ?_;let q:=(rel.val k).isSome_eq;rw[O1]at q;rw[← q,← l];exact h _ (I.tok _)
theorem uD{ob:HO}(I:mi σ H s)(g:Mut (H a))(hs:Qc a s.H h')(eg:∃ q,h'.R a=Z q)(new:bu X.e X.w (upd H a ob) h' a ob):
  mi σ (upd H a ob) {s with heap:=h',toks:=t'} :=
 I.write (x:=a) (e:=a) g (.inl U) (λb q M z=>(hs.2 b M).Q z) eg new
theorem Ey{vs:E (Key×eK)}(z:kvs.L<=P7)(hd:(a == sysModules)=j5)(rel:KV kvs vs)(dd:h'.DictOf (bx P w) a vs):
  bu P w H' h' a (.dK kvs):=⟨z,hd,vs,rel,dd⟩
def EE{Q:Unit->e9->Prop}(t:A.units+1<cLine)(I:mi σ H s)(g:DPut H a y v H')(J:RelV y u)(rv:RelV v r)(h:∀ s',mi σ H' s'->Q () s'):
  wpAny (model X.e X.w) A (setItem (.ref a) u r) Q ef s:=by
 rcases g with⟨N,k,e,x,l,eH⟩|⟨N,k,b,e,x,i,l,eH⟩
 .subst x eH;let z hd n rel T:=wq I.hok e;let d:n.L<=P7:=by rw[← rel.L];exact z
  let C:(putK N k v).L<=P7:=by let:=fE N k v;lia
  refine wpAny_setItem_pairs (hsz:=d) (vN J) T λp aa f=>h _ ?_;let eg:∃ q,p.R a=Z q:=let ⟨q,_,_,Y,_⟩:=aa;⟨q,Y⟩;exact uD I (by rw[e];exact True.intro) f eg (Ey C hd (rel.put k rv) aa)
 .subst x eH
  cases (show u=eK.ref b from J)
  let z hd D rel T:=dt_of I.hok e;let d:D.L<=P7:=by rw[← Paired.length rel];exact z
  let C:(putK N k v).L<=P7:=by let:=fE N k v;lia
  refine wpAny_setItem_heap (hsz:=d) (tupleKind_room_in1 t) (rB I.hok i) T λp aa f=>h _ ?_;let q M L Y O B m _ o:=aa;refine uD I (by rw[e];exact True.intro) f ⟨q,Y⟩ ⟨C,hd,_,(rel.put k i rv).keeps λc j ec=>?_,q,M,L,Y,O,B,m,o⟩
  rw[ao (A6 ec e (λz=>nomatch z))];exact ec
end
section
variable{X:Cx}{pins:E (eN×hb)}{σ:St}{H:Hp}{s:e9}{a:eN}{kvs:E (Key×V)}{k:Key}{u:eK}{A:Around}{ef:eK->e9->Prop}
def d_pop{more:E eK}(I:mi σ H s)(e:H a=Z (.dK kvs))(c:RelV (kV k) u)(l:valV kvs k=Z v)(C:more=[]∨∃ x,more=[x])(h:∀ w' s',mi σ (upd H a (.dK (oz kvs k))) s'->RelV v w'->Q w' s'):wpAny (model X.e X.w) A (call (.builtin "dict.pop") (.ref a::u::more)) Q ef s:=by
 let z hd n rel T:=wq I.hok e;let w' y M:=RelO.some_of (v:=v) (o:=valueAt n k) (by rw[← l];exact rel.val k)
 let Y:(keyPart u).isSome=i0:=by
  cases k with
  |inl i=>obtain⟨t,q⟩:=(show ∃ t,u=eK.int i t from c);subst q;rfl
  |inr x=>obtain⟨t,q⟩:=(show ∃ t,u=eK.str x t from c);subst q;rfl
 let J:argsOk "dict.pop" ⟨.ref a::u::more,[]⟩:=by
  obtain q|⟨x,q⟩:=C
  .subst q;exact PySem.F.args_dict_pop_2 _ _
  .subst q;exact PySem.F.args_dict_pop_3 _ _ _
 refine call_meetsIn PySem.F.slot_dict_pop T.typeIs PySem.F.entry_dict_pop J (meets_dict_pop_there (bx X.e X.w) a (vN c) more C Y)
  ⟨n,w',T,by rw[← rel.L];exact z,y,λp r f=>h w' _ ?_ M⟩
 let eg:∃ q,p.R a=Z q:=let ⟨q,_,_,d,_⟩:=r;⟨q,d⟩;exact uD I (by rw[e];exact True.intro) f eg (Ey (Mi (Hd kvs k) z) hd (rel.drop k) r)
end
def NoSl(i:fm):Prop:=∀ N n,subscripted i j5 N n=operate [N,n] (getItem N n)
def Jw{a:fm}{T id:String}(hl:typeLookup (.type T) "__getitem__"=pure (Z (.builtin id)))(hs:NoSl a)(h:lf A (eval e env) (λo s₁=>lf A (eval a env) (λi s₂=>s₂.TypeIs o T/\lf A (getItem o i) Q ef s₂) ef s₁) ef s):
  lf A (eval (.Subscript e a pos) env) Q ef s:=by
 refine Subscript_ (Qe h (λo s₁ L=>Qe L (λi s₂ H=>?_) λ_ _ x=>x) λ_ _ x=>x);let l H:=H;unfold subscriptTail;refine Qi ?_;rw[getitemInPython_of_ne l.not_modules];refine Qi (QH l hl ?_);let N:lf A (subscripted a j5 o i) (λr b=>lf A (letTemporaryGo e o r >>= λ_=>pure r) Q ef b) ef s₂:=by
  rw[hs o i];exact wpAny_operating (Qe H (λr b d=>Qi (wpAny_letTemporaryGo (Ql d))) λ_ _ x=>x)
 first
  |exact Ql (Qi N)
  |exact Qi (Ql (Qi N))
  |exact Qi N
def y9{o:ii V}(I:Inv X O L H s)(g:DGet H a y o):s.TypeIs (.ref a) "dict":=by
 rcases g with⟨N,k,e,_,_⟩|⟨N,k,b,e,_,_,_⟩
 .let _ _ n _ T:=y8 I.hok e;exact T.typeIs
 .let _ _ D _ T:=yY I.hok e;exact T.typeIs
def tDGet(b ty:TE):TE:=λL H Q=>b L H λx l=>ty L l λy O=>∃ a v,x=.ref a/\DGet O a y (Z v)/\Q v O
def tDIn(ty b:TE):TE:=λL H Q=>ty L H λy l=>b L l λx O=>∃ a o,x=.ref a/\DGet O a y o/\Q (.bl o.isSome) O
def Ju(ty b:TE):TE:=λL H Q=>ty L H λy l=>b L l λx O=>∃ a o,x=.ref a/\DGet O a y o/\Q (.bl (!o.isSome)) O
def sDPut(b ty e:TE):TS:=λD L H=>e L H λv l=>b L l λx O=>ty L O λy j=>∃ a c,x=.ref a/\DPut j a y v c/\D.nx L c
section
variable{X:Cx}{o i e value:fm}{pos pos' tpos:Pos}{td ty tv:TE}
def ib(eg:X.A.units+1<cLine)(D:PE X o td)(hi:PE X i ty)(hs:NoSl i):PE X (.Subscript o i pos) (tDGet td ty):=by
 intro B s L H Q I h;refine Jw PySem.F.slot_dict_getitem.lookup hs (thn (D B s L H _ I h) λu m ⟨x,l,f,T,ef⟩=>thn (hi B m L l _ f ef) λn k ⟨y,O,z,c,a,v,b,g,p⟩=>?_);subst b;obtain rfl:u=eK.ref a:=T;erw[y9 z g,EL eg z g c λq d w M=>⟨v,O,w,M,p⟩]
def pc_din(eg:X.A.units+1<cLine)(hi:PE X i ty)(D:PE X o td):PC X .In i o (tDIn ty td):=by
 intro B s L H Q I h;refine thn (hi B s L H _ I h) λn m ⟨y,l,f,c,ef⟩=>thn (D B m L l _ f ef) λu k C=>?_;let x O z T a N b g p:=C;subst b;obtain rfl:u=eK.ref a:=T;exact d_in eg z g c λd w=>⟨.bl N.isSome,O,w,U,p⟩
def pN(eg:X.A.units+1<cLine)(hi:PE X i ty)(D:PE X o td):PC X .NotIn i o (Ju ty td):=by
 intro B s L H Q I h;refine thn (hi B s L H _ I h) λn m ⟨y,l,f,c,ef⟩=>thn (D B m L l _ f ef) λu k C=>?_;let x O z T a ov b g p:=C;subst b;obtain rfl:u=eK.ref a:=T;exact K5 eg z g c λd w=>⟨.bl (!ov.isSome),O,w,U,p⟩
def gm(eg:X.A.units+1<cLine)(N:PE X o td)(hi:PE X i ty)(hv:PE X value tv)(hs:swapsWith value (Z (.Subscript o i pos')) pos.line X.i=pure j5):
  PS X (.Assign [.Subscript o i pos'] value pos) (sDPut td ty tv):=by
 intro B s L H D I h;refine wpAny_Assign_Subscript (thn (hv B s L H _ I h) λr m ⟨v,l,f,rv,ef⟩=>thn (N B m L l _ f ef) λu k ⟨x,O,z,T,p⟩=>thn (hi B k L O _ z p) λn d ⟨y,j,w,J,a,c,b,g,t⟩=>?_) hs;subst b;obtain rfl:u=eK.ref a:=T;exact EE eg w g J rv λq e=>⟨L,c,e,t⟩
end
theorem AK(h:fc)(M:sysModules<h.M.J):bu P w H (h.o {cls:=.type "dict",data:=.dict #[]}) h.M.J (.dK []) :=
 ⟨LU _,beq_eq_false_iff_ne.mpr (Ne.Y (LJ M)),[],.nil,fc.DictOf.new h⟩
def tDNewK:TE:=λ_ H Q=>∀ p,H p=kf->Q (.ref p) (upd H p (.dK []))
theorem fO:PE X (.Dict [] [] pos) tDNewK:=λB s L H Q I h =>
 wpAny_Dict_empty ⟨.ref s.H.M.J,_,I.laid (a:=s.H.M.J) (o:=.dK []) (t':=s.v) (λ_ _ q=>Qm _ q) (Lo _) (AK s.H I.big),U,h _ (I.hok.fresh (Lo _))⟩
def B9:E (TE×TE)->St->Hp->(E (V×V)->Hp->Prop)->Prop
 |[],_,H,Q=>Q [] H
 | (D,e)::r,L,H,Q=>D L H λx l=>e L l λy O=>B9 r L O λT j=>Q ((x,y)::T) j
abbrev VV:E (V×V)->E (eK×eK)->Prop:=Paired λp q=>RelV p.1 q.1/\RelV p.2 q.2
def PPs(X:Cx)(pos:Pos)(l:E (ii fm))(j:E fm)(C:E (TE×TE)):Prop :=
 ∀(B:E (eN×hb))(s:e9)(L:St)(H:Hp)(Q:E (V×V)->Hp->Prop),mu H s->B9 C L H Q ->
  li (evalPairs (pairTrees l j X.i pos)) (λn k=>∃ T eg,mu eg k/\VV T n/\Q T eg) X.xe s
theorem sW:PPs X pos [] [] []:=λB s L H Q I h=>pairTrees_nil_walk ⟨[],H,I,.nil,h⟩
theorem oP{k v:fm}{ks:E (ii fm)}{vs:E fm}{tk:TE}{C:E (TE×TE)}(g:PE X k tk)(hv:PE X v Y)(N:PPs X pos ks vs C):
  PPs X pos (Z k::ks) (v::vs) ((tk,Y)::C):=λB s L H Q I h =>
 pairTrees_cons_walk (thn (g B s L H _ I h) λu m ⟨x,l,i,T,ef⟩=>thn (hv B m L l _ i ef) λA r ⟨y,O,z,c,p⟩ =>
  thn (N B r L O _ z p) λJ d ⟨eg,j,w,rel,t⟩=>⟨(x,y)::eg,j,w,.cons ⟨T,c⟩ rel,t⟩)
def eE(kvs more:E (Key×V)):E (Key×V):=more.foldl (λm w=>putK m w.1 w.2) kvs
def KV.merge:∀{more:E (Key×V)}{rs:E (Key×eK)}{kvs:E (Key×V)}{vs:E (Key×eK)},KV more rs->KV kvs vs->KV (eE kvs more) (merged vs rs):=by
 intro more rs kvs vs r;unfold KV at r;induction r generalizing kvs vs with
 |nil=>intro q;exact q
 | @cons p q T i h t L =>
  intro n;let e:KV (putK kvs p.1 p.2) (stored vs q.1 q.2):=by
   let:=n.put p.1 h.2;rw[← h.1];exact this
  exact L e
theorem mF:∀(more kvs:E (Key×V)),(eE kvs more).L<=kvs.L+more.L
 |[],kvs=>by show kvs.L<=kvs.L+0;lia
 |p::r,kvs=>by
  let Y:=mF r (putK kvs p.1 p.2);let O:=fE kvs p.1 p.2;show(eE (putK kvs p.1 p.2) r).L<=_;rw[My];lia
theorem rH{P:fI}{w:hx}:∀{kvs:E (Key×V)}{ws:E (eK×eK)},VV (kvs.h λkv=>(kV kv.1,kv.2)) ws->∃ rs,Carries (bx P w) ws rs/\KV kvs rs
 |[],_,r=>by rw[List.map_nil]at r;cases r;erw[[],True.intro,.nil]
 |p::kvs,_,r=>by
  rw[LR]at r
  cases r with
  | @cons a b as bs h t =>
   let rs c q:=rH (P:=P) (w:=w) t;let b1 b2:=b;erw[(p.1,b2)::rs,⟨vN h.1,U,c⟩,.cons ⟨U,h.2⟩ q]
def tDisp(C:E (TE×TE)):TE:=λL H Q=>∀ p,H p=kf->B9 C L (upd H p (.dK [])) λT O=>O p=Z (.dK [])/\∃ N:E (Key×V),T=N.h (λw=>(kV w.1,w.2))/\N.L<=15/\Q (.ref p) (upd O p (.dK (eE [] N)))
def tG{l:E (ii fm)}{j:E fm}{C:E (TE×TE)}(h:PPs X pos l j C)(u:l.all (·.isSome)=i0)(hl:l.L=j.L)(A:l≠[])(x:l.L<=15):PE X (.Dict l j pos) (tDisp C):=by
 intro B s L H Q I q;let y:=I.hok.fresh (Lo s.H.M.J);let i:=I.laid (a:=s.H.M.J) (o:=.dK []) (h':=s.H.o {cls:=.type "dict",data:=.dict #[]}) (t':=s.v) (λ_ _ q=>Qm _ q) (Lo _) (AK s.H I.big);refine wpAny_Dict_walk (knd:=bx X.e X.w) u hl A x (thn (h B _ L _ _ i (q _ y)) λJ k ⟨T,O,m,rel,e,N,ef,v,p⟩=>?_);subst ef;let t c M:=rH (P:=X.e) (w:=X.w) rel;let z hd D n g:=wq m.hok e
 cases n
 erw[t,c,g,λh' r f=>⟨.ref s.H.M.J,_,?_,U,p⟩];let b:(eE [] N).L<=P7:=by
  let Y:=mF N [];rw[NF]at Y;rw[sizeLine_eq];lia
 let eg:∃ q,h'.R s.H.M.J=Z q:=let ⟨q,_,_,d,_⟩:=r;⟨q,d⟩;exact uD m (by rw[e];exact True.intro) f eg (Ey b hd (M.merge .nil) r)
structure M1(X:Cx)(o:fm)(m:ff)(apos:Pos)(e:fm)(cpos:Pos):Prop where
 base:attributeBase o m X.i (eval o X.i)=eval o X.i
 few:((backTo cpos (Qd [e] X.i)).all (λx=>!x.1)&&(backToKw cpos (keywordEach [] X.i)).all (λx=>x.1.isSome)
  && decide (([e]:E fm).L+([]:E Keyword).L+(if([]:E Keyword).isEmpty then 0 else 1)<30))=i0
 line:(apos.endLine == cpos.line)=i0
 trees:backTo cpos (Qd [e] X.i)=[(j5,eval e X.i)]
structure M2(X:Cx)(o:fm)(m:ff)(apos:Pos)(e f:fm)(cpos:Pos):Prop where
 base:attributeBase o m X.i (eval o X.i)=eval o X.i
 few:((backTo cpos (Qd [e,f] X.i)).all (λx=>!x.1)&&(backToKw cpos (keywordEach [] X.i)).all (λx=>x.1.isSome)
  && decide (([e,f]:E fm).L+([]:E Keyword).L+(if([]:E Keyword).isEmpty then 0 else 1)<30))=i0
 line:(apos.endLine == cpos.line)=i0
 trees:backTo cpos (Qd [e,f] X.i)=[(j5,eval e X.i),(j5,eval f X.i)]
def IsD(H:Hp)(a:eN):Prop:=(∃ N,Rd H a (.dK N))∨∃ N,Rd H a (.dT N)
def IA(I:Inv X O L H s)(d:IsD H a):
  s.TypeIs (.ref a) "dict"/\(∀ b,eK.ref a=.ref b->∃ ob,s.H.R b=Z ob/\ob.dict=kf)/\(a == sysModules)=j5:=by
 rcases d with⟨N,e⟩|⟨N,e⟩
 .let _ hd n _ T:=y8 I.hok e;erw[T.typeIs,λb q=>?_,hd]
  cases q
  let ob _ _ Y j _:=T;erw[ob,Y,j.2.1]
 .let _ hd D _ T:=yY I.hok e;erw[T.typeIs,λb q=>?_,hd]
  cases q
  let ob _ _ Y j _:=T;erw[ob,Y,j.2.1]
section
variable{X:Cx}{pins:E (eN×hb)}{σ:St}{H:Hp}{s:e9}{a:eN}{y d:V}{u r:eK}{o:ii V}{A:Around}{ef:eK->e9->Prop}
def d_get2(eg:A.units+1<cLine)(I:mi σ H s)(g:DGet H a y o)(c:RelV y u)(f:RelV d r)(h:∀ w' s',mi σ H s'->RelV (o.f d) w'->Q w' s'):
  wpAny (model X.e X.w) A (call (.builtin "dict.get") [.ref a,u,r]) Q ef s:=by
 rcases g with⟨N,k,e,j,l⟩|⟨N,k,b,e,j,t,l⟩
 .subst j;let z hd n rel T:=y8 I.hok e;refine call_meetsIn OC T.typeIs PySem.F.entry_dict_get (PZ _ _ _) (meets_dict_get_default (bx X.e X.w) a (vN c) hd r) ⟨_,T.mapOf,h _ _ (I.tok _) ?_⟩;rw[l];exact(rel.val k).f f
 .subst j
  cases (show u=eK.ref b from c)
  let z hd D rel T:=yY I.hok e;refine call_meetsIn OC T.typeIs PySem.F.entry_dict_get (PZ _ _ _) (meetsH_dict_get_default (tupleKind (bx X.e X.w)) a b hd r) ⟨tupleKind_room_in1 eg,k,D,rB I.hok t,T,h _ _ (I.tok _) ?_⟩;rw[l];exact(rel.val k).f f
end
def tDGet2(b ty g:TE):TE:=λL H Q=>b L H λx l=>∃ a,x=.ref a/\IsD l a/\ty L l λy O=>g L O λz j=>∃ o,DGet j a y o/\Q (o.f z) j
def tDPop1(b ty:TE):TE:=λL H Q=>b L H λx l=>∃ a,x=.ref a/\IsD l a/\ty L l λy O=>∃ N k v,O a=Z (.dK N)/\y=kV k/\valV N k=Z v/\Q v (upd O a (.dK (oz N k)))
section
variable{X:Cx}{o e f:fm}{apos cpos:Pos}{td ty tx:TE}
def FV(t:X.A.units+1<cLine)(D:PE X o td)(eg:PE X e ty)(q:PE X f tx)(m:M2 X o "get" apos e f cpos):PE X (.Call (.Attribute o "get" apos) [e,f] [] cpos) (tDGet2 td ty tx):=by
 intro B s L H Q I h;refine wpAny_Call_method m.base m.few m.line Nr OC PySem.F.type_dict_get (thn (D B s L H _ I h) λu r ⟨x,l,i,T,a,b,d,ef⟩=>?_);subst b;obtain rfl:u=eK.ref a:=T;let M n _:=IA i d;erw[M,n,3];rw[m.trees]
 refine QE U (Calls.evalArgs_plain (Qx (thn (eg B r L l _ i ef) λiv k ⟨y,O,v,J,p⟩ =>
  Qx (thn (q B k L O _ v p) λfv c ⟨z,j,w,rz,ov,g,C⟩=>Qw ?_))))
 exact d_get2 t w g J rz λw' N I4 Y=>⟨_,j,I4,Y,C⟩
def FU(D:PE X o td)(eg:PE X e ty)(m:M1 X o "pop" apos e cpos):PE X (.Call (.Attribute o "pop" apos) [e] [] cpos) (tDPop1 td ty):=by
 intro B s L H Q I h;refine wpAny_Call_method m.base m.few m.line Nr PySem.F.slot_dict_pop PySem.F.type_dict_pop (thn (D B s L H _ I h) λu r ⟨x,p,i,T,a,b,d,ef⟩=>?_);subst b;obtain rfl:u=eK.ref a:=T;let j n _:=IA i d;erw[j,n,3];rw[m.trees];refine QE U (Calls.evalArgs_plain (Qx (thn (eg B r L p _ i ef) λA J ⟨y,O,z,C,N,k,v,Y,g,l,M⟩=>Qw ?_)));subst g;exact d_pop z Y C l (.inl U) λq c w f=>⟨v,_,w,f,M⟩
end
section
variable{X:Cx}{pins:E (eN×hb)}{σ:St}{H:Hp}{s:e9}{a:eN}{kvs:E (Key×V)}{A:Around}{ef:eK->e9->Prop}
end
section
variable{X:Cx}{pins:E (eN×hb)}{σ:St}{H:Hp}{s:e9}{a:eN}{y:V}{u:eK}{A:Around}{ef:eK->e9->Prop}
end
section
variable{κ:Type} [DecidableEq κ]
def zS{kvs:E (κ×V)}{k:κ}(h:valV kvs k=kf):¬ k∈kvs.h (·.1):=by
 intro m;let p Y e:=LW.mp m;let q:(kvs.any λw=>decide (w.1=k))=i0:=Pg.mpr ⟨p,Y,QG e⟩;rw[gN,h]at q;simp!
theorem yr:∀{l:E κ}{k:κ},l.l->¬ k∈l->(l++[k]).l
 |[],k,_,_=>by simp
 |a::r,k,h,g=>by
  let Y O:=LV.mp h;show(a::(r++[k])).l;refine LV.mpr ⟨λm=>?_,yr O λm=>g (Lw.mpr (Or.inr m))⟩;simp!
def Kq{kvs:E (κ×V)}{k:κ}(v:V)(y:(kvs.h (·.1)).l)(h:valV kvs k=kf):((putK kvs k v).h (·.1)).l:=by
 rw[sU v h,LH];exact yr y (zS h)
def Ew{p:κ×V}{r:E (κ×V)}{k:κ}(e:p.1=k):oz (p::r) k=oz r k:=by
 unfold oz;simp[*]
def Ex{p:κ×V}{r:E (κ×V)}{k:κ}(e:¬ p.1=k):oz (p::r) k=p::oz r k:=by
 unfold oz;simp[*]
end
def clOf(env:gi)(fr:E (ff×R)):E (ff×eN):=fr.h λp=>(p.1,(env.cells.Z p.1).f 0)
def frOf(fr:E (ff×R))(L:St):St:=fr.h λp=>(L[p.2]?).join
theorem kE{env:gi}:∀{fr:E (ff×R)}{y:ff}{c:eN},(clOf env fr).Z y=Z c->y∈fr.h (·.1)/\c=(env.cells.Z y).f 0
 |[],_,_,h=>by cases h
 |p::r,y,c,h=>by
  unfold clOf at h;rw[LR,List.lookup_cons]at h
  cases e:y == p.1 with
  |true =>
   simp!
  |false =>
   rw[e]at h;let a b:=kE (env:=env) (fr:=r) h;erw[Lr _ a,b]
theorem fB{env:gi}:∀{fr:E (ff×R)}{y:ff},y∈fr.h (·.1)->(clOf env fr).Z y=Z ((env.cells.Z y).f 0)
 |[],_,h=>by cases h
 |p::r,y,h=>by
  unfold clOf;rw[LR,List.lookup_cons]
  cases e:y == p.1 with
  |true =>
   simp!
  |false =>
   let a:y≠p.1:=λz=>by simp!
   obtain z|z:=Lw.mp h
   .contradiction
   .exact fB (env:=env) (fr:=r) z
section
variable{X:Cx}{pins:E (eN×hb)}{σ:St}{H:Hp}{s:e9}{scope:hr}{fr:E (ff×R)}{x:ff}
end
def zV(p:TE)(a:St)(J:It)(H1:Hp)(QQ:E V->Hp->Prop):Prop :=
 ∃ W:R->R->E V->Hp->Prop,(∃ m,W 0 m [] H1)/\∀ i m j H,W i m j H->j.L<=P7 /\
  ((J.stop i H/\QQ j H)∨(J.go i H/\∃ N:V->Hp->Prop,(∀ y O,N y O->∃ u,u<m/\W (i+1) u (j++[y]) O)/\∀ x eg,J.yld i H x eg->p (Z x::a) eg N))
section
variable{X:Cx}{scope:hr}{fr:E (ff×R)}{x:ff}{elt iter:fm}{px pos:Pos}{te:TE}{wi:TI}
end
def EY(Pv:R->E V->Hp->Prop)(hz:xs.L<=P7)(A:Pv 0 [] H1)(hl:∀ i ys H,i<=xs.L->Pv i ys H->nv a xs)
  (hs:∀ i x ys H,xs[i]?=Z x->Pv i ys H->Y (Z x::L) H λy H2=>Pv (i+1) (ys++[y]) H2) (hd:∀ ys H,ys.L=xs.L->Pv xs.L ys H->QQ ys H)
  : zV Y L (Itl K a) H1 QQ:=by
 erw[λi m ys H=>m=xs.L-i/\i<=xs.L/\ys.L=i/\Pv i ys H,⟨xs.L,by simp,LU _,U,A⟩,3]
 rintro i m ys H ⟨rfl,B,Q,p⟩;let q:=hl i ys H B p;erw[16]
 by_cases j:i<xs.L
 .refine .inr ⟨⟨xs,xs[i],q,by simp⟩,λy H2=>Pv (i+1) (ys++[y]) H2,λy H2 v=>⟨xs.L-(i+1),∅,U,j,by simp[*],v⟩,λx eg y=>?_⟩
  let e y:=y;subst e;exact hs i x ys _ (y xs q) p
 .let e:i=xs.L:=by lia
  subst e;exact .inl ⟨⟨xs,q,Lo _⟩,hd ys H Q p⟩
def BL{lo:G}(Pv:R->E V->Hp->Prop)(hz:n<=P7)(A:Pv 0 [] H1)
  (hs:∀ i ys H,i<n->Pv i ys H->Y (Z (.int (lo+i))::L) H λy H2=>Pv (i+1) (ys++[y]) H2) (hd:∀ ys H,ys.L=n->Pv n ys H->QQ ys H)
  : zV Y L (Itr lo n) H1 QQ:=by
 erw[λi m ys H=>m=n-i/\i<=n/\ys.L=i/\Pv i ys H,⟨n,by simp,LU _,U,A⟩,3]
 rintro i m ys H ⟨rfl,B,Q,p⟩;erw[16]
 by_cases j:i<n
 .refine .inr ⟨j,λy H2=>Pv (i+1) (ys++[y]) H2,λy H2 v=>⟨n-(i+1),∅,U,j,by simp[*],v⟩,λx eg y=>?_⟩
  let e y:=y;subst e y;exact hs i ys _ j p
 .let e:i=n:=by lia
  subst e;exact .inl ⟨Lo _,hd ys H Q p⟩
def E5:Qa "int"=Z (.type "int"):=by rfl
def Ld:Qa "bool"=Z (.type "bool"):=by rfl
def jL:Qa "list"=Z (.type "list"):=by rfl
def cq:Qa "len"=Z (.builtin "len"):=by rfl
def iH:Qa "isinstance"=Z (.builtin "isinstance"):=by rfl
def jK:Qa "sorted"=Z (.builtin "sorted"):=by rfl
def qD:Qa "reversed"=Z (.type "reversed"):=by rfl
def wZ:Qa "enumerate"=Z (.type "enumerate"):=by rfl
structure Cal(P:fI)(w:hx)(K:Ln)(mg:ff->ii eK)(base:fc)(k:R)(x:ff)(ps:E ff)(sp:Sp)(f:eN)(fd:fk):Prop where
 ok:kt k f fd ps sp
 bn:dY K fd ps []
 mg:mg x=Z (.ref f)
 kp:L9 K (.ref f)=i0
structure Mak(P:fI)(w:hx)(K:Ln)(mg:ff->ii eK)(base:fc)(k:R)(x:ff)(ps:E ff)(sp:Sp)(C f:eN)(fd:fk):Prop where
 mkc:Mk K C f
 ok:kt k f fd ps sp
 bn:dY K fd ps []
 mg:mg x=Z (.ref C)
structure Met(P:fI)(w:hx)(K:Ln)(mg:ff->ii eK)(base:fc)(k:R)(C:eN)(m:ff)(ps:E ff)(sp:Sp)(f:eN)(fd:fk):Prop where
 me:Meth K C m f
 ok:kt k f fd ps sp
 bn:dY K fd ps []
theorem x8{a:E fo}{t t2:TS}(h:PSs X a t)(i:∀ D L H,t2 D L H->t D L H):PSs X a t2:=λB s L H D I q=>h B s L H D I (i D L H q)
inductive rIsi(K:Ln)(xs:E V)(H:L2.Hp)(Q:L2.VK):Prop
 |mk (x c t b u:_) (_:xs=[x,c])(_:TyOf K H x t)(_:((∃ n,c=.ty n/\u=eK.type n)∨∃ a,c=.ref a/\u=eK.ref a))(_:Oj K t u=Z b)(_:Q (.bl b) H)
def uP:iJ X (.builtin "isinstance") (rIsi X.K):=by
 intro B s L H D j Q I r h;let x c t b u rfl ty eg e q:=h;let f d rfl g T:=Ji r;let A:d=u:=by
  rcases eg with⟨n,rfl,rfl⟩|⟨a,rfl,rfl⟩
  .exact T
  .exact T
 subst A;exact DS I g ty e λl=>⟨.bl b,H,I.tok l,U,q⟩
def kit_ii(K:Ln):Oj K (.type "int") (.type "int")=Z i0:=by with_unfolding_all rfl
def kit_ib(K:Ln):Oj K (.type "int") (.type "bool")=Z j5:=by with_unfolding_all rfl
def kit_ll(K:Ln):Oj K (.type "list") (.type "list")=Z i0:=by with_unfolding_all rfl
inductive RdD(K:Ln)(H:Hp):V->ge->Prop where
 |non:RdD K H .non .none
 |bl (b:im):RdD K H (.bl b) (.bool b)
 |int (i:G):RdD K H (.int i) (.int i)
 |lst {a:eN} {xs:E V} {ds:E ge} (h:nv a xs) (hl:xs.L=ds.L) (r:∀(i:R)(x:V)(d:ge),xs[i]?=Z x->ds[i]?=Z d->RdD K H x d):RdD K H (.ref a) (.list ds)
 |tup {a:eN} {xs:E V} {ds:E ge} (h:SqT K H a xs) (hl:xs.L=ds.L) (r:∀(i:R)(x:V)(d:ge),xs[i]?=Z x->ds[i]?=Z d->RdD K H x d):RdD K H (.ref a) (.tuple ds)
theorem kR{h:fc}:∀{xs:E V}{us:E eK}{ds:E ge},Vals xs us->xs.L=ds.L->(∀(i:R) x d,xs[i]?=Z x->ds[i]?=Z d->∀ u,RelV x u->∃ as,Reads h u d as)->∃ as,ReadsAll h us ds as
 |_,_,[],.nil,_,_=>⟨_,.nil⟩
 |_,_,_::_,.nil,e,_=>by cases e
 |_,_,[],.cons _ _,e,_=>by cases e
 |_,_,d::ds,.cons r c,e,k=>by
  let T ef:=k 0 _ d U U _ r;let n p:=kR c (OD e) λi x b f A=>k (i+1) x b f A;erw[_,.cons ef p]
def RdD.reads(I:Inv X O L H s){x:V}{d:ge}(r:RdD X.K H x d):∀ u,RelV x u->∃ as,Reads s.H u d as:=by
 induction r with
 |non=>intro u eg;cases eg;erw[_,.none]
 |bl b=>intro u eg;cases eg;erw[_,.bool b]
 |int i=>intro u eg;let t rfl:=eg;erw[_,.int i t]
 |lst h C r ef =>
  intro u eg
  cases eg
  let J rv p _:=I.list h;let as q:=kR (h:=s.H) rv C ef;let o n e c _ d:=p;erw[_,.list e c d (by simpa using q)]
 |tup h C r ef =>
  intro u eg
  cases eg
  let J rv p _:=I.tuple h;let as q:=kR (h:=s.H) rv C ef;let o e c n d:=p;erw[_,.tuple e c d (by simpa using q)]
inductive rSame(b:im)(K:Ln)(x:L2.V)(y:L2.V)(H:L2.Hp)(Q:L2.VK):Prop
 |mk (d:_) (_:RdD K H x d)(_:RdD K H y d)(_:SeqAt.shaped d=i0)(_:Q (.bl b) H)
def op_neD(eg:X.A.units+64<cLine):OpR X (Qf .NotEq) (rSame j5 X.K):=by
 intro B s L H x y v u Q I T c h;let d g a f q:=h;let as ef:=g.reads I v T;let bs p:=a.reads I u c;refine ne_dataH ef p f f eg ?_;rw[SeqAt.eqv_refl d (SeqAt.canLay_of_shaped f)];erw[.bl j5,H,I,U,q]
section
variable{X:Cx}{tg:fm}
end
section
variable{P:fI}{w:hx}{H:Hp}{h:fc}{a:eN}{o:HO}
def bu.get(x:bu P w H h a o):∃ ob,h.R a=Z ob:=by
 cases o with
 |lst D=>obtain⟨_,_,_,_,e⟩:=x;erw[_,e]
 |tup D=>obtain⟨_,_,_,ob,e,_⟩:=x;erw[_,e]
 |dK N=>obtain⟨_,_,_,_,o,_,_,e,_⟩:=x;erw[_,e]
 |dT N=>obtain⟨_,_,_,_,o,_,_,e,_⟩:=x;erw[_,e]
 |set S n=>obtain⟨o,_,_,_,e,_⟩:=x;erw[_,e]
 |ins C j fs=>obtain⟨_,_,_,e,_⟩:=x;erw[_,e]
 |own y=>exact x
 |xd fs=>obtain⟨_,⟨_,_,_,e,_⟩,_⟩:=x;erw[_,e]
 |rng lo B=>obtain⟨_,_,_,e⟩:=x;erw[_,e]
 |frz ob u=>exact⟨_,x.1⟩
 |tbl T=>exact⟨_,(show h.R a=Z _ from x)⟩
 |met f y=>exact⟨_,(show h.R a=Z _ from x)⟩
 |ext s=>exact x.2.1
def HOk.none_of(x:HOk P w H h)(e:h.R a=kf):H a=kf:=by
 cases q:H a with
 |none=>rfl
 |some u =>
  let g z:=(x a u q).get;simp!
end
structure XOk(X:Cx)(pins:E (eN×hb))(H:Hp)(b:eN):Prop where
 old:X.s₀.H.R b=kf
 trk:H b=kf
 nl:b≠X.i.locals
 nc:∀ x c,X.i.cells.Z x=Z c->c≠b
 np:∀ p∈X.pn++pins,p.1≠b
section
variable{X:Cx}{pins:E (eN×hb)}{σ:St}{H H':Hp}{s s':e9}{b:eN}
def Inv.xok(I:Inv X pins σ H s)(J:X.ex=[])(e:s.H.R b=kf)(n:H' b=kf):XOk X pins H' b:=by
 erw[3,n,λz=>?_,λx c q z=>?_,λp Y z=>?_]
 .cases q:X.s₀.H.R b with
  |none=>rfl
  |some o =>
   let j N:=I.base.there b o q (by simp[*])
   simp!
 .let m{o _ _ D _}_:=I.loc;simp!
 .let v o D _:=I.cell x c q;simp!
 .let:=(I.pin p Y).1
  simp!
def Inv.xstep(I:Inv X pins σ H s)(g:∀ b∈ch,XOk X pins H b)(keep:∀ b o,s.H.R b=Z o->b∉ch->b∉frs X.stack->h'.R b=Z o)(slot:∀ b o,s.H.R b=Z o->b∉ch->b∈frs X.stack->∃ sl,h'.R b=Z {o with slots:=sl}):Inv X pins σ H {s,h'}:=by
 let any:∀ b o,s.H.R b=Z o->b∉ch->∃ sl,h'.R b=Z {o with slots:=sl}:=λb o e T=>by
  by_cases M:b∈frs X.stack
  .exact slot b o e T M
  .erw[o.slots,keep b o e T M]
 let w:∀ b,b∈frs X.stack->b≠X.i.locals->b∈X.fs:=λb M n=>(Lw.mp (I.stkSub b M)).elim (λz=>Ry z n) λz=>z;let L:∀ b o,X.s₀.H.R b=Z o->b≠X.i.locals:=λb o e=>LJ (L6 (P8 e) I.ok.above);let h:∀ b o,X.s₀.H.R b=Z o->b∉ch:=λb o e M=>by
  let:=(g b M).old;rw[e]at this;contradiction
 let t:∀ x c,X.i.cells.Z x=Z c->∀ v,s.H.IsCell c v->h'.IsCell c v:=λx c e v ⟨o,D,hd⟩=>by
  let sl q:=any c o D λz=>(g c z).nc x c e U;erw[_,q,hd]
 erw[I.ok,I.os,I.bare,⟨λb o e n M J=>?_,λb o e n M J=>?_,I.base.free,λb o e J=>?_,I.base.tups,I.base.frzs,I.base.tbls⟩,3,λx c e=>?_,I.free,I.freeC,λp Y=>?_,λb u e=>?_,I.len]
 .exact keep b o (I.base.keep b o e n M J) (h b o e) λz=>M (w b z (L b o e))
 .let sl f:=I.base.slot b o e n M J;let N A:=any b _ f (h b o e);erw[N,A]
 .let j f:=I.base.there b o e J;let sl A:=any b _ f (h b o e);erw[_,A]
 .let m{o y ef D r}C:=I.loc;let sl A:=any _ o D λz=>(g _ z).nl U;erw[m,⟨_,y,ef,A,r⟩,λi x v f A B=>?_];let u r l:=C i x v f A B;erw[u,r,3];obtain l|⟨k,c,e,z⟩:=l
  .exact .inl l
  .exact .inr ⟨k,c,e,t x c e _ z⟩
 .let v z:=I.cell x c e;erw[v,t x c e v z]
 .let e n ne eg d:=I.pin p Y;erw[keep p.1 p.2 e (λz=>(g p.1 z).np p Y U) λz=>eg (w p.1 z ne),n,ne,eg,d]
 .let a:∀ c O,H c=Z O->c∉ch/\c∉frs X.stack:=λc O q=>⟨λz=>(by rw[(g c z).trk]at q;exact nomatch q),λz=>(by rw[I.stkFree c z]at q;exact nomatch q)⟩
  refine(I.hok b u e).stay (λc v T q=>?_) (λ_ q=>q) λ_ _ q=>q;obtain z|z:=T
  .rw[z]at q ⊢;exact keep b v q (a b u e).1 (a b u e).2
  .exact keep c v q (a c _ z).1 (a c _ z).2
def Inv.xtrack{o:HO}(I:Inv X pins σ H s)(f:XOk X pins H a)(new:bu X.e X.w (upd H a o) s.H a o):Inv X pins σ (upd H a o) s:=by
 let ne:∀ b u,H b=Z u->b≠a:=λb u e=>aB e f.trk;let k:∀ b u,s.H.R b=Z u->b≠a->H b=kf->upd H a o b=kf:=λb u _ n q=>by rw[ao n];exact q
 erw[I.ok,I.os,I.bare,⟨I.base.keep,I.base.slot,λb g e n J=>?_,I.base.there,λb D e=>?_,λb g D e=>?_,λb T e=>?_⟩,I.loc,I.cell,3,λx c e=>?_,λp Y=>?_,λb u e=>?_,I.len]
 .rw[ao (λz=>by rw[z,f.old]at e;cases e)]
  exact I.base.free b g e n J
 .let:=I.base.tups b D e
  rw[ao (ne _ _ this)];exact this
 .let:=I.base.frzs b g D e
  rw[ao (ne _ _ this)];exact this
 .let m q:=I.base.tbls b T e;erw[m,by rw[ao (ne _ _ q)];exact q]
 .rw[ao (Ne.Y f.nl)];exact I.free
 .rw[ao (f.nc x c e)];exact I.freeC x c e
 .let e n r:=I.pin p Y;erw[e,by rw[ao (f.np p Y)];exact n,r]
 .by_cases M:b=a
  .rw[M,af]at e
   cases e
   rw[M];exact new
  .rw[ao M]at e;exact(I.hok b u e).stay (λc v _ q=>q) (λc q=>by rw[ao (ne c _ q)];exact q) λc D q=>by rw[ao (ne c _ q)];exact q
end
def Trc(h:fc)(x:eN)(C:eK)(T:eN):Prop :=
 ∃ m n a u l,h.R x=Z m/\m.cls=C/\n[0]?=Z a/\m.data=.fields n/\n[1]?=Z (.ref T)/\T≠x/\h.R T=Z u/\u.data=.fields l/\l[3]?=Z .none
def Xnw(h:fc)(x:eN)(C:eK):Prop:=∃ m n a,h.R x=Z m/\m.cls=C/\m.data=.fields n/\n[0]?=Z a/\n[1]?=Z .none
def XA(X:Cx)(B:E (eN×hb))(H:Hp)(s:e9)(x:eN)(C:eK):Prop:=XOk X B H x/\(Xnw s.H x C∨∃ T,XOk X B H T/\Trc s.H x C T)
section
variable{X:Cx}{pins:E (eN×hb)}{σ:St}{H:Hp}{s:e9}{x:eN}{C:eK}{ef:eK->e9->Prop}
abbrev hidX(X:Cx)(h:fc)(ch:E eN):fc:=PySem.W.hideAll h (ch++frs X.stack)
theorem Inv.hidF(I:Inv X pins σ H s)(ch:E eN):s.H.FunFrames (hidX X s.H ch) X.stack :=
 PySem.W.funFrames_hide I.stack λj eg a A=>LX _ (Nz.mpr ⟨j,eg,A⟩)
theorem D2(ch:E eN)(h:fc):(hidX X h ch).StaysIn h:=λ_ _ e=>PySem.W.of_hideAll _ e
theorem mH{b:eN}(M:b∈ch):(hidX X h ch).R b=kf:=PySem.W.hideAll_none _ (Mo _ M)
def Inv.left{a:eK}(I:Inv X pins σ H s)(J:X.ex=[])(g:∀ b∈ch,XOk X pins H b)(k:(hidX X s.H ch).StaysIn h')(t:h'.TracedW (hidX X s.H ch) x C a)(u:s.H.UpToSlots h'):
  mi σ H {s,h'}/\∃ T,XOk X pins H T/\Trc h' x C T:=by
 let r:∀ b o,s.H.R b=Z o->b∈frs X.stack->∃ h,h'.R b=Z {o with slots:=h}:=λb o e M=>by
  let _ j D hd:=I.stack.mem M;rw[e]at D
  cases D
  exact u b o e hd
 erw[I.xstep g (λb o e i N=>k b o (OR _ e λz=>(LY.mp z).elim i N)) λb o e _ M=>r b o e M,3];let m n T w c eg{f A}hd Y y p l d ef:=t;erw[T,3,m,n,a,w,c,eg,f,A,hd,Y,p,l,d,ef]
 cases q:s.H.R T with
 |none=>exact I.xok J q (I.hok.none_of q)
 |some o =>
  by_cases z:T∈ch
  .exact g T z
  .by_cases Q:T∈frs X.stack
   .let _ j D O:=I.stack.mem Q;let h e:=r T o q Q;rw[l]at e
    cases e
    rw[q]at D
    cases D
    exact Ry d (O c)
   .let:=OR (ch++frs X.stack) q λv=>(LY.mp v).elim z Q
    rw[y]at this
    cases this
def Inv.leave{Q:Unit->e9->Prop}(I:Inv X pins σ H s)(J:X.ex=[])(j:X.stack=X.i::X.outer)(f:X.i.frame=Z X.i.locals)(xa:XA X pins H s x C)(h:∀ h' T,Inv X pins σ H {s,h'}->XOk X pins H x->XOk X pins H T->Trc h' x C T->Q () {s,h'}):li (leaving X.i (.ref x)) Q ef s:=by
 let k r:=xa;let z:X.A.frames=Z (X.i::X.outer):=by rw[← j];exact I.ok.frames
 rcases r with⟨m,n,a,eg,d,hd,o,Y⟩|⟨T,t,m,n,a,u,c,eg,d,o,hd,Y,q,l,i,B⟩
 .let g:∀ b∈[x],XOk X pins H b:=λb M=>by
   let e:b=x:=by simpa using M
   rw[e];exact k
  refine wpAny_leaving_firstW (base:=hidX X s.H [x]) z (j▸I.hidF [x]) f eg (D2 _ _) (mH (by simp)) hd Y o λh' L=>?_
  let D _ v O:=L;let y T t p:=I.left J g D v O;rw[d]at p;exact h h' T y k t p
 .let g:∀ b∈[x,T],XOk X pins H b:=λb M=>by
   obtain e|M:=Lw.mp M
   .rw[e];exact k
   .let e:b=T:=by simpa using M
    rw[e];exact t
  refine wpAny_leaving_nextW (base:=hidX X s.H [x,T]) z (j▸I.hidF [x,T]) f ⟨m,n,T,u,c,eg,⟨d,o⟩,hd,Y,mH (by simp),q,l,i,B⟩ (D2 _ _) (mH (by simp)) λh' L=>?_
  let D _ v O:=L;let y N aa p:=I.left J g D v O;exact h h' N y k aa p
end
section
variable{X:Cx}{k:R}{f C:eN}{fd:fk}{ps:E ff}{sp:Sp}{dvs:E V}{ds:E eK}{W:WK}{x m:ff}{p pos apos:Pos}{e o:fm}{es:E fm}{ta:TE}{t:TA}
end
@[inline] abbrev veM:E eK:=[.type "ValueError",.type "Exception",.type "BaseException",.type "object"]
abbrev ExC(K:Ln)(C:eN):Prop:=OU K C veM "ValueError.__new__"=i0
def Eo(e:ExC K C)(X:K.In h):∃ bm N nm A bs hdct sn sub ab col dd k0 k1 k2 k3 k5 mN,h.R C=Z (excClassObj nm A C N bs bm hdct sn sub ab col dd k0 k1 k2 k3 k5 "ValueError.__new__")/\h.Ns N mN/\mN "__init__"=kf/\OwnTail h veM bm/\∀ B b,N6 K C B=Z b->(eK.ref C::bm).contains B=b:=by
 let z:=e;unfold ExC OU at z;split at z
 .rename_i t u v c;split at z
  .rename_i Cx p d o J w f i y a;let s:=z;simp only[NN,beq_iff_eq,im.not_eq_true']at s;obtain⟨⟨⟨⟨⟨x,ef⟩,q⟩,j⟩,r⟩,k⟩:=s;subst x;subst ef;obtain⟨l⟩:=v;let I:l=[d,o,J,w,Z (.builtin "ValueError.__new__"),i]:=a;subst I;let nm bs D L A hd sn sub ab col del:=u;let m:D=.ref Cx::p:=y;let n:del=j5:=q;subst m n;erw[p,L,nm,A,bs,hd,sn,sub,ab,col,t,d,o,J,w,i,_,X _ _ c,.of_isNs (PySem.W.isNs_of_in X r),PySem.W.nsMap_none_of_in X r k,PySem.W.tail_of_in X j,λB b g=>?_];unfold N6 PySem.W.clsIn at g;rw[c]at g;simpa using g
  .cases z
 .cases z
section
variable{X:Cx}{pins:E (eN×hb)}{σ:St}{H:Hp}{s:e9}{x:eN}{C:eK}
def Cx.marked(X:Cx)(v:eK):Cx:={X with A:=X.A.mark (Z v),calm:=j5,xe:=λ_ _=>False}
theorem Inv.marked(I:Inv X pins σ H s)(v:eK):Inv (X.marked v) pins σ H s :=
 ⟨⟨I.ok.mod,I.ok.kind,I.ok.glob,I.ok.blt,I.ok.above,I.ok.inj,I.ok.has,I.ok.cab,λz=>(by cases z),I.ok.frames,I.ok.stk,I.ok.exf,I.ok.bs,I.ok.bsz,I.ok.noex,I.ok.exfs,I.ok.funs,I.ok.frf⟩,I.os,I.bare,I.base,I.loc,I.cell,I.free,I.freeC,I.pin,I.hok,I.len⟩
theorem Inv.unmarked{hd:X.calm=i0->X.A.handled=kf}{fr:X.A.frames=Z X.stack}{v:eK}(I:Inv (X.marked v) pins σ H s):Inv X pins σ H s :=
 ⟨⟨I.ok.mod,I.ok.kind,I.ok.glob,I.ok.blt,I.ok.above,I.ok.inj,I.ok.has,I.ok.cab,hd,fr,I.ok.stk,I.ok.exf,I.ok.bs,I.ok.bsz,I.ok.noex,I.ok.exfs,I.ok.funs,I.ok.frf⟩,I.os,I.bare,I.base,I.loc,I.cell,I.free,I.freeC,I.pin,I.hok,I.len⟩
end
section
variable{M:Model}{A:Around}{ef:eK->e9->Prop}{h:fc}{g:io GenState}{d:Drawn}{t:R}{os:OsState}
end
def Cx.tried(X:Cx)(B:E (eN×hb))(ef:eK->e9->Prop):Cx:={X with pn:=X.pn++B,xe:=ef}
section
variable{X:Cx}{pins pins':E (eN×hb)}{σ:St}{H:Hp}{s:e9}{ef:eK->e9->Prop}{b:eN}
theorem Inv.tried(I:Inv X pins σ H s):Inv (X.tried pins ef) [] σ H s :=
 ⟨⟨I.ok.mod,I.ok.kind,I.ok.glob,I.ok.blt,I.ok.above,I.ok.inj,I.ok.has,I.ok.cab,I.ok.hd,I.ok.frames,I.ok.stk,I.ok.exf,I.ok.bs,I.ok.bsz,I.ok.noex,I.ok.exfs,I.ok.funs,I.ok.frf⟩,I.os,I.bare,I.base,I.loc,I.cell,I.free,I.freeC,λp Y=>I.pin p (by rw[Nd]at Y;exact Y),I.hok,I.len⟩
theorem Inv.untried(I:Inv (X.tried pins ef) pins' σ H s):Inv X pins σ H s :=
 ⟨⟨I.ok.mod,I.ok.kind,I.ok.glob,I.ok.blt,I.ok.above,I.ok.inj,I.ok.has,I.ok.cab,I.ok.hd,I.ok.frames,I.ok.stk,I.ok.exf,I.ok.bs,I.ok.bsz,I.ok.noex,I.ok.exfs,I.ok.funs,I.ok.frf⟩,I.os,I.bare,I.base,I.loc,I.cell,I.free,I.freeC,λp Y=>I.pin p (Mo _ Y),I.hok,I.len⟩
theorem XOk.untried(x:XOk (X.tried pins ef) pins' H b):XOk X pins H b:=⟨x.old,x.trk,x.nl,x.nc,λp Y=>x.np p (Mo _ Y)⟩
def SP.untried{D:Ends}{f:Flow}(h:SP (X.tried pins ef) [] D f s):SP X pins D f s:=by
 cases f with
 |next=>obtain⟨p,eg,I,q⟩:=h;erw[p,eg,I.untried,q]
 |brk=>obtain⟨p,eg,I,q⟩:=h;erw[p,eg,I.untried,q]
 |cont=>obtain⟨p,eg,I,q⟩:=h;erw[p,eg,I.untried,q]
 |ret u=>obtain⟨v,p,eg,I,r,q⟩:=h;erw[v,p,eg,I.untried,r,q]
end
section
variable{X:Cx}{k:R}{f:eN}{fd:fk}{ps:E ff}{sp:Sp}{dvs:E V}{ds:E eK}{W:WK}{x:ff}{p pos:Pos}{e:fm}{es:E fm}{t:TA}
end
def DC:typeLookup (.type "list_reverseiterator") "__len__"=pure kf:=by rfl
def GD:typeLookup (.type "list_reverseiterator") "__length_hint__"=pure (Z (.builtin "list_reverseiterator.__length_hint__")):=by rfl
def GU{r:eN}{Q:im->e9->Prop}(l:s.TypeIs (.ref r) "list_reverseiterator")(h:Q j5 s):lf A (QI (.ref r)) Q ef s:=by
 unfold QI;refine Qi (QH l DC ?_);wp_delta;refine QJ (λn=>Ry n ∅) (λ_=>?_)
 refine QJ (λn=>Ry n ∅) (λ_=>?_)
 refine Qi (QH l GD ?_);generalize a:("list_reverseiterator.__length_hint__" : String)=c;wp_delta;rw[show splitId c=Z ("list_reverseiterator","__length_hint__") from by subst a;rfl]
 subst a;refine Qi (QK (T:="list_reverseiterator") (b:=i0) l (by rfl) ?_)
 refine QJ (λn=>Ry n ∅) (λ_=>?_)
 refine QJ (λ_=>?_) (λn=>Ry (by rfl) n)
 refine QJ (λn=>Ry n (by assumption)) (λ_=>?_)
 exact Ql h
def Inv.track{o:HO}(I:Inv X O L H s)(f:FpOk X O H a)(new:bu X.e X.w (upd H a o) s.H a o):Inv X O L (upd H a o) s:=by
 let Q g d x j J:=f;let ne:∀ b u,H b=Z u->b≠a:=λb u e=>aB e Q;refine I.step (g':=s.gens) (t':=s.v) (d':=s.drawn) (h':=s.H) (ch:=[a]) (λb M=>?_) (λb o _ _ _ e _=>e) (λb o _ _ _ e _=>⟨o.slots,e⟩) (λb o T e n=>?_) (λb o _ e=>⟨o,e⟩) (λb D e=>by rw[ao (ne b _ e)];exact e) (λb o u e=>by rw[ao (ne b _ e)];exact e)
  (λb eg e=>⟨#[],by rw[ao (ne b _ e),e];simp⟩) (λm C=>C) (λb u e=>?_) I.bare
 .let t:b=a:=by simpa using M
  rw[t];erw[x,g,j,J]
 .rw[ao (λz=>T (by simp[z]))]
  exact n
 .by_cases M:b=a
  .rw[M,af]at e
   cases e
   rw[M];exact new
  .rw[ao M]at e;exact(I.hok b u e).stay (λc v _ q=>q) (λc q=>by rw[ao (ne c _ q)];exact q) λc D q=>by rw[ao (ne c _ q)];exact q
theorem vM{P:fI}{w:hx}:∀{kvs:E (Key×V)}{vs:E (Key×eK)}{us:E eK},KV kvs vs->us.L=vs.L->(∀(j:R)(v:eK),us[j]?=Z v->∃ k x,vs[j]?=Z (k,x)/\(bx P w).is k v=i0)->Vals (kvs.h λq=>kV q.1) us
 |_,_,[],.nil,_,_=>.nil
 |_,_,_::_,.nil,e,_=>by cases e
 |_,_,[],.cons _ _,e,_=>by cases e
 |_,_,u::us,.cons (a:=p) (b:=q) r c,e,k=>by
  let d x f A:=k 0 u U;let l:q=(d,x):=L3 f;let g:p.1=d:=by rw[r.1,l]
  refine .cons ?_ (vM c (OD e) λj v O=>k (j+1) v O);show RelV (kV p.1) u;rw[g];rcases aY (show pU d u=i0 from A) with⟨i,t,rfl,rfl⟩|⟨z,t,rfl,rfl⟩
  .erw[t,U]
  .erw[t,U]
def Inv.turnedL(I:Inv X O L H s)(k:∀ b o,b∉fp->s.H.R b=Z o->h'.R b=Z o)(A:∀ b∈fp,FpOk X O H b):Inv X O L H {s with heap:=h',toks:=t'}:=by
 let h:∀ b u,H b=Z u->b∉fp:=λb u e z=>by rw[(A b z).1]at e;cases e
 refine I.step (g':=s.gens) (d':=s.drawn) (ch:=fp) (λb M=>?_) (λb o _ _ T e _=>k b o T e) (λb o _ _ T e _=>⟨o.slots,k b o T e⟩) (λ_ _ _ _ n=>n)
  (λb o T e=>⟨o,k b o T e⟩) (λ_ _ e=>e) (λ_ _ _ e=>e) (λb eg e=>⟨#[],by assumption⟩) (λm C=>?_) (λb u e=>?_) I.bare
 .let Q g a x j J:=A b M;erw[x,g,j,J]
 .let o y f D r:=C;erw[o,y,f,k _ o (λz=>(A _ z).2.1 U) D,r]
 .refine(I.hok b u e).stay (λc v T q=>k c v ?_ q) (λ_ q=>q) λ_ _ q=>q;obtain z|z:=T
  .rw[z];exact h b u e
  .exact h c _ z
def Ite(K:Ln)(a:eN):It :=
 ⟨λi H=>∃ D x,nv a D/\D[i]?=Z x,λi H v eg=>∃ T x,H T=kf/\v=.ref T/\eg=upd H T (.tup [.int (i:G),x])/\∀ D,nv a D->D[i]?=Z x,λi H=>∃ D,nv a D/\D.L<=i⟩
theorem B7{es:E fm}{k:R}(a e it:eN)(aS:e≠it):Turn P w K (.Tuple es k pos) (Ite K a) [e,it] e (λi h=>(∃ ab,IsEnum h e it ((i:R):G) ab)/\h.IsListIter it a i) where
 mem:=by simp
 obj:=λi h st b M=>by
  let{ab eg}o A c d:=st;obtain rfl|M:=Lw.mp M
  .erw[_,eg,λv z=>by
    contradiction]
  .let e3:b=it:=by simpa using M
   subst e3;erw[o,A,λv z=>by simp!]
 keep:=λi h h' st t=>by
  let{ab eg}aa:=st;erw[⟨ab,t e (by simp) _ eg⟩,aa.at λo q=>t it (by simp) o q]
 item:=by
  intro X hP hw hK T i B s L H ef I m st n;subst hP hw hK;let D x Y J:=n;let f rv p hz:=I.list Y;let u l ru:=rv.get J;let{ab eg}aa:=st;refine wpAny_pyNext_enum_item eg aa p.isList (x:=u) (by simpa using l) aS λh' N aT r ac g=>?_
  erw[57];refine wpAny_letOwnedTupleGo_enum N λO ap am=>?_;let al:Qc e h' O:=am;let aZ:e<s.H.M.J:=P8 eg;let aI:it<s.H.M.J:=by let _ q _:=aa;exact P8 q
  let an:H s.H.M.J=kf:=I.hok.fresh (Lo _);let I0:mu (upd H s.H.M.J (.tup [.int (i:G),x])) {s with heap:=s.H.o {cls:=.type "tuple",data:=.seq #[.int (i:G) s.v,u]},toks:=s.v+1} :=
   I.laid (t':=s.v+1) (λb u e=>Qm _ e) (Lo _) ⟨by show 2<=P7;decide,[.int (i:G) s.v,u],.cons ⟨_,U⟩ (.cons ru .nil),⟨_,Qn _ U,U,_,U⟩⟩
  let av:∀ b∈[e,it],b<s.H.M.J:=λb M=>by
   obtain rfl|M:=Lw.mp M
   .exact aZ
   .simp!
  let y:∀ b∈[e,it],upd H s.H.M.J (.tup [.int (i:G),x]) b=kf:=λb M=>by
   rw[ao (LJ (av b M))];exact(m b M).1
  let I2:mu (upd H s.H.M.J (.tup [.int (i:G),x])) {s with heap:=O,toks:=s.v+1}:=Inv.turnedL (s:={s with heap:=s.H.o {cls:=.type "tuple",data:=.seq #[.int (i:G) s.v,u]},toks:=s.v+1}) (h':=O) I0 (t':=s.v+1) (fp:=[e,it]) (λb o M q=>by
   let nb:b≠e:=λz=>M (by simp[z])
   let a0:b≠it:=λz=>M (by simp[z])
   refine(al.2 b nb).Q ?_;rcases fc.get?_push_cases q with⟨z1,z2⟩|q
   .simp!
   .exact g b o nb a0 q) λb M=>⟨y b M,(m b M).2⟩
  erw[.ref s.H.M.J,_,I2,U,⟨s.H.M.J,x,an,U,U,λj Q=>by rw[I.list_inj Q Y];exact J⟩,3,y]
  erw[⟨u,?_⟩,aT.at λo q=>(al.2 it (Ne.Y aS)).Q q];let e4:(((i+1:R):R):G)=(i:G)+1:=by lia
  rw[e4];exact ap
 done:=by
  intro X hP hw hK T i B s L H ef I m st n;subst hP hw hK;let D Y J:=n;let f rv p hz:=I.list Y;let{ab eg}aa:=st;let C:=rv.L;let f0 f1 f2 f3 f4 f5:=m it (by simp)
  exact wpAny_pyNext_enum_end (I.ok.hd T) eg aa p.isList (by simp!) λh' eb=>⟨U,I.turned (t':=s.v) (λb o M e=>eb b o M e) f0 f1 f3 f4 f5⟩
 self:=λ_ _ _ _ _ st h=>by
  let{ab eg}_:=st;exact wpAny_pyIter_enum eg h
def iEnum(K:Ln)(d:TA):TI:=λL H ad=>d L H λn l=>∃ a,n=[.ref a]/\(∃ D,SqL K l a D)/\ad (Ite K a) l
def kU{l:fm}{d:TA}{es:E fm}{k:R}{p:Pos}(O:Gl X "enumerate")(C:X.mg "enumerate"=kf)(o:PA X [l] d)(hs:uP_ (Qd [l] X.i=[(j5,eval l X.i)]) uR_):
  PI X (.Tuple es k tp) (.Call (.Name "enumerate" p) [l] [] pos) (iEnum X.K d):=by
 intro B s L H ad I h;refine Call_ (gC I O C wZ (Qo (thn (o pos B s L H _ I h) λj m ⟨n,ef,i,w,r⟩=>?_) hs U));let a e{D Y}q:=r;subst e;let u rfl A:=kJ w
 cases A
 let J rv p c:=i.list Y;refine call_enumerate_list p.isList λt eg f v g=>?_;refine wpAny_pyIter_enum eg ?_;erw[m.H.M.J+1,[m.H.M.J+1,m.H.M.J],5,ef,U,i.kept (t':=m.v) g,B7 a _ _ (Nat.succ_ne_self _),⟨⟨_,eg⟩,f⟩,λb M=>?_,q];let x:m.H.M.J<=b:=by
  obtain rfl|M:=Lw.mp M
  .exact NC _
  .simp!
 exact i.fpOk x (i.hok.fresh x)
def uj{g:TG}(Pv:R->St->Hp->Prop)(A:Pv 0 L H)(hl:∀ i L H,i<=xs.L->Pv i L H->nv a xs)(hs:∀ i x L H T,xs[i]?=Z x->Pv i L H->H T=kf->g (.ref T) L (upd H T (.tup [.int (i:G),x])) λh H2=>tb (D.lop (Pv (i+1))) h H2)(hd:∀ L H,Pv xs.L L H->D.nx L H):
  ∃ W:R->R->St->Hp->Prop,(∃ m,W 0 m L H)/\∀ i m L H,W i m L H ->
   ((Ite K a).stop i H/\D.nx L H)∨((Ite K a).go i H/\∃ N:St->Hp->Prop,(∀ σ' H',N σ' H'->∃ u,u<m/\W (i+1) u σ' H')/\∀ x H',(Ite K a).yld i H x H'->g x L H' λh H2=>tb (D.lop (N)) h H2):=by
 erw[λi m L H=>m=xs.L-i/\i<=xs.L/\Pv i L H,⟨xs.L,by simp,LU _,A⟩,3]
 rintro i m L H ⟨rfl,B,p⟩;let q:=hl i L H B p;by_cases j:i<xs.L
 .refine .inr ⟨⟨xs,xs[i],q,by simp⟩,Pv (i+1),λσ' H' I=>⟨xs.L-(i+1),∅,U,j,I⟩,λv H' y=>?_⟩
  let T x l rfl rfl y:=y;exact hs i x L _ T (y xs q) p l
 .let e:i=xs.L:=by lia
  subst e;exact .inl ⟨⟨xs,q,Lo _⟩,hd L H p⟩
inductive rGetL(K:Ln)(o:L2.V)(i:L2.V)(H:L2.Hp)(Q:L2.VK):Prop
 |mk (p xs k v:_) (_:o=.ref p)(_:i=.int k)(_:nv p xs)(_:0<=k)(_:xs[k.U]?=Z v)(_:Q v H)
def GW:PGet X (rGetL X.K):=by
 intro B s L H o i N n Q I e l h;let p D k v rfl rfl Y A J q:=h
 cases e
 let t rfl:=l;let f r m d:=I.list Y;let w a M:=r.get J;let C:=r.L;let y:=rq;let j:=(Ll.mp J).1;exact wpAny_getItem_list m.isList A ∅ (by simpa using a) ⟨v,H,I,M,q⟩
def t6(h:j<n):ixN n (j:G)=Z j:=by
 unfold ixN;simp[*]
theorem jF:∀{ds:E ge},(∀ d∈ds,d.canLay0=i0)->ge.canLayAll0 ds=i0
 |[],_=>by rfl
 |d::ds,h=>by
  rw[ge.canLayAll0,h d (by simp),jF λx J=>h x (by simp[J])]
  rfl
theorem lD{n:R}:∀{ds:E ge},(∀ d∈ds,d.depth<=n)->ge.depthAll ds<=n
 |[],_=>by simp[ge.depthAll]
 |d::ds,h=>by
  let Y:=h d (by simp)
  let O:=lD (ds:=ds) λx J=>h x (Lr _ J);rw[ge.depthAll];lia
def kK{ds:E ge}(h:∀ d∈ds,d.canLay0=i0/\d.depth<=10):SeqAt.shaped (.list ds)=i0:=by
 let Y:=jF λd hd=>(h d hd).1;let O:=lD λd hd=>(h d hd).2;let ef:QL (.list ds)<=64:=by simp only[QL];lia
 show(ge.canLay0 (.list ds)&&decide (QL (.list ds)<=64))=i0;rw[NN];erw[by assumption,QG ef]
def cxG(X:Cx)(scope:hr)(fr:E (ff×R))(xs:E ff)(C:eN)(ex:E eN)(s:e9)(H:Hp):Cx where
 prog:=X.e
 w:=X.w
 K:=X.K
 mg:=X.mg
 base:=X.base
 A:=X.A
 N:=xs++fr.h (·.1)
 s₀:=s
 H₀:=H
 env:=compEnvC scope (clOf X.i fr) C X.i
 outer:=X.stack
 stack:=X.stack
 ex:=ex
 fn:=λ_=>j5
 calm:=X.calm
 pn:=[]
 xe:=λ_ _=>False
structure oF(X:Cx)(scope:hr)(fr:E (ff×R))(xs:E ff):Prop where
 clos:closureFor scope X.i=pure (clOf X.i fr)
 cell:∀ y∈scope.names,y.2≠.cell
 kind:scope.kind=.function
 names:∀ y∈scope.names,y.2=.local->scope.names.Z y.1=Z .local
 slot:∀ p∈fr,X.N[p.2]?=Z p.1/\X.i.kindOf p.1=Z .cell
 has:∀ y∈(relabel scope X.i).names,(y.2=.cell∨y.2=.free)->y.1∈fr.h (·.1)
 frk:∀ p∈fr,(relabel scope X.i).names.Z p.1=Z .cell
theorem oF.of{xs:E ff}(clos:closureFor scope X.i=pure (clOf X.i fr))(cell:∀ y∈scope.names,y.2≠.cell)(kind:scope.kind=.function)(names:∀ y∈scope.names,y.2=.local->scope.names.Z y.1=Z .local)(slot:∀ p∈fr,X.N[p.2]?=Z p.1/\X.i.kindOf p.1=Z .cell)(eg:∀ z∈scope.names,z.2=.free->z.1∈fr.h (·.1))(frk:∀ p∈fr,(relabel scope X.i).names.Z p.1=Z .cell):oF X scope fr xs where
 clos:=clos
 cell:=cell
 kind:=kind
 names:=names
 slot:=slot
 has:=λz d g=>by
  let{n k}C e:=LW.mp (show z∈scope.names.h _ from d);let O:=cell _ C;dsimp only at e O;let l:z.1=n:=by rw[← e];split<;>rfl
  let A:k=.free:=by
   by_cases q:k=.free
   .exact q
   .let M:(k == NameKind.free)=j5:=by simpa using q
    lia
  let:=eg _ C A;rw[l];exact this
 frk:=frk
abbrev nons(xs:E ff):St:=Lz xs.L kf
section
variable{X:Cx}{pins:E (eN×hb)}{σ:St}{H:Hp}{s:e9}{scope:hr}{fr:E (ff×R)}{xs:E ff}
def oF.cells(O:oF X scope fr xs)(I:mi σ H s){y:ff}{c:eN}(h:(clOf X.i fr).Z y=Z c):X.i.cells.Z y=Z c:=by
 let C e:=kE h;let p Y f:=LW.mp C;let k:=(O.slot p Y).2;rw[f]at k;let t N:=I.ok.has y (.inl k);simp[*]
def DU(O:oF X scope fr xs)(I:mi σ H s)(L:∀ b∈fp,FpOk X pins H b)(ap:∀ b∈fp,b<s.H.M.J){g:fc}{tk:R}(t:g=s.H.o (QM []))(D:∀ b o,g.R b=Z o->h'.R b=Z o)(hC:h'.Ns g.M.J λ_=>kf):
  Inv (cxG X scope fr xs g.M.J (s.H.M.J::fp) {s,g} H) (X.pn++pins++[(s.H.M.J,QM [])]) (nons xs++frOf fr σ) H {s with heap:=h',toks:=tk}:=by
 let aa:g.M.J=s.H.M.J+1:=by rw[t,Qv]
 let kp:∀ b o,s.H.R b=Z o->g.R b=Z o:=λb o e=>by rw[t];exact Qm _ e
 let aI:∀ b o,s.H.R b=Z o->h'.R b=Z o:=λb o e=>D b o (kp b o e);let a0:h'.R s.H.M.J=Z (QM []):=D _ _ (by rw[t];exact Qn _ U)
 let al:∀ b,b<s.H.M.J->b≠g.M.J:=λb e=>by rw[aa];exact LJ (MQ e)
 let aS:s.H.M.J≠g.M.J:=by rw[aa];exact LJ (Nv _)
 let ab:H g.M.J=kf:=I.hok.fresh (by rw[aa];exact NC _)
 let a1:H s.H.M.J=kf:=I.hok.fresh (Lo _);let cne:∀ y c,X.i.cells.Z y=Z c->c<s.H.M.J:=λy c e=>by
  let v q:=I.cell y c e;exact q.lt
 let an:∀ b,b≠X.i.locals->b∉X.fs->b∉frs X.stack:=λb Y j z=>(Lw.mp (I.stkSub b z)).elim Y j;let aT:s.H.M.J∉frs X.stack:=an _ (Mz I.lt) (I.nofs (Lo _));erw[⟨I.ok.mod,O.kind,I.ok.glob,I.ok.blt,Lo _,?_,?_,λ_ _ z _=>(by cases z),I.ok.hd,I.ok.frames,.inl U,?_,?_,?_,?_,?_,?_,I.stkFree⟩,U,I.bare,Un.kept D,15,ab,15,I.hok.kept aI,3]
 .intro y z c Y j;exact I.ok.inj y z c (O.cells I Y) (O.cells I j)
 .intro y Q;let a:y∈fr.h (·.1):=by
   obtain Q|Q:=Q
   .exact O.has (y,_) (Nc Q) (.inl U)
   .exact O.has (y,_) (Nc Q) (.inr U)
  erw[_,fB a]
 .intro b M;obtain rfl|M:=Lw.mp M
  .erw[aS,λy c e=>LJ (cne y c (O.cells I e))]
  .erw[al b (ap b M),λy c e=>(L b M).2.2.2.2.1 y c (O.cells I e)]
 .intro b o e;erw[kp b o (I.bs b o e).1,(I.bs b o e).2]
 .show X.base.M.J<=g.M.J;rw[aa];exact NW (Mi I.ok.bsz I.sz)
 .intro b o e M;obtain z|M:=Lw.mp M
  .let:=P8 (I.bs b o e).1
   rw[z]at this;exact Nj _ this
  .rcases(L b M).2.2.2.1 with z|z
   .exact I.ok.noex b o e z
   .exact Ry (L6 (P8 (I.ok.bs b o e).1) z) (Nj _)
 .intro b M;obtain z|M:=Lw.mp M
  .rw[z];exact aT
  .exact an b (L b M).2.1 (L b M).2.2.1
 .exact(I.kept (h':=g) (t':=s.v) kp).stack
 .erw[_,hC,λi y v f A J=>?_];let aZ:(xs++fr.h (·.1))[i]?=Z y:=f;by_cases B:i<xs.L
  .rw[Lu (by simpa using B)]at A
   rw[MG,Rw B]at A
   cases A
  .let ac:(fr.h (·.1))[i-xs.L]?=Z y:=by
    rw[Lq ∅]at aZ
    exact aZ
   let am:(frOf fr σ)[i-xs.L]?=Z (Z v):=by
    rw[Lq (by simp;lia)]at A
    simpa using A
   generalize i-xs.L=k at ac am;unfold frOf at am;rw[Lx]at ac am
   cases q:fr[k]? with
   |none=>rw[q]at ac;cases ac
   |some p =>
    rw[q]at ac am;let ey:p.1=y:=L3 ac;let ev:(σ[p.2]?).join=Z v:=L3 am;let T:p∈fr:=Lm q;let hN hK:=O.slot p T;let av:=O.frk p T;rw[ey]at hN hK av;let a2:σ[p.2]?=Z (Z v):=by
     cases eg:σ[p.2]? with
     |none=>rw[eg]at ev;cases ev
     |some w=>rw[eg]at ev;exact congrArg Z ev
    let m h C:=I.loc;let u r l:=C p.2 y v hN a2 (.inr (.inl hK));erw[u,r,3];rcases l with⟨x,_⟩|⟨_,c,ec,z⟩
    .rw[hK]at x;cases x
    .let a:y∈fr.h (·.1):=by rw[← ey];exact LW.mpr ⟨p,T,U⟩
     let el:=fB (env:=X.i) a;rw[ec]at el;exact .inr ⟨.inl av,c,el,by let o N hd:=z;erw[o,aI _ _ N,hd]⟩
 .intro y c e;let v o N hd:=I.cell y c (O.cells I e);erw[v,o,aI _ _ N,hd]
 .intro y c e;exact I.freeC y c (O.cells I e)
 .intro p T;obtain T|T:=LY.mp T
  .cases T
  .obtain T|T:=LY.mp T
   .let e n ne nf d:=I.pin p T;erw[aI _ _ e,n,al _ (P8 e),an _ ne nf,d]
   .let ef:p=(s.H.M.J,QM []):=by simpa using T
    subst ef;erw[a0,a1,aS,aT,λv z=>by cases z]
 .show(nons xs++frOf fr σ).L=(xs++fr.h (·.1)).L;unfold frOf;simp
def t8{g:fc}{σ':St}(I:mi σ H s)(A:∀ b∈fp,FpOk X pins H b)(O:g=s.H.o (QM []))(J:Inv (cxG X scope fr xs g.M.J (s.H.M.J::fp) {s,g} H) (X.pn++pins++[(s.H.M.J,QM us)]) σ' H' s')(hv:Vals ys us)(hl:ys.L<=P7):
  mi σ (upd H' s.H.M.J (.lst ys)) s'/\H' s.H.M.J=kf/\FpOk X pins (upd H' s.H.M.J (.lst ys)) g.M.J/\∃ m,s'.H.Ns g.M.J m:=by
 let t:g.M.J=s.H.M.J+1:=by rw[O,Qv]
 let C:∀ b o,s.H.R b=Z o->g.R b=Z o:=λb o e=>by rw[O];exact Qm _ e
 let k f _ _ _:=J.pin (s.H.M.J,QM us) (by simp)
 let h:g.M.J≠s.H.M.J:=by rw[t];exact Mz (Nv _)
 let d:∀ b u,H' b=Z u->b≠s.H.M.J:=λb u e z=>by simp!
 let j:∀ b o,s.H.R b=Z o->b∉fp->b∉s.H.M.J::fp:=λb o e M z=>by
  obtain z|z:=Lw.mp z
  .let:=P8 e
   simp!
  .exact M z
 let i:Un (frs X.stack) (s.H.M.J::fp) H H' g s'.H:=J.base;let l:∀ b o,s.H.R b=Z o->b≠s.H.M.J:=λb o e=>LJ (P8 e);let un:Un (frs X.stack) fp H (upd H' s.H.M.J (.lst ys)) s.H s'.H:=by
  erw[λb o e n M eg=>i.keep b o (C b o e) n M (j b o e eg),λb o e n M eg=>i.slot b o (C b o e) n M (j b o e eg),λb o e n eg=>?_,λb o e eg=>i.there b o (C b o e) (j b o e eg),λb xs e=>?_,λb o u e=>?_,λb T e=>?_]
  .rw[ao (l b o e)];exact i.free b o (C b o e) n (j b o e eg)
  .let q:=i.tups b xs e
   rw[ao (d b _ q)];exact q
  .let q:=i.frzs b o u e
   rw[ao (d b _ q)];exact q
  .let a q:=i.tbls b T e;erw[a,by rw[ao (d b _ q)];exact q]
 let ef:HOk X.e X.w (upd H' s.H.M.J (.lst ys)) s'.H:=λb u e=>by
  by_cases M:b=s.H.M.J
  .rw[M,af]at e
   cases e
   rw[M];erw[hl,us,us.L,hv,k]
  .rw[ao M]at e;exact(J.hok b u e).stay (λc v _ q=>q) (λc q=>by rw[ao (d c _ q)];exact q) λc xs q=>by rw[ao (d c _ q)];exact q
 let os:s'.os=s.os:=J.os;erw[I.call' os un ef J.bare λb M=>⟨(A b M).2.2.2.1,(A b M).2.1,(A b M).2.2.2.2⟩,f,15]
 .refine I.fpOk (H':=upd H' s.H.M.J (.lst ys)) (b:=g.M.J) (by rw[t];exact NC _) ?_
  rw[ao h];exact J.free
 .let m y _:=J.loc;erw[m,y]
end
def PTs(X:Cx)(l:E fm)(t:TT):Prop :=
 ∀(B:E (eN×hb))(s:e9)(L:St)(H:Hp)(Q:im->Hp->Prop),mu H s->t L H Q ->
  li (forIn l i0 λc r=>if r=i0 then do let ok ← isTrue c X.i (eval c X.i);pure (ForInStep.yield ok) else pure (ForInStep.yield r)) (λb k=>∃ eg,mu eg k/\Q b eg) X.xe s
def tYes:TT:=λ_ H Q=>Q i0 H
theorem JL:PTs X [] tYes:=λ_ _ _ H _ I h=>wpAny_tests_nil ⟨H,I,h⟩
theorem gk{c:fm}{t:TT}(h:PT X c t):PTs X [c] t:=λB s L H Q I q=>wpAny_tests_one (h B s L H Q I q)
def EZ{k a f:fm}{l:E fm}{it:eK}(I:R->e9->Prop)(turn:∀ n s,I n s->lf A (pyNext it) (λr s₁=>match r with
   |none=>ad (.ok .next) s₁
   |some v=>lf A (letOwnedTupleGo a it v) (λ_ s₀=>lf A (assign a env v) (λ_ s₂ =>
     lf A (forIn l i0 λc r=>if r=i0 then do let ok ← isTrue c env (eval c env);pure (ForInStep.yield ok) else pure (ForInStep.yield r)) (λok b=>if ok=i0 then lf A (eval k env) (λx j =>
      lf A (call (.builtin "list.append") [u,x]) (λ_ o=>∃ m,m<n/\I m o) (notedBy (model prog w) A env λe s'=>ad (.error e) s') j) (notedBy (model prog w) A env λe s'=>ad (.error e) s') b
      else ∃ m,m<n/\I m b) (notedBy (model prog w) A env λe s'=>ad (.error e) s') s₂)
     (notedBy (model prog w) A env λe s'=>ad (.error e) s') s₀) (notedBy (model prog w) A env λe s'=>ad (.error e) s') s₁) (notedBy (model prog w) A env λe s'=>ad (.error e) s') s)(n:R)(h:I n s):Qu (model prog w) A (.compLoop (.ListComp k [⟨a,f,l,0⟩] scope pos) 0 it u env) ad s:=by
 refine codeAny_loop U I (λn s z=>?_) n h;show wpAny _ A ((compTurn (.ListComp k [⟨a,f,l,0⟩] scope pos) 0 it u env).onRaise (λx=>do noteFrame x env;theTreesLotGoes x)) _ _ s
 refine wpAny_noted ?_;rw[compTurn_list];refine Qi (wpAny_standAt (Qi (Qe (turn n s z) (λr s₁ L=>?_) λ_ _ eg=>eg)))
 cases r with
 |none=>exact Ql L
 |some v =>
  refine Qi (Qe L (λ_ s₀ p=>?_) λ_ _ eg=>eg);refine Qi (Qe p (λ_ s₂ H=>?_) λ_ _ eg=>eg);refine Qi (Qe H (λq b d=>?_) λ_ _ eg=>eg)
  cases q with
  |false=>exact Ql ⟨U,d⟩
  |true=>exact Qi (Qi (Qe d (λx j g=>Qi (Qe g (λ_ o i=>Ql (Ql ⟨U,i⟩)) λ_ _ eg=>eg)) λ_ _ eg=>eg))
def iW(g:TG)(tt:TT)(p:TE)(n:R)(a:St)(J:It)(H1:Hp)(QQ:E V->Hp->Prop):Prop :=
 ∃ W:R->R->E V->Hp->Prop,(∃ m,W 0 m [] H1)/\∀ i m j H,W i m j H->j.L<=P7 /\
  ((J.stop i H/\QQ j H)∨(J.go i H/\∃ N:E V->Hp->Prop,(∀ t O,N t O->∃ u,u<m/\W (i+1) u t O) /\
   ∀ x eg,J.yld i H x eg->g x (Lz n kf++a) eg λh O=>h.drop n=a/\tt h O λb q=>if b=i0 then p h q (λy c=>N (j++[y]) c) else N j q))
section
variable{X:Cx}{scope:hr}{fr:E (ff×R)}{xs:E ff}{elt iter tg:fm}{ifs:E fm}{pos:Pos}{te:TE}{tt:TT}{tgt:TG}{wi:TI}
def rG{B:E (eN×hb)}{tn:R->fc->Prop}{J:It}{RR:eK->eN->Result->e9->Prop}(l:X.calm=i0)(O:oF X scope fr xs)(aI:∀ C ex s H,PG (cxG X scope fr xs C ex s H) tg tgt)(ht:∀ C ex s H,PTs (cxG X scope fr xs C ex s H) ifs tt)(d:∀ C ex s H,PE (cxG X scope fr xs C ex s H) elt te)(I:mu H s)(T:Turn X.e X.w X.K tg J fp it tn)(st:tn 0 s.H)(hf:∀ b∈fp,FpOk X B H b)(k:iW tgt tt te xs.L (frOf fr L) J H QQ)(aa:∀ D C H4 ys s4 m,mu (upd H4 D (.lst ys)) s4->H4 D=kf->FpOk X B (upd H4 D (.lst ys)) C->s4.H.Ns C m->QQ ys H4->RR (.ref D) C (.ok .next) s4):
  li (newList []) (λab am=>li (newFunctionEnv scope X.i.globals (clOf X.i fr) [] X.i.qual kf .none (Z X.i)) (λa8 a0 =>
   Qu (model X.e X.w) X.A (.compStart (.ListComp elt [⟨tg,iter,ifs,0⟩] scope pos) 0 (.ref it) ab {a8 with scope:=relabel scope X.i}) (RR ab a8.locals) a0) ef am) ef s:=by
 let W{m0 w0}turn:=k;let a1:∀ b∈fp,b<s.H.M.J:=λb M=>by
  let o e _:=T.obj 0 s.H st b M;exact P8 e
 refine QN (wpAny_newFunctionEnv O.cell (by intro y hy;simp at hy) (λal aS aT=>?_) O.kind)
 dsimp only at aS aT ⊢;generalize bn:s.H.o {cls:=.type "list",dict:=kf,data:=.seq ([]:E eK).toArray}=g at aS aT ⊢;let hg:g=s.H.o (QM []):=bn.Y;let hsz:g.M.J=s.H.M.J+1:=by rw[hg,Qv]
 let f:∀ b o,g.R b=Z o->al.R b=Z o:=λb o e=>aT.X b o (LJ (P8 e)) (Qm _ e);let kp:∀ b o,s.H.R b=Z o->al.R b=Z o:=λb o e=>f b o (by rw[hg];exact Qm _ e)
 let J0:=DU (h':=al) (tk:=s.v+([]:E (ff×eK)).L) O I hf a1 hg f aS;let an:∀{H':Hp}{us:E eK},(∀ b∈fp,H' b=kf)->∀ b∈fp,FpOk (cxG X scope fr xs g.M.J (s.H.M.J::fp) {s,g} H) (X.pn++B++[(s.H.M.J,QM us)]) H' b:=λ{H' us} hn b M=>by
  let _ f1 f2 f3 f4 f5:=hf b M;erw[hn b M,3,λz=>(Lw.mp (I.stkSub b z)).elim f1 f2,.inl (Lr _ M),λy c e=>f4 y c (O.cells I e),λp Y=>?_]
  .show b≠g.M.J;rw[hsz];exact LJ (MQ (a1 b M))
  .obtain Y|Y:=LY.mp Y
   .cases Y
   .obtain Y|Y:=LY.mp Y
    .exact f5 p Y
    .let ep:p=(s.H.M.J,QM us):=by simpa using Y
     rw[ep];exact Mz (a1 b M)
 let a9:Qu (model X.e X.w) X.A (.compLoop (.ListComp elt [⟨tg,iter,ifs,0⟩] scope pos) 0 (.ref it) (.ref s.H.M.J) (compEnvC scope (clOf X.i fr) g.M.J X.i))
   (RR (.ref s.H.M.J) g.M.J) {s with heap:=al,toks:=s.v+([]:E (ff×eK)).L}:=by
  refine EZ (λn s'=>∃ i ys us H',Inv (cxG X scope fr xs g.M.J (s.H.M.J::fp) {s,g} H) (X.pn++B++[(s.H.M.J,QM us)]) (nons xs++frOf fr L) H' s'/\Vals ys us/\tn i s'.H/\(∀ b∈fp,H' b=kf)/\W i n ys H') ?_ m0
   ⟨0,[],[],H,J0,.nil,T.keep 0 s.H al st λb _ o e=>kp b o e,λb M=>(hf b M).1,w0⟩
  rintro n s3 ⟨i,ys,us,H3,J3,j,a2,a3,w3⟩;let ac hh:=turn i n ys H3 w3;let none_err:∀{α:Type}{t:Sem α}{Q:α->e9->Prop}{E':eK->e9->Prop}{s:e9},li t Q (λ_ _=>False) s->li t Q E' s:=λh=>Qe h (λ_ _ q=>q) λ_ _ z=>z.elim;let a4:∀{av:St},av.L=(nons xs++frOf fr L).L->av.drop xs.L=frOf fr L->∀(i:R) v,(nons xs++frOf fr L)[i]?=Z (Z v)->av[i]?=Z (Z v):=λ{av} a5 e6 i v e=>by
   by_cases a:i<xs.L
   .rw[Lu (by simpa using a),MG,Rw a]at e
    cases e
   .rw[Lq (by simp!),← e6,OX]at e
    simp!
  rcases hh with⟨stop,qn⟩|⟨go,N,hN,step⟩
  .refine none_err (thn (T.done (cxG X scope fr xs g.M.J (s.H.M.J::fp) {s,g} H) U U U l i _ s3 _ H3 _ J3 (an a3) a2 stop) λr s4 ⟨eg,J4⟩=>?_);subst eg;let I4 nD fC m hn:=t8 I hf hg J4 j ac;exact aa _ _ H3 ys s4 m I4 nD fC hn qn
  .refine none_err (thn (T.item (cxG X scope fr xs g.M.J (s.H.M.J::fp) {s,g} H) U U U l i _ s3 _ H3 _ J3 (an a3) a2 go) λr s4 ⟨u,eg,h4⟩=>?_);subst eg;refine none_err (thn h4 λ_ s5 ⟨v,H5,J5,r5,y5,ap,ba⟩=>?_);let bv:=J5.pinned (an ba) (T.obj _ _ ap);refine none_err (thn (aI _ _ _ _ _ s5 _ H5 v u _ bv r5 (step v H5 y5)) λ_ s6 ⟨av,H6,J6,e6,q6⟩=>?_);refine none_err (thn (ht _ _ _ _ _ s6 av H6 _ J6 q6) λb be ⟨a6,bb,a7⟩=>?_);let a5:av.L=(nons xs++frOf fr L).L:=J6.len.Q J3.len.Y
   cases b with
   |false =>
    rw[Rx LS]at a7 ⊢;let m' hm w7:=hN ys a6 a7;let aZ:∀ b∈fp,∀ o,s5.H.R b=Z o->be.H.R b=Z o/\a6 b=kf:=λb M o e=>by
     let x q2 _:=bb.pin (b,o) (LX _ (LX _ (jY M e)));erw[x,q2]
    erw[m',hm,i+1,ys,us,a6,bb.unpinned.weak (σ':=nons xs++frOf fr L) a5.Y (a4 a5 e6),j,T.keep _ _ _ ap λb M o e=>(aZ b M o e).1,λb M=>?_,w7];let o e _:=T.obj _ _ ap b M;exact(aZ b M o e).2
   |true =>
    rw[Rw U]at a7 ⊢;refine none_err (thn (d _ _ _ _ _ be _ a6 _ bb a7) λu7 s7 ⟨v7,H7,J7,r7,q7⟩=>?_);let m' hm w7:=hN _ H7 q7;let eD nD dC dF dd:=J7.pin (s.H.M.J,QM us) (LX _ (Mo _ (LX _ (by simp))))
    let bz:=j.L;refine append_at (hsz:=by simp!) eD λh8 bi bB=>?_
    let bm:∀ p∈X.pn++B,p.1≠s.H.M.J:=λp Y z=>by
     let:=P8 (I.pin p Y).1;simp!
    let bJ:Inv (cxG X scope fr xs g.M.J (s.H.M.J::fp) {s,g} H) (X.pn++B) _ H7 s7:=J7.pins_of λp Y=>J7.pin p (LX _ (Mo _ (Mo _ Y)))
    let J8:Inv (cxG X scope fr xs g.M.J (s.H.M.J::fp) {s,g} H) (X.pn++B) _ H7 {s7,h8}:=bJ.turned (t':=s7.v) (λb o M e=>(bi.2 b M).Q e) nD dC (.inl Lv) (λy c e z=>by
     let w' q:=I.cell y c (O.cells I e);let:=q.lt
     simp!) (λp Y=>(LY.mp Y).elim (λz=>by cases z) (bm p))
    let J9:Inv (cxG X scope fr xs g.M.J (s.H.M.J::fp) {s,g} H) (X.pn++B++[(s.H.M.J,QM (us++[u7]))]) _ H7 {s7,h8}:=J8.pins_of λp Y=>by
     obtain Y|Y:=LY.mp Y
     .exact J8.pin p (LX _ Y)
     .let ep:p=(s.H.M.J,QM (us++[u7])):=by simpa using Y
      subst ep;erw[bB.Q (congrArg Z (LCg.lst_snoc us u7)),nD,dC,dF,λv z=>by cases z]
    let bK:=J9.weak (σ':=nons xs++frOf fr L) a5.Y (a4 a5 e6);let aZ:∀ b∈fp,∀ o,s5.H.R b=Z o->s7.H.R b=Z o/\H7 b=kf:=λb M o e=>by
     let x q2 _:=J7.pin (b,o) (LX _ (LX _ (jY M e)));erw[x,q2]
    erw[m',hm,i+1,ys++[v7],us++[u7],H7,bK,j.append (.cons r7 .nil),T.keep _ _ _ ap λb M o e=>(bi.2 b (LJ (a1 b M))).Q (aZ b M o e).1,λb M=>?_,w7];let o e _:=T.obj _ _ ap b M;exact(aZ b M o e).2
 exact codeAny_compStart_list a9 (T.self X.A 0 _ _ _ (T.keep 0 s.H al st λb _ o e=>kp b o e) a9)
def HK(wi:TI)(g:TG)(tt:TT)(te:TE)(n:R)(fr:E (ff×R)):TE:=λL H Q=>wi L H λJ l=>iW g tt te n (frOf fr L) J l λj O=>∀ D,O D=kf->Q (.ref D) (upd O D (.lst j))
def FX(d:X.calm=i0)(O:oF X scope fr xs)(hi:PI X tg iter wi)(aa:∀ C ex s H,PG (cxG X scope fr xs C ex s H) tg tgt)(u:∀ C ex s H,PTs (cxG X scope fr xs C ex s H) ifs tt)(eg:∀ C ex s H,PE (cxG X scope fr xs C ex s H) elt te)(hs:∀ x,Qp iter X.i x=pure x:=by intro _;rfl):
  PE X (.ListComp elt [⟨tg,iter,ifs,0⟩] scope pos) (HK wi tgt tt te xs.L fr):=by
 intro B s L H Q I h;rw[eval_ListComp];refine wpAny_comprehension_free (use:=kf) U hs O.clos O.kind O.names (thn (hi B s L H _ I h) λxv r Y=>thn Y λac k j=>?_);let it fp tn J l e z T f n p:=j;subst e;refine rG (RR:=λa C=>compPost (model X.e X.w) X.A X.xe kf (EP X B L Q) a C) d O aa u eg z T f n p ?_;intro D C c v q m ef nD fC y q4;erw[m,y,λt ab=>?_];let g0 N i g g4 g5:=fC;erw[.ref D,_,ef.turned (t':=q.v) (λb o M e=>(ab.2 b M).Q e) g0 N g g4 g5,U,q4 D nD]
def ve(i:R)(wi:TI)(g:TG)(tt:TT)(te:TE)(n:R)(fr:E (ff×R)):TS:=λD L H=>wi L H λJ l=>iW g tt te n (frOf fr L) J l λj O=>∀ a,O a=kf->D.nx (L.set i (Z (.ref a))) (upd O a (.lst j))
def x9{y:ff}{py am:Pos}(d:X.calm=i0)(hN:X.N.l)(ab:X.N[i]?=Z y)(f:X.i.scope.names.Z y=Z .local)(O:oF X scope fr xs)(hi:PI X tg iter wi)(al:∀ C ex s H,PG (cxG X scope fr xs C ex s H) tg tgt)(c:∀ C ex s H,PTs (cxG X scope fr xs C ex s H) ifs tt)(eg:∀ C ex s H,PE (cxG X scope fr xs C ex s H) elt te)(av:uP_ (swapsWith (.ListComp elt [⟨tg,iter,ifs,0⟩] scope pos) (Z (.Name y py)) am.line X.i=pure i0) uR_)(hs:∀ x,Qp iter X.i x=pure x:=by intro _;rfl):
  PS X (.Assign [.Name y py] (.ListComp elt [⟨tg,iter,ifs,0⟩] scope pos) am) (ve i wi tgt tt te xs.L fr):=by
 intro B s L H D I h;rw[exec_Assign_Name_used _ _ _ _ av];refine Qi (wpAny_standAt (Qi ?_));show wpAny _ X.A (do let _ ← comprehension (.ListComp elt [⟨tg,iter,ifs,0⟩] scope pos) scope X.i _ (newList []) j5 (eval iter X.i) (Z (assign (.Name y py) X.i))) _ _ s
 refine Qi (thn (wpAny_comprehension_free (use:=Z (assign (.Name y py) X.i)) (Q:=λ_ s'=>SP X B D .next s') U hs O.clos O.kind O.names (thn (hi B s L H _ I h) λxv r Y=>thn Y λap k j=>?_)) λ_ s' u=>Ql (Ql u));let it fp tn J l e I2 T ac f2 q2:=j;subst e;refine rG (RR:=λaa C=>compPost (model X.e X.w) X.A X.xe (Z (assign (.Name y py) X.i)) (λ_ s'=>SP X B D .next s') aa C) d O al c eg I2 T ac f2 q2 ?_;intro a C q g s4 m I4 nD fC n q4;let g0 g1 g2 g3 g4 g5:=fC;let oC eC aI:=LCg.ns_obj n;let I5:Inv X (B++[(C,oC)]) L (upd q a (.lst g)) s4:=I4.pins_of λp t=>by
  obtain t|t:=LY.mp t
  .exact I4.pin p (LX _ t)
  .let ep:p=(C,oC):=by simpa using t
   subst ep;let ef aS hd _:=aI;erw[eC,g0,g1,g2,λv z=>by simp!]
 show wpAny _ X.A (assign (.Name y py) X.i (.ref a)) _ _ _;refine wpAny_assign_Name (rS I5 hN ab (.inl f) (v:=.ref a) U (λs6 I6=>?_) (.inr f));let e6 _:=I6.pin (C,oC) (LX _ (LX _ (by simp)))
 erw[m,aI.ns e6,λh' an=>?_];erw[5,I6.unpinned.turned (t':=s6.v) (λb o M e=>(an.2 b M).Q e) g0 g1 g3 g4 g5,q4 a nD]
end
def bg{g:TG}(Pv:R->E V->Hp->Prop)(hz:xs.L<=P7)(A:Pv 0 [] H1)(hl:∀ i ys H,i<=xs.L->Pv i ys H->nv a xs)
  (hs:∀ i x ys H,xs[i]?=Z x->Pv i ys H->g x (Lz n kf++L) H λh H2=>h.drop n=L/\tt h H2 λb H3=>if b=i0 then Y h H3 (λy H4=>Pv (i+1) (ys++[y]) H4) else Pv (i+1) ys H3) (hd:∀ ys H,Pv xs.L ys H->QQ ys H) (Q:∀ i ys H,Pv i ys H->ys.L<=i)
  : iW g tt Y n L (Itl K a) H1 QQ:=by
 erw[λi m ys H=>m=xs.L-i/\i<=xs.L/\Pv i ys H,⟨xs.L,by simp,LU _,A⟩,3]
 rintro i m ys H ⟨rfl,B,p⟩;let q:=hl i ys H B p;let c:=Q i ys H p;erw[16]
 by_cases j:i<xs.L
 .refine .inr ⟨⟨xs,xs[i],q,by simp⟩,λt H2=>Pv (i+1) t H2,λt H2 v=>⟨xs.L-(i+1),∅,U,j,v⟩,λx eg y=>?_⟩
  let e y:=y;subst e;exact hs i x ys _ (y xs q) p
 .let e:i=xs.L:=by lia
  subst e;exact .inl ⟨⟨xs,q,Lo _⟩,hd ys H p⟩
def lE{lo:G}{k:R}{g:TG}(Pv:R->E V->Hp->Prop)(hz:k<=P7)(A:Pv 0 [] H1)
  (hs:∀ i ys H,i<k->Pv i ys H->g (.int (lo+i)) (Lz n kf++L) H λh H2=>h.drop n=L/\tt h H2 λb H3=>if b=i0 then Y h H3 (λy H4=>Pv (i+1) (ys++[y]) H4) else Pv (i+1) ys H3) (hd:∀ ys H,Pv k ys H->QQ ys H) (Q:∀ i ys H,Pv i ys H->ys.L<=i)
  : iW g tt Y n L (Itr lo k) H1 QQ:=by
 erw[λi m ys H=>m=k-i/\i<=k/\Pv i ys H,⟨k,by simp,LU _,A⟩,3]
 rintro i m ys H ⟨rfl,B,p⟩;let c:=Q i ys H p;erw[16]
 by_cases j:i<k
 .refine .inr ⟨j,λt H2=>Pv (i+1) t H2,λt H2 v=>⟨k-(i+1),∅,U,j,v⟩,λx eg y=>?_⟩
  let e y:=y;subst e y;exact hs i ys _ j p
 .let e:i=k:=by lia
  subst e;exact .inl ⟨Lo _,hd ys H p⟩
def ku{g:TG}(Pv:R->E V->Hp->Prop)(hz:xs.L<=P7)(A:Pv 0 [] H1)(hl:∀ i ys H,i<=xs.L->Pv i ys H->nv a xs)
  (hs:∀ i x ys H T,xs[i]?=Z x->Pv i ys H->H T=kf->g (.ref T) (Lz n kf++L) (upd H T (.tup [.int (i:G),x])) λh H2=>h.drop n=L/\tt h H2 λb H3=>if b=i0 then Y h H3 (λy H4=>Pv (i+1) (ys++[y]) H4) else Pv (i+1) ys H3) (hd:∀ ys H,Pv xs.L ys H->QQ ys H) (Q:∀ i ys H,Pv i ys H->ys.L<=i)
  : iW g tt Y n L (Ite K a) H1 QQ:=by
 erw[λi m ys H=>m=xs.L-i/\i<=xs.L/\Pv i ys H,⟨xs.L,by simp,LU _,A⟩,3]
 rintro i m ys H ⟨rfl,B,p⟩;let q:=hl i ys H B p;let c:=Q i ys H p;erw[16]
 by_cases j:i<xs.L
 .refine .inr ⟨⟨xs,xs[i],q,by simp⟩,λt H2=>Pv (i+1) t H2,λt H2 I=>⟨xs.L-(i+1),∅,U,j,I⟩,λv eg y=>?_⟩
  let T x l rfl rfl y:=y;exact hs i x ys _ T (y xs q) p l
 .let e:i=xs.L:=by lia
  subst e;exact .inl ⟨⟨xs,q,Lo _⟩,hd ys H p⟩
theorem GN(h:X.K=K):IxR X (rIxL K):=h▸DO
theorem KC(h:X.K=K):IxR X (rIxT K):=h▸Iz
theorem dq{es:E fm}{k:R}{t:TGs}(c:X.K=K)(T:X.calm=i0)(h:PGs X es t)(y:uP_ ((Qh es X.i).L=n) uR_)(j:uP_ ((Qh es X.i).findIdx? (·.1)=kf) uR_):PG X (.Tuple es k pos) (gTup K n t):=c▸iM T h y j
theorem BS(h:X.K=K):iJ X (.type "list") (λxs H Q=>∃ p ys,xs=[.ref p]/\(nv p ys∨SqT K H p ys)/\∀ l,H l=kf->Q (.ref l) (upd H l (.lst ys))):=h▸jG
theorem pM{f:ff}(h:X.K=K)(eg:PE X e Y)(M:attributeBase e f X.i (eval e X.i)=eval e X.i):PE X (.Attribute e f pos) (tFld K Y f):=h▸aW eg M
theorem mG:∀{ns:E G}{us:E eK},Vals (ns.h V.int) us->QF us ns
 |[],_,.nil=>.nil
 |n::ns,_,.cons r c=>by
  let t rfl:=r;exact .cons n t (mG c)
def AQ(T:X.calm=i0):iJ X (.builtin "sum") (λxs H Q=>∃(p:eN)(ns:E G),xs=[.ref p]/\SqL X.K H p (ns.h V.int)/\Q (.int ns.sum) H):=by
 intro B s L H xs j Q I r h;let p ns rfl Y q:=h;let u rfl A:=kJ r
 cases A
 let J rv D d:=I.list Y;let N:=mG rv;let m e:=N.allInts.items;let i:(numsOf J)=ns:=N.numsOf;let C:s.H.IsList p (intItems m):=by rw[← e];exact D.isList
 refine sum_intListG (I.ok.hd T) C λeg l t' g=>⟨.int ns.sum,H,I.kept (t':=l) g,⟨t',?_⟩,q⟩;let O:numsOf (intItems m).n=ns:=by rw[← e];exact i
 rw[nums_intItems]at O;rw[preSum_eq,NT (by simp),← O]
theorem pj:∀{ps:E R},(∀ p∈ps,p<1000)->ge.weightAll ((ps.h λ(p:R)=>((p:R):G)).h ge.int)<=12*ps.L
 |[],_=>by simp[ge.weightAll]
 |p::ps,h=>by
  let L:=pj (ps:=ps) λx J=>h x (Lr _ J);let Y:=h p (by simp)
  let y:ge.weight (.int (p:G))<=11:=by
   rw[ge.weight];split
   .exact LU _
   .rename_i z;let c:p≠0:=λe=>z (by rw[e];rfl)
    let e:((p:G)).natAbs=p:=rfl;rw[e];let:=(Nat.log2_lt c).mpr (show p<2^10 by lia)
    lia
  rw[LR,LR,ge.weightAll,My];lia
def GJ{ps:E R}(h:∀ p∈ps,p<1000)(hl:ps.L<=1000):ge.layable0 (.list ((ps.h λ(p:R)=>((p:R):G)).h ge.int))=i0:=by
 let Y:=PySem.W.shaped_ints (ps.h λ(p:R)=>((p:R):G));let O:=pj h;let ef:ge.weight (.list ((ps.h λ(p:R)=>((p:R):G)).h ge.int))<=2^20:=by
  rw[ge.weight];ac_rfl
 unfold ge.layable0;unfold SeqAt.shaped at Y;rw[Y,QG ef];rfl
inductive rIndex(K:Ln)(x:L2.V)(vs:E V)(H:L2.Hp)(Q:L2.VK):Prop
 |mk (l:eN)(ps:E R)(k:R) (_:x=.ref l)(_:vs=[.int (k:G)])(_:nv l (ps.h λ(p:R)=>V.int (p:G)))(_:(∀ p∈ps,p<1000))(_:ps.L<=1000)(_:k∈ps)(_:Q (.int ((ps.idxOf k:R):G)) H)
def GP{ps:E R}{k:R}:(ps.h λ(p:R)=>((p:R):G)).idxOf (k:G)=ps.idxOf k:=by
 induction ps with
 |nil=>rfl
 |cons p ps L =>
  grind
def Gx:MtM X "list.index" (rIndex X.K):=by
 intro B s L H x n v j Q I T rv h;let l eg k rfl rfl Y f C g q:=h
 cases T
 let u rfl A:=rv.one;let t rfl:=A;let e:(eg.h λ(p:R)=>V.int (p:G))=(eg.h λ(p:R)=>((p:R):G)).h V.int:=by rw[MH];rfl
 rw[e]at Y;let J r D d:=I.list Y;refine index_list_ints D.isList (mG r) (GJ f C) (LW.mpr ⟨k,g,U⟩) ?_;rw[GP];erw[.int _,H,I.tok _,⟨_,U⟩,q]
theorem xC:∀{us:E eK}{ns:E G},QF us ns->Vals (ns.h V.int) us
 |_,_,.nil=>.nil
 |_,_,.cons _ t r=>.cons ⟨t,U⟩ (xC r)
inductive CJ(K:Ln)(xs:E V)(H:L2.Hp)(Q:L2.VK):Prop
 |mk (p:eN)(ns:E G) (_:xs=[.ref p])(_:nv p (ns.h V.int))(_:ns.L<64)(_:∀(l:eN)(out:E G),H l=kf->out.Perm ns->out.y (·<=·)->Q (.ref l) (upd H l (.lst (out.h V.int))))
def lG:iJ X (.builtin "sorted") (CJ X.K):=by
 intro B s L H D j Q I r h;let p k rfl Y c q:=h;let u rfl A:=kJ r
 cases A
 let J rv m d:=I.list Y;let N:=mG rv;let C:=rv.L;rw[Lp]at C;refine sorted_ints m.isList N ∅ λout a T n M=>?_
 let e eg:=sortedAll_at s.H J out;erw[.ref (s.H.M.J+1),_,I.laid (t':=s.v) (λ_ _=>sortedAll_old) (NC _) (show bu X.e X.w _ _ _ (.lst (a.h V.int)) from⟨?_,out.n,e,xC T,?_⟩),U,q _ a (I.hok.fresh (NC _)) n M]
 .rw[Lp,n.length_eq];exact LK (ar ∅)
 .exact eg
theorem wY(h:X.K=K):iJ X (.builtin "sorted") (CJ K):=h▸lG
def qE:Qa "min"=Z (.builtin "min"):=by rfl
theorem As:∀{ns:E G}{us:E eK},Vals (ns.h V.int) us->QF us ns
 |[],_,.nil=>.nil
 |n::ns,_,.cons r c=>by
  let t rfl:=r;exact .cons n t (As c)
def E4:Qa "sum"=Z (.builtin "sum"):=by rfl
theorem yesT{A B:Hp->Prop}(h:A H):tYes L H λb H3=>if b=i0 then A H3 else B H3 :=
 show(if i0=i0 then A H else B H) from iteT (B:=B H) h
def IM:Qa "zip"=Z (.type "zip"):=by rfl
def Itz(K:Ln)(a b:eN):It :=
 ⟨λi H=>∃ D j x y,nv a D/\nv b j/\D[i]?=Z x/\j[i]?=Z y,
  λi H v eg=>∃ T x y,H T=kf/\v=.ref T/\eg=upd H T (.tup [x,y])/\(∀ D,nv a D->D[i]?=Z x)/\∀ j,nv b j->j[i]?=Z y,
  λi H=>∃ D j,nv a D/\nv b j/\(D.L<=i∨j.L<=i)⟩
theorem Fu{es:E fm}{k:R}(a b z TI TO i1 i2:eN)(D:ZipApart z TI TO i1 i2 a b):Turn P w K (.Tuple es k pos) (Itz K a b) [z,TI,TO,i1,i2] z
  (λi h=>IsZip h z TI TO .none/\IsPair h TI (.ref i1) (.ref i2)/\(∃ u v,IsPair h TO u v)/\h.IsListIter i1 a i/\h.IsListIter i2 b i) where
 mem:=by simp
 obj:=λi h st c T=>by
  let kz kI{u v kO}{o1 r c1 d1}{o2 M c2 d2}:=st;simp only[Lw,Mr,or_false]at T;obtain rfl|rfl|rfl|rfl|rfl:=T
  .erw[_,kz,λv z=>by contradiction]
  .erw[_,kI,λv z=>by contradiction]
  .erw[_,kO,λv z=>by contradiction]
  .erw[o1,r,λv z=>by simp!]
  .erw[o2,M,λv z=>by simp!]
 keep:=λi h h' st d=>by
  let kz kI{u v kO}k1 k2:=st;erw[d _ (by simp) _ kz,d _ (by simp) _ kI,⟨u,v,d _ (by simp) _ kO⟩,k1.at λo q=>d i1 (by simp) o q,k2.at λo q=>d i2 (by simp) o q]
 item:=by
  intro X hP hw hK T i B s L H ef I A st n;subst hP hw hK;let eg j x y Y N J Q:=n;let f rv p hz:=I.list Y;let ac an p2 aI:=I.list N;let u t ru:=rv.get J;let u2 aS ap:=an.get Q;let kz kI{o1 o2 kO}k1 k2:=st;refine wpAny_pyNext_zip_item D kz kI kO k1 k2 p.isList p2.isList (x:=u) (y:=u2) (by simpa using t) (by simpa using aS) λh' a1 a2 a3 a4 a5 a6 g=>?_
  erw[57];refine wpAny_letOwnedTupleGo_zip a1 λO g1 al=>?_;let aa:Qc z h' O:=al;let lz:z<s.H.M.J:=P8 kz;let lI:TI<s.H.M.J:=P8 kI;let lO:TO<s.H.M.J:=P8 kO;let l1:i1<s.H.M.J:=by let _ q _:=k1;exact P8 q
  let l2:i2<s.H.M.J:=by let _ q _:=k2;exact P8 q
  let am:H s.H.M.J=kf:=I.hok.fresh (Lo _);let I0:mu (upd H s.H.M.J (.tup [x,y])) {s with heap:=s.H.o {cls:=.type "tuple",data:=.seq #[u,u2]},toks:=s.v} :=
   I.laid (t':=s.v) (λb u e=>Qm _ e) (Lo _) ⟨by show 2<=P7;decide,[u,u2],.cons ru (.cons ap .nil),⟨_,Qn _ U,U,_,U⟩⟩
  let av:∀ c∈[z,TI,TO,i1,i2],c<s.H.M.J:=λc T=>by
   simp only[Lw,Mr,or_false]at T;obtain rfl|rfl|rfl|rfl|rfl:=T<;>assumption
  let l:∀ c∈[z,TI,TO,i1,i2],upd H s.H.M.J (.tup [x,y]) c=kf:=λc T=>by
   rw[ao (LJ (av c T))];exact(A c T).1
  let I2:mu (upd H s.H.M.J (.tup [x,y])) {s with heap:=O,toks:=s.v}:=Inv.turnedL (s:={s with heap:=s.H.o {cls:=.type "tuple",data:=.seq #[u,u2]},toks:=s.v}) (h':=O) I0 (t':=s.v) (fp:=[z,TI,TO,i1,i2]) (λc o T q=>by
   let n1:c≠z:=λe=>T (by simp[e])
   let n3:c≠TO:=λe=>T (by simp[e])
   let n4:c≠i1:=λe=>T (by simp[e])
   let n5:c≠i2:=λe=>T (by simp[e])
   refine(aa.2 c n1).Q ?_;rcases fc.get?_push_cases q with⟨z1,z2⟩|q
   .simp!
   .exact g c o n1 n3 n4 n5 q) λc T=>⟨l c T,(A c T).2⟩
  erw[.ref s.H.M.J,_,I2,U,⟨s.H.M.J,x,y,am,U,U,λm h=>by rw[I.list_inj h Y];exact J,λm h=>by rw[I.list_inj h N];exact Q⟩,3,l]
  erw[g1,(aa.2 TI D.TIz).Q (g _ _ D.TIz D.TITO D.TIi1 D.TIi2 kI),⟨_,_,(aa.2 TO D.TOz).Q a2⟩,a3.at λo q=>(aa.2 i1 D.i1z).Q q,a4.at λo q=>(aa.2 i2 D.i2z).Q q]
 done:=by
  intro X hP hw hK T i B s L H ef I A st n;subst hP hw hK;let eg j Y N J:=n;let f rv p hz:=I.list Y;let ac an p2 aI:=I.list N;let kz kI{o1 o2 kO}k1 k2:=st;let C:=rv.L;let ab:=an.L;refine wpAny_pyNext_zip_end (I.ok.hd T) D kz kI kO k1 k2 p.isList p2.isList ?_ λh' eb=>⟨U,Inv.turnedL I (t':=s.v) (λc o T e=>eb c o (λe=>T (by simp[e])) (λe=>T (by simp[e])) (λe=>T (by simp[e])) (λe=>T (by simp[e])) e) A⟩
  simp!
 self:=λ_ _ _ _ _ st h=>wpAny_pyIter_zip st.1 h
theorem c9(x y:R)(h:¬ x=y):@Ne eN x y:=h
theorem BX(n a b:R)(o:a<n)(M:b<n):ZipApart (n+4) (n+2) (n+3) n (n+1) a b :=
 ⟨c9 _ _ ∅,c9 _ _ ∅,c9 _ _ ∅,c9 _ _ ∅,c9 _ _ ∅,c9 _ _ ∅,c9 _ _ ∅,c9 _ _ ∅,c9 _ _ ∅,
  c9 _ _ ∅,c9 _ _ ∅,c9 _ _ ∅,c9 _ _ ∅,c9 _ _ ∅,c9 _ _ ∅,c9 _ _ ∅,c9 _ _ ∅,c9 _ _ ∅⟩
def iZip(K:Ln)(d:TA):TI:=λL H ad=>d L H λn l=>∃ a b,n=[.ref a,.ref b]/\(∃ D,SqL K l a D)/\(∃ j,SqL K l b j)/\ad (Itz K a b) l
def CP{z Q:fm}{d:TA}{es:E fm}{k:R}{p:Pos}(O:Gl X "zip")(C:X.mg "zip"=kf)(o:PA X [z,Q] d)(hs:uP_ (Qd [z,Q] X.i=(j5,eval z X.i)::Qd [Q] X.i) uR_)(aa:uP_ ((backTo pos (Qd [Q] X.i)).any (·.1)=j5) uR_):
  PI X (.Tuple es k tp) (.Call (.Name "zip" p) [z,Q] [] pos) (iZip X.K d):=by
 intro B s L H ad I h;refine Call_ (gC I O C IM (Qo (thn (o pos B s L H _ I h) λx m ⟨n,l,i,w,ef⟩=>?_) hs aa));let a b e{D Y}{j N}q:=ef;subst e;let u u2 rfl A al:=Ji w
 cases A
 cases al
 let J rv p r:=i.list Y;let f ac v am:=i.list N;let la:a<m.H.M.J:=by let _ _ q _:=p;exact P8 q
 let lb:b<m.H.M.J:=by let _ _ q _:=v;exact P8 q
 refine call_zip_2 p.isList v.isList λeg kz kI kO M y t g=>?_;refine wpAny_pyIter_zip kz ?_
 erw[m.H.M.J+4,[m.H.M.J+4,m.H.M.J+2,m.H.M.J+3,m.H.M.J,m.H.M.J+1],5,l,U,i.kept (t':=m.v) g,
  Fu a b (m.H.M.J+4) (m.H.M.J+2) (m.H.M.J+3) m.H.M.J (m.H.M.J+1) (BX _ a b la lb),⟨kz,kI,⟨_,_,kO⟩,M,y⟩,λc T=>?_,q]
 let ab:m.H.M.J<=c:=by
  simp only[Lw,Mr,or_false]at T;obtain rfl|rfl|rfl|rfl|rfl:=T
  .exact MP _ _
  .exact MP _ _
  .exact MP _ _
  .exact Lo _
  .exact MP _ _
 exact i.fpOk ab (i.hok.fresh ab)
def wQ{b:eN}{g:TG}(Pv:R->E V->Hp->Prop)(hz:xs.L<=P7)(eg:zs.L=xs.L)(A:Pv 0 [] H1)(hl:∀ i ys H,i<=xs.L->Pv i ys H->nv a xs/\nv b zs)
  (hs:∀ i x z ys H T,xs[i]?=Z x->zs[i]?=Z z->Pv i ys H->H T=kf->g (.ref T) (Lz n kf++L) (upd H T (.tup [x,z])) λh H2=>h.drop n=L/\tt h H2 λb H3=>if b=i0 then Y h H3 (λy H4=>Pv (i+1) (ys++[y]) H4) else Pv (i+1) ys H3) (hd:∀ ys H,Pv xs.L ys H->QQ ys H) (Q:∀ i ys H,Pv i ys H->ys.L<=i)
  : iW g tt Y n L (Itz K a b) H1 QQ:=by
 erw[λi m ys H=>m=xs.L-i/\i<=xs.L/\Pv i ys H,⟨xs.L,by simp,LU _,A⟩,3]
 rintro i m ys H ⟨rfl,B,p⟩;let q:=hl i ys H B p;let c:=Q i ys H p;erw[16]
 by_cases j:i<xs.L
 .let d:i<zs.L:=by lia
  refine .inr ⟨⟨xs,zs,xs[i],zs[i],q.1,q.2,by simp,by simp⟩,λzs H2=>Pv (i+1) zs H2,λzs H2 I=>⟨xs.L-(i+1),∅,U,j,I⟩,λv C y=>?_⟩
  let T x z l rfl rfl o J:=y;exact hs i x z ys _ T (o xs q.1) (J zs q.2) p l
 .let e:i=xs.L:=by lia
  subst e;exact .inl ⟨⟨xs,zs,q.1,q.2,.inl (Lo _)⟩,hd ys H p⟩
inductive rMinL(K:Ln)(xs:E V)(H:L2.Hp)(Q:L2.VK):Prop
 |mk (p:eN)(ns:E G) (_:xs=[.ref p])(_:nv p (ns.h V.int))(_:0<ns.L)(_:∀ m:G,m∈ns->(∀ x∈ns,m<=x)->Q (.int m) H)
def wV(T:X.calm=i0):iJ X (.builtin "min") (rMinL X.K):=by
 intro B s L H D x Q I r h;let p k rfl d n q:=h;let u rfl i:=kJ r
 cases i
 let J rv A b:=I.list d;let N:=As rv;let m e:=N.allInts.items;let C:s.H.IsList p (intItems m):=by rw[← e];exact A.isList
 let f:k=m.n.h (·.1):=by
  rw[← nums_intItems,← e];exact(show numsOf J.toArray.n=k from N.numsOf).Y
 subst f;rw[Lp,L4]at n;refine min_intList (I.ok.hd T) C n λv M c l g=>?_;let t rfl:=intItems_at l;let Y O:=argBest_lt (numAt m) (m.J-1);erw[.int _,H,I.kept (t':=c) g,⟨t,U⟩,q _ ?_ λa o=>?_]
 .rw[numAt_eq];exact PySem.getD_mem (by rw[Lp,L4];lia)
 .let j eg rfl:=PySem.mem_getD o;rw[Lp,L4]at eg;rw[← numAt_eq];exact O j ∅
def LsAt{α:Type}(ad:Hp->V->α->Prop)(H:Hp)(ys:E V)(xs:E α):Prop:=ys.L=xs.L/\∀(i:R)(x:α),xs[i]?=Z x->∃ y,ys[i]?=Z y/\ad H y x
theorem LsAt.nil{ad:Hp->V->α->Prop}:LsAt ad H [] []:=⟨U,λi x e=>by simp at e⟩
theorem LsAt.imp{ad c:Hp->V->α->Prop}{xs:E α}(h:LsAt ad H ys xs)(m:∀ y x,ad H y x->c H' y x):LsAt c H' ys xs:=⟨h.1,λi x e=>by
 let y a b:=h.2 i x e
 erw[y,a,m y x b]⟩
def LsAt.snoc{ad:Hp->V->α->Prop}{xs:E α}{x:α}(h:LsAt ad H ys xs)(r:ad H y x):LsAt ad H (ys++[y]) (xs++[x]):=by
 erw[by rw[Ls,Ls,h.1];rfl,λj k e=>?_]
 by_cases I:j<xs.L
 .rw[Lu I]at e;let p T n:=h.2 j k e;erw[p,by rw[Lu (by rw[h.1];exact I)];exact T,n]
 .rw[Lq ∅]at e
  let b:j=xs.L:=by
   let:=(Ll.mp e).1;rw[LZ]at this;lia
  subst b;rw[Mb]at e
  cases e
  erw[y,by rw[← h.1,Lq (Lo _),Mb];rfl,r]
def LsAt.get{ad:Hp->V->α->Prop}{xs:E α}(h:LsAt ad H ys xs)(e:ys[i]?=Z y):∃ x,xs[i]?=Z x/\ad H y x:=by
 let B:i<xs.L:=by rw[← h.1];exact(Ll.mp e).1
 let z a b:=h.2 i _ (Lj B);rw[e]at a
 cases a
 erw[_,Lj B,b]
theorem B2:∀{ys:E V}{us:E eK},ys.L=us.L->(∀(i:R)(y:V)(u:eK),ys[i]?=Z y->us[i]?=Z u->RelV y u)->Vals ys us
 |[],[],_,_=>.nil
 |[],_::_,e,_=>by cases e
 |_::_,[],e,_=>by cases e
 |y::ys,u::us,e,h=>.cons (h 0 y u U U) (B2 (OD e) λi y u a b=>h (i+1) y u a b)
def nP{p p2 ac:Pos}(T:X.calm=i0)(O:Gl X "list")(C:X.mg "list"=kf)(am:Gl X "range")(al:X.mg "range"=kf)(eg:PE X e Y)(m:uP_ (Qd [.Call (.Name "range" p2) [e] [] ac] X.i=[(j5,eval (.Call (.Name "range" p2) [e] [] ac) X.i)]) uR_)(h2:uP_ (Qd [e] X.i=(j5,eval e X.i)::Qd [] X.i) uR_):
  PE X (.Call (.Name "list" p) [.Call (.Name "range" p2) [e] [] ac] [] pos) (λL H Q=>Y L H λx H1=>∃ n:R,x=.int (n:G)/\n<=1000/\∀ q,H1 q=kf->Q (.ref q) (upd H1 q (.lst ((LD n).h λ(i:R)=>V.int ((i:R):G))))):=by
 intro B s L H Q I h;refine Qz (gC I O C jL ?_);refine Qo ?_ m U;rw[m];refine Qx ?_;refine Qz (gC I am al boot_range ?_);refine Qo ?_ h2 U;rw[h2];refine Qx (thn (eg B s L H _ I h) λu r ⟨x,H1,f,w,ef⟩=>?_);let n rfl A q:=ef;let t rfl:=w;refine Qw ?_;refine call_range_1 ?_;refine Qw ?_;let z:mu H1 {r with heap:=r.H.o {cls:=.type "range",data:=.fields #[.int 0 r.v,.int (n:G) t,.int 1 (r.v+1)]},toks:=r.v+1+1}:=f.kept λb o e=>Qm _ e;refine call_list_range (n:=n) (I.ok.hd T) (IsRange.new ..) (small_one ∅ ∅ ∅ ∅) (by rw[rangeSize_one];lia) ∅ λM D c k g hS aa=>?_
 let I3:mu H1 {r with heap:=M,toks:=D}:=z.kept (t':=D) λb o e=>g b o e;let fS:=z.fpOk (H':=H1) (Lo _) (z.hok.fresh (Lo _));let d:((LD n).h λ(i:R)=>V.int ((i:R):G)).L<=P7:=by
  rw[Lp,L7];exact Mi A ∅
 let l:Vals ((LD n).h λ(i:R)=>V.int ((i:R):G)) c.n:=by
  refine B2 (by rw[Lp,L7,L4,aa.1]) λi y u a b=>?_
  rw[Mp]at b;let ab e:=aa.2 i u b;rw[Lx]at a;let j J v:=LC.mp a;let N:i<n:=by
   let:=(Ll.mp J).1;rwa[L7]at this
  rw[Ob N]at J
  cases J
  subst v;subst e;erw[ab,by simp!]
 let I4:=I3.track (o:=.lst ((LD n).h λ(i:R)=>V.int ((i:R):G))) fS ⟨d,c.n,k,l,∅⟩
 erw[.ref _,_,I4,U,q _ fS.1]
def C6(eg:X.A.units+64<cLine):OpR X (Qf .NotEq) (λx y H Q=>∃ d1 t,RdD X.K H x d1/\RdD X.K H y t/\SeqAt.shaped d1=i0/\SeqAt.shaped t=i0/\Q (.bl (!ge.eqv d1 t)) H):=by
 intro B s L H x y v u Q I T c h;let d1 t g a Y O q:=h;let as ef:=g.reads I v T;let bs p:=a.reads I u c;exact ne_dataH ef p Y O eg ⟨.bl _,H,I,U,q⟩
theorem qi:∀(a b:E G),ge.eqvAll (a.h ge.int) (b.h ge.int)=decide (a=b)
 |[],[]=>by rfl
 |[],y::b=>by rfl
 |x::a,[]=>by rfl
 |x::a,y::b=>by
  rw[LR,LR];simp only[ge.eqvAll,ge.eqv,qi a b];by_cases h:x=y
  .simp!
  .simp[h]
def AG(a b:E G):ge.eqv (.list (a.h ge.int)) (.list (b.h ge.int))=decide (a=b):=by
 rw[← qi];rfl
section
variable{X:Cx}{tg:fm}
end
structure FunD(K:Ln)(x qual:ff)(st:fo)(f:eN)(fd:fk)(items:io eK):Prop where
 ex:∃(oc:eK)(od:ii eN)(d:eN)(kV doc pm:eK)(an:ii eN)(cdv ct:eK)(osl:io (ii eK)),
  fd=Mq x qual (bQ st) (bq st) (aq st) (.ref d) kV doc pm an cdv ct/\K.Z f=Z ⟨oc,od,.func fd,osl⟩/\MD K cdv qual=i0/\∃ o n,K.Z d=Z o/\o.data=.seq items n
 kp:L9 K (.ref f)=i0
def FunD.binds{j:ff}{st:fo}{ds:E eK}(F:FunD K x j st f fd items)(h:∀(H kV B T:eK)(p:ii eN)(g ct:eK)(us:E eK),(us++ds).L=ps.L->∃ k,bindArgs (Mq x j (bQ st) (bq st) (aq st) H kV B T p g ct) ⟨us,[]⟩=seqItems? H >>= k/\k (Z items)=pure (ps.zip (us++ds))):dY K fd ps ds:=by
 let l m d kV B T p g ct b rfl v z o n D L:=F.ex;intro s us X C;let k Y O:=h (.ref d) kV B T p g ct us C;exact BindsTo.of_defaults U (X _ _ D) L Y O
theorem D9{j:ff}{st:fo}{d:eN}{m p:ii eN}{b:io (ii eK)}{kV B T g:eK}(l:K.Z f=Z ⟨u,m,.func (Mq x j (bQ st) (bq st) (aq st) (.ref d) kV B T p g ct),b⟩)(c:MD K g j=i0)(k:L9 K (.ref f)=i0)(ld:K.Z d=Z o)(hs:o.data=.seq items n):FunD K x j st f (Mq x j (bQ st) (bq st) (aq st) (.ref d) kV B T p g ct) items:=⟨⟨u,m,d,kV,B,T,p,g,ct,b,U,l,c,o,n,ld,hs⟩,k⟩
section
variable{prog:fI}{w:hx}{A:Around}{ef:eK->e9->Prop}{s:e9}{d:eN}
def Ent(h:fc)(d:eN)(es:io DictEntry)(ep:R):Prop:=∃ o,h.R d=Z o/\o.ExactDict/\o.data=.dict es ep
def Ent.ty{es:io DictEntry}(x:Ent s.H d es ep):s.TypeIs (.ref d) "dict":=by
 let o Y O _:=x;erw[o,Y,O.1]
theorem AH(hd:(d == sysModules)=j5):MeetsIn prog w (hX.«dict.items» ⟨[.ref d],[]⟩) (λ_ ad s=>(∃ es ep,Ent s.H d es ep)/\ad (.ok (.ret (.ref s.H.M.J))) {s,s.H.o {cls:=.type "dict_items",data:=.fields #[.ref d]}}) :=
 .of_wp λA ad s ⟨⟨es,ep,C⟩,h⟩=>by
  unfold hX.«dict.items» hX.Dict.noArgs;refine Qi (Qi (wpAny_notOrdered_dict C.ty ?_));show wpAny _ _ (pure d) _ _ s;refine Ql ?_;show wpAny _ _ (hX.Dict.showsAll d >>= _) _ _ s;unfold hX.Dict.showsAll;rw[Rx (by simp[hd])]
  exact Qi (Ql (Qi (QN (Ql ⟨_,U,h⟩))))
def AI{v:eN}{es:io DictEntry}(hv:s.H.IsItemsView v d)(C:Ent s.H d es ep)(H:Q (.ref s.H.M.J) {s,s.H.o {cls:=.type "dict_itemiterator",data:=.fields #[.none,.bool j5,.ref d,.int 0 0,.int es.J 0,.int ep 0,.none,.none]}}):
  lf A (pyIter (.ref v)) Q ef s:=by
 let N Y O B:=id hv;let o f J r:=C;refine wpAny_pyIter_slot hv.typeIs F.slot_dict_items_iter (QO F.slot_dict_items_iter hv.typeIs F.entry_dict_items_iter ?_ (F.args_dict_items_iter_1 _));show wpAny _ _ (hX.«dict_items.__iter__» _) _ _ s;unfold hX.«dict_items.__iter__» hX.Dict_items.dictOf hX.Dict_items.newIterator;refine Qi (Ql (Qi (Qi (wpAny_field Y B (x:=.ref d) U (Ql (Qi (Qi (wpAny_dictEntries f r (Qi (wpAny_dictEpoch f r ?_))))))))));simp -iota only[show QP "dict_itemiterator"=i0 by decide,if_true]
 refine QN (Ql ⟨_,U,"dict_itemiterator",_,⟨_,Qn _ U,U⟩,F.slot_dict_itemiterator_next.Z,?_⟩)
  (by simp only[sizeOk,hX.Dict_items.ownedTupleFields,Mc,Ls,My,NF,sizeLine_eq];lia)
 simpa[rawInt,hX.Dict_items.ownedTupleFields] using H
def qj{es:io DictEntry}{ok ov:eK}{Q:ii eK->e9->Prop}(O:IsItemIter s.H it d i es.J ep ok ov)(C:Ent s.H d es ep)(L:A.handled=kf)(Y:∀ e,es[i]?=Z e->∀ h',IsItemIterOut h' it d (i+1) es.J ep e.key e.val s.H.M.J->h'.R s.H.M.J=Z {cls:=.type "tuple",data:=.seq #[e.key,e.val]}->(∀ b o,b≠it->s.H.R b=Z o->h'.R b=Z o)->Q (Z (.ref s.H.M.J)) {s,h'})(c:es[i]?=kf->∀ h',fc.ExtBut it s.H h'->Q kf {s,h'}):lf A (pyNext (.ref it)) Q ef s:=by
 let o f J B:=C;let l:s.TypeIs (.ref it) "dict_itemiterator":=⟨_,O,U⟩;let own:QP "dict_itemiterator"=i0:=by rfl
 unfold pyNext;refine Qi (wpAny_attempt (QR (name:=ff.ofString "__next__") l F.slot_dict_itemiterator_next (QO F.slot_dict_itemiterator_next l F.entry_dict_itemiterator_next ?_ (F.args_dict_itemiterator_next_1 _))));refine Qi (Ql (Qi (Qi (Qi (QS l (Ql ?_))))));refine Qi (wpAny_fieldsOf O U ?_);simp -iota only[own,if_true];show wpAny _ _ (if(eK.ref d == eK.none)=i0 then _ else _) _ _ _;rw[Rx (show ¬ ((eK.ref d == eK.none)=i0) from LS)];refine Qi (Ql (Qi (wpAny_dictEntries f B ?_)));rw[Rx (by simp)]
 refine Qi (Ql (Qi (wpAny_dictEpoch f B ?_)));rw[Rx (by simp)]
 refine Ql ?_;let n0:¬ ((i:G)<0):=by lia
 simp only[n0,if_false,Ly]
 cases eg:es[i]? with
 |none =>
  refine Qi (Qi (QS l (Ql ?_)));show wpAny _ _ (setField (.ref it) 2 .none >>= _) _ _ s;refine Qi (wpAny_setField O U (by simp) ?_)
  show wpAny _ _ (newExc (.type "StopIteration") [] >>= _) _ _ _;refine Qi ?_;simp only[newExc,newTuple];refine Qi (QN (Qi (m:=firstArgMember _ _) (wpAny_of_eq (a:=eK.none) (by rfl) (QN ?_ (by size_fits)))) (by size_fits))
  simp -iota only[raiseNew];refine Qi (wpAny_handled ?_);rw[show A.in1.handled=kf from L];refine Qi (Ql (wpAny_throw ?_));refine Qi (QK (T:="StopIteration") (b:=i0) ⟨_,Qn _ U,U⟩ isSubtype_stop (Ql ?_));exact c eg _ (((QT ..).X.o _).o _)
 |some e =>
  refine Qi (Qi (QS l (Ql ?_)));refine Qi (QU l ?_);show wpAny _ _ (setField (.ref it) 3 (rawInt ((i:G)+1)) >>= _) _ _ s;refine Qi (QV O (by simp) λN r D=>?_)
  let c1:((i+1:R):G)=(i:G)+1:=by lia
  let aa:IsItemIter N it d (i+1) es.J ep ok ov:=by
   unfold IsItemIter;rw[c1];simpa[rawInt] using r
  let lt:it<s.H.M.J:=P8 O;let H:N.M.J=s.H.M.J:=D.1;let ab:e9.TypeIs {s,N} (.ref it) "dict_itemiterator":=⟨_,aa,U⟩;refine Qi (Qj (Qi (QU ab (Qi (QU ab ?_)))));show wpAny _ _ (QW (.ref it) 6 e.key e.val) _ _ {s,N};unfold QW hX.Dict_items.ownedTupleIsFree;refine Qi (wpAny_newTuple ?_);let p:IsItemIter (N.o {cls:=.type "tuple",data:=.seq #[e.key,e.val]}) it d (i+1) es.J ep ok ov:=Qm _ aa;let n:(N.o {cls:=.type "tuple",data:=.seq #[e.key,e.val]}).R s.H.M.J=Z {cls:=.type "tuple",data:=.seq #[e.key,e.val]}:=by rw[← H];exact Qn _ U
  let y:∀ b o,b≠it->s.H.R b=Z o->(N.o {cls:=.type "tuple",data:=.seq #[e.key,e.val]}).R b=Z o:=λb o M q=>Qm _ (D.X b o M q);rw[H];generalize N.o {cls:=.type "tuple",data:=.seq #[e.key,e.val]}=u at p n y;show wpAny _ _ (_ >>= _) _ _ {s,u};refine Qi (Qi (wpAny_field p U (x:=.none) U (Ql ?_)));simp -iota only[if_true];refine Qi (wpAny_field p U (x:=ok) U (Qi (wpAny_field p U (x:=ov) U ?_)));refine Qi (QV p (by simp) λj t v=>?_)
  replace t:IsItemIter j it d (i+1) es.J ep e.key ov:=t;refine Qi (QV t (by simp) λk I h=>?_)
  replace I:IsItemIter k it d (i+1) es.J ep e.key e.val:=I;refine Qi (QV I (by simp) λg5 z k5=>?_)
  replace z:IsItemIterOut g5 it d (i+1) es.J ep e.key e.val s.H.M.J:=z;refine Qi (QV z (by simp) λg6 g k6=>?_)
  replace g:IsItemIterOut g6 it d (i+1) es.J ep e.key e.val s.H.M.J:=g;let up:∀ b o,b≠it->u.R b=Z o->g6.R b=Z o:=λb o M q=>k6.X b o M (k5.X b o M (h.X b o M (v.X b o M q)));exact Qi (QX (Ql (Ql ⟨_,U,Ql (Y e eg g6 g (up _ _ (Mz lt) n) λb o M q=>up b o M (y b o M q))⟩)))
end
def iQ(v d:eN):HO:=.ext λh=>h.IsItemsView v d
def KvA(H:Hp)(u:HO)(i:R)(x y:V):Prop:=(∃ N k,u=.dK N/\N[i]?=Z (k,y)/\x=kV k)∨∃ N k t,u=.dT N/\N[i]?=Z (k,y)/\x=.ref t/\H t=Z (.tup (k.h kV))
def dlen:HO->R
 |.dK N=>N.L
 |.dT N=>N.L
 |_=>0
def vS:HO->Prop
 |.dK _=>True
 |.dT _=>True
 |_=>False
theorem my{α j:Type}{F:α->j->Prop}:∀{c:E α}{d:E j},Paired F c d->∀{i:R}{b:j},d[i]?=Z b->∃ a,c[i]?=Z a/\F a b
 |_,_,.nil,i,b,e=>by simp at e
 |_,_,.cons r t,0,b,e=>⟨_,U,by cases e;exact r⟩
 |_,_,.cons r t,i+1,b,e=>my t (i:=i) e
def mQ{d:eN}{u:HO}(hd:vS u)(x:bu P w H h d u):(d == sysModules)=j5/\∃ es ep,Ent h d es ep/\es.J=dlen u/\∀ i e,es[i]?=Z e->∃ x y,KvA H u i x y/\RelV x e.key/\RelV y e.val:=by
 cases u with
 |dK N =>
  let b lo n M o es ep Y O ef m I a:=x;let s:N.L=n.L:=Paired.length M;let sz:es.J=n.L:=by rw[← I.L,L4]
  erw[lo,es,ep,⟨o,Y,O,ef⟩,by rw[sz];exact s.Y,λi e eg=>?_]
  let B:i<n.L:=by
   let:i<es.J:=(Oe.mp eg).1;lia
  let{k v}l:∃ q,n[i]?=Z q:=⟨_,Lj B⟩;let g aa:=I.R (e:=e) (by rw[Mp];exact eg) l
  let{L y}Q T C:=my M l;let p:L=k:=T;subst p;erw[kV L,y,.inl ⟨N,L,U,Q,U⟩,3,by rw[aa];exact C]
  rcases aY (show pU L e.key=i0 from g) with⟨j,t,f,A⟩|⟨z,t,f,A⟩
  .rw[f,A];erw[t,U]
  .rw[f,A];erw[t,U]
 |dT N =>
  let b lo D r o es ep Y O ef m I:=x;let sz:es.J=D.L:=by rw[← L4,m,Lp]
  erw[lo,es,ep,⟨o,Y,O,ef⟩,by rw[sz];exact r.L.Y,λi e eg=>?_]
  let f:es.n[i]?=Z e:=by rw[Mp];exact eg
  rw[m,Lx]at f
  cases J:D[i]? with
  |none=>rw[J]at f;cases f
  |some q =>
   rw[J]at f
   cases f
   let{k y}Q T c C:=my r J;erw[.ref q.2.1,y,.inr ⟨N,k,q.2.1,U,Q,U,c⟩,U,C]
 |_=>exact hd.elim
section
variable{X:Cx}{pins:E (eN×hb)}{σ:St}{H:Hp}{s:e9}{d:eN}{u:HO}{o:hb}
def vS.notT(h:vS u):(∀ xs,u≠.tup xs)/\(∀ o v,u≠.frz o v)/\(∀ ps,u≠.tbl ps)/\∀ a,u≠.own a:=by
 cases u<;>first|exact h.elim|erw[λ_=>by simp,λ_ _=>by simp,λ_=>by simp,λ_=>by simp]
theorem HOk.frz{P:fI}{w:hx}{h:fc}(x:HOk P w H h)(hd:H d=Z u)(eg:vS u)(e:h.R d=Z o):HOk P w (upd H d (.frz o u)) h:=λb v q=>by
 let i N Q f:=eg.notT;let g:∀ c y,H c=Z (.own y)->upd H d (.frz o u) c=Z (.own y):=λc y r=>by rw[ao (A6 r hd λz=>f y z.Y)];exact r
 let a:∀ c D,H c=Z (.tup D)->upd H d (.frz o u) c=Z (.tup D):=λc D r=>by rw[ao (A6 r hd λz=>i D z.Y)];exact r
 by_cases M:b=d
 .subst M;rw[af]at q
  cases q
  erw[e,(x b u hd).stay (λ_ _ _ r=>r) (λc r=>g c b r) a]
 .rw[ao M]at q;exact(x b v q).stay (λ_ _ _ r=>r) (λc r=>g c b r) a
def Inv.freeze(I:Inv X pins σ H s)(hd:H d=Z u)(eg:vS u)(e:s.H.R d=Z o):Inv X pins σ (upd H d (.frz o u)) s:=by
 let i N Q f:=eg.notT;exact I.step (H':=upd H d (.frz o u)) (h':=s.H) (g':=s.gens) (d':=s.drawn) (t':=s.v) (ch:=[]) (λ_ z=>nomatch z) (λb _ _ _ _ q _=>q) (λb g _ _ _ q _=>⟨g.slots,q⟩)
  (λb _ _ _ n=>by rw[ao (aB hd n).Y];exact n) (λb g _ q=>⟨g,q⟩) (λb D r=>by rw[ao (A6 r hd λz=>i D z.Y)];exact r)
  (λb g v r=>by rw[ao (A6 r hd λz=>N g v z.Y)];exact r) (λb T r=>⟨#[],by rw[ao (A6 r hd λz=>Q T z.Y),r];simp⟩) (λ_ q=>q) (I.hok.frz hd eg e) I.bare
def Gw:MtR X "dict.items" (λx xs H Q=>∃ d u,x=.ref d/\xs=[]/\H d=Z u/\vS u/\∀ v,H v=kf->Q (.ref v) (upd H v (iQ v d))):=by
 intro pins s σ H x xs v j Q I T rv h;let d u rfl rfl hd eg q:=h
 cases T
 let a:=rv.zero;subst a;let lo y f C _:=mQ eg (I.hok d _ hd);refine call_meetsIn NQ C.ty PN (PD _) (AH lo) ⟨⟨y,f,C⟩,?_⟩;let l:(s.H.o {cls:=.type "dict_items",data:=.fields #[.ref d]}).IsItemsView s.H.M.J d:=⟨_,Qn _ U,U,U⟩;erw[.ref s.H.M.J,_,I.laid (t':=s.v) (λb o e=>Qm _ e) (Lo _) ?_,U,q _ (I.hok.fresh (Lo _))];erw[l,⟨_,Qn _ U⟩,λY O x k=>let ⟨o,D,r⟩:=x;⟨o,k _ D,r⟩]
end
def Itd(o:hb)(u:HO)(d:eN):It :=
 ⟨λi H=>H d=Z (.frz o u)/\i<dlen u,
  λi H v eg=>∃ T x y,H T=kf/\v=.ref T/\eg=upd H T (.tup [x,y])/\KvA H u i x y,
  λi H=>H d=Z (.frz o u)/\dlen u<=i⟩
theorem AZ{el:E fm}{kk:R}(o:hb)(u:HO)(d I:eN)(t:vS u)(es:io DictEntry)(ep:R)(J:o.ExactDict)(D:o.data=.dict es ep):Turn P w K (.Tuple el kk pos) (Itd o u d) [I] I
  (λi h=>∃ ok ov,IsItemIter h I d i es.J ep ok ov) where
 mem:=by simp
 obj:=λi h st b M=>by
  let ok ov eg:=st;rw[LB.mp M];erw[_,eg,λv z=>by contradiction]
 keep:=λi h h' st kk=>by
  let ok ov eg:=st;erw[ok,ov,kk I (by simp) _ eg]
 item:=by
  intro X hP f hK T i B s L H ef Iv A st n;subst hP f hK;let hd N:=n;let ok ov eg:=st;let j g2:=(show bu X.e X.w H s.H d (.frz o u) from Iv.hok d _ hd);let _ ab an{o' r p q3}sz al:=mQ t g2;rw[j]at r
  cases r
  rw[D]at q3
  cases q3
  let lt:I<s.H.M.J:=P8 eg;refine qj eg ⟨o,j,J,D⟩ (Iv.ok.hd T) (λe av h' aa Y g=>?_) (λz=>by simp!)
  erw[57];refine wpAny_letOwnedTupleGo_items aa λO ap ac=>?_;let x y kv a c:=al i e av;let am:H s.H.M.J=kf:=Iv.hok.fresh (Lo _);let I0:mu (upd H s.H.M.J (.tup [x,y])) {s with heap:=s.H.o {cls:=.type "tuple",data:=.seq #[e.key,e.val]},toks:=s.v} :=
   Iv.laid (t':=s.v) (λb u e=>Qm _ e) (Lo _) ⟨by show 2<=P7;decide,[e.key,e.val],.cons a (.cons c .nil),⟨_,Qn _ U,U,_,U⟩⟩
  let l:∀ b∈[I],upd H s.H.M.J (.tup [x,y]) b=kf:=λb M=>by
   rw[ao (by rw[LB.mp M];exact LJ lt)]
   exact(A b M).1
  let m:mu (upd H s.H.M.J (.tup [x,y])) {s with heap:=O,toks:=s.v}:=Inv.turnedL (s:={s with heap:=s.H.o {cls:=.type "tuple",data:=.seq #[e.key,e.val]},toks:=s.v}) (h':=O) I0 (t':=s.v) (fp:=[I]) (λb ob M q=>by
   let nb:b≠I:=λz=>M (by simp[z])
   refine(ac.2 b nb).Q ?_;rcases fc.get?_push_cases q with⟨C,Q⟩|q
   .rw[C,Q];exact Y
   .exact g b ob nb q) λb M=>⟨l b M,(A b M).2⟩
  erw[.ref s.H.M.J,_,m,U,⟨s.H.M.J,x,y,am,U,U,kv⟩,⟨_,_,ap⟩,l]
 done:=by
  intro X hP f hK T i B s L H ef Iv A st n;subst hP f hK;let hd N:=n;let ok ov eg:=st;let j g2:=(show bu X.e X.w H s.H d (.frz o u) from Iv.hok d _ hd);let _ ab an{o' r p q3}sz al:=mQ t g2;rw[j]at r
  cases r
  rw[D]at q3
  cases q3
  let f0 k f2 f3 f4 f5:=A I (by simp)
  refine qj eg ⟨o,j,J,D⟩ (Iv.ok.hd T) (λe av=>by simp!) (λ_ h' g=>⟨U,Iv.turned (t':=s.v) (λb o M e=>g b o M e) f0 k f3 f4 f5⟩)
 self:=λ_ _ _ _ _ st h=>by
  let ok ov eg:=st;exact PySem.W.kcp_self eg h
def Eb{u:HO}{d:eN}{g:TG}(Pv:R->St->Hp->Prop)(A:Pv 0 L H)(hl:∀ i L H,i<=dlen u->Pv i L H->H d=Z (.frz o u))(hs:∀ i x y L H T,i<dlen u->KvA H u i x y->Pv i L H->H T=kf->g (.ref T) L (upd H T (.tup [x,y])) λh H2=>tb (D.lop (Pv (i+1))) h H2)(hd:∀ L H,Pv (dlen u) L H->D.nx L H):
  ∃ W:R->R->St->Hp->Prop,(∃ m,W 0 m L H)/\∀ i m L H,W i m L H ->
   ((Itd o u d).stop i H/\D.nx L H)∨((Itd o u d).go i H/\∃ N:St->Hp->Prop,(∀ σ' H',N σ' H'->∃ a,a<m/\W (i+1) a σ' H')/\∀ x H',(Itd o u d).yld i H x H'->g x L H' λh H2=>tb (D.lop (N)) h H2):=by
 erw[λi m L H=>m=dlen u-i/\i<=dlen u/\Pv i L H,⟨dlen u,by simp,LU _,A⟩,3]
 rintro i m L H ⟨rfl,B,p⟩;let q:=hl i L H B p;by_cases j:i<dlen u
 .refine .inr ⟨⟨q,j⟩,Pv (i+1),λσ' H' I=>⟨dlen u-(i+1),∅,U,j,I⟩,λv H' y=>?_⟩
  let T x z l rfl rfl w:=y;exact hs i x z L _ T j w p l
 .let e:i=dlen u:=by lia
  subst e;exact .inl ⟨⟨q,Lo _⟩,hd L H p⟩
section
open PySem.W
end
section
open PySem.W
variable{prog:fI}{w:hx}{A:Around}{ef:eK->e9->Prop}{s:e9}
def PrV(h:fc)(v:eK):Prop:=∃ a o n x y g ty,v=.ref a/\h.R a=Z o/\o.cls=.type "tuple"/\o.data=.seq #[.int x g,.int y ty] n
def PrV.keep{v:eK}(p:PrV h v)(k:∀ b o,v=.ref b->h.R b=Z o->h'.R b=Z o):PrV h' v:=by
 let a o n x y g ty rfl Y r i:=p;erw[a,o,n,x,y,g,ty,U,k _ _ U Y,r,i]
theorem Al{M:Model}:∀{vs:E eK},(∀ v∈vs,PrV s.H v)->∃ fs,KatTups s.H vs fs/\fs.L=vs.L/\∀ v∈fs,Looks M s.H (typeOf v) (.type "int")
 |[],_=>⟨[],trivial,U,λv H=>nomatch H⟩
 |v::vs,h=>by
  let fs Y O ef:=Al (M:=M) (vs:=vs) λu eg=>h u (Lr _ eg);let a o n x y g ty rfl D f C:=h v (Lv ..);erw[.int x g::fs,KatTups.cons D f C U Y,by simp[*],λu eg=>?_]
  obtain rfl|eg:=Lw.mp eg
  .exact .now
  .exact ef u eg
end
theorem zR:∀{ys:E V}{us:E eK},Vals ys us->∀ u∈us,∃ y∈ys,RelV y u
 |_,_,.nil,u,h=>nomatch h
 |_,_,.cons (a:=y) r t,u,h=>by
  obtain rfl|h:=Lw.mp h
  .erw[y,Lv ..,r]
  .let z d b:=zR t u h;erw[z,Lr _ d,b]
theorem u9{ys:E V}{us:E eK}(r:Vals ys us):∀{out:E eK},(∀ u∈out,u∈us)->∃ zs,Vals zs out/\zs.L=out.L/\∀ z∈zs,z∈ys
 |[],_=>⟨[],.nil,U,λz h=>nomatch h⟩
 |u::out,h=>by
  let zs g s a:=u9 r (out:=out) λx J=>h x (Lr _ J);let y Q c:=zR r u (h u (Lv ..))
  erw[y::zs,.cons c g,by simp[*],λz d=>by
   obtain rfl|d:=Lw.mp d
   .exact Q
   .exact a z d]
section
variable{prog:fI}{w:hx}{K:Type} [DecidableEq K] {knd:KeyKind prog w K} {A:Around} {ef:eK->e9->Prop} {s:e9}
end
section
variable{X:Cx}{o e f:fm}{apos cpos:Pos}{td ty tx:TE}
end
def Itk(o:hb)(kvs:E (Key×V))(d:eN):It :=
 ⟨λi H=>H d=Z (.frz o (.dK kvs))/\i<kvs.L,λi H v eg=>∃ k y,kvs[i]?=Z (k,y)/\v=kV k/\eg=H,λi H=>H d=Z (.frz o (.dK kvs))/\kvs.L<=i⟩
def rD{d:eN}{es:io DictEntry}(x:bu P w H h d (.frz o (.dK kvs)))(eg:o.data=.dict es ep):(d == sysModules)=j5/\∃ vs,KV kvs vs/\h.DictAt (bx P w) d vs ep:=by
 let N b lo vs M j i l Y O ef r:=x;rw[N]at Y
 cases Y
 rw[eg]at ef
 cases ef
 erw[lo,vs,M,o,es,N,O,eg,r]
theorem B6{tg:fm}(o:hb)(kvs:E (Key×V))(d it:eN)(es:io DictEntry)(ep:R)(eg:o.data=.dict es ep):Turn P w K tg (Itk o kvs d) [it] it (λi h=>h.IsKeyIter it d i kvs.L ep) where
 mem:=by simp
 obj:=λi h st b M=>by
  let e:b=it:=by simpa using M
  subst e;let o e c d:=st;erw[o,e,λv z=>by simp!]
 keep:=λi h p st k=>by
  let o e r:=st;erw[o,k it (by simp) o e,r]
 item:=by
  intro X hP x hK T i B s L H ef I A st O;subst hP x hK;let hd N:=O;let lo n rk ab:=rD (I.hok d _ hd) eg;let C:kvs.L=n.L:=Paired.length rk;let f0 a D f3 f4 f5:=A it (by simp)
  let{k v}l:∃ q,n[i]?=Z q:=⟨_,Lj ∅⟩
  let{k' y}m ek J:=my rk l;let al:k'=k:=ek;subst al;refine wpAny_pyNext_dict_item (C▸st) ab l λaa p g ac sb=>?_;let f:mu H {s,p}:=I.turned (t':=s.v) (λb o M e=>(sb.2 b M).Q e) f0 a f3 f4 f5;let o2 e c dd:=id ac;erw[aa,U,D8 (s:={s,p}) e c dd ∅ ⟨kV k',H,f,?_,⟨k',y,m,U,U⟩,C.Y▸ac,λb M=>(A b M).1⟩]
  rcases aY (show pU k' aa=i0 from g) with⟨j,t,rfl,rfl⟩|⟨z,t,rfl,rfl⟩
  .erw[t,U]
  .erw[t,U]
 done:=by
  intro X hP x hK T i B s L H ef I A st O;subst hP x hK;let hd N:=O;let lo n rk ab:=rD (I.hok d _ hd) eg;let C:kvs.L=n.L:=Paired.length rk;let f0 a D f3 f4 f5:=A it (by simp)
  exact wpAny_pyNext_dict_end (I.ok.hd T) (C▸st) ab (Mv ∅) λp u=>⟨U,I.turned (t':=s.v) (λb o M e=>u b o M e) f0 a f3 f4 f5⟩
 self:=λ_ _ s Q _ st h=>by
  let Y:s.TypeIs (.ref it) "dict_keyiterator":=st.typeIs;refine wpAny_pyIter_slot Y F.slot_dict_keyiterator_iter (QO F.slot_dict_keyiterator_iter Y F.entry_dict_keyiterator_iter ?_ (F.args_dict_keyiterator_iter_1 _));show wpAny _ _ (ret (.ref it)) _ _ s;exact Ql ⟨_,U,"dict_keyiterator",_,Y,F.slot_dict_keyiterator_next.Z,h⟩
def iKeys(p:TE):TI:=λL H ad=>p L H λx l=>∃ d N,x=.ref d/\l d=Z (.dK N)/\∀ o,ad (Itk o N d) (upd l d (.frz o (.dK N)))
def JR{tg:fm}(eg:PE X e Y):PI X tg e (iKeys Y):=by
 intro B s L H ad I h;refine thn (eg B s L H _ I h) λv m c=>?_;let x l i g ef:=c;let d N rfl hd q:=ef
 cases g
 let _ J f D sz _:=mQ (u:=.dK N) True.intro (i.hok d _ hd);let o ef p t:=id D;let z:=i.freeze hd True.intro ef;let lo n a y:=rD (z.hok d _ af) t;let C:N.L=n.L:=Paired.length a;refine wpAny_pyIter_dict lo y ?_;erw[m.H.M.J,[m.H.M.J],5,upd l d (.frz o (.dK N)),U,z.kept (t':=m.v) λb u e=>Qm _ e,B6 o N d _ J f t,⟨_,Qn _ U,U,by rw[C];rfl⟩,λb M=>?_,q o]
 rw[LB.mp M];exact z.fpOk (Lo _) (z.hok.fresh (Lo _))
section
variable{prog:fI}{w:hx}{A:Around}{ef:eK->e9->Prop}{s:e9}{T:String}{r d:eN}{n:R}{P:R->eK->Prop}{OK:fc->Prop}
end
abbrev bM(h:fc)(T:eN)(a b c:eK):Prop:=h.R T=Z {cls:=.type "tuple",data:=.seq #[a,b,c]}
def cC{T:eN}{a b c x:eK}{k:R}{Q:Unit->e9->Prop}(l:bM s.H T a b c)(h:∀ h',h'.R T=Z {cls:=.type "tuple",data:=.seq ((#[a,b,c]:io eK).setIfInBounds k x)}->Qc T s.H h'->Q () {s,h'}):
  lf A (Rh T (·.setIfInBounds k x)) Q ef s:=by
 refine Ri l U (h _ ?_ (QT ..));rw[QC _ l U];simp[QB]
structure Z3(z TI TO i1 i2 i3 l1 l2 l3:eN):Prop where
 zs:∀ x∈[TI,TO,i1,i2,i3,l1,l2,l3],x≠z
 ts:∀ x∈[TI,i1,i2,i3,l1,l2,l3],x≠TO
 is1:∀ x∈[TI,i2,i3,l1,l2,l3],x≠i1
 is2:∀ x∈[TI,i1,i3,l1,l2,l3],x≠i2
 is3:∀ x∈[TI,i1,i2,l1,l2,l3],x≠i3
def Ja{TI TO:eN}{k:R}{xs ys zs:io eK}{x y v a b c:eK}(D:Z3 z TI TO i1 i2 i3 p f C)(hz:IsZip s.H z TI TO .none)(a2:bM s.H TI (.ref i1) (.ref i2) (.ref i3))(a3:bM s.H TO a b c)(Y:s.H.IsListIter i1 p k)(h2:s.H.IsListIter i2 f k)(B:s.H.IsListIter i3 C k)(u:s.H.IsList p xs)(O:s.H.IsList f ys)(aa:s.H.IsList C zs)(J:xs[k]?=some x)(m:ys[k]?=some y)(hv:zs[k]?=some v)(hQ:∀ h',IsZip h' z TI TO (rawInt s.H.M.J)->bM h' TO x y v->h'.IsListIter i1 p (k+1)->h'.IsListIter i2 f (k+1)->h'.IsListIter i3 C (k+1)->bM h' s.H.M.J x y v->h'.M.J=s.H.M.J+1 ->
   (∀ c o,c∉[z,TO,i1,i2,i3]->s.H.R c=Z o->h'.R c=Z o)->Q (.ref s.H.M.J) {s,h'}):
  lf A (hX.«zip.__next__» ⟨[.ref z],[]⟩) (λN s'=>∃ v,N=.done (.ret v)/\Q v s') ef s:=by
 let bb be a4 bi al:=D;simp only[Lw,Mr,or_false,forall_eq_or_imp,forall_eq]at bb be a4 bi al;let cK aS aZ a0 ba bK bP bZ:=bb;let cg aT am aI ch a7 a1:=be;let ci bR b0 ck a8 bm:=a4;let cl co b5 cp cs bn:=bi;let ct cu cv cw cy cA:=al;show wpAny _ _ (field (.ref z) 2 >>= _) _ _ _;refine Qi (wpAny_field hz U (x:=.bool j5) U ?_);show wpAny _ _ (field (.ref z) 3 >>= _) _ _ _;refine Qi (wpAny_field hz U (x:=.ref TI) U ?_);refine Qi (Rf a2 U ?_);show wpAny _ _ (hX.SmallTypes.ownedTupleIsFree (.ref z) >>= _) _ _ _;refine Qi ?_;unfold hX.SmallTypes.ownedTupleIsFree;refine Qi (wpAny_field hz U (x:=.none) U (Ql ?_));simp only[if_true];refine Qi (wpAny_rule ?_);refine Qi (wpAny_field hz U (x:=.ref TO) U ?_);refine Qi (QV hz (by simp) λL r d=>?_)
 replace r:IsZip L z TI TO .ellipsis:=r;refine Qi ?_;simp only[List.zipIdx_cons,List.zipIdx_nil,List.forIn_cons,List.forIn_nil];refine Qi (Qi (wpAny_onRaise ?_));show wpAny _ _ (hX.SmallTypes.nextOf (.ref i1) >>= _) _ _ _;refine Qi (wpAny_nextOf_list_item (Y.X d.X aZ) (u.X d.X bK) J λH bv g=>Ql ?_);let ab:bM H TO a b c:=g.X _ _ aT.Y (d.X _ _ aS a3);refine Qi (Rf ab U ?_);refine Qi (cC ab λI M i=>?_);replace M:bM I TO x b c:=M;refine Qi (QX (Ql ?_));refine Qi (Qi (wpAny_onRaise ?_));show wpAny _ _ (hX.SmallTypes.nextOf (.ref i2) >>= _) _ _ _
 refine Qi (wpAny_nextOf_list_item (((h2.X d.X a0).X g.X bR).X i.X am)
  (((O.X d.X bP).X g.X a8).X i.X a7) m λap bz j=>Ql ?_)
 let ac:bM ap TO x b c:=j.X _ _ am.Y M;refine Qi (Rf ac U ?_);refine Qi (cC ac λav eg l=>?_);replace eg:bM av TO x y c:=eg;refine Qi (QX (Ql ?_));refine Qi (Qi (wpAny_onRaise ?_));show wpAny _ _ (hX.SmallTypes.nextOf (.ref i3) >>= _) _ _ _
 refine Qi (wpAny_nextOf_list_item (((((B.X d.X ba).X g.X b0).X i.X aI).X j.X b5).X l.X aI)
  (((((aa.X d.X bZ).X g.X bm).X i.X a1).X j.X bn).X l.X a1) hv λbB b6 h=>Ql ?_)
 let a9:bM bB TO x y c:=h.X _ _ aI.Y eg;refine Qi (Rf a9 U ?_);refine Qi (cC a9 λn an q=>?_);replace an:bM n TO x y v:=an;refine Qi (QX (Ql (Ql ?_)));refine Qi (Rf an U ?_);refine Qi (wpAny_newTuple ?_);let t:n.M.J=s.H.M.J:=by rw[q.1,h.1,l.1,j.1,i.1,g.1,d.1]
 let bJ:IsZip n z TI TO .ellipsis:=q.X _ _ aS.Y (h.X _ _ ba.Y (l.X _ _ aS.Y (j.X _ _ a0.Y (i.X _ _ aS.Y (g.X _ _ aZ.Y r)))));let ca:∀ c o,c∉[z,TO,i1,i2,i3]->s.H.R c=Z o->n.R c=Z o:=λc o T e=>by
  simp only[Lw,Mr,or_false,not_or]at T;let c1 c2 c3 c4 c5:=T;exact q.X _ _ c2 (h.X _ _ c5 (l.X _ _ c2 (j.X _ _ c4 (i.X _ _ c2 (g.X _ _ c3 (d.X _ _ c1 e))))))
 let cb:n.IsListIter i1 p (k+1):=((((bv.X i.X aT).X j.X co).X l.X aT).X h.X cu).X q.X aT;let cc:n.IsListIter i2 f (k+1):=((bz.X l.X am).X h.X cv).X q.X am;let cd:n.IsListIter i3 C (k+1):=b6.X q.X aI;let bU:z<n.M.J:=P8 bJ;show wpAny _ _ (hX.SmallTypes.ownedTupleHandOut (.ref z) (.ref n.M.J) >>= _) _ _ _;refine Qi ?_;unfold hX.SmallTypes.ownedTupleHandOut;let ce:IsZip (n.o {cls:=.type "tuple",data:=.seq #[x,y,v]}) z TI TO .ellipsis:=Qm _ bJ;refine Qi (QV ce (by simp) λcB a5 a6=>?_)
 replace a5:IsZip cB z TI TO (rawInt n.M.J):=a5;refine QV a5 (by simp) λhA bT cf=>?_
 replace bT:IsZip hA z TI TO (rawInt n.M.J):=bT;let up:∀ c o,c≠z->n.R c=Z o->hA.R c=Z o:=λc o c1 e=>cf.X _ _ c1 (a6.X _ _ c1 (Qm _ e));let cD:bM hA n.M.J x y v:=cf.X _ _ (Mz bU) (a6.X _ _ (Mz bU) (Qn _ U));let bY:hA.M.J=n.M.J+1:=by rw[cf.1,a6.1,Qv]
 rw[t]at bT cD bY;refine Ql ⟨_,U,?_⟩;show Q (.ref n.M.J) _;rw[t];exact hQ hA bT (up _ _ aS an) (cb.at λo e=>up _ o aZ e) (cc.at λo e=>up _ o a0 e) (cd.at λo e=>up _ o ba e) cD bY λc o T e=>up c o (λz=>T (by simp[z])) (ca c o T e)
def z3_end{TI TO:eN}{k:R}{xs ys zs:io eK}{a b c:eK}{Q:Fin->e9->Prop}(I:A.handled=kf)(D:Z3 z TI TO i1 i2 i3 p f C)(hz:IsZip s.H z TI TO .none)(a6:bM s.H TI (.ref i1) (.ref i2) (.ref i3))(a7:bM s.H TO a b c)(Y:s.H.IsListIter i1 p k)(h2:s.H.IsListIter i2 f k)(B:s.H.IsListIter i3 C k)(u:s.H.IsList p xs)(O:s.H.IsList f ys)(al:s.H.IsList C zs)(t:xs[k]?=kf∨ys[k]?=kf∨zs[k]?=kf)(hE:∀ h' e,(∀ c o,c∉[z,TO,i1,i2,i3]->s.H.R c=Z o->h'.R c=Z o)->(∃ o,h'.R e=Z o/\o.cls=.type "StopIteration")->ef (.ref e) {s,h'}):
  lf A (hX.«zip.__next__» ⟨[.ref z],[]⟩) Q ef s:=by
 let be bi a8 bm ap:=D;simp only[Lw,Mr,or_false,forall_eq_or_imp,forall_eq]at be bi a8 bm ap;let cu a0 a2 a3 bb bU bY b0:=be;let cb a1 av aT cc a9 a4:=bi;let cd bZ b5 ce ba bn:=a8;let cf cg b6 ch ci bv:=bm;let ck cl co cp cs ct:=ap;let ca:∀ c,c∉[z,TO,i1,i2,i3]->c≠z/\c≠TO/\c≠i1/\c≠i2/\c≠i3:=λc T=>by
  simp only[Lw,Mr,or_false,not_or]at T;exact T
 show wpAny _ _ (field (.ref z) 2 >>= _) _ _ _;refine Qi (wpAny_field hz U (x:=.bool j5) U ?_);show wpAny _ _ (field (.ref z) 3 >>= _) _ _ _;refine Qi (wpAny_field hz U (x:=.ref TI) U ?_);refine Qi (Rf a6 U ?_);show wpAny _ _ (hX.SmallTypes.ownedTupleIsFree (.ref z) >>= _) _ _ _;refine Qi ?_;unfold hX.SmallTypes.ownedTupleIsFree;refine Qi (wpAny_field hz U (x:=.none) U (Ql ?_));simp only[if_true];refine Qi (wpAny_rule ?_);refine Qi (wpAny_field hz U (x:=.ref TO) U ?_);refine Qi (QV hz (by simp) λL r d=>?_)
 replace r:IsZip L z TI TO .ellipsis:=r;refine Qi ?_;simp only[List.zipIdx_cons,List.zipIdx_nil,List.forIn_cons,List.forIn_nil];refine Qi (Qi (wpAny_onRaise ?_));show wpAny _ _ (hX.SmallTypes.nextOf (.ref i1) >>= _) _ _ _
 cases J:xs[k]? with
 |none =>
  refine Qi (wpAny_nextOf_list_end I (Y.X d.X a2) (u.X d.X bU) J λaa e g eg=>?_);let oe aZ a5:=eg;let bK:IsZip aa z TI TO .ellipsis:=g _ _ a2.Y r;let bP:e≠z:=λx=>by subst x;rw[bK]at aZ;cases aZ;simp at a5
  exact QV bK (by simp) λac _ i=>hE ac e (λc o T x=>have q:=ca c T;i.X _ _ q.1 (g _ _ q.2.2.1 (d.X _ _ q.1 x))) ⟨oe,i.X _ _ bP aZ,a5⟩
 |some x =>
  refine Qi (wpAny_nextOf_list_item (Y.X d.X a2) (u.X d.X bU) J λaa bz g=>Ql ?_);let am:bM aa TO a b c:=g.X _ _ a1.Y (d.X _ _ a0 a7);refine Qi (Rf am U ?_);refine Qi (cC am λac M i=>?_);replace M:bM ac TO x b c:=M;refine Qi (QX (Ql ?_));refine Qi (Qi (wpAny_onRaise ?_));show wpAny _ _ (hX.SmallTypes.nextOf (.ref i2) >>= _) _ _ _
  cases m:ys[k]? with
  |none =>
   refine Qi (wpAny_nextOf_list_end I (((h2.X d.X a3).X g.X bZ).X i.X av)
    (((O.X d.X bY).X g.X ba).X i.X a9) m λaI e j eg=>?_)
   let oe aZ a5:=eg;let bR:IsZip aI z TI TO .ellipsis:=j _ _ a3.Y (i.X _ _ a0.Y (g.X _ _ a2.Y r));let bP:e≠z:=λx=>by subst x;rw[bR]at aZ;cases aZ;simp at a5
   exact QV bR (by simp) λaS _ l=>hE aS e (λc o T x=>have q:=ca c T;l.X _ _ q.1 (j _ _ q.2.2.2.1 (i.X _ _ q.2.1 (g.X _ _ q.2.2.1 (d.X _ _ q.1 x))))) ⟨oe,l.X _ _ bP aZ,a5⟩
  |some y =>
   let H:zs[k]?=kf:=by
    obtain h|h|h:=t
    .rw[J]at h;cases h
    .rw[m]at h;cases h
    .exact h
   refine Qi (wpAny_nextOf_list_item (((h2.X d.X a3).X g.X bZ).X i.X av)
    (((O.X d.X bY).X g.X ba).X i.X a9) m λaI bB j=>Ql ?_)
   let an:bM aI TO x b c:=j.X _ _ av.Y M;refine Qi (Rf an U ?_);refine Qi (cC an λaS ab l=>?_);replace ab:bM aS TO x y c:=ab;refine Qi (QX (Ql ?_));refine Qi (Qi (wpAny_onRaise ?_));show wpAny _ _ (hX.SmallTypes.nextOf (.ref i3) >>= _) _ _ _
   refine Qi (wpAny_nextOf_list_end I (((((B.X d.X bb).X g.X b5).X i.X aT).X j.X b6).X l.X aT)
    (((((al.X d.X b0).X g.X bn).X i.X a4).X j.X bv).X l.X a4) H λbJ e v eg=>?_)
   let oe aZ a5:=eg;let bT:IsZip bJ z TI TO .ellipsis:=v _ _ bb.Y (l.X _ _ a0.Y (j.X _ _ a3.Y (i.X _ _ a0.Y (g.X _ _ a2.Y r))));let bP:e≠z:=λx=>by subst x;rw[bT]at aZ;cases aZ;simp at a5
   exact QV bT (by simp) λn _ N=>hE n e (λc o T x=>have q:=ca c T;N.X _ _ q.1 (v _ _ q.2.2.2.2 (l.X _ _ q.2.1 (j.X _ _ q.2.2.2.1 (i.X _ _ q.2.1 (g.X _ _ q.2.2.1 (d.X _ _ q.1 x))))))) ⟨oe,N.X _ _ bP aZ,a5⟩
def I8{TI TO:eN}{k:R}{xs ys zs:io eK}{x y v a b c:eK}{Q:ii eK->e9->Prop}(D:Z3 z TI TO i1 i2 i3 p f C)(hz:IsZip s.H z TI TO .none)(h:bM s.H TI (.ref i1) (.ref i2) (.ref i3))(i:bM s.H TO a b c)(Y:s.H.IsListIter i1 p k)(h2:s.H.IsListIter i2 f k)(B:s.H.IsListIter i3 C k)(u:s.H.IsList p xs)(O:s.H.IsList f ys)(q:s.H.IsList C zs)(J:xs[k]?=some x)(m:ys[k]?=some y)(hv:zs[k]?=some v)(H:∀ h',IsZip h' z TI TO (rawInt s.H.M.J)->bM h' TO x y v->h'.IsListIter i1 p (k+1)->h'.IsListIter i2 f (k+1)->h'.IsListIter i3 C (k+1)->bM h' s.H.M.J x y v->h'.M.J=s.H.M.J+1 ->
   (∀ c o,c∉[z,TO,i1,i2,i3]->s.H.R c=Z o->h'.R c=Z o)->Q (Z (.ref s.H.M.J)) {s,h'}):
  lf A (pyNext (.ref z)) Q ef s:=by
 let l:s.TypeIs (.ref z) "zip":=⟨_,hz,U⟩;unfold pyNext
 exact Qi (wpAny_attempt (QR (name:=ff.ofString "__next__") l F.slot_zip_next
  (QO F.slot_zip_next l F.entry_zip_next
   (Ja D hz h i Y h2 B u O q J m hv λh' T n M d e g j r=>Ql (H h' T n M d e g j r)) (F.args_zip_next_1 _))))
def Jb{TI TO:eN}{k:R}{xs ys zs:io eK}{a b c:eK}{Q:ii eK->e9->Prop}(L:A.handled=kf)(D:Z3 z TI TO i1 i2 i3 p f C)(hz:IsZip s.H z TI TO .none)(h:bM s.H TI (.ref i1) (.ref i2) (.ref i3))(i:bM s.H TO a b c)(Y:s.H.IsListIter i1 p k)(h2:s.H.IsListIter i2 f k)(B:s.H.IsListIter i3 C k)(u:s.H.IsList p xs)(O:s.H.IsList f ys)(q:s.H.IsList C zs)(t:xs[k]?=kf∨ys[k]?=kf∨zs[k]?=kf)(H:∀ h',(∀ c o,c∉[z,TO,i1,i2,i3]->s.H.R c=Z o->h'.R c=Z o)->Q kf {s,h'}):lf A (pyNext (.ref z)) Q ef s:=by
 let l:s.TypeIs (.ref z) "zip":=⟨_,hz,U⟩;unfold pyNext
 refine Qi (wpAny_attempt (QR (name:=ff.ofString "__next__") l F.slot_zip_next
  (QO F.slot_zip_next l F.entry_zip_next (z3_end L D hz h i Y h2 B u O q t λh' e g eg=>?_) (F.args_zip_next_1 _))))
 let o N d:=eg;refine Qi (QK (T:="StopIteration") (b:=i0) ⟨o,N,d⟩ isSubtype_stop ?_);exact Ql (H _ g)
def qM(a b c:eK):checkTypeCall "zip" ⟨[a,b,c],[]⟩=pure ():=by kernel_rfl
def tR(a b c:eK):checkBuiltinCall "zip.__new__" ⟨[.type "zip",a,b,c],[]⟩=pure ():=by kernel_rfl
def zJ(a b c d:eK):argsOk "object.__init__" ⟨[a,b,c,d],[]⟩:=by
 unfold argsOk;rw[signature?_of (id:="object.__init__") (n:=['_','_','t','i','n','i','_','_']) (o:=['t','c','e','j','b','o']) (by kernel_rfl) PySem.F.owner_object];kernel_rfl
abbrev li3(l:eN):hb:={cls:=.type "list_iterator",data:=.fields #[.ref l,.int 0 0]}
abbrev z3H3(h:fc)(z Q f:eN):fc:=((h.o (li3 z)).o (li3 Q)).o (li3 f)
abbrev z3H4(h:fc)(z Q f:eN):fc:=(z3H3 h z Q f).o {cls:=.type "tuple",data:=.seq #[.ref h.M.J,.ref (h.o (li3 z)).M.J,.ref ((h.o (li3 z)).o (li3 Q)).M.J]}
abbrev z3H5(h:fc)(z Q f:eN):fc:=(z3H4 h z Q f).o {cls:=.type "tuple",data:=.seq #[.none,.none,.none]}
abbrev z3H6(h:fc)(z Q f:eN):fc:=(z3H5 h z Q f).o {cls:=.type "zip",data:=.fields #[.none,.bool j5,.bool j5,.ref (z3H3 h z Q f).M.J,.ref (z3H4 h z Q f).M.J]}
theorem A7(z Q f:eN)(xs ys zs:io eK):
  Meets (hX.«zip.__new__» ⟨[.type "zip",.ref z,.ref Q,.ref f],[]⟩) (λ_ ad s=>s.H.IsList z xs/\s.H.IsList Q ys/\s.H.IsList f zs /\
   ad (.ok (.ret (.ref (z3H5 s.H z Q f).M.J))) {s,z3H6 s.H z Q f}) :=
 .of_wp λi w A ad s h=>by
  let Y g d l os:=s;let u O q h:=h;let b:=sub_zip;let c:fc.IsList (e9.heap ⟨Y,g,d,l,os⟩) z xs:=u;let e:fc.IsList (e9.heap ⟨Y.o {cls:=.type "list_iterator",data:=.fields #[.ref z,.int 0 0]},g,d,l,os⟩) Q ys:=fc.IsList.push O _;let a:fc.IsList (e9.heap ⟨(Y.o {cls:=.type "list_iterator",data:=.fields #[.ref z,.int 0 0]}).o {cls:=.type "list_iterator",data:=.fields #[.ref Q,.int 0 0]},g,d,l,os⟩) f zs:=fc.IsList.push (fc.IsList.push q _) _;wp_walk using wpAny_pyIter_list c,wpAny_pyIter_list e,wpAny_pyIter_list a;erw[9,h]
def E2{xs ys zs:io eK}(b:s.H.IsList a xs)(O:s.H.IsList p ys)(q:s.H.IsList f zs)(h:∀ h',IsZip h' (s.H.M.J+5) (s.H.M.J+3) (s.H.M.J+4) .none->bM h' (s.H.M.J+3) (.ref s.H.M.J) (.ref (s.H.M.J+1)) (.ref (s.H.M.J+2)) ->
   bM h' (s.H.M.J+4) .none .none .none->h'.IsListIter s.H.M.J a 0->h'.IsListIter (s.H.M.J+1) p 0->h'.IsListIter (s.H.M.J+2) f 0 ->
   (∀ c o,s.H.R c=Z o->h'.R c=Z o)->Q (.ref (s.H.M.J+5)) {s,h'}):
  lf A (call (.type "zip") [.ref a,.ref p,.ref f]) Q ef s:=by
 refine callType_new PySem.F.called_zip ∅ (qM _ _ _) (tR _ _ _) (λk=>zJ k _ _ _) PySem.F.entry_zip_new
  (A7 a p f xs ys zs) ⟨b,O,q,?_⟩
 let H:(s.H.o (li3 a)).M.J=s.H.M.J+1:=Qv ..;let eg:((s.H.o (li3 a)).o (li3 p)).M.J=s.H.M.J+2:=by rw[Qv,H]
 let v:(z3H3 s.H a p f).M.J=s.H.M.J+3:=by rw[Qv,eg]
 let d:(z3H4 s.H a p f).M.J=s.H.M.J+4:=by rw[Qv,v]
 let i:(z3H5 s.H a p f).M.J=s.H.M.J+5:=by rw[Qv,d]
 let e:(z3H6 s.H a p f).R (z3H5 s.H a p f).M.J=Z _:=Qn _ U;let g:(z3H6 s.H a p f).R (z3H4 s.H a p f).M.J=Z _:=Qm _ (Qn _ U);let B:(z3H6 s.H a p f).R (z3H3 s.H a p f).M.J=Z _:=Qm _ (Qm _ (Qn _ U));let j:(z3H6 s.H a p f).R ((s.H.o (li3 a)).o (li3 p)).M.J=Z _:=Qm _ (Qm _ (Qm _ (Qn _ U)));let u:(z3H6 s.H a p f).R (s.H.o (li3 a)).M.J=Z _:=Qm _ (Qm _ (Qm _ (Qm _ (Qn _ U))));let N:(z3H6 s.H a p f).R s.H.M.J=Z _:=Qm _ (Qm _ (Qm _ (Qm _ (Qm _ (Qn _ U)))));show _/\_;rw[v,d,i]at e;rw[d]at g;rw[v,H,eg]at B;rw[eg]at j;rw[H]at u;rw[i]
 erw[⟨_,e,U⟩,h _ e B g ⟨_,N,U,U⟩ ⟨_,u,U,U⟩ ⟨_,j,U,U⟩ λc o x =>
  Qm _ (Qm _ (Qm _ (Qm _ (Qm _ (Qm _ x)))))]
def Itz3(K:Ln)(a b c:eN):It :=
 ⟨λi H=>∃ D j m x y z,nv a D/\nv b j/\nv c m/\D[i]?=Z x/\j[i]?=Z y/\m[i]?=Z z,
  λi H v eg=>∃ T x y z,H T=kf/\v=.ref T/\eg=upd H T (.tup [x,y,z])/\(∀ D,nv a D->D[i]?=Z x)/\(∀ j,nv b j->j[i]?=Z y)/\∀ m,nv c m->m[i]?=Z z,
  λi H=>∃ D j m,nv a D/\nv b j/\nv c m/\(D.L<=i∨j.L<=i∨m.L<=i)⟩
theorem B4{es:E fm}{k:R}(a b c z TI TO i1 i2 i3:eN)(D:Z3 z TI TO i1 i2 i3 a b c):Turn P w K (.Tuple es k pos) (Itz3 K a b c) [z,TI,TO,i1,i2,i3] z
  (λi h=>IsZip h z TI TO .none/\bM h TI (.ref i1) (.ref i2) (.ref i3)/\(∃ u v w,bM h TO u v w)/\h.IsListIter i1 a i/\h.IsListIter i2 b i/\h.IsListIter i3 c i) where
 mem:=by simp
 obj:=λi h st d hd=>by
  let kz kI{u v w kO}{o1 r c1 d1}{o2 q2 c2 d2}{o3 q3 c3 d3}:=st;simp only[Lw,Mr,or_false]at hd;obtain rfl|rfl|rfl|rfl|rfl|rfl:=hd
  .erw[_,kz,λv z=>by contradiction]
  .erw[_,kI,λv z=>by contradiction]
  .erw[_,kO,λv z=>by contradiction]
  .erw[o1,r,λv z=>by simp!]
  .erw[o2,q2,λv z=>by simp!]
  .erw[o3,q3,λv z=>by simp!]
 keep:=λi h h' st M=>by
  let kz kI{u v w kO}k1 k2 k3:=st;erw[M _ (by simp) _ kz,M _ (by simp) _ kI,⟨u,v,w,M _ (by simp) _ kO⟩,k1.at λo q=>M i1 (by simp) o q,k2.at λo q=>M i2 (by simp) o q,k3.at λo q=>M i3 (by simp) o q]
 item:=by
  intro X hP hw hK T i B s L H ef I hf st hg;subst hP hw hK;let eg j m x y t Y N Q J n l:=hg;let f rv p hz:=I.list Y;let ac ap p2 aS:=I.list N;let aZ aT p3 a9:=I.list Q;let u hu ru:=rv.get J;let u2 a0 av:=ap.get n;let u3 bb a8:=aT.get l;let kz kI{o1 o2 o3 kO}k1 k2 k3:=st;refine I8 D kz kI kO k1 k2 k3 p.isList p2.isList p3.isList (x:=u) (y:=u2) (v:=u3) (by simpa using hu) (by simpa using a0) (by simpa using bb) λh' a1 a2 a3 a4 a5 a6 a7 g=>?_
  erw[57];refine wpAny_letOwnedTupleGo_zip a1 λO g1 am=>?_;let aa:Qc z h' O:=am;let aI:∀ d∈[z,TI,TO,i1,i2,i3],d<s.H.M.J:=λd hd=>by
   simp only[Lw,Mr,or_false]at hd;obtain rfl|rfl|rfl|rfl|rfl|rfl:=hd
   .exact P8 kz
   .exact P8 kI
   .exact P8 kO
   .let _ q _:=k1;exact P8 q
   .let _ q _:=k2;exact P8 q
   .let _ q _:=k3;exact P8 q
  let an:H s.H.M.J=kf:=I.hok.fresh (Lo _);let I0:mu (upd H s.H.M.J (.tup [x,y,t])) {s with heap:=s.H.o {cls:=.type "tuple",data:=.seq #[u,u2,u3]},toks:=s.v} :=
   I.laid (t':=s.v) (λb u e=>Qm _ e) (Lo _) ⟨by show 3<=P7;decide,[u,u2,u3],.cons ru (.cons av (.cons a8 .nil)),⟨_,Qn _ U,U,_,U⟩⟩
  let A:∀ d∈[z,TI,TO,i1,i2,i3],upd H s.H.M.J (.tup [x,y,t]) d=kf:=λd hd=>by
   rw[ao (LJ (aI d hd))];exact(hf d hd).1
  let ba:∀ d,d∉[z,TI,TO,i1,i2,i3]->d∉[z,TO,i1,i2,i3]:=λd hd q=>hd (by
   simp only[Lw,Mr,or_false]at q ⊢
   obtain q|q|q|q|q:=q<;>simp[q])
  let I2:mu (upd H s.H.M.J (.tup [x,y,t])) {s with heap:=O,toks:=s.v}:=Inv.turnedL (s:={s with heap:=s.H.o {cls:=.type "tuple",data:=.seq #[u,u2,u3]},toks:=s.v}) (h':=O) I0 (t':=s.v) (fp:=[z,TI,TO,i1,i2,i3]) (λd o hd q=>by
   let n1:d≠z:=λe=>hd (by simp[e])
   refine(aa.2 d n1).Q ?_;rcases fc.get?_push_cases q with⟨z1,z2⟩|q
   .rw[z1,z2];exact a6
   .exact g d o (ba d hd) q) λd hd=>⟨A d hd,(hf d hd).2⟩
  let be:TI∉[z,TO,i1,i2,i3]:=by
   simp only[Lw,Mr,or_false,not_or];erw[D.zs _ (by simp),D.ts _ (by simp),D.is1 _ (by simp),D.is2 _ (by simp),D.is3 _ (by simp)]
  erw[.ref s.H.M.J,_,I2,U,⟨s.H.M.J,x,y,t,an,U,U,λm h=>by rw[I.list_inj h Y];exact J,λm h=>by rw[I.list_inj h N];exact n,λm h=>by rw[I.list_inj h Q];exact l⟩,3,A]
  erw[g1,(aa.2 TI (D.zs _ (by simp))).Q (g _ _ be kI),⟨_,_,_,(aa.2 TO (D.zs _ (by simp))).Q a2⟩,a3.at λo q=>(aa.2 i1 (D.zs _ (by simp))).Q q,a4.at λo q=>(aa.2 i2 (D.zs _ (by simp))).Q q,a5.at λo q=>(aa.2 i3 (D.zs _ (by simp))).Q q]
 done:=by
  intro X hP hw hK T i B s L H ef I hf st hg;subst hP hw hK;let eg j m Y N Q J:=hg;let f rv p hz:=I.list Y;let ac ap p2 aS:=I.list N;let aZ aT p3 a9:=I.list Q;let kz kI{o1 o2 o3 kO}k1 k2 k3:=st;let C:=rv.L;let ab:=ap.L;let al:=aT.L
  refine Jb (I.ok.hd T) D kz kI kO k1 k2 k3 p.isList p2.isList p3.isList ?_ λh' eb=>⟨U,Inv.turnedL I (t':=s.v) (λd o hd e=>eb d o (λq=>hd (by
   grind)) e) hf⟩
  simp!
 self:=λ_ _ _ _ _ st h=>wpAny_pyIter_zip st.1 h
def Fm(n a b c:R)(o:a<n)(M:b<n)(T:c<n):Z3 (n+5) (n+3) (n+4) n (n+1) (n+2) a b c:=by
 erw[1023]<;>(simp only[Lw,Mr,or_false,forall_eq_or_imp,forall_eq])
 .grind
 .grind
 .grind
 .lia
 .lia
def vals3{a b c:V}(h:Vals [a,b,c] us):∃ u v w,us=[u,v,w]/\RelV a u/\RelV b v/\RelV c w:=by
 cases h with
 |cons g t=>cases t with
  |cons T t=>cases t with
   |cons A t=>cases t;erw[149,g,T,A]
def iZip3(K:Ln)(d:TA):TI:=λL H ad=>d L H λn l=>∃ a b c,n=[.ref a,.ref b,.ref c]/\(∃ D,SqL K l a D)/\(∃ j,SqL K l b j)/\(∃ m,SqL K l c m)/\ad (Itz3 K a b c) l
def JQ{z Q l3:fm}{T:TA}{es:E fm}{k:R}{p:Pos}(O:Gl X "zip")(C:X.mg "zip"=kf)(o:PA X [z,Q,l3] T)(hs:uP_ (Qd [z,Q,l3] X.i=(j5,eval z X.i)::Qd [Q,l3] X.i) uR_)(ab:uP_ ((backTo pos (Qd [Q,l3] X.i)).any (·.1)=j5) uR_):
  PI X (.Tuple es k tp) (.Call (.Name "zip" p) [z,Q,l3] [] pos) (iZip3 X.K T):=by
 intro B s L H ad I h;refine Call_ (gC I O C IM (Qo (thn (o pos B s L H _ I h) λx m ⟨n,l,i,w,ef⟩=>?_) hs ab));let a b c e{D Y}{j N}{t y}q:=ef;subst e;let u u2 u3 rfl A am aI:=vals3 w
 cases A
 cases am
 cases aI
 let J rv p r:=i.list Y;let aa al v an:=i.list N;let av ap p3 aS:=i.list y;let la:a<m.H.M.J:=by let _ _ q _:=p;exact P8 q
 let lb:b<m.H.M.J:=by let _ _ q _:=v;exact P8 q
 let lc:c<m.H.M.J:=by let _ _ q _:=p3;exact P8 q
 refine E2 p.isList v.isList p3.isList λeg kz kI kO M f k3 g=>?_;refine wpAny_pyIter_zip kz ?_
 erw[m.H.M.J+5,[m.H.M.J+5,m.H.M.J+3,m.H.M.J+4,m.H.M.J,m.H.M.J+1,m.H.M.J+2],5,l,U,i.kept (t':=m.v) g,
  B4 a b c (m.H.M.J+5) (m.H.M.J+3) (m.H.M.J+4) m.H.M.J (m.H.M.J+1) (m.H.M.J+2) (Fm _ a b c la lb lc),⟨kz,kI,⟨_,_,_,kO⟩,M,f,k3⟩,λd hd=>?_,q]
 let ac:m.H.M.J<=d:=by
  simp only[Lw,Mr,or_false]at hd;obtain rfl|rfl|rfl|rfl|rfl|rfl:=hd
  .exact MP _ _
  .exact MP _ _
  .exact MP _ _
  .exact Lo _
  .exact MP _ _
  .exact MP _ _
 exact i.fpOk ac (i.hok.fresh ac)
def GZ{b c:eN}{g:TG}(n:R)(Pv:R->St->Hp->Prop)(A:Pv 0 L H)(Y:n<=xs.L)(h2:n<=ys.L)(t:zs.L=n)(hl:∀ i L H,i<=n->Pv i L H->nv a xs/\nv b ys/\nv c zs)(hs:∀ i x y z L H T,xs[i]?=Z x->ys[i]?=Z y->zs[i]?=Z z->Pv i L H->H T=kf->g (.ref T) L (upd H T (.tup [x,y,z])) λh H2=>tb (D.lop (Pv (i+1))) h H2)(hd:∀ L H,Pv n L H->D.nx L H):
  ∃ W:R->R->St->Hp->Prop,(∃ m,W 0 m L H)/\∀ i m L H,W i m L H ->
   ((Itz3 K a b c).stop i H/\D.nx L H)∨((Itz3 K a b c).go i H/\∃ N:St->Hp->Prop,(∀ σ' H',N σ' H'->∃ u,u<m/\W (i+1) u σ' H')/\∀ x H',(Itz3 K a b c).yld i H x H'->g x L H' λh H2=>tb (D.lop (N)) h H2):=by
 erw[λi m L H=>m=n-i/\i<=n/\Pv i L H,⟨n,by simp,LU _,A⟩,3]
 rintro i m L H ⟨rfl,B,p⟩;let ef M r:=hl i L H B p;by_cases j:i<n
 .let s:i<xs.L:=by lia
  let Q:i<ys.L:=by lia
  let f:i<zs.L:=by lia
  refine .inr ⟨⟨xs,ys,zs,xs[i],ys[i],zs[i],ef,M,r,by simp,by simp,by simp⟩,Pv (i+1),λσ' H' I=>⟨n-(i+1),∅,U,j,I⟩,λv H' y=>?_⟩
  let T x y z l rfl rfl o J w:=y;exact hs i x y z L _ T (o xs ef) (J ys M) (w zs r) p l
 .let e:i=n:=by lia
  subst e;exact .inl ⟨⟨xs,ys,zs,ef,M,r,.inr (.inr ∅)⟩,hd L H p⟩
abbrev rA(p:Pos):Arguments:={posonlyargs:=[],args:=[{arg:="each",annotation:=kf,pos:=p}],vararg:=kf,kwonlyargs:=[],kw_defaults:=[],kwarg:=kf,defaults:=[]}
abbrev yB:hr:={kind:=.function,names:=[("each",.local),("told",.free)],isGenerator:=j5,isCoroutine:=j5,more:=[]}
abbrev Bg(p1 v z:Pos):fm:=.Subscript (.Name "told" p1) (.Name "each" v) z
def Kx{c' ct t:eN}{j:ff}{g p1 I z:Pos}{a v:eK}{its:io eK}{k:G}{tk:Tok}(m:A.depth<recursionLimit)(q:s.H.R f=Z (OB "<lambda>" j (rA g) (Bg p1 I z) yB [("told",ct)] u c' a))(h:s.H.CodeRec (.ref c') j)(d:s.H.NoLimit)(T:s.H.IsCell ct (Z (.ref t)))(hl:s.H.IsList t its)(k0:0<=k)(n:k<2^63)(O:its[k.U]?=Z v)(H:∀ h' p,(∀ b o,s.H.R b=Z o->h'.R b=Z o)->Q v {s with heap:=h',toks:=p}):
  lf A (call (.ref f) [.int k tk]) Q ef s:=by
 refine wpAny_call (PySem.W.kla_callFunE m q U U U U h ?_);let M:bindArgs (PySem.W.kla_fn "<lambda>" j (rA g) (Bg p1 I z) yB [("told",ct)] u (.ref c') a) ⟨[.int k tk],[]⟩=(pure [(("each" : ff),eK.int k tk)]:Sem (E (ff×eK))):=rfl;rw[M];refine Ql (wpAny_newFunctionEnv (λx J=>?_) (λx J=>?_) (λY i r=>?_) U)
 .let l:x=(("each" : ff),NameKind.local)∨x=(("told" : ff),NameKind.free):=by simpa using J
  obtain rfl|rfl:=l<;>simp!
 .rw[LB.mp J];rfl
 let C:∀ b o,s.H.R b=Z o->Y.R b=Z o:=λb o e=>r.X b o (LJ (P8 e)) (Qm _ e);erw[d.keeps C,PySem.W.kla_codeExpr ?_];refine Subscript_ (wpAny_Name (wpAny_loadName_free (c:=ct) U U U (T.keeps C) ?_));refine wpAny_Name (wpAny_loadName_local U U i U ?_);exact item_listR (hl.at λo e=>C _ _ e) k0 n O (H _ _ C)
abbrev Kp(h h':fc):Prop:=∀ b o,h.R b=Z o->h'.R b=Z o
theorem Kp.but{g:fc}(k:Kp g h)(n:g.R I=kf)(m:∀ b o,b∉[I]->h.R b=Z o->h'.R b=Z o):Kp g h':=λb o e=>m b o (λz=>by simp!) (k b o e)
theorem Kp.same{g:fc}{S:eN}(k:Kp g h)(n:g.R S=kf)(m:Qc S h h'):Kp g h':=λb o e=>(m.2 b (λz=>by simp!)).Q (k b o e)
def Gy{J S:eN}{P:R->eK->Prop}{St:R->fc->Prop}{g:fc}(W:Walks prog w A.in1 J fp [J] n P St)(gJ:g.R J=kf)(gS:g.R S=kf)(ap:S≠J)(ac:S∉fp)(turn:∀ i v,i<n->P i v->∀(h:fc)(tk:R)(Q:eK->e9->Prop)(ef:eK->e9->Prop),Kp g h->(∀ l t h' p,Kp h h'->Q (.int l t) {s with heap:=h',toks:=p})->lf A.in1 (call (.ref q) [v]) Q ef {s with heap:=h,toks:=tk})(N:∀ i v h' p,i<n->P i v->Kp g h'->ad (.ok (.ret v)) {s with heap:=h',toks:=p}):
  ∀(r j i:R)(h:fc)(tk:R)(vb:eK)(k:G)(tb:Tok)(c:R),n-(j+1)=r->j+1<=n->Kp g h->h.R S=Z (QY "list" #[vb,.int k tb] c)->St (j+1) h->i<n->P i vb ->
   Qu (model prog w) A (.builtin "min.loop" ⟨[.ref J,.ref q,.ref S],[]⟩) ad {s with heap:=h,toks:=tk}:=by
 let nm:(toString "min"++toString ".loop" : String) = "min.loop":=by rfl
 intro r;induction r with
 |zero =>
  intro j i h tk vb k tb c er I kg x st B u;let a:j+1=n:=by lia
  refine Rb Ng ?_;rw[Rc Md _];refine Qi (m:=seqItems? (.ref S)) (Rf x U ?_);show wpAny _ A.in1 (tryCatch (pyNext (.ref J)) _ >>= _) _ _ _;refine Qi (Rg (W.done _ _ _ (by rw[← a];exact st) λh' p d=>?_))
  let aI:=kg.but gJ d;let f:=d S _ (by simpa using ap) x
  let su:=QT h' S (QB λ_=>(#[]:io eK));refine Qi (m:=Rh S λ_=>#[]) (Ri f U (Qi (QX (Ql ?_))));exact N i vb _ _ B u (aI.same gS su)
 |succ r L =>
  intro j i h tk vb k tb c er I kg x st B u;let lt:j+1<n:=by lia
  refine Rb Ng ?_;rw[Rc Md _];refine Qi (m:=seqItems? (.ref S)) (Rf x U ?_);show wpAny _ A.in1 (tryCatch (pyNext (.ref J)) _ >>= _) _ _ _;refine Qi (Rg (W.item (j+1) _ _ _ lt st λv Y al H ab D=>?_));let C:=kg.but gJ D;let T:=D S _ (by simpa using ap) x
  show wpAny _ A.in1 (tryCatch (holding [v] (call (.ref q) [v])) _ >>= _) _ _ _;refine Qi (Rg (Qj (turn (j+1) v lt H Y al _ _ C λl t O an y=>?_)));let av:Kp g O:=λb o e=>y b o (C b o e);let aa:=y _ _ T;let eg:=W.frame _ _ O ab λb _ o e=>y b o e;show wpAny _ A.in1 (tryCatch (holding [v,.int l t] (richCompare .Lt (.int l t) (.int k tb) >>= _)) _ >>= _) _ _ _;refine Qi (Rg (Qj (Qi (CmpOf.ints_lt (prog:=prog) (w:=w) (A:=A.in1) (P:=λ(i:R) v=>∃ t,v=.int (if i=0 then l else k) t) (λi=>if i=0 then l else k) (λi v h=>h) 0 1 _ _ _ _ _ ⟨t,U⟩ ⟨tb,U⟩ ?_))));refine Qi (Qj (Qg (Qi (QX (Ql ?_)))));by_cases cc:l<k
  .let su:=QT O S (QB λ_=>#[v,.int l t])
   let c2 am:∃ c2,(O.update S (QB λ_=>#[v,.int l t])).R S=Z (QY "list" #[v,.int l t] c2):=⟨_,QZ aa λ_=>#[v,.int l t]⟩;simp[cc];refine Qi (Ri aa U (Qi (QX ?_)));refine Ql ⟨Rj Md _,L (j+1) (j+1) _ _ v l t c2 ∅ lt (av.same gS su) am (W.frame _ _ _ eg λb M o e=>(su.2 b (λz=>ac (z▸M))).Q e) lt H⟩
  .simp[cc];refine Qi (QX (Ql ?_));erw[Rj Md _,L (j+1) i _ _ vb k tb c ∅ lt av aa eg B u]
def Kr{d:eN}{KK:Type}[DecidableEq KK]{knd:PySem.KeyKind prog w KK}{kvs:E (KK×eK)}(L:A.handled=kf)(hd:fc.DictAt knd s.H d kvs ep)(ds:(d == sysModules)=j5)(n:0<kvs.L)(turn:∀(i:R)(v:eK)(k:KK)(x:eK),kvs[i]?=Z (k,x)->knd.is k v=i0->∀(h:fc)(tk:R)(Q:eK->e9->Prop)(ef:eK->e9->Prop),Kp s.H h->(∀ l t h' p,Kp h h'->Q (.int l t) {s with heap:=h',toks:=p})->lf A.in1 (call (.ref q) [v]) Q ef {s with heap:=h,toks:=tk})(N:∀(i:R)(v:eK)(k:KK)(x:eK)(h':fc)(p:R),kvs[i]?=Z (k,x)->knd.is k v=i0->Kp s.H h'->Q v {s with heap:=h',toks:=p}):
  lf A (call (.builtin "min") [.ref d] [(ff.ofString "key",.ref q)]) Q ef s:=by
 let nm:(toString "min"++toString ".loop" : String) = "min.loop":=by rfl
 let eg _ aI _:=id hd;let dl:d<s.H.M.J:=P8 aI;refine kmk_tree PySem.F.kind_min PySem.F.plain_min PySem.F.entry_min (kmk_min_key _ _) ?_;show wpAny _ A.in1 (Rk "min" ["key","default"] 0 ⟨[],[(ff.ofString "key",.ref q)]⟩ >>= _) _ _ s;refine Qi (wpAny_of_eq (show Rk "min" ["key","default"] 0 ⟨[],[(ff.ofString "key",.ref q)]⟩=pure [Z (.ref q),kf] from rfl) (Qi (Ql (Qi (wpAny_pyIter_dict ds hd ?_)))));refine Qi (Q0 ?_ (LU _));rw[nm];let g ab:∃ g:hb,g={cls:=eK.type "dict_keyiterator",data:=Data.fields #[eK.ref d,eK.int 0 0,eK.int (kvs.L:G) 0,eK.int (ep:G) 0]}:=⟨_,U⟩;rw[← ab];let sz:(s.H.o g).M.J=s.H.M.J+1:=by rw[Qv]
 let an:(s.H.o g).M.J≠s.H.M.J:=by lia
 let aS:d≠s.H.M.J:=LJ dl;let r:∀ b,s.H.M.J<=b->s.H.R b=kf:=λb M=>Qb M;let C:Kp s.H ((s.H.o g).o (QY "list" #[] 0)):=λb o e=>Qm _ (Qm _ e);let I:((s.H.o g).o (QY "list" #[] 0)).R (s.H.o g).M.J=Z (QY "list" #[] 0):=Qn _ U;let hJ:((s.H.o g).o (QY "list" #[] 0)).R s.H.M.J=Z g:=Qm _ (Qn _ (by rw[ab];rfl))
 let W:=Walks.dictKeys (prog:=prog) (w:=w) (knd:=knd) (A:=A.in1) L s.H.M.J d aS kvs ep;let ap:∀(i:R)(v:eK),i<kvs.L->(∃ k,∃ x,kvs[i]?=Z (k,x)/\knd.is k v=i0)->∀(h:fc)(tk:R)(Q:eK->e9->Prop)(ef:eK->e9->Prop),Kp s.H h->(∀ l t h' p,Kp h h'->Q (.int l t) {s with heap:=h',toks:=p})->lf A.in1 (call (.ref q) [v]) Q ef {s with heap:=h,toks:=tk}:=λi v _ ⟨k,x,f,J⟩=>turn i v k x f J;refine Ql ⟨Rj Md _,Rb Ng ?_⟩;rw[Rc Md _];refine Qi (m:=seqItems? (.ref (s.H.o g).M.J)) (Rf I U ?_);show wpAny _ A.in1 (tryCatch (pyNext (.ref s.H.M.J)) _ >>= _) _ _ _;refine Qi (Rg (W.item 0 _ _ _ n ⟨⟨g,hJ,by rw[ab],by simp!⟩,hd.at' λo e=>C _ _ e⟩ λv Y ac H aa D=>?_))
 let j:=C.but (r _ (Lo _)) D;let T:=D _ _ (by simp) I
 show wpAny _ A.in1 (tryCatch (holding [v] (call (.ref q) [v])) _ >>= _) _ _ _;refine Qi (Rg (Qj (ap 0 v n H Y ac _ _ j λl t O am y=>?_)));let av:Kp s.H O:=λb o e=>y b o (j b o e);let u:=y _ _ T;let a:=W.frame _ _ O aa λb _ o e=>y b o e;let su:=QT O (s.H.o g).M.J (QB λ_=>#[v,.int l t]);let c2 al:∃ c2,(O.update (s.H.o g).M.J (QB λ_=>#[v,.int l t])).R (s.H.o g).M.J=Z (QY "list" #[v,.int l t] c2):=⟨_,QZ u λ_=>#[v,.int l t]⟩;let c:(s.H.o g).M.J∉[s.H.M.J,d]:=λz=>by
  obtain z|z:=Lw.mp z
  .exact an z
  .grind
 refine Qi (m:=Rh _ λ_=>#[v,.int l t]) (Ri u U ?_);rw[nm];refine Ql ⟨Rj Md _,Gy W (r _ (Lo _)) (r _ ∅) an c ap (λi v h' p _ ⟨k,x,f,J⟩ B=>N i v k x h' p f J B) _ 0 0 _ _ v l t c2 U n (av.same (r _ ∅) su) al (W.frame _ _ _ a λb M o e=>(su.2 b (λz=>c (z▸M))).Q e) n H⟩
section
variable{X:Cx}{pins:E (eN×hb)}{σ:St}{H:Hp}{s:e9}{h':fc}{T:eN}{ps more:io eK}{t':R}
def Inv.tab(I:Inv X pins σ H s)(e:H T=Z (.tbl ps))(J:∀ b o,b≠T->s.H.R b=Z o->h'.R b=Z o)(l:h'.R T=Z {cls:=.none,data:=.fields (ps++more)}):
  mi σ (upd H T (.tbl (ps++more))) {s with heap:=h',toks:=t'}:=by
 let ne:∀{b:eN}{o:ii HO},H b=o->o≠Z (.tbl ps)->b≠T:=λq n z=>n (by rw[← q,z,e])
 refine I.un ⟨λb o g n _ _=>J b o (ne n (by simp)) g,λb o g n _ _=>⟨o.slots,J b o (ne n (by simp)) g⟩,λb o g n _=>?_,λb o g _=>?_,λb D q=>?_,λb o u q=>?_,λb p q=>?_⟩ λb u q=>?_
 .rw[ao (ne n (by simp))]
  exact n
 .by_cases z:b=T
  .rw[z];erw[_,l]
  .erw[o,J b o z g]
 .rw[ao (ne q (by simp))]
  exact q
 .rw[ao (ne q (by simp))]
  exact q
 .by_cases z:b=T
  .subst z;rw[e]at q
   cases q
   erw[more,af]
  .erw[#[],by rw[ao z,q];simp]
 .by_cases z:b=T
  .subst z;rw[af]at q
   cases q
   exact l
  .rw[ao z]at q;refine(I.hok b u q).stay (λc o d g=>J c o (λy=>?_) g) (λc g=>?_) λc o g=>?_
   .simp!
   .rw[ao (ne g (by simp))];exact g
   .rw[ao (ne g (by simp))];exact g
end
def codO(c:eN)(q:ff):HO:=.ext λh=>h.CodeRec (.ref c) q
def Tb(q:ff)(A:Pos)(T:eN)(H:Hp):Prop:=H T=Z (.tbl #[])∨∃ c,H T=Z (.tbl #[rawInt A.line,rawInt A.col,.ref c])/\H c=Z (codO c q)
def TbS(T:eN)(H H':Hp):Prop:=∀ b o,b≠T->H b=Z o->H' b=Z o
structure Lam(X:Cx)(c T ct:eN)(lq:ff):Prop where
 code:X.i.code=.ref c
 hd:Nw X.base c T
 bm:∃ bm,∃ o,(X.mg "__builtins__"=Z (.ref bm)/\bm≠builtinsNs/\X.base.R bm=Z o/\o.cls=.type "module"/\o.dict=Z builtinsNs/\o.data=.plain)
 kind:X.i.kindOf "told"=Z .cell
 cl:closureFor yB X.i=pure [(("told" : ff),ct)]
 cell:X.i.cells.Z ("told" : ff)=Z ct
 q:X.i.qual++"<lambda>"=lq
theorem Kz{a:Type}:∀{kvs:E (a×V)}{vs:E (a×eK)},KV kvs vs->∀{i:R}{k:a}{y:eK},vs[i]?=Z (k,y)->∃ kv,kv∈kvs/\k=kv.1
 |_,_,.nil,i,k,y,e=>by simp at e
 |p::_,q::_,.cons h r,0,k,y,e=>by
  cases e
  erw[p,Lv ..,h.1.Y]
 |p::_,_::_,.cons _ r,i+1,k,y,e=>by
  let kv m T:=Kz r (show _=Z (k,y) from e);erw[kv,Lr _ m,T]
def tMinK(b:ff)(A:Pos)(T:eN)(it:R)(t:TA):TE:=λL H Q=>t L H λM l=>∃ d N a D,M=[.ref d]/\l d=Z (.dK N)/\N≠[]/\L[it]?=Z (Z (.ref a))/\l a=Z (.lst D)/\Tb b A T l /\
 (∀ w∈N,∃(k:R)(n:G),w.1=.inl (k:G)/\D[k]?=Z (.int n))/\∀ w∈N,∀ eg,TbS T l eg->Tb b A T eg->Q (kV w.1) eg
def JS{c T ct:eN}{lq:ff}{it:R}{t:TA}{np xp p0 p1 p2 p3 lp kp:Pos}(L:Lam X c T ct lq)(J:X.ex=[])(p:X.calm=i0)(eg:Room 0 X.A)(hN:X.N[it]?=Z ("told" : ff))(hv:Vis X.i.scope "told")(hg:Gl X "min")(hm:X.mg "min"=kf)(ha:PA X [.Name x xp] t):
  PE X (.Call (.Name "min" np) [.Name x xp] [⟨Z "key",.Lambda (rA p0) (Bg p1 p2 p3) yB lp,kp⟩] pos) (tMinK lq lp T it t):=by
 intro B s g H Q I h;refine Qz (gC I hg hm qE ?_);refine callWith_kw (thn (ha pos B s g H _ I h) λus r ⟨vs,ef,I1,r1,q1⟩=>?_);let d kvs a xs rfl hd ab ba C tb D q:=q1;let u rfl ru:=kJ r1
 cases ru
 refine kws_cons (PySem.W.kla_eval U ?_);rw[L.q];let bK:0<kvs.L:=OS.mpr ab;let go:∀(M:Hp)(s2:e9)(f c':eN)(pm aI:eK),Inv X B g M s2->s2.H.R f=Z (OB "<lambda>" lq (rA p0) (Bg p1 p2 p3) yB [("told",ct)] pm c' aI)->s2.H.CodeRec (.ref c') lq->M d=Z (.dK kvs)->M a=Z (.lst xs)->(∀ kv∈kvs,Q (kV kv.1) M) ->
   li (call (.builtin "min") [.ref d] [(ff.ofString "key",.ref f)]) (EP X B g Q) X.xe s2:=by
  intro M s2 f c' pm aI I2 hf a3 a0 al q2;let _ ds vs a1 od es ep a4:=wq I2.hok a0;let vl:=a1.L;refine Kr (knd:=bx X.e X.w) (kvs:=vs) (ep:=ep) (I2.ok.hd p) ⟨od,es,a4⟩ ds ∅ ?_ ?_
  .intro i v k y l e2 h' tk Q' E' kk bb;let{k1 w1}m1 ek:=Kz a1 l;let j n ej hn:=D _ m1;let aZ:k=.inl (j:G):=ek.Q ej;subst aZ;let sh:∃ t,v=eK.int (j:G) t:=by
    rcases aY (show pU (.inl (j:G)) v=i0 from e2) with⟨i',t',z1,z2⟩|⟨_,_,z1,_⟩
    .cases z1;erw[t',z2]
    .cases z1
   let tv rfl:=sh;let hz its bJ rv be:=I2.hok a _ al;let wv bi bn:=rv.get hn;let tn rfl:=bn;let jl:j<xs.L:=(Ll.mp hn).1;let bP:=rq;let m a2 a5:=I2.loc;let u ru lk:=a5 it "told" (.ref a) hN ba hv
   cases ru
   let av:s2.H.IsCell ct (Z (.ref a)):=by
    rcases lk with⟨kl,_⟩|⟨_,c2,ec,z⟩
    .exact Ry kl (by rw[L.kind];intro z;cases z)
    .rw[L.cell]at ec;cases ec;exact z
   refine Kx (A:=X.A.in1) (f:=f) (c':=c') (t:=a) (its:=its.toArray) (k:=(j:G)) ?_ (kk _ _ hf) (a3.keeps kk) (I2.nolimit.keeps kk) (av.keeps kk) ⟨_,kk _ _ be,U,_,U⟩ ∅ ∅ (by rw[Ly];simpa using bi) λh3 bR k3=>bb _ _ _ _ k3
   let:=eg.dp;show X.A.depth<recursionLimit;lia
  .intro i v k y h' tk l e2 kk;let kv m1 ek:=Kz a1 l;erw[kV k,M,I2.kept kk,3,by rw[ek];exact q2 kv m1]
   rcases aY (show pU k v=i0 from e2) with⟨i',t',rfl,rfl⟩|⟨y',t',rfl,rfl⟩
   .erw[t',U]
   .erw[t',U]
 let a7:r.H.BuiltinsAt X.mg T:=by
  let bm o b1 b2 b3 b4 b5 b6:=L.bm;let o1 am bv g1 g2 _:=id I1.mod.glob;let hT:ef T≠kf:=by
   obtain z|⟨_,z,_⟩:=tb<;>rw[z]<;>simp
  erw[bm,o,b1,b2,λz=>?_,λz=>?_,I1.bk _ _ b3,b4,b5,b6]
  .simp!
  .rw[z]at b3;exact hT (I1.bs _ _ b3).2
 let neT:P9≠T:=λz=>by
  let o1 am bv g1 g2 _:=id I1.mod.glob;let:=(I1.bs _ _ g1).2;rw[z]at this;obtain y|⟨_,y,_⟩:=tb<;>rw[y]at this<;>contradiction
 let a8:=I1.mod.glob.keeps I1.bk;obtain hT|⟨c',hT,a9⟩:=tb
 .let gT:r.H.R T=Z (PB #[]):=I1.hok T _ hT
  refine PySem.W.kla_makeFunction (mg:=X.mg) L.cl I1.ok.glob a8 L.code (L.hd.keeps I1.bk) gT trivial U neT a7 λc' aI h' tk bz a6 aa an ap=>kws_nil ?_;let cT:c'≠T:=λz=>by
   let:=P8 gT;rw[← z]at this;exact Ry this (Ox a6)
  let I2:=I1.tab (more:=#[rawInt lp.line,rawInt lp.col,.ref c']) (t':=tk) hT (λb o n e=>bz b o n e) ∅
  let e0:(#[]:io eK)++#[rawInt lp.line,rawInt lp.col,.ref c']=#[rawInt lp.line,rawInt lp.col,.ref c']:=by simp
  rw[e0]at I2;let fr:r.H.R c'=kf:=Qb a6;let bB:ef c'=kf:=I1.hok.none_of fr;let c3 oc bT t3 ec g1 g2 g3:=id an
  cases ec
  let I3:=I2.xtrack (a:=c') (o:=codO c' lq) (I1.xok J fr (by rw[ao cT];exact bB)) ⟨an,⟨oc,g1⟩,λY O ⟨c4,o4,v4,t4,z1,z2,z3,z4⟩ kk=>by cases z1;erw[_,o4,v4,t4,U,kk o4 z2,z3,z4]⟩
  let aS:Kp h' (h'.o (OB "<lambda>" lq (rA p0) (Bg p1 p2 p3) yB [("told",ct)] ((X.mg "__name__").f .none) c' aI)):=λb o e=>Qm _ e;let I4:=I3.kept (t':=tk) aS;let dT:d≠T:=λz=>by simp!
  let aT:a≠T:=λz=>by simp!
  let dc:d≠c':=λz=>by simp!
  let ac:a≠c':=λz=>by simp!
  let sm:TbS T ef (upd (upd ef T (.tbl #[rawInt lp.line,rawInt lp.col,.ref c'])) c' (codO c' lq)):=λb o n e=>by
   rw[ao (λz=>by simp!),ao n]
   exact e
  refine go _ _ h'.M.J c' _ _ I4 (Qn _ U) (an.keeps aS) (sm _ _ dT hd) (sm _ _ aT C) λkv m=>q kv m _ sm (.inr ⟨c',by rw[ao (Ne.Y cT)];exact af,af⟩)
 .let gT:r.H.R T=Z (PB #[rawInt lp.line,rawInt lp.col,.ref c']):=I1.hok T _ hT
  let an _ _:=(show bu X.e X.w ef r.H c' (codO c' lq) from I1.hok c' _ a9);refine PySem.W.kla_makeFunctionHit (mg:=X.mg) (cv:=.ref c') L.cl I1.ok.glob a8 L.code (L.hd.keeps I1.bk) gT trivial (by simp[codeAmong,rawInt]) a7 λaI h' tk kk sz=>kws_nil ?_
  let aS:Kp r.H (h'.o (OB "<lambda>" lq (rA p0) (Bg p1 p2 p3) yB [("told",ct)] ((X.mg "__name__").f .none) c' aI)):=λb o e=>Qm _ (kk b o e);let I4:=I1.kept (t':=tk) aS;exact go _ _ h'.M.J c' _ _ I4 (Qn _ U) (an.keeps aS) hd C λkv m=>q kv m _ (λb o _ e=>e) (.inr ⟨c',hT,a9⟩)
abbrev Bm(mg:ff->ii eK)(h:fc):Prop:=∃ a,∃ o,(mg "__builtins__"=Z (.ref a)/\a≠builtinsNs/\h.R a=Z o/\o.cls=.type "module"/\o.dict=Z builtinsNs/\o.data=.plain)
def DG{mb:ff->ii eK}{CX:CXT}{k:R}{c T:eN}(KX:K.In s.H)(t:s.H.Ns P9 mg)(M:s.H.Ns builtinsNs mb)(a1:∀ x:ff,x≠"__name__"->mb x=Qa x)(am:s.H.NoLimit)(gens:s.gens=#[])(l:Nw s.H c T)(i:s.H.R T=Z (PB #[]))(nT:K.Z T=kf)(an:Bm mg s.H)(J:s.H.R a=Z {cls:=.type "list",data:=.seq vs.toArray})(hi:QF vs ns)(hl:ns.L<=P7)(N:Room k callerA)(F:∀ base:fc,K.In base->base.Ns P9 mg->Nw base c T->Bm mg base->FnOk P w K mg base CX k p fd [x] sp)(bind:∀(s:e9)(u:eK),BindsTo s fd ⟨[u],[]⟩ [(x,u)])(ab:∀ H:Hp,H T=Z (.tbl #[])->nv a (ns.h V.int)->sp [.ref a] H (λv _=>v=.bl i0) λ_ _ _=>False)(aI:∀ H e s',CX [] H s (λ_ _ _=>False) e s'->False):
  Qu (model P w) callerA (.call (.ref p) ⟨[.ref a],[]⟩) (λr s'=>r=.ok (.ret (.bool i0))/\OldK s.H s'.H/\s'.os=s.os/\AllBare s'.gens) s:=by
 let rv:=vc hi;let aT:a≠T:=λz=>by lia
 let H eT eS aa only frz:∃ H:Hp,H T=Z (.tbl #[])/\nv a (ns.h V.int)/\HOk P w H s.H/\(∀ b,H b≠kf->(b=T∨b=a)/\K.Z b=kf)/\(∀ b u,H b=Z u->b≠T->∃ o j,u=.frz o (.lst j)):=by
  cases D:K.Z a with
  |some o =>
   let e:=KX a o D;rw[J]at e
   cases e
   erw[upd (λ_=>kf) T (.tbl #[]),af,.inr ⟨_,vs.toArray,_,D,U,U,U,by rw[Mc,hi.L];exact hl,by simpa using rv⟩,λb u z=>?_,λb z=>?_,λb u z n=>?_]
   .by_cases y:b=T
    .subst y;rw[af]at z;cases z;exact i
    .rw[ao y]at z;cases z
   .by_cases y:b=T
    .erw[.inl y,y▸nT]
    .rw[ao y]at z;exact Ry U z
   .rw[ao n]at z;cases z
  |none =>
   erw[upd (upd (λ_=>kf) a (.frz {cls:=.type "list",data:=.seq vs.toArray} (.lst (ns.h V.int)))) T (.tbl #[]),af,.inl (.inr ⟨{cls:=.type "list",data:=.seq vs.toArray},by rw[ao aT];exact af⟩),λb u z=>?_,λb z=>?_,λb u z n=>?_]
   .by_cases y:b=T
    .subst y;rw[af]at z;cases z;exact i
    .rw[ao y]at z;by_cases I:b=a
     .subst I;rw[af]at z;cases z;erw[J,by simp[*],vs,_,rv,J]
     .rw[ao I]at z;cases z
   .by_cases y:b=T
    .erw[.inl y,y▸nT]
    .rw[ao y]at z;by_cases I:b=a
     .erw[.inr I,I▸D]
     .rw[ao I]at z;exact Ry U z
   .rw[ao n]at z;by_cases I:b=a
    .subst I;rw[af]at z;cases z;erw[37]
    .rw[ao I]at z;cases z
 let aZ:∀{b:eN}{o:hb},s.H.R b=Z o->o.cls≠.none->o.cls≠.type "list"->H b=kf:=λ{b o} e n1 n2=>by
  grind
 let a2:∀{b:eN}{o:hb}{ef:io DictEntry}{L:R},s.H.R b=Z o->o.data=.dict ef L->H b=kf:=λ{b o ef L} e d=>by
  cases q:H b with
  |none=>rfl
  |some u =>
   rcases(only b (by rw[q];simp)).1 with z|z
   .rw[z,i]at e;lia
   .rw[z,J]at e;grind
 let ap:∀{b:eN}{m:ff->ii eK},s.H.Ns b m->(hidT s.H H).Ns b m:=λ{b m} ⟨o,ef,L,e,d,r⟩=>⟨o,ef,L,oR e (a2 e d),d,r⟩
 let kB:K.In (hidT s.H H):=λb o e=>oR (KX b o e) (by
  grind)
 let cB:Nw (hidT s.H H) c T:=by
  let o v2 a0 tf aS tg a3 text tt f A r:=l;erw[o,v2,a0,tf,aS,tg,a3,text,tt,oR f (aZ f (by rw[A];simp) (by lia)),A,r]
 let bB:Bm mg (hidT s.H H):=by
  let bm o b1 b2 b3 b4 r:=an;erw[bm,o,b1,b2,oR b3 (aZ b3 (by rw[b4];simp) (by lia)),b4,r]
 let md:Mod K mg (hidT s.H H):=⟨kB,ap t,⟨mb,ap M,a1⟩,let ⟨mc,Y,O⟩:=am;⟨mc,ap Y,O⟩⟩;let e0:Env0 P w K mg (hidT s.H H) callerA [] s H:=⟨U,md,λb o e=>Km e,O7 (D3 _ _),trivial,λb z=>Ry (show b∈([]:E eN) from z) (by simp),aa,.of_eq gens⟩
 refine Qy ((F _ kB (ap t) cB bB).run callerA [] s H ⟨[.ref a],[]⟩ [.ref a] [.ref a] _ _ N e0 (bind s (.ref a)) (.cons U .nil) (ab H eT eS)) λr s' h=>?_
 cases r with
 |error e=>exact(aI H e s' h).elim
 |ok fl =>
  cases fl with
  |next=>exact False.elim h
  |brk=>exact False.elim h
  |cont=>exact False.elim h
  |ret u =>
   let v eg os al un av r' q:=h;let q':v=.bl i0:=q;subst q';obtain rfl:u=eK.bool i0:=r';let nil:∀ b:eN,b∉frs []:=λb z=>Ry (show b∈([]:E eN) from z) (by simp)
   let gT:∃ ac,s'.H.R T=Z {cls:=.none,data:=.fields (#[]++ac)}:=by
    let ac e:=un.tbls T _ eT;erw[ac,av T _ e]
   let kp:∀ b o,b≠T->s.H.R b=Z o->s'.H.R b=Z o:=λb o n e=>by
    cases q:H b with
    |none=>exact un.keep b o e q (nil b) (by simp)
    |some u =>
     let C j rfl:=frz b u q n;let Q:=un.frzs b C _ q;let B _:=aa b _ q;let g2 _:=av b _ Q;simp!
   erw[U,⟨λb o e=>?_,λb o e=>?_⟩,os,al]
   .by_cases z:b=T
    .subst z;rw[i]at e
     cases e
     let ac g:=gT;exact .inr (.inl ⟨(l.tab i).isCodeTable,U,#[],ac,U,g⟩)
    .exact .inl (kp b o z e)
   .by_cases z:b=T
    .subst z;let ac g:=gT;erw[_,g]
    .erw[o,kp b o z e]
def walk_ofT{l:Po}{k:R}{q:fI}{Q:E ff}{XP:(ff->ii eK)->fc->Prop}{YP:hx->fc->Prop}{d df:DefRec}{K:Params->Ln}{CX:CXT}{sp:Ln->eN->Sp}{fn:ff}(A:l.most=some n)(ac:n<=P7)(ab:d.params.defaults=[])(N:Room k callerA)(hY:∀(w:hx)(h:fc),YP w h->(K w.params).In h)(ef:(recsOf q).find? (λe=>e.name == fn)=some df)(F:∀(w:hx)(mg:ff->ii eK)(J:eN)(h:fc),(K w.params).In h->h.Ns P9 mg->mg d.name=some (.ref J)->∃ fd:fk,(∀(s:e9)(u:eK),BindsTo s fd ⟨[u],[]⟩ [(x,u)]) /\
   ∃ c T,NH (K w.params) fn=Z (c,T)/\(K w.params).Z T=kf/\∀ base:fc,(K w.params).In base->base.Ns P9 mg->Nw base c T->Bm mg base->FnOk l.e w (K w.params) mg base CX k J fd [x] (sp (K w.params) T))(I:∀(K:Ln)(T:eN)(H:Hp)(a:eN)(ns:E G),ns.L<=n->H T=Z (.tbl #[])->nv a (ns.h V.int)->sp K T [.ref a] H (λv _=>v=.bl i0) λ_ _ _=>False)(am:∀(H:Hp)(s:e9)(e:eK)(s':e9),CX [] H s (λ_ _ _=>False) e s'->False):
  PySem.W.WalkO q Q XP YP l.row.toRowW d [] (λf vs=>PySem.call f vs):=by
 refine Att.attach_call A ab λw an j mg mb J o p cd B a vs ns eg Y D hd z al L aa i t=>?_;let KX:=hY w _ Y;let fd M c T y nT hF:=F w mg J _ KX eg.T.g al;let r C:=PySem.W.tab_of eg.T KX ef y;exact DG KX eg.T.g eg.T.b eg.T.builtins eg.T.nolimit t r C nT eg.T.bmain L aa (Mi i ac) N hF M (λH m O=>I _ T H a ns i m O) λH e s'=>am H j e s'
def op_neE(eg:X.A.units+64<cLine):OpR X (Qf .NotEq) (λx y H Q=>∃ a b kvs,x=.ref a/\y=.ref b/\H a=Z (.dK kvs)/\H b=Z (.dK [])/\Q (.bl (!kvs.isEmpty)) H):=by
 intro B s L H x y v u Q I T c h;let a b kvs rfl rfl o M q:=h
 cases T
 cases c
 let _ j n w g:=wq I.hok o;let _ k i d m:=wq I.hok M;let z:=w.L;let t:=d.L;let J:i=[]:=Mh t.Y;subst J;refine PySem.W.keq_ne (r:=i0) j k g m ∅ (λe=>?_) ⟨.bl (!(n.L == 0&&i0)),H,I,U,?_⟩
 .let f:n=[]:=Mh e
  subst f;exact .nil
 .cases kvs with
  |nil =>
   cases n with
   |nil=>exact q
   |cons p r=>cases z
  |cons p r =>
   cases n with
   |nil=>cases z
   |cons p r=>exact q
def lexB:E (G×G)->im
 |[]=>j5
 | (x,y)::r=>if x=y then lexB r else decide (x<y)
def Ps:E (eK×eK)->E (G×G)->Prop
 |[],[]=>True
 | (u,v)::r,(x,y)::q=>(∃ t,u=.int x t)/\(∃ t,v=.int y t)/\Ps r q
 |_,_=>False
def Jm{b:eN}{oa:hb}{us vs:io eK}{ps:E (G×G)}{P:PySem.Fin->e9->Prop}(p:s.H.R a=Z oa)(m:oa.data=.seq us N)(C:s.H.R b=Z ob)(D:ob.cls=.type "tuple")(n:ob.data=.seq vs j)(o:Ps (us.n.zip vs.n) ps)(hl:us.J=vs.J)(h:P (.done (.ret (.bool (lexB ps)))) s):lf A (hX.«tuple.__lt__» ⟨[.ref a,.ref b],[]⟩) P ef s:=by
 show wpAny _ _ (isInstance (.ref b) (.type "tuple") >>= _) _ _ s;refine Qi (QK (T:="tuple") ⟨ob,C,D⟩ isSubtype_tuple_tuple ?_);simp only[Ow,MI,if_false];refine Qi (wpAny_tupleItemsOf p m (Qi (wpAny_tupleItemsOf C n (Qi ?_))));refine wpAny_forIn_list _ (λrest r k=>r.1=kf/\k=s/\∃ q,Ps rest q/\lexB q=lexB ps) _ ?_ ?_ _ _ ⟨U,U,ps,o,U⟩
 .rintro⟨u,v⟩ rest r k ⟨eg,rfl,q,d,e⟩;match q,d with
  | (x,y)::q,⟨⟨t,Y⟩,⟨M,O⟩,f⟩ =>
   subst Y;subst O;refine Qi (wpAny_eqBool_int ?_);by_cases c:x=y
   .let:(x == y)=i0:=by simp[c]
    rw[this];simp only[Ow,MI,if_false];refine Ql ⟨U,U,q,f,?_⟩;rw[← e];show lexB q=if x=y then lexB q else decide (x<y);rw[Rw c]
   .let:(x == y)=j5:=by simp[c]
    rw[this];simp only[im.not_false,if_true];let J:lexB ps=decide (x<y):=by
     rw[← e];show(if x=y then lexB q else decide (x<y))=_;rw[Rx c]
    rw[J]at h;refine Qi (wpAny_rule (Qi (CmpOf.ints_lt (prog:=prog) (w:=w) (A:=A) (P:=λ(i:R) v=>∃ t,v=.int (if i=0 then x else y) t) (λi=>if i=0 then x else y) (λi v h=>h) 0 1 _ _ _ _ _ ⟨t,U⟩ ⟨M,U⟩ ?_)));exact Qi (Ql (Ql (Ql h)))
 .rintro⟨g,Q⟩ k ⟨eg,rfl,q,d,e⟩;simp only at eg;subst eg;let l:q=[]:=by
   cases q with
   |nil=>rfl
   |cons z q=>exact d.elim
  subst l;let B:hX.Tuple.tupleCompareSizes CmpOp.Lt us.J vs.J=eK.bool (lexB ps):=by
   rw[← e,hl];show eK.bool (decide (vs.J<vs.J))=eK.bool j5;simp!
  show wpAny _ _ (ret (hX.Tuple.tupleCompareSizes CmpOp.Lt us.J vs.J)) _ _ _;rw[B];exact Ql h
def tup_lt{b:eN}{oa:hb}{us vs:io eK}{ps:E (G×G)}(p:s.H.R a=Z oa)(l:oa.cls=.type "tuple")(j:oa.data=.seq us N)(C:s.H.R b=Z ob)(D:ob.cls=.type "tuple")(k:ob.data=.seq vs i)(Y:Ps (us.n.zip vs.n) ps)(hl:us.J=vs.J)(eg:A.units<cLine)(h:Q (.bool (lexB ps)) s):lf A (richCompare .Lt (.ref a) (.ref b)) Q ef s:=by
 refine wpAny_richCompare_same_room (op:=.Lt) (T:="tuple") ⟨oa,p,l⟩ ⟨ob,C,D⟩ PySem.F.slot_tuple_lt (QO PySem.F.slot_tuple_lt ⟨oa,p,l⟩ PySem.F.entry_tuple_lt ?_ (PySem.F.args_tuple_lt_2 _ _)) eg;exact Jm p j C D k Y hl ⟨_,U,(λz=>by cases z),h⟩
def Dz{J S:eN}{P:R->eK->Prop}{St:R->fc->Prop}{g:fc}(W:Walks prog w A.in1 J fp [J] n P St)(bt:R->R->im)(gJ:g.R J=kf)(gS:g.R S=kf)(ab:S≠J)(B:S∉fp)(aa:∀ i j u v,i<n->j<n->P i u->P j v->∀(h:fc)(tk:R)(Q:eK->e9->Prop)(ef:eK->e9->Prop),Kp g h->Q (.bool (bt i j)) {s with heap:=h,toks:=tk}->lf A.in1 (richCompare .Lt u v) Q ef {s with heap:=h,toks:=tk})(N:∀ v h' p,P (argBest bt (n-1)) v->Kp g h'->ad (.ok (.ret v)) {s with heap:=h',toks:=p}):
  ∀(r j:R)(h:fc)(tk:R)(k:eK)(c:R),n-(j+1)=r->j+1<=n->Kp g h->h.R S=Z (QY "list" #[k,k] c)->St (j+1) h->P (argBest bt j) k->argBest bt j<n ->
   Qu (model prog w) A (.builtin "min.loop" ⟨[.ref J,.none,.ref S],[]⟩) ad {s with heap:=h,toks:=tk}:=by
 intro r;induction r with
 |zero =>
  intro j h tk k c er I kg x st q M;let O:j+1=n:=by lia
  refine Rb Ng ?_;rw[Rc Md _];refine Qi (m:=seqItems? (.ref S)) (Rf x U ?_);show wpAny _ A.in1 (tryCatch (pyNext (.ref J)) _ >>= _) _ _ _;refine Qi (Rg (W.done _ _ _ (by rw[← O];exact st) λh' p d=>?_))
  let ac:=kg.but gJ d;let a:=d S _ (by simpa using ab) x
  let y:=QT h' S (QB λ_=>(#[]:io eK));refine Qi (m:=Rh S λ_=>#[]) (Ri a U (Qi (QX (Ql ?_))));exact N k _ _ (by rw[← O];exact q) (ac.same gS y)
 |succ r L =>
  intro j h tk k c er I kg x st q M;let lt:j+1<n:=by lia
  refine Rb Ng ?_;rw[Rc Md _];refine Qi (m:=seqItems? (.ref S)) (Rf x U ?_);show wpAny _ A.in1 (tryCatch (pyNext (.ref J)) _ >>= _) _ _ _;refine Qi (Rg (W.item (j+1) _ _ _ lt st λv Y eg H f D=>?_));let C:=kg.but gJ D;let T:=D S _ (by simpa using ab) x
  show wpAny _ A.in1 (tryCatch (holding [v,v] (richCompare .Lt v k >>= _)) _ >>= _) _ _ _;refine Qi (Rg (Qj (Qi (aa (j+1) (argBest bt j) v k lt M H q Y eg _ _ C ?_))));refine Qi (Qj (Qg (Qi (QX (Ql ?_)))));let eA:argBest bt (j+1)=if bt (j+1) (argBest bt j)=i0 then j+1 else argBest bt j:=rfl
  cases t:bt (j+1) (argBest bt j) with
  |true =>
   let y:=QT Y S (QB λ_=>#[v,v]);let c2 l:∃ c2,(Y.update S (QB λ_=>#[v,v])).R S=Z (QY "list" #[v,v] c2):=⟨_,QZ T λ_=>#[v,v]⟩;simp;refine Qi (Ri T U (Qi (QX ?_)));rw[Rw t]at eA;refine Ql ⟨Rj Md _,L (j+1) _ _ v c2 ∅ lt (C.same gS y) l (W.frame _ _ _ f λb M o e=>(y.2 b (λz=>B (z▸M))).Q e) (by rw[eA];exact H) (by rw[eA];exact lt)⟩
  |false =>
   simp;rw[Rx (by rw[t];simp)]at eA
   refine Qi (QX (Ql ?_));erw[Rj Md _,L (j+1) _ _ k c ∅ lt C T f (by rw[eA];exact q) (by rw[eA];exact M)]
def Gz{l:eN}(bt:R->R->im)(L:A.handled=kf)(hl:s.H.IsList l vs.toArray)(n:0<vs.L)(aa:∀(i j:R)(u v:eK),vs[i]?=Z u->vs[j]?=Z v->∀(h:fc)(tk:R)(Q:eK->e9->Prop)(ef:eK->e9->Prop),Kp s.H h->Q (.bool (bt i j)) {s with heap:=h,toks:=tk}->lf A.in1 (richCompare .Lt u v) Q ef {s with heap:=h,toks:=tk})(N:∀ v h' p,vs[argBest bt (vs.L-1)]?=Z v->Kp s.H h'->Q v {s with heap:=h',toks:=p}):
  lf A (call (.builtin "min") [.ref l]) Q ef s:=by
 let nm:(toString "min"++toString ".loop" : String) = "min.loop":=by decide
 let ol ab _:=id hl;let J:l<s.H.M.J:=P8 ab;refine kmk_tree PySem.F.kind_min PySem.F.plain_min PySem.F.entry_min (PySem.F.args_min1 _) ?_;show wpAny _ A.in1 (Rk "min" ["key","default"] 0 ⟨[],[]⟩ >>= _) _ _ s;refine Qi (wpAny_of_eq (show Rk "min" ["key","default"] 0 ⟨[],[]⟩=pure [kf,kf] from rfl) (Qi (Ql (Qi (wpAny_pyIter_list hl ?_)))));refine Qi (Q0 ?_ (LU _));rw[nm];let g k:∃ g:hb,g={cls:=eK.type "list_iterator",data:=Data.fields #[eK.ref l,eK.int 0 0]}:=⟨_,U⟩;rw[← k];let sz:(s.H.o g).M.J=s.H.M.J+1:=by rw[Qv]
 let I:(s.H.o g).M.J≠s.H.M.J:=by lia
 let B:l≠s.H.M.J:=LJ J;let r:∀ b,s.H.M.J<=b->s.H.R b=kf:=λb M=>Qb M;let C:Kp s.H ((s.H.o g).o (QY "list" #[] 0)):=λb o e=>Qm _ (Qm _ e);let x:((s.H.o g).o (QY "list" #[] 0)).R (s.H.o g).M.J=Z (QY "list" #[] 0):=Qn _ U;let hJ:((s.H.o g).o (QY "list" #[] 0)).R s.H.M.J=Z g:=Qm _ (Qn _ (by rw[k];rfl))
 let W:=Walks.list (prog:=prog) (w:=w) (A:=A.in1) L s.H.M.J l B vs.toArray;let al:vs.toArray.J=vs.L:=Mc ..;rw[al]at W;let ac:∀ i j u v,i<vs.L->j<vs.L->vs.toArray[i]?=Z u->vs.toArray[j]?=Z v->∀(h:fc)(tk:R)(Q:eK->e9->Prop)(ef:eK->e9->Prop),Kp s.H h->Q (.bool (bt i j)) {s with heap:=h,toks:=tk}->lf A.in1 (richCompare .Lt u v) Q ef {s with heap:=h,toks:=tk}:=λi j u v _ _ Y O=>aa i j u v (by simpa using Y) (by simpa using O)
 refine Ql ⟨Rj Md _,Rb Ng ?_⟩;rw[Rc Md _];refine Qi (m:=seqItems? (.ref (s.H.o g).M.J)) (Rf x U ?_);show wpAny _ A.in1 (tryCatch (pyNext (.ref s.H.M.J)) _ >>= _) _ _ _;refine Qi (Rg (W.item 0 _ _ _ n ⟨⟨g,hJ,by rw[k],by rw[k];rfl⟩,hl.at λo e=>C _ _ e⟩ λv Y q H f D=>?_))
 let a:=C.but (r _ (Lo _)) D;let T:=D _ _ (by simpa using I) x
 let y:=QT Y (s.H.o g).M.J (QB λ_=>#[v,v]);let c2 t:∃ c2,(Y.update (s.H.o g).M.J (QB λ_=>#[v,v])).R (s.H.o g).M.J=Z (QY "list" #[v,v] c2):=⟨_,QZ T λ_=>#[v,v]⟩;let eg:(s.H.o g).M.J∉[s.H.M.J,l]:=λz=>by
  obtain z|z:=Lw.mp z
  .exact I z
  .let c:=LB.mp z
   exact Ry J (by rw[← c,sz];exact Ox (NC _))
 refine Qi (m:=Rh _ λ_=>#[v,v]) (Ri T U ?_);rw[nm];refine Ql ⟨Rj Md _,Dz W bt (r _ (Lo _)) (r _ ∅) I eg ac (λv h' p e d=>N v h' p (by simpa using e) d) _ 0 _ _ v c2 U n (a.same (r _ ∅) y) t (W.frame _ _ _ f λb M o e=>(y.2 b (λz=>eg (z▸M))).Q e) H n⟩
abbrev T3:=G×G×G
def TrA(H:Hp)(v:V)(t:T3):Prop:=∃ a,v=.ref a/\H a=Z (.tup [.int t.1,.int t.2.1,.int t.2.2])
def lt3(a b:T3):im:=lexB [(a.1,b.1),(a.2.1,b.2.1),(a.2.2,b.2.2)]
def lt3_le{a b:T3}(h:lt3 a b=i0):a.1<=b.1:=by
 unfold lt3 lexB at h;by_cases c:a.1=b.1
 .lia
 .rw[Rx c]at h;let:=Rl h;lia
def lt3_ge{a b:T3}(h:lt3 a b=j5):b.1<=a.1:=by
 unfold lt3 lexB at h;by_cases c:a.1=b.1
 .lia
 .rw[Rx c]at h;let:=of_decide_eq_false h;lia
theorem best3(W:R->T3):∀ k,argBest (λi j=>lt3 (W i) (W j)) k<=k/\∀ j,j<=k->(W (argBest (λi j=>lt3 (W i) (W j)) k)).1<=(W j).1
 |0=>by
  erw[Lo _,λj I=>?_];let e:j=0:=by lia
  rw[e];exact Mn _
 |k+1=>by
  let Y O:=best3 W k;let e:argBest (λi j=>lt3 (W i) (W j)) (k+1)=if lt3 (W (k+1)) (W (argBest (λi j=>lt3 (W i) (W j)) k))=i0 then k+1 else argBest (λi j=>lt3 (W i) (W j)) k:=rfl;rw[e]
  cases c:lt3 (W (k+1)) (W (argBest (λi j=>lt3 (W i) (W j)) k)) with
  |true =>
   rw[Rw U];let ef:=lt3_le c;erw[Lo _,λj I=>?_];by_cases z:j=k+1
   .subst z;exact Mn _
   .let:=O j ∅;lia
  |false =>
   rw[Rx LS];let ef:=lt3_ge c;erw[4,λj I=>?_]
   by_cases z:j=k+1
   .subst z;exact ef
   .exact O j ∅
inductive rMin3X(K:Ln)(xs:E V)(H:L2.Hp)(Q:L2.VK):Prop
 |mk (p ys ws:_) (_:xs=[.ref p])(_:nv p ys)(_:LsAt TrA H ys ws)(_:ws≠[])(_:∀(y:V),ys[argBest (λi j=>lt3 (ws.f i (0,0,0)) (ws.f j (0,0,0))) (ws.L-1)]?=Z y->Q y H)
def rJ(T:X.calm=i0)(eg:X.A.units+64<cLine):iJ X (.builtin "min") (rMin3X X.K):=by
 intro B s L H D x Q I r h;let p g ws rfl hS hL aa q:=h;let u rfl f:=kJ r
 cases f
 let J rv Y _:=I.list hS;let yl:=hL.1;let il:=rv.L;let wp:0<ws.L:=OS.mpr aa;let W eW Wi:∃ W:R->T3,W=(λi=>ws.f i (0,0,0))/\∀ i t,ws[i]?=Z t->W i=t:=⟨_,U,λi t e=>by show ws.f i (0,0,0)=t;rw[LA,e];rfl⟩
 let q:∀ y,g[argBest (λi j=>lt3 (W i) (W j)) (ws.L-1)]?=Z y->Q y H:=λy z=>q y (by rw[eW]at z;exact z)
 let look:∀(i:R)(v:eK),J[i]?=Z v->∃ a o y1 y2 y3 n,v=.ref a/\s.H.R a=Z o/\o.cls=.type "tuple"/\o.data=.seq #[y1,y2,y3] n/\(∃ t,y1=.int (W i).1 t)/\(∃ t,y2=.int (W i).2.1 t)/\(∃ t,y3=.int (W i).2.2 t):=λi v e=>by
  let N:i<g.L:=by rw[il];exact(Ll.mp e).1
  let t c a ea k:=hL.get (Lj N);let v' ev am:=rv.get (Lj N);rw[e]at ev
  cases ev
  rw[ea]at am;obtain rfl:v=.ref a:=am;let _ ap rt o C al n hd:=I.hok a _ k;rw[Wi i t c];let y1 u1 rfl w c1:=Vals.unc rt;let y2 u2 rfl r2 c2:=Vals.unc c1;let y3 u3 rfl r3 c3:=Vals.unc c2;cases c3
  erw[a,o,y1,y2,y3,n,U,C,al,hd,w,r2,r3]
 refine Gz (vs:=J) (λi j=>lt3 (W i) (W j)) (I.ok.hd T) Y.isList ∅ ?_ ?_
 .intro i j u v ac ab h tk Q' E' d hQ;let an:X.A.in1.units<cLine:=by
   let e:X.A.in1.units<=X.A.units+64:=by simp[Around.in1]
   lia
  let a oa y1 y2 y3 n rfl ga ca da w r2 r3:=look i u ac;let b ob z1 O z3 m rfl gb cb db ef M q3:=look j v ab;exact tup_lt (d _ _ ga) ca da (d _ _ gb) cb db (ps:=[((W i).1,(W j).1),((W i).2.1,(W j).2.1),((W i).2.2,(W j).2.2)]) ⟨w,ef,r2,M,r3,q3,trivial⟩ U an hQ
 .intro v l tk e d;let N:argBest (λi j=>lt3 (W i) (W j)) (J.L-1)<g.L:=by
   let:=(Ll.mp e).1;lia
  let v' ev am:=rv.get (Lj N);rw[e]at ev
  cases ev
  erw[_,H,I.kept d,am,q _ ?_];rw[show ws.L-1=J.L-1 by lia]
  exact Lj N
inductive rMin3(K:Ln)(xs:E V)(H:L2.Hp)(Q:L2.VK):Prop
 |mk (p ys ws:_) (_:xs=[.ref p])(_:nv p ys)(_:LsAt TrA H ys ws)(_:ws≠[])(_:∀(i:R)(y:V)(t:T3),ys[i]?=Z y->ws[i]?=Z t->(∀ t'∈ws,t.1<=t'.1)->Q y H)
def wW(T:X.calm=i0)(eg:X.A.units+64<cLine):iJ X (.builtin "min") (rMin3 X.K):=by
 intro B s L H D x Q I r h;let p v J rfl e d n q:=h;let wp:0<J.L:=OS.mpr n;refine rJ T eg B s L H _ x Q I r ⟨p,v,J,U,e,d,n,λy m=>?_⟩;let b1 b2:=best3 (λi=>J.f i (0,0,0)) (J.L-1);let t u _:=d.get m;refine q _ _ t m u λa b=>?_;let j M O:=MB b;let:=b2 j ∅
 rw[LA,LA,u,Lj M,O]at this;exact this
def Hr{xs:io R}(hs:xs.n.y (· < ·)):∀(g lo hi:R),hi-lo<=g->lo<=hi->hi<=xs.J->(∀ i,i<lo->xs.f i j<j)->(∀ i,hi<=i->i<xs.J->j<=xs.f i j) ->
  (∀ i,i<ih.below.go xs j g lo hi->xs.f i j<j)/\(∀ i,ih.below.go xs j g lo hi<=i->i<xs.J->j<=xs.f i j)/\ih.below.go xs j g lo hi<=xs.J:=by
 let up:∀ a b,a<b->b<xs.J->xs.f a j<xs.f b j:=λa b n M=>by
  let o:a<xs.J:=Ni n M;let:=ME.mp hs a b ∅ ∅ n
  simp!
 intro g;induction g with
 |zero =>
  intro lo hi Y O ef m I;let:lo=hi:=by lia
  subst this;erw[m,I,ef]
 |succ g L =>
  intro lo hi Y O ef m I;unfold ih.below.go;by_cases c:lo<hi
  .rw[Rw c];let Q:lo<=(lo+hi)/2:=by lia
   let J:(lo+hi)/2<hi:=by lia
   dsimp only;by_cases d:xs.f ((lo+hi)/2) j<j
   .rw[Rw d];refine L _ _ ∅ ∅ ef (λi s=>?_) I
    by_cases e:i=(lo+hi)/2
    .rw[e];exact d
    .exact Ni (up i _ ∅ ∅) d
   .rw[Rx d];refine L _ _ ∅ ∅ ∅ m λi s C=>?_
    by_cases e:i=(lo+hi)/2
    .rw[e];lia
    .let:=up _ i (show(lo+hi)/2<i by lia) C
     lia
  .rw[Rx c];let:lo=hi:=by lia
   subst this;erw[m,I,ef]
theorem AS{xs:io R}(hs:xs.n.y (· < ·))(j:R):(∀ i,i<Rm xs j->xs.f i j<j)/\(∀ i,Rm xs j<=i->i<xs.J->j<=xs.f i j)/\Rm xs j<=xs.J :=
 Hr hs xs.J 0 xs.J ∅ (LU _) (Lo _) (λi h=>Ry h (MJ _)) λi Y O=>Ry O ∅
def SetT(t:ih):Prop:=t.place.n.y (· < ·)/\t.dummies=#[]
theorem SetT.fresh(a b:R)(j:im):SetT (.fresh a b j):=⟨List.Pairwise.nil,U⟩
theorem SetT.standIn(t:ih)(n:R):SetT (t.standIn n):=⟨by
 show(io.range n).n.y (· < ·);rw[io.toList_range]
 exact List.pairwise_lt_range,U⟩
def D5(j:R):ih.has #[] j=j5:=by
 rfl
def SetT.put{t:ih}(h:SetT t)(I:t.slot j=.empty):SetT (t.put j).1:=by
 let f hd:=h;let b1 b2 b3:=AS f j;let ne:t.place[Rm t.place j]?≠Z j:=λz=>by
  unfold ih.slot at I;simp!
 erw[15]
 .show(ih.insertAt t.place (Rm t.place j) j).n.y (· < ·);rw[ih.toList_insertAt];let c:∀ a∈t.place.n.j (Rm t.place j),a<j:=λa o=>by
   let i B:=MR.mp o;let T:i<Rm t.place j:=by
    let:=(Ll.mp B).1;rw[Me]at this;lia
   rw[List.getElem?_take,Rw T]at B;let:=b1 i T;rw[Mp]at B;rw[Od,B]at this;exact this
  let d:∀ b∈t.place.n.drop (Rm t.place j),j<b:=λb M=>by
   let i B:=MR.mp M;rw[OX,Mp]at B;let T:Rm t.place j+i<t.place.J:=by
    let z _:=Oe.mp B;exact z
   let Y:=b2 _ (MP _ i) T;rw[Od,B]at Y;let g:j<=b:=Y;obtain z|z:=Nat.lt_or_ge j b
   .exact z
   .let e:b=j:=by lia
    subst e;by_cases k:i=0
    .subst k;exact Ry B ne
    .let A:=b2 (Rm t.place b) (Lo _) ∅
     let:=ME.mp f (Rm t.place b) (Rm t.place b+i) (by simp;lia) (by simpa using T) ∅
     let H Q:=Oe.mp B;let ef:t.place.f (Rm t.place b) b=t.place[Rm t.place b]'∅:=by rw[Od,M4];rfl
     rw[ef]at A;simp only[io.getElem_toList]at this;rw[Q]at this;lia
  refine List.pairwise_append.mpr ⟨f.sublist (List.take_sublist _ _),Ny.mpr ⟨d,f.sublist (List.drop_sublist _ _)⟩,λa o b M=>?_⟩;obtain z|z:=Lw.mp M
  .rw[z];exact c a o
  .exact Ni (c a o) (d b z)
 .show(if ih.has t.dummies j=i0 then ih.eraseAt t.dummies (Rm t.dummies j) else t.dummies)=#[];rw[hd,D5,Rx LS]
def FP{t:ih}{f:R->G}{h:G}(hd:t.dummies=#[]):∀(g:R)(p:ih.Probe),p.dummy=kf->∀ j d,ih.probe.go t f h g p=Z (.empty j d)->t.slot j=.empty/\d=kf:=by
 intro g;let n:∀ j,t.slot j≠.dummy:=λj z=>by
  unfold ih.slot at z;rw[hd,D5]at z;grind
 induction g with
 |zero=>intro p _ j d e;cases e
 |succ g L =>
  intro p Y j d e;let a:(t.advance p).dummy=kf:=by
   unfold ih.advance;split<;>exact Y
  unfold ih.probe.go at e;split at e
  .lia
  .simp!
  .split at e
   .cases e
   .exact L _ a j d e
def SetT.layNew{t:ih}(h:SetT t)(es:io (G×eK))(L:G)(x:eK):SetT (layNew t es L x).2.1/\(layNew t es L x).2.1.led=t.led:=by
 unfold PySem.layNew;split
 .rename_i a b e;unfold ih.freeSlot at e;split at e
  .rename_i j dm A;let H Q:=FP h.2 _ _ U j dm A;subst Q;let B:(j,j5)=(a,b):=L3 e
   cases B
   dsimp only;unfold ih.orStandIn;split
   .erw[h.put H,U]
   .erw[SetT.standIn _ _,U]
  .contradiction
 .erw[SetT.standIn _ _,U]
def yJ(n:R)(g:R->ii R):(((LD n).filterMap λj=>(g j).h (j,·)).h (·.1)).y (· < ·):=by
 let:((LD n).filterMap λj=>(g j).h (j,·)).h (·.1)=(LD n).filter λj=>(g j).isSome:=by
  induction (LD n) with
  |nil=>rfl
  |cons a l L =>
   cases e:g a with
   |none=>simp[e,L]
   |some b=>simp[e,L]
 rw[this];exact List.pairwise_lt_range.filter _
def SetT.relayAll(t:ih)(es:io (G×eK))(a:R):SetT (relayAll t es a).2.1/\(relayAll t es a).2.1.led=t.led:=by
 unfold PySem.relayAll;split
 .rename_i M b e;dsimp only;split
  .unfold ih.relaid ih.laid at e
   cases D:ih.layClean (ih.sizeAbove a-1) (es.h (·.1)) with
   |none=>rw[D]at e;cases e
   |some c =>
    rw[D]at e
    cases e
    erw[⟨?_,U⟩,U];show(List.toArray _).n.y (· < ·);rw[List.toList_toArray];exact yJ _ _
  .erw[SetT.standIn _ _,U]
 .erw[SetT.standIn _ _,U]
def pW(p:us.Perm vs):∀{ns:E G},QF vs ns->∃ ms,QF us ms/\ms.Perm ns:=by
 let go:∀{us vs:E eK},us.Perm vs->∀{ns:E G},QF us ns->∃ ms,QF vs ms/\ms.Perm ns:=by
  intro us vs p;induction p with
  |nil=>exact λh=>⟨_,h,.rfl⟩
  |cons x _ L =>
   intro ns h
   cases h with
   |cons n t h =>
    let ms Y O:=L h;erw[n::ms,.cons n t Y,O.cons n]
  |swap x y l =>
   intro ns h
   cases h with
   |cons n t h =>
    cases h with
    |cons i M h=>exact⟨i::n::_,.cons i M (.cons n t h),List.Perm.swap _ _ _⟩
  |trans _ _ a b =>
   intro ns h;let ms Y O:=a h;let v ef m:=b Y;erw[v,ef,m.Q O]
 exact λ{ns} h=>go p.Y h
def DV(h:QF vs ns)(k:G)(t:Tok):QF (vs++[.int k t]) (ns++[k]):=by
 induction h with
 |nil=>exact .cons k t .nil
 |cons n M _ L=>exact .cons n M L
def Aw(h:QF vs ns):(∀ v∈vs,∃ n t,v=.int n t/\n∈ns)/\∀ n∈ns,∃ t,eK.int n t∈vs:=by
 induction h with
 |nil=>simp
 |cons n t _ L =>
  erw[λv H=>?_,λm C=>?_]
  .obtain z|z:=Lw.mp H
   .erw[n,t,z,Lv ..]
   .let a b c d:=L.1 v z;erw[a,b,c,Lr _ d]
  .obtain z|z:=Lw.mp C
   .subst z;erw[t,Lv ..]
   .let b c:=L.2 m z;erw[b,Lr _ c]
def byT(w:hx):im:=w.params.followText "set-order"
def SetG(P:fI)(w:hx)(h:fc)(a:eN)(l:E G):Prop:=∃ o y f t,h.R a=Z o/\o.ExactSet/\o.data=.set y f t/\ElemsOf (intKind P w) y.n/\(∃ L,QF (y.n.h (·.2)) L/\L.Perm l)/\l.l/\y.J<scanBound/\t.fits y.J=i0/\SetT t/\t.led = !byT w
def SetG.keeps{l:E G}(g:SetG P w h a l)(k:∀ o,h.R a=Z o->h'.R a=Z o):SetG P w h' a l:=by
 let o y f t N u j B:=g;erw[o,y,f,t,k o N,u,j,B]
def addN(l:E G)(k:G):E G:=if k∈l then l else l++[k]
def Ab{es i:io (G×eK)}{t t':ih}{l:E G}(go:h.R a=Z o)(u:o.ExactSet)(C:o.data=.set es ep t)(c:ElemsOf (intKind P w) i.n)(r:∃ ns,QF (i.n.h (·.2)) ns/\ns.Perm l)(nd:l.l)(sz:i.J<scanBound)(B:t'.fits i.J=i0)(tg:SetT t')(ld:t'.led = !byT w):
  SetG P w (h.update a (hb.putSet i t')) a l/\∃ o2,(h.update a (hb.putSet i t')).R a=Z o2/\o2.ExactSet/\o2.data=.set i (ep+1) t':=by
 let O:=QC (hb.putSet i t') go (by rw[putSet_of i t' C];rfl)
 rw[putSet_of i t' C]at O;erw[⟨_,i,ep+1,t',O,u,U,c,r,nd,sz,B,tg,ld⟩,_,O,u,U]
def putInS{l:E G}{k:G}{tk:Tok}{Q:im->e9->Prop}(g:SetG prog w s.H a l)(aZ:l.L+1<scanBound)(q:∀(b:im)(h':fc),Qc a s.H h'->SetG prog w h' a (addN l k)->Q b {s,h'}):lf A (setAddHashed a (.int k tk) ((intKind prog w).hash k)) Q ef s:=by
 let o y ep t go gx gd el{ns ia H}nd sz ft tg ld:=id g;let a0:(intKind prog w).is k (.int k tk)=i0:=intKind_is _ _ _ _;let len:y.J=l.L:=by
  let Y:∀{I:E eK}{ns:E G},QF I ns->I.L=ns.L:=λh=>by
   induction h with
   |nil=>rfl
   |cons _ _ _ L=>simp[*]
  let:=Y ia;rw[Lp,L4,H.length_eq]at this;exact this
 let gw:∀(b:im){aa:e9}{Q':Unit->e9->Prop},Q' () aa->lf A (match b with|true=>rule "set.scan.the-table-gave-way" | j5=>pure ()) Q' ef aa:=λb=>by
  intro D Q' d
  cases b
  .exact Ql d
  .exact wpAny_rule d
 unfold setAddHashed setAddHashedIn;refine Qj (Qi (Ro go gd ft ?_));dsimp only;rw[byScan_of (knd:=intKind prog w) U sz el];simp only[↓reduceIte];unfold setAddByScan;refine Qi (Qi (wpAny_rule (Qi (wpAny_setScan_of (knd:=intKind prog w) a0 go gd ft el ?_))))
 cases fr:List.findIdx? (λe=>(intKind prog w).is k e.2) y.n with
 |some j =>
  let jl jp _:=List.findIdx?_eq_some_iff_getElem.mp fr;let ap:k∈l:=by
   let n t' u J:=(Aw ia).1 _ (List.mem_map_of_mem (f:=(·.2)) (Nh jl));let e3:(y.n[j]).2=.int n t':=u;rw[e3]at jp;let:k=n:=(intKind prog w).inj _ k n jp (intKind_is _ _ _ _);rw[this];exact H.mem_iff.mp J
  refine Ql (Ql ?_);let e:addN l k=l:=Rw ap;let:=q j5 s.H (fc.SameBut.refl a s.H) (by rw[e];exact g)
  exact this
 |none =>
  let av:k∉l:=λz=>by
   let t' m:=(Aw ia).2 k (H.mem_iff.mpr z);let e eg J:=LW.mp m;let:=List.findIdx?_eq_none_iff.mp fr e eg;rw[J,intKind_is]at this;lia
  let ea:addN l k=l++[k]:=Rx av;let a1:(l++[k]).l:=Mt.mpr ⟨nd,LV.mpr ⟨Mr,Na⟩,λa i b M e=>av (by rw[LB.mp M]at e;exact e▸i)⟩
  let T:=layNew_perm t y ((intKind prog w).hash k) (.int k tk);let p:=layNew_fits t y ((intKind prog w).hash k) (.int k tk);let c C:=tg.layNew y ((intKind prog w).hash k) (.int k tk);dsimp only;generalize layNew t y ((intKind prog w).hash k) (.int k tk)=N at T p c C ⊢;let ac t1 wd gv:=N;dsimp only at T p c C ⊢;rw[O5]at T;let a2:ElemsOf (intKind prog w) ac.n:=(el.o a0 U).perm T;let a3:∃ ms,QF (ac.n.h (·.2)) ms/\ms.Perm (l++[k]):=by
   let p2:=T.h (·.2);rw[LH]at p2;let ms Y O:=pW p2 (DV ia k tk);erw[ms,Y,O.Q (H.append_right _)]
  let aI:ac.J<scanBound:=by rw[← L4,T.length_eq,Ls,L4,len];exact aZ
  let a9:t1.led = !byT w:=C.Q ld;refine Qi (gw _ ?_)
  let an:∀ t2:ih,t2.fits ac.J=i0->SetT t2->t2.led = !byT w->lf A (do
    storeSet a ac t2
    if(!wd&&t2.tooFull)=i0 then do
      (match(relayAll t2 ac (Rp ac.J)).2.2 with|true=>rule "set.scan.the-table-gave-way" | j5=>pure ())
      storeSet a (relayAll t2 ac (Rp ac.J)).1 (relayAll t2 ac (Rp ac.J)).2.1
      pure (Z i0)
     else pure (Z i0)) (λr v=>∃ b:im,r=Z b/\Q b v) ef s:=by
   intro t2 f2 g2 l2;let G1 o2 a4 ba a5:=Ab (P:=prog) (w:=w) go gx gd a2 a3 a1 aI f2 g2 l2;let a6:=QT s.H a (hb.putSet ac t2);refine Qi (wpAny_storeSet_of go gd ?_ (fits_of_scanBound aI));split
   .let al:=relayAll_perm t2 ac (Rp ac.J)
    let aS:=relayAll_fits t2 ac (Rp ac.J);let am ab:=SetT.relayAll t2 ac (Rp ac.J);generalize relayAll t2 ac (Rp ac.J)=N2 at al aS am ab ⊢;let a7 t3 be:=N2;dsimp only at al aS am ab ⊢;let bb:∃ ms,QF (a7.n.h (·.2)) ms/\ms.Perm (l++[k]):=by
     let m1 Y O:=a3;let ms B h4:=pW (al.h (·.2)) Y;erw[ms,B,h4.Q O]
    let a8:a7.J<scanBound:=by rw[← L4,al.length_eq,L4];exact aI
    refine Qi (gw _ (Qi (wpAny_storeSet_of a4 a5 ?_ (fits_of_scanBound a8))));let G2 _:=Ab (P:=prog) (w:=w) a4 ba a5 (a2.perm al) bb a1 a8 aS am (ab.Q l2);refine Ql ⟨i0,U,?_⟩;exact q i0 _ (a6.Q (QT _ a _)) (by rw[ea];exact G2)
   .refine Ql ⟨i0,U,?_⟩;exact q i0 _ a6 (by rw[ea];exact G1)
  let all:=an t1 p c a9
  let step:∀(r:ii im)(v:e9),(∃ b:im,r=Z b/\Q b v)->lf A (match r with
    |some aT=>pure aT
    |none=>setAddHashedIn a (eK.int k tk) ((intKind prog w).hash k) 99999) Q ef v:=λr v ⟨b,e,z⟩=>by
   subst e;exact Ql z
  split
  .refine Qi ?_;rw[hashByValue_scannable 8 (x:=eK.int k tk) U];refine Ql ?_;exact Qe all step λ_ _ z=>z
  .refine Qi (Ql ?_);exact Qe all step λ_ _ z=>z
def AV(l:E G)(k:G):(addN l k).L<=l.L+1:=by
 unfold addN;split
 .lia
 .simp
def Fp{S:eN}{wr:E eN}{P:R->eK->Prop}{St:R->fc->Prop}(W:Walks prog w A.in1 I fp wr n P St)(x:S∉fp)(ns:E G)(m:ns.L=n)(hv:∀ i v,P i v->∃ t,v=.int (ns.f i 0) t)(M:n+1<scanBound):
  ∀(r i:R)(h:fc)(tk:R)(l:E G),n-i=r->i<=n->St i h->SetG prog w h S l->l.L<=i ->
   (∀ h' p,(∀ b o,b≠S->b∉wr->h.R b=Z o->h'.R b=Z o)->SetG prog w h' S ((ns.drop i).foldl addN l)->ad (.ok (.ret .none)) {s with heap:=h',toks:=p}) ->
   Qu (model prog w) A (.builtin "set.update.loop" ⟨[.ref S,.ref I],[]⟩) ad {s with heap:=h,toks:=tk}:=by
 let H:S∉wr:=λz=>x (W.sub _ z);intro r;induction r with
 |zero =>
  intro i h tk l ef B st g J N;let q:i=n:=by lia
  subst q;refine Rb PyProof.Rows.F.entry_set_update_loop ?_;rw[Rc Rq _];show wpAny _ A.in1 (pyNext (.ref I) >>= _) _ _ _;refine Qi (W.done _ _ _ st λh' p d=>?_);show wpAny _ A.in1 (ret eK.none) _ _ _;refine Ql (N h' p (λb o _ y e=>d b o y e) ?_);rw[List.drop_of_length_le ∅]
  exact g.keeps λo e=>d _ _ H e
 |succ r L =>
  intro i h tk l ef B st g J N;let T:i<n:=by lia
  refine Rb PyProof.Rows.F.entry_set_update_loop ?_;rw[Rc Rq _];show wpAny _ A.in1 (pyNext (.ref I) >>= _) _ _ _;refine Qi (W.item i _ _ _ T st λv Y eg pv c D=>?_);let t rfl:=hv i v pv;let j:=g.keeps λo e=>D _ _ H e;show wpAny _ A.in1 (holding [eK.int (ns.f i 0) t] (setAdd S (.int (ns.f i 0) t)) >>= _) _ _ _;refine Qi (Qj ?_);unfold setAdd;refine Qj (Qi ((intKind prog w).pyHash (k:=ns.f i 0) (intKind_is _ _ _ _) ?_));refine putInS (l:=l) j ∅ λb O a u=>?_
  let f:∀ b o,b≠S->Y.R b=Z o->O.R b=Z o:=λb o n e=>(a.2 b n).Q e;let C:ns.drop i=ns.f i 0::ns.drop (i+1):=by simp[*]
  refine Ql ⟨Rj Rq _,L (i+1) _ _ (addN l (ns.f i 0)) ∅ T (W.frame _ _ _ c λb M o e=>f b o (λz=>x (z▸M)) e) u (by let:=AV l (ns.f i 0);lia) λh' p d Q=>?_⟩
  refine N h' p (λb o n y e=>d b o n y (f b o n (D b o y e))) ?_;rw[C,Pr];exact Q
def yq(a:eK){Q₁:eK->e9->Prop}(h:Q₁ (.ref s.H.M.J) {s,s.H.o {cls:=.type "set",dict:=kf,data:=.set #[] 0 (.fresh 0 0 (!byT w))}}):
  Qu (model prog w) A (.call (.builtin "set.__new__") ⟨[.type "set",a],[]⟩) (wants Q₁ ef) s:=by
 refine codeAny_of_tree ?_;show wpAny _ A.in1 (do checkBuiltinCall "set.__new__" ⟨[.type "set",a],[]⟩;again (.builtin "set.__new__" ⟨[.type "set",a],[]⟩)) _ _ s
 refine Qi (wpAny_of_eq (PySem.F.newCall_set_1 a) (Ql ⟨Rj PySem.F.plain_set_new _,Rb PySem.F.entry_set_new ?_⟩));rw[Rc PySem.F.plain_set_new _];unfold hX.«set.__new__» hX.Frozenset.newClass;let b:=PySem.sub_set_self;let Y Q T l os:=s;dsimp only;wp_walk;refine Rr (Ql ?_);dsimp only;simp only[newObj];exact Qi (wpAny_alloc (Ql (Ql h)))
theorem fG:∀{vs:E eK}{ns:E G},QF vs ns->vs.L=ns.L/\∀(i:R)(v:eK),vs[i]?=Z v->∃ t,v=.int (ns.f i 0) t
 |_,_,.nil=>⟨U,λi v e=>by simp at e⟩
 |_,_,.cons n t r=>by
  let Y O:=fG r;erw[by simp[*],λi v e=>?_]
  match i,e with
  |0,e=>cases e;erw[t,U]
  |i+1,e=>exact O i v e
abbrev newO(w:hx):hb:={cls:=.type "set",dict:=kf,data:=.set #[] 0 (.fresh 0 0 (!byT w))}
theorem newG(e:h.R a=Z (newO w)):SetG P w h a [] :=
 ⟨_,#[],0,_,e,⟨U,U,U⟩,U,λx J=>by simp at J,⟨[],.nil,.rfl⟩,Na,∅,U,SetT.fresh _ _ _,U⟩
def xK{lst:eN}{its:io eK}(L:A.handled=kf)(hl:s.H.IsList lst its)(l:QF its.n ns)(M:its.J+1<scanBound)(q:∀(h':fc)(tk:R),SetG prog w h' s.H.M.J (ns.foldl addN [])->(∀ b o,s.H.R b=Z o->h'.R b=Z o)->Q (.ref s.H.M.J) {s with heap:=h',toks:=tk}):
  lf A (call (.type "set") [.ref lst]) Q ef s:=by
 let t tl y:=PySem.F.called_set.mro;let al:=PySem.F.called_set.made;let O:=PySem.F.called_set.sub;let T n:=fG l;let aa:ns.L=its.J:=by simp!
 refine wpAny_call (codeAny_of_tree ?_);show wpAny _ _ (callAny (.type "set") _) _ _ _;refine Ql ⟨Code.quiet_builtin _ ∅,Rb PySem.F.entry_type_call ?_⟩
 rw[Around.under_plain (weight_type_call_type "set" [.ref lst] []) U];let g:=PySem.F.called_set.notType;let a:=PySem.F.called_set.canCreate;let x:=PySem.F.typeCall_set_1 (.ref lst);repeat (any_goals (first|assumption|wp_step))
 refine Qy (yq (.ref lst) (ef:=ef) (Q₁:=λk f=>k=.ref s.H.M.J/\f={s,s.H.o (newO w)}) ⟨U,U⟩) λr f N=>?_
 cases r with
 |error e=>exact N
 |ok D =>
  cases D with
  |next=>exact N.elim
  |brk=>exact N.elim
  |cont=>exact N.elim
  |ret k =>
   let rfl rfl:=N;let Y:(s.H.o (newO w)).R s.H.M.J=Z (newO w):=Qn _ U;let H:e9.TypeIs {s,s.H.o (newO w)} (.ref s.H.M.J) "set":=⟨_,Y,U⟩;let j:=PySem.F.called_set.init.lookup;let J:=PySem.F.called_set.init.bind (.ref s.H.M.J);repeat (any_goals (first|assumption|wp_step))
   refine Qy (codeAny_call_builtin (R:=wants (λr m=>r=.none/\∃ h' tk,m={s with heap:=h',toks:=tk}/\SetG prog w h' s.H.M.J (ns.foldl addN [])/\∀ b o,s.H.R b=Z o->h'.R b=Z o) ef) PySem.F.called_set.init.plain PySem.F.entry_set_init (check_set_init_1 H ?_)) λac m c=>?_
   .let ol go gc B C:=hl;let c0 I ap h:=ol;simp only at gc C;subst gc;subst C;let am:(s.H.o (newO w)).R lst=Z {cls:=.type "list",dict:=I,data:=.seq its B,slots:=h}:=Qm _ go;let f6:=PySem.F.sub_list_set;let f7:=PySem.F.sub_list_frozenset;let f8:(eK.type "list" == eK.type "dict")=j5:=by decide
    let u:(s.H.o (newO w)).IsList lst its:=⟨_,am,U,B,U⟩;unfold hX.«set.__init__» noKeywords hX.Frozenset.updateFrom;generalize eP:pyIter=PI;wp_walk;subst eP;refine wpAny_pyIter_list u (Qi (wpAny_runValue ?_));let lS:lst<s.H.M.J:=P8 go;let nI:lst≠(s.H.o (newO w)).M.J:=by rw[Qv];exact LJ (MQ lS)
    let nS:s.H.M.J∉[(s.H.o (newO w)).M.J,lst]:=by
     rw[Qv];intro z;obtain z|z:=Lw.mp z
     .exact Ry z (LJ (Nv _))
     .rw[LB]at z;exact Ry z.Y (LJ lS)
    let an:A.in1.in1.in1.handled=kf:=by simp[L]
    refine Fp (s:=s) (Walks.list an _ lst nI its) nS ns aa (λi v pv=>n i v (by rw[Mp];exact pv)) M its.J 0 _ s.v [] ∅ (LU _) ⟨⟨_,Qn _ U,U,U⟩,u.o _⟩ (newG (Qm _ Y)) (Lo _) λh' p d gg=>?_
    refine Ql ?_;show wpAny _ _ (ret eK.none) _ _ _;refine Ql ⟨U,h',p,U,gg,λb o e=>?_⟩;let bl:=P8 e;refine d b o (LJ bl) (λz=>?_) (Qm _ (Qm _ e));rw[LB,Qv]at z;exact Ry z (LJ (MQ bl))
   .cases ac with
    |error e=>exact c
    |ok ab =>
     cases ab with
     |next=>exact c.elim
     |brk=>exact c.elim
     |cont=>exact c.elim
     |ret r =>
      let rfl h' tk rfl g' eg:=c;repeat (any_goals (first|assumption|wp_step))
      exact q _ _ g' eg
def bt_set:Qa "set"=Z (.type "set"):=by rfl
theorem yX:entryFor table "set.__iter__"=Z hX.«frozenset.__iter__»:=entryFor_alias (id':="frozenset.__iter__") (by kernel_rfl) U ∅ (by kernel_rfl)
theorem de:Slot "set_iterator" "__next__" "set_iterator.__next__" :=
 Slot.of (owner:="set_iterator") (n:="__next__") (by rfl) (by rfl) (by rfl) ∅ (by first|exact .inl (by rfl)|exact .inr ∅) (by rfl)
theorem rE:entryFor table "set_iterator.__next__"=Z hX.«set_iterator.__next__»:=entryFor_of_tree (by kernel_rfl)
def ow_si:Manifest.owners.lookup (String.ofList ['r','o','t','a','r','e','t','i','_','t','e','s'].x)=Z Manifest.sig_set_iterator:=by kernel_rfl
def rK(a:eK):argsOk "set_iterator.__next__" ⟨[a],[]⟩:=by
 unfold argsOk;rw[signature?_of (id:="set_iterator.__next__") (n:=['_','_','t','x','e','n','_','_']) (o:=['r','o','t','a','r','e','t','i','_','t','e','s']) (by kernel_rfl) ow_si]
 kernel_rfl
theorem q8:Slot "set_iterator" "__iter__" "set_iterator.__iter__" :=
 Slot.of (owner:="set_iterator") (n:="__iter__") (by rfl) (by rfl) (by rfl) (by rfl) (by first|exact .inl (by rfl)|exact .inr ∅) (by rfl)
theorem BA:entryFor table "set_iterator.__iter__"=Z hX.«dict_keyiterator.__iter__»:=entryFor_alias (id':="dict_keyiterator.__iter__") (by kernel_rfl) U ∅ (by kernel_rfl)
def BV(a:eK):argsOk "set_iterator.__iter__" ⟨[a],[]⟩:=by
 unfold argsOk;rw[signature?_of (id:="set_iterator.__iter__") (n:=['_','_','r','e','t','i','_','_']) (o:=['r','o','t','a','r','e','t','i','_','t','e','s']) (by kernel_rfl) ow_si]
 kernel_rfl
theorem yV{α:Type}:∀{l:E α}{i:R}(h:i<l.L),(l[i]::l.eraseIdx i).Perm l
 |x::l,0,_=>List.Perm.refl _
 |x::l,i+1,h=>by
  let L:=yV (l:=l) (i:=i) (by simpa using h)
  show(l[i]'(by simpa using h)::x::l.eraseIdx i).Perm (x::l)
  exact(List.Perm.swap x _ _).Q (L.cons x)
theorem CO{α:Type}(next:R->R):∀(g k:R)(left:E α)(out:io α),left.L=g->(pickOrder.go next g k left out).n.Perm (out.n++left)
 |0,k,left,out,h=>by
  let:left=[]:=NR.mp h;subst this;unfold pickOrder.go;rw[Nd]
 |g+1,k,left,out,h=>by
  let C:next k%left.L<left.L:=Nat.mod_lt _ ∅
  unfold pickOrder.go;rw[Lj C];dsimp only;refine(CO next g (k+1) _ _ (by rw[Px C];lia)).Q ?_
  rw[O5,NZ];refine List.Perm.append_left _ ?_;exact yV C
def vx(next:R->R)(xs:io α):(pickOrder next xs).n.Perm xs.n:=by
 let:=CO next xs.J 0 xs.n #[] (by simp)
 assumption
theorem BN{a:Source}{Q:R->e9->Prop}(y:n≠0)(h:∀ i d,i<n->Q i {s with drawn:=d}):lf A (choose a n) Q ef s:=λ_ _ _=>⟨y,h _ _ (Nat.mod_lt _ (Nat.pos_of_ne_zero y))⟩
theorem AJ{α:Type}:∀(n:R)(xs:E α)(s:e9)(Q:E α->e9->Prop),xs.L=n->(∀ ys d,ys.Perm xs->Q ys {s with drawn:=d})->lf A (drawOrder n xs) Q ef s
 |0,xs,s,Q,h,q=>by
  let:xs=[]:=NR.mp h;subst this;unfold drawOrder;exact Ql (q [] s.drawn .rfl)
 |n+1,[],s,Q,h,q=>by cases h
 |n+1,x::xs,s,Q,h,q=>by
  unfold drawOrder;refine Qi (BN (by simp) λi d B=>?_)
  rw[Lj B];dsimp only;refine Qi (AJ n _ _ _ (by rw[Px B];simp at h ⊢;lia) λys t p=>Ql ?_)
  exact q _ t ((p.cons _).Q (yV B))
def slA(t:ih)(i:R):R:=if i=0 then 0 else t.place.f (i-1) 0+1
def ItAt(P:fI)(w:hx)(h:fc)(I a tp:eN)(ord:E G)(i:R):Prop:=∃ o y f t first n,h.R a=Z o/\o.ExactSet/\o.data=.set y f t/\t.fits y.J=i0/\SetT t/\t.led = !byT w /\
 h.R I=Z {cls:=.type "set_iterator",data:=.fields #[first,rawInt (i:G),.ref a,rawInt (y.J:G),rawInt (f:G)]}/\QF n ord/\n.L=y.J /\
 ((byT w=i0/\(∃ z:R,first=rawInt (z:G))/\n=(pickOrder (w.params.setOrder a f) y).n.h (·.2)) ∨
  (byT w=j5/\(!t.plain&&decide (y.J > 1))=j5/\first=rawInt (slA t i:G)/\n=y.n.h (·.2)) ∨
  (byT w=j5/\∃(D:E R)(g:hb)(c:R),first=.ref tp/\tp≠I/\tp≠a/\h.R tp=Z g/\g.data=.seq (D.h λp:R=>rawInt (p:G)).toArray c/\D.L=y.J/\∀(j p:R),D[j]?=Z p->∃ x,y[p]?=Z x/\n[j]?=Z x.2))
def vU{es:io (G×eK)}{l:E G}(r:QF (es.n.h (·.2)) ns)(T:ns.Perm l){ys:E (G×eK)}(p:ys.Perm es.n):∃ ms,QF (ys.h (·.2)) ms/\ms.Perm l:=by
 let ms Y O:=pW (p.h (·.2)) r;erw[ms,Y,O.Q T]
def FG{l:E G}(g:SetG prog w s.H a l)(q:∀(I tp:eN)(h':fc)(d:_)(ord:E G),(∀ b o,s.H.R b=Z o->h'.R b=Z o)->s.H.M.J<=I->I<h'.M.J->s.H.M.J<=tp->tp<h'.M.J->ord.Perm l->ItAt prog w h' I a tp ord 0->Q (.ref I) {s with heap:=h',drawn:=d}):
  lf A (pyIter (.ref a)) Q ef s:=by
 let o M f t go u C c{L r T}n sz B tg ld:=id g;let H:s.TypeIs (.ref a) "set":=⟨o,go,u.1⟩;let al:a<s.H.M.J:=P8 go;let aa:=(fG r).1;let h:M.J<=P7:=LK (Ni sz ∅)
 refine wpAny_pyIter_slot H PySem.F.slot_set_iter (QO PySem.F.slot_set_iter H yX ?_ (PySem.F.args_set_iter_1 _));unfold hX.«frozenset.__iter__» hX.Frozenset.slot0 slotArgs;simp -iota only[Pc,Ow,MI,↓reduceIte,bind_assoc,NF,bne_self_eq_false];unfold hX.Frozenset.addrOf hX.Frozenset.sizeOf;refine Qi (Ql ?_);try dsimp only
 refine Qi (Ql (Qi (Qi (wpAny_setEntries_of go C B (Ql ?_)))));unfold setDrawn setsByText;refine Qi (Qi (Ro go C B ?_));dsimp only;refine Qi (Qi (Rr (Ql (Ql ?_))));let n0:∀ I:eN,s.H.M.J<=I->a≠I:=λI hI z=>Ry al (by simp[*])
 split
 .rename_i ab;let k:(!byT w&&(!t.plain&&decide (M.J > 1)))=i0:=ab;let bt:byT w=j5:=by
   cases y:byT w with
   |false=>rfl
   |true=>rw[y]at k;cases k
  refine Qi (AJ M.J (LD M.J) _ _ L7 λv d p=>?_);let m:v.L=M.J:=by rw[p.length_eq,L7]
  refine Qi (wpAny_newTuple ?_ (by simp[*]))
  unfold setEpoch;let N:(s.H.o {cls:=.type "tuple",data:=.seq (v.h λi:R=>rawInt (i:G)).toArray}).R a=Z o:=Qm _ go;refine Qi (Qi (Ro N C B (Ql ?_)));unfold newFields;refine Qi (QN ?_ (by size_fits))
  let em:(LD M.J).h (λj=>M.f j (0,eK.none))=M.n:=by
   refine Pd (by simp) λj Y O=>?_
   let eg:j<M.J:=by lia
   simp[O6,eg]
  let pv:(v.h λj=>M.f j (0,eK.none)).Perm M.n:=by
   rw[← em];exact p.h _
  let x i1 J:=vU r T pv;refine Ql ⟨_,U,"set_iterator",_,⟨_,Qn _ U,U⟩,de.Z,?_⟩;refine q _ s.H.M.J _ d x (λb o e=>Qm _ (Qm _ e)) (by simp) (P8 (Qn _ U)) (Lo _) (by rw[Qv,Qv];exact MQ (Nv _)) J ?_
  erw[o,M,f,t,_,(v.h λj=>M.f j (0,eK.none)).h (·.2),Qm _ N,u,C,B,tg,ld,Qn _ U,i1,by rw[Lp,Lp,m],.inr (.inr ⟨bt,v,_,_,U,?_,Mz al,Qm _ (Qn _ U),U,m,λj pp eg=>?_⟩)]
  .simp
  .let D:pp<M.J:=L5.mp (p.mem_iff.mp (Lm eg))
   erw[M[pp],M4 D,3];simp[*]
 .rename_i ab;let k:¬ (!byT w&&(!t.plain&&decide (M.J > 1)))=i0:=ab;refine Qi (Ql ?_);unfold setEpoch;refine Qi (Qi (Ro go C B (Ql ?_)));unfold newFields;refine Qi (QN ?_ (by size_fits))
  refine Ql ⟨_,U,"set_iterator",_,⟨_,Qn _ U,U⟩,de.Z,?_⟩
  cases bt:byT w with
  |true =>
   let x i1 J:=vU r T (vx (w.params.setOrder a f) M);refine q _ s.H.M.J _ s.drawn x (λb o e=>Qm _ e) (Lo _) (by simp) (Lo _) (by simp) J ?_
   erw[o,M,f,t,5,Qm _ go,u,C,B,tg,ld,Qn _ U,i1,by rw[Lp,(vx _ _).length_eq,L4],.inl ⟨bt,⟨0,U⟩,U⟩]
  |false =>
   rw[bt]at k;let c2:(!t.plain&&decide (M.J > 1))=j5:=by
    cases y:(!t.plain&&decide (M.J > 1)) with
    |false=>rfl
    |true=>contradiction
   refine q _ s.H.M.J _ s.drawn L (λb o e=>Qm _ e) (Lo _) (by simp) (Lo _) (by simp) T ?_
   erw[o,M,f,t,5,Qm _ go,u,C,B,tg,ld,Qn _ U,r,by simp,.inr (.inl ⟨bt,c2,U,U⟩)]
def vX{t:ih}(h:t.fits n=i0):t.place.J=n:=by
 unfold ih.fits at h;rw[NN]at h;exact eq_of_beq h.1
def xo{t:ih}(tg:SetT t)(hi:i<=t.place.J):Rm t.place (slA t i)=i:=by
 let b1 b2 b3:=AS tg.1 (slA t i);let up:∀ a b,a<b->b<t.place.J->t.place.f a (slA t i)<t.place.f b (slA t i):=λa b n M=>by
  let o:a<t.place.J:=Ni n M;let:=ME.mp tg.1 a b ∅ ∅ n
  simp!
 let h:∀ k,i=k+1->slA t i=t.place.f k (slA t i)+1:=λk e=>by
  let g:k<t.place.J:=by lia
  let f:slA t i=t.place.f k 0+1:=by
   unfold slA;rw[Rx ∅,e,OW]
  let A:t.place.f k 0=t.place.f k (slA t i):=by simp[O6,g]
  rw[← A];exact f
 generalize M:Rm t.place (slA t i)=b at b1 b2 b3;obtain z|z|z:=Nat.lt_trichotomy b i
 .let k rfl:∃ k,i=k+1:=⟨i-1,∅⟩
  let Y:=b2 b (Lo _) ∅
  let O:=h k U;by_cases e:b=k
  .subst e;lia
  .let:=up b k ∅ ∅
   lia
 .exact z
 .let Y:=b1 i z
  cases i with
  |zero=>have e:slA t 0=0:=rfl;rw[e]at Y;lia
  |succ k =>
   let O:=h k U;let:=up k (k+1) ∅ ∅
   lia
theorem Ac{Y h2:fc}(x:Qc I h Y)(y:Qc I Y h2):Qc I h h2:=⟨y.1.Q x.1,λb M=>(y.2 b M).Q (x.2 b M)⟩
def KD{tp:eN}{n:G}{Q:ii eK->e9->Prop}(h:ItAt prog w s.H I a tp ord i)(y:ord[i]?=Z n)(aI:a≠I)(q:∀(t:Tok)(h':fc),ItAt prog w h' I a tp ord (i+1)->Qc I s.H h'->Q (Z (.int n t)) {s,h'}):lf A (pyNext (.ref I)) Q ef s:=by
 let o es f t first M go p C B tg ld gI r eg md:=h;let g:s.TypeIs (.ref I) "set_iterator":=⟨_,gI,U⟩;unfold pyNext;refine Qi (wpAny_attempt (QR (name:=ff.ofString "__next__") g de (QO de g rE ?_ (rK _))));unfold hX.«set_iterator.__next__» slotArgs;simp -iota only[Pc,Ow,MI,↓reduceIte,bind_assoc,NF,bne_self_eq_false];refine Qi (Ql ?_);try dsimp only
 refine Qi (wpAny_fieldsOf gI U ?_);dsimp only[rawInt];refine Qi (wpAny_setEntries_of go C B ?_);rw[Rx (by simp)]
 let L:i<ord.L:=(Ll.mp y).1;let ol:=(fG r).1;let al:i<M.L:=by lia
 let l H:∃ l,M[i]?=Z (.int n l):=by
  let l e:=(fG r).2 i _ (Lj al);erw[l,3];rw[Lj al,e,LA,y];rfl
 let ap:=vX B;let ci:((i:G)+1)=((i+1:R):G):=by lia
 rcases md with⟨bt,⟨z,rfl⟩,rfl⟩|⟨bt,dr,rfl,rfl⟩|⟨bt,D,ot,c,rfl,tI,d,gt,ac,an,aa⟩
 .dsimp only[rawInt];unfold setNext setsByText setWalk setsByText;refine Qi (Qi (Ro go C B ?_));dsimp only;refine Qi (Qi (Rr (Ql ?_)));let v:w.params.followText "set-order"=i0:=bt;rw[show(Setting.params ⟨(model prog w).e,(model prog w).w.params⟩).followText "set-order"=i0 from v,Rw U,Rx (by simp)]
  refine Qi (Qi (Ro go C B ?_));dsimp only;refine Qi (Qi (Rr (Ql ?_)));rw[show(Setting.params ⟨(model prog w).e,(model prog w).w.params⟩).followText "set-order"=i0 from v,Rw U];refine Qi (Rr (Ql (Ql ?_)));let T:(pickOrder (w.params.setOrder a f) es)[i]?.map (·.2)=Z (.int n l):=by rw[← Mp,← Lx];exact H
  let x J b:=LC.mp T;rw[Ly,Ly,show(pickOrder ((Setting.params ⟨(model prog w).e,(model prog w).w.params⟩).setOrder a f) es)[i]?=Z x from J];dsimp only[ii.map];refine Qi (QV gI (by simp) λY N m=>?_)
  refine Qi (QV (s:={s,Y}) N (by simp) λO u k=>?_)
  let j:=Ac m k;rw[b];refine Ql ⟨_,U,Ql (q l O ?_ j)⟩;erw[o,es,f,t,5,(j.2 a aI).Q go,p,C,B,tg,ld,u.Q ?_,r,eg,.inl ⟨bt,⟨z,U⟩,U⟩];rw[ci];rfl
 .dsimp only[rawInt];unfold setNext setsByText;refine Qi (Qi (Ro go C B ?_));dsimp only;refine Qi (Qi (Rr (Ql ?_)));let v:w.params.followText "set-order"=j5:=bt;rw[show(Setting.params ⟨(model prog w).e,(model prog w).w.params⟩).followText "set-order"=j5 from v,Rx (by simp)]
  refine QJ (λc=>Ry (show(!t.plain&&decide (es.J > 1))=i0 from c) (by rw[dr];simp)) λ_=>?_
  let ab:t.led=i0:=by rw[ld,bt];rfl
  refine Qi ?_;show wpAny _ _ (if(!t.led&&!es.isEmpty)=i0 then _ else _) _ _ _;rw[ab];refine Ql (Ql ?_);rw[Ly,xo tg ∅]
  let ie:i<es.J:=by lia
  let ip:i<t.place.J:=by lia
  let b:es[i].2=.int n l:=by simp!
  rw[M4 ie,M4 ip];dsimp only;refine Qi (QV gI (by simp) λY N m=>?_)
  refine Qi (QV (s:={s,Y}) N (by simp) λO u k=>?_)
  let j:=Ac m k;rw[b];refine Ql ⟨_,U,Ql (q l O ?_ j)⟩;erw[o,es,f,t,5,(j.2 a aI).Q go,p,C,B,tg,ld,u.Q ?_,r,eg,.inr (.inl ⟨bt,dr,U,U⟩)];let es:slA t (i+1)=t.place[i]+1:=by
   unfold slA;rw[Rx ∅,OW]
   simp[O6,ip]
  rw[ci,es];rfl
 .dsimp only[rawInt];refine Qi (Rf gt ac ?_);dsimp only;let ip:i<D.L:=by lia
  let x J am:=aa i _ (Lj ip);let b:x.2=.int n l:=L3 (am.Y.Q H);rw[Ly,List.getElem?_toArray,Lx,Lj ip];dsimp only[ii.map,rawInt];unfold setNextDrawn;refine Qi (Qi (Ro go C B ?_));dsimp only;rw[Ly,Ly,Rx (by simp),J]
  refine Ql ?_;refine Qi (QV gI (by simp) λY N m=>?_)
  rw[b];refine Ql ⟨_,U,Ql (q l Y ?_ m)⟩;erw[o,es,f,t,_,M,(m.2 a aI).Q go,p,C,B,tg,ld,N.Q ?_,r,eg,.inr (.inr ⟨bt,D,ot,c,U,tI,d,(m.2 tp tI).Q gt,ac,an,aa⟩)];rw[ci];rfl
def xE{k:R}{Q:ii eK->e9->Prop}{vs:io eK}(L:A.handled=kf)(O:s.H.R I=Z {cls:=.type "set_iterator",data:=.fields vs})(g:k<vs.J)(q:∀(h':fc),fc.ExtBut I s.H h'->Q kf {s,h'}):
  lf A.in1 (setField (.ref I) k .none >>= λ_=>newExc (.type "StopIteration") [] >>= λe=>raiseNew e) (λ(N:Fin) s'=>∃ v,N=Fin.done (Flow.ret v)/\lf A (pure (Z v)) Q ef s')
  (λe s'=>lf A (do if ← isInstance e (.type "StopIteration") then pure kf else throw e) Q ef s') s:=by
 refine Qi (wpAny_setField O U g ?_);refine Qi ?_;simp only[newExc,newTuple];refine Qi (QN ?_ (by size_fits))
 refine Qi (m:=firstArgMember _ _) (wpAny_of_eq (a:=eK.none) (by rfl) ?_)
 refine QN ?_ (by size_fits)
 simp -iota only[raiseNew];refine Qi (wpAny_handled ?_);rw[show A.in1.handled=kf from L];refine Qi (Ql (wpAny_throw ?_));refine Qi (QK (T:="StopIteration") (b:=i0) ⟨_,Qn _ U,U⟩ isSubtype_stop ?_);exact Ql (q _ (((QT ..).X.o _).o _))
def KG{tp:eN}{Q:ii eK->e9->Prop}(L:A.handled=kf)(h:ItAt prog w s.H I a tp ord i)(y:i=ord.L)(k:a≠I)(q:∀(h':fc),fc.ExtBut I s.H h'->Q kf {s,h'}):lf A (pyNext (.ref I)) Q ef s:=by
 let o es f t first n go u C B tg ld O r eg p:=h;let H:s.TypeIs (.ref I) "set_iterator":=⟨_,O,U⟩;unfold pyNext;refine Qi (wpAny_attempt (QR (name:=ff.ofString "__next__") H de (QO de H rE ?_ (rK _))));unfold hX.«set_iterator.__next__» slotArgs;simp -iota only[Pc,Ow,MI,↓reduceIte,bind_assoc,NF,bne_self_eq_false];refine Qi (Ql ?_);try dsimp only
 refine Qi (wpAny_fieldsOf O U ?_);dsimp only[rawInt];refine Qi (wpAny_setEntries_of go C B ?_);rw[Rx (by simp)]
 let ol:=(fG r).1;let aa:i=n.L:=by lia
 let ac:=vX B;rcases p with⟨bt,⟨z,rfl⟩,rfl⟩|⟨bt,dr,rfl,rfl⟩|⟨bt,D,T,c,rfl,tI,d,gt,l,ab,g⟩
 .dsimp only[rawInt];unfold setNext setsByText setWalk setsByText;refine Qi (Qi (Ro go C B ?_));dsimp only;refine Qi (Qi (Rr (Ql ?_)));let v:w.params.followText "set-order"=i0:=bt;rw[show(Setting.params ⟨(model prog w).e,(model prog w).w.params⟩).followText "set-order"=i0 from v,Rw U,Rx (by simp)]
  refine Qi (Qi (Ro go C B ?_));dsimp only;refine Qi (Qi (Rr (Ql ?_)));rw[show(Setting.params ⟨(model prog w).e,(model prog w).w.params⟩).followText "set-order"=i0 from v,Rw U];refine Qi (Rr (Ql (Ql ?_)));let J:(pickOrder (w.params.setOrder a f) es)[i]?=kf:=by simp!
  rw[Ly,Ly,show(pickOrder ((Setting.params ⟨(model prog w).e,(model prog w).w.params⟩).setOrder a f) es)[i]?=kf from J];exact xE L O (by simp) q
 .dsimp only[rawInt];unfold setNext setsByText;refine Qi (Qi (Ro go C B ?_));dsimp only;refine Qi (Qi (Rr (Ql ?_)));let v:w.params.followText "set-order"=j5:=bt;rw[show(Setting.params ⟨(model prog w).e,(model prog w).w.params⟩).followText "set-order"=j5 from v,Rx (by simp)]
  refine QJ (λc=>Ry (show(!t.plain&&decide (es.J > 1))=i0 from c) (by rw[dr];simp)) λ_=>?_
  let j:t.led=i0:=by rw[ld,bt];rfl
  refine Qi ?_;show wpAny _ _ (if(!t.led&&!es.isEmpty)=i0 then _ else _) _ _ _;rw[j];refine Ql (Ql ?_);let ie:i=es.J:=by lia
  rw[Ly,xo tg ∅]
  rw[io.getElem?_eq_none (by lia:es.J<=i),io.getElem?_eq_none (by lia:t.place.J<=i)]
  exact xE L O (by simp) q
 .dsimp only[rawInt];refine Qi (Rf gt l ?_);dsimp only;let ip:D.L<=i:=by lia
  rw[Ly,List.getElem?_toArray,Lx,Mv ip];dsimp only[ii.map];refine Qi (QV O (by simp) λY N m=>?_)
  exact xE (s:={s,Y}) L N (by simp) λh' x=>q h' λb o M e=>x b o M ((m.2 b M).Q e)
def DR{tp:eN}(x:ItAt prog w h I a tp ord i)(k:∀ b∈[I,a,tp],∀ o,h.R b=Z o->h'.R b=Z o):ItAt prog w h' I a tp ord i:=by
 let o y f t first n go u C B tg ld O l eg p:=x;erw[o,y,f,t,first,n,k a (by simp) _ go,u,C,B,tg,ld,k I (by simp) _ O,l,eg,3]
 obtain z|z|⟨bt,D,g,c,e,m,d,j,r,T,A⟩:=p
 .exact .inl z
 .exact .inr (.inl z)
 .exact .inr (.inr ⟨bt,D,g,c,e,m,d,k tp (by simp) _ j,r,T,A⟩)
theorem GO(L:A.handled=kf)(I a tp:eN)(k:a≠I)(ord:E G):Walks prog w A I [I,a,tp] [I] ord.L (λi v=>∃ t n,ord[i]?=Z n/\v=.int n t) (λi h=>ItAt prog w h I a tp ord i) where
 sub:=λb M=>by simp!
 frame:=λ_ _ _ st g=>DR st g
 item:=λi s Q ef B st H=>by
  refine KD st (Lj B) k λt eg q j=>?_;exact H _ eg s.v ⟨t,_,Lj B,U⟩ q λb o M e=>j.X b o (λh=>M (by simp[h])) e
 done:=λs Q ef st H=>KG L st U k λeg p=>H eg s.v λb o M e=>p b o (λh=>M (by simp[h])) e
 self:=λ_ s Q _ st h=>by
  let o y f t first m go u C c tg ld O r J d:=st;let l:s.TypeIs (.ref I) "set_iterator":=⟨_,O,U⟩;refine wpAny_pyIter_slot l q8 (QO q8 l BA ?_ (BV _));show wpAny _ _ (ret (.ref I)) _ _ s;exact Ql ⟨_,U,"set_iterator",_,l,de.Z,h⟩
def GQ{r:eN}{Q:im->e9->Prop}(l:s.TypeIs (.ref r) "set")(h:Q j5 s):lf A (QI (.ref r)) Q ef s:=by
 unfold QI;refine Qi (QH l PySem.F.slot_set_len.lookup ?_);generalize a:("set.__len__" : String)=c;wp_delta;rw[show splitId c=Z ("set","__len__") from by subst a;rfl]
 subst a;refine Qi (QK (T:="set") (b:=i0) l (by rfl) ?_)
 refine QJ (λn=>Ry n ∅) (λ_=>?_)
 refine QJ (λ_=>?_) (λn=>Ry (by rfl) n)
 refine Qi (wpAny_typeOf l ?_);exact Ql h
def SetG.len{l:E G}(g:SetG prog w h a l):l.L<scanBound:=by
 let o y f t go u C c{L r T}n sz B tg ld:=g;let:=(fG r).1;rw[Lp,L4,T.length_eq]at this;lia
def SetG.typ{l:E G}(g:SetG prog w s.H a l):s.TypeIs (.ref a) "set":=by
 let o y f t go u r:=g;erw[o,go,u.1]
def SetG.lt{l:E G}(g:SetG prog w h a l):a<h.M.J:=by
 let o y f t go u r:=g;exact P8 go
def zD{l:E G}{Q:E eK->e9->Prop}(hh:A.handled=kf)(g:SetG prog w s.H a l)(h:∀(h':fc)(tk:R)(d:Drawn)(m:io eK)(ord:E G),(∀ b o,s.H.R b=Z o->h'.R b=Z o)->s.H.M.J<h'.M.J->ord.Perm l->ItemsOf (λi v=>∃ t n,ord[i]?=Z n/\v=.int n t) m ord.L->Q m.n {s with heap:=h',toks:=tk,drawn:=d}):lf A (collect (.ref a)) Q ef s:=by
 unfold collect;refine Qi (wpAny_runValue (Rb entry_proto_collect' ?_));show wpAny _ _ (do again (.builtin "list.__iadd__" ⟨[← newList [],.ref a],[]⟩)) _ _ s
 refine Qi (Q0 (Ql ⟨Code.quiet_builtin _ ∅,Rb entry_list_iadd' ?_⟩))
 rw[Rc PySem.F.plain_list_iadd _];show wpAny _ A.in1 (Rt (.ref s.H.M.J) (.ref a) (.ref s.H.M.J)) _ _ {s,s.H.o (QY "list" #[] 0)};let j:SetG prog w (s.H.o (QY "list" #[] 0)) a l:=g.keeps λo e=>Qm _ e;let aS:s.H.M.J≠a:=Mz g.lt;let x:(s.H.o (QY "list" #[] 0)).R s.H.M.J=Z {cls:=.type "list",data:=.seq #[] 0}:=Qn _ U;unfold Rt;refine Qi (wpAny_typeOf (T:="set") j.typ ?_);let Y:Ru (.ref s.H.M.J) (.ref a)=j5:=by simp[Ru,aS]
 simp only[Y,show(eK.type "set" == eK.type "list")=j5 by decide,show(eK.type "set" == eK.type "tuple")=j5 by decide,P5,MI,if_false]
 refine Qi (FG j λI tp O d ord k2 lI sI lt st p it=>?_);let H:(s.H.o (QY "list" #[] 0)).M.J=s.H.M.J+1:=Qv ..;rw[H]at lI lt;let SI:s.H.M.J≠I:=LJ lI;let ST:s.H.M.J≠tp:=LJ lt;let aI:a≠I:=LJ (Ni g.lt lI);let av:s.H.M.J∉[I,a,tp]:=by simp[*]
 let y:ord.L<=P7:=by
  rw[p.length_eq];exact LK (Ni g.len ∅)
 let aa:∀(B:fc)(an tk:R),ItAt prog w B I a tp ord 0->(∀ b o,b≠s.H.M.J->O.R b=Z o->B.R b=Z o) ->
   B.R s.H.M.J=Z {cls:=.type "list",data:=.seq #[] an}->Qu (model prog w) A (.builtin "list.extend.loop" ⟨[.ref s.H.M.J,.ref I,.ref s.H.M.J],[]⟩) (λr q=>∃ h' tk d c k,r=.ok (.ret (.ref s.H.M.J))/\q={s with heap:=h',toks:=tk,drawn:=d}/\(∀ b o,s.H.R b=Z o->h'.R b=Z o)/\h'.R s.H.M.J=Z {cls:=.type "list",dict:=kf,data:=.seq c k,slots:=#[]}/\ItemsOf (λi v=>∃ t n,ord[i]?=Z n/\v=.int n t) c ord.L) {s with heap:=B,toks:=tk,drawn:=d}:=by
  intro B an tk ab D ac;refine codeAny_extend_loopS (GO (A:=A.in1) hh I a tp aI ord).toS y _ av _ ord.L 0 _ #[] an U (LU _) ab ac (ItemsOf.nil _) λq c k C am u=>?_;rw[Moved.eq_with C];erw[q.H,q.v,d,c,k,10,λb o e=>C.H b o (λap=>?_) (D b o (LJ (P8 e)) (k2 b o (Qm _ e))),am,u];obtain L|ap:=Lw.mp ap
  .exact Ry (P8 e) (by simp!)
  .exact Ry (P8 e) (by rw[LB.mp ap];exact Ox (LK lI))
 let N:∀(r:Result)(q:e9),(∃ h' tk d c k,r=.ok (.ret (.ref s.H.M.J))/\q={s with heap:=h',toks:=tk,drawn:=d}/\(∀ b o,s.H.R b=Z o->h'.R b=Z o)/\h'.R s.H.M.J=Z {cls:=.type "list",dict:=kf,data:=.seq c k,slots:=#[]}/\ItemsOf (λi v=>∃ t n,ord[i]?=Z n/\v=.int n t) c ord.L)->∃ v,r=.ok (.ret v)/\v=.ref s.H.M.J/\lf A (do
   let o ← load s.H.M.J
   match o.data with
   |.seq eg _=>pure eg.n
   |_=>unsupported "internal:collect") Q ef q:=λr q ⟨h',tk,d,c,k,f,J,D,x,u⟩=>⟨_,f,U,by
  subst J;refine Qi (wpAny_load x ?_)
  exact Ql (h h' tk d c ord D (P8 x) p u)⟩
 let ac:=k2 _ _ x;let g2:SetG prog w O a l:=j.keeps λo e=>k2 _ _ e;refine Qi (Qj (GQ (s:={s with heap:=O,drawn:=d}) g2.typ ?_));refine QJ (λ_=>?_) (λ_=>Ql ⟨Rj MZ _,Qy (aa _ 0 _ it (λb o _ e=>e) ac) λr aZ q'=>?_⟩);rotate_left
 .let v f J z:=N _ _ q'
  cases f
  cases J
  exact z
 refine Qi (wpAny_rule ?_);refine Qi ?_;show wpAny _ _ (Rh s.H.M.J (·.push .none) >>= λ_=>Rh s.H.M.J (·.pop)) _ _ _;refine Qi (Ri ac U ?_);let al:=QC (QB (·.push eK.none)) ac U;refine Ri (hz:=by seq_fits) al U ?_
 let aT:=QC (QB (·.pop)) al U;let oth:∀ b o,b≠s.H.M.J->O.R b=Z o->((O.update s.H.M.J (QB (·.push eK.none))).update s.H.M.J (QB (·.pop))).R b=Z o:=λb o M e=>(QD _ _ (Ne.Y M)).Q ((QD _ _ (Ne.Y M)).Q e);refine Ql ⟨Rj MZ _,Qy (aa _ _ _ (DR it λb M o e=>oth b o (λz=>av (z▸M)) e) oth aT) λr aZ q'=>?_⟩;let v f J z:=N _ _ q'
 cases f
 cases J
 exact z
section
variable{X:Cx}{pins:E (eN×hb)}{σ:E (ii V)}{H:Hp}{s:e9}
theorem Inv.drew{d:Drawn}(I:Inv X pins σ H s):Inv X pins σ H {s with drawn:=d}:=⟨I.ok,I.os,I.bare,I.base,I.loc,I.cell,I.free,I.freeC,I.pin,I.hok,I.len⟩
def setO(P:fI)(w:hx)(a:eN)(l:E G):HO:=.ext λh=>SetG P w h a l
inductive rSetI(P:fI)(w:hx)(K:Ln)(xs:E V)(H:L2.Hp)(Q:L2.VK):Prop
 |mk (p:eN)(ns:E G) (_:xs=[.ref p])(_:nv p (ns.h V.int))(_:ns.L+1<4096)(_:∀ a:eN,H a=kf->Q (.ref a) (upd H a (setO P w a (ns.foldl addN []))))
def E3(T:X.calm=i0)(c:X.e=P)(a:X.w=w)(e:X.K=K):iJ X (.type "set") (rSetI P w K):=by
 subst c a e;intro pins s σ H D j Q I r h;let p L rfl d x q:=h;let u rfl A:=kJ r
 cases A
 let J rv m b:=I.list d;let B:=mG rv;let C:=rv.L;rw[Lp]at C;refine xK (I.ok.hd T) m.isList B (by rw[Mc,← C];exact x) λeg l g k=>?_
 erw[.ref s.H.M.J,_,I.laid (t':=l) k (Lo _) (show bu X.e X.w _ _ _ (setO X.e X.w s.H.M.J (L.foldl addN [])) from⟨g,?_,λY O N M=>N.keeps M⟩),U,q _ (I.hok.fresh (Lo _))];let o y f t N r:=g;erw[o,N]
def Hu(ns:E G):∀(l:E G)(x:G),x∈ns.foldl addN l↔x∈l∨x∈ns:=by
 induction ns with
 |nil=>intro l x;simp
 |cons n ns L =>
  intro l x;rw[Pr,L,Lw];unfold addN;split
  .rename_i c;erw[λz=>z.elim .inl λy=>.inr (.inr y),λz=>z.elim .inl λy=>y.elim (λe=>.inl (e▸c)) .inr]
  .rw[LY,LB];lia
end
inductive rSortT(P:fI)(w:hx)(xs:E V)(H:L2.Hp)(Q:L2.VK):Prop
 |mk (a:eN)(ms:E G) (_:xs=[.ref a])(_:H a=Z (setO P w a ms))(_:ms.L<64)(_:∀(l:eN)(out:E G),H l=kf->(∀ x,x∈out↔x∈ms)->out.y (· < ·)->Q (.ref l) (upd H l (.lst (out.h V.int))))
def BO(T:X.calm=i0)(eP:X.e=P)(eW:X.w=w):iJ X (.builtin "sorted") (rSortT P w):=by
 subst eP eW;intro B s L H p z Q I r h;let a ms rfl J am q:=h;let u rfl ru:=kJ r
 cases ru
 let g _ _:=(show bu X.e X.w H s.H a (setO X.e X.w a ms) from I.hok a _ J);let g:SetG X.e X.w s.H a ms:=g;let nd:ms.l:=let ⟨_,_,_,_,_,_,_,_,_,nd,_,_,_,_⟩:=g;nd;refine Calls.call_function_entry kind_sorted plain_sorted entry_sorted (args_sorted1 _) ?_;unfold hX.«sorted»;refine Qi (m:=checkCount "sorted" 1 1 _) (Ql ?_);refine Qi (zD (I.ok.hd T) g λC tk d c aI D l pm aa=>?_);let N:QF c.n aI:=by
  let all:∀(M:E eK)(ns:E G),M.L=ns.L->(∀(j:R) v,M[j]?=Z v->∃ t n,ns[j]?=Z n/\v=.int n t)->QF M ns:=λM=>by
   induction M with
   |nil=>intro ns e _;rw[Mh e.Y];exact .nil
   |cons v M ef =>
    intro ns e k
    cases ns with
    |nil=>cases e
    |cons n ns =>
     let t m f A:=k 0 v U
     cases f
     rw[A];exact .cons _ _ (ef ns (OD e) λj v e=>k (j+1) v e)
  exact all _ _ (by rw[L4];exact aa.1) λj v e=>aa.2 j v (by simp!)
 let ab:c.n.L<=P7:=by
  rw[L4,aa.1,pm.length_eq];exact LK (Ni g.len ∅)
 refine Qi (Q0 ?_ ab);let al:(C.o (QY "list" c.n.toArray 0)).R C.M.J=Z (QY "list" c.n.toArray 0):=Qn _ U;show wpAny _ _ _ _ _ {s with heap:=C.o (QY "list" c.n.toArray 0),toks:=tk,drawn:=d};let ap:∀(out:io eK)(b:eN)(o:hb),s.H.R b=Z o->(sortedHeap (C.o (QY "list" c.n.toArray 0)) C.M.J c.n out).R b=Z o:=λout b o e=>by
  let A:=D b o e;rw[sortedHeap_old (LJ (P8 A)) (by rw[Qv];exact MQ (P8 A))]
  exact Qm _ A
 let ac:s.H.M.J<=C.M.J:=LK l;refine Qi (Qj (QO slot_list_sort ⟨_,al,U⟩ entry_list_sort (list_sort_tree al N (by rw[L4,aa.1,pm.length_eq];exact am) λout an i a2 a3=>⟨_,U,?_⟩) (args_list_sort _)))
 let e eg:=sortedHeap_at (out:=out) al;let av:=a2.Q pm;refine Ql ⟨_,U,?_⟩;erw[.ref C.M.J,_,(I.laid (t':=tk) (ap out) ac (show bu X.e X.w _ _ _ (.lst (an.h V.int)) from⟨?_,out.n,e,xC i,?_⟩)).drew,U,q _ an (I.hok.fresh ac) (λx=>av.mem_iff) ?_]
 .rw[Lp,av.length_eq];exact LK (Ni g.len ∅)
 .exact eg
 .exact(List.Pairwise.and a3 (av.nodup_iff.mpr nd)).imp λ{x y} ⟨Y,O⟩=>by
   lia
end L2
variable{ms:E L2.T3}
namespace L2.C2
open PySem PySem.Spec PyProof.Rows
section
variable{prog:fI}{w:hx}{A:Around}{ef:eK->e9->Prop}{s:e9}{d:eN}
theorem xB{Q:ii hb->e9->Prop}(h:Q (s.H.R a) s):lf A (loadIfAlive a) Q ef s:=λf p b=>by
 show Sem.wp _ _ (.loadIfAlive a _) _ _ _ _;rw[Sem.wp_loadIfAlive];exact(Ql (M:=model prog w) (A:=A) (E:=ef) h) f p b
def ItAt(h:fc)(it d:eN)(i n ep:R):Prop:=∃ Q g l f,h.R it=Z {cls:=.type "dict_itemiterator",dict:=kf,data:=.fields #[Q,g,.ref d,.int i 0,.int n 0,.int ep 0,l,f],slots:=#[]}/\((Q=.none/\g=.bool j5)∨∃(a:eN)(o:hb),Q=rawInt a/\h.R a=Z o/\a≠it)
def ItAt.keep(x:ItAt h it d i n ep)(O:∀ o,h.R it=Z o->h'.R it=Z o)(k:∀ b o,b≠it->h.R b=Z o->∃ j,h'.R b=Z j):ItAt h' it d i n ep:=by
 let Q g l f e c:=x;erw[Q,g,l,f,O _ e,3];obtain c|⟨a,o,c1,c2,c3⟩:=c
 .exact .inl c
 .let j q:=k a o c3 c2;exact .inr ⟨a,j,c1,q,c3⟩
def DQ{es:io DictEntry}{Q:ii eK->e9->Prop}(O:ItAt s.H it d i es.J ep)(C:Ent s.H d es ep)(I:A.handled=kf)(hI:∀ e,es[i]?=Z e->∀ h',ItAt h' it d (i+1) es.J ep->h'.R s.H.M.J=Z {cls:=.type "tuple",data:=.seq #[e.key,e.val]}->(∀ b o,b≠it->s.H.R b=Z o->h'.R b=Z o)->Q (Z (.ref s.H.M.J)) {s,h'})(k:es[i]?=kf->∀ h',fc.ExtBut it s.H h'->Q kf {s,h'}):lf A (pyNext (.ref it)) Q ef s:=by
 let h g ok ov O c:=O;rcases c with⟨rfl,rfl⟩|⟨a,oa,rfl,am,ac⟩
 .refine qj (ok:=ok) (ov:=ov) O C I (λe eg h' r p t=>hI e eg h' ⟨_,_,_,_,r,.inr ⟨s.H.M.J,_,U,p,?_⟩⟩ p t) k;exact Mz (P8 O)
 let o f J B:=C;let l:s.TypeIs (.ref it) "dict_itemiterator":=⟨_,O,U⟩;let own:QP "dict_itemiterator"=i0:=by rfl
 unfold pyNext;refine Qi (wpAny_attempt (QR (name:=ff.ofString "__next__") l F.slot_dict_itemiterator_next (QO F.slot_dict_itemiterator_next l F.entry_dict_itemiterator_next ?_ (F.args_dict_itemiterator_next_1 _))));refine Qi (Ql (Qi (Qi (Qi (QS l (Ql ?_))))));refine Qi (wpAny_fieldsOf O U ?_);simp -iota only[own,if_true];show wpAny _ _ (if(eK.ref d == eK.none)=i0 then _ else _) _ _ _;rw[Rx (show ¬ ((eK.ref d == eK.none)=i0) from LS)];refine Qi (Ql (Qi (wpAny_dictEntries f B ?_)));rw[Rx (by simp)]
 refine Qi (Ql (Qi (wpAny_dictEpoch f B ?_)));rw[Rx (by simp)]
 refine Ql ?_;let n0:¬ ((i:G)<0):=by lia
 simp only[n0,if_false,Ly]
 cases eg:es[i]? with
 |none =>
  refine Qi (Qi (QS l (Ql ?_)));show wpAny _ _ (setField (.ref it) 2 .none >>= _) _ _ s;refine Qi (wpAny_setField O U (by simp) ?_)
  show wpAny _ _ (newExc (.type "StopIteration") [] >>= _) _ _ _;refine Qi ?_;simp only[newExc,newTuple];refine Qi (QN (Qi (m:=firstArgMember _ _) (wpAny_of_eq (a:=eK.none) (by rfl) (QN ?_ (by size_fits)))) (by size_fits))
  simp -iota only[raiseNew];refine Qi (wpAny_handled ?_);rw[show A.in1.handled=kf from I];refine Qi (Ql (wpAny_throw ?_));refine Qi (QK (T:="StopIteration") (b:=i0) ⟨_,Qn _ U,U⟩ isSubtype_stop (Ql ?_));exact k eg _ (((QT ..).X.o _).o _)
 |some e =>
  refine Qi (Qi (QS l (Ql ?_)));refine Qi (QU l ?_);show wpAny _ _ (setField (.ref it) 3 (rawInt ((i:G)+1)) >>= _) _ _ s;refine Qi (QV O (by simp) λN r D=>?_)
  let c1:((i+1:R):G)=(i:G)+1:=by lia
  let aa:N.R it=Z {cls:=.type "dict_itemiterator",dict:=kf,data:=.fields #[rawInt a,g,.ref d,.int ((i+1:R):G) 0,.int es.J 0,.int ep 0,ok,ov],slots:=#[]}:=by assumption
  let lt:it<s.H.M.J:=P8 O;let H:N.M.J=s.H.M.J:=D.1;let ab:e9.TypeIs {s,N} (.ref it) "dict_itemiterator":=⟨_,aa,U⟩;refine Qi (Qj (Qi (QU ab (Qi (QU ab ?_)))));show wpAny _ _ (QW (.ref it) 6 e.key e.val) _ _ {s,N};unfold QW hX.Dict_items.ownedTupleIsFree;refine Qi (wpAny_newTuple ?_);let p:(N.o {cls:=.type "tuple",data:=.seq #[e.key,e.val]}).R it=Z {cls:=.type "dict_itemiterator",dict:=kf,data:=.fields #[rawInt a,g,.ref d,.int ((i+1:R):G) 0,.int es.J 0,.int ep 0,ok,ov],slots:=#[]}:=Qm _ aa;let n:(N.o {cls:=.type "tuple",data:=.seq #[e.key,e.val]}).R s.H.M.J=Z {cls:=.type "tuple",data:=.seq #[e.key,e.val]}:=by rw[← H];exact Qn _ U
  let y:∀ b o,b≠it->s.H.R b=Z o->(N.o {cls:=.type "tuple",data:=.seq #[e.key,e.val]}).R b=Z o:=λb o M q=>Qm _ (D.X b o M q);rw[H];generalize N.o {cls:=.type "tuple",data:=.seq #[e.key,e.val]}=u at p n y;show wpAny _ _ (_ >>= _) _ _ {s,u};let z:u.R ((a:G).U)=Z oa:=by rw[Ly];exact y a oa ac am
  refine Qi (Qi (wpAny_field p U (x:=rawInt a) U ?_));show wpAny _ _ (loadIfAlive ((a:G).U) >>= _) _ _ {s,u};refine Qi (xB ?_);show wpAny _ _ (if((u.R ((a:G).U)).isNone)=i0 then _ else _) _ _ _;rw[z,Rx (show ¬ (Z oa).isNone=i0 from LS)];let Y:∀ j,j.R it=Z {cls:=.type "dict_itemiterator",dict:=kf,data:=.fields #[rawInt a,.bool i0,.ref d,.int ((i+1:R):G) 0,.int es.J 0,.int ep 0,ok,ov],slots:=#[]}->(∀ b o,b≠it->u.R b=Z o->j.R b=Z o)->Q (Z (.ref s.H.M.J)) {s,j}:=λj t v =>
   hI e eg j ⟨_,_,_,_,t,.inr ⟨a,oa,U,v a oa ac (y a oa ac am),ac⟩⟩ (v _ _ (Mz lt) n) λb o M q=>v b o M (y b o M q)
  refine Qi (wpAny_field p U (x:=g) U ?_);by_cases L:g=.bool i0
  .rw[Rx (by rw[L];decide)]
   refine Ql ?_;subst L;exact Ql (Ql ⟨_,U,Ql (Y u p λb o _ q=>q)⟩)
  .rw[Rw (by simpa using L)]
   refine Qi (QV p (by simp) λj t v=>?_)
   exact Ql (Ql (Ql ⟨_,U,Ql (Y j t λb o M q=>v.X b o M q)⟩))
def Hw(h₀ h:fc)(es:io DictEntry)(m:io eK)(i:R):Prop:=m.J=i/\∀(j:R)(v:eK),m[j]?=Z v->∃(t:eN)(e:DictEntry),v=.ref t/\es[j]?=Z e/\h₀.M.J<=t/\h.R t=Z {cls:=.type "tuple",data:=.seq #[e.key,e.val]}
def mX(m:io eK):Prop:=m.n.l
def Em{S:eN}{es:io DictEntry}{res:eK}{h₀:fc}(hh:A.handled=kf)(y:es.J<=P7)(aI:S≠it)(an:S≠d)(aT:d≠it):
  ∀(k i:R)(s:e9)(m:io eK)(c:R),es.J-i=k->i<=es.J->ItAt s.H it d i es.J ep->Ent s.H d es ep->s.H.R S=Z {cls:=.type "list",dict:=kf,data:=.seq m c,slots:=#[]}->Hw h₀ s.H es m i->mX m->h₀.M.J<=s.H.M.J ->
  (∀ h' N c',(∀ b o,b≠S->b≠it->s.H.R b=Z o->h'.R b=Z o)->h'.R S=Z {cls:=.type "list",dict:=kf,data:=.seq N c',slots:=#[]}->Hw h₀ h' es N es.J->mX N->ad (.ok (.ret res)) {s,h'}) ->
  Qu (model prog w) A (.builtin "list.extend.loop" ⟨[.ref S,.ref it,res],[]⟩) ad s:=by
 intro k;induction k with
 |zero =>
  intro i s m c g B aa C x u am D H;let ac:i=es.J:=by lia
  subst ac;refine Rb F.entry_extend_loop ?_;rw[Rc F.plain_extend_loop _];show wpAny _ A.in1 (pyNext (.ref it) >>= _) _ _ s;refine Qi (DQ aa C hh (λe eg=>?_) λ_ h' q=>?_)
  .simp!
  .refine Ql (H h' m c (λb o _ M e=>q b o M e) (q S _ aI x) ⟨u.1,λj v I=>?_⟩ am);let t e T n a3 a4:=u.2 j v I;erw[t,e,T,n,a3,q t _ (λz=>?_) a4];let _ _ _ _ Q _:=aa;rw[z,Q]at a4;lia
 |succ k L =>
  intro i s m c g B aa C x u am D H;refine Rb F.entry_extend_loop ?_;rw[Rc F.plain_extend_loop _];show wpAny _ A.in1 (pyNext (.ref it) >>= _) _ _ s;refine Qi (DQ aa C hh (λe eg h' ef p r=>?_) λeg=>Ry eg (by simp!))
  let al:=r S _ aI x;let lt:it<s.H.M.J:=by let _ _ _ _ z _:=aa;exact P8 z
  let aS:=P8 x;show wpAny _ A.in1 (Rh S (·.push (.ref s.H.M.J)) >>= _) _ _ _;refine Qi ?_;let av:∀ b,b≠S->∀ o,h'.R b=Z o->(h'.update S (QB (·.push (.ref s.H.M.J)))).R b=Z o:=λb M o e=>(QD _ _ (Ne.Y M)).Q e;let l:∀(O:fc),(∀ b o,b≠S->h'.R b=Z o->O.R b=Z o)->Hw h₀ O es (m.o (.ref s.H.M.J)) (i+1):=λO f=>by
   erw[by rw[io.size_push,u.1],λj v I=>?_]
   rw[io.getElem?_push]at I;split at I
   .rename_i h
    cases I
    rw[u.1]at h;subst h;erw[s.H.M.J,e,U,eg,D,f _ _ (Mz aS) p]
   .let t Y T n a3 a4:=u.2 j v I;let ti:t≠it:=λz=>by
     let _ _ _ _ Q _:=aa;lia
    erw[t,Y,T,n,a3,f t _ (λz=>?_) (r t _ ti a4)];rw[z,x]at a4;lia
  let ap:mX (m.o (.ref s.H.M.J)):=by
   unfold mX;rw[O5];refine Mt.mpr ⟨am,by simp,λa J b M e=>?_⟩
   rw[LB.mp M]at e;subst e;let j I:=Mg J;let t Y T _ _ a4:=u.2 j _ (by rw[← Mp];exact I)
   cases T
   exact Nj _ (P8 a4)
  refine Ri al U (Ql ⟨Rj F.plain_extend_loop _,L (i+1) _ (m.o (.ref s.H.M.J)) _ ∅ ∅ ?_ ?_ (QC _ al U) (l _ λb o M e=>av b M o e) ap ?_ λaZ N c' m1 m2 m3 m4=>?_⟩)
   (by rw[u.1];lia) (by show(m.o _).J<=P7+1;rw[io.size_push,u.1];lia)
  .exact ef.keep (λo e=>av it (Ne.Y aI) o e) λb o _ e=>by
    by_cases z:b=S
    .rw[z];erw[_,QC _ al U]
    .erw[o,av b z o e]
  .let o T n a3:=C;erw[o,av d (Ne.Y an) o (r d o aT T),n,a3]
  .show h₀.M.J<=(h'.update _ _).M.J;rw[Ra];exact Mi D (LK (P8 p))
  .exact H aZ N c' (λb o M ab e=>m1 b o M ab (av b M o (r b o ab e))) m2 m3 m4
def Bh{r:eN}{Q:im->e9->Prop}(l:s.TypeIs (.ref r) "dict_items")(h:Q j5 s):lf A (QI (.ref r)) Q ef s:=by
 unfold QI;refine Qi (QH l PySem.F.slot_dict_items_len.lookup ?_);generalize a:("dict_items.__len__" : String)=c;wp_delta;rw[show splitId c=Z ("dict_items","__len__") from by subst a;rfl]
 subst a;refine Qi (QK (T:="dict_items") (b:=i0) l (by rfl) ?_)
 refine QJ (λn=>Ry n ∅) (λ_=>?_)
 refine QJ (λ_=>?_) (λn=>Ry (by rfl) n)
 refine Qi (wpAny_typeOf l ?_);exact Ql h
def Bz{S r:eN}{es:io DictEntry}{res:eK}(L:A.handled=kf)(hv:s.H.IsItemsView r d)(C:Ent s.H d es ep)(y:es.J<=P7)(an:S≠r)(aa:S≠d)(x:s.H.R S=Z {cls:=.type "list",dict:=kf,data:=.seq #[] N,slots:=#[]})(H:∀ h' c c',(∀ b o,b≠S->s.H.R b=Z o->h'.R b=Z o)->h'.R S=Z {cls:=.type "list",dict:=kf,data:=.seq c c',slots:=#[]}->Hw s.H h' es c es.J->mX c->ad (.ok (.ret res)) {s,h'}):
  lf A.in1 (Rt (.ref S) (.ref r) res)
   (λa s'=>match a with | .done f=>ad (.ok f) s' | .again c'=>c'.quiet=i0/\Qu (model prog w) A c' ad s') (λe s'=>ad (.error e) s') s:=by
 let u al ap am:=id hv;let m eg ab ac:=id C;let dl:d<s.H.M.J:=P8 eg;let aI:S≠s.H.M.J:=LJ (P8 x);let h:∀(g:fc)(q l:R),ItAt g s.H.M.J d 0 es.J ep->(∀ b o,b≠S->s.H.R b=Z o->g.R b=Z o)->s.H.M.J<=g.M.J ->
   g.R S=Z {cls:=.type "list",dict:=kf,data:=.seq #[] q,slots:=#[]}->l=s.v->Qu (model prog w) A (.builtin "list.extend.loop" ⟨[.ref S,.ref s.H.M.J,res],[]⟩) ad {s with heap:=g,toks:=l}:=λg q l ef p t O k=>by
  subst k;refine Em (h₀:=s.H) L y aI aa (LJ dl) es.J 0 _ #[] q (Nat.sub_zero _) (LU _) ef ⟨m,p d m (Ne.Y aa) eg,ab,ac⟩ O ⟨U,λj v e=>by simp at e⟩ (by unfold mX;simp) t λh' c c' Q J m3 m4=>?_
  exact H h' c c' (λb o M e=>Q b o M (LJ (P8 e)) (p b o M e)) J m3 m4
 unfold Rt;refine Qi (wpAny_typeOf (T:="dict_items") hv.typeIs ?_);let Y:Ru (.ref S) (.ref r)=j5:=by simp[Ru,an]
 let B:(eK.type "dict_items" == eK.type "list")=j5:=by rfl
 let nt:(eK.type "dict_items" == eK.type "tuple")=j5:=by assumption
 simp only[Y,B,nt,P5,MI,if_false];refine Qi (AI hv C ?_);let i:=Qm {cls:=.type "dict_itemiterator",data:=.fields #[.none,.bool j5,.ref d,.int 0 0,.int es.J 0,.int ep 0,.none,.none]} x;let av:ItAt (s.H.o {cls:=.type "dict_itemiterator",data:=.fields #[.none,.bool j5,.ref d,.int 0 0,.int es.J 0,.int ep 0,.none,.none]}) s.H.M.J d 0 es.J ep :=
  ⟨_,_,_,_,Qn _ U,.inl ⟨U,U⟩⟩
 let D:∀ b o,s.H.R b=Z o->(s.H.o {cls:=.type "dict_itemiterator",data:=.fields #[.none,.bool j5,.ref d,.int 0 0,.int es.J 0,.int ep 0,.none,.none]}).R b=Z o:=λb o e=>Qm _ e;let big:s.H.M.J<=(s.H.o {cls:=.type "dict_itemiterator",data:=.fields #[.none,.bool j5,.ref d,.int 0 0,.int es.J 0,.int ep 0,.none,.none]}).M.J:=by simp
 let aS:(⟨s.H.o {cls:=.type "dict_itemiterator",data:=.fields #[.none,.bool j5,.ref d,.int 0 0,.int es.J 0,.int ep 0,.none,.none]},s.gens,s.drawn,s.v,s.os⟩:e9).TypeIs (.ref r) "dict_items":=⟨u,D _ _ al,ap⟩;generalize s.H.o {cls:=.type "dict_itemiterator",data:=.fields #[.none,.bool j5,.ref d,.int 0 0,.int es.J 0,.int ep 0,.none,.none]}=g0 at i av D big aS;refine Qi (Qj (Bh aS ?_));refine QJ (λ_=>?_) (λ_=>Ql ⟨Rj MZ _,h g0 _ s.v av (λb o _ e=>D b o e) big i U⟩);refine Qi (wpAny_rule ?_);refine Qi ?_;show wpAny _ _ (Rh S (·.push .none) >>= λ_=>Rh S (·.pop)) _ _ _;refine Qi (Ri i U ?_);let n:=QC (QB (·.push eK.none)) i U;refine Ri (hz:=by seq_fits) n U ?_
 let I:=QC (QB (·.pop)) n U;let ne:∀ b,b≠S->∀ o,g0.R b=Z o->((g0.update S (QB (·.push eK.none))).update S (QB (·.pop))).R b=Z o:=λb M o e=>(QD _ _ (Ne.Y M)).Q ((QD _ _ (Ne.Y M)).Q e);refine Ql ⟨Rj MZ _,h _ _ s.v (av.keep (λo e=>ne _ (Ne.Y aI) o e) λb o _ e=>?_) (λb o M e=>ne b M o (D b o e)) (by rw[Ra,Ra];exact big) I U⟩
 by_cases z:b=S
 .rw[z];erw[_,I]
 .erw[o,ne b z o e]
end
end L2.C2
namespace L2
open PySem PySem.Spec PyProof.Rows
section
open PySem.W
variable{f:R->G}{n:R}
def QOk{α:Type}(f:R->G)(n:R):KasT α->(α->Prop)->Prop
 |.ret a,P=>P a
 |.ask i j k,P=>i<n/\j<n/\∀ b:im,(b=i0->f i<=f j)->(b=j5->f j<=f i)->QOk f n (k b) P
theorem QOk.bind{α j:Type}{g:α->KasT j}{P:j->Prop}:∀{t:KasT α},QOk f n t (λa=>QOk f n (g a) P)->QOk f n (t.bind g) P
 |.ret _,h=>h
 |.ask _ _ _,h=>⟨h.1,h.2.1,λb x y=>QOk.bind (h.2.2 b x y)⟩
theorem QOk.imp{α:Type}{P c:α->Prop}(Y:∀ a,P a->c a):∀{t:KasT α},QOk f n t P->QOk f n t c
 |.ret _,h=>Y _ h
 |.ask _ _ _,h=>⟨h.1,h.2.1,λb x y=>QOk.imp Y (h.2.2 b x y)⟩
theorem QOk.wp{α:Type}{P:α->Prop}{s:e9}{c:R->R->(im->e9->Prop)->e9->Prop}{Q:α->e9->Prop}(T:∀ i j C,i<n->j<n->(∀ b:im,(b=i0->f i<=f j)->(b=j5->f j<=f i)->C b s)->c i j C s)(Y:∀ a,P a->Q a s):∀{t:KasT α},QOk f n t P->t.kasWp c Q s
 |.ret _,h=>Y _ h
 |.ask i j k,h=>T i j _ h.1 h.2.1 λb x y=>QOk.wp T Y (h.2.2 b x y)
def Pmn(n:R)(p:io R):Prop:=p.Perm (LD n).toArray
def Pmn.size{p:io R}(h:Pmn n p):p.J=n:=by rw[io.Perm.size_eq h];simp
def Pmn.lt{p:io R}(h:Pmn n p)(hi:i<n):p.f i 0<n:=by
 let:p.f i 0=p[i]'(by rw[h.J];exact hi):=by simp[O6,h.J,hi]
 rw[this];let:=(Pz.mp h).mem_iff.mp (io.getElem_mem_toList (by rw[h.J];exact hi))
 simp!
def kyA(f:R->G)(p:io R)(i:R):G:=f (p.f i 0)
def vK{p q:io R}(h:p[i]?=q[j]?):kyA f p i=kyA f q j:=by
 unfold kyA;simp[*]
def Sin(f:R->G)(p:io R)(m:R):Prop:=∀ i j,i<=j->j<m->kyA f p i<=kyA f p j
def Nin(f:R->G)(p:io R)(m:R):Prop:=∀ i j,i<=j->j<m->kyA f p j<=kyA f p i
theorem Sin.up{p:io R}(h:Sin f p m)(c:kyA f p (m-1)<=kyA f p m):Sin f p (m+1):=λi j Y O=>by
 by_cases z:j<m
 .exact h i j Y z
 .let e:j=m:=by lia
  by_cases y:i=j
  .rw[y];exact Mn _
  .let:=h i (m-1) ∅ ∅
   rw[e];lia
theorem Nin.up{p:io R}(h:Nin f p m)(c:kyA f p m<=kyA f p (m-1)):Nin f p (m+1):=λi j Y O=>by
 by_cases z:j<m
 .exact h i j Y z
 .let e:j=m:=by lia
  by_cases y:i=j
  .rw[y];exact Mn _
  .let:=h i (m-1) ∅ ∅
   rw[e];lia
def vJ{p:io R}(I:j<=p.J)(k:R):kyA f (kas_rev p i j) k=if i<=k/\k<j then kyA f p (i+j-1-k) else kyA f p k:=by
 let e:=getElem?_mirror_all (i:=i) I k;split
 .rw[Rw (by assumption)]at e;exact vK e
 .rw[Rx (by assumption)]at e;exact vK e
theorem Pmn.rev{p:io R}(h:Pmn n p)(i j:R):Pmn n (kas_rev p i j):=io.Perm.trans (mirror_perm _ _ _ _) h
theorem JJ{p:io R}(h:Pmn n p):∀ g m,1<=m->m+g<=n->Sin f p m->QOk f n (kas_asc p g m) λr=>m<=r/\r<=m+g/\Sin f p r/\(r<m+g->kyA f p r<=kyA f p (r-1))
 |0,m,_,_,s=>⟨Lo _,Lo _,s,λz=>Ry z (Nj _)⟩
 |g+1,m,Q,o,s=>⟨h.lt ∅,h.lt ∅,λb x y=>by
  cases b with
  |true=>exact⟨Lo _,MP ..,s,λ_=>x U⟩
  |false=>exact(JJ h g (m+1) ∅ ∅ (s.up (y U))).imp λr z=>⟨∅,∅,z.2.2.1,λw=>z.2.2.2 ∅⟩⟩
def Rnq(f:R->G)(p:io R)(m q:R):Prop:=∀ i,m-(q+1)<=i->i<m->kyA f p i=kyA f p (m-1)
def Rnq.rev{p:io R}{q:R}(h:Rnq f p m q)(C:m<=p.J)(k:R):kyA f (kas_rev p (m-(q+1)) m) k=kyA f p k:=by
 rw[vJ C];split
 .rw[h k ∅ ∅,h _ ∅ ∅]
 .rfl
structure Dsq(f:R->G)(n m:R)(r:io R×R×R):Prop where
 p:Pmn n r.1
 a:m<=r.2.1
 b:r.2.1<=n
 s:Nin f r.1 r.2.1
 q:Rnq f r.1 r.2.1 r.2.2
theorem Ai:∀ g p m q,1<=m->m+g<=n->Pmn n p->Nin f p m->Rnq f p m q->QOk f n (kas_desc g p m q) (Dsq f n m)
 |0,p,m,q,_,o,h,s,e=>⟨h,Lo _,o,s,e⟩
 |g+1,p,m,q,Q,o,h,s,e=>⟨h.lt ∅,h.lt ∅,λb x y=>by
  let up:∀{r},Dsq f n (m+1) r->Dsq f n m r:=λz=>⟨z.p,by let:=z.a;lia,z.b,z.s,z.q⟩
  cases b with
  |true =>
   let one:∀ I:io R,Rnq f I (m+1) 0:=λI i Y O=>by grind
   show QOk f n (if q > 0 then _ else _) _;split
   .refine(Ai g _ (m+1) 0 ∅ ∅ (h.rev _ _) ?_ (one _)).imp λr=>up
    let t:=e.rev (by rw[h.J];lia)
    let k:=s.up (x U);exact λi j Y O=>by rw[t,t];exact k i j Y O
   .exact(Ai g p (m+1) 0 ∅ ∅ h (s.up (x U)) (one _)).imp λr=>up
  |false=>exact⟨h.lt ∅,h.lt ∅,λd u v=>by
    cases d with
    |true=>exact⟨h,Lo _,by grind,s,e⟩
    |false =>
     refine(Ai g p (m+1) (q+1) ∅ ∅ h (s.up (v U)) λi Y O=>?_).imp λr=>up
     let l:kyA f p (m-1)=kyA f p m:=NS (y U) (v U);by_cases c:i=m
     .simp!
     .rw[e i ∅ ∅];exact l⟩⟩
structure Cnq(f:R->G)(n:R)(r:R×io R):Prop where
 p:Pmn n r.2
 a:1<=r.1
 b:r.1<=n
 s:Sin f r.2 r.1
def Ig{p:io R}(h:Pmn n p)(Q:1<=m)(o:m<=n)(s:Nin f p m):QOk f n (kas_tail3 m n p) (Cnq f n):=by
 refine QOk.bind ((JJ (h.rev 0 m) (n-m) m Q ∅ λi j Y O=>?_).imp λr z=>⟨h.rev 0 m,by lia,∅,z.2.2.1⟩)
 rw[vJ (by rw[h.J];exact o),vJ (by rw[h.J];exact o),Rw ∅,Rw ∅]
 exact s _ _ ∅ ∅
def Ih{p:io R}(h:Pmn n p)(o:m<n)(s:Nin f p (m+1)):QOk f n (kas_descPart m n p) (Cnq f n):=by
 refine QOk.bind ((Ai (n-(m+1)) p (m+1) 0 ∅ ∅ h s λi Y O=>by grind).imp λr z=>?_)
 let b d a t u:=z;show QOk f n (if r.2.2 > 0 then _ else _) _;split
 .refine Ig (b.rev _ _) ∅ a λi j Y O=>?_
  rw[u.rev (by rw[b.J];exact a),u.rev (by rw[b.J];exact a)]
  exact t i j Y O
 .exact Ig b ∅ a t
def JI{p:io R}(l:2<=n)(h:Pmn n p):QOk f n (kas_count n p) (Cnq f n):=by
 refine QOk.bind ((JJ h (n-1) 1 (Lo _) ∅ λi j Y O=>by simp!).imp λm z=>?_)
 let d a t g:=z;show QOk f n (if(m == n)=i0 then _ else if m > 1 then _ else _) _;split
 .erw[h,d,by lia,t]
 .rename_i c;let o:m<n:=by lia
  let c0:=g ∅
  split
  .erw[h.lt ∅,h.lt ∅,λb x y=>?_]
   cases b with
   |true=>exact⟨h,d,by show m<=n;lia,t⟩
   |false =>
    let e:∀ i,i<m->kyA f p i=kyA f p 0:=λi B=>NS (O9 (t i (m-1) ∅ ∅) (y U)) (t 0 i (LU _) B)
    refine Ih (h.rev 0 m) o λi j Y O=>?_;rw[vJ (by rw[h.J];lia),vJ (by rw[h.J];lia)]
    by_cases c1:j<m
    .rw[Rw ∅,Rw ∅,e (0+m-1-j) ∅,e (0+m-1-i) ∅];exact Mn _
    .grind
  .let e:m=1:=by lia
   subst e;exact Ih h o λi j Y O=>by
    rcases(show i=j∨(i=0/\j=1) by lia)with z|⟨z,y⟩
    .rw[z];exact Mn _
    .rw[z,y];exact c0
theorem xY{p:io R}{k:R}(h:Pmn n p)(c:k<n)(s:Sin f p k):∀ g l r,l<=r->r<=k->r-l<=g->(∀ i,i<l->kyA f p i<=kyA f p k)->(∀ i,r<=i->i<k->kyA f p k<=kyA f p i) ->
  QOk f n (kas_place p k g l r) λl=>l<=k/\(∀ i,i<l->kyA f p i<=kyA f p k)/\∀ i,l<=i->i<k->kyA f p k<=kyA f p i
 |0,l,r,Y,O,ef,lo,B=>⟨∅,lo,λi a b=>B i ∅ b⟩
 |g+1,l,r,Y,O,ef,lo,B=>by
  show QOk f n (if l ≥ r then _ else _) _;split
  .erw[4,lo,λi a b=>B i ∅ b]
  .erw[h.lt c,h.lt ∅,λb x y=>?_]
   cases b with
   |true=>exact xY h c s g _ _ ∅ ∅ ∅ lo λi a b=>O9 (x U) (s _ _ a b)
   |false=>exact xY h c s g _ _ ∅ ∅ ∅ (λi a=>O9 (s i ((l+r)/2) ∅ ∅) (y U)) B
theorem q_bin:∀ g p k,Pmn n p->k+g=n->Sin f p k->QOk f n (kas_bin g p k) λr=>Pmn n r/\Sin f r n
 |0,p,k,h,e,s=>⟨h,by rw[← e];exact s⟩
 |g+1,p,k,h,e,s=>QOk.bind ((xY h ∅ s k 0 k (LU _) (Lo _) ∅ (λi z=>Ry z (MJ _)) λi a b=>Ry a ∅).imp λl z=>by
  refine q_bin g _ (k+1) (io.Perm.trans (bubble_perm _ _ _) h) ∅ ?_
  let v lo B:=z;let ef:∀ i,kyA f (bubble p k (k-l)) i=if i=l then kyA f p k else if l<i/\i<=k then kyA f p (i-1) else kyA f p i:=λi=>by
   let e:=getElem?_bubble (show k<p.J by rw[h.J];lia) (k-l) ∅ i
   rw[show k-(k-l)=l by lia]at e
   by_cases c:i=l
   .rw[Rw c]at e ⊢;exact vK e
   .rw[Rx c]at e ⊢;by_cases d:l<i/\i<=k
    .rw[Rw d]at e ⊢;exact vK e
    .rw[Rx d]at e ⊢;exact vK e
  intro i j Y O;rw[ef,ef];repeat' split
  all_goals first
   | (lia)
   |exact Mn _
   |exact lo _ ∅
   |grind
   |exact s _ _ ∅ ∅)
def q_sort(f:R->G)(y:2<=n):QOk f n (kas_sort n) λp=>Pmn n p/\Sin f p n:=by
 refine QOk.bind ((JI y (io.Perm.refl _)).imp λr z=>?_);let b d a m:=z;show QOk f n (if r.1<n then _ else _) _;split
 .rw[show max r.1 1=r.1 by lia]
  exact q_bin _ _ _ b ∅ m
 .erw[b,by rw[show n=r.1 by lia];exact m]
end
section
open PySem.W
variable{prog:fI}{w:hx}{A:Around}{ef:eK->e9->Prop}{s:e9}
def prOf(h:fc):eK->G×G
 |.ref a=>match h.R a with
  |some o=>match o.data with
   |.seq D _=>match(D[0]? : ii eK),(D[1]? : ii eK) with
    |some (.int x _),Z (.int y _)=>(x,y)
    |_,_=>(0,0)
   |_=>(0,0)
  |none=>(0,0)
 |_=>(0,0)
def yb{x y:G}{g ty:Tok}(Y:h.R a=Z o)(ef:o.data=.seq #[.int x g,.int y ty] n):prOf h (.ref a)=(x,y):=by
 unfold prOf;simp only[Y,ef];rfl
def fiV(h:fc)(v:eK):G:=(prOf h v).1
def AE{x y:G}{g ty:Tok}(Y:h.R a=Z o)(ef:o.data=.seq #[.int x g,.int y ty] n):fiV h (.ref a)=x:=by
 unfold fiV;rw[yb Y ef]
def prv_lo{v:eK}{b:im}{Q:im->e9->Prop}(eg:PrV s.H u)(hv:PrV s.H v)(M:b=i0)(h:∀ c:im,(c=i0->fiV s.H u<=fiV s.H v)->(c=j5->fiV s.H v<=fiV s.H u)->Q c s):lf A (keyLt' (tuples' b) u v) Q ef s:=by
 let a o n x y g ty rfl Y O B:=eg;let J j i m k l p rfl D f C:=hv;subst M;rw[AE Y B,AE D C]at h;refine kat_lt Y B D C (kat_cons (wpAny_eqBool_int (kat_go (λe=>?_) λe=>kat_no (oneLt_int (h _ (λz=>Int.le_of_lt (Rl z)) λz=>Int.not_lt.mp (of_decide_eq_false z))))));let N:x=m:=by simpa using e
 let d:∀ c,Q c s:=λc=>h c (λ_=>by rw[N];exact Mn _) λ_=>by rw[N];exact Mn _
 exact kat_yes (kat_cons (wpAny_eqBool_int (kat_go (λ_=>kat_yes (kat_nil (d _))) λ_=>kat_no (kat_one _ _ (PyProof.Rows.lt_int (show PySem.W.BoolBack Q (.bool _) s from d _))))))
def AD{v:eK}(p:PrV h v)(k:∀ b o,v=.ref b->h.R b=Z o->h'.R b=Z o):fiV h' v=fiV h v:=by
 let a o n x y g ty rfl Y _ ef:=p;rw[AE Y ef,AE (k _ _ U Y) ef]
def xI{P:PySem.Fin->e9->Prop}(D:s.H.R a=Z (QY "list" vs.toArray n))(T:∀ v∈vs,PrV s.H v)(am:vs.L<64)(h:∀ out:E eK,out.Perm vs->out.y (λu v=>fiV s.H u<=fiV s.H v)->P (.done (.ret .none)) {s,sortedHeap s.H a vs out.toArray}):lf A (hX.«list.sort» ⟨[.ref a],[]⟩) P ef s:=by
 let line:vs.L<=P7:=by rw[sizeLine_eq];lia
 let l aI:∃ l,(s.H.update a (QB λ_=>(#[]:io eK))).R a=Z (QY "list" #[] l):=⟨_,QZ D λ_=>#[]⟩;let ap:(((s.H.update a (QB λ_=>(#[]:io eK))).o (QY "tuple" vs.toArray 0)).o (QY "list" #[] 0)).R a=Z (QY "list" #[] l):=Qm _ (Qm _ aI);let av:∀ v∈vs,∀ b o,v=.ref b->s.H.R b=Z o->(((s.H.update a (QB λ_=>(#[]:io eK))).o (QY "tuple" vs.toArray 0)).o (QY "list" #[] 0)).R b=Z o:=λv H b o eb e=>by
  refine Qm _ (Qm _ ?_);let nb:b≠a:=λz=>by
   let a' o' n' x y tx ty rfl t k2 _:=T v H;lia
  rw[fc.get?_update_ne _ _ _ _ nb];exact e
 let an:=λv H=>(T v H).keep (av v H);let al:=λv H=>AD (T v H) (av v H);clear av;rw[list_sort_plain];refine Qi (listItems_at D U (Qi (listUpdate_at D U (Qi (seqEpoch_at aI U (Qi (wpAny_newTuple (Qi (Q0 (Qj ?_) (LU _))) line)))) ∅ (LU _))))
 show lf A _ P ef {s,((s.H.update a (QB λ_=>(#[]:io eK))).o (QY "tuple" vs.toArray 0)).o (QY "list" #[] 0)};let N:∀ out:E eK,sortedHeap s.H a vs out.toArray=(((s.H.update a (QB λ_=>(#[]:io eK))).o (QY "tuple" vs.toArray 0)).o (QY "list" #[] 0)).update a (QB λ_=>out.toArray):=λ_=>rfl;generalize ((s.H.update a (QB λ_=>(#[]:io eK))).o (QY "tuple" vs.toArray 0)).o (QY "list" #[] 0)=h6 at ap an N al;dsimp only;by_cases O:vs.toArray.J<2
 .rw[Rw O,Rw O];refine Qi (Ql ?_);rw[StateT.run_pure];refine Qi (Ql (Qi (seqEpoch_at ap U ?_)));dsimp only;let eo:(arrOf (SortSt.mk' general' (vs.toArray.zip vs.toArray) #[] 7 kf)).h (·.2)=vs.toArray:=by
   show(vs.toArray.zip vs.toArray).h (·.2)=vs.toArray;apply io.ext
   .simp
   .intro i Y O;simp
  rw[eo];refine Qi (listUpdate_at ap U ?_ (LU _) (by rw[Mc];exact NW line))
  simp only[bne_self_eq_false,MI,if_false];refine Ql ?_;rw[Mc]at O;let:=h vs (List.Perm.refl _) (ME.mpr λi j B I aS=>by lia)
  rw[N]at this;exact this
 .rw[Rx O,Rx O];rw[Mc]at O;let fs m f2 f3:=Al (s:={s,h6}) (M:=model prog w) an;refine Qi (kat_kind m ∅ f3 ∅ ?_)
  let aT:(eK.type "int" != eK.type "tuple")=i0:=by rfl
  let aa:∀ i,i<vs.L->vs.f i eK.none∈vs:=λi B=>by simp[*]
  refine Qi (Qe (kat_run (ks:=vs) (vs:=vs) (Q:=λab k=>k={s,h6}/\failedOf ab=kf/\∃ p:io R,(Pmn vs.L p/\Sin (λi=>fiV h6 (vs.f i eK.none)) p vs.L)/\arrOf ab=p.h (kas_item (vs.toArray.zip vs.toArray))) (G:=λp k=>k={s,h6}/\Pmn vs.L p/\Sin (λi=>fiV h6 (vs.f i eK.none)) p vs.L) U ∅ am (λp ab k J g a3 a4=>⟨a4.1,a3,p,a4.2,g⟩) (QOk.wp (f:=λi=>fiV h6 (vs.f i eK.none)) (λi j C B I hC=>?_) (λp d=>⟨U,d⟩) (q_sort _ ∅))) ?_ λ_ _ e=>e)
  .exact prv_lo (an _ (aa i B)) (an _ (aa j I)) aT hC
  rintro⟨⟨⟩,ab⟩ k ⟨rfl,q,p,⟨ac,L⟩,a0⟩;dsimp only;let aZ:=kat_snds (ks:=vs) (vs:=vs) U a0;rw[aZ];let r:(p.n.h λi=>vs.f i eK.none).Perm vs:=by
   let z:=(Pz.mp ac).h λi=>vs.f i eK.none
   rwa[show(LD vs.L).toArray.n.h (λi=>vs.f i eK.none)=vs from O4 λi=>by
    show((LD vs.L).h _)[i]?=_;rw[Lx];by_cases c:i<vs.L
    .simp[*]
    .simp[*]]at z
  refine Qi (seqEpoch_at ap U (Qi (listUpdate_at ap U ?_ (LU _) (by rw[Mc,r.length_eq];exact NW line))))
  rw[q];simp only[bne_self_eq_false,MI,if_false];refine Ql ?_
  let:=h _ r (NX.mpr (ME.mpr λi j B I aS=>by
   rw[L4,ac.J]at B I;let z:fiV h6 _<=fiV h6 _:=L i j (LK aS) I;let ei:∀ i (B:i<p.n.L),p.f i 0=p.n[i]:=λi B=>by
    rw[L4]at B;simp[O6,B]
   rw[al _ (aa _ (ac.lt B)),al _ (aa _ (ac.lt I)),ei,ei]at z
   exact z))
  rw[N]at this;exact this
def rY{l:eN}(hl:s.H.IsList l vs.toArray)(Y:∀ v∈vs,PrV s.H v)(c:vs.L<64)(h:∀ out:E eK,out.Perm vs->out.y (λu v=>fiV s.H u<=fiV s.H v)->Q (.ref (s.H.M.J+1)) {s,sortedAll s.H vs out.toArray}):lf A (call (.builtin "sorted") [.ref l]) Q ef s:=by
 refine Calls.call_function_entry kind_sorted plain_sorted entry_sorted (args_sorted1 _) ?_;unfold hX.«sorted»;refine Qi (m:=checkCount "sorted" 1 1 _) (Ql ?_);refine Qi (collect_list hl ?_ (by rw[sizeLine_eq];lia))
 refine Qi (Q0 ?_ (by rw[sizeLine_eq];lia))
 let t:((s.H.o (QY "list" #[] 0)).update s.H.M.J (QB (·++vs.toArray))).M.J=s.H.M.J+1:=by simp
 let a:(((s.H.o (QY "list" #[] 0)).update s.H.M.J (QB (·++vs.toArray))).o (QY "list" vs.toArray 0)).R (s.H.M.J+1)=Z (QY "list" vs.toArray 0):=by rw[← t];exact Qn _ U
 show wpAny _ _ _ _ _ {s,((s.H.o (QY "list" #[] 0)).update s.H.M.J (QB (·++vs.toArray))).o (QY "list" vs.toArray 0)};rw[t];let C:∀(b:eN)(o:hb),s.H.R b=Z o->(((s.H.o (QY "list" #[] 0)).update s.H.M.J (QB (·++vs.toArray))).o (QY "list" vs.toArray 0)).R b=Z o:=λb o q=>by
  let j:b<s.H.M.J:=P8 q;rw[fc.get?_push_ne _ _ _ (by rw[t];exact LJ (MQ j)),fc.get?_update_ne _ _ _ _ (LJ j),fc.get?_push_ne _ _ _ (LJ j)]
  exact q
 refine Qi (Qj (QO slot_list_sort ⟨_,a,U⟩ entry_list_sort (xI a (λv H=>(Y v H).keep λb o _ q=>C b o q) c λout T n=>⟨_,U,?_⟩) (args_list_sort _)));let d:=λv H=>AD (Y v H) λb o _ q=>C b o q;exact Ql ⟨_,U,h out T (List.Pairwise.imp_of_mem (λ{u v} eg H q=>by rw[← d u (T.mem_iff.mp eg),← d v (T.mem_iff.mp H)];exact q) n)⟩
end
def PAt(H:Hp)(ys:E V)(ps:E (G×G)):Prop:=ys.L=ps.L/\∀(i:R)(p:G×G),ps[i]?=Z p->∃ t,ys[i]?=Z (.ref t)/\H t=Z (.tup [.int p.1,.int p.2])
theorem PAt.mono{ps:E (G×G)}(h:PAt H ys ps)(s:∀ b o,H b=Z o->H' b=Z o):PAt H' ys ps:=⟨h.1,λi p e=>by
 let t a b:=h.2 i p e
 erw[t,a,s _ _ b]⟩
theorem PAt.nil(H:Hp):PAt H [] []:=⟨U,λi p e=>by simp at e⟩
theorem PAt.app{ps qs:E (G×G)}(h:PAt H ys ps)(g:PAt H zs qs):PAt H (ys++zs) (ps++qs):=⟨by rw[Ls,Ls,h.1,g.1],λi p e=>by
 by_cases c:i<ps.L
 .rw[Lu c]at e;let t a b:=h.2 i p e;erw[t,by rw[Lu (by grind)];exact a,b]
 .rw[Lq ∅]at e
  let t a b:=g.2 _ p e
  erw[t,by rw[Lq (by let:=h.1;lia),h.1];exact a,b]⟩
theorem PAt.one{t:eN}{p:G×G}(h:H t=Z (.tup [.int p.1,.int p.2])):PAt H [.ref t] [p]:=⟨U,λi q e=>by
 match i,e with
 |0,e=>cases e;erw[t,U,h]⟩
theorem PAt.rev{ps:E (G×G)}(h:PAt H ys ps):PAt H ys.x ps.x:=⟨by rw[Nt,Nt,h.1],λi p e=>by
 let B:=(Ll.mp e).1;rw[Nt]at B;rw[N3 B]at e;let t a b:=h.2 _ p e
 erw[t,by rw[N3 (by rw[h.1];exact B),h.1];exact a,b]⟩
inductive rSortQ(K:Ln)(xs:E V)(H:L2.Hp)(Q:L2.VK):Prop
 |mk (p:eN)(ys:E V)(ps:E (G×G)) (_:xs=[.ref p])(_:nv p ys)(_:PAt H ys ps)(_:ys.L<64)(_:∀(l:eN)(out:E V)(ps':E (G×G)),H l=kf->ps'.Perm ps->ps'.y (λa b=>a.1<=b.1)->PAt H out ps'->Q (.ref l) (upd H l (.lst out)))
def BP:iJ X (.builtin "sorted") (rSortQ X.K):=by
 intro B s L H D x Q I r h;let p g ps rfl c hL am q:=h;let u rfl ru:=kJ r
 cases ru
 let J rv A t:=I.list c;let C:=rv.L;let aa:∀(i:R)(v:eK),J[i]?=Z v->∃(a:eN)(o:hb)(n:R)(tx ty:Tok)(r:G×G),v=.ref a/\ps[i]?=Z r/\g[i]?=Z (.ref a)/\H a=Z (.tup [.int r.1,.int r.2])/\s.H.R a=Z o/\o.cls=.type "tuple"/\o.data=.seq #[.int r.1 tx,.int r.2 ty] n:=λi v l=>by
  let N:i<J.L:=(Ll.mp l).1;let ap eg:∃ r,ps[i]?=Z r:=⟨_,Lj (by let:=hL.1;lia)⟩
  let a ya k:=hL.2 i ap eg;let v' al rel:=rv.get ya;rw[l]at al
  cases al
  cases (show v=eK.ref a from rel)
  let _ ac r2 ob b1 b2 nb b3:=(show bu X.e X.w H s.H a (.tup [.int ap.1,.int ap.2]) from I.hok a _ k);let u1 u2 rfl{t1 rfl}{t2 rfl}:=Ji r2;erw[a,ob,nb,t1,t2,ap,U,eg,ya,k,b1,b2,b3]
 let an:∀ v∈J,∃ i,J[i]?=Z v:=λv l=>Mg l;let aS:∀ v∈J,PrV s.H v:=λv l=>by
  let i N:=an v l;let a o n tx ty r rfl eg _ _ Y O ef:=aa i v N;erw[a,o,n,r.1,r.2,tx,ty,U,Y,O,ef]
 let av:∀(i:R)(v:eK)(r:G×G),J[i]?=Z v->ps[i]?=Z r->prOf s.H v=r:=λi v r l eg=>by
  let a o n tx ty r' rfl ab _ _ Y O ef:=aa i v l;rw[eg]at ab
  cases ab
  exact yb Y ef
 refine rY A.isList aS ∅ λout T up=>?_
 let aI:J.h (prOf s.H)=ps:=by
  refine O4 λi=>?_;rw[Lx];by_cases N:i<J.L
  .let r eg:∃ r,ps[i]?=Z r:=⟨_,Lj (by let:=hL.1;lia)⟩
   rw[eg,Lj N];show Z _=_;rw[av i _ r (Lj N) eg]
  .rw[Mv ∅,Mv (by let:=hL.1;lia)]
   rfl
 let m r3 l3 m3:=u9 rv (out:=out) λv l=>T.mem_iff.mp l;let e d:=sortedAll_at s.H J out.toArray
 let LO:PAt H m (out.h (prOf s.H)):=⟨by rw[l3,Lp],λi r eg=>by
  rw[Lx]at eg;let v l rfl:=LC.mp eg;let j M:=an v (T.mem_iff.mp (Lm l));let a o n tx ty r' rfl ab _ k Y O ef:=aa j v M;let y f:∃ y,m[i]?=Z y:=⟨_,Lj (by rw[l3];exact(Ll.mp l).1)⟩
  let v' al rel:=r3.get f;rw[l]at al
  cases al
  erw[a,3,by rw[yb Y ef];exact k]
  rw[f]
  cases y with
  |ref b=>cases (show eK.ref a=eK.ref b from rel);rfl
  |int _=>obtain⟨_,z⟩:=rel;cases z
  |str _=>obtain⟨_,z⟩:=rel;cases z
  |byt _=>obtain⟨_,z⟩:=rel;cases z
  |flt _=>obtain⟨_,z⟩:=rel;cases z
  |non=>cases rel
  |bl _=>cases rel
  |ty _=>cases rel⟩
 let pr:(out.h (prOf s.H)).Perm ps:=by
  let:=T.h (prOf s.H);rwa[aI]at this
 let pw:(out.h (prOf s.H)).y (λa b=>a.1<=b.1):=NX.mpr up;erw[.ref (s.H.M.J+1),_,I.laid (t':=s.v) (λ_ _=>sortedAll_old) (NC _) (show bu X.e X.w _ _ _ (.lst m) from⟨?_,out,e,r3,d⟩),U,q _ m _ (I.hok.fresh (NC _)) pr pw LO];let:=T.length_eq;exact LK (ar ∅)
end L2
namespace L2.C2
open PySem PySem.Spec PyProof.Rows
section
variable{prog:fI}{w:hx}{A:Around}{ef:eK->e9->Prop}{s:e9}{d:eN}
def list_itemsT{r:eN}{es:io DictEntry}(I:A.handled=kf)(hv:s.H.IsItemsView r d)(C:Ent s.H d es ep)(y:es.J<=P7)(H:∀ h' c c',(∀ b o,s.H.R b=Z o->h'.R b=Z o)->h'.R s.H.M.J=Z {cls:=.type "list",dict:=kf,data:=.seq c c',slots:=#[]}->(c.J=es.J/\∀(j:R)(v:eK),c[j]?=Z v->∃(t:eN)(e:DictEntry),v=.ref t/\es[j]?=Z e/\s.H.M.J<t/\h'.R t=Z {cls:=.type "tuple",data:=.seq #[e.key,e.val]})->c.n.l->Q (.ref s.H.M.J) {s,h'}):
  lf A (call (.type "list") [.ref r]) Q ef s:=by
 let N p T q:=id hv;let m eg i l:=id C;refine callType_codes (Q₁:=λk f=>k=.ref s.H.M.J/\f={s,s.H.o {cls:=.type "list",data:=.seq #[]}}) PySem.F.called_list (PX _) PY
  (code_list_new _ ⟨U,U⟩) λk f L=>?_
 let rfl rfl:=L;let x:(s.H.o {cls:=.type "list",data:=.seq #[]}).R s.H.M.J=Z {cls:=.type "list",data:=.seq #[]}:=Qn _ U;let O:s.H.M.J≠r:=Mz (P8 p);let h:s.H.M.J≠d:=Mz (P8 eg);erw[⟨_,x,U⟩,PQ _ _,3];show wpAny _ _ (do let D ← Rv (.ref s.H.M.J);hX.List.listUpdate (.ref s.H.M.J) (λ_=>#[]);letGo D.n.x;Rt (.ref s.H.M.J) (.ref r) .none) _ _ _
 refine Qi ?_;unfold Rv;refine Qi (Rf x U (Ql ?_));show wpAny _ _ (Rh s.H.M.J (λ_=>#[]) >>= λ_=>letGo (#[]:io eK).n.x >>= λ_=>Rt (.ref s.H.M.J) (.ref r) .none) _ _ _;refine Qi (Ri x U ?_);let n:=QC (QB (λ_=>(#[]:io eK))) x U;let oth:∀ b o,s.H.R b=Z o->((s.H.o {cls:=.type "list",data:=.seq #[]}).update s.H.M.J (QB (λ_=>(#[]:io eK)))).R b=Z o :=
  λb o e=>(QD _ _ (Mz (P8 e))).Q (Qm _ e)
 refine Qi (QX ?_);refine Bz (A:=A.in1) I ⟨N,oth _ _ p,T,q⟩ ⟨m,oth _ _ eg,i,l⟩ y O h n λh' c c' g a u J=>?_
 erw[U,H h' c c' (λb o e=>g b o (LJ (P8 e)) (oth b o e)) a ⟨u.1,λj v hv=>by
  let t e M B x3 z:=u.2 j v hv;erw[t,e,M,B,3,z];rw[Ra,size_push']at x3
  exact x3⟩ J]
end
end L2.C2
namespace L2.AT
open PySem PySem.Spec PyProof.Rows
section
variable{X:Cx}{pins:E (eN×hb)}{σ:St}{H H':Hp}{s:e9}{h':fc}
def Inv.many(I:Inv X pins σ H s)(k:∀ b o,s.H.R b=Z o->h'.R b=Z o)(y:∀ b,b<s.H.M.J->H' b=H b)(new:∀ b u,s.H.M.J<=b->H' b=Z u->bu X.e X.w H' h' b u):Inv X pins σ H' {s with heap:=h',toks:=t'}:=by
 let up:∀ b u,H b=Z u->H' b=Z u:=λb u e=>by rw[y b (I.hok.lt e)];exact e
 refine I.un ⟨λb o e n _ _=>k b o e,λb o e n _ _=>⟨o.slots,k b o e⟩,λb o e n _=>by rw[y b (P8 e)];exact n,λb o e _=>⟨o,k b o e⟩,λb D e=>up b _ e,λb o u e=>up b _ e,λb T e=>⟨#[],by rw[up b _ e];simp⟩⟩ λb u e=>?_
 by_cases z:b<s.H.M.J
 .rw[y b z]at e;exact(I.hok b u e).stay (λc v _ q=>k c v q) (λc q=>up c _ q) λc D q=>up c _ q
 .exact new b u (N4 z) e
def GG{l:E (eN×α)}{x:α}(nd:(l.h (·.1)).l)(h:(a,x)∈l):l.Z a=Z x:=by
 induction l with
 |nil=>cases h
 |cons p r L =>
  rw[LR,LV]at nd;obtain e|h:=Lw.mp h
  .subst e;simp[Ou]
  .let ne:(a == p.1)=j5:=beq_eq_false_iff_ne.mpr λz=>nd.1 (z▸LW.mpr ⟨_,h,U⟩)
   simp only[Ou,ne];exact L nd.2 h
def DD{l:E (eN×α)}{x:α}(h:l.Z a=Z x):(a,x)∈l:=by
 induction l with
 |nil=>cases h
 |cons p r L =>
  simp only[Ou]at h;split at h
  .rename_i e
   cases h
   let:=beq_iff_eq.mp e;rw[this];exact Lv
  .exact Lr _ (L h)
def adr:eK->eN
 |.ref a=>a
 |_=>0
end
end L2.AT
namespace L2
open PySem PySem.Spec PyProof.Rows AT
inductive rListT(xs:E V)(H:L2.Hp)(Q:L2.VK):Prop
 |mk (v d:eN)(kvs:E (Key×V))(ps:E (G×G)) (_:xs=[.ref v])(_:H v=Z (iQ v d))(_:H d=Z (.dK kvs))(_:kvs=ps.h (λe=>(Sum.inl e.1,V.int e.2)))(_:∀(l:eN)(out:E V)(H':Hp),(∀ b u,H b=Z u->H' b=Z u)->H l=kf->H' l=Z (.lst out)->out.L=ps.L->(∀(i:R)(e:G×G),ps[i]?=Z e->∃ t,out[i]?=Z (.ref t)/\H' t=Z (.tup [.int e.1,.int e.2]))->Q (.ref l) H')
def BQ(T:X.calm=i0):iJ X (.type "list") rListT:=by
 intro B s L H p us Q I r h;let v d n ps rfl o hd ek q:=h;let u rfl ru:=kJ r
 cases ru
 let vw _ _:=(show bu X.e X.w H s.H v (iQ v d) from I.hok v _ o);let _ y ep aI aS a0:=mQ (P:=X.e) (w:=X.w) (H:=H) (h:=s.H) (d:=d) (u:=.dK n) True.intro (I.hok d _ hd);let hz _:=(show bu X.e X.w H s.H d (.dK n) from I.hok d _ hd);let aT:y.J=ps.L:=by
  rw[aS];show n.L=_;rw[ek,Lp]
 let kl:n.L=ps.L:=by rw[ek,Lp]
 let a6:∀(j:R)(e:DictEntry),y[j]?=Z e->∃ x tx ty,ps[j]?=Z x/\e.key=.int x.1 tx/\e.val=.int x.2 ty:=λj e eg=>by
  let a b c1 c2 c3:=a0 j e eg;rcases c1 with⟨ab,k,f,A,e3⟩|⟨_,_,_,f,_⟩
  .cases f;rw[ek,Lx]at A;let x J e4:=LC.mp A
   cases e4
   subst e3;let tx e5:=(show ∃ t,e.key=eK.int x.1 t from c2);let ty e6:=(show ∃ t,e.val=eK.int x.2 t from c3);erw[x,tx,ty,J,e5,e6]
  .cases f
 refine C2.list_itemsT (I.ok.hd T) vw aI (by rw[aS];exact hz) λg aa c D hS ap am=>?_
 let tk:∀ w∈aa.n,∃(j:R)(t:eN)(x:G×G)(tx ty:Tok),aa.n[j]?=Z w/\w=.ref t/\ps[j]?=Z x/\s.H.M.J<t/\g.R t=Z {cls:=.type "tuple",data:=.seq #[.int x.1 tx,.int x.2 ty]}:=λw hw=>by
  let j hj:=Mg hw;let t e a1 a2 a3 a4:=ap.2 j w (by rw[← Mp];exact hj)
  let x tx ty b1 b2 b3:=a6 j e a2;rw[b2,b3]at a4;erw[j,t,x,tx,ty,hj,a1,b1,a3,a4]
 let al:aa.n.L=ps.L:=by rw[L4,ap.1,aT]
 let av:(aa.n.h adr).h eK.ref=aa.n:=by
  rw[MH];refine(MA (g:=id) λw hw=>?_).Q (List.map_id _);let _ t _ _ _ _ a2 _:=tk w hw;rw[a2];rfl
 let a7:(aa.n.h adr).l:=by
  rw[← av]at am;exact(NX.mp am).imp λh e=>h (by rw[e])
 let zk:((aa.n.h adr).zip ps).h (·.1)=aa.n.h adr:=List.map_fst_zip (by rw[Lp,al];exact Lo _)
 let C an:∃ C:Hp,C=λb=>if b=s.H.M.J then Z (.lst ((aa.n.h adr).h V.ref)) else match((aa.n.h adr).zip ps).Z b with|some e=>Z (.tup [.int e.1,.int e.2])|none=>H b:=⟨_,U⟩
 let ac:∀ b,b<s.H.M.J->C b=H b:=λb M=>by
  rw[an];show(if b=s.H.M.J then _ else _)=_;rw[Rx (LJ M)]
  cases z:((aa.n.h adr).zip ps).Z b with
  |none=>rfl
  |some e =>
   let m:=DD z;let w hw ew:=LW.mp (OF m).1;let _ t _ _ _ _ a2 _ a4 _:=tk w hw;subst a2;let:t=b:=ew;subst this;exact Ry M (Ox (LK a4))
 let aZ:∀(i:R)(e:G×G),ps[i]?=Z e->∃ t tx ty,aa.n[i]?=Z (.ref t)/\s.H.M.J<t/\C t=Z (.tup [.int e.1,.int e.2])/\g.R t=Z {cls:=.type "tuple",data:=.seq #[.int e.1 tx,.int e.2 ty]}:=λi e eg=>by
  let N:i<aa.n.L:=by rw[al];exact(Ll.mp eg).1
  let j t x tx ty a1 a2 a3 a4 a5:=tk _ (Nh N);let ej:i=j:=(List.getElem?_inj N am).mp ((Lj N).Q a1.Y);subst ej;rw[eg]at a3
  cases a3
  rw[a2]at a1;erw[t,tx,ty,a1,a4,3,a5];rw[an];show(if t=s.H.M.J then _ else _)=_;rw[Rx (Mz a4),GG (by rw[zk];exact a7) (x:=e) (Lm (i:=i) (by rw[PF];erw[by rw[Lx,a1];rfl,eg]))]
 let I2:mu C {s,g}:=by
  refine Inv.many (t':=s.v) I D ac λb u M hu=>?_;by_cases zb:b=s.H.M.J
  .subst zb;let A:C s.H.M.J=Z (.lst ((aa.n.h adr).h V.ref)):=by rw[an];exact Rw U
   rw[A]at hu
   cases hu
   erw[by rw[Lp,Lp,al,← kl];exact hz,aa.n,c,15]
   .let:∀ l:E eN,Vals (l.h V.ref) (l.h eK.ref):=λl=>by
     induction l with
     |nil=>exact .nil
     |cons a l ef=>exact .cons U ef
    let z:=this (aa.n.h adr);rw[av]at z;exact z
   .exact hS
  .let A:C b=(match((aa.n.h adr).zip ps).Z b with|some e=>Z (.tup [.int e.1,.int e.2])|none=>H b):=by rw[an];exact Rx zb
   rw[A]at hu
   cases z:((aa.n.h adr).zip ps).Z b with
   |none =>
    rw[z]at hu;let:=I.hok.lt (show H b=Z u from hu);exact Ry M (Nat.not_le_of_lt this)
   |some e =>
    rw[z]at hu
    cases hu
    let m:=DD z;let i N:=Mg m;let Y O:=PF.mp N;rw[Lx]at Y;let t tx ty b1 b2 b3 b4:=aZ i e O;rw[b1]at Y
    cases Y
    erw[(by decide:(2:R)<=P7),[.int e.1 tx,.int e.2 ty],.cons ⟨tx,U⟩ (.cons ⟨ty,U⟩ .nil),_,b4,38]
 erw[.ref s.H.M.J,C,I2,U,q s.H.M.J _ C (λb u e=>by rw[ac b (I.hok.lt e)];exact e) (I.hok.fresh (Lo _)) (by rw[an];exact Rw U) (by rw[Lp,Lp,al]) λi e eg=>?_]
 let t _ _ b1 _ b2 _:=aZ i e eg;erw[t,by rw[Lx,Lx,b1];rfl,b2]
end L2
namespace L2
open PySem PySem.Spec PyProof.Rows
structure DK(h h':fc):Prop where
 le:h.M.J<=h'.M.J
 d:∀(e:eN)(o':hb),e<h.M.J->h'.R e=Z o'->∃ o,h.R e=Z o/\o'.dict=o.dict
theorem DK.rfl'(h:fc):DK h h:=⟨Lo _,λ_ j _ q=>⟨j,q,U⟩⟩
theorem DK.trans{a b c:fc}(x:DK a b)(y:DK b c):DK a c:=⟨Mi x.le y.le,λe j eg q=>by
 let r ef d1:=y.d e j (L6 eg x.le) q;let o l I:=x.d e r eg ef
 erw[o,l,d1.Q I]⟩
def DK.upd{f:hb->hb}(J:(h.R a).isSome)(A:∀ o,(f o).dict=o.dict):DK h (h.update a f):=by
 erw[O7 (Ra ..).Y,λe j eg q=>?_];by_cases z:a=e
 .subst z;let o l:=Oo.mp J;let ef _:=fc.get?_some_iff.mp q;let p _:=fc.get?_some_iff.mp l;erw[o,l,3]
  cases h
  simp only[fc.update,io.getElem?_modify,if_true]at ef;simp only at p;rw[p]at ef
  cases ef
  exact A o
 .rw[QD _ _ z]at q;erw[j,q,U]
def DK.psh(h:fc)(o:hb):DK h (h.o o):=by
 erw[by rw[Qv];exact NC _,λe j eg q=>?_]
 rw[fc.get?_push_ne _ _ _ (LJ eg)]at q;erw[j,q,U]
def aP{α:Type}:Sem α->Prop
 |.pure _=>True
 |.raise _=>True
 |.unsupported _=>True
 |.finish _=>True
 |.rule _ k=>aP (k ())
 |.at _ k=>aP (k ())
 |.load _ _ k=>∀ o,aP (k o)
 |.update _ _ f k=>(∀ o,(f o).dict=o.dict)/\aP (k ())
 |.alloc _ k=>∀ a,aP (k a)
 |.loadIfAlive _ k=>∀ o,aP (k o)
 |.point _ k=>aP (k ())
 |.register _ _=>True
 |.fresh k=>∀ t,aP (k t)
 |.ask k=>∀ t,aP (k t)
 |.choose _ _ k=>∀ t,aP (k t)
 |.os _ _ k=>∀ t,aP (k t)
 |.call _ _ _ _ _=>False
 |.handled _ k=>∀ t,aP (k t)
 |.newGen _ k=>∀ t,aP (k t)
 |.genState _ k=>∀ t,aP (k t)
 |.resume _ _ _ _=>False
 |.yield _ _ _ _=>True
 |.stack k=>∀ t,aP (k t)
 |.fork _ _=>True
 |.thread k=>∀ t,aP (k t)
 |.await _ _ _ _ _=>True
def aP.bind{α j:Type}{m:Sem α}{f:α->Sem j}(C:aP m)(A:∀ a,aP (f a)):aP (m >>= f):=by
 show aP (m.bind f);induction m with
 |pure a=>exact A a
 |raise e=>exact True.intro
 |unsupported w=>exact True.intro
 |finish e=>exact True.intro
 |rule t k L=>exact L () C
 | «at» p k L=>exact L () C
 |load a p k L=>exact λo=>L o (C o)
 |update a p g k L=>exact⟨C.1,L () C.2⟩
 |alloc o k L=>exact λa=>L a (C a)
 |loadIfAlive a k L=>exact λo=>L o (C o)
 |point l k L=>exact L () C
 |register a k L=>exact True.intro
 |fresh k L=>exact λo=>L o (C o)
 |ask k L=>exact λo=>L o (C o)
 |choose s n k L=>exact λo=>L o (C o)
 |os q l k L=>exact λo=>L o (C o)
 |call c h g l k L=>exact C.elim
 |handled o k L=>exact λo=>L o (C o)
 |newGen c k L=>exact λo=>L o (C o)
 |genState g k L=>exact λo=>L o (C o)
 |resume g r l k L=>exact C.elim
 |yield v g l k L=>exact True.intro
 |stack k L=>exact λo=>L o (C o)
 |fork c k L=>exact True.intro
 |thread k L=>exact λo=>L o (C o)
 |await a t d l k L=>exact True.intro
def Hc{M:Model}{f:PySem.Ctx}(m:Sem α)(C:aP m)(Q:α->Pos->e9->Prop)(ef:eK->Pos->e9->Prop)(p:Pos)(s:e9)(h:Sem.wp M f m Q ef p s):
  Sem.wp M f m (λa I s'=>Q a I s'/\DK s.H s'.H) (λe I s'=>ef e I s'/\DK s.H s'.H) p s:=by
 let go:∀{m:Sem α}{p:Pos}{s s1:e9},DK s.H s1.H->Sem.wp M f m (λa I s'=>Q a I s'/\DK s1.H s'.H) (λe I s'=>ef e I s'/\DK s1.H s'.H) p s1->Sem.wp M f m (λa I s'=>Q a I s'/\DK s.H s'.H) (λe I s'=>ef e I s'/\DK s.H s'.H) p s1 :=
  λ{m p s s1} d z=>Sem.wp_mono M f m (λa I s' q=>⟨q.1,d.Q q.2⟩) (λa I s' q=>⟨q.1,d.Q q.2⟩) p s1 z
 induction m generalizing p s with
 |pure a=>rw[Sem.wp]at h ⊢;erw[h,DK.rfl' _]
 |raise e=>rw[Sem.wp]at h ⊢;erw[h,DK.rfl' _]
 |unsupported w=>rw[Sem.wp]at h;exact h.elim
 |finish e=>rw[Sem.wp]at h;exact h.elim
 |rule t k L=>rw[Sem.wp]at h ⊢;exact L () C p s h
 | «at» I k L=>rw[Sem.wp]at h ⊢;exact L () C I s h
 |load a pt k L=>rw[Sem.wp]at h ⊢;let o e h:=h;erw[o,e,L o (C o) p s h]
 |update a pt g k L=>rw[Sem.wp]at h ⊢;erw[h.1,go (DK.upd h.1 C.1) (L () C.2 p _ h.2)]
 |alloc o k L=>rw[Sem.wp]at h ⊢;exact go (DK.psh _ _) (L _ (C _) p _ h)
 |loadIfAlive a k L=>rw[Sem.wp]at h ⊢;exact L _ (C _) p s h
 |point l k L=>rw[Sem.wp]at h ⊢;exact L () C p s h
 |register a k L=>rw[Sem.wp]at h;exact h.elim
 |fresh k L=>rw[Sem.wp]at h ⊢;exact L _ (C _) p _ h
 |ask k L=>rw[Sem.wp]at h ⊢;exact L _ (C _) p s h
 |choose i n k L=>rw[Sem.wp]at h ⊢;erw[h.1,L _ (C _) p _ h.2]
 |os q l k L=>rw[Sem.wp]at h ⊢;exact L _ (C _) p _ h
 |call c b g l k L=>exact C.elim
 |handled o k L=>rw[Sem.wp]at h ⊢;exact L _ (C _) p s h
 |newGen c k L=>rw[Sem.wp]at h ⊢;exact L _ (C _) p _ h
 |genState g k L=>rw[Sem.wp]at h ⊢;let o e h:=h;erw[o,e,L _ (C _) p s h]
 |resume g r l k L=>exact C.elim
 |yield v g l k L=>rw[Sem.wp]at h;exact h.elim
 |stack k L=>rw[Sem.wp]at h ⊢;exact L _ (C _) p s h
 |fork c k L=>rw[Sem.wp]at h;exact h.elim
 |thread k L=>rw[Sem.wp]at h ⊢;exact L _ (C _) p s h
 |await a t d l k L=>rw[Sem.wp]at h;exact h.elim
theorem Fn{M:Model}{m:Sem α}(C:aP m){Q:α->e9->Prop}(h:wpAny M A m Q ef s):wpAny M A m (λa s'=>Q a s'/\DK s.H s'.H) (λe s'=>ef e s'/\DK s.H s'.H) s :=
 λf p b=>Hc m C _ _ p s (h f p b)
theorem bo(a:α):aP (pure a:Sem α):=True.intro
theorem wo(w:String):aP (PySem.unsupported w:Sem α):=True.intro
def c8{c:Prop}[Decidable c]{a b:Sem α}(o:aP a)(M:aP b):aP (if c then a else b):=by split<;>assumption
theorem nJ(a:eN):aP (load a):=λ_=>True.intro
theorem lC:aP stack:=λ_=>True.intro
def qT(v:eK):aP (fieldsOf v):=by
 unfold fieldsOf
 cases v with
 |ref a =>
  refine aP.bind (nJ a) λo=>?_
  cases o.data<;>exact True.intro
 |_=>exact True.intro
def iF(v:eK)(i:R):aP (field v i):=by
 unfold field;refine aP.bind (qT v) λn=>?_
 cases n[i]?<;>exact True.intro
def gs(v:eK)(i:R)(x:eK):aP (setField v i x):=by
 unfold setField
 cases v with
 |ref a =>
  show aP (updateField a i x);unfold updateField;refine aP.bind (nJ a) λo=>?_
  cases o.data with
  |fields n =>
   refine c8 ?_ (wo _);erw[λo=>?_,True.intro];unfold hb.mapFields;split<;>rfl
  |_=>exact True.intro
 |_=>exact True.intro
def qm(e:eK)(f:ii eN):aP (setFlight e f):=by
 unfold setFlight;refine aP.bind (iF e 1) λg=>?_;exact c8 (gs _ _ _) (bo _)
theorem qp:∀ l:E gi,aP (readyFrames l)
 |[]=>True.intro
 |j::I=>by
  unfold readyFrames
  cases j.frame with
  |none=>exact True.intro
  |some f =>
   refine aP.bind (nJ f) λo=>?_;refine c8 (bo _) ?_;refine aP.bind ?_ λi=>aP.bind ?_ λb=>aP.bind ⟨λo=>rfl,True.intro⟩ λ_=>qp I
   .unfold behindIsImport;refine c8 (bo _) (c8 (bo _) (aP.bind (iF _ _) λ_=>bo _))
   .unfold keptBack
    cases I with
    |nil=>exact c8 (bo _) (aP.bind (by unfold underTheClaimsCaller;exact aP.bind lC λ_=>bo _) λ_=>bo _)
    |cons c r=>exact bo _
def uz(env:gi):aP (PU env):=by
 unfold PU frameObject frameEnvs;refine aP.bind (aP.bind lC λ_=>bo _) λl=>aP.bind ?_ λo=>?_
 .cases (l.dropWhile λx=>x.frame != env.frame) with
  |nil=>exact bo _
  |cons e r=>exact aP.bind (qp _) λ_=>bo _
 .cases o<;>exact True.intro
def yZ(f:eN)(b:im):aP (entryPlaceOf f b):=by
 unfold entryPlaceOf;refine aP.bind lC λa=>?_;split<;>exact True.intro
def qq(e:eK)(env:gi):aP (noteFrame e env):=by
 unfold noteFrame
 cases env.frame with
 |none=>exact True.intro
 |some f =>
  refine aP.bind (iF _ _) λg=>?_
  let Y:aP (do
    let a ← PU env
    let D ← entryPlaceOf f (g != .none)
    let b ← EntryCells.newEntry g a .none (rawInt f) .none D
    setField e 1 b):=by
   refine aP.bind (uz env) λa=>aP.bind (yZ _ _) λD=>aP.bind ?_ λb=>gs _ _ _;unfold EntryCells.newEntry newFields newObj;dsimp only;let c:∀ d:Data,aP (newObjAsIs (.type "traceback") d):=λd=>aP.bind (λ_=>True.intro) λ_=>bo _;exact c8 (aP.bind (wo _) λ_=>c _) (c _)
  refine c8 (aP.bind (iF _ _) λz=>c8 (bo _) (aP.bind (gs _ _ _) λ_=>Y)) Y
theorem uy(env:gi)(e:eK):aP (leaving env e):=aP.bind (qq e env) λ_=>qm e kf
def Xd(h:fc)(x:eN)(d:ii eN):Prop:=∃ m,h.R x=Z m/\m.dict=d
def Xd.dk{x:eN}{d:ii eN}(z:Xd h x d)(k:DK h h')(ex:∃ o,h'.R x=Z o):Xd h' x d:=by
 let m e hd:=z;let j N:=ex;let o A t:=k.d x j (P8 e) N;rw[e]at A
 cases A
 erw[j,N,t.Q hd]
def Trc.there{x T:eN}{C:eK}(t:Trc h x C T):∃ o,h.R x=Z o:=by
 let m _ _ _ _ eg _:=t;erw[m,eg]
def CXd(P:fI)(w:hx):CXT:=λo H s ef e k=>∃(x:eN)(C:eK)(T:eN)(eg:Hp)(d:ii eN),e=.ref x/\k.os=s.os/\AllBare k.gens/\Un (frs o) [] H eg s.H k.H/\HOk P w eg k.H /\
 s.H.R x=kf/\s.H.R T=kf/\eg x=kf/\eg T=kf/\Trc k.H x C T/\Xd k.H x d/\ef C d eg
abbrev WKD:=eK->ii eN->St->Hp->Prop
def WshD(X:Cx)(W:WKD):Prop:=∀(B:E (eN×hb))(L:St)(H:Hp)(s:e9)(x:eN)(C:eK)(d:ii eN),mu H s->XA X B H s x C->Xd s.H x d->W C d L H->X.xe (.ref x) s
theorem rN{N:E ff}{j:ff}{s₀:e9}{H₀:Hp}{ef:XK}:
  WshD (cxOf (CXd P w) P w K mg base N j scope f u A outer s₀ H₀ ef) (λC d _ H=>ef C d H):=λB L H s x C d I xa z c=>by
 show wpAny (model P w) (A.deeper (envOfC j scope s₀.H.M.J f u)) (leaving (envOfC j scope s₀.H.M.J f u) (.ref x)) _ _ s;refine Qe (Fn (uy _ _) (Inv.leave (Q:=λ_ k=>∃ eg T,k={s,eg}/\Inv (cxOf (CXd P w) P w K mg base N j scope f u A outer s₀ H₀ ef) B L H {s,eg}/\XOk (cxOf (CXd P w) P w K mg base N j scope f u A outer s₀ H₀ ef) B H x/\XOk (cxOf (CXd P w) P w K mg base N j scope f u A outer s₀ H₀ ef) B H T/\Trc eg x C T) (ef:=λ_ _=>False) I U U U xa λeg T y M t p=>⟨eg,T,U,y,M,t,p⟩)) ?_ (λ_ _ q=>q.1.elim);rintro _ k ⟨⟨eg,T,rfl,y,M,t,p⟩,dk⟩;erw[x,C,T,H,d,U,y.os,y.bare,y.base,y.hok,M.old,t.old,M.trk,t.trk,p,z.dk dk p.there,c]
structure CalD(P:fI)(w:hx)(K:Ln)(mg:ff->ii eK)(base:fc)(k:R)(x:ff)(ps:E ff)(sp:Sp)(f:eN)(fd:fk):Prop where
 ok:FnOk P w K mg base (CXd P w) k f fd ps sp
 bn:dY K fd ps []
 mg:mg x=Z (.ref f)
 kp:L9 K (.ref f)=i0
def Fun.okD{j:ff}{st:fo}{N:E ff}{k:R}(F:Fun K x j st f fd)(S:aw N ps (aq st))(len:∀ vs H Q ef,sp vs H Q ef->vs.L=ps.L)(i:∀(g:eK)(A:Around)(outer:E gi)(s:e9)(H:Hp)(vs:E V)(Q:VK)(ef:XK),Room k (A.deeper (envOfC j (aq st) s.H.M.J f g))->sp vs H Q ef ->
   let X:=(cxOf (CXd P w) P w K mg base N j (aq st) f g A outer s H ef);let D:Ends:={nx:=λ_ H'=>Q .non H',rt:=Q};∃ t,PSs X (bq st) t/\t D (n8 N vs) H):FnOk P w K mg base (CXd P w) (k+1) f fd ps sp:=by
 let l m kV B T p g a b rfl v z:=F.ex;exact Ed v z S len λA outer s H vs Q ef eg I=>i g A outer s H vs Q ef eg I
section
variable{X:Cx}{k:R}{f C:eN}{fd:fk}{ps:E ff}{sp:Sp}{dvs:E V}{ds:E eK}{W:WKD}{x m:ff}{p pos apos:Pos}{e o:fm}{es:E fm}{ta:TE}{t:TA}
def WshD.of{v:eK}(ws:WshD X W)(J:X.ex=[])(I:Inv X O L H s)(h:CXd X.e X.w X.stack H s (λC d H'=>W C d L H') v s'):X.xe v s':=by
 let x C T H' d rfl os a un ef f c g e p z q:=h;let y:Inv X O L H' s':=I.call' os un ef a λb z=>Ry z (by simp)
 exact ws O L H' s' x C d y ⟨I.xok J f g,.inr ⟨T,I.xok J c e,p⟩⟩ z q
def JF{Q:VK}{vs:E V}(F:FnOk X.e X.w X.K X.mg X.base (CXd X.e X.w) k f fd ps sp)(N:Room k X.A)(M:dY X.K fd ps ds)(hd:Vals dvs ds)(ws:WshD X W)(J:X.ex=[])(I:Inv X O L H s)(r:Vals vs us)(h:sp (vs++dvs) H Q (λC d H'=>W C d L H')):li (call (.ref f) us) (EP X O L Q) X.xe s:=by
 let T:Vals (vs++dvs) (us++ds):=r.append hd;let v:(us++ds).L=ps.L:=by rw[← T.L];exact F.len _ _ _ _ h
 refine wpAny_call (Qy (F.run X.A X.stack s H ⟨us,[]⟩ (us++ds) (vs++dvs) Q _ N I.env0 (M s us I.kIn v) T h) λr q Y=>?_)
 cases r with
 |error e=>exact ws.of J I Y
 |ok D =>
  cases D with
  |ret u=>exact I.after Y
  |next=>exact False.elim Y
  |brk=>exact False.elim Y
  |cont=>exact False.elim Y
def HL(sp:Sp)(dvs:E V)(W:WKD)(t:TA):TE:=λL H Q=>t L H λn l=>sp (n++dvs) l Q λC d eg=>W C d L eg
def An(F:FnOk X.e X.w X.K X.mg X.base (CXd X.e X.w) k f fd ps sp)(N:Room k X.A)(O:Gl X x)(C:X.mg x=Z (.ref f))(g:L9 X.K (.ref f)=i0)(M:dY X.K fd ps ds)(hd:Vals dvs ds)(ws:WshD X W)(J:X.ex=[])(o:PA X (e::es) t)(v:uP_ ((x == ("__debug__" : ff))=j5) uD_)(eg:uP_ (Qd (e::es) X.i=(j5,eval e X.i)::Qd es X.i) uR_)(u:uP_ ((backTo pos (Qd es X.i)).any (·.1)=j5) uR_):
  PE X (.Call (.Name x p) (e::es) [] pos) (HL sp dvs W t):=by
 intro B s L H Q I h;refine Qz (lx I O C ?_ v);refine NP (h₀:=X.base) I.ok.mod.kin g (thn (o pos B s L H _ I h) λj m ⟨n,l,i,r,q⟩=>⟨i.kIn,?_⟩) eg u;exact JF F N M hd ws J i r q
end
def Jr(C:eN)(W:WKD)(t:TA):TS:=λ_ L H=>t L H λn l=>n.L<=P7/\W (.ref C) kf L l
def vo{es:E fm}{t:TA}{W:WKD}{ef M:Pos}(i:ExC X.K C)(a:X.mg x=Z (.ref C))(O:Gl X x)(ws:WshD X W)(J:X.ex=[])(d:X.calm=i0)(o:PA X (e::es) t)(eg:uP_ (Qd (e::es) X.i=(j5,eval e X.i)::Qd es X.i) uR_)(u:uP_ ((backTo M (Qd es X.i)).any (·.1)=j5) uR_)(v:uP_ ((x == ("__debug__" : ff))=j5) uD_):
  PS X (.Raise (Z (.Call (.Name x ef) (e::es) [] M)) kf pos) (Jr C W t):=by
 intro B s L H D I h;let tl N nm A bs hdct sn sub ab col dd k0 k1 k2 k3 k5 mN hC c aa T _:=Eo i I.ok.mod.kin;let ac:(backTo M (Qd (e::es) X.i)).any (·.1)=j5:=by
  rw[eg];show(j5||(backTo M (Qd es X.i)).any (·.1))=j5
  rw[u];rfl
 refine wpAny_Raise_call_subT (C:=C) (nm:=nm) (q:=A) (N:=N) (bs:=bs) (bm:=tl) (hdct:=hdct) (sn:=sn) (sub:=sub) (ab:=ab) (col:=col) (dd:=dd) (k0:=k0) (k1:=k1) (k2:=k2) (k3:=k3) (k5:=k5) Pt (mN:=mN) (T.hasType Pt.hasBase) (I.ok.hd d) ac aa (lx I O a ⟨U,?_⟩ v);let z:=o M B s L H _ I h;rw[eg]at z ⊢;refine Calls.evalArgs_plain (Qe z (λj k zz=>?_) λ_ _ y=>y);let n l m r b q:=zz;erw[U,by rw[← r.L];exact b,m.bk _ _ hC,c.keeps m.bk,T.keeps m.bk,λp Y Q=>?_]
 let g f _ _:=Q.there;let w:mu l {k,p}:=m.kept (t':=k.v) Q.keeps;exact ws B L l _ Y (.ref C) kf w ⟨m.xok J Q.new (m.hok.none_of Q.new),.inl ⟨_,_,_,f,U,U,U,U⟩⟩ ⟨_,f,U⟩ q
def WshTD(X:Cx)(W:WKD):Prop:=∀(B:E (eN×hb))(L:St)(H:Hp)(s:e9)(x T:eN)(C:eK)(d:ii eN),mu H s->XOk X B H x->XOk X B H T->Trc s.H x C T->Xd s.H x d->W C d L H->X.xe (.ref x) s
section
variable{X:Cx}{k:R}{f:eN}{fd:fk}{ps:E ff}{sp:Sp}{dvs:E V}{ds:E eK}{W:WKD}{x:ff}{p pos:Pos}{e:fm}{es:E fm}{t:TA}
def CY(F:FnOk X.e X.w X.K X.mg X.base (CXd X.e X.w) k f fd ps sp)(N:Room k X.A)(O:Gl X x)(D:X.mg x=Z (.ref f))(g:L9 X.K (.ref f)=i0)(M:dY X.K fd ps ds)(hd:Vals dvs ds)(ws:WshTD X W)(J:X.ex=[])(o:PA X (e::es) t)(aa:uP_ ((x == ("__debug__" : ff))=j5) uD_)(eg:uP_ (Qd (e::es) X.i=(j5,eval e X.i)::Qd es X.i) uR_)(ef:uP_ ((backTo pos (Qd es X.i)).any (·.1)=j5) uR_):
  PE X (.Call (.Name x p) (e::es) [] pos) (HL sp dvs W t):=by
 intro B s L H Q I h;refine Qz (lx I O D ?_ aa);refine NP (h₀:=X.base) I.ok.mod.kin g (thn (o pos B s L H _ I h) λj m ⟨n,l,i,r,q⟩=>⟨i.kIn,?_⟩) eg ef;let y:Vals (n++dvs) (j++ds):=r.append hd;let v:(j++ds).L=ps.L:=by rw[← y.L];exact F.len _ _ _ _ q
 refine wpAny_call (Qy (F.run X.A X.stack m l ⟨j,[]⟩ (j++ds) (n++dvs) Q _ N i.env0 (M m j i.kIn v) y q) λr c Y=>?_)
 cases r with
 |error e =>
  let x C T a d rfl os ac un ab nx nT tx tT tr z q':=Y;let I':mu a c:=i.call' os un ab ac λb z=>Ry z (by simp)
  exact ws B L a c x T C d I' (i.xok J nx tx) (i.xok J nT tT) tr z q'
 |ok fl =>
  cases fl with
  |ret u=>exact i.after Y
  |next=>exact False.elim Y
  |brk=>exact False.elim Y
  |cont=>exact False.elim Y
end
section
variable{M:Model}{A:Around}{ef:eK->e9->Prop}{h:fc}{g:io GenState}{d:Drawn}{t:R}{os:OsState}
def KZ{D:eN}{p q:ff}{r j:E eK}{c:im}{s:E ff}{n:E eK}{u:im}{o:ii im}{m:ii eN}{w k l y B:ii eK}{z:String}{x:eN}{Q:im->e9->Prop}(L:h.R D=Z (excClassObj p q D a r j c s n u o m w k l y B z))(e:h.R x=Z ob)(b:ob.cls=.ref C)(f:(eK.ref D::j).contains (.type "BaseException")=i0)(v:PySem.W.Looks M h (isSubtype (.ref C) (.ref D)) i0)(Y:Q i0 ⟨h,g,d,t,os⟩):wpAny M A (excMatches (.ref x) (.ref D)) Q ef ⟨h,g,d,t,os⟩:=by
 let i:=tc_notTuple;unfold excMatches;repeat (first|(with_reducible refine wpAny_loadPart_at e ?_;rw[b])|with_reducible refine wpAny_loadPart_at L ?_|(with_reducible refine wpAny_isSubtype_exc L ?_;rw[f])|with_reducible refine v.at ?_|wp_step)
 exact Y
end
section
variable{X:Cx}{pins:E (eN×hb)}{σ:St}{H H':Hp}{s s':e9}{b:eN}
end
section
variable{M:Model}{A:Around}{ef:eK->e9->Prop}{s:e9}
end
section
variable{X:Cx}{pins:E (eN×hb)}{σ:St}{H:Hp}{s:e9}{x T:eN}{C:eK}{ef:eK->e9->Prop}
theorem HF{x T:eN}(k:XOk X pins H x)(t:XOk X pins H T):∀ b∈[x,T],XOk X pins H b:=λb M=>by
 obtain e|M:=Lw.mp M
 .rw[e];exact k
 .let e:b=T:=by simpa using M
  rw[e];exact t
end
section
variable{X:Cx}{k:R}{f:eN}{fd:fk}{ps:E ff}{sp:Sp}{dvs:E V}{ds:E eK}{W:WKD}{x:ff}{p pos:Pos}{e:fm}{es:E fm}{t:TA}
end
section
variable{X:Cx}{pins:E (eN×hb)}{σ:St}{H:Hp}{s:e9}{x T L:eN}{C:eK}{d:ii eN}{ad:eK->e9->Prop}{fenv cenv:gi}{outer:E gi}
end
section
variable{X:Cx}{scope:hr}{fr:E (ff×R)}{xs:E ff}{elt iter tg:fm}{ifs:E fm}{pos:Pos}{tt:TT}{tgt:TG}{wi:TI}
end
def tTryN(Cs:eN->Prop)(tb:WKD->TS)(ts:TS):TS:=λd L H=>tb (λC _ g l=>∃ c,C=.ref c/\Cs c/\ts {nx:=λh O=>d.nx h O,rt:=d.rt} g l) d L H
def JM{ac:E fo}{b0:fo}{aS:E fo}{dn:ff}{np a3:Pos}{D:eN}{Cs:eN->Prop}{tb:WKD->TS}{ts:TS}(j:X.ex=[])(ab:X.stack=X.i::X.outer)(an:X.i.frame=Z X.i.locals)(bn:Gl X dn)(bv:X.mg dn=Z (.ref D))(eD:ExC X.K D)(a7:∀ c,Cs c->N6 X.K c (.ref D)=Z i0)(M:∀ B XE W,WshTD (X.tried B XE) W->PSs (X.tried B XE) ac (tb W))(hs:∀ v,PSs (X.marked v) (b0::aS) ts)(al:uP_ ((dn == ("__debug__" : ff))=j5) uD_):
  PS X (.Try ac [.ExceptHandler (Z (.Name dn np)) kf (b0::aS) a3] [] [] pos) (tTryN Cs tb ts):=by
 intro B s L H Ds I h;refine wpAny_Try_except ?_;refine Qe (M B (λe aa=>li (noteFrame e X.i) (λ_ ap=>li (setFlight e kf) (λ_ am=>li (handleBy e X.i [.ExceptHandler (Z (.Name dn np)) kf (b0::aS) a3]) (SP X B Ds) X.xe am) X.xe ap) X.xe aa) _ ?_ [] s L H Ds I.tried h) (λf s1 q=>?_) λ_ _ z=>z
 .intro bz av p s1 x T C d i xx xT tr zd y;let c rfl l bB:=y;let m:Inv X B av p s1:=i.untried;let k:XOk X B p x:=xx.untried;let T2:XOk X B p T:=xT.untried;let a2:X.A.frames=Z (X.i::X.outer):=by rw[← ab];exact m.ok.frames
  let ba:∀{h:fc}{T:eN},Inv X B av p {s1,h}->Trc h x (.ref c) T->∃ a0,fc.FlyingW (hidX X h [x,T]) (X.i::X.outer) x (.ref c) a0 h:=λ{h T} J tr=>by
   let oe n a0 oT ts eg aI o hd Y aZ r aT t:=tr;erw[a0,D2 _ _,mH (by simp),ab▸J.hidF [x,T],⟨oe,n,T,oT,ts,eg,⟨aI,o⟩,hd,Y,mH (by simp),aZ,r,aT,t⟩]
  let a0 fl:=ba (h:=s1.H) m tr;refine Qe (wpAny_looks_onW (Q:=λ_ O=>∃ h4,O={s1,h4}/\fc.HeldW (hidX X s1.H [x,T]) (X.i::X.outer) x (.ref c) a0 X.i.locals h4/\s1.H.UpToSlots h4) (E:=λ_ _=>False) a2 an fl λh4 a b=>⟨h4,U,a,b⟩) ?_ (λ_ _ q=>q.elim);rintro _ N ⟨h4,rfl,a8,bJ⟩;refine Qe (wpAny_landsW (Q:=λ_ O=>∃ h5,O={s1,h5}/\fc.FlyingW (hidX X s1.H [x,T]) (X.i::X.outer) x (.ref c) a0 h5/\h4.UpToSlots h5) (E:=λ_ _=>False) a8 λh5 a b=>⟨h5,U,a,b⟩) ?_ (λ_ _ q=>q.elim);rintro _ g ⟨h5,rfl,bb,a1⟩;let I5 T5 bK be:=m.left j (HF k T2) bb.1 bb.2.2.2 (bJ.Q a1);refine wpAny_handleBy_cons (codeAny_handlers_test (Calls.Name_function_global I5.ok.kind bn (Calls.loadGlobal_global (by rw[I5.ok.glob];exact I5.mod.glob.keeps I5.bk) bv ?_) al)) (by intro q;cases q)
  let _ _ _ _ _ _ _ _ _ _ _ _ _ _ _ _ _ hD _ _ TD _:=Eo eD I5.kIn;let a6:=TD.hasType (X:="BaseException") (b:=i0) U;let ob _ _ _ _ a4 aI _:=id be;refine KZ hD a4 aI (by rw[List.contains_cons,a6,im.or_true]) (PySem.W.looks_mroIn I5.kIn (a7 c l)) ?_
  refine codeAny_handlers_suite ?_;let a5 bi:=ba I5 be;refine Qe (lands_againW (Q:=λ_ O=>∃ h6,O={s1,h6}/\fc.FlyingW (hidX X h5 [x,T5]) (X.i::X.outer) x (.ref c) a5 h6/\h5.UpToSlots h6) (E:=λ_ _=>False) (s:={s1,h5}) bi λh6 a b=>⟨h6,U,a,b⟩) ?_ (λ_ _ q=>q.elim);rintro _ s6 ⟨h6,rfl,bm,bP⟩;let I6 T6 bR bT:=I5.left j (HF k bK) bm.1 bm.2.2.2 bP;refine Qe (hs (.ref x) B _ _ _ _ (I6.marked _) bB) (λf s9 q9=>?_) λ_ _ z=>z.elim
  cases f with
  |next =>
   let a9 H9 I9 q9:=q9;erw[a9,H9,Inv.unmarked (hd:=m.ok.hd) (fr:=m.ok.frames) I9,q9]
  |brk=>obtain⟨_,_,_,z⟩:=q9;exact z.elim
  |cont=>obtain⟨_,_,_,z⟩:=q9;exact z.elim
  |ret u =>
   let v9 a9 H9 I9 r9 q9:=q9;erw[v9,a9,H9,Inv.unmarked (hd:=m.ok.hd) (fr:=m.ok.frames) I9,r9,q9]
 .let q':=SP.untried q
  cases f with
  |next=>exact wpAny_execs_nil q'
  |brk=>exact q'
  |cont=>exact q'
  |ret u=>exact q'
def Itw(o:hb)(kvs:E (Key×V))(d:eN):It :=
 ⟨λi H=>H d=Z (.frz o (.dK kvs))/\i<kvs.L,λi H v eg=>∃ k,kvs[i]?=Z (k,v)/\eg=H,λi H=>H d=Z (.frz o (.dK kvs))/\kvs.L<=i⟩
theorem xD{tg:fm}(o:hb)(kvs:E (Key×V))(d it:eN)(es:io DictEntry)(ep:R)(eg:o.data=.dict es ep):Turn P w K tg (Itw o kvs d) [it] it (λi h=>h.IsValIter it d i kvs.L ep) where
 mem:=by simp
 obj:=λi h st b M=>by
  let e:b=it:=by simpa using M
  subst e;let o e c d:=st;erw[o,e,λv z=>by simp!]
 keep:=λi h t st k=>by
  let o e r:=st;erw[o,k it (by simp) o e,r]
 item:=by
  intro X u x hK T i B s L H ef I A st O;subst u x hK;let hd N:=O;let lo n rk D:=rD (I.hok d _ hd) eg;let C:kvs.L=n.L:=Paired.length rk;let f0 g a f3 j f5:=A it (by simp)
  let{k v}l:∃ q,n[i]?=Z q:=⟨_,Lj ∅⟩
  let{k' y}m ek J:=my rk l;refine wpAny_pyNext_values_item (C▸st) D l λt aa sb=>?_;let f:mu H {s,t}:=I.turned (t':=s.v) (λb o M e=>(sb.2 b M).Q e) f0 g f3 j f5;let o2 e c dd:=id aa;erw[v,U,D8 (s:={s,t}) e c dd ∅ ⟨y,H,f,J,⟨k',m,U⟩,C.Y▸aa,λb M=>(A b M).1⟩]
 done:=by
  intro X u x hK T i B s L H ef I A st O;subst u x hK;let hd N:=O;let lo n rk D:=rD (I.hok d _ hd) eg;let C:kvs.L=n.L:=Paired.length rk;let f0 g a f3 j f5:=A it (by simp)
  exact wpAny_pyNext_values_end (I.ok.hd T) (C▸st) D (Mv ∅) λt p=>⟨U,I.turned (t':=s.v) (λb o M e=>p b o M e) f0 g f3 j f5⟩
 self:=λ_ _ s Q _ st h=>by
  let Y:s.TypeIs (.ref it) "dict_valueiterator":=st.typeIs;refine wpAny_pyIter_slot Y F.slot_dict_valueiterator_iter (QO F.slot_dict_valueiterator_iter Y entry_dict_valueiterator_iter ?_ (F.args_dict_valueiterator_iter_1 _));show wpAny _ _ (ret (.ref it)) _ _ s;exact Ql ⟨_,U,"dict_valueiterator",_,Y,F.slot_dict_valueiterator_next.Z,h⟩
def kH(v d:eN):HO:=.ext λh=>h.IsValuesView v d
def Du:MtR X "dict.values" (λx xs H Q=>∃ d kvs,x=.ref d/\xs=[]/\H d=Z (.dK kvs)/\∀ v,H v=kf->Q (.ref v) (upd H v (kH v d))):=by
 intro B s L H x xs v j Q I T rv h;let d kvs rfl rfl hd q:=h
 cases T
 let a:=rv.zero;subst a;let _ lo n _ C:=wq I.hok hd;refine call_meetsIn PM C.typeIs PySem.F.entry_dict_values (PySem.F.args_dict_values_1 _) (meets_dict_values (bx X.e X.w) d lo) ⟨⟨n,C⟩,?_⟩;let l:(s.H.o {cls:=.type "dict_values",data:=.fields #[.ref d]}).IsValuesView s.H.M.J d:=⟨_,Qn _ U,U,U⟩;erw[.ref s.H.M.J,_,I.laid (t':=s.v) (λb o e=>Qm _ e) (Lo _) ?_,U,q _ (I.hok.fresh (Lo _))];erw[l,⟨_,Qn _ U⟩,λY O x k=>let ⟨o,D,r⟩:=x;⟨o,k _ D,r⟩]
def KI(p:TE):TI:=λL H ad=>p L H λx l=>∃ A d N,x=.ref A/\l A=Z (kH A d)/\l d=Z (.dK N)/\∀ o,ad (Itw o N d) (upd l d (.frz o (.dK N)))
def CQ{tg:fm}(eg:PE X e Y):PI X tg e (KI Y):=by
 intro B s L H ad I h;refine thn (eg B s L H _ I h) λv m c=>?_;let x l i g ef:=c;let A d N rfl j hd q:=ef
 cases g
 let Q _ _:=(show bu X.e X.w l m.H A (kH A d) from i.hok A _ j);let _ J f D sz _:=mQ (u:=.dK N) True.intro (i.hok d _ hd);let o ef p t:=id D;let z:=i.freeze hd True.intro ef;let lo n a y:=rD (z.hok d _ af) t;let C:N.L=n.L:=Paired.length a;refine wpAny_pyIter_values Q y ?_;erw[m.H.M.J,[m.H.M.J],5,upd l d (.frz o (.dK N)),U,z.kept (t':=m.v) λb u e=>Qm _ e,xD o N d _ J f t,⟨_,Qn _ U,U,by rw[C];rfl⟩,λb M=>?_,q o]
 rw[LB.mp M];exact z.fpOk (Lo _) (z.hok.fresh (Lo _))
def qY(T:X.calm=i0):iJ X (.type "list") (λxs H Q=>∃ d kvs,xs=[.ref d]/\H d=Z (.dK kvs)/\∀ p,H p=kf->Q (.ref p) (upd H p (.lst (kvs.h λq=>kV q.1)))):=by
 intro B s L H xs x Q I r h;let d kvs rfl hd q:=h;let u rfl a:=kJ r
 cases a
 let b lo n M D:=wq I.hok hd;let ep y:=D.dictAt;let C:kvs.L=n.L:=Paired.length M;refine PySem.W.kdl_call (PySem.W.kdl_dict (knd:=bx X.e X.w) (kvs:=n) (ep:=ep) lo) (I.ok.hd T) y (by rw[← C];exact b) λeg l c k g e f=>?_
 let i:Vals (kvs.h λq=>kV q.1) c.n:=vM (P:=X.e) (w:=X.w) M (by rw[L4];exact f.1) λj v O=>let ⟨_,_,p,q⟩:=f.2 j v (by rw[← Mp];exact O);⟨_,_,p,q⟩
 erw[.ref s.H.M.J,_,I.laid (t':=l) g (Lo _) ?_,U,q _ (I.hok.fresh (Lo _))];erw[by rw[Lp];exact b,c.n,k,i,by rw[io.toArray_toList];exact e]
def Bj{d:eN}{g:TG}(Pv:R->St->Hp->Prop)(A:Pv 0 L H)(hl:∀ i L H,i<=kvs.L->Pv i L H->H d=Z (.frz o (.dK kvs)))(hs:∀ i k y L H,kvs[i]?=Z (k,y)->Pv i L H->g y L H λh H2=>tb (D.lop (Pv (i+1))) h H2)(hd:∀ L H,Pv kvs.L L H->D.nx L H):
  ∃ W:R->R->St->Hp->Prop,(∃ m,W 0 m L H)/\∀ i m L H,W i m L H ->
   ((Itw o kvs d).stop i H/\D.nx L H)∨((Itw o kvs d).go i H/\∃ N:St->Hp->Prop,(∀ σ' H',N σ' H'->∃ u,u<m/\W (i+1) u σ' H')/\∀ x H',(Itw o kvs d).yld i H x H'->g x L H' λh H2=>tb (D.lop (N)) h H2):=by
 erw[λi m L H=>m=kvs.L-i/\i<=kvs.L/\Pv i L H,⟨kvs.L,by simp,LU _,A⟩,3]
 rintro i m L H ⟨rfl,B,p⟩;let q:=hl i L H B p;by_cases j:i<kvs.L
 .refine .inr ⟨⟨q,j⟩,Pv (i+1),λσ' H' I=>⟨kvs.L-(i+1),∅,U,j,I⟩,λv H' y=>?_⟩
  let k Q rfl:=y;exact hs i k v L _ Q p
 .let e:i=kvs.L:=by lia
  subst e;exact .inl ⟨⟨q,Lo _⟩,hd L H p⟩
def DRd(H:Hp)(d:eN)(u:HO):Prop:=vS u/\(H d=Z u∨∃ o,H d=Z (.frz o u))
def DRd.ok{d:eN}{u:HO}(x:DRd H d u)(k:HOk P w H h):bu P w H h d u:=by
 obtain⟨_,x|⟨o,x⟩⟩:=x
 .exact k d _ x
 .exact(k d _ x).2
def Dv:MtR X "dict.items" (λx xs H Q=>∃ d u,x=.ref d/\xs=[]/\DRd H d u/\∀ v,H v=kf->Q (.ref v) (upd H v (iQ v d))):=by
 intro B s L H x xs v j Q I T rv h;let d u rfl rfl hd q:=h
 cases T
 let a:=rv.zero;subst a;let lo y f C _:=mQ hd.1 (hd.ok I.hok);refine call_meetsIn NQ C.ty PN (PD _) (AH lo) ⟨⟨y,f,C⟩,?_⟩;let l:(s.H.o {cls:=.type "dict_items",data:=.fields #[.ref d]}).IsItemsView s.H.M.J d:=⟨_,Qn _ U,U,U⟩;erw[.ref s.H.M.J,_,I.laid (t':=s.v) (λb o e=>Qm _ e) (Lo _) ?_,U,q _ (I.hok.fresh (Lo _))];erw[l,⟨_,Qn _ U⟩,λY O x k=>let ⟨o,D,r⟩:=x;⟨o,k _ D,r⟩]
def KJ(p:TE):TI:=λL H ad=>p L H λx l=>∃ A d u,x=.ref A/\l A=Z (iQ A d)/\DRd l d u/\∀ o,(∀ j,l d=Z (.frz j u)->j=o)->ad (Itd o u d) (upd l d (.frz o u))
def CS{es:E fm}{k:R}(eg:PE X e Y):PI X (.Tuple es k tp) e (KJ Y):=by
 intro B s L H ad I h;refine thn (eg B s L H _ I h) λv s1 c=>?_;let x H1 i g ef:=c;let A d u rfl l hd q:=ef
 cases g
 let Q _ _:=(show bu X.e X.w H1 s1.H A (iQ A d) from i.hok A _ l);let _ J a C sz _:=mQ hd.1 (hd.ok i.hok);let o ef p r:=id C;refine AI Q C ?_;let m:mu (upd H1 d (.frz o u)) s1:=by
  obtain⟨t,hd|⟨j,hd⟩⟩:=hd
  .exact i.freeze hd t ef
  .let f:=(show bu X.e X.w H1 s1.H d (.frz j u) from i.hok d _ hd).1
   rw[ef]at f
   cases f
   let:upd H1 d (.frz o u)=H1:=by
    funext b;by_cases z:b=d
    .rw[z,af,hd]
    .rw[ao z]
   rw[this];exact i
 let n:∀ j,H1 d=Z (.frz j u)->j=o:=λj O=>by
  let f:=(show bu X.e X.w H1 s1.H d (.frz j u) from i.hok d _ O).1;rw[ef]at f;exact(L3 f).Y
 let ne:d≠s1.H.M.J:=LJ (P8 ef);erw[s1.H.M.J,[s1.H.M.J],5,upd H1 d (.frz o u),U,m.kept (t':=s1.v) λb u e=>Qm _ e,AZ o u d _ hd.1 J a p r,⟨_,_,Qn _ U⟩,λb M=>?_,q o n];rw[LB.mp M];exact m.fpOk (Lo _) (m.hok.fresh (Lo _))
def Jt(b:TE):TE:=λL H Q=>b L H λx l=>∃ d u,x=.ref d/\DRd l d u/\∀ v,l v=kf->Q (.ref v) (upd l v (iQ v d))
def CV{o:fm}{c M:Pos}(D:PE X o Y)(eg:uP_ (attributeBase o "items" X.i (eval o X.i)=eval o X.i) uR_)(N:uP_ ((c.endLine == M.line)=i0) uR_):PE X (.Call (.Attribute o "items" c) [] [] M) (Jt Y):=by
 intro B s L H Q I h;refine wpAny_Call_method0_late eg N (thn (D B s L H _ I h) λv m ⟨x,l,i,g,d,u,b,hd,q⟩=>?_);subst b;obtain rfl:v=eK.ref d:=g;let _ y ef{C f A w}_:=mQ hd.1 (hd.ok i.hok);erw["dict","dict.items",Nr,NQ,PV,⟨C,f,A.1⟩,λa z=>by cases z;erw[C,f,A.2.1],QE U (PySem.evalArgs_none (Dv B m L l (.ref d) [] (.ref d) [] Q i U .nil ⟨d,u,U,U,hd,q⟩))]
def Itq(K:Ln)(a:eN)(n:R):It :=
 ⟨λi H=>i<n/\∃ D,nv a D/\D.L=n,λi H x eg=>eg=H/\∀ D,nv a D->D[n-1-i]?=Z x,λi _=>n<=i⟩
theorem Fv{tg:fm}(a it:eN)(n:R):Turn P w K tg (Itq K a n) [it] it (λi h=>i<=n/\h.IsRevIter it a ((n:G)-1-(i:G))) where
 mem:=by simp
 obj:=λi h st b M=>by
  let e:b=it:=by simpa using M
  subst e;let _ o e c d:=st;erw[o,e,λv z=>by rw[d]at z;cases z]
 keep:=λi h t st k=>⟨st.1,st.2.at λo e=>k it (by simp) o e⟩
 item:=by
  intro X hP y hK T i B s L H ef I q st O;subst hP y hK;let N D Y J:=O;let g rv p r:=I.list Y;let x ab:∃ x,D[n-1-i]?=Z x:=⟨_,Lj ∅⟩
  let u eg ru:=rv.get ab;let f0 m f2 f3 f4 f5:=q it (by simp)
  let C:=st.2;let f:(n:G)-1-(i:G)=((n-1-i:R):G):=by lia
  rw[f]at C;refine wpAny_pyNext_rev_item C p.isList (x:=u) (by simpa using eg) λt aa sb=>?_
  let l:mu H {s,t}:=I.turned (t':=s.v) (λb o M e=>(sb.2 b M).Q e) f0 m f3 f4 f5;let A:((n-1-i:R):G)-1=(n:G)-1-((i+1:R):G):=by lia
  rw[A]at aa;let o e c d:=id aa;erw[u,U,D8 (s:={s,t}) e c d ∅ ⟨x,H,l,ru,⟨U,λj Q=>by rw[I.list_inj Q Y];exact ab⟩,⟨N,aa⟩,λb M=>(q b M).1⟩]
 done:=by
  intro X hP y hK T i B s L H ef I q st O;subst hP y hK;let ac:n<=i:=O;let f0 m f2 f3 f4 f5:=q it (by simp)
  let C:=st.2;let N:=st.1;let f:(n:G)-1-(i:G) = -1:=by lia
  rw[f]at C;exact wpAny_pyNext_rev_end (I.ok.hd T) C λt eb=>⟨U,I.turned (t':=s.v) (λb o M e=>eb b o M e) f0 m f3 f4 f5⟩
 self:=λ_ _ _ _ _ st h=>wpAny_pyIter_revIter st.2 h
section
variable{X:Cx}{tg:fm}
def iRev(K:Ln)(p:TE):TI:=λL H ad=>p L H λx l=>∃ a D,x=.ref a/\SqL K l a D/\ad (Itq K a D.L) l
def pi_rev{v a:Pos}(f:Gl X "reversed")(c:X.mg "reversed"=kf)(eg:PE X e Y)(h2:uP_ (Qd [e] X.i=(j5,eval e X.i)::Qd [] X.i) uR_):
  PI X tg (.Call (.Name "reversed" v) [e] [] a) (iRev X.K Y):=by
 intro B s L H ad I h;refine Qz (gC I f c qD ?_);refine Qo ?_ h2 U;rw[h2];refine Qx (thn (eg B s L H _ I h) λu m ⟨x,p,i,g,ef⟩=>?_);let l j rfl d q:=ef
 cases g
 refine Qw ?_;let J rv D r:=i.list d;let y:J.toArray.J=j.L:=by rw[Mc,rv.L]
 refine call_reversed_list D.isList ?_;let z:mu p {m,m.H.o (revObj l ((J.toArray.J:G)-1))}:=i.kept (t':=m.v) λb o e=>Qm _ e;let O:(m.H.o (revObj l ((J.toArray.J:G)-1))).IsRevIter m.H.M.J l ((J.toArray.J:G)-1):=⟨_,Qn _ U,U,U⟩;refine wpAny_pyIter_revIter O ?_;rw[y]at O;erw[m.H.M.J,[m.H.M.J],5,p,U,z,Fv l _ j.L,⟨LU _,by rw[y];simpa using O⟩,λb M=>?_,q]
 let e:b=m.H.M.J:=by simpa using M
 subst e;exact i.fpOk (Lo _) (i.hok.fresh (Lo _))
end
def KN{g:TG}(Pv:R->St->Hp->Prop)(A:Pv 0 L H)(hl:∀ i L H,i<=xs.L->Pv i L H->nv a xs)(hs:∀ i x L H,xs.x[i]?=Z x->Pv i L H->g x L H λh H2=>tb (D.lop (Pv (i+1))) h H2)(hd:∀ L H,Pv xs.L L H->D.nx L H):
  ∃ W:R->R->St->Hp->Prop,(∃ m,W 0 m L H)/\∀ i m L H,W i m L H ->
   ((Itq K a xs.L).stop i H/\D.nx L H)∨((Itq K a xs.L).go i H/\∃ N:St->Hp->Prop,(∀ σ' H',N σ' H'->∃ u,u<m/\W (i+1) u σ' H')/\∀ x H',(Itq K a xs.L).yld i H x H'->g x L H' λh H2=>tb (D.lop (N)) h H2):=by
 erw[λi m L H=>m=xs.L-i/\i<=xs.L/\Pv i L H,⟨xs.L,by simp,LU _,A⟩,3]
 rintro i m L H ⟨rfl,B,p⟩;let q:=hl i L H B p;by_cases j:i<xs.L
 .refine .inr ⟨⟨j,xs,q,U⟩,Pv (i+1),λσ' H' I=>⟨xs.L-(i+1),∅,U,j,I⟩,λv H' y=>?_⟩
  let rfl Q:=y;refine hs i v L _ ?_ p;rw[N3 j];exact Q xs q
 .let e:i=xs.L:=by lia
  subst e;exact .inl ⟨Lo _,hd L H p⟩
def zV.g{J:It}(h:zV Y L J H1 QQ):iW (ui 0) tYes Y 1 L J H1 QQ:=by
 let W p st:=h;erw[W,p,λi m j H w=>?_];let l h:=st i m j H w;erw[l,h.imp id λ⟨go,N,o,h⟩=>⟨go,λt O=>∃ y,t=j++[y]/\N y O,λt O ⟨y,e,n⟩=>e▸o y O n,λx eg a=>⟨U,yesT ?_⟩⟩]
 let e:(λy c=>∃ k,j++[y]=j++[k]/\N k c)=N:=funext λy=>funext λc=>propext ⟨λ⟨k,e,n⟩=>by
  let:y=k:=by simpa using e
  rw[this];exact n,λn=>⟨y,U,n⟩⟩
 rw[e];exact h x eg a
theorem dB(Pv:R->E V->Hp->Prop)(hz:xs.L<=P7)(A:Pv 0 [] H1)(hl:∀ i ys H,i<=xs.L->Pv i ys H->nv a xs)(hs:∀ i x ys H,xs[i]?=Z x->Pv i ys H->Y (Z x::L) H λy H2=>Pv (i+1) (ys++[y]) H2)(hd:∀ ys H,ys.L=xs.L->Pv xs.L ys H->QQ ys H):iW (ui 0) tYes Y 1 L (Itl K a) H1 QQ:=(EY Pv hz A hl hs hd).g
theorem cH{lo:G}(Pv:R->E V->Hp->Prop)(hz:n<=P7)(A:Pv 0 [] H1)(hs:∀ i ys H,i<n->Pv i ys H->Y (Z (.int (lo+i))::L) H λy H2=>Pv (i+1) (ys++[y]) H2)(hd:∀ ys H,ys.L=n->Pv n ys H->QQ ys H):iW (ui 0) tYes Y 1 L (Itr lo n) H1 QQ:=(BL Pv hz A hs hd).g
section
variable{X:Cx}{scope:hr}{fr:E (ff×R)}{xs:E ff}{elt iter tg:fm}{ifs:E fm}{pos:Pos}{tt:TT}{tgt:TG}{wi:TI}{te:TE}
end
def DF{Pv:R->eK->Prop}{Sq:R->fc->Prop}{T:String}(W:Walks prog w A.in1.in1 I fp [I] n Pv Sq)(y:n<=P7)(st:Sq 0 s.H)(z:I∈fp)(ab:∀ b∈fp,b<s.H.M.J)(l:∀ h,Sq 0 h->∃ o,h.R I=Z o/\o.cls=.type T)(j:(eK.type T == eK.type "list")=j5)(t2:(eK.type T == eK.type "tuple")=j5)(hint:∀(h:fc)(v:im->e9->Prop)(J:eK->e9->Prop),Sq 0 h->(∀ tk,v j5 {s with heap:=h,toks:=tk})->lf A.in1.in1 (QI (.ref I)) v J {s,h})(H:∀ h' tk c c',(∀ b o,b≠I->s.H.R b=Z o->h'.R b=Z o)->h'.R s.H.M.J=Z {cls:=.type "list",dict:=kf,data:=.seq c c',slots:=#[]}->ItemsOf Pv c n->Q (.ref s.H.M.J) {s with heap:=h',toks:=tk}):
  lf A (call (.type "list") [.ref I]) Q ef s:=by
 refine callType_codes (Q₁:=λt f=>t=.ref s.H.M.J/\f={s,s.H.o {cls:=.type "list",data:=.seq #[]}}) PySem.F.called_list (PX _) PY
  (code_list_new _ ⟨U,U⟩) λt f L=>?_
 let rfl rfl:=L;let x:(s.H.o {cls:=.type "list",data:=.seq #[]}).R s.H.M.J=Z {cls:=.type "list",data:=.seq #[]}:=Qn _ U;let B:s.H.M.J∉fp:=λC=>Nj _ (ab _ C);erw[⟨_,x,U⟩,PQ _ _,3];show wpAny _ _ (Rv (.ref s.H.M.J) >>= λD=>hX.List.listUpdate (.ref s.H.M.J) (λ_=>#[]) >>= λ_=>letGo D.n.x >>= λ_=>Rt (.ref s.H.M.J) (.ref I) .none) _ _ _;refine Qi ?_;unfold Rv;refine Qi (Rf x U (Ql ?_));show wpAny _ _ (Rh s.H.M.J (λ_=>#[]) >>= λ_=>letGo (#[]:io eK).n.x >>= λ_=>Rt (.ref s.H.M.J) (.ref I) .none) _ _ _;refine Qi (Ri x U ?_);let p:=QC (QB (λ_=>(#[]:io eK))) x U;let oth:∀ b o,s.H.R b=Z o->((s.H.o {cls:=.type "list",data:=.seq #[]}).update s.H.M.J (QB (λ_=>(#[]:io eK)))).R b=Z o:=λb o e=>(QD _ _ (Mz (P8 e))).Q (Qm _ e);refine Qi (QX ?_);generalize ((s.H.o {cls:=.type "list",data:=.seq #[]}).update s.H.M.J (QB (λ_=>(#[]:io eK))))=O at p oth;let eg:=W.frame 0 s.H O st λb _ o e=>oth b o e;let d:∀(h:fc)(c1 tk:R),(∀ b o,s.H.R b=Z o->h.R b=Z o)->h.R s.H.M.J=Z {cls:=.type "list",data:=.seq #[] c1}->Qu (model prog w) A.in1 (.builtin "list.extend.loop" ⟨[.ref s.H.M.J,.ref I,.none],[]⟩) (wants (λr m=>r=eK.none/\Q (.ref s.H.M.J) m) ef) {s with heap:=h,toks:=tk}:=by
  intro h c1 tk g i;refine codeAny_extend_loopS W.toS y s.H.M.J B .none n 0 _ #[] c1 U (LU _) (W.frame 0 s.H h st λb _ o e=>g b o e) i (ItemsOf.nil _) λk c c' C a u=>?_;rw[Moved.eq_with C];erw[U,H k.H k.v c c' (λb o M e=>C.H b o (λq=>?_) (g b o e)) a u];obtain N|q:=Lw.mp q
  .exact LJ (P8 e) N
  .exact M (LB.mp q)
 unfold Rt;refine Qi (wpAny_typeOf (T:=T) (l _ eg) ?_);let Y:Ru (.ref s.H.M.J) (.ref I)=j5:=by
  let:s.H.M.J≠I:=λe=>B (e▸z);simp[Ru,this]
 simp only[Y,j,t2,P5,MI,if_false];refine Qi (W.self 0 _ _ _ eg (Qi (Qj (hint _ _ _ eg λtk=>?_))));refine QJ (λ_=>?_) (λ_=>Ql ⟨Rj MZ _,d _ _ _ oth p⟩);refine Qi (wpAny_rule (Qi ?_));show wpAny _ _ (Rh s.H.M.J (·.push .none) >>= λ_=>Rh s.H.M.J (·.pop)) _ _ _;refine Qi (Ri p U ?_);let aa:=QC (QB (·.push eK.none)) p U;refine Ri (hz:=by seq_fits) aa U ?_
 let ac:=QC (QB (·.pop)) aa U;exact Ql ⟨Rj MZ _,d _ _ _ (λb o e=>(QD _ _ (Mz (P8 e))).Q ((QD _ _ (Mz (P8 e))).Q (oth b o e))) ac⟩
def Jh{m:io eK}(rv:Vals ys its)(h:ItemsOf (λi v=>its.toArray[its.toArray.J-1-i]?=Z v) m its.toArray.J):Vals ys.x m.n:=by
 let e:m.n=its.x:=by
  apply O4;intro i;by_cases B:i<its.L
  .let u:i<m.J:=by rw[h.1];simpa using B
   let q:=h.2 i m[i] (M4 u);rw[Mp,M4 u,N3 B,← q];simp
  .rw[Mv (by rw[L4,h.1];simpa using B),Mv (by simp!)]
 rw[e];exact rv.x
def ml{p p2 ac:Pos}(d:X.calm=i0)(O:Gl X "list")(C:X.mg "list"=kf)(am:Gl X "reversed")(al:X.mg "reversed"=kf)(eg:PE X e Y)(m:uP_ (Qd [.Call (.Name "reversed" p2) [e] [] ac] X.i=[(j5,eval (.Call (.Name "reversed" p2) [e] [] ac) X.i)]) uR_)(h2:uP_ (Qd [e] X.i=(j5,eval e X.i)::Qd [] X.i) uR_):
  PE X (.Call (.Name "list" p) [.Call (.Name "reversed" p2) [e] [] ac] [] pos) (λL H Q=>Y L H λx H1=>∃ l ys,x=.ref l/\SqL X.K H1 l ys/\∀ q,H1 q=kf->Q (.ref q) (upd H1 q (.lst ys.x))):=by
 intro B s L H Q I h;refine Qz (gC I O C jL ?_);refine Qo ?_ m U;rw[m];refine Qx ?_;refine Qz (gC I am al qD ?_);refine Qo ?_ h2 U;rw[h2];refine Qx (thn (eg B s L H _ I h) λu r ⟨x,H1,i,w,ef⟩=>?_);let l ys rfl c q:=ef
 cases w
 refine Qw ?_;let J rv pl hz:=i.list c;let y:J.toArray.J=ys.L:=by rw[Mc,rv.L]
 refine call_reversed_list pl.isList ?_;refine Qw ?_;let j:l<r.H.M.J:=by
  let o n f _:=pl;exact P8 f
 let v:mu H1 {r,r.H.o (revObj l ((J.toArray.J:G)-1))}:=i.kept (t':=r.v) λb o e=>Qm _ e;let ab:(r.H.o (revObj l ((J.toArray.J:G)-1))).IsRevIter r.H.M.J l ((J.toArray.J:G)-1):=⟨_,Qn _ U,U,U⟩;refine DF (T:="list_reverseiterator") (Walks.listRev (A:=X.A.in1.in1) (I.ok.hd d) r.H.M.J l (LJ j) J.toArray) (by rw[y];exact hz) ⟨LU _,by simpa using ab,pl.isList.o _⟩ (by simp) (λb M=>?fp) (λh z=>let ⟨o,D,d,_⟩:=z.2.1;⟨o,D,d⟩) ∅ ∅ (λh Q' E' z k=>GU z.2.1.typeIs (k r.v)) λa tk N t g hS aa=>?_
 case fp =>
  rw[Qv];obtain e|e:=Lw.mp M
  .rw[e];exact Nv _
  .rw[LB.mp e];exact MQ j
 let f0 f1 f2 f3 f4 f5:=i.fpOk (H':=H1) (Lo _) (i.hok.fresh (Lo _));let I3:mu H1 {r with heap:=a,toks:=tk}:=v.turned (t':=tk) (λb o M e=>g b o M e) f0 f1 f3 f4 f5;let fS:=v.fpOk (H':=H1) (Lo _) (v.hok.fresh (Lo _));let I4:=I3.track (o:=.lst ys.x) fS ⟨by rw[Nt];exact hz,N.n,t,Jh rv aa,by rw[io.toArray_toList];exact hS⟩
 erw[.ref _,_,I4,U,q _ fS.1]
section
variable{X:Cx}{k n:R}{f:eN}{fd:fk}{ps:E ff}{sp:Sp}{x:ff}{p pos:Pos}{e:fm}{es:E fm}{t:TA}
theorem Cal.c(eg:Cal X.e X.w X.K X.mg X.base k x ps sp f fd)(N:Room n X.A)(o:PA X (e::es) t)(O:uP_ (Gl X x) uR_)(hl:k<=n:=by first|decide|lia)(v:uP_ ((x == ("__debug__" : ff))=j5) uD_)(d:uP_ (Qd (e::es) X.i=(j5,eval e X.i)::Qd es X.i) uR_)(u:uP_ ((backTo pos (Qd es X.i)).any (·.1)=j5) uR_):PE X (.Call (.Name x p) (e::es) [] pos) (FA sp [] E0 t) :=
 JU eg.ok (N.mono hl) O eg.mg eg.kp eg.bn .nil mw o v d u
theorem Cal.d(eg:Cal X.e X.w X.K X.mg X.base k x ps sp f fd)(N:Room n X.A)(O:uP_ (Gl X x) uR_)(hl:k<=n:=by first|decide|lia)(v:uP_ ((x == ("__debug__" : ff))=j5) uD_):PE X (.Call (.Name x p) [] [] pos) (FA sp [] E0 tNil) :=
 FY eg.ok (N.mono hl) O eg.mg eg.kp eg.bn .nil mw v
end
section
variable{X:Cx}{a b:fm}{ta tb:TE}{pos:Pos}
theorem bA(o:PE X a ta)(M:PE X b tb)(hs:qI b:=by exact λ_ _=>rfl):PE X (.Subscript a b pos) (tOp (rIxL X.K) ta tb):=FT DO o M hs
theorem cR(o:PE X a ta)(M:PE X b tb)(hs:qI b:=by exact λ_ _=>rfl):PE X (.Subscript a b pos) (tOp (rIxT X.K) ta tb):=FT Iz o M hs
theorem qO(K:Ln)(o:PE X a ta)(M:PE X b tb)(hs:qI b:=by exact λ_ _=>rfl)(h:uP_ (X.K=K) uR_):PE X (.Subscript a b pos) (tOp (rIxL K) ta tb):=FT (GN h) o M hs
theorem tD(K:Ln)(o:PE X a ta)(M:PE X b tb)(hs:qI b:=by exact λ_ _=>rfl)(h:uP_ (X.K=K) uR_):PE X (.Subscript a b pos) (tOp (rIxT K) ta tb):=FT (KC h) o M hs
theorem az(i:R){a:Pos}(o:X.N.l)(eg:PE X e Y)(hi:uP_ (X.N[i]?=Z x) uR_)(J:Loc X.i.scope x:=by first|exact .inl rfl|exact .inr U)(hs:uP_ (swapsWith e (Z (.Name x a)) pos.line X.i=pure j5) uR_)(A:X.fn x=i0∨X.i.scope.names.Z x=Z .local:=by first|exact .inl rfl|exact .inr rfl|assumption):
  PS X (.Assign [.Name x a] e pos) (tAsg Y (ui i)):=ps_set o hi J eg hs A
theorem bp(i:R)(o:X.N.l)(hi:uP_ (X.N[i]?=Z x) uR_)(J:Loc X.i.scope x:=by first|exact .inl rfl|exact .inr U)(A:X.fn x=i0∨X.i.scope.names.Z x=Z .local:=by first|exact .inl rfl|exact .inr rfl|assumption):PG X (.Name x pos) (ui i):=aU o hi J A
end
def AllL{α:Type}(Q:α->Prop):E α->Prop
 |[]=>True
 |x::r=>Q x/\AllL Q r
theorem AllL.mem{α:Type}{Q:α->Prop}:∀{l:E α},AllL Q l->∀ x∈l,Q x
 |_::_,h,_,.head _=>h.1
 |_::_,h,_,.tail _ m=>AllL.mem h.2 _ m
section
variable{X:Cx}{scope:hr}{elt iter tg:fm}{ifs:E fm}{pos:Pos}{tt:TT}{tgt:TG}{wi:TI}{te:TE}
theorem oF.au{xs:E ff}(clos:uP_ (closureFor scope X.i=pure (clOf X.i fr)) uR_)(cell:uP_ (∀ y∈scope.names,y.2≠.cell) uD_)(kind:uP_ (scope.kind=.function) uR_)(names:uP_ (∀ y∈scope.names,y.2=.local->scope.names.Z y.1=Z .local) uD_)(slot:AllL (λp=>X.N[p.2]?=Z p.1/\X.i.kindOf p.1=Z .cell) fr:=by repeat (first|exact True.intro|erw[⟨rfl,rfl⟩,3]))(eg:uP_ (∀ z∈scope.names,z.2=.free->z.1∈fr.h (·.1)) uD_)(frk:AllL (λp=>(relabel scope X.i).names.Z p.1=Z .cell) fr:=by repeat (first|exact True.intro|erw[rfl,3])):oF X scope fr xs :=
 .of clos cell kind names slot.mem eg frk.mem
theorem eM(fr:E (ff×R))(xs:E ff)(hi:PI X tg iter wi)(b:∀ C ex s H,PG (cxG X scope fr xs C ex s H) tg tgt)(u:∀ C ex s H,PTs (cxG X scope fr xs C ex s H) ifs tt)(eg:∀ C ex s H,PE (cxG X scope fr xs C ex s H) elt te)(T:uP_ (X.calm=i0) uR_)(O:oF X scope fr xs:=by exact .au)(hs:∀ x,Qp iter X.i x=pure x:=by intro _;rfl):PE X (.ListComp elt [⟨tg,iter,ifs,0⟩] scope pos) (HK wi tgt tt te xs.L fr) :=
 FX T O hi b u eg hs
theorem nA(i:R)(fr:E (ff×R))(xs:E ff){y:ff}{d c:Pos}(o:X.N.l)(hi:PI X tg iter wi)(b:∀ C ex s H,PG (cxG X scope fr xs C ex s H) tg tgt)(u:∀ C ex s H,PTs (cxG X scope fr xs C ex s H) ifs tt)(eg:∀ C ex s H,PE (cxG X scope fr xs C ex s H) elt te)(T:uP_ (X.calm=i0) uR_)(a:uP_ (X.N[i]?=Z y) uR_)(Q:uP_ (X.i.scope.names.Z y=Z .local) uR_)(O:oF X scope fr xs:=by exact .au)(e:uP_ (swapsWith (.ListComp elt [⟨tg,iter,ifs,0⟩] scope pos) (Z (.Name y d)) c.line X.i=pure i0) uR_)(hs:∀ x,Qp iter X.i x=pure x:=by intro _;rfl):
  PS X (.Assign [.Name y d] (.ListComp elt [⟨tg,iter,ifs,0⟩] scope pos) c) (ve i wi tgt tt te xs.L fr) :=
 x9 T o a Q O hi b u eg e hs
theorem pg_c{xs:E ff}(c:uP_ ((xs++fr.h (·.1)).l) uD_)(o:uP_ ((xs++fr.h (·.1))[0]?=Z x) uR_)(J:∀ C ex s H,Loc (cxG X scope fr xs C ex s H).i.scope x:=by exact λ_ _ _ _=>.inl U)(A:∀ C ex s H,(cxG X scope fr xs C ex s H).fn x=i0∨(cxG X scope fr xs C ex s H).i.scope.names.Z x=Z .local:=by exact λ_ _ _ _=>.inr U):
  ∀ C ex s H,PG (cxG X scope fr xs C ex s H) (.Name x pos) (ui 0):=λC ex s H=>aU (X:=cxG X scope fr xs C ex s H) c o (J C ex s H) (A C ex s H)
theorem pt_c{xs:E ff}:∀ C ex s H,PTs (cxG X scope fr xs C ex s H) [] tYes:=λ_ _ _ _=>JL
end
end L2
local macro_rules|`(#[$xs,*])=>do `(⟨$[$(←hA (xs.getElems.map λe=>e.raw))],*⟩)
namespace K2
def S:E R->R
 |[]=>0
 |p::r=>2^p+S r
def Lh{p:R}(h:n.O p=j5)(i:R):(n+2^p).O i=(n.O i||decide (i=p)):=by
 let e:n+2^p=n|||2^p:=by
  let d:n&&&2^p=0:=by
   apply Ma;intro j;rw[NB,LP,MN];by_cases I:p=j
   .subst I;simp[h]
   .simp[I]
  let q:∀ m k:R,(m|||k)+(m&&&k)=m+k:=by
   intro m;induction m using Pp with
   |ind m L =>
    intro n;by_cases A:m=0
    .simp[*]
    .let a:=L (m/2) ∅ (n/2)
     rw[← Nat.or_div_two,← Nat.and_div_two]at a;let r:=@Nat.or_mod_two_eq_one m n;let T:=@Nat.and_mod_two_eq_one m n;lia
  let:=q n (2^p);rw[d]at this;lia
 rw[e,Mw,LP];congr 1;exact decide_eq_decide.mpr #[λh=>h.Y,λh=>h.Y]
theorem S_bit:∀{D:E R},D.l->∀ i,(S D).O i=decide (i∈D)
 |[],_,i=>by simp[S]
 |p::r,n,i=>by
  let ⟨Y,O⟩:=LV.mp n;let T:(S r).O p=j5:=by rw[S_bit O];exact P6 Y
  let e:S (p::r)=S r+2^p:=O8 _ _;rw[e,Lh T,S_bit O];grind
def bitsF(k n:R):E R:=if h:n=0 then[] else(if n%2=1 then[k] else[])++bitsF (k+1) (n/2)
termination_by n
decreasing_by lia
def bitsF_zero(k:R):bitsF k 0=[]:=by rw[bitsF];simp
def bitsF_odd{k:R}(h:n%2=1):bitsF k n=k::bitsF (k+1) (n/2):=by
 rw[bitsF,dif_neg ∅,Rw h];rfl
def bitsF_even{k:R}(A:n≠0)(h:¬ n%2=1):bitsF k n=bitsF (k+1) (n/2):=by
 rw[bitsF,dif_neg A,Rx h];rfl
theorem uU:∀(f n k:R),n<=f->∀ p∈bitsF k n,k<=p
 |0,n,k,h=>by
  let z:n=0:=by lia
  subst z;rw[bitsF_zero];simp
 |f+1,n,k,h=>by
  intro p Y;by_cases z:n=0
  .subst z;rw[bitsF_zero]at Y;cases Y
  .by_cases o:n%2=1
   .rw[bitsF_odd o]at Y;obtain e|Y:=Lw.mp Y
    .lia
    .let:=uU f (n/2) (k+1) ∅ p Y;lia
   .rw[bitsF_even z o]at Y;let:=uU f (n/2) (k+1) ∅ p Y;lia
theorem bitsF_sorted:∀(f n k:R),n<=f->(bitsF k n).y (· < ·)
 |0,n,k,h=>by
  let z:n=0:=by lia
  subst z;rw[bitsF_zero];simp
 |f+1,n,k,h=>by
  by_cases z:n=0
  .subst z;rw[bitsF_zero];simp
  .by_cases o:n%2=1
   .rw[bitsF_odd o];exact List.Pairwise.cons (λp Y=>uU f (n/2) (k+1) ∅ p Y) (bitsF_sorted f (n/2) (k+1) ∅)
   .rw[bitsF_even z o];exact bitsF_sorted f (n/2) (k+1) ∅
theorem bitsF_sum:∀(f n k:R),n<=f->S (bitsF k n)=n*2^k
 |0,n,k,h=>by
  let z:n=0:=by lia
  subst z;rw[bitsF_zero];simp[S]
 |f+1,n,k,h=>by
  by_cases z:n=0
  .subst z;rw[bitsF_zero];simp[S]
  .let L:=bitsF_sum f (n/2) (k+1) ∅
   let e:n/2*2^(k+1)=(2*(n/2))*2^k:=by rw[Nat.pow_succ,Nat.mul_comm (2^k) 2,← Nat.mul_assoc,Nat.mul_comm (n/2) 2]
   by_cases o:n%2=1
   .rw[bitsF_odd o];show 2^k+S (bitsF (k+1) (n/2))=_;rw[L,e];let:n=2*(n/2)+1:=by lia
    let A:n*2^k=(2*(n/2)+1)*2^k:=by rw[← this]
    rw[A,Nat.add_mul,Nat.one_mul];lia
   .rw[bitsF_even z o,L,e];let:n=2*(n/2):=by lia
    let A:n*2^k=(2*(n/2))*2^k:=by rw[← this]
    rw[A]
theorem bitsF_lt:∀(m n k:R),n<2^m->∀ p∈bitsF k n,p<k+m
 |0,n,k,h=>by
  let z:n=0:=by lia
  subst z;rw[bitsF_zero];intro p Y;cases Y
 |m+1,n,k,h=>by
  intro p Y;let O:n/2<2^m:=by rw[Nat.pow_succ]at h;lia
  by_cases z:n=0
  .subst z;rw[bitsF_zero]at Y;cases Y
  .by_cases o:n%2=1
   .rw[bitsF_odd o]at Y;obtain e|Y:=Lw.mp Y
    .lia
    .let:=bitsF_lt m (n/2) (k+1) O p Y;lia
   .rw[bitsF_even z o]at Y;let:=bitsF_lt m (n/2) (k+1) O p Y;lia
theorem bitsF_len:∀(m n k:R),n<2^m->(bitsF k n).L<=m
 |0,n,k,h=>by
  let z:n=0:=by lia
  subst z;rw[bitsF_zero];exact Lo _
 |m+1,n,k,h=>by
  let O:n/2<2^m:=by rw[Nat.pow_succ]at h;lia
  by_cases z:n=0
  .subst z;rw[bitsF_zero];exact LU _
  .by_cases o:n%2=1
   .rw[bitsF_odd o];let:=bitsF_len m (n/2) (k+1) O;simp[*]
   .rw[bitsF_even z o];let:=bitsF_len m (n/2) (k+1) O;lia
theorem nodup_of_lt(h:l.y (· < ·)):l.l:=h.imp λh=>LJ h
end K2
namespace KF
open PySem L2
def top(i:R):fo:=PySem.Challenge.pw_spinfloor_k76_fans_just_rough_enough.main.body.getD i (.Pass #[00,00,00,00])
abbrev lZ:fo:=top 18
abbrev oO:fo:=top 20
abbrev jV:fo:=top 21
abbrev i6:fo:=top 22
abbrev oJ:fo:=top 23
abbrev sJ:fo:=top 24
abbrev Ae:fo:=top 13
abbrev Ad:fo:=top 14
abbrev FL:fo:=top 15
abbrev l4:fo:=top 16
abbrev dG:fo:=top 27
abbrev g8:fo:=top 28
abbrev b9:fo:=top 29
abbrev gX:fo:=top 30
abbrev oK:fo:=top 31
abbrev lY:fo:=top 32
abbrev l7:fo:=top 33
abbrev l8:fo:=top 50
abbrev oM:fo:=top 51
abbrev sP:fo:=top 52
abbrev gW:fo:=top 35
abbrev Lk:=R×R×G
def bey(l:Lk)(r:R):R:=if r=l.1 then l.2.1 else l.1
def ox(l:Lk)(r:R):Prop:=r=l.1∨r=l.2.1
def uV{l:Lk}{r:R}(h:ox l r):ox l (bey l r):=by
 unfold bey;split
 .exact .inr U
 .exact .inl U
def qG{l:Lk}{r:R}(h:ox l r):bey l (bey l r)=r:=by
 unfold bey;by_cases c:r=l.1
 .simp!
 .rw[Rx c,Rw U];obtain h|h:=h
  .contradiction
  .exact h.Y
def bey_lt{l:Lk}{r:R}(Y:l.1<n)(h2:l.2.1<n):bey l r<n:=by
 unfold bey;split<;>assumption
inductive Up(ls:E Lk)(vv:E (ii R))(s:R):R->R->Prop where
 |root:Up ls vv s 0 s
 |step {j r k:R} {l:Lk} (hv:vv[r]?=Z (Z k)) (hl:ls[k]?=Z l) (h:Up ls vv s j (bey l r)):Up ls vv s (j+1) r
theorem Up.uniq{ls:E Lk}{v:E (ii R)}{s:R}(A:v[s]?=Z kf):∀{j i r:R},Up ls v s j r->Up ls v s i r->j=i
 |_,_,_,.root,.root=>rfl
 |_,_,_,.root,.step H _ _=>by simp!
 |_,_,_,.step H _ _,.root=>by simp!
 |_,_,_,.step H C h,.step a c eg=>by
  rw[H]at a;cases a;rw[C]at c;cases c;rw[Up.uniq A h eg]
def Up.lt{ls:E Lk}{v:E (ii R)}{s r:R}(A:v[s]?=Z kf)(h:Up ls v s j r):r<v.L:=by
 cases h with
 |root=>exact(Ll.mp A).1
 |step H _ _=>exact(Ll.mp H).1
theorem Up.chain{ls:E Lk}{v:E (ii R)}{s:R}(A:v[s]?=Z kf):∀{j r:R},Up ls v s j r->∃ c:E R,c.L=j+1/\c.l/\∀ x∈c,x<v.L/\∃ i,i<=j/\Up ls v s i x
 |_,_,.root=>#[[s],U,LV.mpr #[(by simp),Na],λx J=>by rw[LB.mp J];erw[Up.lt (ls:=ls) A .root,00,Lo _,.root]]
 |j+1,r,.step H C h=>by
  let c d n T:=Up.chain A h;let b:Up ls v s (j+1) r:=.step H C h;erw[r::c,by simp[*],LV.mpr #[λN=>?_,n],λx J=>?_]
  .let _ i B eg:=T r N;let:=Up.uniq A b eg;lia
  .obtain rfl|J:=Lw.mp J
   .erw[Up.lt A b,j+1,Lo _,b]
   .let a i B eg:=T x J;erw[a,i,4,eg]
theorem mE:∀(n:R)(c:E R),c.l->(∀ x∈c,x<n)->c.L<=n
 |0,c,_,h=>by
  cases c with
  |nil=>exact Lo _
  |cons x r=>exact Ry (h x (Lv ..)) (MJ _)
 |n+1,c,a,h=>by
  let Y:=mE n (c.erase n) (a.erase _) λx J=>by
   let C:=OG J;let:=h x C;grind
  grind
def Up.short{ls:E Lk}{v:E (ii R)}{s r:R}(A:v[s]?=Z kf)(h:Up ls v s j r):j+1<=v.L:=by
 let c d n T:=Up.chain A h;rw[← d];exact mE _ c n λx J=>(T x J).1
def cOf(o:ii G):R:=if o.isSome then 1 else 0
def cnt(T:E (ii G)):R:=(T.h cOf).sum
def vOf(B:R)(o:ii G):R:=match o with|none=>B|some x=>x.U
def wgt(B:R)(T:E (ii G)):R:=(T.h (vOf B)).sum
theorem rR{α:Type}(f:α->R):∀(l:E α)(i:R)(x y:α),l[i]?=Z x->((l.set i y).h f).sum+f x=(l.h f).sum+f y
 |a::l,0,x,y,e=>by
  cases e
  grind
 |a::l,i+1,x,y,e=>by
  let:=rR f l i x y e;grind
 |[],i,x,y,e=>by contradiction
theorem IK:∀(T:E (ii G)){i:R},T[i]?=Z kf->cnt T+1<=T.L
 |[],i,e=>by contradiction
 |a::T,0,e=>by
  cases e
  let:∀ T:E (ii G),cnt T<=T.L:=λT=>by
   induction T with
   |nil=>exact Lo _
   |cons b T L =>
    let f:cnt (b::T)=cOf b+cnt T:=by rfl
    let A:cOf b<=1:=by unfold cOf;grind
    grind
  let f:cnt (kf::T)=cOf kf+cnt T:=by rfl
  let A:cOf kf=0:=rfl;simp[*]
 |a::T,i+1,e=>by
  let L:=IK T (i:=i) e;let f:cnt (a::T)=cOf a+cnt T:=by rfl
  let A:cOf a<=1:=by unfold cOf;split<;>lia
  grind
structure FI(n:R)(ls:E Lk)(s:R)(M:R)(T:E (ii G))(vv:E (ii R))(W:E R)(ex:R->R->Prop):Prop where
 w0:∀ l∈ls,0<=l.2.2/\l.2.2<=(M:G)
 tl:T.L=n
 vl:vv.L=n
 st:T[s]?=Z (Z 0)
 vs:vv[s]?=Z kf
 nn:∀(r:R)(x:G),T[r]?=Z (Z x)->0<=x
 bd:∀(r:R)(x:G),T[r]?=Z (Z x)->x+(M:G)<=(cnt T:G)*(M:G)
 pr:∀(r k:R),vv[r]?=Z (Z k)->∃(l:Lk)(x y:G),ls[k]?=Z l/\ox l r/\T[r]?=Z (Z x)/\T[bey l r]?=Z (Z y)/\y+l.2.2<=x
 up:∀(r:R)(x:G),T[r]?=Z (Z x)->∃ j,Up ls vv s j r
 rl:∀(r:R)(x:G)(i:R)(l:Lk),T[r]?=Z (Z x)->r∉W->ls[i]?=Z l->ox l r->ex r i∨∃ y:G,T[bey l r]?=Z (Z y)/\y<=x+l.2.2
 wk:∀ r∈W,∃ x:G,T[r]?=Z (Z x)
def Aa{l:E α}{x:α}(hi:i<l.L):(l.set i x)[j]?=if i=j then Z x else l[j]?:=by
 rw[NY];simp[*]
def FI.mend{ls:E Lk}{s:R}{v:E (ii R)}{W':E R}(I:FI n ls s M T v W ex){k:R}{l:Lk}{x:G}{o:ii G}(hl:ls[k]?=Z l)(C:ox l m)(J:T[m]?=Z (Z x))(D:T[bey l m]?=Z o)(a:∀ y,o=Z y->x+l.2.2<y)(hW:∀ r,r∈W'↔r∈W∨r=bey l m)(ac:∀ r i,ex r i->ex' r i∨(r=m/\i=k)):
  FI n ls s M (T.set (bey l m) (Z (x+l.2.2))) (v.set (bey l m) (Z k)) W' ex':=by
 let p hM:=I.w0 l (Lm hl);let tt:bey l m<T.L:=(Ll.mp D).1;let tl:=I.tl;let vl:=I.vl;let x0:=I.nn m x J;let ns:bey l m≠s:=λe=>by
  rw[e,I.st]at D;grind
 let nm:bey l m≠m:=λe=>by
  rw[e,J]at D
  cases D
  let:=a x U;lia
 let gT:∀ r:R,(T.set (bey l m) (Z (x+l.2.2)))[r]?=if bey l m=r then Z (Z (x+l.2.2)) else T[r]?:=λr=>Aa tt;let gV:∀ r:R,(v.set (bey l m) (Z k))[r]?=if bey l m=r then Z (Z k) else v[r]?:=λr=>Aa ∅
 let eg:∀(r:R)(y:G),T[r]?=Z (Z y)->∃ z:G,(T.set (bey l m) (Z (x+l.2.2)))[r]?=Z (Z z)/\z<=y:=λr y e=>by
  rw[gT];by_cases c:bey l m=r
  .rw[Rw c];rw[← c,D]at e
   cases e
   erw[9,Int.le_of_lt (a y U)]
  .rw[Rx c];erw[y,e,Mn _]
 let keep:∀{j r:R},Up ls v s j r->∀ y,T[r]?=Z (Z y)->(∀ z,o=Z z->y<z)->Up ls (v.set (bey l m) (Z k)) s j r:=by
  intro j r h;induction h with
  |root=>intro _ _ _;exact .root
  | @step j r k' l' H ab h L =>
   intro y Q d;let ne:bey l m≠r:=λe=>by
    rw[e,Q]at D
    cases D
    exact Ry (d y U) (Int.lt_irrefl _)
   let t q b f A w e4 e5:=I.pr r k' H;rw[ab]at f;cases f;rw[Q]at w;cases w;let w0:=(I.w0 l' (Lm ab)).1;refine .step (by simp[*]) ab (L b e4 λz al=>?_)
   let:=d z al;lia
 let jm um:=I.up m x J;let am:=keep um x J λz d=>by grind
 let ut:Up ls (v.set (bey l m) (Z k)) s (jm+1) (bey l m):=.step (by simp[*]) hl (by rw[qG C];exact am)
 let all:∀{j r:R},Up ls v s j r->∃ i,Up ls (v.set (bey l m) (Z k)) s i r:=by
  intro j r h;induction h with
  |root=>exact#[00,.root]
  | @step j r k' l' H ab h L =>
   by_cases c:bey l m=r
   .rw[← c];erw[_,ut]
   .let i B:=L;erw[i+1,.step (by simp[*]) ab B]
 let cs:=rR cOf T (bey l m) o (Z (x+l.2.2)) D;let c1:cOf (Z (x+l.2.2))=1:=rfl;let cc:cnt (T.set (bey l m) (Z (x+l.2.2)))+cOf o=cnt T+1:=by assumption
 let an:cnt T<=cnt (T.set (bey l m) (Z (x+l.2.2))):=by
  let:cOf o<=1:=by unfold cOf;lia
  lia
 let mul_le:(cnt T:G)*(M:G)<=(cnt (T.set (bey l m) (Z (x+l.2.2))):G)*(M:G):=Int.mul_le_mul_of_nonneg_right ∅ ∅
 let bm:=I.bd m x J;erw[I.w0,by simp[*],by simp[*],by rw[gT,Rx ns];exact I.st,by rw[gV,Rx ns];exact I.vs,λr y e=>?_,λr y e=>?_,λr k' e=>?_,λr y e=>?_,λr y i l' e N ab aa=>?_,λr N=>?_]
 .rw[gT]at e;by_cases c:bey l m=r
  .rw[Rw c]at e;grind
  .rw[Rx c]at e;exact I.nn r y e
 .rw[gT]at e;by_cases c:bey l m=r
  .rw[Rw c]at e;cases e
   cases o with
   |none =>
    let f:cnt (T.set (bey l m) (Z (x+l.2.2)))=cnt T+1:=by assumption
    rw[f];grind
   |some z =>
    let:=a z U;let:=I.bd (bey l m) z D;lia
  .rw[Rx c]at e;let:=I.bd r y e;lia
 .rw[gV]at e;by_cases c:bey l m=r
  .rw[Rw c]at e;cases e;erw[l,x+l.2.2,x,hl,c▸uV C,by rw[gT,Rw c],3,Mn _]
   rw[← c,qG C,gT,Rx nm];exact J
  .rw[Rx c]at e;let t q b f A w e4 e5:=I.pr r k' e;let z e6 e7:=eg _ _ e4;erw[t,q,z,f,A,by simp[*],e6,4]
 .rw[gT]at e;by_cases c:bey l m=r
  .rw[← c];erw[_,ut]
  .rw[Rx c]at e;let j u:=I.up r y e;exact all u
 .let nr:r∉W/\r≠bey l m:=#[λz=>N ((hW r).mpr (.inl z)),λz=>N ((hW r).mpr (.inr z))]
  rw[gT,Rx (Ne.Y nr.2)]at e;obtain h|⟨z,Y,O⟩:=I.rl r y i l' e nr.1 ab aa
  .obtain h|⟨Y,O⟩:=ac r i h
   .exact .inl h
   .simp!
  .let z' ef g:=eg _ _ Y;exact .inr #[z',ef,4]
 .rcases(hW r).mp N with h|h
  .let y e:=I.wk r h;let z ef _:=eg _ _ e;erw[z,ef]
  .rw[h];erw[_,by rw[gT,Rw U]]
theorem FI.leave{ls:E Lk}{s:R}{v:E (ii R)}(I:FI n ls s M T v W ex){k:R}{l:Lk}{x y:G}(hl:ls[k]?=Z l)(J:T[m]?=Z (Z x))(Q:T[bey l m]?=Z (Z y))(a:y<=x+l.2.2)(b:∀ r i,ex r i->ex' r i∨(r=m/\i=k)):FI n ls s M T v W ex' :=
 #[I.w0,I.tl,I.vl,I.st,I.vs,I.nn,I.bd,I.pr,I.up,λr z i D e N c t=>by
  obtain h|h:=I.rl r z i D e N c t
  .obtain h|⟨Y,O⟩:=b r i h
   .exact .inl h
   .simp!
  .exact .inr h,I.wk]
def Fo{ls:E Lk}{s:R}{v:E (ii R)}(I:FI n ls s M T v W ex){t:R}{x w:G}{o:ii G}(p:0<=w)(a:w<=(M:G))(J:T[m]?=Z (Z x))(D:T[t]?=Z o)(j:∀ y,o=Z y->x+w<y):
  wgt (n*M+1) (T.set t (Z (x+w)))+1<=wgt (n*M+1) T:=by
 let e:=rR (vOf (n*M+1)) T t o (Z (x+w)) D;let u:=I.nn m x J;let b:=I.bd m x J;let f:vOf (n*M+1) (Z (x+w))=(x+w).U:=rfl;unfold wgt;rw[f]at e
 cases o with
 |none =>
  let d:=IK T D;let A:vOf (n*M+1) kf=n*M+1:=rfl;rw[A]at e;let Y:cnt T*M<=n*M:=OI M (by rw[I.tl]at d;lia)
  let O:x+(M:G)<=((n*M:R):G):=by grind
  lia
 |some z =>
  let:=j z U;let A:vOf (n*M+1) (Z z)=z.U:=rfl;grind
def FI.first{ls:E Lk}{s:R}(p:∀ l∈ls,0<=l.2.2/\l.2.2<=(M:G))(hs:s<n):FI n ls s M ((Lz n kf).set s (Z 0)) (Lz n kf) [s] (λ_ _=>False):=by
 let H:∀ r:R,((Lz n (kf:ii G)).set s (Z 0))[r]?=if s=r then Z (Z 0) else(Lz n kf)[r]?:=λr=>Aa (by simp[*])
 let d:∀{b:Type}(r:R)(x:b),(Lz n (kf:ii b))[r]?≠Z (Z x):=λr x e=>by
  let:=Lm e;simp!
 let one:∀(r:R)(x:G),((Lz n (kf:ii G)).set s (Z 0))[r]?=Z (Z x)->r=s/\x=0:=λr x e=>by
  rw[H]at e;by_cases c:s=r
  .simp!
  .rw[Rx c]at e;exact Ry e (d r x)
 erw[p,by rw[Nn,N0],N0,by rw[H,Rw U],by rw[MG,Rw hs],λr x e=>?_,λr x e=>?_,λr k e=>Ry e (d r k),λr x e=>?_,λr x i l e N=>?_,λr N=>?_]
 .rw[(one r x e).2];exact Mn _
 .rw[(one r x e).2];let a:=rR cOf (Lz n (kf:ii G)) s kf (Z 0) (by rw[MG,Rw hs])
  let c1:cOf (Z 0)=1:=rfl;let c0:cOf kf=0:=rfl;let:1<=cnt ((Lz n (kf:ii G)).set s (Z 0)):=by unfold cnt;lia
  let O:1*M<=cnt ((Lz n (kf:ii G)).set s (Z 0))*M:=OI M this;let ef:((1*M:R):G)<=((cnt ((Lz n (kf:ii G)).set s (Z 0))*M:R):G):=by exact_mod_cast O
  push_cast at ef;lia
 .rw[(one r x e).1];erw[00,.root]
 .rw[(one r x e).1]at N;exact Ry (LB.mpr U) N
 .rw[LB.mp N];erw[00,by rw[H,Rw U]]
theorem FI.take{ls:E Lk}{s:R}{v:E (ii R)}{W':E R}(I:FI n ls s M T v W (λ_ _=>False))(a:∀ r,r∈W'↔r∈W/\r≠m):FI n ls s M T v W' (λr _=>r=m) :=
 #[I.w0,I.tl,I.vl,I.st,I.vs,I.nn,I.bd,I.pr,I.up,λr x i l e N C t=>by
  by_cases c:r=m
  .exact .inl c
  .rcases I.rl r x i l e (λz=>N ((a r).mpr ⟨z,c⟩)) C t with h|h
   .exact h.elim
   .exact .inr h,λr N=>I.wk r ((a r).mp N).1]
theorem FI.exw{ls:E Lk}{s:R}{v:E (ii R)}(I:FI n ls s M T v W ex)(h:∀ r i l,ls[i]?=Z l->ox l r->ex r i->ex' r i):FI n ls s M T v W ex' :=
 #[I.w0,I.tl,I.vl,I.st,I.vs,I.nn,I.bd,I.pr,I.up,λr x i l e N C t=>by
  obtain z|z:=I.rl r x i l e N C t
  .exact .inl (h r i l C t z)
  .exact .inr z,I.wk]
theorem ah(h:H p=kf)(o:HO):Same H (upd H p o):=λb u q=>by rw[ao (aB q h)];exact q
theorem aC{l:eN}(h:Same H H2)(hl:H l=kf)(o:HO):Same H (upd H2 l o):=λb u q=>by rw[ao (aB q hl)];exact h b u q
def fu(s:mo)(h:H' p=kf):H p=kf:=by
 cases y:H p with
 |none=>rfl
 |some o=>rw[s _ _ y]at h;cases h
def iV(p:R):V:=.int (p:G)
theorem at0{x:V}:atI [x,y] 0=Z x:=rfl
theorem at1{x:V}:atI [x,y] 1=Z y:=rfl
theorem a30{x z:V}:atI [x,y,z] 0=Z x:=rfl
theorem a31{x z:V}:atI [x,y,z] 1=Z y:=rfl
theorem a32{x z:V}:atI [x,y,z] 2=Z z:=rfl
def LkAt(H:Hp)(v:V)(l:Lk):Prop:=∃ t,v=.ref t/\H t=Z (.tup [.int (l.1:G),.int (l.2.1:G),.int l.2.2])
def LnAt(H:Hp)(v:V)(ls:E Lk):Prop:=∃ a j,v=.ref a/\H a=Z (.lst j)/\LsAt LkAt H j ls
def LkAt.mono{p:Lk}(h:LkAt H v p)(s:mo):LkAt H' v p:=by
 let t e z:=h;erw[t,e,s _ _ z]
def LnAt.mono{H H':Hp}{v:V}{r:E Lk}(h:LnAt H v r)(s:mo):LnAt H' v r:=by
 let a j e z l:=h;erw[a,j,e,s _ _ z,l.imp λ_ _ q=>q.mono s]
def MM:R:=10^31
structure Lok(n:R)(ls:E Lk):Prop where
 n1:n<=40
 l9:ls.L<=60
 sm:∀ l∈ls,l.1<n/\l.2.1<n
 w0:∀ l∈ls,0<=l.2.2/\l.2.2<=(MM:G)
def bV(S:eN->Prop)(H:Hp)(xs:E V)(ts:mx):Prop:=xs.L=ts.L/\∀(i:R)(l:E R),ts[i]?=Z l->∃ p,xs[i]?=Z (.ref p)/\¬ S p/\H p=Z (.lst (l.h iV))
theorem bV.mono{S:eN->Prop}(h:bV S H xs ts)(s:∀ b u,¬ S b->H b=Z u->H' b=Z u):bV S H' xs ts:=#[h.1,λi e q=>by
 let p a n b:=h.2 i e q
 erw[p,a,n,s _ _ n b]]
def bV.snoc{S:eN->Prop}(h:bV S H xs ts)(n:¬ S q)(e:H q=Z (.lst (l.h iV))):bV S H (xs++[.ref q]) (ts++[l]):=by
 erw[by rw[Ls,Ls,h.1];rfl,λj k O=>?_]
 by_cases I:j<ts.L
 .rw[Lu I]at O;let p T L M:=h.2 j k O;erw[p,by rw[Lu (by rw[h.1];exact I)];exact T,L,M]
 .rw[Lq (N4 I)]at O;let b:j=ts.L:=by
   let:=(Ll.mp O).1;rw[LZ]at this;lia
  subst b;rw[Mb]at O
  cases O
  erw[q,by rw[← h.1,Lq (Lo _),Mb];rfl,n,e]
def Dist(xs:E V):Prop:=∀(i j:R)(p:eN),xs[i]?=Z (.ref p)->xs[j]?=Z (.ref p)->i=j
def bV.set{S:eN->Prop}(h:bV S H xs ts)(D:Dist xs)(e:xs[i]?=Z (.ref p)):bV S (upd H p (.lst (l'.h iV))) xs (ts.set i l'):=by
 erw[by rw[Nn];exact h.1,λj l z=>?_]
 let B:i<ts.L:=by rw[← h.1];exact(Ll.mp e).1
 rw[NY]at z;by_cases I:i=j
 .subst I;rw[Rw U,Rw B]at z
  cases z
  let a T n M:=h.2 i _ (Lj B);rw[e]at T
  cases T
  erw[p,e,n,af]
 .rw[Rx I]at z;let a T n M:=h.2 j l z;erw[a,T,n,by rw[ao (λy=>by rw[y]at T;exact I (D i j p e T))];exact M]
def qu{S:eN->Prop}(h:bV S H xs ts)(D:Dist xs)(d:H q=kf):Dist (xs++[.ref q]):=by
 let u:∀ i p,xs[i]?=Z (V.ref p)->p≠q:=λi p e z=>by
  let B:i<ts.L:=by rw[← h.1];exact(Ll.mp e).1
  let I T _ M:=h.2 i _ (Lj B);simp!
 let b:∀ i p,(xs++[V.ref q])[i]?=Z (V.ref p)->(xs[i]?=Z (V.ref p))∨(i=xs.L/\p=q):=λi p e=>by
  by_cases c:i<xs.L
  .rw[Lu c]at e;exact .inl e
  .rw[Lq (N4 c)]at e;let O:=(Ll.mp e).1;rw[LZ]at O;let ef:i-xs.L=0:=by lia
   rw[ef]at e;grind
 intro i j p f A;obtain Y|⟨Y,g⟩:=b i p f
 .obtain O|⟨O,a⟩:=b j p A
  .exact D i j p Y O
  .exact Ry a (u i p Y)
 .grind
structure AtM(n c:R)(rows:mx)(mem:R->R->Prop):Prop where
 len:rows.L=n
 mm:∀(r:R)(row:E R),rows[r]?=Z row->∀ j,j∈row↔mem r j
 few:∀ row∈rows,row.L<=c
def AtM.put{c:R}{rows:mx}{mem:R->R->Prop}(h:AtM n c rows mem){a:R}(hl:rows[a]?=Z l):AtM n (c+1) (rows.set a (l++[i])) (λr j=>mem r j∨(r=a/\j=i)):=by
 let o:=(Ll.mp hl).1;erw[by rw[Nn];exact h.len,λr row e j=>?_,λrow N=>?_]
 .rw[Aa o]at e;by_cases z:a=r
  .rw[Rw z]at e
   cases e
   subst z;rw[LY,LB,h.mm a l hl j];lia
  .rw[Rx z]at e;rw[h.mm r row e j];erw[.inl,λy=>y.elim id λy=>Ry y.1.Y z]
 .obtain y|y:=Ol N
  .let:=h.few row y;lia
  .let:=h.few l (Lm hl)
   simp[*]
def memL(ls:E Lk)(r j:R):Prop:=∃ l,ls[j]?=Z l/\ox l r
structure Txt(mg:ff->ii eK):Prop where
 n_len:mg "len"=kf
 n_int:mg "int"=kf
 n_bool:mg "bool"=kf
 n_list:mg "list"=kf
 n_tuple:mg "tuple"=kf
 n_range:mg "range"=kf
 n_min:mg "min"=kf
 n_abs:mg "abs"=kf
 n_enumerate:mg "enumerate"=kf
 n_isinstance:mg "isinstance"=kf
inductive Jy
 |mk (v:V)(l:Lk)(r:R) (_:vs=[v,.int (r:G)])(_:LkAt H v l)(_:Q (.int ((bey l r:R):G)) H)
inductive spAt
 |mk (v:V)(n:R)(ls:E Lk) (_:vs=[.int (n:G),v])(_:LnAt H v ls)(_:Lok n ls)(_:∀(p:eN)(ys:E V)(rows:mx) H',mo->H p=kf->H' p=Z (.lst ys)->bV (λq=>q=p∨H q≠kf) H' ys rows->AtM n 120 rows (memL ls)->Q (.ref p) H')
def CB:aw ["link","room"] ["link","room"] (aq oO):=by ac_nf
def ok_bey(F:Fun K "beyond" "beyond" oO f fd):kt 1 f fd ["link","room"] Jy:=by
 refine F.ok CB (by walk_at "l") λg A o s H n Q ef N h=>?_
 let v l r rfl{t rfl u}q:=h;intro B I;erw[_,(aj (aF (g9 (aA eO (pv 1) (cR (pv 0) ak) (aH _)) (cR (pv 0) ak) (cR (pv 0) ak)))),3];erw[153,t,_,00,41,SqT.of u,a30,230];refine ite2 (λc=>?_) (λc=>?_)
 .let k:r=l.1:=by lia
  let e:bey l r=l.2.1:=by unfold bey;rw[Rw k]
  rw[e]at q;erw[9,t,_,01,41,SqT.of u,a31,q]
 .let k:¬ r=l.1:=λz=>c (QG (congrArg V.int ∅))
  let e:bey l r=l.1:=by unfold bey;rw[Rx k]
  rw[e]at q;erw[9,t,_,00,41,SqT.of u,a30,q]
def gO:aw ["many","links","at","number","link"] ["many","links"] (aq jV):=by ac_nf
def ok_at(F:Fun K "links_at" "links_at" jV f fd)(T:Txt mg):kt 1 f fd ["many","links"] spAt:=by
 refine F.ok gO (by walk_at "l") λeg A o s H m Q ef N h=>?_
 let v n ls rfl{a xs rfl hA hL}ok q:=h;let n1:=ok.n1;let l9:=ok.l9;let xl:=hL.1
 intro Xc Dc;erw[_,(ag (nA 2 [] ["room"] gO.nd (bf U T.n_range (ae (pv 0) ai)) pg_c pt_c (λC ex s H=>(bC ai)))
   (ag (mj (kU U T.n_enumerate (ae (pv 1) ai)) (iM U (ay (bp 3 gO.nd) (ay (bp 4 gO.nd) br))) (ag (aR (d7 LG LN LL aO (bA (pv 2) (cR (pv 4) ak)) (ae (pv 3) ai)))
   (aj (aR (d7 LG LN LL aO (bA (pv 2) (cR (pv 4) ak)) (ae (pv 3) ai))))))
   (aj (aF (pv 2))))),3]
 erw[5273,cH (n:=(n:G).U) (λi g M=>Same H M/\bV (λp=>H p≠kf) M g (Lz i [])/\Dist g) (by rw[Ly];exact LK (ar ∅)) #[λ_ _ e=>e,#[U,λi l e=>by simp at e],λi j p e=>by contradiction] ?_ ?_]
 .rintro i g M B ⟨k,rx,D⟩;erw[(by simp),λl I=>?_]
  let d:=ah I (.lst []);erw[k.Q d,3,qu rx D I];rw[Nk];exact(rx.mono λb u _ z=>d _ _ z).snoc (λz=>z (fu k I)) af
 rintro g M a8 ⟨k,rx,D⟩ pn an;rw[Ly]at rx;let d:=ah an (.lst g);let be:H pn=kf:=fu k an
 let bi:bV (λp=>p=pn∨H p≠kf) (upd M pn (.lst g)) g (Lz n []):=#[rx.1,λi l z=>by
  let p a1 a2 a3:=rx.2 i l z;let n2:p≠pn:=aB a3 an
  erw[p,a1,by rintro(y|y);exact n2 y;exact a2 y,d _ _ a3]]
 let m0:AtM n 0 (Lz n []) (memL (ls.j 0)):=#[N0,λr row e j=>by
  let:=(List.mem_replicate.mp (Lm e)).2;subst this
  erw[(λz=>nomatch z),λ⟨l,z,_⟩=>by contradiction],λrow N=>by simp!]
 erw[9,a,U,#[_,SqL.of ((k.Q d) _ _ hA)],uj (K:=K) (xs:=xs) (λi L H5=>∃ v4 v5 rows,L=[Z (.int (n:G)),Z (.ref a),Z (.ref pn),v4,v5]/\Same H H5/\H5 pn=Z (.lst g)/\bV (λp=>p=pn∨H p≠kf) H5 g rows/\AtM n (2*i) rows (memL (ls.j i)))
  #[149,k.Q d,af,bi,m0] (λi L H5 _ aa=>by let _ _ _ _ z _:=aa;exact SqL.of (z _ _ hA)) ?_ ?_]
 .rintro i x L H5 T2 J ⟨v4,v5,rows,rfl,s5,aI,aS,am⟩ ac;let l I p rfl t:=hL.get J;let b1 b2:=ok.sm l (Lm I);let sT:=ah ac (.tup [.int (i:G),.ref p]);let s6:=s5.Q sT;let a9:=s6 _ _ t;let al:=am.len;let bJ:i<ls.L:=(Ll.mp I).1;let r1 ab:∃ r,rows[l.1]?=Z r:=#[_,Lj ∅]
  let ba:bV (λp=>p=pn∨H p≠kf) (upd H5 T2 (.tup [.int (i:G),.ref p])) g rows:=aS.mono λb u _ z=>sT _ _ z;let p1 y1 y2 y3:=ba.2 _ _ ab;let a4:∀{p:eN},¬ (p=pn∨H p≠kf)->H p=kf/\p≠pn:=λ{p} n=>by
   simp!
  let aT bm:=a4 y2;let f1:=am.few r1 (Lm ab);let a5:=sT _ _ aI;erw[T2,9,SqT.of af,238998];erw[153,p,_,00,41,SqT.of a9,a30,pn,g,165,SqL.of a5,aE y1,.inl #[6,SqL.of y3],9,p1,165,y3,ar (by rw[Lp];lia),3]
  let av:(r1.h iV)++[V.int (i:G)]=(r1++[i]).h iV:=by rw[LH];rfl
  rw[av];let bz:=ba.set D y1 (l':=r1++[i]);let bB:=am.put (i:=i) ab;let s7:Same H (upd (upd H5 T2 (.tup [.int (i:G),.ref p])) p1 (.lst ((r1++[i]).h iV))):=aC s6 aT _;let bb:=s7 _ _ t;let a6:(upd (upd H5 T2 (.tup [.int (i:G),.ref p])) p1 (.lst ((r1++[i]).h iV))) pn=Z (.lst g):=by rw[ao bm.Y];exact a5
  let r2 aZ:∃ r,(rows.set l.1 (r1++[i]))[l.2.1]?=Z r:=#[_,Lj (by simp[*])]
  let p2 z1 z2 z3:=bz.2 _ _ aZ;let ap bn:=a4 z2;let f2:=bB.few r2 (Lm aZ);erw[153,p,_,01,41,SqT.of bb,a31,pn,g,165,SqL.of a6,aE z1,.inl #[6,SqL.of z3],9,p2,165,z3,ar (by grind),3]
  let a0:(r2.h iV)++[V.int (i:G)]=(r2++[i]).h iV:=by rw[LH];rfl
  rw[a0];let bv:=bB.put (i:=i) aZ;erw[5,(rows.set l.1 (r1++[i])).set l.2.1 (r2++[i]),U,aC s7 ap _,by rw[ao bn.Y];exact a6,bz.set D z1,bv.len,λr row e j=>?_,λrow N=>?_]
  .rw[bv.mm r row e j];unfold memL;rw[LI,I];let a7:(ls.j i).L=i:=by rw[Me];lia
   constructor
   .rintro((⟨l',Y,O⟩|⟨Y,O⟩)|⟨Y,O⟩)
    .erw[l',by rw[Lu (Ll.mp Y).1];exact Y,O]
    .subst O;erw[l,by rw[Lq ∅,a7,Mb];rfl,.inl Y]
    .subst O;erw[l,by rw[Lq ∅,a7,Mb];rfl,.inr Y]
   .rintro⟨l',Y,O⟩;by_cases c:j<i
    .rw[Lu ∅]at Y
     exact .inl (.inl #[l',Y,O])
    .rw[Lq ∅]at Y
     let h3:=(Ll.mp Y).1;let h4:j=i:=by
      let:(ii.toList (Z l)).L=1:=rfl;lia
     subst h4;rw[a7,Mb]at Y
     cases Y
     obtain O|O:=O
     .exact .inl (.inr #[O,U])
     .exact .inr #[O,U]
  .let:=bv.few row N;lia
 .rintro L H5 ⟨v4,v5,rows,rfl,s5,aI,aS,am⟩;rw[xl,LQ]at am;erw[9,q pn g rows H5 s5 be aI aS #[am.len,am.mm,λrow N=>by let:=am.few row N;lia]]
inductive spBits
 |mk (n:G) (_:vs=[.int n])(_:0<=n)(_:n<1208925819614629174706176)(_:∀ r H',mo->H r=kf->H' r=Z (.lst ((K2.bitsF 0 n.U).h iV))->Q (.ref r) H')
def m6:aw ["mask","numbers","number","rest"] ["mask"] (aq Ae):=by ac_nf
def ok_bits(F:Fun K "bits" "bits" Ae f fd):kt 1 f fd ["mask"] spBits:=by
 refine F.ok m6 (by walk_at "l") λg A I s H m Q ef N h=>?_
 let n rfl p Y k:=h
 intro x eg;erw[_,(ag (az 1 m6.nd (bC ai))
   (ag (az 2 m6.nd ak)
   (ag (az 3 m6.nd (pv 0))
   (ag (fN PassesOwn.never (aA yj (pv 3) ak (aH _)) (ag (cz (aA eO (ax iO (pv 3) ak) ak (aH _)) (aj (aR (d7 LG LN LL aO (pv 1) (ae (pv 2) ai)))) aQ)
   (ag (az 3 m6.nd (ax kX (pv 3) ak))
   (aj (az 2 m6.nd (ax cV (pv 2) ak))))))
   (aj (aF (pv 1))))))),3]
 erw[(by show 0<=P7;decide),λl C=>?_]
 let ac:(2:R)^80=1208925819614629174706176:=by decide
 let u:(K2.bitsF 0 n.U).L<=80:=K2.bitsF_len 80 n.U 0 ∅
 erw[9,gL (λL O=>∃(kn rn:R)(aa:E R),L=[Z (.int n),Z (.ref l),Z (.int (kn:G)),Z (.int (rn:G))]/\O l=Z (.lst (aa.h iV))/\aa++K2.bitsF kn rn=K2.bitsF 0 n.U/\Same H O)
  (λL _=>match L with | [_,_,_,Z (.int r)]=>r.U|_=>0) #[00,n.U,[],3,af,U,ah C _] ?_ ?_]
 .let e:((n.U:R):G)=n:=by lia
  rw[e];rfl
 .rintro L O ⟨kn,rn,aa,rfl,T,M,y⟩;erw[236121];refine ite2 (λc=>?_) (λc=>?_)
  .let t:(0:G)<(rn:G):=Rl c
   let d2:((rn:G)/2)=((rn/2:R):G):=by lia
   let ab:aa.L<=80:=by
    let:=congrArg List.length M;rw[Ls]at this;lia
   walk_at "rd";refine ite2 (λo=>?_) (λo=>?_)
   .let D:(rn:G)%2=1:=V.int.inj (Rl o)
    erw[9,.inl #[6,SqL.of T],9,l,165,T,ar (by rw[Lp];lia),3]
    walk_at "rd";erw[#[kn+1,rn/2,aa++[kn],255],3]
    .show[Z (V.int n),Z (V.ref l),Z (V.int ((kn:G)+1)),Z (V.int ((rn:G)/2))]=_;rw[d2];rfl
    .rw[af,LH];rfl
    .rw[NZ,← M];let z:=K2.bitsF_odd (k:=kn) (n:=rn) ∅
     rw[z];rfl
    .exact aC y C _
    .show((rn:G)/2).U<((rn:R):G).U;lia
   .let D:¬ (rn:G)%2=1:=λz=>o (QG (congrArg V.int z))
    walk_at "rd";erw[#[kn+1,rn/2,aa,3,T,3,y],3]
    .show[Z (V.int n),Z (V.ref l),Z (V.int ((kn:G)+1)),Z (V.int ((rn:G)/2))]=_;rw[d2];rfl
    .rw[← M,K2.bitsF_even (k:=kn) (n:=rn) ∅ ∅]
    .show((rn:G)/2).U<((rn:R):G).U;lia
  .let t:¬ (0:G)<(rn:G):=λz=>c (QG z)
   let z:rn=0:=by lia
   subst z;rw[K2.bitsF_zero,Nd]at M;erw[57];exact k l O y C (by rw[T,M])
 .rintro L O Q1 Q2 B ⟨v,e,i,j,a,b,d,J,q⟩;erw[v,e,i,j,a,b,d,J,B _ _ q]
def flat(PL:E (R×R)):E R:=PL.flatMap λp=>[p.1,p.2]
def cst(d:R->R->G)(PL:E (R×R)):G:=(PL.h λp=>d p.1 p.2).sum
def Cs(d:R->R->G)(S:E R)(c:G):Prop:=∃ k,(flat k).Perm S/\cst d k=c
structure Met(n:R)(d:R->R->G):Prop where
 sy:∀ a b,d a b=d b a
 nn:∀ a b,0<=d a b
 tr:∀ a b c,a<n->b<n->c<n->d a c<=d a b+d b c
theorem flat_cons(p:R×R)(PL:E (R×R)):flat (p::PL)=p.1::p.2::flat PL:=rfl
def kr(d:R->R->G)(p:R×R)(PL:E (R×R)):cst d (p::PL)=d p.1 p.2+cst d PL:=by rfl
def Cs.perm{d:R->R->G}{S:E R}{c:G}(h:Cs d S c)(p:S.Perm l):Cs d l c:=by
 let k Y O:=h;erw[k,Y.Q p,O]
theorem part0{d:R->R->G}(sy:∀ a b,d a b=d b a){a:R}:∀{PL:E (R×R)},a∈flat PL->∃ e f,(flat PL).Perm (a::e::flat f)/\cst d PL=d a e+cst d f
 |[],h=>nomatch h
 | (x,y)::PL,h=>by
  rw[flat_cons]at h;by_cases c1:a=x
  .subst c1;erw[y,PL,.refl _,kr ..]
  by_cases c2:a=y
  .subst c2;erw[x,PL,.swap _ _ _,by rw[kr];simp[*]]
  let eg:a∈flat PL:=by simp!
  let e f p i:=part0 sy eg;erw[e,(x,y)::f,3,by rw[kr,kr,i];lia]
  rw[flat_cons,flat_cons];let I:(x::y::flat PL).Perm (x::y::a::e::flat f):=(p.cons y).cons x;refine I.Q ?_;let ef:([x,y]++([a,e]++flat f)).Perm ([a,e]++([x,y]++flat f)):=by
   rw[← NZ,← NZ];exact(OE).append_right _
  exact ef
def Cs.part{d:R->R->G}(sy:∀ a b,d a b=d b a){S:E R}{c:G}{a:R}(h:Cs d S c)(o:a∈S):∃ e ad c0,S.Perm (a::e::ad)/\Cs d ad c0/\c=d a e+c0:=by
 let k p i:=h;let e f I g:=part0 sy (p.mem_iff.mpr o);erw[e,flat f,cst d f,p.Y.Q I,#[f,.refl _,U],by rw[← i,g]]
def Cs.add{d:R->R->G}{ad:E R}{c0:G}(a e:R)(h:Cs d ad c0):Cs d (a::e::ad) (d a e+c0):=by
 let k p i:=h;erw[(a,e)::k,by rw[flat_cons];exact(p.cons e).cons a,by rw[kr,i]]
def tog(S:E R)(a:R):E R:=if a∈S then S.erase a else a::S
def tog_nd{S:E R}(h:S.l)(a:R):(tog S a).l:=by
 unfold tog;split
 .exact h.erase _
 .exact LV.mpr #[by assumption,h]
def oH{S:E R}(p:S.Perm l)(a:R):(tog S a).Perm (tog l a):=by
 unfold tog;by_cases c:a∈S
 .rw[Rw c,Rw (p.mem_iff.mp c)];exact p.erase a
 .rw[Rx c,Rx (λz=>c (p.mem_iff.mpr z))];exact p.cons a
def Jn{S:E R}(h:S.l)(a:R):(tog (tog S a) a).Perm S:=by
 by_cases c:a∈S
 .let e:tog S a=S.erase a:=by unfold tog;rw[Rw c]
  let n:a∉S.erase a:=h.not_mem_erase;let A:tog (S.erase a) a=a::S.erase a:=by unfold tog;rw[Rx n]
  rw[e,A];exact(N5 c).Y
 .let e:tog S a=a::S:=by unfold tog;rw[Rx c]
  let A:tog (a::S) a=S:=by unfold tog;simp
  rw[e,A]
def Ks{S:E R}(h:S.l){a x:R}:x∈tog S a↔(x∈S/\x≠a)∨(x=a/\a∉S):=by
 unfold tog;by_cases c:a∈S
 .rw[Rw c,h.mem_erase_iff];erw[λz=>.inl #[z.2,z.1],λz=>z.elim (λy=>#[y.2,y.1]) λy=>Ry c y.2]
 .rw[Rx c,Lw];constructor
  .rintro(z|z)
   .exact .inr #[z,c]
   .exact .inl #[z,λy=>c (y▸z)]
  .rintro(z|z)
   .exact .inr z.1
   .exact .inl z.1
def Cs.two{d:R->R->G}(M:Met n d){S:E R}{c:G}(nd:S.l)(lt:∀ x∈S,x<n)(h:Cs d S c){a b:R}(o:a<n)(g:b<n):∃ c',Cs d (tog (tog S a) b) c'/\c'<=c+d a b:=by
 let s:=M.nn a b;by_cases u:a=b
 .subst u;erw[c,h.perm (Jn nd a).Y,4]
 by_cases l:a∈S
 .let e ad c0 p A i:=h.part M.sy l;let r:tog S a=S.erase a:=by unfold tog;rw[Rw l]
  let I:(S.erase a).Perm (e::ad):=by
   let:=p.erase a;rw[Nl]at this;exact this
  let k:e<n:=lt e (p.mem_iff.mpr (Lr _ (Lv ..)));rw[r];by_cases D:b∈S.erase a
  .let t:tog (S.erase a) b=(S.erase a).erase b:=by unfold tog;rw[Rw D]
   rw[t];by_cases w:e=b
   .subst w;let v:=I.erase e;rw[Nl]at v;erw[c0,A.perm v.Y,3];lia
   .let y:b∈ad:=by
     rcases Lw.mp (I.mem_iff.mp D)with z|z
     .exact Ry z.Y w
     .exact z
    let f R2 c1 q Y B:=A.part M.sy y;let flt:f<n:=lt f (p.mem_iff.mpr (Lr _ (Lr _ (q.mem_iff.mpr (Lr _ (Lv ..))))));let v:((S.erase a).erase b).Perm (e::f::R2):=by
     let H:(S.erase a).Perm (b::e::f::R2):=I.Q ((q.cons e).Q (.swap _ _ _));let Q:=H.erase b;rw[Nl]at Q;exact Q
    erw[d e f+c1,(Y.add e f).perm v.Y,3];let j:=M.tr e a f k o flt;let C:=M.tr a b f o g flt;let m:=M.sy e a;lia
  .let t:tog (S.erase a) b=b::S.erase a:=by unfold tog;rw[Rx D]
   rw[t];erw[d b e+c0,(A.add b e).perm (I.Y.cons b),3];let j:=M.tr b a e g o k;let m:=M.sy b a;lia
 .let r:tog S a=a::S:=by unfold tog;rw[Rx l]
  rw[r];by_cases D:b∈S
  .let t:tog (a::S) b=a::S.erase b:=by
    unfold tog;simp[*]
   rw[t];let e ad c0 p A i:=h.part M.sy D;let I:(S.erase b).Perm (e::ad):=by
    let:=p.erase b;rw[Nl]at this;exact this
   let k:e<n:=lt e (p.mem_iff.mpr (Lr _ (Lv ..)));erw[d a e+c0,(A.add a e).perm (I.Y.cons a),3];let j:=M.tr a b e o g k;lia
  .let t:tog (a::S) b=b::a::S:=by
    unfold tog;rw[Rx (λz=>by simp!)]
   rw[t];erw[d b a+c,h.add b a,3];let:=M.sy b a;lia
end KF
variable{ls:E KF.Lk}
namespace KF
open PySem L2
def lpF:Pos:=#[074,032,074,055]
def Fun.okT{j:ff}{st:fo}{c TT:eN}{N:E ff}{k:R}(F:Fun K x j st f fd)(S:aw N ps (aq st))(u:NH K x=some (c,TT))(y:L8 K P9 x=some (some (.ref f)))(len:∀ vs H Q ef,sp vs H Q ef->vs.L=ps.L)(i:∀(A:Around)(outer:E gi)(s:e9)(H:Hp)(vs:E V)(Q:VK)(ef:XK),Room k (A.deeper (PyProof.Rows.envOfC j (aq st) s.H.M.J f (.ref c)))->sp vs H Q ef ->
   let X:=(cxOf CX0 P w K mg base N j (aq st) f (.ref c) A outer s H ef).nox;let D:Ends:={nx:=λ_ H'=>Q .non H',rt:=Q};∃ t,PSs X (bq st) t/\t D (n8 N vs) H):kt (k+1) f fd ps sp:=by
 let l m kV B T p g a b rfl v z:=F.ex;let e:g=.ref c:=by
  unfold NH at u;rw[y]at u;simp only[v]at u
  cases g<;>first|(contradiction)|skip
  simp only at u;split at u
  .split at u
   .simp!
   .contradiction
  .cases u
 subst e;refine Ed v z S len λA outer s H vs Q ef eg I=>?_;let t h q:=i A outer s H vs Q ef eg I;erw[t,h.nox,q]
def oV:ii G->V|none=>.non|some x=>.int x
def oN:ii R->V|none=>.non|some k=>.int (k:G)
def kw(r:R):Key×V:=(Sum.inl (r:G),.bl i0)
def lqF:ff:=("fares" : ff)++".<locals>."++"<lambda>"
def sF(d va wd TT p:eN):Prop:=p=TT∨p=d∨p=va∨p=wd
def KpS(S:eN->Prop)(H H':Hp):Prop:=∀ b o,¬ S b->H b=Z o->H' b=Z o
theorem KpS.upd{S:eN->Prop}(a:KpS S H H1)(Y:S p)(o:HO):KpS S H (L2.upd H1 p o):=λc u n h=>by
 rw[ao (λz=>n (by rw[z];exact Y))]
 exact a c u n h
inductive spFares(TT:eN)
 |mk (v:V)(n s:R)(ls:E Lk) (_:vs=[.int (n:G),v,.int (s:G)])(_:LnAt H v ls)(_:Lok n ls)(_:s<n)(_:Tb lqF lpF TT H)(_:∀(t ta va:eN)(TL:E (ii G))(VL:E (ii R)) H',TbS TT H H'->Tb lqF lpF TT H'->H ta=kf->H va=kf->H' t=Z (.tup [.ref ta,.ref va])->H' ta=Z (.lst (TL.h oV))->H' va=Z (.lst (VL.h oN))->FI n ls s MM TL VL [] (λ_ _=>False)->Q (.ref t) H')
structure FH(ta va wd TT:eN)(n s:R)(ls:E Lk)(H1:Hp)(TL:E (ii G))(VL:E (ii R))(W:E R)(ex:R->R->Prop)(H:Hp):Prop where
 kp:KpS (sF ta va wd TT) H1 H
 ht:H ta=Z (.lst (TL.h oV))
 hv:H va=Z (.lst (VL.h oN))
 hw:H wd=Z (.dK (W.h kw))
 tb:Tb lqF lpF TT H
 fi:FI n ls s MM TL VL W ex
 nd:W.l
def vW(n:R)(v:V):R:=match v with | .int x=>x.U|_=>n*MM+1
def mesH(n:R)(d wd:eN)(H:Hp):R:=match H d,H wd with
 |some (.lst D),Z (.dK N)=>(D.h (vW n)).sum*(n+1)+N.L
 |_,_=>0
def FH.mes{TT:eN}{s:R}{g:E (ii R)}(h:FH a va wd TT n s ls H1 T g W ex H):mesH n a wd H=wgt (n*MM+1) T*(n+1)+W.L:=by
 unfold mesH wgt;rw[h.ht,h.hw];let e:(T.h oV).h (vW n)=T.h (vOf (n*MM+1)):=by
  rw[MH];refine MA λo _=>?_
  cases o<;>rfl
 simp[*]
theorem FH.wlen{TT:eN}{s:R}{g:E (ii R)}(h:FH a va wd TT n s ls H1 T g W ex H):W.L<=n :=
 mE n W h.nd λx J=>by
  let y Q:=h.fi.wk x J;let:=(Ll.mp Q).1;rw[h.fi.tl]at this;exact this
def Iw{r s:R}(h:(kw r).1=(kw s).1):r=s:=by
 let:(r:G)=(s:G):=by injection h
 lia
theorem B3{r:R}:∀{W:E R},r∈W->valV (W.h kw) (.inl (r:G))=Z (.bl i0)
 |w::W,h=>by
  rw[LR];by_cases c:(kw w).1=Sum.inl (r:G)
  .rw[bE c];rfl
  .rw[bF c];refine B3 ?_;obtain h|h:=Lw.mp h
   .exact Ry (by rw[h];rfl) c
   .exact h
theorem no_kw{r:R}:∀{W:E R},r∉W->valV (W.h kw) (.inl (r:G))=kf
 |[],_=>rfl
 |w::W,h=>by
  rw[LR,bF (λc=>h (by rw[Iw (r:=w) (s:=r) c];exact Lv ..))]
  exact no_kw λz=>h (Lr _ z)
theorem y7(r:R):∀ W:E R,oz (W.h kw) (.inl (r:G))=(W.filter (λx=>decide (x≠r))).h kw
 |[]=>rfl
 |w::W=>by
  rw[LR];by_cases c:w=r
  .rw[Ew (by rw[c];rfl),y7 r W,Ov (by simpa using c)]
  .rw[Ex (k:=Sum.inl (r:G)) (λz=>c (Iw (r:=w) (s:=r) z)),y7 r W,P4 (by simp!),LR]
def put_kw{t:R}(nd:W.l):∃ W':E R,putK (W.h kw) (.inl (t:G)) (.bl i0)=W'.h kw/\W'.l/\∀ r,r∈W'↔r∈W∨r=t:=by
 by_cases c:t∈W
 .erw[W,3,nd,λr=>#[.inl,λz=>z.elim id λz=>z▸c]];unfold putK;rw[gN,B3 c,ii.isSome_some,Rw U];rw[MH];refine MA λx _=>?_;show(if(kw x).1=Sum.inl (t:G) then((kw x).1,V.bl i0) else kw x)=kw x;split<;>rfl
 .erw[W++[t],by rw[sU _ (no_kw c),LH];rfl,yr nd c,λr=>by simp]
structure Sg(la aa ta va wd TT:eN)(n s:R)(ls:E Lk)(xs ys:E V)(rows:mx)(H1:Hp):Prop where
 hA:H1 la=Z (.lst xs)
 hL:LsAt LkAt H1 xs ls
 ok:Lok n ls
 hR:H1 aa=Z (.lst ys)
 rx:bV (sF ta va wd TT) H1 ys rows
 am:AtM n 120 rows (memL ls)
 nla:¬ sF ta va wd TT la
 naa:¬ sF ta va wd TT aa
 tt:∀ t o,H1 t=Z (.tup o)->¬ sF ta va wd TT t
 ntv:ta≠va
 ntw:ta≠wd
 nvw:va≠wd
 nTt:ta≠TT
 nTv:va≠TT
 nTw:wd≠TT
def pq{q:ff}{A:Pos}{TT:eN}(h:Tb q A TT H)(k:∀ b,(b=TT∨∃ c,H b=Z (codO c q))->H' b=H b):Tb q A TT H':=by
 obtain h|⟨c,Y,O⟩:=h
 .exact .inl ((k TT (.inl U)).Q h)
 .exact .inr #[c,(k TT (.inl U)).Q Y,(k c (.inr #[c,O])).Q O]
def FH.new{TT:eN}{s:R}{g:E (ii R)}(h:FH a va wd TT n s ls H1 T g W ex H)(Y:H p=kf)(o:HO):FH a va wd TT n s ls H1 T g W ex (upd H p o):=by
 let sm:=ah Y o;erw[λb u k e=>sm _ _ (h.kp b u k e),sm _ _ h.ht,sm _ _ h.hv,sm _ _ h.hw,pq h.tb λb M=>ao λz=>?_,h.fi,h.nd];subst z;obtain M|⟨c,M⟩:=M
 .subst M;obtain y|⟨_,y,_⟩:=h.tb<;>rw[Y]at y<;>cases y
 .simp!
theorem FH.tab{TT:eN}{s:R}{g:E (ii R)}(h:FH a va wd TT n s ls H1 T g W ex H)(d:a≠TT)(f:va≠TT)(c:wd≠TT)(sm:TbS TT H H')(tb:Tb lqF lpF TT H'):FH a va wd TT n s ls H1 T g W ex H' :=
 #[λb u k e=>sm _ _ (λz=>k (.inl z)) (h.kp b u k e),sm _ _ d h.ht,sm _ _ f h.hv,sm _ _ c h.hw,tb,h.fi,h.nd]
def FrI(b c d va wd TT:eN)(n s:R)(ls:E Lk)(H1:Hp)(L:St)(H:Hp):Prop:=∃(e h k a:ii V)(f:E (ii G))(g:E (ii R))(W:E R),
 L=[Z (.int (n:G)),Z (.ref b),Z (.int (s:G)),Z (.ref c),Z (.ref d),Z (.ref va),Z (.ref wd),e,h,k,a]/\FH d va wd TT n s ls H1 f g W (λ_ _=>False) H
def InI(b c d va wd TT:eN)(n s:R)(ls:E Lk)(row:E R)(m p e:R)(H1:Hp)(i:R)(L:St)(H:Hp):Prop:=∃(h k a:ii V)(f:E (ii G))(g:E (ii R))(W:E R),
 L=[Z (.int (n:G)),Z (.ref b),Z (.int (s:G)),Z (.ref c),Z (.ref d),Z (.ref va),Z (.ref wd),Z (.int (m:G)),h,k,a]/\FH d va wd TT n s ls H1 f g W (λr j=>r=m/\j∉row.j i) H/\(∃ x,f[m]?=Z (Z x)) /\
 ((wgt (n*MM+1) f=p/\W.L<e)∨wgt (n*MM+1) f<p)
inductive restF(la TT:eN)(n s:R)(ls:E Lk)(D:L2.Ends)(σ:L2.St)(H:L2.Hp):Prop
 |mk (aa ta va wd:eN)(xs ys:E V)(rows:mx)(H1:Hp)(v8 v9 v10:ii V)(TL:E (ii G))(VL:E (ii R))(W:E R)(m l0:R) (_:Sg la aa ta va wd TT n s ls xs ys rows H1)(_:σ=[Z (.int (n:G)),Z (.ref la),Z (.int (s:G)),Z (.ref aa),Z (.ref ta),Z (.ref va),Z (.ref wd),Z (.int (m:G)),v8,v9,v10])(_:FH ta va wd TT n s ls H1 TL VL W (λr _=>r=m) H)(_:(∃ x,TL[m]?=Z (Z x)))(_:W.L<l0)(_:∀ σ' H',FrI la aa ta va wd TT n s ls H1 σ' H'->mesH n ta wd H'<wgt (n*MM+1) TL*(n+1)+l0->D.nx σ' H')
inductive restM(la TT:eN)(n s:R)(ls:E Lk)(D:L2.Ends)(σ:L2.St)(H:L2.Hp):Prop
 |mk (aa ta va wd:eN)(xs ys:E V)(rows:mx)(H1:Hp)(TL:E (ii G))(VL:E (ii R))(W:E R)(m w0 l0 i k:R)(row:E R)(l:Lk)(x:G)(o:ii G) (_:Sg la aa ta va wd TT n s ls xs ys rows H1)(_:σ=[Z (.int (n:G)),Z (.ref la),Z (.int (s:G)),Z (.ref aa),Z (.ref ta),Z (.ref va),Z (.ref wd),Z (.int (m:G)),Z (.int (k:G)),Z (.int ((bey l m:R):G)),Z (.int (x+l.2.2))])(_:FH ta va wd TT n s ls H1 TL VL W (λr j=>r=m/\j∉row.j i) H)(_:ls[k]?=Z l)(_:ox l m)(_:TL[m]?=Z (Z x))(_:TL[bey l m]?=Z o)(_:(∀ y,o=Z y->x+l.2.2<y))(_:row[i]?=Z k)(_:((wgt (n*MM+1) TL=w0/\W.L<l0)∨wgt (n*MM+1) TL<w0))(_:∀ σ' H',InI la aa ta va wd TT n s ls row m w0 l0 H1 (i+1) σ' H'->D.nx σ' H')
theorem Ep{row:E R}{k:R}(g:row[i]?=Z k):∀ r j,(r=m/\j∉row.j i)->(r=m/\j∉row.j (i+1))∨(r=m/\j=k):=λr j ⟨Y,O⟩=>by
 by_cases c:j=k
 .exact .inr #[Y,c]
 .refine .inl #[Y,λz=>?_];rw[LI,g]at z;simp!
def yp{r:R}{o:ii G}(h:T[r]?=Z o):(T.h oV)[r]?=Z (oV o):=by simp[*]
def eJ:aw ["many","links","start","at","told","via","waiting","room","number","there","fare"] ["many","links","start"] (aq i6):=by ac_nf
def ok_fares{c TT:eN}{bb:fk}(F:Fun K "fares" "fares" i6 f fd)(T:Txt mg)(ht:NH K "fares"=Z (c,TT))(hn:L8 K P9 "fares"=Z (Z (.ref f)))(a0:Nw base c TT)(bZ:Bm mg base)(be:k9 1 "links_at" ["many","links"] spAt f1 eg)(a6:k9 1 "beyond" ["link","room"] Jy f2 bb):kt 2 f fd ["many","links","start"] (spFares TT):=by
 refine Fun.okT F eJ ht hn (λvs H Q ef h=>?_) (λA ab s H vs Q ef u h=>?_)
 .let v n a1 ls rfl _:=h;rfl
 let v n a1 ls rfl{la xs rfl hA hL}ok hs a9 kk:=h;let hu:=oy u;let aT:=u.units;let n1:=ok.n1;let l9:=ok.l9;let LM:∀ N,Lam (cxOf CX0 P w K mg base N "fares" (aq i6) f (.ref c) A ab s H ef).nox c TT (s.H.M.J+1) lqF:=λN=>#[U,a0,bZ,170]
 intro Xc Dc;erw[_,(ag (az 3 eJ.nd (be.c u (ae (pv 0) (ae (pv 1) ai))))
   (ag (az 4 eJ.nd (eM [] ["room"] (bf U T.n_range (ae (pv 0) ai)) pg_c pt_c (λC ex s H=>kC)))
   (ag (nA 5 [] ["room"] eJ.nd (bf U T.n_range (ae (pv 0) ai)) pg_c pt_c (λC ex s H=>kC))
   (ag (vp ak (vy (pv 4) (pv 2) jT))
   (ag (az 6 eJ.nd (tG (oP (pv 2) tH sW) U U (λz=>by cases z) ∅))
   (ag (fN PassesOwn.never (aA (op_neE aT) (pv 6) fO (aH _)) (ag (az 7 eJ.nd (JS (it:=4) (LM _) U U (u.mono ∅) U (Or.inr (Or.inl U)) U T.n_min (ae (pv 6) ai)))
   (ag (aR (FU (pv 6) (pv 7) #[170]))
   (x8 (t2:=restF la TT n a1 ls) (aj (mj (aJ (bA (pv 3) (pv 7))) (bp 8 eJ.nd) (ag (az 9 eJ.nd (a6.c u (ae (bA (pv 1) (pv 8)) (ae (pv 7) ai))))
   (ag (az 10 eJ.nd (ax cV (bA (pv 4) (pv 7)) (cR (bA (pv 1) (pv 8)) ak)))
   (aj (cz (PW.pt (xZ (aA Im (bA (pv 4) (pv 9)) kC (aH _)) (rh (aA A4 (pv 10) (bA (pv 4) (pv 9)) (aH _))))) (x8 (t2:=restM la TT n a1 ls) (ag (vp (pv 10) (vy (pv 4) (pv 9) jT))
   (ag (vp (pv 8) (vy (pv 5) (pv 9) jT))
   (aj (gm hu (pv 6) (pv 9) tH U)))) (λD0 S0 H0 h0=>?restm)) aQ)))))) (λD0 S0 H0 h0=>?restf)))))
   (aj (aF (cm (ae (pv 4) (ae (pv 5) ai))))))))))),3]
 case restm =>
  let aa ta va wd xs ys a8 H1 TL VL W m w0 l0 i k row l x o sg rfl fh I hm J ho al g bT kn:=h0;let tl:=fh.fi.tl;let vl:=fh.fi.vl;let tt:bey l m<n:=by rw[← tl];exact(Ll.mp ho).1
  let ch:=(fh.fi.w0 l (Lm I));let bU:=sg.ntv;let bi:=sg.ntw;let bB:=sg.nvw;let bP:=sg.nTt;let bR:=sg.nTv;let bz:=sg.nTw;erw[2457,ta,5,bey l m,10,fh.ht,t6 (by simp[*]),3]
  erw[2457,va,5,bey l m,10,by rw[ao (Ne.Y bU)];exact fh.hv,t6 (by simp[*]),3]
  let cp:(upd (upd H0 ta (.lst ((TL.h oV).set (bey l m) (.int (x+l.2.2))))) va (.lst ((VL.h oN).set (bey l m) (.int (k:G))))) wd=Z (.dK (W.h kw)):=by rw[ao (Ne.Y bB),ao (Ne.Y bi)];exact fh.hw
  let wl:=fh.wlen;erw[153,wd,9,DPut.k (k:=.inl ((bey l m:R):G)) (v:=.bl i0) cp (by rw[Lp];exact ar ∅),3]
  let W' eW cf mW:=put_kw (t:=bey l m) fh.nd;rw[eW];let j:(TL.h oV).set (bey l m) (.int (x+l.2.2))=(TL.set (bey l m) (Z (x+l.2.2))).h oV:=by rw[List.map_set];rfl
  let e2:(VL.h oN).set (bey l m) (.int (k:G))=(VL.set (bey l m) (Z k)).h oN:=by rw[List.map_set];rfl
  rw[j,e2];let cs:=fh.fi.mend (W':=W') I hm J ho al mW (Ep g);let cv:=Fo fh.fi ch.1 ch.2 J ho al;let nm:bey l m≠m:=λe=>by
   rw[e,J]at ho
   cases ho
   lia
  refine kn _ _ #[341,W',U,#[((fh.kp.upd (.inr (.inl U)) _).upd (.inr (.inr (.inl U))) _).upd (.inr (.inr (.inr U))) _,15,af,3,cs,cf],#[x,by simp[*]],.inr (by grind)]
  .rw[ao bi,ao bU];exact af
  .rw[ao bB];exact af
  .refine pq fh.tb λb M=>?_;rw[ao (λz=>?_),ao (λz=>?_),ao (λz=>?_)]
   .obtain M|⟨c',M⟩:=M
    .exact bP (z▸M)
    .rw[z,fh.ht]at M;cases M
   .obtain M|⟨c',M⟩:=M
    .exact bR (z▸M)
    .rw[z,fh.hv]at M;cases M
   .obtain M|⟨c',M⟩:=M
    .exact bz (z▸M)
    .rw[z,fh.hw]at M;cases M
 case restf =>
  let aa ta va wd xs ys a8 H1 v8 v9 a3 TL VL W m l0 sg rfl fh{x J}ci kn:=h0;let mn:m<n:=by rw[← fh.fi.tl];exact(Ll.mp J).1
  let rl:=sg.am.len;let row aZ:∃ row,a8[m]?=Z row:=#[_,Lj ∅]
  let pr r1 r2 r3:=sg.rx.2 _ _ aZ;let hR:=fh.kp _ _ sg.naa sg.hR;let ct:=fh.kp _ _ r2 r3;let av:=sg.am.few row (Lm aZ);erw[153,aa,661,SqL.of hR,aE r1,pr,U,#[_,SqL.of ct],bh (K:=K) (xs:=row.h iV) (InI la aa ta va wd TT n a1 ls row m (wgt (n*MM+1) TL) l0 H1) #[21,TL,VL,W,U,#[fh.kp,fh.ht,fh.hv,fh.hw,fh.tb,fh.fi.exw λr i l _ _ z=>#[z,by simp],fh.nd],#[x,J],.inl #[U,ci]] (λi L O _ z=>?_) ?_ ?_]
  .let _ _ _ _ _ _ _ f2 _:=z;exact SqL.of (f2.kp _ _ r2 r3)
  .rintro i y L O hy ⟨v8,v9,a3,bm,bY,W2,rfl,f2,⟨x2,bn⟩,bT⟩;rw[Lx]at hy;let k g rfl:=LC.mp hy;let l I aS:=(sg.am.mm m row aZ k).mp (Lm g);let lv ca b0:=sg.hL.2 k l I;let lt rfl cc:=b0;let cd:=f2.kp _ _ (sg.tt _ _ cc) cc;let ck:=f2.kp _ _ sg.nla sg.hA;let b1 b2:=sg.ok.sm l (Lm I);let tt:bey l m<n:=bey_lt b1 b2;let cw:=f2.fi.tl;let o ho:∃ o,bm[bey l m]?=Z o:=#[_,Lj ∅]
   erw[153,la,661,SqL.of ck,aE ca,9,.ref lt,l,m,U,#[lt,U,cd],3];erw[153,ta,661,SqL.of f2.ht,aE (yp bn),153,la,661,SqL.of ck,aE ca,lt,_,02,41,SqT.of cd,a32,933];erw[153,ta,661,SqL.of f2.ht,aE (yp ho),230]
   cases o with
   |none =>
    refine iteT (iteT ?_);erw[aa,ta,va,wd,xs,ys,a8,H1,bm,bY,W2,m,wgt (n*MM+1) TL,l0,i,k,row,l,x2,kf,sg,U,f2,I,aS,bn,ho,(λy e=>nomatch e),g,bT,λap H' z=>z]
   |some y0 =>
    refine iteF ?_;erw[2457,ta,661,SqL.of f2.ht,aE (yp ho),14757];refine ite2 (λc=>?_) (λc=>?_)
    .let c':x2+l.2.2<y0:=Rl c
     erw[aa,ta,va,wd,xs,ys,a8,H1,bm,bY,W2,m,wgt (n*MM+1) TL,l0,i,k,row,l,x2,Z y0,sg,U,f2,I,aS,bn,ho,(λy e=>by simp!),g,bT,λap H' z=>z]
    .let c':¬ x2+l.2.2<y0:=λz=>c (QG z)
     erw[21,bm,bY,W2,U,#[f2.kp,f2.ht,f2.hv,f2.hw,f2.tb,f2.fi.leave I bn ho ∅ (Ep g),f2.nd],#[x2,bn],bT]
  .rintro L O ⟨v8,v9,a3,bm,bY,W2,rfl,f2,_,bT⟩
   let an:FH ta va wd TT n a1 ls H1 bm bY W2 (λ_ _=>False) O:=#[f2.kp,f2.ht,f2.hv,f2.hw,f2.tb,f2.fi.exw λr i l I aS ⟨z1,z2⟩=>by
    subst z1;rw[Lp,LQ]at z2
    exact z2 ((sg.am.mm r row aZ i).mpr #[l,I,aS]),f2.nd]
   refine kn _ _ #[85,bm,bY,W2,U,an] ?_;rw[an.mes];let wl:=an.wlen;rcases bT with⟨d1,d2⟩|d
   .simp!
   .let Y:(wgt (n*MM+1) bm+1)*(n+1)<=wgt (n*MM+1) TL*(n+1):=OI _ d
    lia
 erw[153,.ref la,n,ls,U,#[la,xs,U,hA,hL],ok,λaa ys a8 Ha sa cl cu rx am=>?_];erw[5273,cH (n:=(n:G).U) (λi zs O=>O=Ha/\zs=Lz i V.non) (by rw[Ly];exact LK (ar ∅)) #[10] ?_ ?_]
 .rintro i zs O B ⟨rfl,rfl⟩;erw[U,by rw[Nk]]
 rintro zs O _ ⟨rfl,rfl⟩ ta a2;rw[Ly];let z1:=ah a2 (.lst (Lz n V.non));erw[5273,cH (n:=(n:G).U) (λi zs H3=>H3=upd O ta (.lst (Lz n V.non))/\zs=Lz i V.non) (by rw[Ly];exact LK (ar ∅)) #[10] ?_ ?_]
 .rintro i zs H3 B ⟨rfl,rfl⟩;erw[U,by rw[Nk]]
 rintro zs H3 _ ⟨rfl,rfl⟩ va a4;rw[Ly];let bU:ta≠va:=λz=>by rw[← z,af]at a4;contradiction
 let z2:=ah a4 (.lst (Lz n V.non));erw[153,ta,5,a1,10,by rw[ao bU];exact af,t6 (by simp[*]),3]
 intro wd cg;erw[9,af,[kw a1],U,(by show 1<=15;decide),3]
 let bi:ta≠wd:=λz=>by rw[← z,af]at cg;contradiction
 let b5:O va=kf:=fu z1 a4;let ce:(upd (upd O ta (.lst (Lz n V.non))) va (.lst (Lz n V.non))) wd=kf:=by rw[ao (Ne.Y bi)]at cg;exact cg
 let bB:va≠wd:=λz=>by rw[← z,af]at ce;contradiction
 let bK:O wd=kf:=fu (z1.Q z2) ce;let co:H TT≠kf:=by obtain y|⟨_,y,_⟩:=a9<;>rw[y]<;>simp
 let aI:O TT≠kf:=by
  cases y:H TT with
  |none=>contradiction
  |some o=>rw[sa _ _ y];simp
 let bP:ta≠TT:=λz=>aI (z▸a2);let bR:va≠TT:=λz=>aI (z▸b5);let bz:wd≠TT:=λz=>aI (z▸bK);let ba:Same O (upd (upd (upd (upd (upd O ta (.lst (Lz n V.non))) va (.lst (Lz n V.non))) ta (.lst ((Lz n V.non).set a1 (.int 0)))) wd (.dK [])) wd (.dK (eE [] [kw a1]))):=aC (aC (aC (z1.Q z2) a2 _) bK _) bK _;let eT:((Lz n V.non).set a1 (.int 0))=((Lz n (kf:ii G)).set a1 (Z 0)).h oV:=by rw[List.map_set,List.map_replicate];rfl
 let eV:(Lz n V.non)=(Lz n (kf:ii R)).h oN:=by rw[List.map_replicate];rfl
 let g1:(upd (upd (upd (upd (upd O ta (.lst (Lz n V.non))) va (.lst (Lz n V.non))) ta (.lst ((Lz n V.non).set a1 (.int 0)))) wd (.dK [])) wd (.dK (eE [] [kw a1]))) ta=Z (.lst (((Lz n (kf:ii G)).set a1 (Z 0)).h oV)):=by
  rw[ao bi,ao bi,← eT];exact af
 let g2:(upd (upd (upd (upd (upd O ta (.lst (Lz n V.non))) va (.lst (Lz n V.non))) ta (.lst ((Lz n V.non).set a1 (.int 0)))) wd (.dK [])) wd (.dK (eE [] [kw a1]))) va=Z (.lst ((Lz n (kf:ii R)).h oN)):=by
  rw[ao bB,ao bB,ao (Ne.Y bU),← eV];exact af
 let g3:(upd (upd (upd (upd (upd O ta (.lst (Lz n V.non))) va (.lst (Lz n V.non))) ta (.lst ((Lz n V.non).set a1 (.int 0)))) wd (.dK [])) wd (.dK (eE [] [kw a1]))) wd=Z (.dK ([a1].h kw)):=af;generalize (upd (upd (upd (upd (upd O ta (.lst (Lz n V.non))) va (.lst (Lz n V.non))) ta (.lst ((Lz n V.non).set a1 (.int 0)))) wd (.dK [])) wd (.dK (eE [] [kw a1])))=H1 at ba g1 g2 g3;let sH:Same H H1:=sa.Q ba;let nS:∀ b,O b≠kf->b≠TT->¬ sF ta va wd TT b:=λb M nT z=>by
  obtain z|z|z|z:=z
  .exact nT z
  .exact M (z▸a2)
  .exact M (z▸b5)
  .exact M (z▸bK)
 let sg:Sg la aa ta va wd TT n a1 ls xs ys a8 H1:=#[sH _ _ hA,hL.imp λ_ _ q=>q.mono sH,ok,ba _ _ cu,#[rx.1,λi l e=>by
   let p p1 p2 p3:=rx.2 i l e;erw[p,p1,nS p (by grind) (λz=>p2 (.inr (z▸co))),ba _ _ p3]],am,nS la (by rw[sa _ _ hA];simp) (λz=>by obtain y|⟨_,y,_⟩:=a9<;>rw[← z,hA]at y<;>cases y),nS aa (by simp!) (λz=>co (z▸cl)),(λt o e z=>by
   obtain z|z|z|z:=z
   .rw[z]at e;obtain y|⟨_,y,_⟩:=a9<;>rw[sH _ _ y]at e<;>cases e
   .rw[z,g1]at e;cases e
   .simp!
   .rw[z,g3]at e;cases e),bU,bi,bB,bP,bR,bz]
 let cb:Tb lqF lpF TT H1:=by
  obtain y|⟨c',y1,y2⟩:=a9
  .exact .inl (sH _ _ y)
  .exact .inr #[c',sH _ _ y1,sH _ _ y2]
 refine gL (FrI la aa ta va wd TT n a1 ls H1) (λ_ H'=>mesH n ta wd H') #[1365,[a1],U,#[λ_ _ _ e=>e,g1,g2,g3,cb,FI.first ok.w0 hs,LV.mpr #[(by simp),Na]]] ?_ ?_
 .rintro L H3 ⟨v7,v8,v9,a3,TL,VL,W,rfl,fh⟩;erw[9,λp D=>?_];let bJ:=fh.new D (.dK []);erw[wd,p,W.h kw,10,bJ.hw,af,57];refine ite2 (λc=>?_) (λc=>?_)
  .let ne:W.h kw≠[]:=λz=>by simp!
   erw[9,wd,W.h kw,ta,9,bJ.hw,ne,U,bJ.ht,bJ.tb,λkv b6=>?_,λkv b6 H4 bv a7=>?_]
   .let r u rfl:=LW.mp b6;let x J:=bJ.fi.wk r u;erw[r,x,U,yp J]
   let r u rfl:=LW.mp b6;let a5:=bJ.tab bP bR bz bv a7;let x J:=a5.fi.wk r u;erw[9,wd,U,.inl #[_,.inl a5.hw],9,W.h kw,.inl (r:G),.bl i0,a5.hw,U,B3 u,3];rw[y7];let mW:∀ y,y∈W.filter (λx=>decide (x≠r))↔y∈W/\y≠r:=λy=>by simp
   let lW:(W.filter (λx=>decide (x≠r))).L<W.L:=by simp[*]
   erw[aa,ta,va,wd,xs,ys,a8,H1,21,TL,VL,_,r,W.L,sg,U,#[a5.kp.upd (.inr (.inr (.inr U))) _,by rw[ao bi];exact a5.ht,by rw[ao bB];exact a5.hv,af,pq a5.tb λb M=>ao λz=>?_,a5.fi.j mW,a5.nd.filter _],#[x,J],lW,λap H' y1 y2=>#[y1,by rw[fh.mes];exact y2]]
   obtain M|⟨c',M⟩:=M
   .exact bz (z▸M)
   .rw[z,a5.hw]at M;cases M
  .let e0:W=[]:=by simp!
   subst e0;erw[153,(by show 2<=P7;decide),λt ht=>?_]
   let a5:=bJ.new ht (.tup [.ref ta,.ref va]);refine kk t ta va TL VL _ (λb o nb e=>?_) a5.tb (fu sa a2) (fu sa b5) af a5.ht a5.hv a5.fi;exact a5.kp _ _ (nS b (by rw[sa _ _ e];simp) nb) (sH _ _ e)
 .rintro L H4 Q1 Q2 B ⟨v1,j,h⟩;erw[v1,j,λp D=>?_];let a b ac q1 q2 q3 q4 c' q5 q6:=h p D;erw[a,b,ac,q1,q2,q3,q4,c',q5,B _ _ q6]
def andN(a b:R):Qr (a:G) (b:G)=((a&&&b:R):G):=by
 rfl
def shlN(p:R):(1:G)*2^((p:R):G).U=((2^p:R):G):=by
 simp
def xa(m n:R):(m^^^n)+2*(m&&&n)=m+n:=by
 let h:=PyProof.Rows.nat_or_add_and m n;let O:(m|||n)=(m^^^n)+(m&&&n):=by
  let e:(m^^^n)+(m&&&n)=(m^^^n)|||(m&&&n):=by
   let q:=PyProof.Rows.nat_or_add_and (m^^^n) (m&&&n);let z:(m^^^n)&&&(m&&&n)=0:=by
    apply Ma;intro i;simp only[NB,Mm,MN]
    cases m.O i<;>cases n.O i<;>rfl
   lia
  rw[e];apply Ma;intro i;simp only[NB,Mm,Mw]
  cases m.O i<;>cases n.O i<;>rfl
 lia
def xorN(a b:R):Qt (a:G) (b:G)=((a^^^b:R):G):=by
 rw[PyProof.Rows.bitXor_and,andN];let q:=xa a b;lia
def bl(c:R):E R:=K2.bitsF 0 c
theorem E7(c:R):(bl c).y (· < ·):=K2.bitsF_sorted c c 0 (Lo _)
theorem bl_nd(c:R):(bl c).l:=K2.nodup_of_lt (E7 c)
def mem_bl{c x:R}:x∈bl c↔c.O x=i0:=by
 let e:K2.S (K2.bitsF 0 c)=c:=by
  let:=K2.bitsF_sum c c 0 (Lo _);rw[this,Nat.pow_zero,Nat.mul_one]
 let b:=K2.S_bit (bl_nd c) x;unfold bl at b ⊢;simp!
def qF{c x:R}(h:c<2^m)(J:x∈bl c):x<m:=by
 let:=K2.bitsF_lt m c 0 h x J;lia
theorem uR:bl 0=[]:=K2.bitsF_zero 0
def cut2(c f t:R):R:=c^^^2^f^^^2^t
def uI{c f t:R}(A:f∈bl c)(u:t∈bl c)(n:f≠t)(x:R):x∈bl (cut2 c f t)↔x∈bl c/\x≠f/\x≠t:=by
 rw[mem_bl]at A u;rw[mem_bl,mem_bl];unfold cut2;rw[Mm,Mm,LP,LP];by_cases c1:x=f
 .subst c1;rw[A];simp[Ne.Y n]
 .by_cases c2:x=t
  .subst c2;simp!
  .let a:¬ f=x:=λz=>c1 z.Y
   lia
def ET{c f t:R}{rest:E R}(e:bl c=f::rest)(u:t∈rest):(bl (cut2 c f t)).Perm (rest.erase t):=by
 let n:=bl_nd c;rw[e]at n;let i N:=LV.mp n;let eg:f≠t:=λz=>i (z▸u);refine(MX (bl_nd _) (N.erase _)).mpr λx=>?_;rw[uI (by rw[e];exact Lv ..) (by simp[*]) eg,e,N.mem_erase_iff,Lw]
 constructor
 .rintro⟨Y|Y,O,ef⟩
  .contradiction
  .erw[ef,Y]
 .rintro⟨Y,O⟩;erw[.inr O,λz=>i (z▸O),Y]
theorem K9{c f t:R}(h:c<2^m)(A:f<m)(u:t<m):cut2 c f t<2^m :=
 MF (MF h (Mj ∅ A)) (Mj ∅ u)
def Opt(D:R->R->G)(l:E R)(t:G):Prop:=Cs D l t/\∀ c,Cs D l c->t<=c
theorem Opt.perm{D:R->R->G}{l l':E R}{t:G}(h:Opt D l t)(p:l.Perm l'):Opt D l' t:=#[h.1.perm p,λc z=>h.2 c (z.perm p.Y)]
def Opt.nil{D:R->R->G}:Opt D [] 0:=by
 erw[#[[],.refl _,U],λc h=>?_];let k p e:=h
 cases k with
 |nil=>rw[← e];exact Mn _
 |cons q r=>have:=p.length_eq;contradiction
def Opt.step{D:R->R->G}(sy:∀ a b,D a b=D b a){f g:R}{rest:E R}{d:G}(A:g∈rest)(h:Opt D (rest.erase g) d)(C:∀ t∈rest,∃ tr,Opt D (rest.erase t) tr/\D f g+d<=D f t+tr):Opt D (f::rest) (D f g+d):=by
 erw[(h.1.add f g).perm ((N5 A).Y.cons f),λc T=>?_];let e ad c0 p H i:=T.part sy (Lv ..);let I:rest.Perm (e::ad):=p.cons_inv;let ef:e∈rest:=I.mem_iff.mpr (Lv ..);let v:ad.Perm (rest.erase e):=by
  let:=(I.erase e).Y;rw[Nl]at this;exact this
 let tr r O:=C e ef;let Y:=r.2 c0 (H.perm v);lia
def BtAt(H:Hp)(v:V)(D:R->R->G)(m:R):Prop:=∃ a j,v=.ref a/\H a=Z (.lst j)/\∀ i,i<m->∃ p eg,j[i]?=Z (.ref p)/\H p=Z (.lst eg)/\∀ k,k<m->eg[k]?=Z (.int (D i k))
def nN(H:Hp)(v:V)(t:G):Prop:=∃ a y z,v=.ref a/\H a=Z (.tup [.int t,y,z])
def Ent(H:Hp)(D:R->R->G)(m:R)(kvs:E (Key×V))(c:R)(v:V):Prop:=c<2^m/\((c=0/\nN H v 0)∨∃(t:G)(f g:R)(a:eN)(q:V)(p:G),v=.ref a/\H a=Z (.tup [.int t,.int (f:G),.int (g:G)])/\f∈bl c/\g∈bl c/\f≠g/\valV kvs (.inl ((cut2 c f g:R):G))=Z q/\nN H q p/\t=D f g+p/\Opt D (bl c) t)
structure TI(H:Hp)(D:R->R->G)(m:R)(kvs:E (Key×V)):Prop where
 en:∀ k v,valV kvs k=Z v->∃ c:R,k=.inl (c:G)/\Ent H D m kvs c v
 z:∃ v,valV kvs (.inl ((0:R):G))=Z v
 nd:(kvs.h (·.1)).l
def Grw(kvs b:E (Key×V))(n:R):Prop:=(∀ k v,valV kvs k=Z v->valV b k=Z v)/\∀ c:R,valV kvs (.inl (c:G))=kf->valV b (.inl (c:G))≠kf->(bl c).L<=n
def Tps(H H':Hp):Prop:=∀ a D,H a=Z (.tup D)->H' a=Z (.tup D)
def nN.mono{t:G}(h:nN H v t)(s:Tps H H'):nN H' v t:=by
 let a y z e q:=h;erw[a,y,z,e,s _ _ q]
def Ent.cost{D:R->R->G}{c:R}(h:Ent H D m kvs c v):∃ t,nN H v t/\Opt D (bl c) t:=by
 obtain⟨_,⟨rfl,h⟩|⟨t,f,g,a,q,p,u,A,_,_,_,_,_,_,r⟩⟩:=h
 .erw[00,h,by rw[uR];exact Opt.nil]
 .erw[t,#[a,5,u,A],r]
def Ent.mono{H H':Hp}{D:R->R->G}{m c:R}{kvs b:E (Key×V)}{v:V}(h:Ent H D m kvs c v)(s:Tps H H')(g:∀ k v,valV kvs k=Z v->valV b k=Z v):Ent H' D m b c v:=by
 obtain⟨o,⟨e,h⟩|⟨t,f,j,a,q,p,u,A,B,d,w,i,n,l,r⟩⟩:=h
 .erw[o,.inl #[e,h.mono s]]
 .erw[o,.inr #[t,f,j,a,q,p,u,s _ _ A,B,d,w,g _ _ i,n.mono s,l,r]]
theorem TI.mono{H H':Hp}{D:R->R->G}{m:R}{kvs:E (Key×V)}(h:TI H D m kvs)(s:Tps H H'):TI H' D m kvs:=#[λk v e=>by
 let t f A:=h.en k v e
 erw[t,f,A.mono s λ_ _ z=>z],h.z,h.nd]
def TrA.mono{t:T3}(h:TrA H v t)(s:Tps H H'):TrA H' v t:=by
 let a e q:=h;erw[a,e,s _ _ q]
theorem TbS.tps{tb:eN}(s:TbS tb H H')(u:H tb=Z (.dK kvs)):Tps H H':=λa D q=>s _ _ (λw=>by simp!) q
def BtAt.mono{D:R->R->G}{tb:eN}(h:BtAt H v D m)(u:H tb=Z (.dK kvs))(s:TbS tb H H'):BtAt H' v D m:=by
 let a j e q r:=h;erw[a,j,e,s _ _ (λw=>by simp!) q,λi B=>?_]
 let p eg g T A:=r i B;erw[p,eg,g,s _ _ (λw=>by simp!) T,A]
theorem vG{α j:Type}{f:α->j}:∀{l:E α},l.l->(∀ a∈l,∀ b∈l,f a=f b->a=b)->(l.h f).l
 |[],_,_=>Na
 |x::l,n,h=>by
  let i N:=LV.mp n;rw[LR];refine LV.mpr #[λz=>?_,vG N λa o b M=>h a (Lr _ o) b (Lr _ M)];let y Q e:=LW.mp z;exact i (h x (Lv ..) y (Lr _ Q) e.Y▸Q)
def TI.len{D:R->R->G}(h:TI H D m kvs)(C:m<=14):kvs.L<P7:=by
 let d:∀ k∈kvs.h (·.1),∃ c:R,k=Sum.inl (c:G)/\c<2^m:=λk g=>by
  cases l:valV kvs k with
  |none=>exact Ry g (zS l)
  |some v =>
   let c e q:=h.en k v l;erw[c,e,q.1]
 let z:((kvs.h (·.1)).h λk:Key=>match k with | .inl i=>i.U | .inr _=>0).l:=by
  refine vG h.nd λa o b M e=>?_;let c1 rfl _:=d a o;let c2 rfl _:=d b M;let N:c1=c2:=by simpa using e
  rw[N]
 let Q:=mE (2^m) _ z λx J=>by
  let k g rfl:=LW.mp J;let c rfl T:=d k g;assumption
 rw[Lp,Lp]at Q;let:2^m<=2^14:=Mx ∅ C
 let f:(2:R)^14=16384:=by rfl
 let:=PySem.sizeLine_eq;lia
inductive restR(tb:eN)(bv:V)(c m:R)(D:R->R->G)(kvs:E (Key×V))(H0:Hp)(Q:VK)(D0:L2.Ends)(σ:L2.St)(H:L2.Hp):Prop
 |mk (v4 v5 v6 v7 v8:ii V)(kvs':E (Key×V))(v:V) (_:σ=[Z bv,Z (.int (c:G)),Z (.ref tb),v4,v5,v6,v7,v8])(_:TbS tb H0 H)(_:H tb=Z (.dK kvs'))(_:TI H D m kvs')(_:Grw kvs kvs' (bl c).L)(_:valV kvs' (.inl (c:G))=Z v)(_:∀ x H',Q x H'->D0.rt x H')
def LpI(k:V)(tb r wa:eN)(c f m:R)(D:R->R->G)(kvs:E (Key×V))(rest:E R)(Hb:Hp)(i:R)(L:St)(H:Hp):Prop:=∃(e h:ii V)(a:E (Key×V))(J:E T3)(j:E V),L=[Z k,Z (.int (c:G)),Z (.ref tb),Z (.ref r),Z (.int (f:G)),Z (.ref wa),e,h]/\(∀ b o,b≠tb->b≠wa->Hb b=Z o->H b=Z o)/\H tb=Z (.dK a)/\TI H D m a/\Grw kvs a (rest.L-1)/\H wa=Z (.lst j)/\LsAt TrA H j J/\J.L=i /\
 ∀(d t:R),(rest.j i)[d]?=Z t->∃(p:G)(q:V),J[d]?=Z (D f t+p,(f:G),(t:G))/\Opt D (rest.erase t) p/\valV a (.inl ((cut2 c f t:R):G))=Z q/\nN H q p
inductive spLaid(D:R->R->G)(m j:R)
 |mk (bv:V)(tb:eN)(c:R)(kvs:E (Key×V)) (_:vs=[bv,.int (c:G),.ref tb])(_:BtAt H bv D m)(_:H tb=Z (.dK kvs))(_:TI H D m kvs)(_:c<2^m)(_:m<=14)(_:(bl c).L<2*j)(_:(bl c).L%2=0)(_:∀ v t kvs' H',TbS tb H H'->H' tb=Z (.dK kvs')->TI H' D m kvs'->Grw kvs kvs' (bl c).L->valV kvs' (.inl (c:G))=Z v->nN H' v t->Opt D (bl c) t->Q v H')
def bD:aw ["between","chosen","table","numbers","first","ways","mate","rest"] ["between","chosen","table"] (aq b9):=by ac_nf
def Gg{D:R->R->G}(sy:∀ a b,D a b=D b a)(F:Fun K "laid_in_pairs" "laid_in_pairs" b9 f fd)(T:Txt mg)(al:k9 1 "bits" ["mask"] spBits f1 eg)(am:k9 (j+2) "laid_in_pairs" ["between","chosen","table"] (spLaid D m j) f fd):kt (j+3) f fd ["between","chosen","table"] (spLaid D m (j+1)):=by
 refine F.ok bD (by walk_at "l") λaa A I s H vs Q ef N h=>?_
 let bv tb c kvs rfl hB hT ti d bR len ev kk:=h;let hu:=oy N;let aI:=N.units
 intro Xc Dc;erw[_,(ag (cz (Ak (pN hu (pv 1) (pv 2))) (ag (az 3 bD.nd (al.c N (ae (pv 1) ai)))
   (ag (az 4 bD.nd (bA (pv 3) ak))
   (ag (az 5 bD.nd (bC ai))
   (ag (mj (aJ (ma pA (pv 3) (pK ak) pL)) (bp 6 bD.nd) (ag (az 7 bD.nd (ax i8 (ax i8 (pv 1) (ax bI ak (pv 4))) (ax bI ak (pv 6))))
   (aj (aR (d7 LG LN LL aO (pv 5) (ae (cm (ae (ax cV (bA (bA (pv 0) (pv 4)) (pv 6)) (cR (am.c N (ae (pv 0) (ae (pv 7) (ae (pv 2) ai)))) ak)) (ae (pv 4) (ae (pv 6) ai)))) ai))))))
   (aj (gm hu (pv 2) (pv 1) (aG (wW U aI) (by rfl) T.n_min qE (ae (pv 5) ai)) U)))))) aQ)
   (x8 (t2:=restR tb bv c m D kvs H Q) (aj (aF (ib hu (pv 2) (pv 1) (λ_ _=>rfl)))) (λD0 S0 H0 h0=>?restr))),3]
 case restr =>
  let v4 v5 v6 v7 v8 ac v rfl sT a8 a9 gr hv kq:=h0;let c' e en:=a9.en _ v hv;let ec:c'=c:=by
   let:((c:R):G)=(c':G):=by injection e
   lia
  subst ec;let t Y O:=en.cost;erw[153,tb,v,U,by let:=DGet.k (k:=.inl ((c':R):G)) a8;rw[hv]at this;exact this,3]
  exact kq _ _ (kk v t ac H0 sT a8 a9 gr hv Y O)
 erw[153,tb,9,DGet.k (k:=.inl ((c:R):G)) hT,57]
 cases hv:valV kvs (.inl ((c:R):G)) with
 |some v =>
  exact iteF #[341,kvs,v,U,(λ_ _ _ e=>e),hT,ti,#[λ_ _ z=>z,λc' z1 z2=>Ry z1 z2],hv,λ_ _ z=>z]
 |none =>
  refine iteT ?_;let c0:c≠0:=λz=>by
   subst z;let v0 bb:=ti.z;rw[hv]at bb;contradiction
  let f rest bJ:∃ f rest,bl c=f::rest:=by
   cases q:bl c with
   |cons f rest=>exact#[f,rest,U]
   |nil =>
    refine Ry (Ma λi=>?_) c0;rw[MN]
    cases z:c.O i with
    |false=>rfl
    |true =>
     let:=mem_bl.mpr z;simp!
  let nd:=bl_nd c;rw[bJ]at nd;let nf cZ:=LV.mp nd;let a0:(bl c).L=rest.L+1:=by simp[*]
  let flt:f<m:=qF d (by grind)
  let cw:∀ t∈rest,t<m:=λt ht=>qF d (by simp[*])
  let rm:rest.L+1<=m:=by
   rw[← a0];exact mE m _ (bl_nd c) λx J=>qF d J
  let c5:c<16384:=by
   let:2^m<=2^14:=Mx ∅ bR
   let cv:(2:R)^14=16384:=by rfl
   lia
  erw[9,(c:G),82,λr B n be ap=>?_]
  let cy:(K2.bitsF 0 ((c:R):G).U).h iV=iV f::rest.h iV:=by
   rw[Ly];show(bl c).h iV=_;simp[*]
  rw[cy]at ap;erw[9,r,_,00,41,SqL.of ap,(show atI (iV f::rest.h iV) ((0:R):G)=Z (iV f) from aE U),3];erw[(by simp),λwa bK=>?_]
  let s2:=ah bK (.lst []);erw[153,r,9,SqL.of (s2 _ _ ap),λsl bT=>?_];let b6:cutV (iV f::rest.h iV) (Z 1) kf=rest.h iV:=by
   let u:HT.sIx (iV f::rest.h iV).L 0 (Z ((1:R):G))=1:=by rfl
   unfold cutV;rw[show(Z (1:G))=Z ((1:R):G) from rfl,u,HT.sIx_none,List.drop_succ_cons,List.drop_zero,My];exact NT ∅
  rw[b6];let s3:=ah bT (.lst (rest.h iV));let aS:Same H (upd (upd B wa (.lst [])) sl (.lst (rest.h iV))):=n.Q (s2.Q s3);let ca:wa≠sl:=λz=>by rw[← z,af]at bT;contradiction
  let g1:(upd (upd B wa (.lst [])) sl (.lst (rest.h iV))) wa=Z (.lst []):=by rw[ao ca];exact af
  let g2:=af (H:=upd B wa (.lst [])) (a:=sl) (o:=.lst (rest.h iV));let c6:H wa=kf:=fu n bK;generalize (upd (upd B wa (.lst [])) sl (.lst (rest.h iV)))=Hb at aS g1 g2;let cA:=aS _ _ hT;let cb:wa≠tb:=λz=>by simp!
  let cd:sl≠tb:=λz=>by simp!
  let cB:TbS tb H Hb:=λb o _ e=>aS _ _ e;let cD:TI Hb D m kvs:=ti.mono λa xs q=>aS _ _ q;let c7:BtAt Hb bv D m:=hB.mono hT cB;erw[sl,U,#[_,SqL.of g2],bh (K:=K) (xs:=rest.h iV) (LpI bv tb r wa c f m D kvs rest Hb) #[5,kvs,[],[],U,λ_ _ _ _ e=>e,cA,cD,#[λ_ _ z=>z,λc' z1 z2=>Ry z1 z2],g1,LsAt.nil,U,λa1 t e=>by simp at e] (λi L M _ ab=>by let _ _ _ _ _ _ z _:=ab;exact SqL.of (z _ _ cd (Ne.Y ca) g2)) ?_ ?_]
  .rintro i x L M J ⟨v7,v8,an,ws,l,rfl,k2,av,bi,bm,a6,hL,wl,done⟩;rw[Lx]at J;let t ht rfl:=LC.mp J;let tm:=Lm ht;let tl:=cw t tm;let ce:f≠t:=λz=>nf (z▸tm);let cp:=ET bJ tm;let cl:(bl (cut2 c f t)).L+1=rest.L:=by
    rw[cp.length_eq,PR tm];let:=Nx tm;lia
   erw[42393,#[by lia,by lia,by decide],678309,#[by grind,by show(t:G)<=1000000;lia,by decide],933]
   let ec:Qt (Qt (c:G) (1*2^((f:R):G).U)) (1*2^((t:R):G).U)=((cut2 c f t:R):G):=by rw[shlN,shlN,xorN,xorN];rfl
   simp only[ec];let yl:=hL.1;let upL:∀ b zs,H b=Z (.lst zs)->M b=Z (.lst zs):=λb zs q=>k2 b _ (λz=>by simp!) (λz=>by simp!) (aS _ _ q)
   let ba zs rfl cf rr:=id hB
   let cK:BtAt M (.ref ba) D m:=#[ba,zs,U,upL _ _ cf,λi' aT=>by
    let p xs r1 r2 r3:=rr i' aT
    erw[p,xs,r1,upL _ _ r2,r3]]
   let p xs r1 r2 r3:=rr f flt;erw[9,.inl #[6,SqL.of a6],153,ba,661,SqL.of (upL _ _ cf),aE r1,9,p,661,SqL.of (upL _ _ r2),aE (r3 t tl),2457,.ref ba,tb,cut2 c f t,an,U,cK,av,bi,K9 d flt tl,bR,20,λv tr cg H3 bU bY cP bn bB ch cQ=>?_]
   let va y z rfl aZ:=id ch;erw[va,_,00,41,SqT.of aZ,a30,39333,(by show 3<=P7;decide),λt3 a4=>?_]
   let s4:=ah a4 (.tup [.int (D f t+tr),.int (f:G),.int (t:G)]);let co:H3 wa=Z (.lst l):=bU _ _ cb a6;let da:i<rest.L:=(Ll.mp ht).1;erw[wa,l,41,s4 _ _ co,ar ∅,3]
   let cs:Tps M H3:=TbS.tps bU av;let bz:Tps H3 (upd (upd H3 t3 (.tup [.int (D f t+tr),.int (f:G),.int (t:G)])) wa (.lst (l++[.ref t3]))):=λa xs q=>by
    rw[ao (λz=>by simp!)]
    exact s4 _ _ q
   let bP:Tps M (upd (upd H3 t3 (.tup [.int (D f t+tr),.int (f:G),.int (t:G)])) wa (.lst (l++[.ref t3]))):=λa xs q=>bz _ _ (cs _ _ q);let cT:t3≠wa:=λz=>by simp!
   erw[5,cg,ws++[(D f t+tr,(f:G),(t:G))],l++[.ref t3],U,λb o n1 n2 e=>?_,3,cP.mono bz,#[λk v z=>bn.1 _ _ (bm.1 _ _ z),λc' y1 y2=>?_],af,3,by simp[*],λa1 t' e=>?_]
   .rw[ao n2];exact s4 _ _ (bU _ _ n1 (k2 b o n1 n2 e))
   .rw[ao (Ne.Y cb)];exact s4 _ _ bY
   .cases q2:valV an (.inl (c':G)) with
    |none=>have:=bn.2 c' q2 y2;lia
    |some v'=>exact bm.2 c' y1 (by rw[q2];simp)
   .exact(hL.imp λ_ _ q=>TrA.mono q bP).snoc #[t3,U,by rw[ao cT];exact af]
   .let a5:(rest.j i).L=i:=by grind
    rw[LI,ht]at e;by_cases ci:a1<i
    .rw[Lu ∅]at e
     let bZ vr d1 d2 d3 d4:=done a1 t' e;erw[bZ,vr,by grind,d2,bn.1 _ _ d3,d4.mono bP]
    .rw[Lq ∅]at e
     let h5:=(Ll.mp e).1;let h6:a1=i:=by grind
     subst h6;rw[a5,Mb]at e
     cases e
     erw[tr,.ref va,by simp[*],cQ.perm cp,bB,ch.mono bz]
  .rintro L M ⟨v7,v8,an,ws,l,rfl,k2,av,bi,bm,a6,hL,wl,done⟩;rw[Lp]at wl done;rw[LQ]at done;let rp:1<=rest.L:=by lia
   let b0:ws≠[]:=λz=>by grind
   erw[9,wa,l,ws,U,SqL.of a6,hL,b0,λa1 y t3 hy a4 a2=>?_];let il:a1<rest.L:=by rw[← wl];exact(Ll.mp a4).1
   let t et:∃ t,rest[a1]?=Z t:=#[_,Lj il];let tm:=Lm et;let tr vr d1 d2 d3 d4:=done a1 t et;rw[a4]at d1
   cases d1
   let w' ct a rfl ha:=hL.get hy;rw[a4]at ct
   cases ct
   let ce:f≠t:=λz=>nf (z▸tm);let fb:f∈bl c:=by rw[bJ];exact Lv ..
   let cW:t∈bl c:=by simp[*]
   let cX:Opt D (bl c) (D f t+tr):=by
    rw[bJ];refine Opt.step sy tm d2 λt' a3=>?_;let k g ek:=MB a3;let bZ db b5 cY _ _:=done k t' (by simp[*])
    erw[bZ,cY,a2 _ (Lm b5)]
   let cu:valV an (.inl ((c:R):G))=kf:=by
    cases q2:valV an (.inl ((c:R):G)) with
    |none=>rfl
    |some v'=>have:=bm.2 c hv (by rw[q2];simp);lia
   let cne:((cut2 c f t:R):G)≠(c:G):=λz=>by
    simp!
   let a7:∀ k v,valV an k=Z v->valV (putK an (.inl ((c:R):G)) (.ref a)) k=Z v:=λk v e=>by
    rw[gM,Rx (λz=>by simp!)]
    exact e
   erw[153,tb,9,DPut.k (k:=.inl ((c:R):G)) (v:=.ref a) av (bi.len bR),3];let tp:Tps M (upd M tb (.dK (putK an (.inl ((c:R):G)) (.ref a)))):=λb xs q=>by
    rw[ao (λz=>by simp!)]
    exact q
   erw[341,putK an (.inl ((c:R):G)) (.ref a),.ref a,U,λb o n1 e=>?_,af,#[λk v e=>?_,3,Kq _ bi.nd cu],#[λk v e=>a7 _ _ (bm.1 _ _ e),λc' y1 y2=>?_],by rw[gM,Rw U],λ_ _ z=>z]
   .rw[ao n1];exact k2 b o n1 (λz=>by simp!) (aS _ _ e)
   .rw[gM]at e;by_cases ck:k=.inl ((c:R):G)
    .rw[Rw ck]at e
     cases e
     erw[c,ck,d,.inr #[D f t+tr,f,t,a,vr,tr,U,tp _ _ ha,fb,cW,ce,a7 _ _ d3,d4.mono tp,U,cX]]
    .rw[Rx ck]at e;let c' u C:=bi.en k v e;erw[c',u,C.mono tp a7]
   .let v0 bb:=bi.z;erw[v0,a7 _ _ bb]
   .by_cases cc:c'=c
    .rw[cc];exact Lo _
    .rw[gM,Rx (λz=>cc (by grind))]at y2
     let:=bm.2 c' y1 y2;lia
theorem ok_laid{f f1:eN}{fd e:fk}{D:R->R->G}{m:R}(sy:∀ a b,D a b=D b a) (F:Fun K "laid_in_pairs" "laid_in_pairs" b9 f fd) (T:Txt mg) (p:k9 1 "bits" ["mask"] spBits f1 e) (i:dY K fd ["between","chosen","table"] []) (C:mg "laid_in_pairs"=Z (.ref f)) (d:L9 K (.ref f)=i0):∀ j,kt (j+2) f fd ["between","chosen","table"] (spLaid D m j)
 |0=>#[λn H Q ef h=>by
   let k g c N _ _ _ _ _ _ z _:=h;lia,λA o s H v x n Q ef _ _ _ _ h=>by
   let k g c N _ _ _ _ _ _ z _:=h
   lia]
 |j+1=>Gg sy F T p #[ok_laid sy F T p i C d j,i,C,d]
def Gu{g:E (ii R)}{r:R}{o:ii R}(h:g[r]?=Z o):(g.h oN)[r]?=Z (oN o):=by simp[*]
def FI.even{s:R}{v:E (ii R)}(I:FI n ls s M T v [] (λ_ _=>False)){r k:R}(h:v[r]?=Z (Z k)):∃(l:Lk)(x y:G),ls[k]?=Z l/\ox l r/\T[r]?=Z (Z x)/\T[bey l r]?=Z (Z y)/\y+l.2.2=x:=by
 let l x y f A B d w:=I.pr r k h;rcases I.rl (bey l r) y k l d (by simp) f (uV A)with eg|⟨m,eg,J⟩
 .exact eg.elim
 .rw[qG A,B]at eg;cases eg;erw[l,x,y,f,A,B,d,4]
inductive Pth(ls:E Lk)(vv:E (ii R))(s:R):R->E R->Prop where
 |root:Pth ls vv s s []
 |step {r k:R} {l:Lk} {ks:E R} (hv:vv[r]?=Z (Z k)) (hl:ls[k]?=Z l) (h:Pth ls vv s (bey l r) ks):Pth ls vv s r (k::ks)
def Up.path{v:E (ii R)}{s r:R}(h:Up ls v s j r):∃ ks,Pth ls v s r ks/\ks.L=j:=by
 induction h with
 |root=>exact#[[],.root,U]
 |step H C _ L =>
  let ks p e:=L;erw[_::ks,.step H C p,by simp[*]]
def Pth.up{v:E (ii R)}{s r:R}(h:Pth ls v s r ks):Up ls v s ks.L r:=by
 induction h with
 |root=>exact .root
 |step H C _ L=>exact .step H C L
def lkA(ls:E Lk)(k:R):Lk:=ls.f k (0,0,0)
def lkA_is{k:R}{l:Lk}(h:ls[k]?=Z l):lkA ls k=l:=by unfold lkA;simp[*]
def endX(l:Lk):R:=2^l.1^^^2^l.2.1
def oddE(ls:E Lk)(u:R):R->R
 |0=>0
 |i+1=>if u.O i=i0 then oddE ls u i^^^endX (lkA ls i) else oddE ls u i
def cstU(ls:E Lk)(u:R):R->G
 |0=>0
 |i+1=>if u.O i=i0 then cstU ls u i+(lkA ls i).2.2 else cstU ls u i
def mZ(x a:R):(bl (x^^^2^a)).Perm (tog (bl x) a):=by
 refine(MX (bl_nd _) (tog_nd (bl_nd x) a)).mpr λy=>?_;rw[Ks (bl_nd x),mem_bl,Mm,LP,mem_bl,mem_bl];by_cases c:y=a
 .subst c;simp!
 .let k:¬ a=y:=λz=>c z.Y
  simp!
theorem low_join{n:R}{d:R->R->G}(M:Met n d){ls:E Lk}(u:R)(hl:∀ l∈ls,l.1<n/\l.2.1<n/\d l.1 l.2.1<=l.2.2):∀ i,i<=ls.L->oddE ls u i<2^n/\∃ c,Cs d (bl (oddE ls u i)) c/\c<=cstU ls u i
 |0,_=>#[MV n,00,by show Cs d (bl 0) 0;rw[uR];exact Opt.nil.1,Mn _]
 |i+1,h=>by
  let Y c O ef:=low_join M u hl i ∅
  unfold oddE cstU;by_cases b:u.O i=i0
  .rw[Rw b,Rw b];let l e:∃ l,ls[i]?=Z l:=#[_,Lj ∅]
   let z Q f:=hl l (Lm e);rw[lkA_is e];let T:oddE ls u i^^^endX l=oddE ls u i^^^2^l.1^^^2^l.2.1:=by unfold endX;rw[Mu]
   rw[T];erw[MF (MF Y (Mj ∅ z)) (Mj ∅ Q),3]
   let k N q:=O.two M (bl_nd _) (λx J=>qF Y J) z Q;erw[k,N.perm ?_,4]
   exact((mZ _ _).Q (oH (mZ _ _) _)).Y
  .rw[Rx b,Rx b];erw[Y,c,O,ef]
theorem mC(ls:E Lk)(u v:R):∀ i,oddE ls (u^^^v) i=oddE ls u i^^^oddE ls v i
 |0=>(Nq 0).Y
 |i+1=>by
  unfold oddE;rw[mC ls u v i,Mm];let z:∀ a b e:R,(a^^^e)^^^(b^^^e)=a^^^b:=λa b e=>by rw[Oh b e,← Mu,Mu a e e,Nq,Og]
  cases u.O i<;>cases v.O i<;>simp
  .rw[Mu]
  .rw[Mu,Mu,Oh (oddE ls v i)]
  .exact(z _ _ _).Y
theorem mR(ls:E Lk)(hw:∀ l∈ls,0<=l.2.2)(u v:R):∀ i,i<=ls.L->cstU ls (u^^^v) i<=cstU ls u i+cstU ls v i
 |0,_=>Mn _
 |i+1,h=>by
  let L:=mR ls hw u v i ∅
  let l e:∃ l,ls[i]?=Z l:=#[_,Lj ∅]
  let p:=hw l (Lm e);unfold cstU;rw[Mm,lkA_is e];grind
inductive Wk(ls:E Lk):R->R->G->Prop where
 |nil (a:R):Wk ls a a 0
 |step {a b i:R} {x:G} {l:Lk} (h:Wk ls a b x) (hl:ls[i]?=Z l) (he:ox l b):Wk ls a (bey l b) (x+l.2.2)
def Wk.trans{a b c:R}{x y:G}(h:Wk ls a b x)(g:Wk ls b c y):Wk ls a c (x+y):=by
 induction g with
 |nil=>rw[Int.add_zero];exact h
 |step _ C eg L =>
  rw[← Int.add_assoc];exact .step L C eg
def Wk.link{a:R}{l:Lk}(hl:ls[i]?=Z l)(eg:ox l a):Wk ls a (bey l a) l.2.2:=by
 let:=Wk.step (.nil a) hl eg;rw[Nb]at this;exact this
def Wk.rev{a b:R}{x:G}(h:Wk ls a b x):Wk ls b a x:=by
 induction h with
 |nil=>exact .nil _
 | @step b i x l h C eg L =>
  let g:=Wk.link C (uV eg);rw[qG eg]at g;rw[Int.add_comm];exact g.Q L
def Wk.nn(hw:∀ l∈ls,0<=l.2.2){a b:R}{x:G}(h:Wk ls a b x):0<=x:=by
 induction h with
 |nil=>exact Mn _
 |step _ C _ L=>have:=hw _ (Lm C);lia
def Wk.rel{s:R}{v:E (ii R)}(I:FI n ls s M T v [] (λ_ _=>False)){a b:R}{x:G}(h:Wk ls a b x):∀ y,T[a]?=Z (Z y)->∃ z,T[b]?=Z (Z z)/\z<=y+x:=by
 induction h with
 |nil=>intro y Q;erw[y,Q,4]
 | @step b i x l h C eg L =>
  intro y Q;let z Y O:=L y Q;obtain q|⟨c,ef,m⟩:=I.rl b z i l Y (by simp) C eg
  .exact q.elim
  .erw[c,ef,4]
def Up.wk{s:R}{v:E (ii R)}(I:FI n ls s M T v [] (λ_ _=>False)){r:R}(h:Up ls v s j r):∀ x,T[r]?=Z (Z x)->Wk ls s r x:=by
 induction h with
 |root=>intro x J;rw[I.st]at J;cases J;exact .nil _
 | @step j r k l H C h L =>
  intro x J;let D m y f A B d w:=I.even H;rw[C]at f;cases f;rw[J]at B;cases B;let g:=Wk.step (L y d) C (uV A);rw[qG A,w]at g;exact g
def GH{P:R->Prop}(h:∃ n,P n):∃ n,P n/\∀ m,P m->n<=m:=by
 let n y:=h;induction n using Pp with
 |ind n L =>
  by_cases c:∃ m,m<n/\P m
  .let m Y O:=c;exact L m Y O
  .erw[n,y,λm C=>N4 λz=>c #[m,z,C]]
open Classical in
noncomputable def farD (ls:E Lk) (a b:R):G:=if h:∃ x:R,Wk ls a b (x:G) then((Classical.choose (GH h):R):G) else 0
def iD(hw:∀ l∈ls,0<=l.2.2){a b:R}{x:G}(h:Wk ls a b x):Wk ls a b (farD ls a b)/\∀ y,Wk ls a b y->farD ls a b<=y:=by
 let u:=h.nn hw;let T:∃ x:R,Wk ls a b (x:G):=#[x.U,by rw[Int.toNat_of_nonneg u];exact h]
 let e:farD ls a b=((Classical.choose (GH T):R):G):=by unfold farD;rw[dif_pos T]
 let c1 c2:=Classical.choose_spec (GH T);rw[e];erw[c1,λy Q=>?_];let d:=Q.nn hw;let:=c2 y.U (by rw[Int.toNat_of_nonneg d];exact Q)
 lia
def Ee(ls:E Lk)(a b:R):farD ls a b=farD ls b a:=by
 let e:∀ x:R,Wk ls a b (x:G)=Wk ls b a (x:G):=λx=>propext #[Wk.rev,Wk.rev];let A:(λx:R=>Wk ls a b (x:G))=λx:R=>Wk ls b a (x:G):=funext e;unfold farD;by_cases h:∃ x:R,Wk ls a b (x:G)
 .simp!
 .simp!
def Conn(n:R)(ls:E Lk):Prop:=∀ b,b<n->∃ x,Wk ls 0 b x
def Conn.two(h:Conn n ls){a b:R}(o:a<n)(M:b<n):∃ x,Wk ls a b x:=by
 let x J:=h a o;let y Q:=h b M;erw[_,J.rev.Q Q]
theorem far_met(hw:∀ l∈ls,0<=l.2.2)(T:Conn n ls):Met n (farD ls) where
 sy:=Ee ls
 nn:=λa b=>by
  unfold farD;split
  .lia
  .exact Mn _
 tr:=λa b c o M d=>by
  let x J:=T.two o M;let y Q:=T.two M d;exact(iD hw (J.Q Q)).2 _ ((iD hw J).1.Q (iD hw Q).1)
def far_link(hw:∀ l∈ls,0<=l.2.2){l:Lk}(hl:l∈ls):farD ls l.1 l.2.1<=l.2.2:=by
 let i B e:=MB hl;let g:=Wk.link (ls:=ls) (i:=i) (l:=l) (a:=l.1) (by simp[*]) (.inl U)
 let b1:bey l l.1=l.2.1:=by unfold bey;rw[Rw U]
 rw[b1]at g;exact(iD hw g).2 _ g
def FI.is{s:R}{v:E (ii R)}(I:FI n ls s M T v [] (λ_ _=>False))(d:Conn n ls)(hs:s<n){r:R}(N:r<n):T[r]?=Z (Z (farD ls s r)):=by
 let y:∀ l∈ls,0<=l.2.2:=λl C=>(I.w0 l C).1;let x J:=d.two hs N;let z Y O:=J.rel I 0 I.st;let j u:=I.up r z Y;let a:=u.wk I z Y;let g o:=iD y J;let c ef m:=g.rel I 0 I.st;rw[Y]at ef;cases ef;let:=o z a;grind
def ij(ks:E R):R:=ks.foldl (λm k=>m|||2^k) 0
def jr(ks:E R)(i:R):(ij ks).O i=decide (i∈ks):=by
 let e:∀(ks:E R)(m:R),(ks.foldl (λm k=>m|||2^k) m).O i=(m.O i||decide (i∈ks)):=by
  intro ks;induction ks with
  |nil=>intro m;simp
  |cons k ks L =>
   intro m;rw[Pr,L,Mw,LP];by_cases c:k=i
   .subst c;simp
   .let t:¬ i=k:=λz=>c z.Y
    simp[c,t]
 unfold ij;rw[e];simp
theorem tJ(ls:E Lk)(k:R):∀ i,oddE ls (2^k) i=if k<i then endX (lkA ls k) else 0
 |0=>by rfl
 |i+1=>by
  unfold oddE;rw[tJ ls k i,LP];by_cases c:k=i
  .subst c;simp
  .lia
theorem uN(ls:E Lk)(k:R):∀ i,cstU ls (2^k) i=if k<i then(lkA ls k).2.2 else 0
 |0=>by rw[Rx (MJ _)];rfl
 |i+1=>by
  unfold cstU;rw[uN ls k i,LP];by_cases c:k=i
  .simp!
  .rw[Rx (by simpa using c)]
   by_cases d:k<i
   .rw[Rw d,Rw ∅]
   .rw[Rx d,Rx ∅]
theorem jb(ls:E Lk):∀ i,oddE ls 0 i=0
 |0=>rfl
 |i+1=>by unfold oddE;rw[MN,Rx LS];exact jb ls i
theorem jE(ls:E Lk):∀ i,cstU ls 0 i=0
 |0=>rfl
 |i+1=>by unfold cstU;rw[MN,Rx LS];exact jE ls i
def Pth.node{v:E (ii R)}{s r:R}(h:Pth ls v s r ks):∀ k∈ks,∃ q j,v[q]?=Z (Z k)/\Up ls v s j q/\j<=ks.L:=by
 induction h with
 |root=>intro k g;cases g
 | @step r k l ks H C h L =>
  intro eg g;obtain rfl|g:=Lw.mp g
  .erw[r,_,H,.step H C h.up,Lo _]
  .let q j Y O ef:=L eg g;erw[q,j,Y,O,by rw[My];lia]
def Pth.join{s:R}{v:E (ii R)}(I:FI n ls s M T v [] (λ_ _=>False)){r:R}(h:Pth ls v s r ks):
  (∀ k∈ks,k<ls.L)/\oddE ls (ij ks) ls.L=2^s^^^2^r/\∀ x,T[r]?=Z (Z x)->cstU ls (ij ks) ls.L<=x:=by
 induction h with
 |root =>
  erw[(λk g=>nomatch g),3,λx J=>?_]
  .show oddE ls 0 ls.L=_;rw[jb,Nq]
  .rw[I.st]at J;cases J;show cstU ls 0 ls.L<=0;rw[jE];exact Mn _
 | @step r k l ks H C h L =>
  let o Y O:=L;let l' x y f A B e4 e5:=I.even H;rw[C]at f;cases f;let d:k<ls.L:=(Ll.mp C).1;let me:Up ls v s (ks.L+1) r:=.step H C h.up;let nk:k∉ks:=λz=>by
   let q j N u ef:=h.node k z;let b _ _ m a _:=I.pr q k N;rw[C]at m;cases m;let D:q≠r:=λw=>by
    subst w;let:=Up.uniq I.vs me u;lia
   let p:bey l q=r:=by
    unfold bey;obtain e|e:=a<;>obtain Q|Q:=A
    .exact Ry (e.Q Q.Y) D
    .rw[Rw e];exact Q.Y
    .simp!
    .exact Ry (e.Q Q.Y) D
   let:Up ls v s (ks.L+1+1) q:=.step N C (by rw[p];exact me)
   let:=Up.uniq I.vs this u;lia
  let em:ij (k::ks)=ij ks^^^2^k:=Ma λi=>by
   rw[jr,Mm,jr,LP];by_cases c:i=k
   .simp[*]
   .let t:¬ k=i:=λz=>c z.Y
    simp[c,t]
  rw[em];erw[λeg g=>?_,3,λx' aa=>?_]
  .obtain rfl|g:=Lw.mp g
   .exact d
   .exact o eg g
  .rw[mC,Y,tJ,Rw d,lkA_is C];let ee:endX l=2^bey l r^^^2^r:=by
    unfold endX bey;obtain z|z:=A
    .rw[Rw z,z,Oh]
    .simp!
   rw[ee,← Mu,Mu (2^s),Nq,Og]
  .rw[aa]at B;cases B;let N:=mR ls (λl C=>(I.w0 l C).1) (ij ks) (2^k) ls.L (Lo _);let u:=O y e4;rw[uN,Rw d,lkA_is C]at N;lia
def yW(l:Lk):R:=2^l.1|||2^l.2.1
def one1(m:R)(l:Lk):R:=if m&&&yW l=0 then m else m|||yW l
def cS(ls:E Lk)(m:R):R:=ls.foldl one1 m
inductive Run(ls:E Lk):R->R->R->Prop where
 |stop {m:R}:Run ls m m m
 |go {m a r:R} (h:m≠a) (n:Run ls (cS ls m) m r):Run ls m a r
def C8(m:R)(l:Lk):m<=one1 m l:=by
 unfold one1;split
 .exact Lo _
 .exact Nat.left_le_or
def C7{l:Lk}(h:m<2^n)(Y:l.1<n)(h2:l.2.1<n):one1 m l<2^n:=by
 unfold one1 yW;split
 .exact h
 .exact O2 h (O2 (Mj ∅ Y) (Mj ∅ h2))
def vz{l:Lk}(h:ls[i]?=Z l):cS (ls.j (i+1)) m=one1 (cS (ls.j i) m) l:=by
 unfold cS;rw[LI,h,Oq];rfl
def orN(a b:R):Qs (a:G) (b:G)=((a|||b:R):G):=by
 rw[PyProof.Rows.bitOr_and,andN];let q:=PyProof.Rows.nat_or_add_and a b;lia
def endsV(l:Lk):Qs (1*2^((l.1:R):G).U) (1*2^((l.2.1:R):G).U)=((yW l:R):G):=by rw[shlN,shlN,orN];rfl
def PaAt(H:Hp)(v:V)(l:Lk):Prop:=∃ t,v=.ref t/\H t=Z (.tup [.int (l.1:G),.int (l.2.1:G)])
theorem Ez(a b:G):decide (V.int a=V.int b)=decide (a=b):=decide_eq_decide.mpr #[V.int.inj,congrArg V.int]
inductive spReach
 |mk (a:eN)(ys:E V)(n:R)(ls:E Lk) (_:vs=[.int 0,.ref a])(_:H a=Z (.lst ys))(_:LsAt PaAt H ys ls)(_:Lok n ls)(_:1<=n)(_:∀ r:R,Run ls 1 0 r->Q (.int (r:G)) H)
inductive spWhl
 |mk (v:V)(n:R)(ls:E Lk) (_:vs=[.int (n:G),v])(_:LnAt H v ls)(_:Lok n ls)(_:1<=n)(_:∀(r:R) H',Run ls 1 0 r->mo->Q (.bl (decide ((r:G)=1*2^((n:R):G).U-1))) H')
structure TxtR(mg:ff->ii eK):Prop where
 n_list:mg "list"=kf
 n_reversed:mg "reversed"=kf
def cL:aw ["start","pairs","mask","ahead","one","two","ends"] ["start","pairs"] (aq lZ):=by ac_nf
def mRz(n:R)(L:St):R:=match L with | [_,_,Z (.int M),Z (.int a),_,_,_]=>2*((2^n:R)-M).U+(if M=a then 0 else 1)|_=>0
def ok_reached(F:Fun K "reached" "reached" lZ f fd):kt 1 f fd ["start","pairs"] spReach:=by
 refine F.ok cL (by walk_at "l") λg A o s H I Q ef eg h=>?_
 let a j n ls rfl hA hL ok n1 d:=h;let aa:=ok.n1
 intro Xc Dc;erw[_,(ag (az 2 cL.nd (ax bI ak (pv 0)))
   (ag (az 3 cL.nd ak)
   (ag (fN PassesOwn.never (aA mz (pv 2) (pv 3) (aH _)) (ag (az 3 cL.nd (pv 2))
   (aj (mj (aJ (pv 1)) (iM U (ay (bp 4 cL.nd) (ay (bp 5 cL.nd) br))) (ag (az 6 cL.nd (ax i9 (ax bI ak (pv 4)) (ax bI ak (pv 5))))
   (aj (cz (aA mz (ax eB (pv 2) (pv 6)) ak (aH _)) (aj (az 2 cL.nd (ax i9 (pv 2) (pv 6)))) aQ)))))))
   (aj (aF (pv 2)))))),3]
 erw[2649,#[by decide,4,by decide],3]
 refine gL (λL O=>∃(M Ah:R),∃ v4 v5 v6,O=H/\L=[Z (.int 0),Z (.ref a),Z (.int (M:G)),Z (.int (Ah:G)),v4,v5,v6]/\M<2^n/\∀ r,Run ls M Ah r->Run ls 1 0 r)
  (λL _=>mRz n L) #[01,00,661,Nat.one_lt_two_pow ∅,λr z=>z] ?_ ?_
 .rintro L O ⟨M,Ah,v4,v5,v6,rfl,rfl,hM,run⟩;erw[59033];by_cases k:M=Ah
  .subst k;refine vR U ?_;erw[9,d M (run M .stop)]
  refine ite2 (λc=>?_) (λc=>Ry (by rw[Ez,P6 (λz=>k ∅)];rfl) c)
  erw[57];erw[9,a,U,#[_,SqL.of hA],bh (K:=K) (xs:=j) (λi L q=>∃ v4 v5 v6,q=O/\L=[Z (.int 0),Z (.ref a),Z (.int ((cS (ls.j i) M:R):G)),Z (.int (M:G)),v4,v5,v6]/\cS (ls.j i) M<2^n/\M<=cS (ls.j i) M) #[661,hM,Lo _] (λi L q _ D=>by let _ _ _ z _:=D;rw[z];exact SqL.of hA) ?_ ?_]
  .rintro i x L q J ⟨v4,v5,v6,rfl,rfl,ac,al⟩;let l C p rfl Y:=hL.get J;let b1 b2:=ok.sm l (Lm C);erw[p,9,SqT.of Y,238998];erw[2649,#[20,by decide],2649,#[20,by decide],933]
   simp only[endsV];erw[15115673];let T:=vz (m:=M) C;let ab:=C7 ac b1 b2;let am:=C8 (cS (ls.j i) M) l;simp only[andN];by_cases z:cS (ls.j i) M&&&yW l=0
   .refine vR (by rw[z];rfl) ?_
    let e:one1 (cS (ls.j i) M) l=cS (ls.j i) M:=by unfold one1;rw[Rw z]
    erw[149,by rw[T,e];rfl,by rw[T];exact ab,by rw[T];lia]
   .refine ite2 (λ_=>?_) (λc=>Ry (by rw[Ez,P6 (λy=>z ∅)];rfl) c)
    let e:one1 (cS (ls.j i) M) l=cS (ls.j i) M|||yW l:=by unfold one1;rw[Rx z]
    erw[239001];simp only[orN];erw[149,by rw[T,e];rfl,by rw[T];exact ab,by rw[T];lia]
  .rintro L q ⟨v4,v5,v6,rfl,rfl,ac,al⟩;rw[hL.1,LQ]at ac al ⊢;erw[#[_,M,661,ac,λr z=>run r (.go k z)],3];show 2*(((2^n:R):G)-((cS ls M:R):G)).U+(if((cS ls M:R):G)=(M:G) then 0 else 1)<2*(((2^n:R):G)-(M:G)).U+(if(M:G)=(Ah:G) then 0 else 1);rw[Rx (show ¬ (M:G)=(Ah:G) from λz=>k ∅)]
   generalize (2^n:R)=N at hM ac;split<;>lia
 .rintro L v Q1 Q2 B ⟨v1,u,v2,t,e3,b,e4,q'⟩;erw[v1,u,v2,t,e3,b,e4,B _ _ q']
def FJ:aw ["many","links"] ["many","links"] (aq sJ):=by ac_nf
def ok_whl(F:Fun K "whole" "whole" sJ f fd)(aa:k9 1 "reached" ["start","pairs"] spReach f1 eg):kt 2 f fd ["many","links"] spWhl:=by
 refine F.ok FJ (by walk_at "l") λg A o s H M Q ef N h=>?_
 let v n q rfl{a xs rfl hA y}ok n1 B:=h;let ac:=ok.n1;let l9:=ok.l9;let xl:=y.1;intro j T;erw[_,(aj (aF (nB eO (aa.c N (ae ak (ae (eM [] ["link"] (aJ (pv 1)) pg_c pt_c (λC b s H=>(cm (ae (tD K (pv 0) ak) (ae (tD K (pv 0) ak) ai))))) ai))) (ax kD (ax bI ak (pv 0)) ak) (aH _)))),3];erw[9,a,U,#[_,SqL.of hA],dB (K:=K) (xs:=xs) (λi m O=>Same H O/\LsAt PaAt O m (q.j i)) (LK (ar ∅)) #[λ_ _ e=>e,LsAt.nil] (λi m O _ z=>SqL.of (z.1 _ _ hA)) ?_ ?_]
 .rintro i x m O J ⟨k,hZ⟩;let l I p rfl Y:=y.get J;let ab:=k _ _ Y;erw[9,p,_,00,41,SqT.of ab,a30,9,p,_,01,41,SqT.of ab,a31,(by show 2<=P7;decide),λt u=>?_]
  let d:=ah u (.tup [.int (l.1:G),.int (l.2.1:G)]);erw[k.Q d,3];rw[LI,I];exact(hZ.imp λ_ _ ⟨t,e,z⟩=>#[t,e,d _ _ z]).snoc #[t,U,af]
 rintro m O _ ⟨k,hZ⟩ D L;rw[xl,LQ]at hZ;let d:=ah L (.lst m);erw[D,m,n,q,U,af,hZ.imp λ_ _ ⟨t,e,z⟩=>#[t,e,d _ _ z],ok,n1,λr run=>?_];erw[2649,#[20,by decide],3749]
 rw[Ez];exact B r _ run (k.Q d)
structure TxtM(mg:ff->ii eK):Prop where
 most:∃ t,mg "MOST_MARKS"=Z (.int 14 t)
def Ft{p q:R}:(M&&&(2^p|||2^q)=0↔M.O p=j5/\M.O q=j5)/\(M|||(2^p|||2^q)=M->M.O p=i0/\M.O q=i0):=by
 let b1:∀ i,(2^p|||2^q).O i=(decide (p=i)||decide (q=i)):=λi=>by rw[Mw,LP,LP]
 erw[#[λh=>?_,λ⟨Y,O⟩=>?_],λh=>?_]
 .let Y:=congrArg (λz=>NV z p) h
  let O:=congrArg (λz=>NV z q) h;simp only[NB,b1,MN]at Y O;constructor
  .simpa using Y
  .simpa using O
 .refine Ma λi=>?_;rw[NB,b1,MN];lia
 .let Y:=congrArg (λz=>NV z p) h
  grind
def Ea(h:M<2^m)(k:∀ p,p<m->M.O p=i0):M=2^m-1:=by
 refine Ma λi=>?_;rw[N9];by_cases z:i<m
 .simp[*]
 .rw[P6 z];exact OA (L6 h (Mx ∅ ∅))
def tE{n:G}(O:Gl X x)(C:∃ t,X.mg x=Z (.int n t))(hd:uP_ ((x == ("__debug__" : ff))=j5) uD_):PE X (.Name x pos) (tC (.int n)):=by
 let t h:=C;exact JT O h #[t,U] hd
theorem nQ:∀ i,m<=cS (ls.j i) m/\cS (ls.j i) m<=cS ls m:=λi=>by
 let s:∀(l:E Lk)(m:R),m<=cS l m:=λl=>by
  induction l with
  |nil=>intro m;exact Lo _
  |cons x l L=>intro m;exact Mi (C8 m x) (L _)
 erw[s _ _,3];let e:cS ls m=cS (ls.drop i) (cS (ls.j i) m):=by
  unfold cS;rw[← Oq,ND]
 simp[*]
def zE{r:R}(h:cS ls r=r){l:Lk}(hl:l∈ls):r.O l.1=r.O l.2.1:=by
 let i B e:=MB hl;let s:ls[i]?=Z l:=by simp[*]
 let j:=nQ (ls:=ls) (m:=r) i;let n:=nQ (ls:=ls) (m:=r) (i+1);let f:cS (ls.j i) r=r:=by lia
 let A:cS (ls.j (i+1)) r=r:=by lia
 rw[vz s,f]at A;let b1 b2:=Ft (M:=r) (p:=l.1) (q:=l.2.1);unfold one1 yW at A;split at A
 .simp!
 .let H Q:=b2 A;simp!
def Run.shut{a r:R}(h:Run ls m a r)(hl:∀ l∈ls,l.1<n/\l.2.1<n):(m=a->cS ls m=m)->m<2^n->cS ls r=r/\r<2^n/\(m.O 0=i0->r.O 0=i0):=by
 induction h with
 |stop=>intro Y O;erw[Y U,O,id]
 | @go m a r h f L =>
  intro _ O;let lt:∀(k:E Lk),(∀ l∈k,l.1<n/\l.2.1<n)->∀ m,m<2^n->cS k m<2^n:=λk=>by
   induction k with
   |nil=>intro _ m C;exact C
   |cons x k b =>
    intro g m C;let b1 b2:=g x (Lv ..);exact b (λl hl=>g l (Lr _ hl)) _ (C7 C b1 b2)
  let bit:∀(k:E Lk)(m:R),m.O 0=i0->(cS k m).O 0=i0:=λk=>by
   induction k with
   |nil=>intro m C;exact C
   |cons x k b =>
    intro m C;refine b _ ?_;unfold one1;split
    .exact C
    .rw[Mw,C];rfl
  let N u j:=L (λe=>by rw[e];exact e) (lt ls hl m O)
  erw[N,u,λz=>j (bit ls m z)]
def run_full{r:R}(h:Run ls 1 0 r)(hl:∀ l∈ls,l.1<n/\l.2.1<n)(n1:1<=n)(T:Conn n ls):r=2^n-1:=by
 let N u j:=h.shut hl (λz=>by cases z) (Nat.one_lt_two_pow ∅)
 refine Ea u λp Y=>?_;let x J:=T p Y;let e:∀{a b:R}{x:G},Wk ls a b x->r.O a=r.O b:=λh=>by
  induction h with
  |nil=>rfl
  | @step b i x l t c eg L =>
   rw[L];let d:=zE N (Lm c);unfold bey;obtain z|z:=eg
   .rw[Rw z,z];exact d
   .simp!
 rw[← e J];exact j ∅
inductive spOnes
 |mk (n:R) (_:vs=[.int (n:G)])(_:n<2^40)(_:∀ H',mo->Q (.int (((bl n).L:R):G)) H')
inductive spOdd
 |mk (n:R) (_:vs=[.int (n:G)])(_:n<2^40)(_:∀ H',mo->Q (.int (((bl n).L:R)%2:G)) H')
def spMask(K:Ln):Sp:=λn H Q _=>∃(a:eN),∃(v:E R),(n=[.ref a]/\nv a (v.h iV)/\(∀ k∈v,k<80)/\Q (.int ((ij v:R):G)) H)
inductive Jx
 |mk (v:V)(n mk:R)(ls:E Lk) (_:vs=[.int (n:G),v,.int (mk:G)])(_:LnAt H v ls)(_:Lok n ls)(_:1<=n)(_:Conn n ls)(_:mk<2^n)(_:(bl mk).L%2=0)(_:(bl mk).L<=14)(_:∀ H',mo->Q .non H')
def JD:aw ["mask"] ["mask"] (aq Ad):=by ac_nf
def ok_ones(F:Fun K "ones" "ones" Ad f fd)(T:Txt mg)(p:k9 1 "bits" ["mask"] spBits f1 eg):kt 2 f fd ["mask"] spOnes:=by
 refine F.ok JD (by walk_at "l") λg A o s H M Q ef N h=>?_
 let n rfl y d:=h;let b:(2:R)^40=1099511627776:=by rfl
 intro B I;erw[_,(aj (aF (aG aD (by rfl) T.n_len cq (ae (p.c N (ae (pv 0) ai)) ai)))),3]
 erw[5273,λr l m _ a=>?_]
 erw[r,9,.inl (SqL.of a),3];rw[Lp,Ly];exact d _ m
def sc_odd:aw ["mask"] ["mask"] (aq FL):=by ac_nf
def ok_odd(F:Fun K "odd" "odd" FL f fd)(e:k9 2 "ones" ["mask"] spOnes f1 eg):kt 3 f fd ["mask"] spOdd:=by
 refine F.ok sc_odd (by walk_at "l") λg A o s H M Q ef N h=>?_
 let n rfl y d:=h;intro B I;erw[_,(aj (aF (ax iO (e.c N (ae (pv 0) ai)) ak))),3];erw[9,n,U,y,λl m=>#[165,(by show(0:G)<2;decide),d _ m]]
def jU:aw ["places","mask","place"] ["places"] (aq l4):=by ac_nf
def ok_mask(F:Fun K "mask_of" "mask_of" l4 f fd):kt 1 f fd ["places"] (spMask K):=by
 refine F.ok jU (by walk_at "l") λl A o s H n Q ef N h=>?_
 let a v rfl I b q:=h
 intro B eg;erw[_,(ag (az 1 jU.nd ak)
   (ag (mj (aJ (pv 0)) (bp 2 jU.nd) (aj (az 1 jU.nd (ax i9 (pv 1) (ax bI ak (pv 2))))))
   (aj (aF (pv 1))))),3]
 erw[9,a,U,#[_,I],bh (K:=K) (xs:=v.h iV) (λi L O=>∃ d,L=[Z (.ref a),Z (.int ((ij (v.j i):R):G)),d]/\O=H) #[41] (λi L O _ ⟨_,_,z⟩=>by rw[z];exact I) ?_ ?_]
 .rintro i x L O J ⟨d,rfl,rfl⟩;rw[Lx]at J;let k g rfl:=LC.mp J;let c:=b k (Lm g);erw[42393,#[by lia,by lia,by decide],933]
  let e:Qs ((ij (v.j i):R):G) (1*2^((k:R):G).U)=((ij (v.j (i+1)):R):G):=by
   rw[shlN,orN];unfold ij;rw[LI,g,Oq];rfl
  simp only[e];erw[41]
 .rintro L O ⟨d,rfl,rfl⟩;rw[Lp,LQ];erw[9,q]
def pB:aw ["many","links","marks"] ["many","links","marks"] (aq dG):=by ac_nf
def ok_ref{C J:fk}(F:Fun K "refuse_marks" "refuse_marks" dG f fd)(T:TxtM mg)(ac:k9 3 "odd" ["mask"] spOdd f1 eg)(ab:k9 2 "whole" ["many","links"] spWhl f2 C)(e:k9 2 "ones" ["mask"] spOnes a J):kt 4 f fd ["many","links","marks"] Jx:=by
 refine F.ok pB (by walk_at "l") λg A o s H M Q ef N h=>?_
 let v n mk q rfl hV ok i d u p x B:=h;let y:=ok.n1;let aa:mk<2^40:=L6 u (Mx ∅ y)
 let tM D:=T.most
 intro b I;erw[_,(ag (cz (aA eO (ac.c N (ae (pv 2) ai)) ak (aH _)) (aj cG) aQ)
   (ag (cz (Aj (pJ (ab.c N (ae (pv 0) (ae (pv 1) ai))))) (aj cG) aQ)
   (aj (cz (aA yj (e.c N (ae (pv 2) ai)) (tE U T.most) (aH _)) (aj cG) aQ)))),3]
 erw[9,mk,U,aa,λl m=>?_];erw[38,ite2 (λz=>Ry (V.int.inj (Rl z)) ∅) (λ_=>?_)]
 erw[153,v,n,q,U,hV.mono m,ok,i,λr O run k=>?_];let Y:=run_full run ok.sm i d
 let t:decide ((r:G)=1*2^((n:R):G).U-1)=i0:=QG (by
  rw[shlN,Y];let:=MV n
  lia)
 rw[t];erw[9,iteF ?_];erw[9,mk,U,aa,λj L=>?_];erw[2469,ite2 (λz=>Ry (Rl z) (by grind)) (λ_=>?_)]
 exact B _ (m.Q (k.Q L))
inductive spRow
 |mk (v:V)(va:eN)(r s:R)(ls:E Lk)(VL:E (ii R))(ks:E R) (_:vs=[v,.ref va,.int (r:G)])(_:LnAt H v ls)(_:H va=Z (.lst (VL.h oN)))(_:VL[s]?=Z kf)(_:Pth ls VL s r ks)(_:ks.L<=40)(_:∀ q H',mo->H' q=Z (.lst (ks.x.h iV))->Q (.ref q) H')
def lR:aw ["links","via","room","back","here"] ["links","via","room"] (aq oJ):=by ac_nf
def ok_row(F:Fun K "row_to" "row_to" oJ f fd)(T:TxtR mg)(al:k9 1 "beyond" ["link","room"] Jy f1 eg):kt 2 f fd ["links","via","room"] spRow:=by
 refine F.ok lR (by walk_at "l") λg A o s H n Q ef N h=>?_
 let v va r s0 ls VL t rfl{a D rfl hA hL}ac am hP a0 M:=h
 intro Xc Dc;erw[_,(ag (az 3 lR.nd (bC ai))
   (ag (az 4 lR.nd (pv 2))
   (ag (fN PassesOwn.never (aA C5 (bA (pv 1) (pv 4)) kC (aH _)) (ag (aR (d7 LG LN LL aO (pv 3) (ae (bA (pv 1) (pv 4)) ai)))
   (aj (az 4 lR.nd (al.c N (ae (bA (pv 0) (bA (pv 1) (pv 4))) (ae (pv 4) ai)))))))
   (aj (aF (ml U U T.n_list U T.n_reversed (pv 3))))))),3]
 erw[(by simp),λl C=>?_]
 let lv:l≠va:=λz=>by simp!
 erw[9,gL (λL O=>∃(an:R)(ab rest:E R),L=[Z (.ref a),Z (.ref va),Z (.int (r:G)),Z (.ref l),Z (.int (an:G))]/\O l=Z (.lst (ab.h iV))/\ab++rest=t/\Pth ls VL s0 an rest/\Same H O)
  (λ_ O=>match O l with|some (.lst m)=>100-m.L|_=>0) #[r,[],t,U,af,U,hP,ah C _] ?_ ?_]
 .rintro L O ⟨an,ab,rest,rfl,Y,aT,d,J⟩;let aa:ab.L+rest.L<=40:=by
   let:=congrArg List.length aT;rw[Ls]at this;lia
  let aI:=J _ _ ac
  cases d with
  |root =>
   erw[153,va,661,SqL.of aI,aE (Gu am),38,iteF ?_];rw[Nd]at aT;subst aT;erw[9,l,9,SqL.of Y,λq u=>?_];refine M q _ (J.Q (ah u _)) ?_;rw[af,List.map_reverse]
  | @step _ k lk aZ b av ap =>
   let a1 aS lt rfl y:=hL.2 k lk av;erw[153,va,661,SqL.of aI,aE (Gu b),38,iteT ?_];rw[My]at aa;erw[9,.inl #[6,SqL.of Y],153,va,661,SqL.of aI,aE (Gu b),l,165,Y,ar (by rw[Lp];lia),3]
   let p:=aC J C (.lst (ab.h iV++[.int (k:G)]));erw[2457,va,661,SqL.of (p _ _ ac),aE (Gu b),a,661,SqL.of (p _ _ hA),aE aS,9,.ref lt,lk,an,U,#[lt,U,p _ _ y],3];erw[#[bey lk an,ab++[k],aZ,62,ap,p],3]
   .rw[af,LH];rfl
   .rw[NZ];exact aT
   .rw[Y];show(match(upd O l (.lst (ab.h iV++[.int (k:G)]))) l with|some (.lst m)=>100-m.L|_=>0)<100-(ab.h iV).L
    rw[af];show 100-(ab.h iV++[V.int (k:G)]).L<100-(ab.h iV).L;rw[Ls,Lp,LZ];lia
 .rintro L O Q1 Q2 B ⟨v',e,i,j,a',b',x,d',f',g',I,i',j',k',l',q⟩;erw[v',e,i,j,a',b',x,d',f',g',I,i',j',k',l',B _ _ q]
def RM(rho:R->R)(c:R):R->R
 |0=>0
 |i+1=>if c.O i=i0 then RM rho c i^^^2^rho i else RM rho c i
theorem Ff(rho:R->R)(u v:R):∀ i,RM rho (u^^^v) i=RM rho u i^^^RM rho v i
 |0=>(Nq 0).Y
 |i+1=>by
  unfold RM;rw[Ff rho u v i,Mm];let z:∀ a b e:R,(a^^^e)^^^(b^^^e)=a^^^b:=λa b e=>by rw[Oh b e,← Mu,Mu a e e,Nq,Og]
  cases u.O i<;>cases v.O i<;>simp
  .rw[Mu]
  .rw[Mu,Mu,Oh (RM rho v i)]
  .exact(z _ _ _).Y
theorem Fg(rho:R->R)(k:R):∀ i,RM rho (2^k) i=if k<i then 2^rho k else 0
 |0=>by rfl
 |i+1=>by
  unfold RM;rw[Fg rho k i,LP];by_cases c:k=i
  .simp[*]
  .rw[Rx (by simpa using c)]
   lia
theorem Fe(rho:R->R):∀ i,RM rho 0 i=0
 |0=>rfl
 |i+1=>by unfold RM;rw[MN,Rx LS];exact Fe rho i
theorem Fh{l:E R}(nd:l.l)(x:R):∀ i,i<=l.L->(RM (λi=>l.f i 0) (2^l.L-1) i).O x=decide (x∈l.j i)
 |0,_=>by rw[List.take_zero];show(0:R).O x=_;simp
 |i+1,h=>by
  unfold RM;rw[Rw (by rw[N9];exact QG ∅),Mm,Fh nd x i ∅,LP]
  let e:l[i]?=Z l[i]:=Lj ∅
  let b:l.f i 0=l[i]:=by rw[LA,e];rfl
  rw[b];let d:l[i]∉l.j i:=λz=>by
   let k g T:=MB z;rw[Me]at g;rw[List.getElem_take]at T;let:=(List.getElem_inj nd).mp T;lia
  let a:x∈l.j (i+1)↔(x∈l.j i∨x=l[i]):=by
   rw[LI,e];exact LY.Q (or_congr Iff.rfl LB)
  by_cases c:x=l[i]
  .rw[P6 (λz=>d (c▸z)),QG c.Y,QG (a.mpr (.inr c))];rfl
  .rw[P6 (show ¬ l[i]=x from λz=>c z.Y),Ml];exact decide_eq_decide.mpr #[λh=>a.mpr (.inl h),λh=>(a.mp h).resolve_right c]
theorem RM_all(mk:R):RM (λi=>(bl mk).f i 0) (2^(bl mk).L-1) (bl mk).L=mk:=Ma λx=>by
 rw[Fh (bl_nd mk) x _ (Lo _),LQ]
 cases z:mk.O x with
 |true=>exact QG (mem_bl.mpr z)
 |false=>exact P6 λy=>by rw[mem_bl,z]at y;cases y
def EU{c f g:R}(A:f∈bl c)(O:g∈bl c)(n:f≠g):cut2 c f g<c:=by
 let sub:cut2 c f g&&&c=cut2 c f g:=Ma λi=>by
  rw[NB]
  cases z:(cut2 c f g).O i with
  |false=>rfl
  |true =>
   let:=(uI A O n i).mp (mem_bl.mpr z);rw[mem_bl.mp this.1];rfl
 let s:cut2 c f g<=c:=by rw[← sub];exact Nat.and_le_right
 let ne:cut2 c f g≠c:=λz=>by
  let:=(uI A O n f).mp (by rw[z];exact A)
  exact this.2.1 U
 lia
def Cs.map{d:R->R->G}{rho:R->R}{l:E R}{c:G}(h:Cs (λi j=>d (rho i) (rho j)) l c):Cs d (l.h rho) c:=by
 let k p e:=h;erw[k.h λq=>(rho q.1,rho q.2),15]
 .let b:∀ k:E (R×R),flat (k.h λq=>(rho q.1,rho q.2))=(flat k).h rho:=λk=>by
   induction k with
   |nil=>rfl
   |cons q r L=>rw[LR,flat_cons,flat_cons,L,LR,LR]
  rw[b];exact p.h rho
 .rw[← e];unfold cst;rw[MH];rfl
def Cs.back{d:R->R->G}{rho ix:R->R}{c:G}(hi:∀ i∈l,ix (rho i)=i)(h:Cs d (l.h rho) c):Cs (λi j=>d (rho i) (rho j)) l c:=by
 let PL p e:=h;let mem:∀ x∈flat PL,rho (ix x)=x:=λx J=>by
  let i s rfl:=LW.mp (p.mem_iff.mp J);rw[hi i s]
 erw[PL.h λq=>(ix q.1,ix q.2),15]
 .let b:∀ PL:E (R×R),flat (PL.h λq=>(ix q.1,ix q.2))=(flat PL).h ix:=λPL=>by
   induction PL with
   |nil=>rfl
   |cons q r L=>rw[LR,flat_cons,flat_cons,L,LR,LR]
  rw[b];refine(p.h ix).Q ?_;rw[MH];let:l.h (ix∘rho)=l:=by
   conv=>rhs;rw[← List.map_id l]
   exact MA λi s=>hi i s
  rw[this]
 .rw[← e];unfold cst;rw[MH];refine congrArg List.sum (MA λq Y=>?_);let Q:q.1∈flat PL:=by
   unfold flat;exact List.mem_flatMap.mpr #[q,Y,Lv ..]
  let a:q.2∈flat PL:=by
   unfold flat;exact List.mem_flatMap.mpr #[q,Y,Lr _ (Lv ..)]
  simp[*]
def uT(m:R):(bl (2^m-1)).Perm (LD m):=by
 refine(MX (bl_nd _) (NM)).mpr λx=>?_;rw[mem_bl,N9,L5,decide_eq_true_iff]
def Opt.rooms{d:R->R->G}(nd:l.l){t:G}(h:Opt (λi j=>d (l.f i 0) (l.f j 0)) (bl (2^l.L-1)) t):Opt d l t:=by
 let eg:=h.perm (uT l.L);let em:(LD l.L).h (λi=>l.f i 0)=l:=by
  refine Pd (by rw[Lp,L7]) λi Y O=>?_
  rw[List.getElem_map,List.getElem_range,LA,Lj O];rfl
 let ix:∀ i∈LD l.L,l.idxOf (l.f i 0)=i:=λi B=>by
  simp!
 erw[3,λc T=>eg.2 c (Cs.back (rho:=λi=>l.f i 0) (ix:=λx=>l.idxOf x) ix (by rw[em];exact T))]
 let:=Cs.h (rho:=λi=>l.f i 0) eg.1;rw[em]at this;exact this
inductive rX
 |mk (ta r:eN)(xs vals:E V)(ks:E R) (_:vs=[.ref ta,.ref r])(_:H ta=Z (.lst xs))(_:H r=Z (.lst (ks.h iV)))(_:vals.L=ks.L)(_:ks.L<=900)(_:(∀(i k:R),ks[i]?=Z k->∃ y,xs[k]?=Z y/\vals[i]?=Z y))(_:∀ q H',mo->H q=kf->H' q=Z (.lst vals)->Q (.ref q) H')
def xF:Sp:=λn H Q _=>n=[]/\∀ p t eg,Same H eg->H p=kf->eg p=Z (.dK [(.inl ((0:R):G),.ref t)])->eg t=Z (.tup [.int 0,.non,.non])->Q (.ref p) eg
def vk:aw ["entries","numbers"] ["entries","numbers"] (aq g8):=by ac_nf
def ok_chosen(F:Fun K "chosen_of" "chosen_of" g8 f fd):kt 1 f fd ["entries","numbers"] rX:=by
 refine F.ok vk (by walk_at "l") λeg A o s H n Q ef N h=>?_
 let T r xs e v rfl a u c p l B:=h;intro j I;erw[_,(aj (aF (eM [("entries",0)] ["number"] (aJ (pv 1)) pg_c pt_c (λC b s H=>(qO K (pv 1) (pv 0)))))),3];erw[9,r,U,#[_,SqL.of u],dB (K:=K) (xs:=v.h iV) (λi m M=>M=H/\m=e.j i) (LK (ar (by grind))) #[10] (λi m M _ z=>by rw[z.1];exact SqL.of u) ?_ ?_]
 .rintro i x m M J ⟨rfl,rfl⟩;rw[Lx]at J;let k g rfl:=LC.mp J;let y Y O:=l i k g;erw[153,T,661,SqL.of a,aE Y,14];rw[LI,O];rfl
 rintro m M _ ⟨rfl,rfl⟩ q d;rw[Lp,← c,LQ];exact B q _ (ah d _) d af
def vj:aw [] [] (aq gX):=by ac_nf
def ok_table(F:Fun K "new_table" "new_table" gX f fd):kt 1 f fd [] xF:=by
 refine F.ok vj (λn H Q ef h=>?_) (λg A o s H n Q ef N h=>?_)
 .rw[h.1];rfl
 let rfl d:=h;intro B I;erw[_,(aj (aF (tG (oP ak (cm (ae ak (ae kC (ae kC ai)))) sW) U U (λz=>by cases z) ∅))),3]
 intro p Y;erw[(by show 3<=P7;decide),λt u=>?_]
 let e:=ah Y (.dK []);let eg:=ah u (.tup [.int 0,.non,.non]);let pt:p≠t:=λz=>by rw[← z,af]at u;cases u
 erw[by rw[ao pt];exact af,[(.inl ((0:R):G),.ref t)],U,(by show 1<=15;decide),3]
 refine d p t _ (aC (e.Q eg) Y _) Y af ?_;rw[ao (Ne.Y pt)];exact af
def FdAt(n:R)(ls:E Lk)(H:Hp)(v:V)(s:R):Prop:=∃ t d a f g,v=.ref t/\H t=Z (.tup [.ref d,.ref a])/\H d=Z (.lst (f.h oV))/\H a=Z (.lst (g.h oN))/\FI n ls s MM f g [] (λ_ _=>False)
def tb_same{q:ff}{A:Pos}{TT:eN}(h:Tb q A TT H)(s:mo):Tb q A TT H':=by
 obtain y|⟨k,o,J⟩:=h
 .exact .inl (s _ _ y)
 .exact .inr #[k,s _ _ o,s _ _ J]
theorem tb_ne{q:ff}{A:Pos}{TT:eN}(h:Tb q A TT H){b:eN}{o:HO}(e:H b=Z o)(n:∀ ps,o≠.tbl ps):b≠TT:=λz=>by
 rw[z]at e;obtain y|⟨_,y,_⟩:=h<;>rw[y]at e<;>cases e<;>exact n _ U
def SmT(H H':Hp):Prop:=∀ b o,(∀ T,o≠.tbl T)->H b=Z o->H' b=Z o
theorem SmT.trans(a:SmT H H1)(b:SmT H1 H2):SmT H H2:=λc o n e=>b c o n (a c o n e)
theorem SmT.of(s:mo):SmT H H':=λc o _ e=>s c o e
theorem TbS.smT{q:ff}{A:Pos}{TT:eN}(s:TbS TT H H')(h:Tb q A TT H):SmT H H':=λb o n e=>s b o (tb_ne h e n) e
theorem SmT.lst{H H':Hp}(s:SmT H H'){b:eN}{xs:E V}(e:H b=Z (.lst xs)):H' b=Z (.lst xs):=s _ _ (λT z=>by cases z) e
theorem SmT.tup{H H':Hp}(s:SmT H H'){b:eN}{xs:E V}(e:H b=Z (.tup xs)):H' b=Z (.tup xs):=s _ _ (λT z=>by cases z) e
def FdAt.mono{s:R}(h:FdAt n ls H v s)(sm:SmT H H'):FdAt n ls H' v s:=by
 let t d a f g e Y O ef m:=h;erw[t,d,a,f,g,e,sm.tup Y,sm.lst O,sm.lst ef,m]
def LnAt.smT{r:E Lk}(h:LnAt H v r)(s:SmT H H'):LnAt H' v r:=by
 let a j e z l:=h;erw[a,j,e,s.lst z,l.imp λ_ _ ⟨t,e,q⟩=>#[t,e,s.tup q]]
def LT(H H':Hp):Prop:=(∀ b D,H b=Z (.lst D)->H' b=Z (.lst D))/\∀ b D,H b=Z (.tup D)->H' b=Z (.tup D)
theorem LT.same(s:mo):LT H H':=#[λ_ _ e=>s _ _ e,λ_ _ e=>s _ _ e]
theorem LT.tbS{tb:eN}(s:TbS tb H H')(h:H tb=Z (.dK kvs)):LT H H':=#[λb D e=>s _ _ (λz=>by simp!) e,λb D e=>s _ _ (λz=>by simp!) e]
def FdAt.lt{s:R}(h:FdAt n ls H v s)(sm:LT H H'):FdAt n ls H' v s:=by
 let t d a f g e Y O ef m:=h;erw[t,d,a,f,g,e,sm.2 _ _ Y,sm.1 _ _ O,sm.1 _ _ ef,m]
def nN.uniq{t t':G}(h:nN H v t)(h':nN H v t'):t=t':=by
 let a y z e q:=h;let J k c N d:=h';lia
theorem GA(h:∀ k∈ks,k<N):ij ks<2^N:=M3 _ λi B=>by
 rw[jr];exact P6 λz=>by let:=h i z;lia
theorem DA(ks:E R):ij ks.x=ij ks:=Ma λi=>by
 rw[jr,jr];simp
def PrI(v:V)(n mk m N:R)(ls:E Lk)(r J k tb:eN)(kvs:E (Key×V))(t:G)(H8:Hp)(L:St)(H:Hp):Prop:=∃(c u:R)(a b:ii V)(w:V)(e:G),L=[Z (.int (n:G)),Z v,Z (.int (mk:G)),Z (.ref r),Z (.ref J),Z (.ref k),Z (.ref tb),Z (.int (c:G)),Z (.int t),Z (.int (u:G)),a,b]/\Same H8 H/\valV kvs (.inl (c:G))=Z w/\nN H8 w e/\u<2^N/\oddE ls u N=mk^^^RM (λi=>(bl mk).f i 0) c m/\cstU ls u N<=t-e
inductive spPaired(TT:eN)
 |mk (v:V)(n mk:R)(ls:E Lk) (_:vs=[.int (n:G),v,.int (mk:G)])(_:LnAt H v ls)(_:Lok n ls)(_:1<=n)(_:Conn n ls)(_:mk<2^n)(_:(bl mk).L%2=0)(_:(bl mk).L<=14)(_:Tb lqF lpF TT H)(_:∀(t:eN)(cost:G)(u:R) H',SmT H H'->Tb lqF lpF TT H'->H' t=Z (.tup [.int cost,.int (u:G)])->u<2^ls.L->oddE ls u ls.L=mk->Opt (farD ls) (bl mk) cost->cstU ls u ls.L<=cost->Q (.ref t) H')
def RwA(ls:E Lk)(mk:R)(H:Hp)(v:V)(s:R):Prop:=∃ p,v=V.ref p/\H p=Z (.lst ((bl mk).h λx=>V.int (farD ls s x)))
noncomputable def dR (ls:E Lk) (mk:R) (i j:R):G:=farD ls ((bl mk).f i 0) ((bl mk).f j 0)
def bW:aw ["many","links","marks","rooms","found","between","table","left","cost","used","first","mate"] ["many","links","marks"] (aq oK):=by ac_nf
def mPz(L:St):R:=match L with | [_,_,_,_,_,_,_,Z (.int c),_,_,_,_]=>c.U|_=>0
def ok_paired{TT f4 f5 f6 f7 f8:eN}{bK b5 cg cB cD dd cK:fk}(F:Fun K "paired" "paired" oK f fd)(T:Txt mg)(aT:k9 4 "refuse_marks" ["many","links","marks"] Jx f1 eg)(an:k9 1 "bits" ["mask"] spBits f2 bK)(ba:k9 2 "fares" ["many","links","start"] (spFares TT) I b5)(a1:k9 1 "chosen_of" ["entries","numbers"] rX f4 cg)(a2:k9 1 "new_table" [] xF f5 cB)(GL:∀(D:R->R->G)(m:R),(∀ a b,D a b=D b a)->k9 10 "laid_in_pairs" ["between","chosen","table"] (spLaid D m 8) f6 cD)(ac:k9 1 "mask_of" ["places"] (spMask K) f7 dd)(cf:k9 2 "row_to" ["links","via","room"] spRow f8 cK):kt 11 f fd ["many","links","marks"] (spPaired TT):=by
 refine F.ok bW (by walk_at "l") λab A aa s H vs Q ef N h=>?_
 let v n mk ls rfl hV ok n1 hc a5 ev am bB kk:=h;let hu:=oy N;let a8:=ok.n1;let df:=ok.l9;let ap:=GL (dR ls mk) (bl mk).L (λa b=>Ee _ _ _);let cd:mk<1099511627776:=by
  let Y:2^n<=2^40:=Mx ∅ a8
  let cs:(2:R)^40=1099511627776:=by rfl
  lia
 let bb:∀ x∈bl mk,x<n:=λx J=>qF a5 J
 intro Xc Dc;erw[_,(ag (aR (aT.c N (ae (pv 0) (ae (pv 1) (ae (pv 2) ai)))))
   (ag (az 3 bW.nd (an.c N (ae (pv 2) ai)))
   (ag (nA 4 [("many",0),("links",1)] ["room"] bW.nd (aJ (pv 3)) pg_c pt_c (λC ex s H=>(ba.c N (ae (pv 1) (ae (pv 2) (ae (pv 0) ai))))))
   (ag (nA 5 [("rooms",3)] ["told","via"] bW.nd (aJ (pv 4)) (λC ex s H=>(dq (n:=2) (K:=K) U U (ay (aU (i:=0) (show(["told","via","rooms"]:E ff).l from by decide) U (Or.inl U)) (ay (aU (i:=1) (show(["told","via","rooms"]:E ff).l from by decide) U (Or.inl U)) br)))) pt_c (λC ex s H=>(a1.c N (ae (pv 0) (ae (pv 2) ai)))))
   (ag (az 6 bW.nd (a2.d N))
   (ag (az 7 bW.nd (ax kD (ax bI ak (aG aD (by rfl) T.n_len cq (ae (pv 3) ai))) ak))
   (ag (az 8 bW.nd (cR (ap.c N (ae (pv 5) (ae (pv 7) (ae (pv 6) ai)))) ak))
   (ag (az 9 bW.nd ak)
   (ag (fN PassesOwn.never (aA mz (pv 7) ak (aH _)) (ag (az 10 bW.nd (cR (ib hu (pv 6) (pv 7) (λ_ _=>rfl)) ak))
   (ag (az 11 bW.nd (cR (ib hu (pv 6) (pv 7) (λ_ _=>rfl)) ak))
   (ag (az 9 bW.nd (ax i8 (pv 9) (ac.c N (ae (cf.c N (ae (pv 1) (ae (cR (bA (pv 4) (pv 10)) ak) (ae (bA (pv 3) (pv 11)) ai)))) ai))))
   (aj (az 7 bW.nd (ax i8 (ax i8 (pv 7) (ax bI ak (pv 10))) (ax bI ak (pv 11)))))))))
   (aj (aF (cm (ae (pv 8) (ae (pv 9) ai)))))))))))))),3]
 erw[2457,v,n,mk,ls,U,hV,ok,n1,hc,a5,ev,am,λH1 s1=>?_];erw[9,(mk:G),82,λr H2 s2 cc bz=>?_]
 rw[Ly]at bz;let aI:=s1.Q s2;let ch:=tb_same bB aI;let be:H2 r=Z (.lst ((bl mk).h iV)):=bz;let a9:((bl mk).h iV).L=(bl mk).L:=Lp ..;erw[9,r,U,#[_,SqL.of be],bg (K:=K) (xs:=(bl mk).h iV) (λi zs H3=>SmT H2 H3/\Tb lqF lpF TT H3/\LsAt (FdAt n ls) H3 zs ((bl mk).j i)) (LK (ar ∅)) #[λ_ _ _ e=>e,ch,LsAt.nil] (λi zs H3 _ z=>SqL.of (z.1.lst be)) ?_ ?_ ?_]
 .rintro i x zs H3 J ⟨bP,bi,hZ⟩;rw[Lx]at J;let k hk rfl:=LC.mp J;erw[U,yesT #[2457,v,n,k,ls,U,LnAt.smT (hV.mono aI) bP,ok,bb k (Lm hk),bi,λt ta va TL VL H4 bT a7 _ _ ht aZ a3 fi=>?_]];let bU:=TbS.smT bT bi;erw[bP.Q bU,a7,3];rw[LI,hk];exact(hZ.imp λ_ _ q=>q.mono bU).snoc #[t,ta,va,TL,VL,U,ht,aZ,a3,fi]
 .rintro zs H3 ⟨bP,bi,hZ⟩ fa bY;rw[a9,LQ]at hZ;let z4:=ah bY (.lst zs);let bm:SmT H2 (upd H3 fa (.lst zs)):=bP.Q (.of z4);let a7:=tb_same bi z4;let bR:LsAt (FdAt n ls) (upd H3 fa (.lst zs)) zs (bl mk):=hZ.imp λ_ _ q=>q.mono (.of z4);let a4:(upd H3 fa (.lst zs)) fa=Z (.lst zs):=af;generalize upd H3 fa (.lst zs)=H4 at bm a7 bR a4;let zl:=bR.1;let bZ:=bm.lst be;erw[9,fa,U,#[_,SqL.of a4],bg (K:=K) (xs:=zs) (λi ws H5=>Same H4 H5/\LsAt (RwA ls mk) H5 ws ((bl mk).j i)) (LK (ar ∅)) #[λ_ _ e=>e,LsAt.nil] (λi ws H5 _ z=>SqL.of (z.1 _ _ a4)) ?_ ?_ ?_]
  .rintro i x ws H5 J ⟨s5,hW⟩;let s0 bJ t ta va TL VL rfl ht aZ a3 fi:=bR.get J;let ci:=bb s0 (Lm bJ);erw[t,9,SqT.of (s5 _ _ ht),173462,yesT #[153,ta,r,_,(bl mk).h λx=>V.int (farD ls s0 x),bl mk,U,s5 _ _ aZ,s5 _ _ bZ,Lp ..,4,λj k hk=>?_,λq H6 s6 b6 hq=>?_]]
   .erw[.int (farD ls s0 k),3,by simp[*]]
    exact yp (fi.is hc ci (bb k (Lm hk)))
   .erw[s5.Q s6,3];rw[LI,bJ];exact(hW.imp λ_ _ ⟨p,e,z⟩=>#[p,e,s6 _ _ z]).snoc #[q,U,hq]
  .rintro ws H5 ⟨s5,hW⟩ bv cP;rw[zl,LQ]at hW;let z6:=ah cP (.lst ws);erw[U,λtb t0 H7 s7 ck a6 bn=>?_];let aS:Same H4 H7:=s5.Q (z6.Q s7);let cQ:LsAt (RwA ls mk) H7 ws (bl mk):=hW.imp λ_ _ ⟨p,e,z⟩=>#[p,e,s7 _ _ (z6 _ _ z)];let cl:H7 bv=Z (.lst ws):=s7 _ _ af;let av:∀ i,i<(bl mk).L->(bl mk)[i]?=Z ((bl mk).f i 0):=λi B=>by simp[*]
   let bt:BtAt H7 (.ref bv) (dR ls mk) (bl mk).L:=#[bv,ws,U,cl,λi B=>by
    let y hy p rfl hp:=cQ.2 i _ (av i B)
    erw[p,_,hy,hp,λk hk=>by rw[Lx,av k hk];rfl]]
   let ti:TI H7 (dR ls mk) (bl mk).L [(.inl ((0:R):G),.ref t0)]:=#[(λk w e=>by
    by_cases c:(Sum.inl ((0:R):G):Key)=k
    .rw[bE c]at e
     cases e
     erw[00,c.Y,MV _,.inl #[U,t0,37,bn]]
    .rw[bF c]at e
     cases e),#[_,bE U],LV.mpr #[(by simp),Na]]
   let co:=aS _ _ bZ;let b0:=tb_same a7 aS;let eL:(1:G)*2^((((bl mk).h iV).L:R):G).U-1=((2^(bl mk).L-1:R):G):=by
    rw[a9,shlN];let:=MV (bl mk).L;lia
   erw[9,r,9,.inl (SqL.of co),165,#[4,by grind,by decide],933]
   simp only[eL];let cT:(bl (2^(bl mk).L-1)).L=(bl mk).L:=by rw[(uT _).length_eq,L7]
   erw[2457,.ref bv,tb,2^(bl mk).L-1,9,bt,a6,ti,by let:=MV (bl mk).L;lia,am,by grind,by rw[cT];exact ev,λw t al H8 sT ca cb gr hv cv op=>?_]
   let cp:=LT.tbS sT a6;let va y z rfl a3:=id cv;erw[va,_,00,41,SqT.of a3,a30,3];let cY:Opt (farD ls) (bl mk) t:=Opt.rooms (bl_nd mk) op;let dn:Tb lqF lpF TT H8:=pq b0 λb M=>by
    let hs:∃ o,H7 b=Z o/\b≠tb:=by
     obtain rfl|⟨c',M⟩:=M
     .obtain q|⟨_,q,_⟩:=b0
      .erw[_,q,λz=>by simp!]
      .erw[_,q,λz=>by simp!]
     .erw[_,M,λz=>by rw[z,a6]at M;cases M]
    let o Y O:=hs;rw[Y];exact sT _ _ O Y
   let cy:SmT H H8:=λb o no e=>by
    let e4:=bm b o no (aI _ _ e);let e7:=aS _ _ e4;refine sT _ _ (λz=>?_) e7;subst z;let:=fu (s5.Q z6) ck;simp!
   let dp:LsAt (FdAt n ls) H8 zs (bl mk):=bR.imp λ_ _ q=>(q.lt (LT.same aS)).lt cp;let cZ:=cp.1 _ _ (aS _ _ a4);let dr:=cp.1 _ _ co;let ds:LnAt H8 v ls:=(LnAt.smT hV cy);refine gL (PrI v n mk (bl mk).L ls.L ls r fa bv tb al t H8) (λL _=>mPz L) #[2^(bl mk).L-1,00,21,t,U,λ_ _ e=>e,hv,cv,MV _,by rw[jb,RM_all,Nq],by rw[jE];lia] ?_ ?_
   .rintro L H9 ⟨c,u,a0,ce,w,tc,rfl,s9,hw,cw,c5,ou,cu⟩;let c' cA c6 en:=cb.en _ _ hw;let dt:c'=c:=by
     let:(c:G)=(c':G):=by injection cA
     lia
    subst dt;erw[3689];by_cases c0:c'=0
    .subst c0;refine vR U ?_;let dA:tc=0:=by
      rcases en with⟨_,q⟩|⟨_,f,_,_,_,_,_,_,q,_⟩
      .exact cw.uniq q
      .rw[uR]at q;cases q
     erw[153,(by show 2<=P7;decide),λt9 du=>?_]
     let z9:=ah du (.tup [.int t,.int (u:G)]);refine kk t9 t u _ (cy.Q (.of (s9.Q z9))) (tb_same dn (s9.Q z9)) af c5 ?_ cY ∅
     rw[ou,Fe,Og]
    .refine ite2 (λ_=>?_) (λz=>Ry (by rw[P6 (λy=>c0 (by let:=V.int.inj y;lia))];rfl) z)
     let tt f g a vr tr rfl ha hf hg fg dv dw dC _:∃(t:G)(f g:R)(a:eN)(vr:V)(tr:G),w=.ref a/\H8 a=Z (.tup [.int t,.int (f:G),.int (g:G)])/\f∈bl c'/\g∈bl c'/\f≠g/\valV al (.inl ((cut2 c' f g:R):G))=Z vr/\nN H8 vr tr/\t=dR ls mk f g+tr/\Opt (dR ls mk) (bl c') t:=by
      rcases en with⟨q,_⟩|q
      .exact Ry q c0
      .exact q
     let dD:tc=tt:=cw.uniq #[a,37,ha];let flt:=qF c6 hf;let cW:=qF c6 hg;let cX:=s9 _ _ ca;let c7:=s9 _ _ ha;let dg:DGet H9 tb (.int (c':G)) (Z (.ref a)):=by let:=DGet.k (k:=.inl ((c':R):G)) cX;rw[hw]at this;exact this
     erw[153,tb,9,dg,a,_,01,41,SqT.of c7,a31,3];erw[153,tb,9,dg,a,_,02,41,SqT.of c7,a32,3];let y hy tF dF dx TL VL rfl dy dz da fi:=dp.2 f _ (av f flt);let gl:=bb _ (Lm (av g cW));let fl:=bb _ (Lm (av f flt));let xg:=fi.is hc fl gl;let j up:=fi.up _ _ xg;let ks db kl:=up.path;let sh:=up.short fi.vs;let vl:=fi.vl;let j1 j2 j3:=db.join fi;let dH:=j3 _ xg;erw[39321,fa,661,SqL.of (s9 _ _ cZ),aE hy,tF,_,01,41,SqT.of (s9 _ _ dy),at1,153,r,661,SqL.of (s9 _ _ dr),aE (show((bl mk).h iV)[g]?=Z (V.int (((bl mk).f g 0:R):G)) by rw[Lx,av g cW];rfl),v,dx,(bl mk).f g 0,(bl mk).f f 0,ls,VL,ks,U,ds.mono s9,s9 _ _ da,fi.vs,db,4,λq dc ct hq=>?_]
     erw[q,ks.x,U,SqL.of hq,λk hk=>by let:=j1 k (Oy.mp hk);lia,933]
     let ex:Qt (u:G) ((ij ks.x:R):G)=((u^^^ij ks:R):G):=by rw[DA,xorN]
     simp only[ex];erw[42393,#[20,by decide],678309,#[20,by decide],933]
     let ec:Qt (Qt (c':G) (1*2^((f:R):G).U)) (1*2^((g:R):G).U)=((cut2 c' f g:R):G):=by rw[shlN,shlN,xorN,xorN];rfl
     simp only[ec];let cx:=mR ls (λl hl=>(ok.w0 l hl).1) u (ij ks) ls.L (Lo _);erw[#[cut2 c' f g,u^^^ij ks,Z (.int (f:G)),Z (.int (g:G)),vr,tr,U,s9.Q ct,dv,dw,MF c5 (GA j1),15],3]
     .rw[mC,ou,j2];unfold cut2;rw[Ff,Ff,Fg,Fg,Rw flt,Rw cW,Mu,Mu]
     .let ed:dR ls mk f g=farD ls ((bl mk).f f 0) ((bl mk).f g 0):=rfl
      lia
     .show((cut2 c' f g:R):G).U<((c':R):G).U;let:=EU hf hg fg;lia
   .rintro L H9 Q1 Q2 B ⟨v1,e1,e2,b,e3,q⟩;erw[v1,e1,e2,b,e3,B _ _ q]
  .rintro i ws H5 ⟨_,hW⟩;rw[hW.1,Me];lia
 .rintro i zs H3 ⟨_,_,hZ⟩;rw[hZ.1,Me];lia
def Av(ok:Lok n ls)(T:Conn n ls){u:R}{cost:G}(D:Opt (farD ls) (bl mk) cost)(e:oddE ls u ls.L=mk):cost<=cstU ls u ls.L:=by
 let y:∀ l∈ls,0<=l.2.2:=λl C=>(ok.w0 l C).1;let _ c Y O:=low_join (far_met y T) u (λl C=>#[(ok.sm l C).1,(ok.sm l C).2,far_link y C]) ls.L (Lo _);rw[e]at Y;let:=D.2 c Y;lia
def Opt.turn{d:R->R->G}(M:Met n d)(z:∀ a,d a a=0){S:E R}(nd:S.l)(lt:∀ s∈S,s<n){x:R}(J:x<n){ad:R->G}(H:∀ s∈S,Opt d (S.erase s) (ad s)){m:G}(C:∃ s∈S,m=d s x+ad s)(hl:∀ s∈S,m<=d s x+ad s):Opt d (tog S x) m:=by
 let s0 A D:=C;unfold tog;by_cases c:x∈S
 .rw[Rw c];let Y:=hl x c;rw[z x]at Y;let k N q:=(H s0 A).1.two M (nd.erase _) (λy Q=>lt y (OG Q)) (lt s0 A) J;let L:s0∉S.erase s0:=List.Nodup.not_mem_erase nd;let f:tog (S.erase s0) s0=s0::S.erase s0:=by unfold tog;rw[Rx L]
  let I:(tog (tog (S.erase s0) s0) x).Perm (S.erase x):=by
   rw[f];let:=oH (N5 A).Y x;refine this.Q ?_;unfold tog;rw[Rw c]
  let O:=(H x c).2 _ (N.perm I);let:m=ad x:=by lia
  rw[this];exact H x c
 .rw[Rx c];let e:m=d x s0+ad s0:=by rw[D,M.sy x s0]
  rw[e];refine Opt.step M.sy A (H s0 A) λt u=>#[ad t,H t u,3];let:=hl t u;rw[← e,M.sy x t];exact this
def G0(hw:∀ l∈ls,0<=l.2.2)(a:R):farD ls a a=0:=by
 let Y:=(iD hw (Wk.nil (ls:=ls) a)).2 0 (.nil a);let O:0<=farD ls a a:=by
  unfold farD;split
  .lia
  .exact Mn _
 lia
theorem Opt.map{d:R->R->G}{rho ix:R->R}{L:E R}{t:G}(hi:∀ i∈L,ix (rho i)=i)(h:Opt (λi j=>d (rho i) (rho j)) L t):Opt d (L.h rho) t :=
 #[Cs.h h.1,λc T=>h.2 c (Cs.back hi T)]
def Opt.but{d:R->R->G}(nd:l.l){k:R}(g:k<l.L){t:G}(h:Opt (λi j=>d (l.f i 0) (l.f j 0)) (bl ((2^l.L-1)^^^2^k)) t):Opt d (l.erase (l.f k 0)) t:=by
 let em:(LD l.L).h (λi=>l.f i 0)=l:=by
  refine Pd (by rw[Lp,L7]) λi Y O=>?_
  rw[List.getElem_map,List.getElem_range,LA,Lj O];rfl
 let ix:∀ i∈LD l.L,l.idxOf (l.f i 0)=i:=λi B=>by
  simp!
 let I:(bl ((2^l.L-1)^^^2^k)).Perm ((LD l.L).erase k):=by
  refine(mZ _ _).Q ((oH (uT _) k).Q ?_);unfold tog;rw[Rw (L5.mpr g)]
 let O:=(h.perm I).h (rho:=λi=>l.f i 0) (ix:=λx=>l.idxOf x) λi B=>ix i (OG B);refine O.perm ?_;let v:=(N5 (L5.mpr g)).h (λi=>l.f i 0);rw[em,LR]at v;let z:=v.erase (l.f k 0);rw[Nl]at z;exact z.Y
def Lc{k:R}(g:k<m):(bl ((2^m-1)^^^2^k)).L=m-1:=by
 let I:(bl ((2^m-1)^^^2^k)).Perm ((LD m).erase k):=by
  refine(mZ _ _).Q ((oH (uT _) k).Q ?_);unfold tog;simp[*]
 rw[I.length_eq,List.length_erase,Rw (L5.mpr g),L7]
def XL(l:E R):R:=l.foldr (λs m=>2^s^^^m) 0
theorem IQ:∀{l:E R},l.l->∀ x,(XL l).O x=decide (x∈l)
 |[],_,x=>by rw[show XL []=0 from rfl,MN];simp
 |s::l,n,x=>by
  let Y O:=LV.mp n;show(2^s^^^XL l).O x=_;rw[Mm,LP,IQ O x];by_cases c:s=x
  .subst c;simp[Y]
  .let k:¬ x=s:=λz=>c z.Y
   simp[c,k]
theorem XL_bl(m:R):XL (bl m)=m:=Ma λx=>by
 rw[IQ (bl_nd m)]
 cases h:m.O x with
 |true=>exact QG (mem_bl.mpr h)
 |false=>exact P6 λz=>by rw[mem_bl.mp z]at h;cases h
def Fx(ok:Lok n ls)(T:Conn n ls)(nd:l.l)(lt:∀ s∈l,s<n){a:E G}(z:∀ k,k<l.L->Opt (λi j=>farD ls (l.f i 0) (l.f j 0)) (bl ((2^l.L-1)^^^2^k)) (a.f k 0)){x:R}(J:x<n){m:G}(Y:m∈(LD l.L).h λk=>farD ls (l.f k 0) x+a.f k 0)(h2:∀ y∈(LD l.L).h λk=>farD ls (l.f k 0) x+a.f k 0,m<=y):Opt (farD ls) (tog l x) m:=by
 let o:∀ l∈ls,0<=l.2.2:=λl C=>(ok.w0 l C).1;let ef:∀ s∈l,l.idxOf s<l.L/\l.f (l.idxOf s) 0=s:=λs f=>by
  let h:=List.idxOf_lt_length_of_mem f;simp[*]
 let b:∀ k,k<l.L->l.f k 0∈l:=λk g=>by
  simp[*]
 refine Opt.turn (far_met o T) (G0 o) nd lt J (ad:=λs=>a.f (l.idxOf s) 0) (λs f=>?_) ?_ (λs f=>?_)
 .let N u:=ef s f;let:=Opt.but nd N (z _ N);rw[u]at this;exact this
 .let k g e:=LW.mp Y;let p:=L5.mp g;erw[l.f k 0,b k p,3];simp!
 .let N u:=ef s f;let:=h2 _ (LW.mpr #[l.idxOf s,L5.mpr N,U]);rw[u]at this;exact this
structure TxtZ(mg:ff->ii eK):Prop extends Txt mg where
 n_zip:mg "zip"=kf
def aN(mk:R):R:=(bl mk).f 0 0
def sR(h:mk<2^n)(n1:1<=n):aN mk<n:=by
 unfold aN;rw[LA]
 cases e:(bl mk)[0]? with
 |none=>exact n1
 |some x=>exact qF h (Lm e)
def CG(h:mk<2^n)(n1:1<=n)(p:(bl mk).L%2=0)(j:(bl mk).L<=14):(mk^^^2^aN mk)<2^n/\(bl (mk^^^2^aN mk)).L<=14/\(bl (mk^^^2^aN mk)).L%2=1/\1<=(bl (mk^^^2^aN mk)).L:=by
 let C:=sR h n1;erw[MF h (Mj ∅ C),3]
 let e:=(mZ mk (aN mk)).length_eq;rw[e];unfold tog;by_cases c:aN mk∈bl mk
 .rw[Rw c,List.length_erase,Rw c];grind
 .rw[Rx c,My];let D:(bl mk).L=0:=by
   cases z:bl mk with
   |nil=>rfl
   |cons x r =>
    refine Ry ?_ c;unfold aN;rw[z];exact Lv ..
  lia
def TdAt(n:R)(ls:E Lk)(H:Hp)(v:V)(s:R):Prop:=∃ d f g,v=.ref d/\H d=Z (.lst (f.h oV))/\FI n ls s MM f g [] (λ_ _=>False)
def TdAt.lt{s:R}(h:TdAt n ls H v s)(k:∀ b xs,H b=Z (.lst xs)->H' b=Z (.lst xs)):TdAt n ls H' v s:=by
 let d f g e Y O:=h;erw[d,f,g,e,k _ _ Y,O]
theorem HH{TT tb:eN}(h:Tb lqF lpF TT H)(a:H tb=Z (.dK kvs))(n:TbS tb H H'):Tb lqF lpF TT H':=pq h λb M=>by
 let f:∃ o,H b=Z o/\b≠tb:=by
  obtain rfl|⟨k,M⟩:=M
  .obtain q|⟨_,q,_⟩:=h
   .erw[_,q,λz=>by simp!]
   .erw[_,q,λz=>by simp!]
  .erw[_,M,λz=>by rw[z,a]at M;cases M]
 let o Y O:=f;rw[Y];exact n _ _ O Y
noncomputable def dO (ls:E Lk) (l:E R) (i j:R):G:=farD ls (l.f i 0) (l.f j 0)
def RwO(ls:E Lk)(l:E R)(H:Hp)(v:V)(s:R):Prop:=∃ p,v=V.ref p/\H p=Z (.lst (l.h λx=>V.int (farD ls s x)))
inductive Cd
 |mk (mk:R) (_:vs=[.int (mk:G)])(_:mk<1099511627776)(_:∀ H',mo->Q (.int ((aN mk:R):G)) H')
inductive spHts(TT:eN)
 |mk (v:V)(n mk:R)(ls:E Lk) (_:vs=[.int (n:G),v,.int (mk:G)])(_:LnAt H v ls)(_:Lok n ls)(_:1<=n)(_:Conn n ls)(_:mk<2^n)(_:(bl mk).L%2=0)(_:(bl mk).L<=14)(_:Tb lqF lpF TT H)(_:∀(p:eN)(cs:E G) H',SmT H H'->Tb lqF lpF TT H'->H' p=Z (.lst (cs.h λc=>V.int (cs.f (aN mk) 0-c)))->cs.L=n->(∀ x,x<n->Opt (farD ls) (bl (mk^^^2^aN mk^^^2^x)) (cs.f x 0))->Q (.ref p) H')
def A1:aw ["marks"] ["marks"] (aq lY):=by ac_nf
def ok_root(F:Fun K "root_of" "root_of" lY f fd)(p:k9 1 "bits" ["mask"] spBits f1 eg):kt 2 f fd ["marks"] Cd:=by
 refine F.ok A1 (by walk_at "l") λg A o s H n Q ef N h=>?_
 let mk rfl b d:=h;intro B I;erw[_,(aj (aF (g9 (aA mz (pv 0) ak (aH _)) (bA (p.c N (ae (pv 0) ai)) ak) ak))),3];erw[3689];by_cases c0:mk=0
 .subst c0;refine vR U ?_;let e:aN 0=0:=by unfold aN;rw[uR];rfl
  let:=d H λ_ _ e=>e;rw[e]at this;exact this
 .refine ite2 (λ_=>?_) (λz=>Ry (by simp!) z)
  erw[9,(mk:G),82,λr l m _ a=>?_]
  rw[Ly]at a;let x J:∃ x,(bl mk)[0]?=Z x:=by
   cases z:(bl mk)[0]? with
   |some x=>exact#[x,U]
   |none =>
    let:bl mk=[]:=by simp!
    let O:=XL_bl mk;rw[this]at O;exact Ry O.Y c0
  let e:aN mk=x:=by unfold aN;rw[LA,J];rfl
  let y:atI ((bl mk).h iV) 0=Z (iV x):=aE (j:=0) (by simp[*])
  let:=d l m;rw[e]at this;erw[r,661,SqL.of a,y,this]
def b7:aw ["many","links","marks","root","others","found","between","table","everyone","rests","costs","room"] ["many","links","marks"] (aq l7):=by ac_nf
def ok_hts{TT f4 f5 f6 f8:eN}{bP cc ck cT cW cX:fk}(F:Fun K "heights" "heights" l7 f fd)(T:TxtZ mg)(aT:k9 4 "refuse_marks" ["many","links","marks"] Jx f1 eg)(am:k9 1 "bits" ["mask"] spBits f2 bP)(ba:k9 2 "fares" ["many","links","start"] (spFares TT) I cc)(a0:k9 1 "chosen_of" ["entries","numbers"] rX f4 ck)(a1:k9 1 "new_table" [] xF f5 cT)(GL:∀(D:R->R->G)(m:R),(∀ a b,D a b=D b a)->k9 10 "laid_in_pairs" ["between","chosen","table"] (spLaid D m 8) f6 cW)(a4:k9 2 "root_of" ["marks"] Cd f8 cX):kt 11 f fd ["many","links","marks"] (spHts TT):=by
 refine F.ok b7 (by walk_at "l") λab A aa s H vs Q ef N h=>?_
 let v n mk ls rfl hV ok n1 u a5 ev al bB kk:=h;let hu:=oy N;let a8:=ok.n1;let dr:=ok.l9;let l el:∃ l,l=bl (mk^^^2^aN mk):=#[9];let ob c6 o2 o1:=CG a5 n1 ev al;rw[← el]at c6 o2 o1;let nd:l.l:=by rw[el];exact bl_nd _
 let bb:∀ x∈l,x<n:=λx J=>by rw[el]at J;exact qF ob J
 let an:=GL (dO ls l) l.L (λa b=>Ee _ _ _);let cK:(2:R)^40=1099511627776:=by decide
 let Y:2^n<=2^40:=Mx ∅ a8
 let ch:mk<1099511627776:=by lia
 let rn:=sR a5 n1
 intro Xc Dc;erw[_,(ag (aR (aT.c N (ae (pv 0) (ae (pv 1) (ae (pv 2) ai)))))
   (ag (az 3 b7.nd (a4.c N (ae (pv 2) ai)))
   (ag (az 4 b7.nd (am.c N (ae (ax i8 (pv 2) (ax bI ak (pv 3))) ai)))
   (ag (nA 5 [("many",0),("links",1)] ["room"] b7.nd (aJ (pv 4)) pg_c pt_c (λC ex s H=>(tD K (ba.c N (ae (pv 1) (ae (pv 2) (ae (pv 0) ai)))) ak)))
   (ag (az 6 b7.nd (eM [("others",4)] ["told"] (aJ (pv 5)) pg_c pt_c (λC ex s H=>(a0.c N (ae (pv 0) (ae (pv 1) ai))))))
   (ag (az 7 b7.nd (a1.d N))
   (ag (az 8 b7.nd (ax kD (ax bI ak (aG aD (by rfl) T.n_len cq (ae (pv 4) ai))) ak))
   (ag (nA 9 [("table",7),("everyone",8),("between",6)] ["number"] b7.nd (bf U T.n_range (ae (aG aD (by rfl) T.n_len cq (ae (pv 4) ai)) ai)) pg_c pt_c (λC ex s H=>(tD K (an.c N (ae (pv 3) (ae (ax i8 (pv 2) (ax bI ak (pv 0))) (ae (pv 1) ai)))) ak)))
   (ag (az 10 b7.nd (bC ai))
   (ag (mj (bf U T.n_range (ae (pv 0) ai)) (bp 11 b7.nd) (aj (aR (d7 LG LN LL aO (pv 10) (ae (aG (wV U) (by rfl) T.n_min qE (ae (eM [("room",11)] ["told","rest"] (CP U T.n_zip (ae (pv 5) (ae (pv 9) ai))) (λC ex s H=>(dq (n:=2) (K:=K) U U (ay (aU (i:=0) (show(["told","rest","room"]:E ff).l from by decide) U (Or.inl U)) (ay (aU (i:=1) (show(["told","rest","room"]:E ff).l from by decide) U (Or.inl U)) br)))) pt_c (λC ex s H=>(ax cV (qO K (pv 0) (pv 2)) (pv 1)))) ai)) ai)))))
   (aj (aF (eM [("root",3),("costs",10)] ["cost"] (aJ (pv 10)) pg_c pt_c (λC ex s H=>(ax kD (qO K (pv 2) (pv 1)) (pv 0)))))))))))))))),3]
 erw[2457,v,n,mk,ls,U,hV,ok,n1,u,a5,ev,al,λH1 M=>?_];erw[9,mk,U,ch,λdy cb=>?_];let ex:Qt (mk:G) (1*2^((aN mk:R):G).U)=((mk^^^2^aN mk:R):G):=by rw[shlN,xorN]
 erw[42393,#[20,by decide],933]
 simp only[ex];erw[((mk^^^2^aN mk:R):G),82,λr O s2 cg bz=>?_]
 rw[Ly]at bz;let be:O r=Z (.lst (l.h iV)):=by rw[el];exact bz
 let av:=M.Q (cb.Q s2);let co:=tb_same bB av;let a9:(l.h iV).L=l.L:=Lp ..;erw[9,r,U,#[_,SqL.of be],bg (K:=K) (xs:=l.h iV) (λi zs H3=>SmT O H3/\Tb lqF lpF TT H3/\LsAt (TdAt n ls) H3 zs (l.j i)) (LK (ar ∅)) #[λ_ _ _ e=>e,co,LsAt.nil] (λi zs H3 _ z=>SqL.of (z.1.lst be)) ?_ ?_ ?_]
 .rintro i x zs H3 J ⟨bR,bi,hZ⟩;rw[Lx]at J;let k g rfl:=LC.mp J;erw[U,yesT #[2457,v,n,k,ls,U,LnAt.smT (hV.mono av) bR,ok,bb k (Lm g),bi,λt ta va TL VL H4 bY a7 _ _ ht aZ a2 fi=>?_]];let bZ:=TbS.smT bY bi;erw[t,_,00,41,SqT.of ht,at0,bR.Q bZ,a7,3];rw[LI,g];exact(hZ.imp λ_ _ q=>q.lt λ_ _ e=>bZ.lst e).snoc #[ta,TL,VL,U,aZ,fi]
 .rintro zs H3 ⟨bR,bi,hZ⟩ fa b0;rw[a9,LQ]at hZ;let z4:=ah b0 (.lst zs);let bm:SmT O (upd H3 fa (.lst zs)):=bR.Q (.of z4);let a7:=tb_same bi z4;let bT:LsAt (TdAt n ls) (upd H3 fa (.lst zs)) zs l:=hZ.imp λ_ _ q=>q.lt λ_ _ e=>z4 _ _ e;let a3:(upd H3 fa (.lst zs)) fa=Z (.lst zs):=af;generalize upd H3 fa (.lst zs)=H4 at bm a7 bT a3;let zl:=bT.1;let b5:=bm.lst be;let ap:∀ i,i<l.L->l[i]?=Z (l.f i 0):=λi B=>by rw[LA,Lj B];rfl
  erw[9,fa,U,#[_,SqL.of a3],dB (K:=K) (xs:=zs) (λi ws H5=>Same H4 H5/\LsAt (RwO ls l) H5 ws (l.j i)) (LK (ar ∅)) #[λ_ _ e=>e,LsAt.nil] (λi ws H5 _ z=>SqL.of (z.1 _ _ a3)) ?_ ?_]
  .rintro i x ws H5 J ⟨s5,hW⟩;let s0 bJ ta TL VL rfl aZ fi:=bT.get J;let cp:=bb s0 (Lm bJ);erw[153,ta,r,_,l.h λx=>V.int (farD ls s0 x),l,U,s5 _ _ aZ,s5 _ _ b5,Lp ..,4,λj k g=>?_,λq H6 s6 cd hq=>?_]
   .erw[.int (farD ls s0 k),3,by rw[Lx,g];rfl]
    exact yp (fi.is u cp (bb k (Lm g)))
   .erw[s5.Q s6,3];rw[LI,bJ];exact(hW.imp λ_ _ ⟨p,e,z⟩=>#[p,e,s6 _ _ z]).snoc #[q,U,hq]
  .rintro ws H5 _ ⟨s5,hW⟩ bv cY;rw[zl,LQ]at hW;let z6:=ah cY (.lst ws);erw[U,λtb t0 H7 s7 ct a6 bn=>?_];let aS:Same H4 H7:=s5.Q (z6.Q s7);let cZ:LsAt (RwO ls l) H7 ws l:=hW.imp λ_ _ ⟨p,e,z⟩=>#[p,e,s7 _ _ (z6 _ _ z)];let cu:H7 bv=Z (.lst ws):=s7 _ _ af
   let bt:BtAt H7 (.ref bv) (dO ls l) l.L:=#[bv,ws,U,cu,λi B=>by
    let y hy p rfl hp:=cZ.2 i _ (ap i B)
    erw[p,_,hy,hp,λk g=>by rw[Lx,ap k g];rfl]]
   let ti:TI H7 (dO ls l) l.L [(.inl ((0:R):G),.ref t0)]:=#[(λk w e=>by
    by_cases c:(Sum.inl ((0:R):G):Key)=k
    .rw[bE c]at e
     cases e
     erw[00,c.Y,MV _,.inl #[U,t0,37,bn]]
    .rw[bF c]at e
     cases e),#[_,bE U],LV.mpr #[(by simp),Na]]
   let cw:=aS _ _ b5;let b6:=tb_same a7 aS;let eL:(1:G)*2^(((l.h iV).L:R):G).U-1=((2^l.L-1:R):G):=by
    rw[a9,shlN];let:=MV l.L;lia
   erw[9,r,9,.inl (SqL.of cw),165,#[4,by rw[a9];lia,by decide],933]
   simp only[eL];erw[9,r,9,.inl (SqL.of cw),329,lE (k:=(l.h iV).L) (λi ys H9=>∃(aI:E (Key×V))(js:E G),TbS tb H7 H9/\H9 tb=Z (.dK aI)/\TI H9 (dO ls l) l.L aI/\ys=js.h V.int/\js.L=i/\∀ k,k<i->Opt (dO ls l) (bl ((2^l.L-1)^^^2^k)) (js.f k 0)) (LK (ar ∅)) #[_,[],λ_ _ _ e=>e,a6,ti,10,λk g=>Ry g (MJ _)] ?_ ?_ ?_]
   .rintro i ys H9 B ⟨aI,js,sT,cP,c7,rfl,jl,hO⟩;rw[a9]at B;let e0:(0:G)+(i:G)=(i:G):=Nb _;rw[e0];let ds:Qt ((2^l.L-1:R):G) (1*2^((i:R):G).U)=(((2^l.L-1)^^^2^i:R):G):=by rw[shlN,xorN]
    erw[U,yesT #[678297,#[20,by decide],933]]
    simp only[ds];let da:=Lc B;let p2:=MV l.L;erw[9,.ref bv,tb,(2^l.L-1)^^^2^i,aI,U,bt.mono a6 sT,cP,c7,MF ∅ (Mj ∅ B),c6,by rw[da];lia,by rw[da];lia,λw t ac H8 dt ce cf gr hv cv op=>?_]
    let va y z rfl a2:=id cv;erw[va,_,00,41,SqT.of a2,a30,ac,js++[t],λb o n e=>dt b o n (sT b o n e),ce,cf,by rw[LH];rfl,by rw[Ls,jl];rfl,λk g=>?_]
    by_cases c:k=i
    .subst c;rw[LA,Lq ∅,jl,Mb]
     exact op
    .let:=hO k ∅
     rw[LA]at this ⊢;rw[Lu ∅]
     exact this
   .rintro ys H9 ⟨aI,js,sT,cP,c7,rfl,jl,hO⟩ ra du;rw[a9]at jl hO;let cQ:=LT.tbS sT a6;let dv:=HH b6 a6 sT;let zA:=ah du (.lst (js.h V.int));let cy:upd H9 ra (.lst (js.h V.int)) ra=Z (.lst (js.h V.int)):=af
    let cA:SmT H (upd H9 ra (.lst (js.h V.int))):=(show SmT H H9 from λb o no e=>by
     let e4:=bm b o no (av _ _ e);refine sT _ _ (λz=>?_) (aS _ _ e4);subst z
     rw[fu (s5.Q z6) ct]at e4;cases e4).Q (.of zA)
    let db:=tb_same dv zA;let cB:upd H9 ra (.lst (js.h V.int)) fa=Z (.lst zs):=zA _ _ (cQ.1 _ _ (aS _ _ a3));let dc:LsAt (TdAt n ls) (upd H9 ra (.lst (js.h V.int))) zs l:=bT.imp λ_ _ q=>q.lt λ_ _ e=>zA _ _ (cQ.1 _ _ (aS _ _ e));generalize upd H9 ra (.lst (js.h V.int))=HA at cy cA db cB dc;erw[(by show 0<=P7;decide),λca dd=>?_]
    let zB:=ah dd (.lst []);erw[5273,dU (n:=n) (λi L H3=>∃(ci:ii V)(cs:E G),L=[Z (.int (n:G)),Z v,Z (.int (mk:G)),Z (.int ((aN mk:R):G)),Z (.ref r),Z (.ref fa),Z (.ref bv),Z (.ref tb),Z (.int ((2^l.L-1:R):G)),Z (.ref ra),Z (.ref ca),ci]/\Same HA H3/\H3 ca=Z (.lst (cs.h V.int))/\cs.L=i/\∀ x,x<i->Opt (farD ls) (tog l x) (cs.f x 0)) #[_,[],U,zB,af,U,λx J=>Ry J (MJ _)] ?_ ?_]
    .rintro i L H3 B ⟨ci,cs,rfl,s3,bK,cl,c5⟩;let e0:(0:G)+(i:G)=(i:G):=Nb _;rw[e0];erw[9,.inl #[6,SqL.of bK],153,fa,ra,U,#[_,SqL.of (s3 _ _ cB)],#[_,SqL.of (s3 _ _ cy)],wQ (K:=K) (xs:=zs) (zs:=js.h V.int) (λj ys H5=>Same H3 H5/\ys=((LD j).h λk=>farD ls (l.f k 0) i+js.f k 0).h V.int) (LK (ar ∅)) (by rw[Lp];lia) #[λ_ _ e=>e,U] (λj ys H5 _ z=>#[SqL.of (z.1 _ _ (s3 _ _ cB)),SqL.of (z.1 _ _ (s3 _ _ cy))]) ?_ ?_ ?_]
     .rintro j x z ys H5 T5 J hz ⟨cD,rfl⟩ dw;let s0 bJ ta TL VL rfl aZ fi:=dc.get J;let cp:=bb s0 (Lm bJ);let df:j<js.L:=by
       let:=(Ll.mp hz).1;rw[Lp]at this;exact this
      let ez:z=.int (js.f j 0):=by
       rw[Lx,Lj df]at hz
       cases hz
       rw[LA,Lj df];rfl
      subst ez;let dx:s0=l.f j 0:=by rw[LA,bJ];rfl
      let s6:=ah dw (.tup [.ref ta,.int (js.f j 0)]);erw[T5,9,SqT.of af,173462,yesT #[153,ta,661,SqL.of (s6 _ _ (cD _ _ (s3 _ _ aZ))),aE (yp (fi.is u cp B)),2649,cD.Q s6,3]];rw[Oa,LH,LH,dx];rfl
     .rintro ys H5 ⟨cD,rfl⟩ q hq;let zq:=ah hq (.lst (((LD zs.L).h λk=>farD ls (l.f k 0) i+js.f k 0).h V.int));erw[q,9,SqL.of af,by rw[Lp,L7,zl];lia,λm dg bU=>?_]
      rw[zl]at dg bU;let om:=Fx ok u nd bb hO B dg bU;let dn:=zq _ _ (cD _ _ bK);erw[ca,165,dn,ar (by rw[Lp];lia),3]
      erw[_,cs++[m],U,aC (s3.Q (cD.Q zq)) dd _,by rw[af,LH];rfl,by rw[Ls,cl];rfl,λx J=>?_]
      by_cases c:x=i
      .subst c;rw[LA,Lq ∅,cl,Mb]
       exact om
      .let:=c5 x ∅
       rw[LA]at this ⊢;rw[Lu ∅]
       exact this
     .rintro j ys H5 ⟨_,rfl⟩;rw[Lp,Lp,L7];exact Lo _
    .rintro L H3 ⟨ci,cs,rfl,s3,bK,cl,c5⟩;let dp:∀ k,k<n->(cs.h V.int)[k]?=Z (.int (cs.f k 0)):=λk g=>by rw[Lx,LA,Lj ∅];rfl
     erw[9,ca,U,#[_,SqL.of bK],bg (K:=K) (xs:=cs.h V.int) (λi zs H4=>H4=H3/\zs=(cs.j i).h λc=>V.int (cs.f (aN mk) 0-c)) (LK (ar (by rw[Lp];lia))) #[10] (λi zs H4 _ z=>by rw[z.1];exact SqL.of bK) ?_ ?_ ?_]
     .rintro i x zs H4 J ⟨rfl,rfl⟩;rw[Lx]at J;let k g rfl:=LC.mp J;erw[U,yesT #[153,ca,661,SqL.of bK,aE (dp _ rn),59993]];rw[LI,g,LH];rfl
     .rintro zs H4 ⟨rfl,rfl⟩ p hp;rw[Lp,LQ];let zp:=ah hp (.lst (cs.h λc=>V.int (cs.f (aN mk) 0-c)));refine kk p cs _ (cA.Q (.of (s3.Q zp))) (tb_same db (s3.Q zp)) af cl λx J=>?_;refine(c5 x J).perm ?_;rw[el];exact(mZ _ _).Y
     .rintro i zs H4 ⟨_,rfl⟩;grind
   .rintro i ys H9 ⟨aI,js,_,_,_,rfl,jl,_⟩;rw[Lp,jl];exact Lo _
 .rintro i zs H3 ⟨_,_,hZ⟩;rw[hZ.1,Me];lia
end KF
namespace HM
def par(f:R->im):R->im
 |0=>j5
 |i+1=>par f i ^^ f i
def csw(w:R->R)(F:R->im):R->R
 |0=>0
 |i+1=>csw w F i+cond (F i) (w i) 0
def tg(F P:R->im):R->im:=λi=>F i ^^ P i
def one(e:R):R->im:=λi=>i == e
theorem ic(f g:R->im):∀ n,par (λi=>f i ^^ g i) n=(par f n ^^ par g n)
 |0=>rfl
 |n+1=>by
  show(par (λi=>f i ^^ g i) n ^^ (f n ^^ g n))=((par f n ^^ f n) ^^ (par g n ^^ g n));rw[ic f g n]
  cases par f n<;>cases par g n<;>cases f n<;>cases g n<;>rfl
theorem par_congr{f g:R->im}:∀{n:R},(∀ i,i<n->f i=g i)->par f n=par g n
 |0,_=>rfl
 |n+1,h=>by
  show(par f n ^^ f n)=(par g n ^^ g n);rw[par_congr λi B=>h i ∅,h n ∅]
theorem pO{f:R->im}:∀{n:R},(∀ i,i<n->f i=j5)->par f n=j5
 |0,_=>rfl
 |n+1,h=>by
  show(par f n ^^ f n)=j5;rw[pO λi B=>h i ∅,h n ∅]
  rfl
def par_some{f:R->im}(h:par f n=i0):∃ i,i<n/\f i=i0:=by
 by_cases c:∃ i,i<n/\f i=i0
 .exact c
 .rw[pO λi B=>by simp!]at h
  cases h
theorem kW{f:R->im}{e:R}:∀{n:R},(∀ i,i<n->i≠e->f i=j5)->par f n=(decide (e<n)&&f e)
 |0,_=>by simp[par]
 |n+1,h=>by
  show(par f n ^^ f n)=_;rw[kW (e:=e) λi B=>h i ∅]
  by_cases c:n=e
  .subst c;simp
  .rw[h n ∅ c]
   let:decide (e<n+1)=decide (e<n):=decide_eq_decide.mpr ∅
   rw[this,Ml]
def Il(S:R->im){c:R}(h:c<n):par (λv=>S v&&(c == v)) n=S c:=by
 rw[kW (e:=c) λi _ B=>by rw[show(c == i)=j5 from beq_eq_false_iff_ne.mpr (Ne.Y B),PH],QG h]
 simp
theorem csw_congr{w v:R->R}{F eg:R->im}:∀{n:R},(∀ i,i<n->cond (F i) (w i) 0=cond (eg i) (v i) 0)->csw w F n=csw v eg n
 |0,_=>rfl
 |n+1,h=>by
  show csw w F n+_=csw v eg n+_;rw[csw_congr λi B=>h i ∅,h n ∅]
theorem csw_le{w v:R->R}{F eg:R->im}:∀{n:R},(∀ i,i<n->cond (F i) (w i) 0<=cond (eg i) (v i) 0)->csw w F n<=csw v eg n
 |0,_=>Lo _
 |n+1,h=>by
  let a:=csw_le (n:=n) λi B=>h i ∅
  let b:=h n ∅
  show csw w F n+_<=csw v eg n+_;lia
theorem csw_add(w v:R->R)(F:R->im):∀ n,csw (λi=>w i+v i) F n=csw w F n+csw v F n
 |0=>rfl
 |n+1=>by
  show csw (λi=>w i+v i) F n+_=_;rw[csw_add w v F n];show _=(csw w F n+cond (F n) (w n) 0)+(csw v F n+cond (F n) (v n) 0);grind
theorem pe{w:R->R}{wz:R->im}(h:∀ i,i<n->wz i=i0->w i=0):csw w (tg F wz) n=csw w F n:=csw_congr λi B=>by
 unfold tg
 cases z:wz i with
 |false=>rw[Ml]
 |true=>rw[h i B z];cases F i<;>rfl
theorem rF{w:R->R}{F:R->im}{e:R}:∀{n:R},e<n->F e=j5->csw w (tg F (one e)) n=csw w F n+w e
 |n+1,h,f=>by
  show csw w (tg F (one e)) n+cond (F n ^^ (n == e)) (w n) 0=csw w F n+cond (F n) (w n) 0+w e;by_cases c:n=e
  .subst c;rw[f,csw_congr (eg:=F) (v:=w) λi B=>by show cond (F i ^^ (i == n)) _ _=_;rw[show(i == n)=j5 from beq_eq_false_iff_ne.mpr ∅,Ml]]
   simp
  .rw[rF (n:=n) ∅ f,show(n == e)=j5 from beq_eq_false_iff_ne.mpr c,Ml]
   lia
theorem tg_tg(F P:R->im):tg (tg F P) P=F:=funext λi=>by unfold tg;simp
def iG{w:R->R}{e:R}(h:e<n)(f:F e=i0):csw w (tg F (one e)) n+w e=csw w F n:=by
 let:=rF (w:=w) (F:=tg F (one e)) h (by unfold tg one;simp!)
 rw[tg_tg]at this;exact this.Y
theorem zC{w:R->R}{J K P:R->im}:∀{n:R},(∀ i,i<n->P i=i0->(J i ^^ K i)=i0)->csw w (tg J P) n+csw w (tg K P) n=csw w J n+csw w K n
 |0,_=>rfl
 |n+1,h=>by
  let L:=zC (w:=w) (J:=J) (K:=K) (P:=P) (n:=n) λi B=>h i ∅
  let y:=h n ∅
  show csw w (tg J P) n+cond (J n ^^ P n) (w n) 0+(csw w (tg K P) n+cond (K n ^^ P n) (w n) 0)=csw w J n+cond (J n) (w n) 0+(csw w K n+cond (K n) (w n) 0);lia
theorem csw_pos{w:R->R}{F:R->im}{e:R}:∀{n:R},e<n->F e=i0->w e<=csw w F n
 |n+1,h,f=>by
  show w e<=csw w F n+cond (F n) (w n) 0;by_cases c:n=e
  .simp!
  .let:=csw_pos (w:=w) (F:=F) (n:=n) ∅ f
   lia
theorem La{w:R->R}:∀{n:R},csw w F n=0->∀ i,i<n->F i=i0->w i=0:=λ{n} h i B f=>by
 let:=csw_pos (w:=w) B f;lia
section
variable{N n:R}{a b:R->R}
def bd(N:R)(a b:R->R)(F:R->im)(v:R):im:=par (λi=>F i&&((a i == v) ^^ (b i == v))) N
def dX(F P:R->im)(v:R):bd N a b (tg F P) v=(bd N a b F v ^^ bd N a b P v):=by
 unfold bd;rw[← ic];refine par_congr λi _=>?_;unfold tg
 cases F i<;>cases P i<;>simp
def jM{e:R}(h:e<N)(v:R):bd N a b (one e) v=((a e == v) ^^ (b e == v)):=by
 unfold bd;rw[kW (e:=e) λi _ B=>by unfold one;simp!,QG h]
 unfold one;simp
theorem Le(v:R):bd N a b (λ_=>j5) v=j5:=pO λi _=>rfl
theorem cut(S F:R->im):∀{N:R},(∀ i,i<N->a i<n/\b i<n)->par (λi=>F i&&(S (a i) ^^ S (b i))) N=par (λv=>S v&&bd N a b F v) n
 |0,_=>(pO λi _=>by show(S i&&j5)=j5;simp!).Y
 |N+1,h=>by
  show(par (λi=>F i&&(S (a i) ^^ S (b i))) N ^^ (F N&&(S (a N) ^^ S (b N))))=_;rw[cut S F λi B=>h i ∅]
  let e:par (λv=>S v&&(F N&&((a N == v) ^^ (b N == v)))) n=(F N&&(S (a N) ^^ S (b N))):=by
   cases F N with
   |false=>exact pO λ_ _=>by simp
   |true =>
    let Y O:=h N ∅
    rw[NL,← Il S Y,← Il S O,← ic];refine par_congr λi _=>?_
    cases S i<;>simp
  rw[← e,← ic];refine par_congr λv _=>?_;show _=(S v&&(bd N a b F v ^^ (F N&&((a N == v) ^^ (b N == v)))))
  cases S v<;>simp
def exits(D:R->im):∀(c:R)(F:R->im)(r:R),csw (λ_=>1) F N<=c->D r=j5->(∀ v,D v=j5->bd N a b F v=(r == v)) ->
  ∃(e:R)(P:R->im)(y x:R),e<N/\F e=i0/\P e=j5/\(∀ i,P i=i0->i<N/\F i=i0/\D (a i)=j5/\D (b i)=j5)/\D y=j5/\D x=i0/\(∀ v,((a e == v) ^^ (b e == v))=((y == v) ^^ (x == v)))/\(a e=y∨b e=y)/\(D (a e) ^^ D (b e))=i0/\∀ v,bd N a b P v=((r == v) ^^ (y == v)):=by
 intro c;induction c with
 |zero =>
  intro F r T eg M;let h:=M r eg;rw[beq_self_eq_true]at h;let i B Y:=par_some h;rw[NN]at Y;exact Ry (La (w:=λ_=>1) (Nat.le_zero.mp T) i B Y.1) ∅
 |succ c L =>
  intro F r T eg M;let h:=M r eg;rw[beq_self_eq_true]at h;let i B Y:=par_some h;rw[NN]at Y;let f O:=Y;let z d C hd:∃ z,z≠r/\(∀ v,((a i == v) ^^ (b i == v))=((r == v) ^^ (z == v)))/\((a i=r/\b i=z)∨(a i=z/\b i=r)):=by
   by_cases c1:a i=r
   .erw[b i,λz=>?_,λv=>by rw[c1],.inl #[c1,U]]
    simp!
   .let c2:b i=r:=by grind
    erw[a i,c1,λv=>by rw[c2,NK],.inr #[U,c2]]
  cases Q:D z with
  |true =>
   erw[i,λ_=>j5,r,z,B,f,U,(λ_ I=>Pj I),eg,Q,C,hd.elim (λh=>.inl h.1) (λh=>.inr h.2),3,λv=>by rw[Le,OY]]
   rcases hd with⟨u,A⟩|⟨u,A⟩<;>rw[u,A,eg,Q]<;>rfl
  |false =>
   let cF:=iG (w:=λ_=>1) B f;let e P y x Y O ef m n s J t l k:=L (tg F (one i)) z ∅ Q λv H=>by
    rw[dX,jM B,C,M v H,← Om,OY,OO]
   let ne:e≠i:=λz=>by rw[z]at O;unfold tg one at O;simp!
   let Pi:P i=j5:=by
    cases p:P i with
    |false=>rfl
    |true=>have:=(m i p).2.1;unfold tg one at this;rw[f]at this;simp at this
   erw[e,tg P (one i),y,x,Y,15,λj I=>?_,n,s,J,t,l,λv=>?_]
   .unfold tg one at O;rw[show(e == i)=j5 from beq_eq_false_iff_ne.mpr ne,Ml]at O;exact O
   .unfold tg one;rw[show(e == i)=j5 from beq_eq_false_iff_ne.mpr ne,Ml];exact ef
   .by_cases c1:j=i
    .subst c1;erw[B,f,3];rcases hd with⟨u,A⟩|⟨u,A⟩<;>rw[u,A]<;>erw[by assumption,by assumption]
    .unfold tg one at I;rw[show(j == i)=j5 from beq_eq_false_iff_ne.mpr c1,Ml]at I;let o q g:=m j I;unfold tg one at q;rw[show(j == i)=j5 from beq_eq_false_iff_ne.mpr c1,Ml]at q;erw[o,q,g]
   .rw[dX,jM B,C,k]
    cases (r == v)<;>cases (z == v)<;>cases (y == v)<;>rfl
end
section
variable{N n:R}{a b:R->R}{O D:R->im}{l m:R->R}{M0:R}
structure Cfg(N n:R)(a b:R->R)(O:R->im)(l m:R->R):Prop where
 ends:∀ i,i<N->a i<n/\b i<n
 mn:∀ v,v<n->∃ F,(∀ x,bd N a b F x=(O x ^^ (v == x)))/\csw l F N=m v
 lo:∀ v F,v<n->(∀ x,bd N a b F x=(O x ^^ (v == x)))->m v<=csw l F N
 pr:∀ i,i<N->(l i+m (a i)+m (b i))%2=0
structure Top(N n:R)(a b:R->R)(l m:R->R)(D:R->im)(M0:R):Prop where
 ne:∃ x,D x=i0
 lt:∀ x,D x=i0->x<n
 tp:∀ x,D x=i0->m x=M0
 low:∀ v,v<n->M0<=m v
 cr:∀ i,i<N->(D (a i) ^^ D (b i))=i0->1<=l i
 zc:∀ x y,D x=i0->D y=i0->∃ wz:R->im,(∀ i,wz i=i0->i<N/\D (a i)=i0/\D (b i)=i0/\l i=0)/\∀ v,bd N a b wz v=((x == v) ^^ (y == v))
def rO(h:(D (a i) ^^ D (b i))=i0):∃ y x,D y=j5/\D x=i0/\(∀ v,((a i == v) ^^ (b i == v))=((y == v) ^^ (x == v)))/\(a i=y∨b i=y):=by
 cases Y:D (a i) with
 |true =>
  let O:D (b i)=j5:=by rw[Y]at h;simpa using h
  erw[b i,a i,O,Y,λv=>NK ..,.inr U]
 |false =>
  let O:D (b i)=i0:=by rw[Y]at h;simpa using h
  erw[a i,b i,Y,O,λv=>rfl,.inl U]
def x3(o p q:im):((o ^^ p) ^^ (p ^^ q))=(o ^^ q):=by simp
def Cfg.out(C:Cfg N n a b O l m){y:R}(hi:i<N)(h:a i=y∨b i=y):y<n:=by
 let Y j:=C.ends i hi;lia
def Cfg.uniq(C:Cfg N n a b O l m)(T:Top N n a b l m D M0){v:R}(hv:v<n)(M:∀ x,bd N a b J x=(O x ^^ (v == x)))(d:csw l J N=m v):
  (D v=j5->∃ e,e<N/\J e=i0/\(D (a e) ^^ D (b e))=i0)/\(D v=i0->∀ f,f<N->J f=i0->(D (a f) ^^ D (b f))=i0->False) /\
  ∀ f g,f<N->g<N->J f=i0->J g=i0->(D (a f) ^^ D (b f))=i0->(D (a g) ^^ D (b g))=i0->f=g:=by
 let am:D v=i0->∀ f,f<N->J f=i0->(D (a f) ^^ D (b f))=i0->False:=λdv f q jf xf=>by
  let y x dy L I Q:=rO xf;let wz H eg:=T.zc v x dv L;let c1:=iG (w:=l) q jf;let c2:=pe (w:=l) (F:=tg J (one f)) (wz:=wz) (n:=N) λi _ B=>(H i B).2.2.2;let yn:=C.out q Q;let:=C.lo y (tg (tg J (one f)) wz) yn λw=>by
   rw[dX,dX,jM q,I,M,eg]
   cases (O w)<;>cases (v == w)<;>cases (y == w)<;>cases (x == w)<;>rfl
  let u:=T.tp v dv;let A:=T.low y yn;let e3:=T.cr f q xf;lia
 cases dv:D v with
 |true =>
  erw[λz=>(by cases z),λ_=>am dv,λf g q _ jf _ xf _=>(am dv f q jf xf).elim]
 |false =>
  let t dt:=T.ne;let K kb kc:=C.mn t (T.lt t dt);rw[T.tp t dt]at kc;let e P y x Y j ef s h5 h6 h7 h8 h9 ac:=exits (N:=N) (a:=a) (b:=b) D _ (tg J K) v (Lo _) dv λw o=>by
   rw[dX,M,kb,show(t == w)=j5 from beq_eq_false_iff_ne.mpr λz=>by simp!]
   cases (O w)<;>cases (v == w)<;>rfl
  let yn:=C.out Y h8;let sub:∀ i,i<N->tg P (one e) i=i0->(J i ^^ K i)=i0:=λi _ B=>by
   by_cases c:i=e
   .rw[c];exact j
   .unfold tg one at B;rw[show(i == e)=j5 from beq_eq_false_iff_ne.mpr c,Ml]at B;exact(s i B).2.1
  let r:=zC (w:=l) sub;let wz H eg:=T.zc t x dt h6;let bP:∀ w,bd N a b (tg P (one e)) w=((v == w) ^^ (x == w)):=λw=>by
   rw[dX,jM Y,h7,ac];simp!
  let l1:=C.lo x (tg J (tg P (one e))) (T.lt x h6) λw=>by rw[dX,M,bP,x3]
  rw[T.tp x h6]at l1;let c2:=pe (w:=l) (F:=tg K (tg P (one e))) (wz:=wz) (n:=N) λi _ B=>(H i B).2.2.2;let l2:=C.lo v (tg (tg K (tg P (one e))) wz) hv λw=>by
   rw[dX,dX,kb,bP,eg]
   cases (O w)<;>cases (v == w)<;>cases (t == w)<;>cases (x == w)<;>rfl
  let le:=T.cr e Y h9;let aa:=T.low y yn;let Je:J e=i0:=by
   cases je:J e with
   |true=>rfl
   |false =>
    let e3:csw l (tg J (tg P (one e))) N=csw l (tg (tg J P) (one e)) N:=csw_congr λi _=>by unfold tg;rw[Om]
    let c3:=rF (w:=l) (F:=tg J P) Y (by unfold tg;rw[je,ef];rfl)
    let l3:=C.lo y (tg J P) yn λw=>by rw[dX,M,ac,x3]
    lia
  let ue:∀ f,f<N->J f=i0->(D (a f) ^^ D (b f))=i0->f=e:=λf q jf xf=>by
   by_cases c:f=e
   .exact c
   exfalso;let y' x' aI k ab al:=rO xf;let Pf:P f=j5:=by
    cases p:P f with
    |false=>rfl
    |true=>simp!
   let Z' an ap:=T.zc x x' h6 k;let c3:=iG (w:=l) (F:=tg J (tg P (one e))) q (by unfold tg one;simp!)
   let c4:=pe (w:=l) (F:=tg (tg J (tg P (one e))) (one f)) (wz:=Z') (n:=N) λi _ B=>(an i B).2.2.2;let av:=C.out q al;let l3:=C.lo y' (tg (tg (tg J (tg P (one e))) (one f)) Z') av λw=>by
    rw[dX,dX,dX,M,bP,jM q,ab,ap]
    cases (O w)<;>cases (v == w)<;>cases (y' == w)<;>cases (x == w)<;>cases (x' == w)<;>rfl
   let:=T.low y' av;let:=T.cr f q xf;lia
  erw[λ_=>#[e,Y,Je,h9],λz=>(by cases z),λf g q h jf jg xf xg=>(ue f q jf xf).Q (ue g h jg xg).Y]
def Cfg.ring(C:Cfg N n a b O l m){ad:R->im}(h:∀ x,bd N a b ad x=j5):csw l ad N%2=0:=by
 let e:∀ k,k<=N->csw l ad k%2=cond (par (λi=>ad i&&((m (a i)%2 == 1) ^^ (m (b i)%2 == 1))) k) 1 0:=by
  intro k;induction k with
  |zero=>intro _;rfl
  |succ k L =>
   intro g;let q:=L ∅
   let p:=C.pr k ∅
   show(csw l ad k+cond (ad k) (l k) 0)%2=cond (par (λi=>ad i&&((m (a i)%2 == 1) ^^ (m (b i)%2 == 1))) k ^^ (ad k&&((m (a k)%2 == 1) ^^ (m (b k)%2 == 1)))) 1 0;let d1:m (a k)%2=0∨m (a k)%2=1:=by lia
   let t:m (b k)%2=0∨m (b k)%2=1:=by lia
   cases ad k<;>cases Y:par (λi=>ad i&&((m (a i)%2 == 1) ^^ (m (b i)%2 == 1))) k<;>rw[Y]at q<;>obtain d1|d1:=d1<;>obtain t|t:=t<;>rw[d1,t]<;>simp at q ⊢<;>lia
 rw[e N (Lo _),cut (λv=>m v%2 == 1) ad C.ends,pO λv _=>by rw[h v,PH]]
 rfl
theorem EW{l:R->R}{F eg:R->im}:∀ n,(csw l (tg F eg) n+csw l F n+csw l eg n)%2=0
 |0=>rfl
 |n+1=>by
  let:=EW (l:=l) (F:=F) (eg:=eg) n;show(csw l (tg F eg) n+cond (F n ^^ eg n) (l n) 0+(csw l F n+cond (F n) (l n) 0)+(csw l eg n+cond (eg n) (l n) 0))%2=0
  cases F n<;>cases eg n<;>simp<;>lia
def chi(D:R->im)(a b:R->R)(i:R):R:=cond (D (a i) ^^ D (b i)) 1 0
def rho(D J:R->im)(a b:R->R)(i:R):R:=cond (D (a i) ^^ D (b i)) (cond (J i) 0 1) 0
def Cfg.low2(C:Cfg N n a b O l m)(T:Top N n a b l m D M0){v:R}(hv:v<n)(M:∀ x,bd N a b J x=(O x ^^ (v == x)))(d:csw l J N=m v):
  ∀(q:R)(K:R->im),csw (rho D J a b) K N<=q->(∀ x,bd N a b K x=(O x ^^ (v == x)))->m v+csw (chi D a b) K N<=csw l K N+csw (chi D a b) J N:=by
 intro q;induction q using Pp with
 |ind q L =>
 intro K u kb;let kl:=C.lo v K hv kb;by_cases c:∃ f,f<N/\K f=i0/\(D (a f) ^^ D (b f))=i0/\J f=j5
 .let g ac t al j1:=c;let y1 k aI aS aa aT:=rO al;let o P e r Y j ef s h5 h6 h7 h8 h9 ab:=exits (N:=N) (a:=a) (b:=b) D _ (tg (tg K J) (one g)) y1 (Lo _) aI λw y=>by
   rw[dX,dX,jM ac,aa,kb,M,show(k == w)=j5 from beq_eq_false_iff_ne.mpr λz=>by simp!]
   simp!
  let am:o≠g:=λz=>by rw[z]at j;unfold tg one at j;simp!
  let F2:(K o ^^ J o)=i0:=by
   unfold tg one at j;rw[show(o == g)=j5 from beq_eq_false_iff_ne.mpr am,Ml]at j;exact j
  let P1:P g=j5:=by
   cases p:P g with
   |false=>rfl
   |true=>simp!
  let wz H Q:=T.zc k r aS h6;let Z1:∀ f,(D (a f) ^^ D (b f))=i0->wz f=j5:=λf xf=>by
   cases p:wz f with
   |false=>rfl
   |true=>simp!
  let ad hR:∃ ad,ad=tg (tg P (one g)) (one o):=#[9];let av:∀ i,i<N->ad i=i0->(J i ^^ K i)=i0:=λi _ B=>by
   rw[NK];by_cases c1:i=g
   .simp!
   by_cases c2:i=o
   .rw[c2];exact F2
   rw[hR]at B;unfold tg one at B;rw[show(i == g)=j5 from beq_eq_false_iff_ne.mpr c1,show(i == o)=j5 from beq_eq_false_iff_ne.mpr c2,Ml,Ml]at B;let:=(s i B).2.1;unfold tg one at this;rw[show(i == g)=j5 from beq_eq_false_iff_ne.mpr c1,Ml]at this;exact this
  let sm:=zC (w:=l) av;let zl:∀{F:R->im},csw l (tg F wz) N=csw l F N:=pe λi _ B=>(H i B).2.2.2;let bR:∀ w,bd N a b ad w=((k == w) ^^ (r == w)):=λw=>by
   rw[hR,dX,dX,jM ac,jM Y,aa,h7,ab]
   cases (y1 == w)<;>cases (e == w)<;>cases (k == w)<;>cases (r == w)<;>rfl
  let bJ:∀ w,bd N a b (tg (tg J ad) wz) w=(O w ^^ (v == w)):=λw=>by
   rw[dX,dX,M,bR,Q];simp!
  let bK:∀ w,bd N a b (tg (tg K ad) wz) w=(O w ^^ (v == w)):=λw=>by
   rw[dX,dX,kb,bR,Q];simp!
  let lJ:=C.lo v _ hv bJ;rw[zl]at lJ;let an:∀{w:R->R}{F:R->im},(∀ i,(D (a i) ^^ D (b i))=j5->w i=0)->csw w (tg (tg F ad) wz) N=csw w (tg (tg F (one g)) (one o)) N:=λ{w F} A=>csw_congr λi B=>by
   cases xi:(D (a i) ^^ D (b i)) with
   |false=>rw[A i xi];simp!
   |true =>
    let Pi:P i=j5:=by
     cases p:P i with
     |false=>rfl
     |true=>simp!
    let:tg (tg F ad) wz i=tg (tg F (one g)) (one o) i:=by
     rw[hR];unfold tg;rw[Z1 i xi,Pi];simp
    rw[this]
  let x0:∀ i,(D (a i) ^^ D (b i))=j5->chi D a b i=0:=λi h=>by unfold chi;rw[h];rfl
  let q0:∀ i,(D (a i) ^^ D (b i))=j5->rho D J a b i=0:=λi h=>by unfold rho;rw[h];rfl
  let xa:chi D a b g=1:=by unfold chi;rw[al];rfl
  let xb:chi D a b o=1:=by unfold chi;rw[h9];rfl
  let ap:tg K (one g) o=K o:=by unfold tg one;rw[show(o == g)=j5 from beq_eq_false_iff_ne.mpr am,Ml]
  let o1:=iG (w:=chi D a b) ac t;let o2:=iG (w:=rho D J a b) ac t;let w1:rho D J a b g=1:=by unfold rho;rw[al,j1];rfl
  rw[w1]at o2;rw[xa]at o1;let cK:=an (F:=K) x0;let cQ:=an (F:=K) q0;let zK:=zl (F:=tg K ad)
  cases j2:J o with
  |true =>
   let k2:K o=j5:=by rw[j2]at F2;simpa using F2
   let p1:=rF (w:=chi D a b) (F:=tg K (one g)) Y (by rw[ap];exact k2)
   let I:=rF (w:=rho D J a b) (F:=tg K (one g)) Y (by rw[ap];exact k2)
   let w2:rho D J a b o=0:=by unfold rho;rw[j2];simp!
   grind
  |false =>
   let k2:K o=i0:=by rw[j2]at F2;simpa using F2
   let p1:=iG (w:=chi D a b) (F:=tg K (one g)) Y (by rw[ap];exact k2)
   let I:=iG (w:=rho D J a b) (F:=tg K (one g)) Y (by rw[ap];exact k2)
   let J1:tg (tg J ad) wz g=i0:=by
    rw[hR];unfold tg one;rw[Z1 g al,j1,P1,show(g == o)=j5 from beq_eq_false_iff_ne.mpr (Ne.Y am)];simp
   let J2:tg (tg J ad) wz o=i0:=by
    rw[hR];unfold tg one;rw[Z1 o h9,j2,ef,show(o == g)=j5 from beq_eq_false_iff_ne.mpr am];simp
   let aZ:csw l (tg J ad) N≠m v:=λz=>am ((C.uniq T hv bJ (by rw[zl];exact z)).2.2 o g Y ac J2 J1 h9 al)
   let rg:=C.ring (ad:=tg ad wz) λw=>by rw[dX,bR,Q,OY]
   rw[zl]at rg;let pa:=EW (l:=l) (F:=J) (eg:=ad) N;grind
 .let:csw (chi D a b) K N<=csw (chi D a b) J N:=csw_le λi B=>by
   cases ki:K i with
   |false=>exact LU _
   |true =>
    cases xi:(D (a i) ^^ D (b i)) with
    |false=>unfold chi;rw[xi];cases J i<;>exact Lo _
    |true =>
     cases ji:J i with
     |true=>exact Lo _
     |false=>exact Ry #[i,B,ki,xi,ji] c
  lia
theorem pf{w:R->R}{F:R->im}:∀{n:R},(∀ i,i<n->F i=i0->w i=0)->csw w F n=0
 |0,_=>rfl
 |n+1,h=>by
  show csw w F n+cond (F n) (w n) 0=0;rw[pf λi B=>h i ∅]
  cases f:F n with
  |false=>rfl
  |true=>rw[Of];exact h n ∅ f
def Cfg.one_out(C:Cfg N n a b O l m)(T:Top N n a b l m D M0){v:R}(hv:v<n)(M:∀ x,bd N a b J x=(O x ^^ (v == x)))(d:csw l J N=m v):csw (chi D a b) J N=cond (D v) 0 1:=by
 let Y j ef:=C.uniq T hv M d;let u:∀{i:R},¬ (D (a i) ^^ D (b i))=i0->chi D a b i=0:=λ{i} h=>by unfold chi;rw[im.not_eq_true _ |>.mp h];rfl
 cases q:D v with
 |true=>exact pf λi B f=>u (j q i B f)
 |false =>
  let e eg g p:=Y q;let o:=iG (w:=chi D a b) eg g;let z:csw (chi D a b) (tg J (one e)) N=0:=pf λi B f=>u λL=>by
   by_cases c:i=e
   .rw[c]at f;unfold tg one at f;simp!
   .unfold tg one at f;rw[show(i == e)=j5 from beq_eq_false_iff_ne.mpr c,Ml]at f;exact c (ef i e B eg f g L p)
  let k:chi D a b e=1:=by unfold chi;rw[p];rfl
  rw[z,k]at o;exact o.Y
def Cfg.odd(C:Cfg N n a b O l m)(T:Top N n a b l m D M0){v:R}(hv:v<n)(q:D v=j5):par (λx=>D x&&(O x ^^ (v == x))) n=i0:=by
 let J M d:=C.mn v hv;let Y _ ef:=C.uniq T hv M d;let e eg g p:=Y q;let c:=cut (n:=n) D J C.ends;let c2:par (λx=>D x&&bd N a b J x) n=par (λx=>D x&&(O x ^^ (v == x))) n:=par_congr λx _=>by rw[M]
 rw[← c2,← c,kW (e:=e) λi B ne=>?_,QG eg,g,p]
 .rfl
 .cases f:J i with
  |false=>rfl
  |true =>
   cases L:(D (a i) ^^ D (b i)) with
   |false=>rfl
   |true=>exact Ry (ef i e B eg f g L p) ne
def Cfg.step(C:Cfg N n a b O l m)(T:Top N n a b l m D M0):Cfg N n a b O (λi=>l i-chi D a b i) (λv=>m v-cond (D v) 0 1)/\∀ v,v<n->D v=j5->1<=m v:=by
 let g:∀ i,i<N->chi D a b i<=l i:=λi B=>by
  unfold chi
  cases x:(D (a i) ^^ D (b i)) with
  |false=>exact LU _
  |true=>exact T.cr i B x
 let ef:∀ F,csw l F N=csw (λi=>l i-chi D a b i) F N+csw (chi D a b) F N:=λF=>by
  rw[← csw_add];exact csw_congr λi B=>by rw[Nat.sub_add_cancel (g i B)]
 let f:∀ v,v<n->D v=j5->1<=m v:=λv H q=>by
  let J M d:=C.mn v H;let:=C.one_out T H M d;grind
 erw[#[C.ends,λv H=>?_,λv F H u=>?_,λi B=>?_],f]
 .let J M d:=C.mn v H;erw[J,M,3];let:=C.one_out T H M d;let s:=ef J;rw[this,d]at s;lia
 .let J M d:=C.mn v H;let o:=C.one_out T H M d;let:=C.low2 T H M d _ F (Lo _) u;let s:=ef F;grind
 .let p:=C.pr i B
  let e:=g i B;let r t:=C.ends i B;let c:=f (a i) r;let w:=f (b i) t;show(l i-chi D a b i+(m (a i)-cond (D (a i)) 0 1)+(m (b i)-cond (D (b i)) 0 1))%2=0;unfold chi at e ⊢
  cases j:D (a i)<;>cases k:D (b i)<;>rw[j,k]at e<;>simp at e ⊢<;>(try have:=c j)<;>(try have:=w k)<;>lia
def cn:E (R->im)->R->R
 |[],_=>0
 |D::d,v=>cond (D v) 0 1+cn d v
def cx(a b:R->R):E (R->im)->R->R
 |[],_=>0
 |D::d,i=>chi D a b i+cx a b d i
def mX(D ef:R->im):Prop:=∀ x,D x=i0->ef x=i0->False
structure Pce(N n:R)(a b:R->R)(l m:R->R)(D:R->im)(M0:R):Prop where
 ne:∃ x,D x=i0
 lt:∀ x,D x=i0->x<n
 tp:∀ x,D x=i0->m x=M0
 zc:∀ x y,D x=i0->D y=i0->∃ wz:R->im,(∀ i,wz i=i0->i<N/\D (a i)=i0/\D (b i)=i0/\l i=0)/\∀ v,bd N a b wz v=((x == v) ^^ (y == v))
def IL{ef:R->im}(Y:D (a i)=i0)(h2:D (b i)=i0)(h:mX D ef):chi ef a b i=0:=by
 unfold chi;let f:ef (a i)=j5:=by cases z:ef (a i)with|false=>rfl|true=>exact(h _ Y z).elim
 let A:ef (b i)=j5:=by cases z:ef (b i)with|false=>rfl|true=>exact(h _ h2 z).elim
 rw[f,A];rfl
theorem Cfg.many:∀(Ds:E (R->im)){l m:R->R}{M0:R},Cfg N n a b O l m->(∀ D∈Ds,Pce N n a b l m D M0)->(∀ v,v<n->M0<=m v)->(∀ D∈Ds,∀ i,i<N->(D (a i) ^^ D (b i))=i0->cx a b Ds i<=l i)->Ds.y mX ->
  Cfg N n a b O (λi=>l i-cx a b Ds i) (λv=>m v-cn Ds v)/\(∀ v,v<n->cn Ds v<=m v)/\∀ D∈Ds,∀ v,v<n->D v=j5->par (λx=>D x&&(O x ^^ (v == x))) n=i0
 |[],l,m,M0,C,_,_,_,_=>#[by simpa only[cx,cn,Nat.sub_zero] using C,λv _=>LU _,λD h=>by cases h]
 |D::Ds,l,m,M0,C,Y,d,cr,s=>by
  let w aa:=Ny.mp s;let pD:=Y D (Lv ..)
  let T:Top N n a b l m D M0:=#[pD.ne,pD.lt,pD.tp,d,λi B x=>by
   let:=cr D (Lv ..) i B x;let k:chi D a b i=1:=by unfold chi;rw[x];rfl
   let:cx a b (D::Ds) i=chi D a b i+cx a b Ds i:=rfl
   lia,pD.zc]
  let C1 o:=C.step T;let ab:∀ ef∈Ds,Pce N n a b (λi=>l i-chi D a b i) (λv=>m v-cond (D v) 0 1) ef (M0-1):=λef c=>by
   let pE:=Y ef (Lr _ c);erw[pE.ne,pE.lt,λx J=>?_,λx y J Q=>?_]
   .show m x-cond (D x) 0 1=M0-1;let:D x=j5:=by cases z:D x with|false=>rfl|true=>exact(w ef c x z J).elim
    rw[this,pE.tp x J];rfl
   .let wz e eg:=pE.zc x y J Q;erw[wz,λi B=>?_,eg];let r M t I:=e i B;simp!
  let ac:∀ v,v<n->M0-1<=m v-cond (D v) 0 1:=λv H=>by
   let:=d v H
   cases D v<;>simp<;>lia
  let al:∀ ef∈Ds,∀ i,i<N->(ef (a i) ^^ ef (b i))=i0->cx a b Ds i<=l i-chi D a b i:=λef c i B L=>by
   let:=cr ef (Lr _ c) i B L;let:cx a b (D::Ds) i=chi D a b i+cx a b Ds i:=rfl;lia
  let j u g:=Cfg.many Ds C1 ab ac al aa;erw[3,λv H=>?_,λef c v H q=>?_]
  .let f:(λi=>l i-cx a b (D::Ds) i)=λi=>l i-chi D a b i-cx a b Ds i:=funext λi=>ON ..
   let A:(λv=>m v-cn (D::Ds) v)=λv=>m v-cond (D v) 0 1-cn Ds v:=funext λv=>ON ..;rw[f,A];exact j
  .let:=u v H
   let p:=o v H;show cond (D v) 0 1+cn Ds v<=m v
   cases q:D v with
   |true=>simp!
   |false=>rw[q]at this;let:=p q;simp at *;lia
  .obtain h|h:=Lw.mp c
   .rw[h]at q ⊢;exact C.odd T H q
   .exact g ef h v H q
theorem Ho:∀{Ds:E (R->im)}{v:R},(∀ D∈Ds,D v=j5)->cn Ds v=Ds.L
 |[],_,_=>rfl
 |D::Ds,v,h=>by
  show cond (D v) 0 1+cn Ds v=_;rw[h D (Lv ..),Ho λef c=>h ef (Lr _ c),My];grind
theorem Hq:∀{Ds:E (R->im)}{v:R},Ds.y mX->D∈Ds->D v=i0->cn Ds v+1=Ds.L
 |ef::Ds,v,s,h,q=>by
  let w d:=Ny.mp s;show cond (ef v) 0 1+cn Ds v+1=_;rw[My];obtain h|h:=Lw.mp h
  .rw[← h,q,Ho λF c=>by cases z:F v with|false=>rfl|true=>exact(w F c v (by rw[← h];exact q) z).elim]
   simp
  .let e:ef v=j5:=by cases z:ef v with|false=>rfl|true=>exact(w D h v z q).elim
   let:=Hq d h q;lia
theorem cx_in:∀{Ds:E (R->im)}{i:R},Ds.y mX->D∈Ds->D (a i)=i0->D (b i)=i0->cx a b Ds i=0
 |ef::Ds,i,s,h,j,k=>by
  let w d:=Ny.mp s;show chi ef a b i+cx a b Ds i=0;obtain h|h:=Lw.mp h
  .let e:∀ f:E (R->im),(∀ F∈f,mX D F)->cx a b f i=0:=λf=>by
    induction f with
    |nil=>intro _;rfl
    |cons F f L=>intro c;show chi F a b i+cx a b f i=0;rw[IL j k (c F (Lv ..)),L λeg g=>c eg (Lr _ g)]
   rw[e Ds λF c=>by rw[h];exact w F c]
   unfold chi;rw[← h,j,k];rfl
  .rw[IL j k λx J l=>w D h x l J,cx_in d h j k]
theorem Cfg.down(Ds:E (R->im))(s:Ds.y mX):∀(t:R){l m:R->R}{M0:R},Cfg N n a b O l m->(∀ D∈Ds,Pce N n a b l m D M0)->(∀ v,v<n->(∃ D∈Ds,D v=i0)∨M0+t<=m v)->(∀ i,i<N->t*cx a b Ds i<=l i) ->
  Cfg N n a b O (λi=>l i-t*cx a b Ds i) (λv=>m v-t*cn Ds v)/\(∀ v,v<n->t*cn Ds v<=m v)/\(0<t->∀ D∈Ds,∀ v,v<n->D v=j5->par (λx=>D x&&(O x ^^ (v == x))) n=i0)
 |0,l,m,M0,C,_,_,_=>#[by simpa only[Nat.zero_mul,Nat.sub_zero] using C,λv _=>by rw[Nat.zero_mul];exact LU _,λh=>by lia]
 |t+1,l,m,M0,C,T,d,cr=>by
  let sm:∀ k:R,(t+1)*k=t*k+k:=λk=>Nat.succ_mul t k
  let C1 Y j:=C.many Ds T (λv H=>by
   rcases d v H with⟨D,L,q⟩|h
   .exact O7 ((T D L).tp v q).Y
   .lia) (λD L i B x=>by let:=cr i B;lia) s
  let aa:∀ D∈Ds,Pce N n a b (λi=>l i-cx a b Ds i) (λv=>m v-cn Ds v) D (M0+1-Ds.L):=λD L=>by
   let M:=T D L;erw[M.ne,M.lt,λx J=>?_,λx y J Q=>?_]
   .let:=Hq s L J
    let:=M.tp x J;let:=Y x (M.lt x J);grind
   .let wz e eg:=M.zc x y J Q;erw[wz,λi B=>?_,eg];let ef p r I:=e i B;simp!
  let g:Ds.L<=M0+1:=by
   by_cases c:Ds=[]
   .simp[*]
   .let D L:=List.exists_mem_of_ne_nil _ c;let x J:=(T D L).ne;let:=Hq s L J;let:=(T D L).tp x J;let:=Y x ((T D L).lt x J);lia
  let ab:∀ v,v<n->(∃ D∈Ds,D v=i0)∨M0+1-Ds.L+t<=m v-cn Ds v:=λv H=>by
   by_cases c:∃ D∈Ds,D v=i0
   .exact .inl c
   .let h:M0+(t+1)<=m v:=(d v H).elim (λz=>Ry z c) id
    let:=Ho (Ds:=Ds) (v:=v) λD L=>by simp!
    let:=Y v H;lia
  let ac:∀ i,i<N->t*cx a b Ds i<=l i-cx a b Ds i:=λi B=>by
   let:=cr i B;lia
  let w u o:=Cfg.down Ds s t C1 aa ab ac;erw[3,λv H=>?_,λ_=>j]
  .let f:(λi=>l i-(t+1)*cx a b Ds i)=λi=>l i-cx a b Ds i-t*cx a b Ds i:=funext λi=>by rw[sm,O8,ON]
   let A:(λv=>m v-(t+1)*cn Ds v)=λv=>m v-cn Ds v-t*cn Ds v:=funext λv=>by rw[sm,O8,ON]
   rw[f,A];exact w
  .let:=u v H
   grind
end
section
variable{N n:R}{a b:R->R}{O:R->im}{len h:R->G}{pc:R->R}{L:G}{l m:R->R}
def dm(M:R):R->im:=λx=>M.O x
def ZC(N:R)(a b:R->R)(pc l:R->R)(M x y:R):Prop:=∃ wz:R->im,(∀ i,wz i=i0->i<N/\pc (a i)=M/\pc (b i)=M/\l i=0)/\∀ v,bd N a b wz v=((x == v) ^^ (y == v))
theorem ZC.refl(M x:R):ZC N a b pc l M x x:=#[λ_=>j5,λ_ h=>Pj h,λv=>by rw[Le,OY]]
def ZC.symm{x y:R}(h:ZC N a b pc l M x y):ZC N a b pc l M y x:=by
 let wz H Q:=h;erw[wz,H,λv=>by rw[Q,NK]]
def ZC.trans{x y z:R}(h:ZC N a b pc l M x y)(g:ZC N a b pc l M y z):ZC N a b pc l M x z:=by
 let wz H Q:=h;let Y o J:=g;erw[tg wz Y,λi B=>?_,λv=>by rw[dX,Q,J,x3]]
 unfold tg at B
 cases c:wz i with
 |true=>exact H i c
 |false=>rw[c,OO]at B;exact o i B
def ZC.imp{e:R->R}{x y:R}(h:ZC N a b pc l M x y)(c:∀ i,i<N->a i<n/\b i<n)(k:∀ v,v<n->pc v=M->e v=j):ZC N a b e l j x y:=by
 let wz H Q:=h;erw[wz,λi B=>?_,Q];let m u d p:=H i B;erw[m,k _ (c i m).1 u,k _ (c i m).2 d,p]
structure Run(N n:R)(a b:R->R)(O:R->im)(len h:R->G)(pc:R->R)(L:G)(l m:R->R):Prop where
 C:Cfg N n a b O l m
 cc:∃ c:G,∀ v,v<n->(2*h v<=L->(m v:G)=c-2*h v)/\(L<=2*h v->(m v:G)=c-L)
 pa:∀ v,v<n->pc v≠0->(pc v).O v=i0
 pb:∀ v x,v<n->(pc v).O x=i0->x<n/\pc x=pc v
 dr:∀ v,v<n->pc v≠0->L<=2*h v
 we:∀ v,v<n->pc v=0->2*h v<=L
 zc:∀ x y,x<n->y<n->pc x≠0->pc y=pc x->ZC N a b pc l (pc x) x y
 fl:∀ i,i<N->(pc (a i)=0->pc (b i)=0->(l i:G)=2*len i)/\(pc (a i)≠0->pc (b i)=0->(l i:G)+(2*h (a i)-L)=2*len i)/\(pc (a i)=0->pc (b i)≠0->(l i:G)+(2*h (b i)-L)=2*len i)/\(pc (a i)≠0->pc (b i)≠0->pc (a i)≠pc (b i)->(l i:G)+(2*h (a i)-L)+(2*h (b i)-L)=2*len i)
def bit0{v:R}:NV 0 v≠i0:=by simp
theorem IH{i:R}:∀{Ds:E (R->im)},(∀ D∈Ds,D (a i)=i0->D (b i)=i0->False)->cx a b Ds i+cn Ds (a i)+cn Ds (b i)=2*Ds.L
 |[],_=>rfl
 |D::Ds,h=>by
  let L:=IH (i:=i) λef c=>h ef (Lr _ c);let hd:=h D (Lv ..);show chi D a b i+cx a b Ds i+(cond (D (a i)) 0 1+cn Ds (a i))+(cond (D (b i)) 0 1+cn Ds (b i))=_;rw[My];unfold chi;grind
def Run.down(ad:Run N n a b O len h pc L l m)(lip:∀ i,i<N->h (a i)-h (b i)<=len i/\h (b i)-h (a i)<=len i){Ms:E R}(hM:∀ M,M∈Ms↔M≠0/\∃ v,v<n/\pc v=M)(nd:Ms.l)(ne:∃ v,v<n/\pc v≠0){t:R}(hw:∀ v,v<n->pc v=0->2*h v<=L-t)(hl:∀ i,i<N->pc (a i)≠0->pc (b i)≠0->pc (a i)≠pc (b i)->h (a i)+h (b i)-len i<=L-t):
  ∃ l' m',Run N n a b O len h pc (L-t) l' m'/\(∀ v,v<n->m v=m' v+t*cn (Ms.h dm) v)/\(∀ i,i<N->l i=l' i+t*cx a b (Ms.h dm) i)/\(0<t->∀ M∈Ms,∀ v,v<n->M.O v=j5->par (λx=>M.O x&&(O x ^^ (v == x))) n=i0):=by
 let c T:=ad.cc;let aa:∀{M x:R},M∈Ms->M.O x=i0->x<n/\pc x=M:=λ{M x} Y j=>by
  let _ v H e:=(hM M).mp Y;rw[← e]at j ⊢;exact ad.pb v x H j
 let ap:(Ms.h dm).y mX:=NX.mpr (nd.imp_of_mem λ{M M'} Y j ne x d1 d2=>ne ((aa Y d1).2.Y.Q (aa j d2).2));let mem:∀ v,v<n->pc v≠0->dm (pc v)∈Ms.h dm:=λv H z=>LW.mpr #[_,(hM _).mpr #[z,v,H,U],U];let cD:∀ v,v<n->pc v≠0->cn (Ms.h dm) v+1=(Ms.h dm).L:=λv H z=>Hq ap (mem v H z) (ad.pa v H z);let cW:∀ v,pc v=0->cn (Ms.h dm) v=(Ms.h dm).L:=λv z=>Ho λD hD=>by
  let M Y rfl:=LW.mp hD
  cases q:dm M v with
  |false=>rfl
  |true=>exact Ry (z▸(aa Y q).2).Y ((hM M).mp Y).1
 let xS:∀ i,i<N->pc (a i)≠0->pc (b i)=pc (a i)->cx a b (Ms.h dm) i=0:=λi B z e=>by
  let ea eb:=ad.C.ends i B;exact cx_in ap (mem _ ea z) (ad.pa _ ea z) (by rw[← e];exact ad.pa _ eb (by rw[e];exact z))
 let xO:∀ i,i<N->(pc (a i)=pc (b i)->pc (a i)=0)->cx a b (Ms.h dm) i+cn (Ms.h dm) (a i)+cn (Ms.h dm) (b i)=2*(Ms.h dm).L:=λi B z=>IH λD hD d1 d2=>by
  let M Y rfl:=LW.mp hD;let f:=(aa Y d1).2;let A:=(aa Y d2).2;exact((hM M).mp Y).1 (f.Y.Q (z (f.Q A.Y)))
 let v0 ab z0:=ne;let c0:=(T v0 ab).2 (ad.dr v0 ab z0);let M0 an:∃ M0:R,(M0:G)=c-L:=#[m v0,c0];let tl:∀ i,i<N->t*cx a b (Ms.h dm) i<=l i:=λi B=>by
  let f1 f2 f3 f4:=ad.fl i B;let ea eb:=ad.C.ends i B;let am:=lip i B;by_cases za:pc (a i)=0<;>by_cases zb:pc (b i)=0
  .let:=xO i B λ_=>za
   let:=cW _ za;let:=cW _ zb;lia
  .let:=xO i B λ_=>za
   let:=cW _ za;let:=cD _ eb zb;grind
  .let:=xO i B λe=>e.Q zb
   let:=cD _ ea za;let:=cW _ zb;let:=f2 za zb;let:=hw _ eb zb;grind
  .by_cases e:pc (a i)=pc (b i)
   .simp[*]
   .grind
 let o g2 g3:=ad.C.down (Ms.h dm) ap t (M0:=M0) (λD hD=>by
  let M Y rfl:=LW.mp hD;let z v H e:=(hM M).mp Y;let ac:∀ x,dm M x=i0->x<n/\pc x=M/\pc x≠0:=λx J=>#[(aa Y J).1,(aa Y J).2,by rw[(aa Y J).2];exact z]
  erw[#[v,by show M.O v=i0;rw[← e];exact ad.pa v H (by rw[e];exact z)],λx J=>(ac x J).1,λx J=>?_,λx y J Q=>?_]
  .let ef eg q3:=ac x J;let:=(T x ef).2 (ad.dr x ef q3);lia
  .let ef eg q3:=ac x J;let g r2 r3:=ac y Q;let wz I s:=ad.zc x y ef g q3 (r2.Q eg.Y);erw[wz,λi B=>?_,s];let r k p s4:=I i B;let ea eb:=ad.C.ends i r;erw[r,15,s4]
   .show M.O (a i)=i0;rw[← eg,← k];exact ad.pa _ ea (by rw[k];exact q3)
   .show M.O (b i)=i0;rw[← eg,← p];exact ad.pa _ eb (by rw[p];exact q3)) (λv H=>by
  by_cases z:pc v=0
  .let:=(T v H).1 (ad.we v H z)
   let:=hw v H z;exact .inr ∅
  .exact .inl #[_,mem v H z,ad.pa v H z]) tl
 erw[5,#[o,#[c-t*(Ms.h dm).L,λv H=>?_],ad.pa,ad.pb,λv H z=>?_,hw,λx y J Q z e=>?_,λi B=>?_],λv H=>?_,λi B=>?_,λu M Y v H dv=>g3 u (dm M) (LW.mpr #[M,Y,U]) v H dv]
 .let le:=g2 v H
  let al:=T v H;let em:(((m v-t*cn (Ms.h dm) v:R):R):G)=(m v:G)-((t*cn (Ms.h dm) v:R):G):=by lia
  rw[em];by_cases z:pc v=0
  .let e:=cW v z
   let w:=hw v H z;rw[e];let:=al.1 (ad.we v H z);push_cast;lia
  .let e:=cD v H z
   let d:=ad.dr v H z;let:=al.2 d;let A:(t:G)*((Ms.h dm).L:G)=(t:G)*(cn (Ms.h dm) v:G)+t:=by
    rw[← e];push_cast;rfl
   rw[A];push_cast;lia
 .let:=ad.dr v H z
  lia
 .let wz I s:=ad.zc x y J Q z e;erw[wz,λi B=>?_,s];simp[*]
 .let le:=tl i B
  let f1 f2 f3 f4:=ad.fl i B;let ea eb:=ad.C.ends i B;let em:(((l i-t*cx a b (Ms.h dm) i:R):R):G)=(l i:G)-((t*cx a b (Ms.h dm) i:R):G):=by lia
  show((pc (a i)=0->pc (b i)=0->(((l i-t*cx a b (Ms.h dm) i:R):R):G)=2*len i)/\(pc (a i)≠0->pc (b i)=0->(((l i-t*cx a b (Ms.h dm) i:R):R):G)+(2*h (a i)-(L-t))=2*len i)/\(pc (a i)=0->pc (b i)≠0->(((l i-t*cx a b (Ms.h dm) i:R):R):G)+(2*h (b i)-(L-t))=2*len i)/\(pc (a i)≠0->pc (b i)≠0->pc (a i)≠pc (b i)->(((l i-t*cx a b (Ms.h dm) i:R):R):G)+(2*h (a i)-(L-t))+(2*h (b i)-(L-t))=2*len i));rw[em];erw[λza zb=>?_,λza zb=>?_,λza zb=>?_,λza zb e=>?_]
  .let:=xO i B λ_=>za
   let:=cW _ za;let:=cW _ zb;let:=f1 za zb;rw[show cx a b (Ms.h dm) i=0 by lia]
   lia
  .let:=xO i B λe=>e.Q zb
   let:=cD _ ea za;let:=cW _ zb;let:=f2 za zb;rw[show cx a b (Ms.h dm) i=1 by lia]
   lia
  .let:=xO i B λ_=>za
   let:=cW _ za;let:=cD _ eb zb;let:=f3 za zb;rw[show cx a b (Ms.h dm) i=1 by lia]
   lia
  .let:=xO i B λy=>Ry y e
   let:=cD _ ea za;let:=cD _ eb zb;let:=f4 za zb e;rw[show cx a b (Ms.h dm) i=2 by lia]
   lia
 .simp[*]
 .simp[*]
def jn2(pc:R->R)(P v:R):R:=if P.O v=i0 then P else pc v
def Run.join(ad:Run N n a b O len h pc L l m){u w P:R}(eg:u<n)(hw:w<n)(lu:L<=2*h u)(lw:L<=2*h w)(hz:u=w∨∃ i,i<N/\a i=u/\b i=w/\h u+h w-len i=L)(hP:P=2^u|||2^w|||pc u|||pc w):Run N n a b O len h (jn2 pc P) L l m/\(jn2 pc P u=P/\jn2 pc P w=P/\P≠0)/\(∀ v,P.O v=i0->v<n)/\∀ x v,x<n->v<n->pc v≠0->pc x=pc v->jn2 pc P x=jn2 pc P v/\jn2 pc P v≠0:=by
 let bP:∀ v,P.O v=i0↔(v=u∨v=w∨(pc u).O v=i0∨(pc w).O v=i0):=λv=>by
  rw[hP,Mw,Mw,Mw,LP,LP,Nf,Nf,Nf,decide_eq_true_iff,decide_eq_true_iff];constructor
  .rintro(((h|h)|h)|h)
   .exact .inl h.Y
   .exact .inr (.inl h.Y)
   .exact .inr (.inr (.inl h))
   .exact .inr (.inr (.inr h))
  .rintro(h|h|h|h)
   .exact .inl (.inl (.inl h.Y))
   .exact .inl (.inl (.inr h.Y))
   .exact .inl (.inr h)
   .exact .inr h
 let Pu:P.O u=i0:=(bP u).mpr (.inl U);let Pw:P.O w=i0:=(bP w).mpr (.inr (.inl U));let P0:P≠0:=λz=>by rw[z]at Pu;exact bit0 Pu
 let inP:∀ v,P.O v=i0->v<n/\(v=u∨v=w∨(pc v=pc u/\pc v≠0)∨(pc v=pc w/\pc v≠0)):=λv H=>by
  rcases(bP v).mp H with h|h|h|h
  .erw[4,.inl h]
  .erw[4,.inr (.inl h)]
  .let ef M:=ad.pb u v eg h;erw[ef,.inr (.inr (.inl #[M,λz=>by rw[← M,z]at h;exact bit0 h]))]
  .let ef M:=ad.pb w v hw h;erw[ef,.inr (.inr (.inr #[M,λz=>by rw[← M,z]at h;exact bit0 h]))]
 let same:∀ x v,v<n->x<n->pc v≠0->pc x=pc v->P.O x=i0->P.O v=i0:=λx v H J z e Y=>by
  let pv:=ad.pa v H z;rcases(inP x Y).2 with h|h|h|h
  .rw[h]at e;exact(bP v).mpr (.inr (.inr (.inl (by rw[e];exact pv))))
  .rw[h]at e;exact(bP v).mpr (.inr (.inr (.inr (by rw[e];exact pv))))
  .exact(bP v).mpr (.inr (.inr (.inl (by rw[← h.1,e];exact pv))))
  .exact(bP v).mpr (.inr (.inr (.inr (by rw[← h.1,e];exact pv))))
 let jP:∀{v},P.O v=i0->jn2 pc P v=P:=λh=>Rw h;let jN:∀{v},¬ P.O v=i0->jn2 pc P v=pc v:=λh=>Rx h;let aa:∀ v,v<n->jn2 pc P v≠0->L<=2*h v:=λv H z=>by
  by_cases c:P.O v=i0
  .rcases(inP v c).2 with h|h|h|h
   .rw[h];exact lu
   .rw[h];exact lw
   .exact ad.dr v H h.2
   .exact ad.dr v H h.2
  .rw[jN c]at z;exact ad.dr v H z
 let up:∀ v,pc v≠0->jn2 pc P v≠0:=λv z=>by
  by_cases c:P.O v=i0
  .rw[jP c];exact P0
  .rw[jN c];exact z
 let jS:∀ x v,x<n->v<n->pc v≠0->pc x=pc v->jn2 pc P x=jn2 pc P v:=λx v J H z e=>by
  by_cases c:P.O x=i0
  .rw[jP c,jP (same x v H J z e c)]
  .rw[jN c,jN λk=>c (same v x J H (by rw[e];exact z) e.Y k),e]
 erw[#[ad.C,ad.cc,λv H z=>?_,λv x H J=>?_,aa,λv H z=>?_,λx y J Q z e=>?_,λi B=>?_],#[jP Pu,jP Pw,P0],λv H=>(inP v H).1,λx v J H z e=>#[jS x v J H z e,up v z]]
 .by_cases c:P.O v=i0
  .rw[jP c];exact c
  .rw[jN c]at z ⊢;exact ad.pa v H z
 .by_cases c:P.O v=i0
  .rw[jP c]at J ⊢;erw[(inP x J).1,jP J]
  .rw[jN c]at J ⊢;let ef M:=ad.pb v x H J;let z:pc v≠0:=λz=>by rw[z]at J;exact bit0 J
   erw[ef,3];rw[jN λk=>c (same x v H ef z M k)];exact M
 .by_cases c:P.O v=i0
  .rw[jP c]at z;exact Ry z P0
  .rw[jN c]at z;exact ad.we v H z
 .skip
  let D:∀ x y,x<n->y<n->pc x≠0->pc y=pc x->ZC N a b (jn2 pc P) l (jn2 pc P x) x y:=λx y J Q z e=>(ad.zc x y J Q z e).imp ad.C.ends λv vn H=>jS v x vn J z H;let wu:ZC N a b (jn2 pc P) l P w u:=by
   obtain rfl|⟨i,B,d,t,s⟩:=hz
   .exact .refl _ _
   .by_cases c:pc u=pc w/\pc w≠0
    .let:=D w u hw eg c.2 c.1
     rw[jP Pw]at this;exact this
    .let g o f3 f4:=ad.fl i B;rw[d,t]at g o f3 f4;let l0:l i=0:=by
      by_cases zu:pc u=0<;>by_cases zw:pc w=0
      .let:=g zu zw
       let:=ad.we u eg zu;let:=ad.we w hw zw;lia
      .let:=f3 zu zw
       let:=ad.we u eg zu;lia
      .let:=o zu zw
       let:=ad.we w hw zw;lia
      .let:=f4 zu zw λe=>c #[e,zw]
       lia
     refine ZC.Y #[one i,λj I=>?_,λv=>by rw[jM B,d,t]]
     rw[eq_of_beq I];erw[B,by rw[d];exact jP Pu,by rw[t];exact jP Pw,l0]
  let ab:∀ x,P.O x=i0->ZC N a b (jn2 pc P) l P x u:=λx J=>by
   let xn q:=inP x J;obtain rfl|rfl|⟨f,A⟩|⟨f,A⟩:=q
   .exact .refl _ _
   .exact wu
   .let:=D x u xn eg A f.Y
    rw[jP J]at this;exact this
   .let:=D x w xn hw A f.Y
    rw[jP J]at this;exact this.Q wu
  by_cases c:P.O x=i0
  .rw[jP c]at e z ⊢;let cy:P.O y=i0:=by
    by_cases cy:P.O y=i0
    .exact cy
    .rw[jN cy]at e;let:=ad.pa y Q (by rw[e];exact z)
     rw[e]at this;exact this
   exact(ab x c).Q (ab y cy).Y
  .let T:=jN c
   rw[T]at e z;let cy:¬ P.O y=i0:=λcy=>by
    rw[jP cy]at e;let:=ad.pa x J z;rw[← e]at this;exact c this
   rw[jN cy]at e;exact D x y J Q z e
 .let g o f3 f4:=ad.fl i B;let d t:=ad.C.ends i B;let wa:=ad.we (a i) d;let wb:=ad.we (b i) t;let da:=aa (a i) d;let db:=aa (b i) t;let ua:=up (a i);let ub:=up (b i);let js:=jS (a i) (b i) d t;by_cases za:pc (a i)=0<;>by_cases zb:pc (b i)=0
  .let f:=g za zb
   let A:=wa za;let r:=wb zb;erw[λ_ _=>f,λp _=>?_,λ_ p=>?_,λp q _=>?_]
   .let:=da p;lia
   .let:=db p;lia
   .let:=da p;let:=db q;lia
  .let f:=f3 za zb
   let A:=wa za;erw[λ_ p=>Ry p (ub zb),λ_ p=>Ry p (ub zb),λ_ _=>f,λp q _=>?_];let:=da p;lia
  .let f:=o za zb
   let A:=wb zb;erw[λp _=>Ry p (ua za),λ_ _=>f,λp _=>Ry p (ua za),λp q _=>?_];let:=db q;lia
  .erw[λp _=>Ry p (ua za),λ_ p=>Ry p (ub zb),λp _=>Ry p (ua za),λ_ _ ne=>f4 za zb λe=>ne (js zb e)]
def Run.end(ad:Run N n a b O len h pc L l m)(all:∀ v,v<n->pc v≠0)(whole:∀ i,i<N->pc (b i)=pc (a i)){v:R}(hv:v<n):m v=0:=by
 let F u p:=ad.C.mn v hv;let d:∀ k,k<=N->∃ wz:R->im,(∀ i,wz i=i0->i<N/\l i=0)/\∀ x,bd N a b wz x=bd N a b (λi=>F i&&decide (i<k)) x:=by
  intro k;induction k with
  |zero=>exact λ_=>#[λ_=>j5,λ_ h=>Pj h,λx=>by rw[Le];exact(pO λi _=>by simp).Y]
  |succ k ef =>
   intro g;let wz H Q:=ef ∅
   cases e:F k with
   |false =>
    erw[wz,H,λx=>?_];rw[Q];refine par_congr λi _=>?_;show((F i&&decide (i<k))&&_)=((F i&&decide (i<k+1))&&_);by_cases c:i=k
    .rw[c,e];rfl
    .rw[show decide (i<k+1)=decide (i<k) from decide_eq_decide.mpr ∅]
   |true =>
    let r t:=ad.C.ends k ∅
    let Y o J:=ad.zc (a k) (b k) r t (all _ r) (whole k ∅)
    erw[tg wz Y,λi B=>?_,λx=>?_]
    .unfold tg at B
     cases c:wz i with
     |true=>exact H i c
     |false=>rw[c,OO]at B;erw[(o i B).1,(o i B).2.2.2]
    .rw[dX,Q,J,← jM (N:=N) (a:=a) (b:=b) (show k<N by lia),← dX]
     refine par_congr λi _=>?_;show(((F i&&decide (i<k)) ^^ (i == k))&&_)=((F i&&decide (i<k+1))&&_);by_cases c:i=k
     .rw[c,e];simp
     .rw[show decide (i<k+1)=decide (i<k) from decide_eq_decide.mpr ∅,show(i == k)=j5 from beq_eq_false_iff_ne.mpr c,Ml]
 let wz H Q:=d N (Lo _);let:=ad.C.lo v wz hv λx=>by
  rw[Q,← u];refine par_congr λi B=>?_;show((F i&&decide (i<N))&&_)=_;simp!
 rw[pf λi _ f=>(H i f).2]at this;lia
end
def Cfg.lip{a b:R->R}{l m:R->R}(C:Cfg N n a b J l m)(hi:i<N):m (b i)<=m (a i)+l i/\m (a i)<=m (b i)+l i:=by
 let r t:=C.ends i hi;let one:∀ x y,x<n->y<n->(∀ v,((a i == v) ^^ (b i == v))=((x == v) ^^ (y == v)))->m y<=m x+l i:=λx y j Q e=>by
  let F u p:=C.mn x j;let:=C.lo y (tg F (one i)) Q λv=>by rw[dX,u,jM hi,e,x3]
  cases f:F i with
  |false=>rw[rF hi f]at this;lia
  |true=>have:=iG (w:=l) hi f;lia
 erw[one _ _ r t λv=>rfl,one _ _ t r λv=>NK ..]
end HM
namespace KF
open PySem L2
def aL(ls:E Lk)(i:R):R:=(lkA ls i).1
def bL(ls:E Lk)(i:R):R:=(lkA ls i).2.1
def nL(ls:E Lk)(i:R):G:=(lkA ls i).2.2
def dL(ls:E Lk)(i:R):R:=(2*nL ls i).U
def K3(l:Lk)(v:R):(endX l).O v=((l.1 == v) ^^ (l.2.1 == v)):=by
 unfold endX;rw[Mm,LP,LP];rfl
theorem AU(ls:E Lk)(u v:R):∀ i,HM.bd i (aL ls) (bL ls) (λj=>u.O j) v=(oddE ls u i).O v
 |0=>by show j5=NV 0 v;simp
 |i+1=>by
  show(HM.bd i (aL ls) (bL ls) (λj=>u.O j) v ^^ (u.O i&&((aL ls i == v) ^^ (bL ls i == v))))=_;rw[AU ls u v i];show _=(if u.O i=i0 then oddE ls u i^^^endX (lkA ls i) else oddE ls u i).O v
  cases b:u.O i with
  |false=>simp
  |true =>
   rw[Rw U,Mm,K3];rfl
theorem qA{ls:E Lk}(hw:∀ l∈ls,0<=l.2.2)(u:R):∀ i,i<=ls.L->((HM.csw (dL ls) (λj=>u.O j) i:R):G)=2*cstU ls u i
 |0,_=>rfl
 |i+1,h=>by
  let L:=qA hw u i ∅
  let l e:∃ l,ls[i]?=Z l:=#[_,Lj ∅]
  let p:=hw l (Lm e);show((HM.csw (dL ls) (λj=>u.O j) i+cond (u.O i) (dL ls i) 0:R):G)=_;unfold cstU dL nL;rw[lkA_is e]
  cases u.O i with
  |false=>assumption
  |true =>
   simp only[if_true,cond_true];let:HM.csw (dL ls) (λj=>u.O j) i=HM.csw (λi=>(2*(lkA ls i).2.2).U) (λj=>u.O j) i:=rfl;lia
def mkF(F:R->im):R->R
 |0=>0
 |i+1=>mkF F i|||cond (F i) (2^i) 0
theorem Dy(F:R->im)(j:R):∀ i,(mkF F i).O j=(decide (j<i)&&F j)
 |0=>by show NV 0 j=_;simp
 |i+1=>by
  show(mkF F i|||cond (F i) (2^i) 0).O j=_
  rw[Mw,Dy F j i];by_cases c:j=i
  .subst c
   cases f:F j<;>simp
  .let k:¬ i=j:=λz=>c z.Y
   let e:decide (j<i+1)=decide (j<i):=decide_eq_decide.mpr ∅
   rw[e]
   cases F i<;>simp[k]
def xorL(l:E R):R:=l.foldr (λs m=>2^s^^^m) 0
def B1(p:l.Perm l'):xorL l=xorL l':=by
 induction p with
 |nil=>rfl
 |cons x _ L=>show 2^x^^^xorL _=2^x^^^xorL _;rw[L]
 |swap x y l=>show 2^y^^^(2^x^^^xorL l)=2^x^^^(2^y^^^xorL l);grind
 |trans _ _ Y O=>exact Y.Q O
theorem zP:∀{l:E R},l.l->∀ i,(xorL l).O i=decide (i∈l)
 |[],_,i=>by show NV 0 i=_;simp
 |x::l,h,i=>by
  let Y O:=LV.mp h;show(2^x^^^xorL l).O i=_;rw[Mm,LP,zP O i];by_cases c:x=i
  .subst c;simp[Y]
  .let k:¬ i=x:=λz=>c z.Y
   simp[c,k]
theorem Jd(X:R):xorL (bl X)=X:=Ma λi=>by
 rw[zP (bl_nd X) i]
 cases z:X.O i with
 |true=>exact QG (mem_bl.mpr z)
 |false=>exact P6 λy=>by rw[mem_bl.mp y]at z;cases z
def Wk.set(hw:∀ l∈ls,0<=l.2.2){a b:R}{x:G}(h:Wk ls a b x):∃ u,oddE ls u ls.L=2^a^^^2^b/\cstU ls u ls.L<=x:=by
 induction h with
 |nil=>exact#[00,by rw[jb,Nq],by rw[jE];exact Mn _]
 | @step b i x l h C eg L =>
  let u Y O:=L;let T:i<ls.L:=(Ll.mp C).1;erw[u^^^2^i,15]
  .rw[mC,Y,tJ,Rw T,lkA_is C];let s:endX l=2^b^^^2^bey l b:=by
    unfold endX bey;obtain z|z:=eg
    .rw[Rw z,z]
    .by_cases w:b=l.1
     .rw[Rw w,w]
     .rw[Rx w,z,Oh]
   rw[s,← Mu,Mu (2^a),Nq,Og]
  .let g:=mR ls hw u (2^i) ls.L (Lo _)
   rw[uN,Rw T,lkA_is C]at g;lia
def Cs.set{n:R}{ls:E Lk}(hw:∀ l∈ls,0<=l.2.2)(T:Conn n ls){X:R}{c:G}(b:X<2^n)(h:Cs (farD ls) (bl X) c):∃ u,oddE ls u ls.L=X/\cstU ls u ls.L<=c:=by
 let PL p e:=h;let d:∀ PL:E (R×R),(∀ s∈flat PL,s<n)->∃ u,oddE ls u ls.L=xorL (flat PL)/\cstU ls u ls.L<=cst (farD ls) PL:=by
  intro PL;induction PL with
  |nil=>exact λ_=>#[00,by rw[jb];rfl,by rw[jE];exact Mn _]
  |cons q PL L =>
   intro f;rw[flat_cons]at f;let u Y O:=L λs a=>f s (Lr _ (Lr _ a));let x J:=T.two (f q.1 (Lv ..)) (f q.2 (Lr _ (Lv ..)));let v N i:=Wk.set hw (iD hw J).1;erw[v^^^u,15]
   .rw[mC,N,Y,flat_cons,Mu];rfl
   .let g:=mR ls hw v u ls.L (Lo _)
    rw[kr];lia
 let u Y O:=d PL λs f=>qF b (p.mem_iff.mp f);erw[u,by rw[Y,B1 p,Jd],4]
def cfg0(ok:Lok n ls)(T:Conn n ls){m0:R}(D:m0<2^n){c:R->G}(N:∀ x,x<n->Opt (farD ls) (bl (m0^^^2^x)) (c x)):
  HM.Cfg ls.L n (aL ls) (bL ls) (λx=>m0.O x) (dL ls) (λv=>(2*c v).U)/\∀ v,v<n->0<=c v:=by
 let y:∀ l∈ls,0<=l.2.2:=λl C=>(ok.w0 l C).1;let d:∀ v x:R,(m0^^^2^v).O x=(m0.O x ^^ (v == x)):=λv x=>by rw[Mm,LP];rfl
 let lt:∀ v,v<n->m0^^^2^v<2^n:=λv H=>MF D (Mj ∅ H)
 let ef:∀ v,v<n->∃ u,oddE ls u ls.L=m0^^^2^v/\cstU ls u ls.L=c v:=λv H=>by
  let u Y O:=Cs.set y T (lt v H) (N v H).1;erw[u,Y,NS O (Av ok T (N v H) Y)]
 erw[#[λi B=>?_,λv H=>?_,λv F H M=>?_,λi _=>by simp only[dL];lia],λv H=>?_]
 .let:=ok.sm ls[i] (Nh B)
  unfold aL bL;rw[lkA_is (Lj B)];exact this
 .let u Y O:=ef v H;erw[λj=>u.O j,λx=>by rw[AU,Y,d],3]
  let:=qA y u ls.L (Lo _);lia
 .let u eg:∃ u,u=mkF F ls.L:=#[9];let a:∀ j,j<ls.L->u.O j=F j:=λj I=>by rw[eg,Dy,QG I,NL]
  let f:∀ x,HM.bd ls.L (aL ls) (bL ls) (λj=>u.O j) x=HM.bd ls.L (aL ls) (bL ls) F x:=λx=>HM.par_congr λi B=>by show(u.O i&&_)=_;rw[a i B]
  let A:HM.csw (dL ls) (λj=>u.O j) ls.L=HM.csw (dL ls) F ls.L:=HM.csw_congr λi B=>by show cond (u.O i) _ _=_;rw[a i B]
  let b:oddE ls u ls.L=m0^^^2^v:=Ma λx=>by rw[← AU,f,M,d]
  let:=Av ok T (N v H) b;let g:=qA y u ls.L (Lo _);lia
 .let u _ O:=ef v H;let g:=qA y u ls.L (Lo _);lia
def upK(kv:E (R×R))(M t:R):E (R×R):=if(kv.any λe=>decide (e.1=M))=i0 then kv.h (λe=>if e.1=M then(e.1,e.2+t) else e) else kv++[(M,t)]
def wsum(g:R->R)(kv:E (R×R)):R:=(kv.h λe=>e.2*g e.1).sum
def zL:(kv.any λe=>decide (e.1=M))=i0↔M∈kv.h (·.1):=by
 rw[Pg,LW];grind
def Fq(kv:E (R×R))(M t:R):(upK kv M t).h (·.1)=if M∈kv.h (·.1) then kv.h (·.1) else kv.h (·.1)++[M]:=by
 unfold upK;by_cases c:M∈kv.h (·.1)
 .rw[Rw (zL.mpr c),Rw c,MH];refine MA λe _=>?_;show(if e.1=M then(e.1,e.2+t) else e).1=e.1;split<;>rfl
 .rw[Rx λz=>c (zL.mp z),Rx c,LH];rfl
def Hx{t:R}(h:(kv.h (·.1)).l):((upK kv M t).h (·.1)).l:=by
 rw[Fq];split
 .exact h
 .rename_i c;exact Mt.mpr #[h,by simp,λx J y Q e=>c (by rw[LB]at Q;rw[← Q,← e];exact J)]
theorem Jj(g:R->R){t:R}:∀{kv:E (R×R)},(kv.h (·.1)).l->wsum g (upK kv M t)=wsum g kv+t*g M:=λ{kv} h=>by
 unfold upK;split
 .rename_i c;let d:∀ kv:E (R×R),(kv.h (·.1)).l->wsum g (kv.h λe=>if e.1=M then(e.1,e.2+t) else e)=wsum g kv+(if M∈kv.h (·.1) then t*g M else 0):=by
   intro kv;induction kv with
   |nil=>intro _;rfl
   |cons e kv L =>
    intro y;rw[LR]at y;let Y O:=LV.mp y;let:=L O;let m:∀(x:R×R)(l:E (R×R)),wsum g (x::l)=x.2*g x.1+wsum g l:=λx l=>by unfold wsum;rfl
    rw[LR,m,m,this];by_cases c:e.1=M
    .rw[Rw c,Rx (λz=>Y (by rw[c];exact z)),Rw (by rw[LR,c];exact Lv ..)]
     grind
    .rw[Rx c];grind
  rw[d kv h,Rw (zL.mp c)]
 .unfold wsum;rw[LH,List.sum_append];simp
def Jk{t:R}{e:R×R}(h:e∈upK kv M t):(∃ p,(e.1,p)∈kv/\p<=e.2)∨(e.1=M/\e.2=t):=by
 unfold upK at h;split at h
 .let x J rfl:=LW.mp h;split
  .exact .inl #[x.2,J,by lia]
  .exact .inl #[x.2,J,Lo _]
 .obtain h|h:=LY.mp h
  .exact .inl #[e.2,h,Lo _]
  .rw[LB.mp h];exact .inr #[10]
def inP(r t y:R):im:=decide (0<t)&&decide (y≠0)&&not (y.O r)
def nH(r t:R)(kv:E (R×R))(hs:E R):E (R×R):=hs.foldl (λkv y=>if inP r t y=i0 then upK kv y t else kv) kv
theorem o8{r t:R}:∀{hs:E R}{kv:E (R×R)},(kv.h (·.1)).l->((nH r t kv hs).h (·.1)).l
 |[],_,h=>h
 |y::hs,kv,h=>by
  show((nH r t (if inP r t y=i0 then upK kv y t else kv) hs).h (·.1)).l;split
  .exact o8 (Hx h)
  .exact o8 h
theorem mP(g:R->R){r t:R}:∀{hs:E R}{kv:E (R×R)},(kv.h (·.1)).l->wsum g (nH r t kv hs)=wsum g kv+t*(hs.h λy=>if inP r t y=i0 then g y else 0).sum
 |[],_,_=>by rfl
 |y::hs,kv,h=>by
  show wsum g (nH r t (if inP r t y=i0 then upK kv y t else kv) hs)=_;rw[LR,NJ,Nat.mul_add];split
  .rw[mP g (Hx h),Jj g h];lia
  .rw[mP g h,Nat.mul_zero];lia
theorem gF{r t:R}:∀{hs:E R}{kv:E (R×R)}{e:R×R},e∈nH r t kv hs->(∃ p,(e.1,p)∈kv/\p<=e.2)∨(e.1∈hs/\inP r t e.1=i0/\t<=e.2)
 |[],_,e,h=>.inl #[e.2,h,Lo _]
 |y::hs,kv,e,h=>by
  let eg:e∈nH r t (if inP r t y=i0 then upK kv y t else kv) hs:=h;by_cases c:inP r t y=i0
  .rw[Rw c]at eg;rcases gF eg with⟨p,Y,O⟩|⟨Y,O,ef⟩
   .rcases Jk Y with⟨I,ef,m⟩|⟨ef,m⟩
    .exact .inl #[I,ef,4]
    .simp!
   .exact .inr #[Lr _ Y,O,ef]
  .rw[Rx c]at eg;obtain h|⟨Y,O,ef⟩:=gF eg
   .exact .inl h
   .exact .inr #[Lr _ Y,O,ef]
def evs(n:R)(ls:E Lk)(h:R->G):E (G×G):=(LD n).h (λv=>(2*h v,((2^v:R):G)))++ls.h λl=>(h l.1+h l.2.1-l.2.2,((2^l.1|||2^l.2.1:R):G))
def pcs(ps:E R)(v:R):R:=ps.f v 0
def Sm(ps:E R)(D:R):Prop:=∀ x y,D.O x=i0->D.O y=i0->pcs ps x=pcs ps y/\pcs ps x≠0
def nest(A B:R):Prop:=A&&&B=0∨A&&&B=A∨A&&&B=B
structure HI(n:R)(ls:E Lk)(mk:R)(h:R->G)(row:E (G×G))(m0 j:R)(L:G)(ps:E R)(l m:R->R)(kv:E (R×R)):Prop where
 pl:ps.L=n
 pb:∀ x∈ps,x<2^n
 ad:HM.Run ls.L n (aL ls) (bL ls) (λx=>(mk^^^2^aN mk).O x) (nL ls) h (pcs ps) L l m
 dn:∀ i e,i<j->row[i]?=Z e->Sm ps e.2.U
 s1:wsum (λ_=>1) kv+m (aN mk)=m0
 s2:∀ i,i<ls.L->wsum (λM=>HM.chi (HM.dm M) (aL ls) (bL ls) i) kv+l i<=dL ls i
 nd:(kv.h (·.1)).l
 ke:∀ e∈kv,1<=e.2/\1<=e.1/\e.1<2^n/\HM.par (λx=>e.1.O x&&mk.O x) n=i0/\Sm ps e.1
 ne:∀ e∈kv,∀ e'∈kv,nest e.1 e'.1
def Es{h:R->G}(ok:Lok n ls)(lip:∀ i,i<ls.L->h (aL ls i)-h (bL ls i)<=nL ls i/\h (bL ls i)-h (aL ls i)<=nL ls i){e:G×G}(eg:e∈evs n ls h):
  ∃ u w,u<n/\w<n/\e.2.U=2^u|||2^w/\e.2=((2^u|||2^w:R):G)/\e.1<=2*h u/\e.1<=2*h w/\(u=w∨∃ i,i<ls.L/\aL ls i=u/\bL ls i=w/\h u+h w-nL ls i=e.1):=by
 obtain eg|eg:=LY.mp eg
 .let v H rfl:=LW.mp eg;let a:=L5.mp H;let D:(2^v|||2^v:R)=2^v:=Nat.or_self _
  erw[v,v,a,a,by rw[D,Ly],by rw[D],Mn _,Mn _,.inl U]
 .let l C rfl:=LW.mp eg;let i B e:=MB C;let q:=lkA_is (ls:=ls) (k:=i) (l:=l) (by simp[*])
  let sm:=ok.sm l C;let A:=lip i B;unfold aL bL nL at A;rw[q]at A;erw[l.1,l.2.1,sm.1,sm.2,Ly _,62,.inr #[i,B,by unfold aL;rw[q],by unfold bL;rw[q],by unfold nL;rw[q]]]
  .lia
  .lia
def dZ{u w v:R}:(2^u|||2^w).O v=i0↔v=u∨v=w:=by
 rw[Mw,LP,LP,Nf,decide_eq_true_iff,decide_eq_true_iff];erw[λh=>h.imp Eq.Y Eq.Y,λh=>h.imp Eq.Y Eq.Y]
def Dr{A B:R}(h:nest A B):nest B A:=by
 unfold nest at *;rw[Nat.and_comm];obtain h|h|h:=h
 .exact .inl h
 .exact .inr (.inr h)
 .exact .inr (.inl h)
def HI.join{n:R}{ls:E Lk}{mk:R}{h:R->G}{row:E (G×G)}{m0 j:R}{L:G}{ps:E R}{l m:R->R}{kv:E (R×R)}(I:HI n ls mk h row m0 j L ps l m kv)(ok:Lok n ls)(lip:∀ i,i<ls.L->h (aL ls i)-h (bL ls i)<=nL ls i/\h (bL ls i)-h (aL ls i)<=nL ls i){e:G×G}(eg:row[j]?=Z e)(ab:e∈evs n ls h)(eL:e.1=L){P:R}{qs:E R}(q:∀ v,P.O v=i0↔(e.2.U.O v=i0∨∃ k,e.2.U.O k=i0/\(pcs ps k).O v=i0))(ql:qs.L=n)(d:∀ v,v<n->pcs qs v=HM.jn2 (pcs ps) P v):
  HI n ls mk h row m0 (j+1) L qs l m kv/\∃ v,v<n/\pcs qs v≠0:=by
 let u w t f A _ lu lw b:=Es ok lip ab;rw[eL]at lu lw b;let eP:P=2^u|||2^w|||pcs ps u|||pcs ps w:=Ma λv=>by
  let tb:(2^u|||2^w|||pcs ps u|||pcs ps w).O v=(((2^u|||2^w).O v||(pcs ps u).O v)||(pcs ps w).O v):=by rw[Mw,Mw]
  rw[Oc,q,A,tb,Nf,Nf];constructor
  .rintro(h|⟨k,Y,O⟩)
   .exact .inl (.inl h)
   .obtain rfl|rfl:=dZ.mp Y
    .exact .inl (.inr O)
    .exact .inr O
  .rintro((h|h)|h)
   .exact .inl h
   .exact .inr #[u,dZ.mpr (.inl U),h]
   .exact .inr #[w,dZ.mpr (.inr U),h]
 let R2{ju jw P0}Pn js:=I.ad.join t f lu lw b eP;let off:∀ v,¬ v<n->pcs qs v=0/\pcs ps v=0:=λv H=>by
  unfold pcs;rw[LA,LA,Mv ∅,Mv (by let:=I.pl;lia)]
  erw[10]
 let eq:pcs qs=HM.jn2 (pcs ps) P:=funext λv=>by
  by_cases c:v<n
  .exact d v c
  .let:=off v c
   rw[this.1];unfold HM.jn2;rw[Rx λz=>c (Pn v z),this.2]
 let sm:∀ D,Sm ps D->Sm qs D:=λD a x y J Q=>by
  let d1 o:=a x y J Q;let xn:x<n:=Decidable.byContradiction λz=>o (off x z).2;let yn:y<n:=Decidable.byContradiction λz=>o (d1.Q (off y z).2);rw[eq];let ef p:=js x y xn yn (λz=>o (d1.Q z)) d1;erw[ef,by rw[ef];exact p]
 erw[#[ql,λx J=>?_,by rw[eq];exact R2,λi N B s=>?_,I.s1,I.s2,I.nd,λN aa=>?_,I.ne],u,t,by rw[eq,ju];exact P0]
 .let v H rfl:=MB J;let r:qs[v]=pcs qs v:=by unfold pcs;rw[LA,Lj H];rfl
  rw[r];refine M3 _ λi B=>?_
  cases z:(pcs qs v).O i with
  |false=>rfl
  |true =>
   rw[eq]at z;let:=(R2.pb v i ∅ z).1
   lia
 .by_cases c:i=j
  .subst c;rw[eg]at s
   cases s
   rw[A];intro x y J Q;rw[eq];let T:HM.jn2 (pcs ps) P x=P:=by obtain rfl|rfl:=dZ.mp J<;>assumption
   let ac:HM.jn2 (pcs ps) P y=P:=by obtain rfl|rfl:=dZ.mp Q<;>assumption
   rw[T,ac];erw[U,P0]
  .exact sm _ (I.dn i N ∅ s)
 .let M g C k4 k5:=I.ke N aa;erw[M,g,C,k4,sm _ k5]
def C3{r:R}(h:HM.par (λx=>M.O x&&((mk^^^2^r).O x ^^ (r == x))) n=i0):HM.par (λx=>M.O x&&mk.O x) n=i0:=by
 rw[← h];refine HM.par_congr λx _=>?_;rw[Mm,LP];show _=(M.O x&&((mk.O x ^^ decide (r=x)) ^^ decide (r=x)));simp!
theorem HP{r t:R}(u:0<t):∀ hs:E R,(hs.h λy=>if inP r t y=i0 then 1 else 0).sum=HM.cn ((hs.filter λy=>decide (y≠0)).h HM.dm) r
 |[]=>rfl
 |y::hs=>by
  rw[LR,NJ,HP u hs,Oz];unfold inP;rw[QG u];by_cases c:y=0
  .simp[c]
  .rw[QG c,Rw U,LR];show _=cond (HM.dm y r) 0 1+_;unfold HM.dm
   cases y.O r<;>simp
theorem HN{r t i:R}{a b:R->R}:∀ hs:E R,(hs.h λy=>if inP r t y=i0 then HM.chi (HM.dm y) a b i else 0).sum<=HM.cx a b ((hs.filter λy=>decide (y≠0)).h HM.dm) i
 |[]=>Lo _
 |y::hs=>by
  let L:=HN (r:=r) (t:=t) (i:=i) (a:=a) (b:=b) hs;rw[LR,NJ,Oz];by_cases c:y=0
  .let:inP r t y=j5:=by unfold inP;simp[c]
   rw[this,Rx (by simp),Rx (by simp[c])]
   lia
  .rw[QG c,Rw U,LR];show _<=HM.chi (HM.dm y) a b i+_;split<;>lia
section
variable{n:R}{ls:E Lk}{mk:R}{h:R->G}{row:E (G×G)}{m0 j:R}{L:G}{ps qs:E R}{l m:R->R}{kv:E (R×R)}
theorem yU{v:R}(hv:v<n):(2*h v,((2^v:R):G))∈evs n ls h:=Mo _ (LW.mpr #[v,L5.mpr hv,U])
theorem Et(hi:i<ls.L):(h (aL ls i)+h (bL ls i)-nL ls i,((2^aL ls i|||2^bL ls i:R):G))∈evs n ls h:=LX _ (LW.mpr #[ls[i],Nh hi,by
 unfold aL bL nL
 rw[lkA_is (Lj hi)]])
def K0(o:row.Perm (evs n ls h))(g:row.y λa b=>b.1<=a.1){N:G×G}(f:row[j]?=Z N){e:G×G}(eg:e∈evs n ls h):(∃ i,i<j/\row[i]?=Z e)∨e.1<=N.1:=by
 let i B:=Mg (o.mem_iff.mpr eg);by_cases c:i<j
 .exact .inl #[i,c,B]
 .by_cases d:i=j
  .simp!
  .let q J:=Ll.mp B;let k l:=Ll.mp f;let:=ME.mp g j i k q ∅
   simp!
def HI.down(I:HI n ls mk h row m0 (j+1) L qs l m kv)(lip:∀ i,i<ls.L->h (aL ls i)-h (bL ls i)<=nL ls i/\h (bL ls i)-h (aL ls i)<=nL ls i)(ne:∃ v,v<n/\pcs qs v≠0)(rp:row.Perm (evs n ls h))(an:row.y λa b=>b.1<=a.1){e':G×G}(ac:row[j+1]?=Z e')(hL:e'.1<=L){hs:E R}(aI:hs.l)(C:∀ y,y∈hs↔y∈qs)(rn:aN mk<n):∃ l' m',HI n ls mk h row m0 (j+1) e'.1 qs l' m' (nH (aN mk) (L-e'.1).U kv hs):=by
 let t Q:∃ t:R,(L-e'.1).U=t:=#[9];let eL:L-(t:G)=e'.1:=by lia
 rw[Q];let mq:∀ M,M∈qs↔∃ v,v<n/\pcs qs v=M:=λM=>by
  constructor
  .intro Y;let v H e:=MB Y;erw[v,by let:=I.pl;lia,by unfold pcs;simp[*]]
  .rintro⟨v,H,e⟩;let ab:v<qs.L:=by let:=I.pl;lia
   unfold pcs at e;rw[LA,Lj ab]at e;rw[← e];exact Nh ab
 let Ms av:∃ Ms,Ms=hs.filter λy=>decide (y≠0):=#[9];let hM:∀ M,M∈Ms↔M≠0/\∃ v,v<n/\pcs qs v=M:=λM=>by
  rw[av,M6,C,mq,decide_eq_true_iff];exact And.comm
 let l' m' R' em el od:=I.ad.down (t:=t) lip hM (by rw[av];exact List.Nodup.sublist List.filter_sublist aI) ne (λv H z=>by
  rw[eL];rcases K0 rp an ac (yU H) with⟨i,B,N⟩|Y
  .let s:=I.dn i _ B N
   rw[Ly]at s;let b:(2^v).O v=i0:=by simp
   exact Ry z (s v v b b).2
  .exact Y) (λi B za zb ne=>by
  rw[eL];rcases K0 rp an ac (Et B) with⟨k,g,N⟩|Y
  .let s:=I.dn k _ g N
   rw[Ly]at s;exact Ry (s (aL ls i) (bL ls i) (dZ.mpr (.inl U)) (dZ.mpr (.inr U))).1 ne
  .exact Y)
 rw[eL]at R';let pk:∀{M:R},M∈hs->M≠0->Sm qs M/\∀ x,M.O x=i0↔pcs qs x=M:=λ{M} Y O=>by
  let v H e:=(mq M).mp ((C M).mp Y);let aa:∀ x,M.O x=i0->pcs qs x=M:=λx J=>by
   let:=(I.ad.pb v x H (by rw[e];exact J)).2
   rw[this,e]
  erw[λx y J o=>#[(aa x J).Q (aa y o).Y,by rw[aa x J];exact O],λx=>#[aa x,λT=>?_]]
  let xn:x<n:=Decidable.byContradiction λz=>O (by
   rw[← T];unfold pcs;rw[LA,Mv (by let:=I.pl;lia)]
   rfl)
  let:=I.ad.pa x xn (by rw[T];exact O)
  rw[T]at this;exact this
 let al:∀{D M:R},Sm qs D->M∈hs->M≠0->nest D M:=λ{D M} hD Y O=>by
  let _ mb:=pk Y O;by_cases c:∃ x,D.O x=i0/\M.O x=i0
  .let x d1 d2:=c;refine .inr (.inl (Ma λy=>?_));rw[NB]
   cases dy:D.O y with
   |false=>rfl
   |true =>
    let:=(hD y x dy d1).1;rw[(mb y).mpr (this.Q ((mb x).mp d2))];rfl
  .refine .inl (Ma λy=>?_);grind
 let ap:∀{y:R},inP (aN mk) t y=i0->0<t/\y≠0/\y.O (aN mk)=j5:=λ{y} Y=>by
  unfold inP at Y;simp!
 erw[l',m',I.pl,I.pb,R',I.dn,3,λi B=>?_,o8 I.nd,λe eg=>?_,λe eg A am=>?_]
 .rw[mP _ I.nd];let q:=I.s1;let f:=em (aN mk) rn;by_cases c:0<t
  .rw[HP c,← av];lia
  .let t0:t=0:=by lia
   simp!
 .rw[mP _ I.nd];let u:=I.s2 i B;let f:=el i B;let:=Nat.mul_le_mul_left t (HN (r:=aN mk) (t:=t) (i:=i) (a:=aL ls) (b:=bL ls) hs);lia
 .rcases gF eg with⟨p,Y,O⟩|⟨Y,O,ef⟩
  .let k1 k2 k3 k4 k5:=I.ke _ Y;erw[by lia,k2,k3,k4,k5]
  .let i1 i2 i3:=ap O;let d:=(C _).mp Y;erw[20,I.pb _ d,C3 (od i1 _ ((hM _).mpr #[i2,(mq _).mp d]) _ rn i3),(pk Y i2).1]
 .rcases gF eg with⟨p,Y,_⟩|⟨Y,O,_⟩
  .rcases gF am with⟨p2,w,_⟩|⟨w,g2,_⟩
   .exact I.ne (e.1,p) Y (A.1,p2) w
   .exact al (I.ke _ Y).2.2.2.2 w (ap g2).2.1
  .rcases gF am with⟨p2,w,_⟩|⟨w,g2,_⟩
   .exact Dr (al (I.ke _ w).2.2.2.2 Y (ap O).2.1)
   .exact al (pk Y (ap O).2.1).1 w (ap g2).2.1
def HI.end(I:HI n ls mk h row m0 j L ps l m kv)(ok:Lok n ls)(lip:∀ i,i<ls.L->h (aL ls i)-h (bL ls i)<=nL ls i/\h (bL ls i)-h (aL ls i)<=nL ls i)(o:row.Perm (evs n ls h)){e:G×G}(eg:row[j]?=Z e)(c:e.1=L)(M:row.L=j+1)(d:aN mk<n):m (aN mk)=0:=by
 let a:e∈evs n ls h:=o.mem_iff.mp (Lm eg);let u w t y A _:=Es ok lip a
 let z _:=I.join ok lip eg a c (P:=2^u|||2^w|||pcs ps u|||pcs ps w) (qs:=(LD n).h λv=>HM.jn2 (pcs ps) (2^u|||2^w|||pcs ps u|||pcs ps w) v) (λv=>by
  let g:(2^u|||2^w|||pcs ps u|||pcs ps w).O v=(((2^u|||2^w).O v||(pcs ps u).O v)||(pcs ps w).O v):=by rw[Mw,Mw]
  rw[g,A,Nf,Nf];constructor
  .rintro((h|h)|h)
   .exact .inl h
   .exact .inr #[u,dZ.mpr (.inl U),h]
   .exact .inr #[w,dZ.mpr (.inr U),h]
  .rintro(h|⟨k,Y,O⟩)
   .exact .inl (.inl h)
   .obtain rfl|rfl:=dZ.mp Y
    .exact .inl (.inr O)
    .exact .inr O) (by simp) (λv H=>by
  show((LD n).h _).f v 0=_
  simp[*])
 let all:∀ e,e∈evs n ls h->Sm _ e.2.U:=λe eg=>by
  let i B:=Mg (o.mem_iff.mpr eg);exact z.dn i e (by let:=(Ll.mp B).1;lia) B
 refine z.ad.end (λv H=>?_) (λi B=>?_) d
 .let s:=all _ (yU H)
  rw[Ly]at s;let b:(2^v).O v=i0:=by simp
  exact(s v v b b).2
 .let s:=all _ (Et B)
  rw[Ly]at s;exact(s (bL ls i) (aL ls i) (dZ.mpr (.inr U)) (dZ.mpr (.inl U))).1
end
structure Hls(n:R)(ls:E Lk)(mk:R)(cost:G)(kv:E (R×R)):Prop where
 ke:∀ e∈kv,1<=e.2/\1<=e.1/\e.1<2^n/\HM.par (λx=>e.1.O x&&mk.O x) n=i0
 nd:(kv.h (·.1)).l
 ne:∀ e∈kv,∀ e'∈kv,nest e.1 e'.1
 pd:∀ i,i<ls.L->((wsum (λM=>HM.chi (HM.dm M) (aL ls) (bL ls) i) kv:R):G)<=2*nL ls i
 sm:((wsum (λ_=>1) kv:R):G)=2*cost
def HI.first(ok:Lok n ls)(T:Conn n ls)(u:mk<2^n)(d:aN mk<n){c:R->G}(D:∀ x,x<n->Opt (farD ls) (bl (mk^^^2^aN mk^^^2^x)) (c x)){row:E (G×G)}(o:row.Perm (evs n ls λv=>c (aN mk)-c v))(g:row.y λa b=>b.1<=a.1){e:G×G}(eg:row[0]?=Z e):
  HI n ls mk (λv=>c (aN mk)-c v) row (2*c (aN mk)).U 0 e.1 (Lz n 0) (dL ls) (λv=>(2*c v).U) []/\(∀ i,i<ls.L->(c (aN mk)-c (aL ls i))-(c (aN mk)-c (bL ls i))<=nL ls i/\(c (aN mk)-c (bL ls i))-(c (aN mk)-c (aL ls i))<=nL ls i)/\0<=c (aN mk):=by
 let C c0:=cfg0 ok T (m0:=mk^^^2^aN mk) (MF u (Mj ∅ d)) D
 let z:∀ v,pcs (Lz n 0) v=0:=λv=>by
  unfold pcs;rw[LA,MG];split<;>rfl
 let p:∀ i,i<ls.L->0<=nL ls i:=λi B=>by
  unfold nL;rw[lkA_is (Lj B)];exact(ok.w0 _ (Nh B)).1
 let top:∀ v,v<n->2*(c (aN mk)-c v)<=e.1:=λv H=>by
  rcases K0 o g eg (yU (ls:=ls) (h:=λv=>c (aN mk)-c v) H) with⟨i,B,_⟩|h
  .lia
  .exact h
 let cr:=c0 _ d;erw[#[N0,λx J=>by rw[List.eq_of_mem_replicate J];exact MV n,#[C,#[2*c (aN mk),λv H=>?_],λv _ y=>Ry (z v) y,λv x _ y=>by rw[z]at y;exact Ry y HM.bit0,λv _ y=>Ry (z v) y,λv H _=>top v H,λx y _ _ w=>Ry (z x) w,λi B=>?_],λi e B=>Ry B (MJ _),by show 0+_=_;rw[Of],λi _=>by show 0+_<=_;rw[Of];exact Lo _,Na,λe eg=>(nomatch eg),λe eg=>(nomatch eg)],λi B=>?_,cr]
 .let:=top v H
  let:=c0 v H;lia
 .let:=p i B
  rw[z,z];let f:((dL ls i:R):G)=2*nL ls i:=by unfold dL;lia
  erw[λ_ _=>f,λy=>Ry U y,λ_ y=>Ry U y,λy=>Ry U y]
 .let A:=C.lip B
  let r t:=C.ends i B;let:=c0 _ r;let:=c0 _ t;let:=p i B;let f:((dL ls i:R):G)=2*nL ls i:=by unfold dL;lia
  let s:(2*c (bL ls i)).U<=(2*c (aL ls i)).U+dL ls i:=A.1;let Q:(2*c (aL ls i)).U<=(2*c (bL ls i)).U+dL ls i:=A.2;lia
def HI.hls{h:R->G}{row:E (G×G)}{L:G}{ps:E R}{l m:R->R}{c:G}(I:HI n ls mk h row (2*c).U j L ps l m kv)(c0:0<=c)(ok:Lok n ls)(z:m (aN mk)=0):Hls n ls mk c kv:=by
 erw[λe eg=>?_,I.nd,I.ne,λi B=>?_,3]
 .let D y v O _:=I.ke e eg;erw[D,y,v,O]
 .let k:=I.s2 i B
  let p:0<=nL ls i:=by
   unfold nL;rw[lkA_is (Lj B)];exact(ok.w0 _ (Nh B)).1
  let f:((dL ls i:R):G)=2*nL ls i:=by unfold dL;lia
  lia
 .let r:=I.s1
  rw[z]at r;lia
def AR(u i:R):(Qr ((u:G)/2^((i:R):G).U) 1=1)↔u.O i=i0:=by
 let f:(u:G)/2^((i:R):G).U=((u/2^i:R):G):=by rfl
 let A:Qr ((u/2^i:R):G) 1=((u/2^i&&&1:R):G):=andN _ 1;rw[f,A,Nat.and_one_is_mod,OZ,decide_eq_true_iff];lia
def GY{b:eN}{g:TG}(n:R)(Pv:R->St->Hp->Prop)(A:Pv 0 L H)(Y:n<=xs.L)(t:zs.L=n)(hl:∀ i L H,i<=n->Pv i L H->nv a xs/\nv b zs)(hs:∀ i x z L H T,xs[i]?=Z x->zs[i]?=Z z->Pv i L H->H T=kf->g (.ref T) L (upd H T (.tup [x,z])) λh H2=>tb (D.lop (Pv (i+1))) h H2)(hd:∀ L H,Pv n L H->D.nx L H):
  ∃ W:R->R->St->Hp->Prop,(∃ m,W 0 m L H)/\∀ i m L H,W i m L H ->
   ((Itz K a b).stop i H/\D.nx L H)∨((Itz K a b).go i H/\∃ N:St->Hp->Prop,(∀ σ' H',N σ' H'->∃ u,u<m/\W (i+1) u σ' H')/\∀ x H',(Itz K a b).yld i H x H'->g x L H' λh H2=>tb (D.lop (N)) h H2):=by
 erw[λi m L H=>m=n-i/\i<=n/\Pv i L H,#[n,by simp,LU _,A],3]
 rintro i m L H ⟨rfl,B,p⟩;let ef r:=hl i L H B p;by_cases j:i<n
 .let s:i<xs.L:=by lia
  let f:i<zs.L:=by lia
  refine .inr #[#[xs,zs,xs[i],zs[i],ef,r,by simp,by simp],Pv (i+1),λσ' H' I=>#[n-(i+1),12,j,I],λv H' y=>?_]
  let T x z l rfl rfl o w:=y;exact hs i x z L _ T (o xs ef) (w zs r) p l
 .let e:i=n:=by lia
  subst e;exact .inl #[#[xs,zs,ef,r,.inr ∅],hd L H p]
def Hl(xs:E V):cutV xs (Z 1) kf=xs.drop 1:=by
 unfold cutV;let q:=HT.sIx_nat xs.L 0 1;rw[show((1:R):G)=(1:G) from rfl]at q;rw[q,HT.sIx_none];rw[NT (by simp)]
 by_cases h:1<=xs.L
 .rw[Pq h]
 .simp!
theorem FK(s:Same H H2){l:eN}(hl:H l=kf)(o:HO):Same H (upd H2 l o):=λb u e=>by
 rw[ao (λz=>by simp!)]
 exact s _ _ e
theorem Ip{α:Type} [DecidableEq α]:∀{l ps:E α},l.l->(∀ x∈l,x∈ps)->l.L<=ps.L
 |[],_,_,_=>LU _
 |x::l,ps,h,k=>by
  let Y O:=LV.mp h;let m:=k x (Lv ..);let:=Ip (l:=l) (ps:=ps.erase x) O λy Q=>(OL (λ(e:y=x)=>Y (by rw[← e];exact Q))).mpr (k y (Lr _ Q))
  rw[PR m]at this;let p:=Nx m;rw[My];lia
structure TxtH(mg:ff->ii eK):Prop extends TxtZ mg where
 n_reversed:mg "reversed"=kf
 n_sorted:mg "sorted"=kf
 n_set:mg "set"=kf
structure Drw(n:R)(ls:E Lk)(h:R->G)(row:E (G×G)):Prop where
 rp:row.Perm (evs n ls h)
 srt:row.y λa b=>b.1<=a.1
inductive spDry
 |mk (v:V)(ta:eN)(n:R)(ls:E Lk)(tops:E G) (_:vs=[v,.ref ta])(_:LnAt H v ls)(_:Lok n ls)(_:H ta=Z (.lst (tops.h V.int)))(_:tops.L=n)(_:n+ls.L<64)(_:∀(q:eN)(out:E V)(row:E (G×G)) H',mo->H' q=Z (.lst out)->PAt H' out row->Drw n ls (λv=>tops.f v 0) row->Q (.ref q) H')
inductive HV
 |mk (p:eN)(n rm:R)(ps:E R) (_:vs=[.ref p,.int (rm:G)])(_:H p=Z (.lst (ps.h iV)))(_:ps.L=n)(_:(∀ x∈ps,x<2^n))(_:rm<2^n)(_:n<=40)(_:∀(q:eN)(qs:E R)(P:R) H',mo->H' q=Z (.lst (qs.h iV))->qs.L=n->(∀ v,P.O v=i0↔(rm.O v=i0∨∃ k,rm.O k=i0/\(pcs ps k).O v=i0))->(∀ v,v<n->pcs qs v=HM.jn2 (pcs ps) P v)->Q (.ref q) H')
def toK(kv:E (R×R)):E (Key×V):=kv.h λe=>(Sum.inl (e.1:G),V.int (e.2:G))
inductive spHills(TT:eN)
 |mk (v:V)(n mk:R)(ls:E Lk) (_:vs=[.int (n:G),v,.int (mk:G)])(_:LnAt H v ls)(_:Lok n ls)(_:1<=n)(_:Conn n ls)(_:mk<2^n)(_:(bl mk).L%2=0)(_:(bl mk).L<=14)(_:n+ls.L<64)(_:Tb lqF lpF TT H)(_:∀(p:eN)(ys:E V)(kv:E (R×R))(cost:G) H',SmT H H'->Tb lqF lpF TT H'->H' p=Z (.lst ys)->PAt H' ys (kv.h λe=>((e.1:G),(e.2:G)))->kv.L<=3000->Opt (farD ls) (bl mk) cost->Hls n ls mk cost kv->Q (.ref p) H')
def rf:aw ["links","tops","found"] ["links","tops"] (aq l8):=by ac_nf
def ok_dry(F:Fun K "dryings" "dryings" l8 f fd)(T:TxtH mg):kt 1 f fd ["links","tops"] spDry:=by
 refine F.ok rf (by walk_at "l") λeg A o s H M Q ef N h=>?_
 let v ta n ls am rfl hV ok an tl aa a:=h;let av:=ok.n1;let al:=N.units;let la j rfl aS hL:=id hV
 intro Xc Dc;erw[_,(ag (nA 2 [] ["room","top"] rf.nd (kU U T.n_enumerate (ae (pv 1) ai)) (λC ex s H=>(dq (n:=2) (K:=K) U U (ay (aU (i:=0) (show(["room","top"]:E ff).l from by decide) U (Or.inl U)) (ay (aU (i:=1) (show(["room","top"]:E ff).l from by decide) U (Or.inl U)) br)))) pt_c (λC ex s H=>(cm (ae (ax mB ak (pv 1)) (ae (ax bI ak (pv 0)) ai)))))
   (ag (aR (d7 LG PK PJ vH (pv 2) (ae (eM [("tops",1)] ["one","two","length"] (aJ (pv 0)) (λC ex s H=>(dq (n:=3) (K:=K) U U (ay (aU (i:=0) (show(["one","two","length","tops"]:E ff).l from by decide) U (Or.inl U)) (ay (aU (i:=1) (show(["one","two","length","tops"]:E ff).l from by decide) U (Or.inl U)) (ay (aU (i:=2) (show(["one","two","length","tops"]:E ff).l from by decide) U (Or.inl U)) br))))) pt_c (λC ex s H=>(cm (ae (ax kD (ax cV (qO K (pv 3) (pv 0)) (qO K (pv 3) (pv 1))) (pv 2)) (ae (ax i9 (ax bI ak (pv 0)) (ax bI ak (pv 1))) ai))))) ai)))
   (aj (aF (ml U U T.n_list U T.n_reversed (aG BP (by rfl) T.n_sorted jK (ae (pv 2) ai))))))),3]
 let a5:(am.h V.int).L=n:=by simp[*]
 erw[9,ta,U,#[_,SqL.of an],ku (K:=K) (xs:=am.h V.int) (λi m O=>Same H O/\PAt O m ((LD i).h λv=>(2*am.f v 0,((2^v:R):G)))) (LK (ar ∅)) #[λ_ _ e=>e,PAt.nil _] (λi m O _ z=>SqL.of (z.1 _ _ an)) ?_ ?_ (λi m O z=>by let:=z.2.1;simp[*])]
 .rintro i x m O T2 J ⟨r,hZ⟩ ac;let B:i<n:=by rw[← a5];exact(Ll.mp J).1
  let sT:=ah ac (.tup [.int (i:G),x]);rw[Lx]at J;let tp a7 rfl:=LC.mp J;erw[T2,9,SqT.of af,173462,yesT ?_];erw[2649,.inl #[by decide,by decide],2649,#[20,by decide],(by show 2<=P7;decide),λt7 a3=>?_]
  let s7:=sT.Q (ah a3 (.tup [.int (2*tp),.int (1*2^((i:R):G).U)]));erw[r.Q s7,3];rw[Oa,LH];refine(hZ.mono s7).app (PAt.one ?_);let et:am.f i 0=tp:=by rw[LA,a7];rfl
  show _=Z (HO.tup [.int (2*am.f i 0),.int ((2^i:R):G)]);rw[et,← shlN i];exact af
 rintro m O ⟨r,hZ⟩ fa aI;rw[a5]at hZ;let a8:H fa=kf:=fu r aI;let z3:=ah aI (.lst m);let L:=r.Q z3;let a4:=hZ.mono z3;let ap:(upd O fa (.lst m)) fa=Z (.lst m):=af;generalize upd O fa (.lst m)=b at L a4 ap;let aT:LsAt LkAt b j ls:=hL.imp λ_ _ y=>y.mono L;let yl:=aT.1;erw[9,.inl #[6,SqL.of ap],9,la,U,#[_,SqL.of (L _ _ aS)],bg (K:=K) (xs:=j) (λi ws H4=>Same b H4/\PAt H4 ws ((ls.j i).h λl=>(am.f l.1 0+am.f l.2.1 0-l.2.2,((2^l.1|||2^l.2.1:R):G)))) (LK (ar ∅)) #[λ_ _ e=>e,PAt.nil _] (λi ws H4 _ z=>SqL.of (z.1 _ _ (L _ _ aS))) ?_ ?_ (λi ws H4 z=>by let:=z.2.1;grind)]
 .rintro i x ws H4 J ⟨s4,hW⟩;let l I t rfl c:=aT.get J;let l1 l2:=ok.sm l (Lm I);let ab:∀ k,k<n->(am.h V.int)[k]?=Z (.int (am.f k 0)):=λk u=>by
   simp[*]
  let a0:=s4 _ _ (L _ _ an);erw[t,9,SqT.of (s4 _ _ c),11101590,yesT ?_];erw[153,ta,661,SqL.of a0,aE (ab _ l1),153,ta,661,SqL.of a0,aE (ab _ l2),3824037];erw[2649,#[20,by decide],2649,#[20,by decide],165,(by show 2<=P7;decide),λt7 a3=>?_]
  let ex:Qs (1*2^((l.1:R):G).U) (1*2^((l.2.1:R):G).U)=((2^l.1|||2^l.2.1:R):G):=by rw[shlN,shlN,orN]
  let s7:=ah a3 (.tup [.int (am.f l.1 0+am.f l.2.1 0-l.2.2),.int (Qs (1*2^((l.1:R):G).U) (1*2^((l.2.1:R):G).U))]);erw[s4.Q s7,3];rw[LI,I,OV,LH];refine(hW.mono s7).app (PAt.one ?_);show _=Z (HO.tup [.int (am.f l.1 0+am.f l.2.1 0-l.2.2),.int ((2^l.1|||2^l.2.1:R):G)])
  rw[← ex];exact af
 rintro ws H4 ⟨s4,hW⟩ D hD;rw[yl,LQ]at hW;let zl:m.L=n:=by let:=a4.1;rw[Lp,L7]at this;exact this
 let wl:ws.L=ls.L:=by let:=hW.1;rw[Lp]at this;exact this
 let sD:=ah hD (.lst ws);let fD:fa≠D:=λz=>by rw[← z,s4 _ _ ap]at hD;cases hD
 let aZ:=s4.Q sD;erw[fa,D,m,ws,10,aZ _ _ ap,af,LK (ar ∅),3]
 let s6:Same H (upd (upd H4 D (.lst ws)) fa (.lst (m++ws))):=FK (L.Q aZ) a8 _;let Y:PAt (upd (upd H4 D (.lst ws)) fa (.lst (m++ws))) (m++ws) (evs n ls λv=>am.f v 0):=by
  let g:=(a4.mono aZ).app (hW.mono sD)
  erw[g.1,λi p e=>by
   let t a1 a2:=g.2 i p e
   erw[t,a1,by rw[ao (λz=>by rw[z,aZ _ _ ap]at a2;cases a2)];exact a2]]
 let a6:(upd (upd H4 D (.lst ws)) fa (.lst (m++ws))) fa=Z (.lst (m++ws)):=af;generalize upd (upd H4 D (.lst ws)) fa (.lst (m++ws))=H6 at s6 Y a6;let ba:(m++ws).L=n+ls.L:=by simp[*]
 erw[9,fa,m++ws,9,SqL.of a6,Y,4,λl out a9 I pm pw pa=>?_]
 let s7:=ah I (.lst out);erw[l,out,U,SqL.of af,λq d=>?_];let s8:=ah d (.lst out.x);refine a q out.x a9.x _ (s6.Q (s7.Q s8)) af (pa.rev.mono (s7.Q s8)) #[(O3 _).Q pm,List.pairwise_reverse.mpr pw]
def lV:aw ["pieces","rooms","piece","room"] ["pieces","rooms"] (aq oM):=by ac_nf
def ok_join(F:Fun K "joined" "joined" oM f fd)(T:Txt mg)(ab:k9 1 "bits" ["mask"] spBits f1 eg):kt 2 f fd ["pieces","rooms"] HV:=by
 refine F.ok lV (by walk_at "l") λq A o s H I Q ef N h=>?_
 let p n rm ps rfl t pl pb rb an kk:=h;let av:(2:R)^40=1099511627776:=by rfl
 let Y:2^n<=2^40:=Mx ∅ an
 intro Xc Dc;erw[_,(ag (az 2 lV.nd (pv 1))
   (ag (mj (aJ (ab.c N (ae (pv 1) ai))) (bp 3 lV.nd) (aj (az 2 lV.nd (ax i9 (pv 2) (bA (pv 0) (pv 3))))))
   (aj (aF (eM [("piece",2)] ["room","before"] (kU U T.n_enumerate (ae (pv 0) ai)) (λC ex s H=>(dq (n:=2) (K:=K) U U (ay (aU (i:=0) (show(["room","before","piece"]:E ff).l from by decide) U (Or.inl U)) (ay (aU (i:=1) (show(["room","before","piece"]:E ff).l from by decide) U (Or.inl U)) br)))) pt_c (λC ex s H=>(g9 (aA eO (ax eB (ax iN (pv 2) (pv 0)) ak) ak (aH _)) (pv 2) (pv 1)))))))),3]
 erw[153,(rm:G),82,λr a m _ al=>?_]
 rw[Ly]at al;let aS:a r=Z (.lst ((bl rm).h iV)):=al;let ap:=m _ _ t;let ac:∀ k,k<n->(ps.h iV)[k]?=Z (iV (ps.f k 0))/\ps.f k 0<2^n:=λk g=>by
  simp[*]
 erw[r,U,#[_,SqL.of aS],bh (K:=K) (xs:=(bl rm).h iV) (λi L l=>∃(v3:ii V)(pc:R),L=[Z (.ref p),Z (.int (rm:G)),Z (.int (pc:G)),v3]/\l=a/\∀ v,pc.O v=i0↔(rm.O v=i0∨∃ k,k∈(bl rm).j i/\(pcs ps k).O v=i0)) #[_,rm,10,λv=>#[.inl,λz=>z.elim id λ⟨k,g,_⟩=>by simp at g]] (λi L l _ aa=>by let _ _ _ z _:=aa;rw[z];exact SqL.of aS) ?_ ?_]
 .rintro i x L l J ⟨v3,pc,rfl,rfl,aI⟩;rw[Lx]at J;let k g rfl:=LC.mp J;let kn:=qF rb (Lm g);let a1 a2:=ac k kn;let ex:Qs (pc:G) ((ps.f k 0:R):G)=((pc|||ps.f k 0:R):G):=orN _ _
  erw[2457,p,661,SqL.of ap,aE a1,933];simp only[ex];erw[165,λv=>?_];rw[Mw,Nf,aI,LI,g];constructor
  .rintro((z|⟨k',Y,O⟩)|z)
   .exact .inl z
   .exact .inr #[k',Mo _ Y,O]
   .exact .inr #[k,LX _ (by simp),z]
  .rintro(z|⟨k',Y,O⟩)
   .exact .inl (.inl z)
   .obtain Y|Y:=LY.mp Y
    .exact .inl (.inr #[k',Y,O])
    .let:k'=k:=by simpa using Y
     rw[this]at O;exact .inr O
 rintro L l ⟨v3,pc,rfl,rfl,aI⟩;rw[Lp,LQ]at aI;let a0:∀ v,pc.O v=i0↔(rm.O v=i0∨∃ k,rm.O k=i0/\(pcs ps k).O v=i0):=λv=>by
  rw[aI v];exact or_congr Iff.rfl #[λ⟨k,Y,O⟩=>#[k,mem_bl.mp Y,O],λ⟨k,Y,O⟩=>#[k,mem_bl.mpr Y,O]]
 let aT:(ps.h iV).L=n:=by simp[*]
 erw[9,p,U,#[_,SqL.of ap],ku (K:=K) (xs:=ps.h iV) (λi d H3=>Same l H3/\∃ qs:E R,d=qs.h iV/\qs.L=i/\∀ v,v<i->pcs qs v=HM.jn2 (pcs ps) pc v) (LK (ar ∅)) #[λ_ _ e=>e,[],10,λv j=>Ry j (MJ _)] (λi d H3 _ z=>SqL.of (z.1 _ _ ap)) ?_ ?_ (λi d H3 aa=>by let _ qs e ql _:=aa;simp[*])]
 .rintro i x d H3 T2 J ⟨s3,qs,rfl,ql,qb⟩ am;let B:i<n:=by rw[← aT];exact(Ll.mp J).1
  let sT:=ah am (.tup [.int (i:G),x]);rw[Lx]at J;let b M rfl:=LC.mp J;let bb:=pb b (Lm M)
  let step:∀ y:R,y=HM.jn2 (pcs ps) pc i->∃ aZ:E R,qs.h iV++[iV y]=aZ.h iV/\aZ.L=i+1/\∀ v,v<i+1->pcs aZ v=HM.jn2 (pcs ps) pc v:=λy u=>#[qs++[y],by rw[LH];rfl,by rw[Ls,ql];rfl,λv j=>by
   unfold pcs;rw[LA];by_cases c:v<i
   .rw[Lu ∅,← LA]
    exact qb v c
   .let:v=qs.L:=by lia
    rw[this,Lq (Lo _),Mb,ql]
    exact u]
  let eb:pcs ps i=b:=by unfold pcs;rw[LA,M];rfl
  erw[T2,9,SqT.of af,173462,yesT ?_];erw[42393,(show(0:G)<=(i:G) by lia),9893,ite2 (λc=>?_) (λc=>?_)]
  .let c':pc.O i=i0:=(AR pc i).mp (V.int.inj (Rl c))
   erw[9,s3.Q sT,step pc (by unfold HM.jn2;rw[Rw c'])]
  .let c':¬ pc.O i=i0:=λz=>c (QG (congrArg V.int ((AR pc i).mpr z)))
   erw[9,s3.Q sT,step b (by unfold HM.jn2;rw[Rx c',eb])]
 rintro d H3 ⟨s3,qs,rfl,ql,qb⟩ D hD;exact kk D qs pc _ (m.Q (s3.Q (ah hD _))) af (by rw[ql,aT]) a0 λv j=>qb v (by rw[aT];exact j)
def bit01(u i:R):Qr ((u:G)/2^((i:R):G).U) 1=0∨Qr ((u:G)/2^((i:R):G).U) 1=1:=by
 let f:(u:G)/2^((i:R):G).U=((u/2^i:R):G):=by rfl
 let A:Qr ((u/2^i:R):G) 1=((u/2^i&&&1:R):G):=andN _ 1;grind
def Er(ok:Lok n ls){h h':R->G}(e:∀ v,v<n->h v=h' v):evs n ls h=evs n ls h':=by
 unfold evs;congr 1
 .simp!
 .exact MA λl C=>by rw[e _ (ok.sm l C).1,e _ (ok.sm l C).2]
def oldP(kv:E (R×R))(M:R):R:=((kv.find? λe=>decide (e.1=M)).h (·.2)).f 0
def Jq(kv:E (R×R))(M:R):(valV (toK kv) (.inl (M:G))).f (.int 0)=V.int ((oldP kv M:R):G):=by
 unfold valV toK oldP;rw[List.find?_map];let:((λkv:Key×V=>decide (kv.1=Sum.inl (M:G)))∘λe:R×R=>((Sum.inl (e.1:G):Key),V.int (e.2:G)))=λe=>decide (e.1=M):=funext λe=>by
  show decide (Sum.inl (e.1:G)=(Sum.inl (M:G):Key))=_;exact decide_eq_decide.mpr #[λz=>N7 (Sum.inl.inj z),λz=>by rw[z]]
 rw[this]
 cases kv.find? λe=>decide (e.1=M)<;>rfl
theorem C9{M:R}:∀{kv:E (R×R)},(kv.h (·.1)).l->∀ e∈kv,e.1=M->oldP kv M=e.2
 |x::kv,h,e,eg,em=>by
  rw[LR]at h;let Y O:=LV.mp h;unfold oldP;rw[NG];by_cases c:x.1=M
  .rw[QG c];obtain rfl|eg:=Lw.mp eg
   .rfl
   .exact Ry (LW.mpr #[e,eg,em.Q c.Y]) Y
  .rw[P6 c];obtain rfl|eg:=Lw.mp eg
   .exact Ry em c
   .exact C9 O e eg em
def Jo{t:R}(nd:(kv.h (·.1)).l):putK (toK kv) (.inl (M:G)) (V.int (((oldP kv M:R):G)+(t:G)))=toK (upK kv M t):=by
 let any:((toK kv).any λe=>decide (e.1=Sum.inl (M:G)))=kv.any λe=>decide (e.1=M):=by
  unfold toK;rw[List.any_map];congr 1;funext e;show decide (Sum.inl (e.1:G)=(Sum.inl (M:G):Key))=_;exact decide_eq_decide.mpr #[λz=>N7 (Sum.inl.inj z),λz=>by rw[z]]
 unfold putK upK;rw[any];split
 .unfold toK;rw[MH,MH];refine MA λe eg=>?_;show(if(Sum.inl (e.1:G):Key)=Sum.inl (M:G) then _ else _)=((Sum.inl (((if e.1=M then(e.1,e.2+t) else e).1:R):G):Key),V.int (((if e.1=M then(e.1,e.2+t) else e).2:R):G));by_cases c:e.1=M
  .rw[Rw (by rw[c]),Rw c,C9 nd e eg c]
   rfl
  .rw[Rx (show ¬ (Sum.inl (e.1:G):Key)=Sum.inl (M:G) from λz=>c (N7 (Sum.inl.inj z))),Rx c]
 .rename_i c;let h:oldP kv M=0:=by
   unfold oldP;rw[List.find?_eq_none.mpr λe eg z=>c (Pg.mpr #[e,eg,z])];rfl
  rw[h];unfold toK;simp
def Bl{r t:R}{hs:E R}{y:R}(h:hs[j]?=Z y):nH r t kv (hs.j (j+1))=if inP r t y=i0 then upK (nH r t kv (hs.j j)) y t else nH r t kv (hs.j j):=by
 unfold nH;rw[LI,h,OV,Oq];rfl
theorem Jp(kv:E (R×R)):(toK kv).L=kv.L:=Lp ..
def Jl(kv:E (R×R))(M t:R):(upK kv M t).L<=kv.L+1:=by
 unfold upK;split
 .simp
 .simp
theorem xw:∀(ns l:E G),(ns.foldl addN l).L<=l.L+ns.L
 |[],_=>Lo _
 |k::ns,l=>by
  let:=xw ns (addN l k);let:=AV l k;grind
def dE:aw ["many","links","marks","row","root","pieces","prices","drying","lower","levels","piece"] ["many","links","marks"] (aq sP):=by ac_nf
def ok_hills{TT f3 f4:eN}{a5 a8 bB:fk}(F:Fun K "hills" "hills" sP f fd)(T:TxtH mg)(ba:k9 11 "heights" ["many","links","marks"] (spHts TT) f1 eg)(bb:k9 1 "dryings" ["links","tops"] spDry f2 a5)(aS:k9 2 "root_of" ["marks"] Cd f3 a8)(bn:k9 2 "joined" ["pieces","rooms"] HV f4 bB):kt 12 f fd ["many","links","marks"] (spHills TT):=by
 refine F.ok dE (by walk_at "l") λab A aa s H vs Q ef N h=>?_
 let v n mk ls rfl hV ok n1 hc aT ev fw al a3 kk:=h;let hu:=oy N;let aZ:=ok.n1;let bZ:(2:R)^40=1099511627776:=by rfl
 let Y:2^n<=2^40:=Mx ∅ aZ
 let rn:=sR aT n1
 intro Xc Dc;erw[_,(ag (az 3 dE.nd (bb.c N (ae (pv 1) (ae (ba.c N (ae (pv 0) (ae (pv 1) (ae (pv 2) ai)))) ai))))
   (ag (az 4 dE.nd (aS.c N (ae (pv 2) ai)))
   (ag (nA 5 [] ["room"] dE.nd (bf U T.n_range (ae (pv 0) ai)) pg_c pt_c (λC ex s H=>ak))
   (ag (az 6 dE.nd fO)
   (ag (mj (CP U T.n_zip (ae (pv 3) (ae (ma pA (pv 3) (pK ak) pL) ai))) (iM U (ay (bp 7 dE.nd) (ay (bp 8 dE.nd) br))) (ag (az 5 dE.nd (bn.c N (ae (pv 5) (ae (cR (pv 7) ak) ai))))
   (ag (az 9 dE.nd (ax kD (cR (pv 7) ak) (cR (pv 8) ak)))
   (aj (mj (aJ (aG (BO U U U) (by rfl) T.n_sorted jK (ae (dQ (E3 U U U U) (by rfl) T.n_set bt_set (ae (pv 5) ai)) ai))) (bp 10 dE.nd) (aj (cz (PW.pt (Ii (aA yj (pv 9) ak (aH _)) (Ii (aA mz (pv 10) ak (aH _)) (JK (aA eO (ax eB (ax iN (pv 10) (pv 4)) ak) ak (aH _)))))) (aj (gm hu (pv 6) (pv 10) (ax cV (FV hu (pv 6) (pv 10) ak #[170]) (pv 9)) U)) aQ)))))))
   (aj (aF (dQ (BQ U) (by rfl) T.n_list jL (ae (CZ Nr NQ PV Gw (pv 6)) ai))))))))),3]
 erw[39321,v,n,mk,ls,U,hV,ok,n1,hc,aT,ev,fw,a3,λp cs H1 a4 bY hp cl cy=>?_];erw[v,p,n,ls,cs.h λc=>cs.f (aN mk) 0-c,U,hV.smT a4,ok,by rw[hp,MH];rfl,by rw[Lp,cl],al,λq out row M s2 hq bm co=>?_]
 let aI:Drw n ls (λv=>cs.f (aN mk) 0-cs.f v 0) row:=#[by
  rw[Er ok (h':=λv=>(cs.h λc=>cs.f (aN mk) 0-c).f v 0) λv hv=>?_]
  .exact co.rp
  .simp[*],co.srt]
 clear co;let rl:row.L=n+ls.L:=by
  rw[aI.rp.length_eq];unfold evs;rw[Ls,Lp,Lp,L7]
 let ol:out.L=row.L:=bm.1;let e0 cA:∃ e0,row[0]?=Z e0:=#[_,Lj ∅]
 let I0 lip c0:=HI.first ok hc aT rn cy aI.rp aI.srt cA;let oc:Opt (farD ls) (bl mk) (cs.f (aN mk) 0):=by
  let:=cy _ rn;rw[Mu,Nq,Og]at this;exact this
 generalize bU:cs.f (aN mk) 0=cr at I0 lip c0 oc aI;generalize c6:(λv=>cr-cs.f v 0)=hv at I0 lip aI;let be:∀ i,i<ls.L->hv (aL ls i)-hv (bL ls i)<=nL ls i/\hv (bL ls i)-hv (aL ls i)<=nL ls i:=by rw[← c6];exact lip
 erw[9,mk,18,λH3 s3=>?_]
 erw[153,(by lia),(by ac_rfl),cH (n:=n) (λi zs H4=>H4=H3/\zs=(Lz i 0).h iV) (LK (ar (by lia))) #[10] ?_ ?_]
 .rintro i zs H4 B ⟨rfl,rfl⟩;erw[14];rw[Nk,LH];rfl
 rintro zs H4 _ ⟨rfl,rfl⟩ pp c7;let s5:=ah c7 (.lst ((Lz n 0).h iV));refine λd hd=>?_;let sd:=ah hd (.dK []);let a7:Same M (upd (upd H4 pp (.lst ((Lz n 0).h iV))) d (.dK [])):=s3.Q (s5.Q sd);let av:=a7 _ _ hq;let ca:=sd _ _ (show upd H4 pp (.lst ((Lz n 0).h iV)) pp=_ from af);let da:M d=kf:=fu (s3.Q s5) hd;let gd:(upd (upd H4 pp (.lst ((Lz n 0).h iV))) d (.dK [])) d=Z (.dK []):=af;let cb:=bm.mono a7;generalize upd (upd H4 pp (.lst ((Lz n 0).h iV))) d (.dK [])=H6 at a7 av ca gd cb;erw[2457,q,9,SqL.of av,λq7 a2=>?_];rw[Hl];let s7:=ah a2 (.lst (out.drop 1));let db:q7≠d:=λz=>by rw[z,gd]at a2;cases a2
 let bJ:(upd H6 q7 (.lst (out.drop 1))) q7=Z (.lst (out.drop 1)):=af;let b0:=s7 _ _ gd;let cp:=a7.Q s7;let cc:=s7 _ _ ca;let bK:q≠d:=λz=>by rw[z,gd]at av;cases av
 let cd:=cb.mono s7;let bP:=s7 _ _ av;generalize upd H6 q7 (.lst (out.drop 1))=H7 at s7 bJ b0 cp cc cd bP;let dl:(out.drop 1).L=out.L-1:=Pb ..;let cB:∀{H9:Hp}{i:R}{e:G×G},TbS d H7 H9->row[i]?=Z e->∃ t,out[i]?=Z (.ref t)/\H9 t=Z (.tup [.int e.1,.int e.2]):=λ{H9 i e} sT J=>by
  let t z1 z2:=cd.2 i e J;erw[t,z1,sT _ _ (λy=>by rw[y,b0]at z2;cases z2) z2]
 let bi:∀{i:R}{e:G×G},row[i]?=Z e->row.f i (0,0)=e:=λ{i e} h=>by rw[LA,h];rfl
 erw[q,q7,U,#[_,SqL.of bP],#[_,SqL.of bJ],GY (K:=K) (xs:=out) (zs:=out.drop 1) (out.L-1) (λi L H9=>∃(v7 v8 v9 an:ii V)(pa:eN)(ps:E R)(kv:E (R×R))(l m:R->R),L=[Z (.int (n:G)),Z v,Z (.int (mk:G)),Z (.ref q),Z (.int ((aN mk:R):G)),Z (.ref pa),Z (.ref d),v7,v8,v9,an]/\TbS d H7 H9/\H9 d=Z (.dK (toK kv))/\kv.L<=40*i/\H9 pa=Z (.lst (ps.h iV))/\HI n ls mk hv row (2*cr).U i (row.f i (0,0)).1 ps l m kv)
  #[85,pp,Lz n 0,[],37,λ_ _ _ e=>e,b0,Lo _,cc,by rw[bi cA];exact I0] (Nat.sub_le _ _) dl (λi L H9 _ ac=>by let _ _ _ _ _ _ _ _ _ _ sT _:=ac;erw[SqL.of (sT _ _ bK bP),SqL.of (sT _ _ db bJ)]) ?_ ?_]
 .rintro i x z L H9 T9 J hz ⟨v7,v8,v9,an,pa,ps,kv,lq,m,rfl,sT,bR,kl,cD,I⟩ ck;let B:i<out.L-1:=by rw[← dl];exact(Ll.mp hz).1
  let e D:∃ e,row[i]?=Z e:=#[_,Lj ∅]
  let e' a1:∃ e,row[i+1]?=Z e:=#[_,Lj ∅]
  let tx am cK:=cB sT D;let tz cg dc:=cB sT a1;rw[J]at am
  cases am
  rw[OX,O8,cg]at hz
  cases hz
  rw[bi D]at I;let a9:e∈evs n ls hv:=aI.rp.mem_iff.mp (Lm D);let u w' dd df e2 e3 _:=Es ok be a9;let dg:e.2.U<2^n:=by
   rw[e2];exact O2 (Mj ∅ dd) (Mj ∅ df)
  let e4:V.int e.2=V.int ((e.2.U:R):G):=by rw[e2,e3]
  let dn:e'.1<=e.1:=by
   let i1 i2:=Ll.mp D;let j1 j2:=Ll.mp a1;let:=ME.mp aI.srt i (i+1) i1 j1 ∅
   rw[i2,j2]at this;exact this
  let s9:=ah ck (.tup [.ref tx,.ref tz]);erw[T9,9,SqT.of af,238998];erw[153,tx,_,01,41,SqT.of (s9 _ _ cK),at1,pa,n,e.2.U,ps,by rw[← e4];rfl,s9 _ _ cD,I.pl,I.pb,dg,aZ,λqa qs PP HA sA b5 ql dp a0=>?_]
  let I2 dr:=I.join ok be D a9 U dp ql a0;let b6:=s9.Q sA;erw[9,tx,_,00,41,SqT.of (b6 _ _ cK),at0,9,tz,_,00,41,SqT.of (b6 _ _ dc),at0,933];let en:qs.h iV=(qs.h λx:R=>(x:G)).h V.int:=by rw[MH];rfl
  let nl:(qs.h λx:R=>(x:G)).L=n:=by rw[Lp,ql]
  erw[9,qa,qs.h λx:R=>(x:G),U,SqL.of (by rw[b5,en]),4,λa ha=>?_]
  let ct:HA d=Z (.dK (toK kv)):=b6 _ _ bR;let cu:((qs.h λx:R=>(x:G)).foldl addN []).L<64:=by
   let:=xw (qs.h λx:R=>(x:G)) [];rw[NF]at this;lia
  erw[a,9,af,cu,λl hs hl mem pw=>?_];let ld:l≠d:=λy=>by
   subst y;let O:=(ah ha (setO P w a ((qs.h λx:R=>(x:G)).foldl addN []))) _ _ ct
   cases (hl.Y.Q O)
  let qd:qa≠d:=λy=>by
   rw[y,ct]at b5;cases b5
  let ce:∀ x,x∈hs↔x∈qs.h λx:R=>(x:G):=λx=>by
   rw[mem x,Hu];erw[λh=>h.elim (λh=>(nomatch h)) id,.inr]
  let hn ds:∃ hn:E R,hn=hs.h Int.toNat:=#[9];let cv:hs=hn.h λx:R=>(x:G):=by
   rw[ds,MH];refine((MA (g:=id) λx J=>?_).Q (List.map_id _)).Y;let y _ rfl:=LW.mp ((ce x).mp J);rfl
  let cP:hn.l:=by
   rw[cv]at pw;exact(NX.mp pw).imp λh e=>by rw[e]at h;lia
  let cQ:∀ y,y∈hn↔y∈qs:=λy=>by
   let:=ce (y:G);rw[cv,LW,LW]at this;constructor
   .intro h;let x Y O:=this.mp #[y,h,U];rw[← N7 O];exact Y
   .intro h;let x Y O:=this.mpr #[y,h,U];rw[← N7 O];exact Y
  let ci:hn.L<=n:=by
   let:=Ip (l:=hn) (ps:=qs) cP λx J=>(cQ x).mp J;lia
  let t ht:∃ t:R,(e.1-e'.1).U=t:=#[9];let et:e.1-e'.1=(t:G):=by lia
  let dt:(hs.h V.int)=hn.h iV:=by rw[cv,MH];rfl
  rw[dt];erw[l,U,#[_,SqL.of af],bh (K:=K) (xs:=hn.h iV) (λj L HX=>∃(an:ii V)(ap:E (R×R)),L=[Z (.int (n:G)),Z v,Z (.int (mk:G)),Z (.ref q),Z (.int ((aN mk:R):G)),Z (.ref qa),Z (.ref d),Z (.ref tx),Z (.ref tz),Z (.int (e.1-e'.1)),an]/\TbS d HA HX/\HX l=Z (.lst (hn.h iV))/\HX d=Z (.dK (toK ap))/\ap=nH (aN mk) t kv (hn.j j)/\ap.L<=40*i+j) #[_,kv,U,λb o _ e=>((ah ha _).Q (ah hl _)) _ _ e,af,((ah ha _).Q (ah hl _)) _ _ ct,U,kl] (λj L HX _ ac=>by let _ _ _ _ z _:=ac;exact SqL.of z) ?_ ?_]
  .rintro j y L HX hy ⟨an,ap,rfl,sX,cT,bv,bz,cW⟩;let hj:j<hn.L:=by
    let:=(Ll.mp hy).1;rw[Lp]at this;exact this
   rw[Lx]at hy;let yv du rfl:=LC.mp hy;let cX:=Bl (r:=aN mk) (t:=t) (kv:=kv) du;let no:inP (aN mk) t yv=j5->∃(an:ii V)(ap:E (R×R)),[Z (V.int (n:G)),Z v,Z (.int (mk:G)),Z (.ref q),Z (.int ((aN mk:R):G)),Z (.ref qa),Z (.ref d),Z (.ref tx),Z (.ref tz),Z (.int (e.1-e'.1)),Z (iV yv)]=[Z (.int (n:G)),Z v,Z (.int (mk:G)),Z (.ref q),Z (.int ((aN mk:R):G)),Z (.ref qa),Z (.ref d),Z (.ref tx),Z (.ref tz),Z (.int (e.1-e'.1)),an]/\TbS d HA HX/\HX l=Z (.lst (hn.h iV))/\HX d=Z (.dK (toK ap))/\ap=nH (aN mk) t kv (hn.j (j+1))/\ap.L<=40*i+(j+1):=λz=>#[_,ap,U,sX,cT,bv,by rw[cX,z,Rx (by simp)];exact bz,4]
   erw[39513,ite2 (λc1=>?_) (λc1=>no ?_)];rotate_left
   .unfold inP;rw[P6 (λz=>c1 (QG (by show(0:G)<e.1-e'.1;lia)))]
    rfl
   let c5:(0:G)<e.1-e'.1:=Rl c1;erw[617,ite2 (λc2=>?_) (λc2=>no ?_)];rotate_left
   .let:yv=0:=Decidable.byContradiction λz=>c2 (by
     rw[P6 (show ¬ iV yv=V.int 0 from λy=>z (N7 (V.int.inj y)))]
     rfl)
    unfold inP;rw[this];simp
   let dv:yv≠0:=λz=>by
    rw[z]at c2;exact Ry c2 (by rw[QG (show iV 0=V.int 0 from rfl)];decide)
   erw[42393,(show(0:G)<=((aN mk:R):G) by lia),9893,ite2 (λc3=>?_) (λc3=>no ?_)]
   rotate_left
   .cases z:yv.O (aN mk) with
    |true=>unfold inP;rw[z];simp
    |false =>
     exfalso;refine c3 (QG (congrArg V.int ?_));let h0:=(AR yv (aN mk));rw[z]at h0;let Y:=bit01 yv (aN mk);obtain Y|Y:=Y
     .exact Y
     .exact Ry (h0.mp Y) (by simp)
   let dw:yv.O (aN mk)=j5:=by
    cases z:yv.O (aN mk) with
    |false=>rfl
    |true =>
     let h0:=(AR yv (aN mk)).mpr z;let Y:Qr ((yv:G)/2^((aN mk:R):G).U) 1=0:=V.int.inj (Rl c3);rw[h0]at Y
     cases Y
   let dx:inP (aN mk) t yv=i0:=by
    unfold inP;rw[QG (show 0<t by lia),QG dv,dw]
    rfl
   let big:(toK ap).L<P7:=by
    rw[Jp];let:ap.L<3000:=by lia
    exact Ni this ∅
   let cf:=Jq ap yv;let ch:(ap.h (·.1)).l:=by rw[bz];exact o8 I2.nd
   erw[9,d,U,.inl #[_,.inl bv],25,DGet.k (k:=.inl (yv:G)) bv,89,cf,614,d,9,DPut.k (k:=.inl (yv:G)) bv big,3];rw[et,Jo ch];erw[_,upK ap yv t,U,(λb o nb e=>by rw[ao nb];exact sX b o nb e),by rw[ao ld];exact cT,af,by rw[cX,dx,Rw U,bz],3]
   let:=Jl ap yv t;lia
  .rintro L HX ⟨an,ap,rfl,sX,_,bv,bz,cW⟩;rw[Lp]at cW;rw[Lp,LQ]at bz;let l' m' I3:=I2.down be dr aI.rp aI.srt a1 dn cP cQ rn;rw[ht,← bz]at I3;erw[85,qa,qs,ap,l',m',U,λb o nb e=>sX b o nb (b6 _ _ (sT b o nb e)),bv,4,sX _ _ qd b5,by rw[bi a1];exact I3]
 .rintro L H9 ⟨v7,v8,v9,an,pa,ps,kv,lq,m,rfl,sT,bR,kl,cD,I⟩;let e D:∃ e,row[out.L-1]?=Z e:=#[_,Lj ∅]
  rw[bi D]at I;let m0:=I.end ok be aI.rp D U ∅ rn
  let hH:=I.hls c0 ok m0;erw[9,.inr (.inr (.inl #[U,.inl #[_,bR]])),d,41,bR,True.intro,λvw bT=>?_];let sv:=ah bT (iQ vw d);erw[vw,d,toK kv,kv.h (λe=>((e.1:G),(e.2:G))),U,af,sv _ _ bR,by unfold toK;rw[MH];rfl,λl ys cw cY hl cZ yl dy=>?_]
  let a6:Tb lqF lpF TT H7:=tb_same (tb_same bY s2) cp;refine kk l ys kv cr cw (λb o no e=>?_) (tb_same (HH a6 b0 sT) (sv.Q cY)) cZ #[yl,dy] ∅ oc hH
  let e2:=s2 _ _ (a4 b o no e);exact cY _ _ (sv _ _ (sT b o (λz=>by rw[z,da]at e2;cases e2) (cp _ _ e2)))
def chN(a b M:R):R:=cond (M.O a ^^ M.O b) 1 0
def pdN(kv:E (R×R))(l:Lk):R:=wsum (chN l.1 l.2.1) kv
def tgB(ls:E Lk)(kv:E (R×R))(k:R):im:=decide (((pdN kv (lkA ls k):R):G)=2*(lkA ls k).2.2)
def crN(ls:E Lk)(ww:R->im)(N M:R):R:=HM.csw (λi=>chN (aL ls i) (bL ls i) M) ww N
structure Kpt(ls:E Lk)(kv:E (R×R))(ww:R->im)(N:R):Prop where
 tg:∀ k,k<N->ww k=i0->tgB ls kv k=i0
 cr:∀ e∈kv,crN ls ww N e.1=1
theorem EX(t:R)(w:R->R)(ww:R->im):∀ n,HM.csw (λi=>t*w i) ww n=t*HM.csw w ww n
 |0=>rfl
 |n+1=>by
  show HM.csw (λi=>t*w i) ww n+cond (ww n) (t*w n) 0=t*(HM.csw w ww n+cond (ww n) (w n) 0);rw[EX t w ww n,Nat.mul_add]
  cases ww n<;>rfl
theorem IJ(ls:E Lk)(ww:R->im)(N:R):∀ kv:E (R×R),HM.csw (λi=>pdN kv (lkA ls i)) ww N=wsum (crN ls ww N) kv
 |[]=>by
  let:∀ n,HM.csw (λ_=>0) ww n=0:=λn=>by
   induction n with
   |zero=>rfl
   |succ n L=>show HM.csw (λ_=>0) ww n+cond (ww n) 0 0=0;simp!
  exact this N
 |e::kv=>by
  show HM.csw (λi=>e.2*chN (aL ls i) (bL ls i) e.1+pdN kv (lkA ls i)) ww N=e.2*crN ls ww N e.1+wsum (crN ls ww N) kv;rw[HM.csw_add,EX,IJ ls ww N kv];rfl
def csw_eq{w v:R->R}{ww:R->im}(h:∀ i,i<n->w i<=v i)(e:HM.csw w ww n=HM.csw v ww n):∀ i,i<n->ww i=i0->w i=v i:=by
 induction n with
 |zero=>exact λi B=>Ry B (MJ _)
 |succ n L =>
  intro i B u;let a:=HM.csw_le (w:=w) (v:=v) (F:=ww) (eg:=ww) (n:=n) λj I=>by cases ww j<;>simp[h j ∅]
  let b:cond (ww n) (w n) 0<=cond (ww n) (v n) 0:=by cases ww n<;>simp[h n ∅]
  let e:HM.csw w ww n+cond (ww n) (w n) 0=HM.csw v ww n+cond (ww n) (v n) 0:=e;by_cases c:i=n
  .lia
  .exact L (λj I=>h j ∅) ∅ i ∅ u
theorem zQ{g:R->R}:∀{kv:E (R×R)},(∀ e∈kv,1<=e.2/\1<=g e.1)->wsum (λ_=>1) kv<=wsum g kv/\(wsum g kv=wsum (λ_=>1) kv->∀ e∈kv,g e.1=1)
 |[],_=>#[Lo _,λ_ e eg=>nomatch eg]
 |x::kv,h=>by
  let a b:=zQ (g:=g) (kv:=kv) λe eg=>h e (Lr _ eg);let M r:=h x (Lv ..);let s:x.2*1<=x.2*g x.1:=Nat.mul_le_mul_left _ r;let f:wsum g (x::kv)=x.2*g x.1+wsum g kv:=rfl;let A:wsum (λ_=>1) (x::kv)=x.2*1+wsum (λ_=>1) kv:=rfl;erw[4,λz e eg=>?_]
  obtain rfl|eg:=Lw.mp eg
  .exact Nat.eq_of_mul_eq_mul_left (show 0<e.2 by lia) ∅
  .grind
def Hls.kept{u:R}{c:G}(h:Hls n ls mk c kv)(ok:Lok n ls)(t:oddE ls u ls.L=mk):c<=cstU ls u ls.L/\(Kpt ls kv (λi=>u.O i) ls.L↔cstU ls u ls.L=c):=by
 let T:=IJ ls (λi=>u.O i) ls.L kv;let o:=qA (λl C=>(ok.w0 l C).1) u ls.L (Lo _);let ef:∀ i,i<ls.L->0<=nL ls i/\aL ls i<n/\bL ls i<n:=λi B=>by
  let e:=Lj B;unfold nL aL bL;rw[lkA_is e];erw[(ok.w0 _ (Lm e)).1,ok.sm _ (Lm e)]
 let D:∀ i,i<ls.L->pdN kv (lkA ls i)<=dL ls i:=λi B=>by
  let a:((pdN kv (lkA ls i):R):G)<=2*nL ls i:=h.pd i B;let:=(ef i B).1;unfold dL;lia
 let s:=HM.csw_le (w:=λi=>pdN kv (lkA ls i)) (v:=dL ls) (F:=λi=>u.O i) (eg:=λi=>u.O i) (n:=ls.L) λj I=>by cases u.O j<;>simp[D j I]
 let cr:∀ e∈kv,1<=e.2/\1<=crN ls (λi=>u.O i) ls.L e.1:=λe d=>by
  let M _ _ O:=h.ke e d;let q:=HM.cut (n:=n) (a:=aL ls) (b:=bL ls) (λx=>e.1.O x) (λi=>u.O i) (N:=ls.L) λi B=>(ef i B).2;simp only[AU,t]at q;let i B z:=HM.par_some (q.Q O);let H Q:=im.and_eq_true_iff.mp z;let:=HM.csw_pos (w:=λi=>chN (aL ls i) (bL ls i) e.1) (F:=λi=>u.O i) B H;let f:chN (aL ls i) (bL ls i) e.1=1:=by unfold chN;rw[Q];rfl
  simp only[f]at this;erw[M,this]
 let p A:=zQ cr;let sm:=h.sm;erw[4,λk=>?_,λz=>#[λk g m=>QG ?_,A ∅]]
 .let q:HM.csw (λi=>pdN kv (lkA ls i)) (λi=>u.O i) ls.L=HM.csw (dL ls) (λi=>u.O i) ls.L:=HM.csw_congr λi B=>by
   cases b:u.O i with
   |false=>rfl
   |true =>
    let:=Rl (k.tg i B b);show pdN kv (lkA ls i)=dL ls i;unfold dL nL;lia
  let r:wsum (crN ls (λi=>u.O i) ls.L) kv=wsum (λ_=>1) kv:=congrArg List.sum (MA λe d=>by rw[k.cr e d])
  lia
 .let q:HM.csw (λi=>pdN kv (lkA ls i)) (λi=>u.O i) ls.L=HM.csw (dL ls) (λi=>u.O i) ls.L:=by lia
  let:=csw_eq D q k g m;rw[this];let:=(ef k g).1;unfold dL nL at *;lia
def PpK(H:Hp)(v:V)(kv:E (R×R)):Prop:=∃ a j,v=.ref a/\H a=Z (.lst j)/\PAt H j (kv.h λe=>((e.1:G),(e.2:G)))
def PpK.mono{H H':Hp}{v:V}{kv:E (R×R)}(h:PpK H v kv)(s:mo):PpK H' v kv:=by
 let a j e z l:=h;erw[a,j,e,s _ _ z,l.mono s]
def JX(h:PAt H ys (kv.h λe=>((e.1:G),(e.2:G)))){x:V}(J:ys[i]?=Z x):∃ e t,kv[i]?=Z e/\x=.ref t/\H t=Z (.tup [iV e.1,iV e.2]):=by
 let l:=h.1;rw[Lp]at l;let e eg:∃ e,kv[i]?=Z e:=#[_,Lj (by rw[← l];exact(Ll.mp J).1)]
 let t a b:=h.2 i (e.1,e.2) (by simp[*])
 rw[J]at a;erw[e,t,eg,L3 a,b]
def xorB{a b:R}(M:R):Qr (Qt ((M:G)/2^((a:R):G).U) ((M:G)/2^((b:R):G).U)) 1=((chN a b M:R):G):=by
 let e:∀ i:R,(M:G)/2^((i:R):G).U=((M/2^i:R):G):=λi=>by
  rfl
 rw[e,e,xorN];let A:Qr (((M/2^a^^^M/2^b:R)):G) 1=(((M/2^a^^^M/2^b)&&&1:R):G):=andN _ 1;rw[A,Nat.and_one_is_mod];let Y:(M/2^a^^^M/2^b).O 0=(M.O a ^^ M.O b):=by
  rw[Mm,P2,P2,Of,Of]
 rw[Nat.testBit_zero]at Y;unfold chN
 cases z:(M.O a ^^ M.O b) with
 |true =>
  rw[z]at Y;let:=Rl Y;rw[this];rfl
 |false =>
  rw[z]at Y;let:=of_decide_eq_false Y;rw[show(M/2^a^^^M/2^b)%2=0 by lia]
  rfl
def ch_01(a b M:R):chN a b M=0∨chN a b M=1:=by unfold chN;cases (M.O a ^^ M.O b)<;>simp
def pdL(kv:E (R×R))(a b:R):E G:=(kv.filter λe=>decide (chN a b e.1=1)).h λe=>(e.2:G)
theorem C0(a b:R):∀ kv:E (R×R),(pdL kv a b).sum=((wsum (chN a b) kv:R):G)
 |[]=>rfl
 |e::kv=>by
  let L:=C0 a b kv;let f:wsum (chN a b) (e::kv)=e.2*chN a b e.1+wsum (chN a b) kv:=rfl;rw[f];unfold pdL at *;obtain z|z:=ch_01 a b e.1
  .simp[*]
  .simp[*]
def JV{e:R×R}(h:kv[i]?=Z e)(a b:R):pdL (kv.j (i+1)) a b=if chN a b e.1=1 then pdL (kv.j i) a b++[(e.2:G)] else pdL (kv.j i) a b:=by
 unfold pdL;rw[LI,h,OV,M9,LH];by_cases c:chN a b e.1=1
 .simp[*]
 .simp[*]
def JW(kv:E (R×R))(a b i:R):(pdL (kv.j i) a b).L<=i:=by
 unfold pdL;rw[Lp];exact Mi (M7 _ _) (by rw[Me];exact M5 _ _)
theorem big3{k:R}(h:k<=3000):k<=P7:=Mi h ∅
structure TxtE(mg:ff->ii eK):Prop extends TxtH mg where
 n_sum:mg "sum"=kf
inductive spPaid
 |mk (v pv:V)(l:Lk)(kv:E (R×R)) (_:vs=[v,pv])(_:LkAt H v l)(_:PpK H pv kv)(_:kv.L<=3000)(_:∀ H',mo->Q (.int ((pdN kv l:R):G)) H')
def vi:aw ["link","paper"] ["link","paper"] (aq gW):=by ac_nf
def ok_paid(F:Fun K "paid_over" "paid_over" gW f fd)(T:TxtE mg):kt 1 f fd ["link","paper"] spPaid:=by
 refine F.ok vi (by walk_at "l") λg A o s H M Q ef N h=>?_
 let v pv l p rfl{t rfl u}{a j rfl r y}ab d:=h;let yl:=y.1;rw[Lp]at yl;intro B I;erw[_,(aj (aF (aG (AQ U) (by rfl) T.n_sum E4 (ae (eM [("link",0)] ["rooms","price"] (aJ (pv 1)) (λC b s H=>(dq (n:=2) (K:=K) U U (ay (aU (i:=0) (show(["rooms","price","link"]:E ff).l from by decide) U (Or.inl U)) (ay (aU (i:=1) (show(["rooms","price","link"]:E ff).l from by decide) U (Or.inl U)) br)))) (λC b s H=>(gk (aA eO (ax eB (ax i8 (ax iN (pv 0) (tD K (pv 2) ak)) (ax iN (pv 0) (tD K (pv 2) ak))) ak) ak (aH _)))) (λC b s H=>(pv 1))) ai)))),3]
 erw[9,a,U,#[_,SqL.of r],bg (K:=K) (xs:=j) (λi m O=>O=H/\m=(pdL (p.j i) l.1 l.2.1).h V.int) (big3 ∅) #[10] (λi m O _ z=>by rw[z.1];exact SqL.of r) ?_ ?_ ?_]
 .rintro i x m O J ⟨rfl,rfl⟩;let e q eg rfl Y:=JX y J;erw[q,9,SqT.of Y,959894];erw[153,t,_,00,41,SqT.of u,a30,165,(show(0:G)<=(l.1:G) by lia),153,t,_,01,41,SqT.of u,a31,165,(show(0:G)<=(l.2.1:G) by lia),239013]
  dsimp only;rw[xorB,JV eg];erw[38,ite2 (λc=>?_) (λc=>?_)]
  .let k:chN l.1 l.2.1 e.1=1:=by grind
   rw[Rw k,LH];erw[169]
  .rw[Rx (λz=>c (QG (by rw[z];rfl)))]
   erw[10]
 .rintro m O ⟨rfl,rfl⟩ D L;rw[yl,LQ];let aa:=d _ (ah L (.lst ((pdL p l.1 l.2.1).h V.int)));unfold pdN at aa;rw[← C0]at aa;erw[D,9,SqL.of af,aa]
 .rintro i m O ⟨_,rfl⟩;rw[Lp];exact JW _ _ _ _
end KF
namespace L2
theorem len_0{l:E α}(h:l.L=0):l=[]:=NR.mp h
def Bf{l:E α}(h:l.L=n+1):∃ x r,l=x::r/\r.L=n:=by
 cases l with
 |nil=>cases h
 |cons x r=>exact#[x,r,U,OD h]
def Kw{l:E α}(h:l.L=1):∃ a,l=[a]:=by
 let a r rfl e:=Bf h;erw[a,by rw[len_0 e]]
def Kv{l:E α}(h:l.L=2):∃ a b,l=[a,b]:=by
 let a r rfl e:=Bf h;let b rfl:=Kw e;erw[a,b,U]
def len_3{l:E α}(h:l.L=3):∃ a b c,l=[a,b,c]:=by
 let a r rfl e:=Bf h;let b c rfl:=Kv e;erw[a,b,c,U]
def Ku{l:E α}(h:l.L=4):∃ a b c d,l=[a,b,c,d]:=by
 let a r rfl e:=Bf h;let b c d rfl:=len_3 e;erw[a,b,c,d,U]
def len_5{l:E α}(h:l.L=5):∃ a b c d e,l=[a,b,c,d,e]:=by
 let a r rfl z:=Bf h;let b c d e rfl:=Ku z;erw[a,b,c,d,e,U]
def len_6{l:E α}(h:l.L=6):∃ a b c d e f,l=[a,b,c,d,e,f]:=by
 let a r rfl z:=Bf h;let b c d e f rfl:=len_5 z;erw[a,b,c,d,e,f,U]
end L2
namespace K8
theorem sub_le:∀{a b:E R},a.l->(∀ x∈a,x∈b)->a.L<=b.L
 |[],_,_,_=>LU _
 |x::a,b,n,h=>by
  let i N:=LV.mp n;let J:=h x (by simp)
  let L:=sub_le (a:=a) (b:=b.erase x) N λy Q=>(OL (λe:y=x=>i (e▸Q))).mpr (h y (Lr _ Q));grind
def iP{a:E R}(nd:a.l)(h:∀ x∈a,x<N):a.L<=N:=by
 let:=sub_le (b:=LD N) nd λx J=>L5.mpr (h x J);rwa[L7]at this
def Iq(nd:l.l){x:R}(hi:l[i]?=Z x)(I:l[j]?=Z x):i=j:=by
 let p:=ME.mp nd;let Y f:=Ll.mp hi;let O A:=Ll.mp I;obtain z|z|z:=Nat.lt_trichotomy i j
 .exact Ry (f.Q A.Y) (p i j Y O z)
 .exact z
 .exact Ry (A.Q f.Y) (p j i O Y z)
abbrev En:=E (R×R)
structure iI(m:R)(es:En)(ts:mx):Prop where
 len:ts.L=m
 ends:∀ e∈es,e.1<m/\e.2<m/\e.1≠e.2
 nd:∀(p:R)(l:E R),ts[p]?=Z l->l.l
 mem:∀(p:R)(l:E R),ts[p]?=Z l->∀ t,t∈l↔∃ e,es[t]?=Z e/\(e.1=p∨e.2=p)
theorem Fw(m:R):iI m [] (Lz m []) where
 len:=by simp
 ends:=λe h=>by cases h
 nd:=λp l h=>by
  rw[MG]at h;simp!
 mem:=λp l h t=>by
  rw[MG]at h;simp!
def ins(l:E R)(k x:R):E R:=l.j k++x::l.drop k
def DX{k x y:R}:y∈ins l k x↔y=x∨y∈l:=by
 unfold ins;rw[LY,Lw];let:=ND k l;constructor
 .rintro(h|h|h)
  .exact .inr (OJ h)
  .exact .inl h
  .exact .inr (List.mem_of_mem_drop h)
 .rintro(h|h)
  .exact .inr (.inl h)
  .rw[← this]at h;obtain z|z:=LY.mp h
   .exact .inl z
   .exact .inr (.inr z)
def IB{k x:R}(nd:l.l)(h:x∉l):(ins l k x).l:=by
 unfold ins;let e:=ND k l;rw[← e]at nd;let a b c:=Mt.mp nd;refine Mt.mpr #[a,LV.mpr #[λz=>h (List.mem_of_mem_drop z),b],λy Q z d=>?_];obtain q|q:=Lw.mp d
 .intro w;exact h (by rw[← q,← w];exact OJ Q)
 .exact c y Q z q
def iI.put{es:En}{one two k:R}(w:iI m es ts)(Y:one<m)(h2:two<m)(n:one≠two)(e1:ts[one]?=Z l)(A:ts[two]?=Z l'):
  iI m (es++[(one,two)]) ((ts.set one (ins l k es.L)).set two (ins l' j es.L)):=by
 let D:∀{p l},ts[p]?=Z l->es.L∉l:=λ{p l} e z=>by
  let x J _:=(w.mem p l e es.L).mp z;simp!
 let get:∀ p q,((ts.set one (ins l k es.L)).set two (ins l' j es.L))[p]?=Z q->(p=two/\q=ins l' j es.L)∨(p=one/\p≠two/\q=ins l k es.L)∨(p≠one/\p≠two/\ts[p]?=Z q):=λp q e=>by
  let L:two<(ts.set one (ins l k es.L)).L:=by rw[Nn,w.len];exact h2
  let b:one<ts.L:=by rw[w.len];exact Y
  rw[NY]at e;by_cases z:two=p
  .rw[Rw z,Rw L]at e;exact .inl #[z.Y,(L3 e).Y]
  .rw[Rx z,NY]at e;by_cases y:one=p
   .simp!
   .rw[Rx y]at e;exact .inr (.inr #[Ne.Y y,Ne.Y z,e])
 let a:∀ t x,(es++[(one,two)])[t]?=Z x↔(es[t]?=Z x)∨(t=es.L/\x=(one,two)):=λt x=>by
  by_cases z:t<es.L
  .rw[Lu z];constructor
   .exact .inl
   .lia
  .rw[Lq ∅]
   constructor
   .intro y;grind
   .grind
 erw[by rw[Nn,Nn];exact w.len,λe eg=>?_,λp q e=>?_,λp q e t=>?_]
 .obtain z|z:=LY.mp eg
  .exact w.ends e z
  .simp!
 .rcases get p q e with⟨_,rfl⟩|⟨_,_,rfl⟩|⟨_,_,y⟩
  .exact IB (w.nd two l' A) (D A)
  .exact IB (w.nd one l e1) (D e1)
  .exact w.nd p q y
 .rcases get p q e with⟨rfl,rfl⟩|⟨rfl,ef,rfl⟩|⟨i,N,y⟩
  .rw[DX,w.mem p l' A t];constructor
   .rintro(z|⟨x,J,T⟩)
    .erw[(one,p),(a _ _).mpr (.inr #[z,U]),.inr U]
    .erw[x,(a _ _).mpr (.inl J),T]
   .rintro⟨x,J,T⟩;rcases(a _ _).mp J with z|⟨z,_⟩
    .exact .inr #[x,z,T]
    .exact .inl z
  .rw[DX,w.mem p l e1 t];constructor
   .rintro(z|⟨x,J,T⟩)
    .erw[(p,two),(a _ _).mpr (.inr #[z,U]),.inl U]
    .erw[x,(a _ _).mpr (.inl J),T]
   .rintro⟨x,J,T⟩;rcases(a _ _).mp J with z|⟨z,_⟩
    .exact .inr #[x,z,T]
    .exact .inl z
  .rw[w.mem p q y t];constructor
   .rintro⟨x,J,T⟩;erw[x,(a _ _).mpr (.inl J),T]
   .rintro⟨x,J,T⟩;rcases(a _ _).mp J with z|⟨z,rfl⟩
    .erw[x,z,T]
    .obtain T|T:=T
     .exact Ry T.Y i
     .exact Ry T.Y N
def hd(es:En)(d:R):R:=match es[d/2]? with|some e=>if d%2=0 then e.2 else e.1|none=>0
def tl(es:En)(d:R):R:=match es[d/2]? with|some e=>if d%2=0 then e.1 else e.2|none=>0
def leave(es:En)(t p:R):R:=match es[t]? with|some e=>if e.1=p then 2*t else 2*t+1|none=>0
def nxt(l:E R)(t:R):R:=(l[(l.idxOf t+1)%l.L]?).f 0
def fol(es:En)(ts:mx)(d:R):R:=leave es (nxt ((ts[hd es d]?).f []) (d/2)) (hd es d)
section
variable{m:R}{es:En}{ts:E (E R)}
def ud{t:R}(h:t∈l):l[l.idxOf t]?=Z t:=by
 let C:=Np.mpr h;simp[*]
def pP{t:R}(h:t∈l):l[(l.idxOf t+1)%l.L]?=Z (nxt l t):=by
 let C:0<l.L:=Nx h;let:=Nat.mod_lt (l.idxOf t+1) C;unfold nxt;simp[*]
def iI.at(w:iI m es ts){d:R}(h:d<2*es.L):∃ e l,es[d/2]?=Z e/\hd es d=(if d%2=0 then e.2 else e.1)/\tl es d=(if d%2=0 then e.1 else e.2)/\hd es d<m/\ts[hd es d]?=Z l/\d/2∈l:=by
 let C:d/2<es.L:=by lia
 let f:es[d/2]?=Z es[d/2]:=Lj C;let q:=w.ends _ (Lm f);generalize es[d/2]=e at f q;let Y:hd es d=(if d%2=0 then e.2 else e.1):=by unfold hd;rw[f]
 let O:tl es d=(if d%2=0 then e.1 else e.2):=by unfold tl;rw[f]
 let ef:hd es d<m:=by lia
 let g:ts[hd es d]?=Z (ts[hd es d]'(by rw[w.len];exact ef)):=Lj _
 erw[e,_,f,Y,O,ef,g,(w.mem _ _ g _).mpr #[e,f,3]];rw[Y];split
 .exact .inr U
 .exact .inl U
def iI.foll(w:iI m es ts){d:R}(h:d<2*es.L):∃ l e,ts[hd es d]?=Z l/\d/2∈l/\es[nxt l (d/2)]?=Z e/\(e.1=hd es d∨e.2=hd es d)/\e.1≠e.2/\fol es ts d=(if e.1=hd es d then 2*nxt l (d/2) else 2*nxt l (d/2)+1)/\fol es ts d<2*es.L/\fol es ts d/2=nxt l (d/2)/\tl es (fol es ts d)=hd es d:=by
 let D l Y O ef g I s:=w.at h;let y:=pP s;let e eg T:=(w.mem _ _ I _).mp (Lm y);let j:=(Ll.mp eg).1;let i:=(w.ends e (Lm eg)).2.2;let A:fol es ts d=(if e.1=hd es d then 2*nxt l (d/2) else 2*nxt l (d/2)+1):=by
  unfold fol;rw[I];show leave es (nxt l (d/2)) (hd es d)=_;unfold leave;rw[eg]
 erw[l,e,I,s,eg,T,i,A,63]
 .grind
 .lia
 .rw[A];by_cases z:e.1=hd es d
  .let J:2*nxt l (d/2)/2=nxt l (d/2):=by lia
   let n:2*nxt l (d/2)%2=0:=by lia
   rw[Rw z];unfold tl;simp!
  .let J:(2*nxt l (d/2)+1)/2=nxt l (d/2):=by lia
   let n:¬ (2*nxt l (d/2)+1)%2=0:=by lia
   rw[Rx z];unfold tl;rw[J,eg];lia
def iI.inj(w:iI m es ts){a b:R}(o:a<2*es.L)(M:b<2*es.L)(h:fol es ts a=fol es ts b):a=b:=by
 let l e I v _ _ _ _ _ z C:=w.foll o;let D Y ef p _ _ _ _ _ t O:=w.foll M;let L:hd es a=hd es b:=by rw[← C,← O,h]
 rw[L,ef]at I
 cases I
 let J:nxt l (a/2)=nxt l (b/2):=by rw[← z,← t,h]
 let N:=pP v;let q:=pP p;rw[J]at N;let i:=Iq (w.nd _ _ ef) N q;let d:=Np.mpr v;let c:=Np.mpr p;let eg:l.idxOf (a/2)=l.idxOf (b/2):=by
  generalize l.idxOf (a/2)=x at *;generalize l.idxOf (b/2)=y at *;by_cases H:x+1=l.L
  .by_cases Q:y+1=l.L
   .lia
   .rw[H,Oi,MO ∅]at i;lia
  .by_cases Q:y+1=l.L
   .rw[Q,Oi,MO ∅]at i;lia
   .rw[MO ∅,MO ∅]at i;lia
 let u:a/2=b/2:=by
  let j:=ud v;let B:=ud p;rw[eg,B]at j;exact(L3 j).Y
 let f _ g T _ _ _ _:=w.at o;let A _ r k _ _ _ _:=w.at M;rw[u,r]at g;let s:A=f:=L3 g;rw[s]at r k;let n:=(w.ends f (Lm r)).2.2;rw[T,k]at L;lia
end
structure Fi(f:R->R)(N:R):Prop where
 lt:∀ d,d<N->f d<N
 inj:∀ a b,a<N->b<N->f a=f b->a=b
structure Path(f:R->R)(N first:R)(r:E R):Prop where
 hd:r[0]?=Z first
 lt:∀ d∈r,d<N
 nd:r.l
 nx:∀ i x y,r[i]?=Z x->r[i+1]?=Z y->y=f x
theorem FZ{f:R->R}{d:R}(h:d<N):Path f N d [d] where
 hd:=rfl
 lt:=λx J=>by simp!
 nd:=by simp
 nx:=λi x y Y O=>by
  contradiction
theorem Path.snoc{f:R->R}{d x:R}{r:E R}(p:Fi f N)(h:Path f N d (r++[x]))(l:f x≠d):Path f N d (r++[x]++[f x]) where
 hd:=by rw[Lu (by simp)];exact h.hd
 lt:=λy Q=>by
  obtain z|z:=LY.mp Q
  .exact h.lt y z
  .let:y=f x:=by simpa using z
   rw[this];exact p.lt x (h.lt x (by simp))
 nd:=by
  refine Mt.mpr #[h.nd,by simp,λa o b M e=>?_]
  let t:b=f x:=by simpa using M
  subst t;let i B:=MR.mp o;rw[e]at B;let c:=(Ll.mp B).1;rw[Ls,LZ]at c
  cases i with
  |zero =>
   rw[h.hd]at B;exact l (L3 B).Y
  |succ i =>
   let g:(r++[x])[i]?=Z ((r++[x])[i]'(by grind)):=Lj _
   let:=h.nx i _ _ g B;let k:=h.lt _ (Lm g);let m:=h.lt x (by simp)
   let A:=p.inj _ _ m k this;rw[← A]at g;let u:(r++[x])[r.L]?=Z x:=by rw[Lq (Lo _),Mb];rfl
   let:=Iq h.nd g u;lia
 nx:=λi a b Y O=>by
  let j:=(Ll.mp O).1;rw[Ls,Ls,LZ,LZ]at j;rw[Lu (by simp!)]at Y
  by_cases z:i+1<(r++[x]).L
  .rw[Lu z]at O;exact h.nx i a b Y O
  .rw[Ls,LZ]at z;let q:i=r.L:=by lia
   simp!
structure Ring(f:R->R)(N:R)(r:E R):Prop where
 lt:∀ d∈r,d<N
 nd:r.l
 ne:0<r.L
 nx:∀ i x,r[i]?=Z x->r[(i+1)%r.L]?=Z (f x)
theorem Path.ring{f:R->R}{d x:R}{r:E R}(p:Fi f N)(h:Path f N d (r++[x]))(eg:f x=d):Ring f N (r++[x]) where
 lt:=h.lt
 nd:=h.nd
 ne:=by simp
 nx:=λi y Q=>by
  let C:=(Ll.mp Q).1;by_cases z:i+1=(r++[x]).L
  .rw[z,Oi];let:i=r.L:=by simp!
   subst this;rw[Lq (Lo _),Mb]at Q;let:x=y:=L3 Q;subst this;rw[eg];exact h.hd
  .let t:i+1<(r++[x]).L:=by lia
   rw[MO t];let g:=Lj t;rw[g,h.nx i _ _ Q g]
def Ring.back{f:R->R}{a:R}{r:E R}(p:Fi f N)(h:Ring f N r)(o:a<N)(A:f a∈r):a∈r:=by
 let i B:=MR.mp A;let C:=(Ll.mp B).1;let d:∃ j,j<r.L/\(j+1)%r.L=i:=by
  cases i with
  |zero=>exact#[r.L-1,4,by let:=h.ne;rw[show r.L-1+1=r.L by lia,Oi]]
  |succ i=>exact#[i,4,MO C]
 let j I O:=d;let g:=Lj I;let q:=h.nx j _ g;rw[O,B]at q;let b:=h.lt _ (Lm g);let:=p.inj _ _ o b (L3 q);simp[*]
structure cE(f:R->R)(N i:R)(rs:mx):Prop where
 ring:∀ r∈rs,Ring f N r
 hdl:∀ r∈rs,∀ h,r[0]?=Z h->h<i/\∀ d∈r,h<=d
 asc:∀(a b:R)(r r':E R)(h h':R),a<b->rs[a]?=Z r->rs[b]?=Z r'->r[0]?=Z h->r'[0]?=Z h'->h<h'
 nd:rs.flatten.l
 all:∀ d,d<i->d∈rs.flatten
theorem A3(f:R->R)(N:R):cE f N 0 [] where
 ring:=λr h=>by cases h
 hdl:=λr h=>by cases h
 asc:=λa b r v h eg _ e=>by cases e
 nd:=by simp
 all:=λd h=>by lia
theorem cE.skip{f:R->R}(w:cE f N i rs)(h:i∈rs.flatten):cE f N (i+1) rs where
 ring:=w.ring
 hdl:=λr eg x J=>#[by let:=(w.hdl r eg x J).1;lia,(w.hdl r eg x J).2]
 asc:=w.asc
 nd:=w.nd
 all:=λd hd=>by
  by_cases z:d=i
  .rw[z];exact h
  .exact w.all d ∅
def cE.put{f:R->R}{r:E R}(p:Fi f N)(w:cE f N i rs)(h:i∉rs.flatten)(hi:i<N)(eg:Ring f N r)(c:Path f N i r):cE f N (i+1) (rs++[r]):=by
 let j:∀(k x:R),r[k]?=Z x->x∉rs.flatten:=λk=>by
  induction k with
  |zero =>
   intro x J;rw[c.hd]at J;grind
  |succ k L =>
   intro x J z;let C:=(Ll.mp J).1;let g:=Lj (show k<r.L by lia)
   let e:=c.nx k _ _ g J;let q Y u:=MC.mp z;rw[e]at u;exact L _ g (MC.mpr #[q,Y,(w.ring q Y).back p (eg.lt _ (Lm g)) u])
 let GH:∀ d∈r,i<=d:=λd hd=>by
  let k D:=MR.mp hd;by_cases z:i<=d
  .exact z
  .exact Ry (w.all d ∅) (j k d D)
 erw[λq Y=>?_,λq Y x J=>?_,λa b q v x m n o M J l=>?_,3,λd hd=>?_]
 .obtain z|z:=LY.mp Y
  .exact w.ring q z
  .let:q=r:=by simpa using z
   rw[this];exact eg
 .obtain z|z:=LY.mp Y
  .let:=w.hdl q z x J
   grind
  .let e:q=r:=by simpa using z
   subst e;rw[c.hd]at J;simp!
 .let bl:=(Ll.mp M).1
  rw[Ls,LZ]at bl;rw[Lu ∅]at o
  by_cases z:b<rs.L
  .rw[Lu z]at M;exact w.asc a b q v x m n o M J l
  .let t:b=rs.L:=by lia
   subst t;rw[Lq (Lo _),Mb]at M;let e:r=v:=L3 M;subst e;rw[c.hd]at l
   cases l
   exact(w.hdl q (Lm o) x J).1
 .rw[NO];let e : [r].flatten=r:=by simp
  rw[e];refine Mt.mpr #[w.nd,eg.nd,λa o b M e=>?_];let k D:=MR.mp M;exact j k b D (e▸o)
 .rw[NO,LY];by_cases z:d=i
  .right;rw[z];simp;exact Lm c.hd
  .exact .inl (w.all d ∅)
def jC(nd:rs.flatten.l){a b:R}{r r':E R}{d:R}(o:rs[a]?=Z r)(M:rs[b]?=Z r')(Y:d∈r)(h2:d∈r'):a=b:=by
 induction rs generalizing a b with
 |nil=>cases o
 |cons q rs L =>
  rw[Ot]at nd;let _ N Q:=Mt.mp nd
  cases a with
  |zero =>
   cases b with
   |zero=>rfl
   |succ b =>
    let e:q=r:=L3 o;subst e;exact Ry U (Q d Y d (MC.mpr #[r',Lm M,h2]))
  |succ a =>
   cases b with
   |zero =>
    let e:q=r':=L3 M;subst e;exact Ry U (Q d h2 d (MC.mpr #[r,Lm o,Y]))
   |succ b=>exact congrArg Nat.succ (L N o M)
def chain(f:R->R):R->E R->R->Prop
 |x,[],z=>f x=z
 |x,y::l,z=>f x=y/\chain f y l z
theorem lF{f:R->R}:∀{x:R}{l:E R}{y:R}{k:E R}{z:R},chain f x (l++y::k) z↔chain f x l y/\chain f y k z
 |x,[],y,k,z=>Iff.rfl
 |x,a::l,y,k,z=>by
  show(f x=a/\chain f a (l++y::k) z)↔(f x=a/\chain f a l y)/\chain f y k z;rw[lF,and_assoc]
theorem qB{f:R->R}{S:R->Prop}:∀{x:R}{l:E R}{z:R},chain f x l z->(∀ t∈x::l,S t->S (f t))->S x->S z/\∀ t∈l,S t
 |x,[],z,h,k,s=>#[by let:=k x (Lv ..) s;rwa[show f x=z from h]at this,λt u=>nomatch u]
 |x,a::l,z,h,k,s=>by
  let m:S a:=by let:=k x (Lv ..) s;rwa[h.1]at this
  let Y O:=qB h.2 (λt u=>k t (Lr _ u)) m;simp!
structure CR(f:R->R)(N:R)(r:E R):Prop where
 ch:∃ x l,r=x::l/\chain f x l x
 lt:∀ d∈r,d<N
 nd:r.l
def CR.closed{f:R->R}{r:E R}(h:CR f N r):∀ d∈r,f d∈r:=by
 let x l rfl c:=h.ch;intro d hd;obtain y|y:=Lw.mp hd
 .subst y
  cases l with
  |nil=>rw[show f d=d from c];lia
  |cons a l=>rw[c.1];simp
 .let A B rfl:=List.append_of_mem y;let c2:=(lF.mp c).2
  cases B with
  |nil=>rw[show f d=x from c2];exact Lv ..
  |cons a B=>rw[c2.1];simp
def CR.sub{f:R->R}{r:E R}{S:R->Prop}(h:CR f N r)(k:∀ t∈r,S t->S (f t)){d:R}(hd:d∈r)(s:S d):∀ t∈r,S t:=by
 let x l rfl c:=h.ch;let a:S x->∀ t∈x::l,S t:=λb t u=>by
  obtain y|y:=Lw.mp u
  .rw[y];exact b
  .exact(qB c k b).2 t y
 obtain y|y:=Lw.mp hd
 .exact a (y▸s)
 .let A B rfl:=List.append_of_mem y;let c2:=(lF.mp c).2;exact a (qB c2 (λt u=>k t (by simp[*])) s).1
theorem CR.same{f:R->R}{r r':E R}(h:CR f N r)(h':CR f N r'){d:R}(Y:d∈r)(h2:d∈r'):∀ t∈r,t∈r':=h.sub (S:=λt=>t∈r') (λt _=>h'.closed t) Y h2
def CR.ne{f:R->R}{r:E R}(h:CR f N r):∃ d,d∈r:=by
 let x l rfl _:=h.ch;erw[x,Lv ..]
structure Part(f:R->R)(N:R)(rs:mx):Prop where
 cr:∀ r∈rs,CR f N r
 nd:rs.flatten.l
 all:∀ d,d<N->d∈rs.flatten
def Part.same:∀{rs qs:mx}{f:R->R}{N:R},Part f N rs->Part f N qs->rs.L=qs.L:=by
 let s:∀(k:R){rs qs:mx}{f:R->R}{N:R},Part f N rs->Part f N qs->rs.L<=qs.L:=by
  intro _ rs qs f N p q;let g:∀ r∈rs,∃ i,i<qs.L/\∃ v,qs[i]?=Z v/\∀ t∈v,t∈r:=λr eg=>by
   let c:=p.cr r eg;let d hd:=c.ne;let v Q J:=MC.mp (q.all d (c.lt d hd));let i B:=MR.mp Q;erw[i,(Ll.mp B).1,v,B,(q.cr v Q).same c J hd]
  let:∀(l:mx),(∀ r∈l,r∈rs)->l.flatten.l->∃ is:E R,is.L=l.L/\is.l/\∀ i∈is,i<qs.L/\∃ r∈l,∃ v,qs[i]?=Z v/\∀ t∈v,t∈r:=λl=>by
   induction l with
   |nil=>intro _ _;erw[[],U,Na,λi B=>nomatch B]
   |cons r l L =>
    intro h n;rw[Ot]at n;let a b m:=Mt.mp n;let is u A w:=L (λr eg=>h r (Lr _ eg)) b;let i Y v O ef:=g r (h r (Lv ..));erw[i::is,by simp[u],LV.mpr #[λz=>?_,A],λj I=>?_]
    .let _ T J e o x:=w i z;rw[O]at o
     cases o
     let d hd:=(q.cr v (Lm O)).ne;exact m d (ef d hd) d (MC.mpr #[T,J,x d hd]) U
    .obtain z|z:=Lw.mp I
     .subst z;erw[Y,r,Lv ..,v,O,ef]
     .let D T y C:=w j z;erw[D,T,Lr _ y,C]
  let is u A w:=this rs (λ_ h=>h) p.nd;rw[← u];exact iP A λi B=>(w i B).1
 intro rs qs f N p q;exact Nat.le_antisymm (s 0 p q) (s 0 q p)
def Ring.cr{f:R->R}{r:E R}(h:Ring f N r):CR f N r:=by
 erw[3,h.lt,h.nd];let ne:=h.ne;match r,h,ne with
 |x::l,h,_ =>
  erw[x,l,14];let d:∀(k i:R)(y:R),i+k+1=(x::l).L->(x::l)[i]?=Z y->chain f y ((x::l).drop (i+1)) x:=λk=>by
   induction k with
   |zero =>
    intro i y B Q;let e:=h.nx i y Q;rw[show(i+1)%(x::l).L=0 by simp[*]]at e
    rw[List.drop_of_length_le ∅]
    exact(L3 e).Y
   |succ k L =>
    intro i y B Q;let e:=h.nx i y Q;rw[MO ∅]at e
    let C A:=Ll.mp e;rw[List.drop_eq_getElem_cons C,A];erw[U,L (i+1) (f y) ∅ e]
  exact d l.L 0 x (by simp) U
theorem cE.part{f:R->R}(w:cE f N N rs):Part f N rs:=#[λr eg=>(w.ring r eg).cr,w.nd,w.all]
def DZ{A B:E R}{t:R}(h:t∉A):(A++t::B).idxOf t=A.L:=by
 rw[List.idxOf_append,Rx h,List.idxOf_cons_self,Of]
def mD{A B:E R}{t:R}(h:t∉A):nxt (A++t::B) t=((B++(A++t::B)).head?).f 0:=by
 unfold nxt;rw[DZ h]
 cases B with
 |nil =>
  let e:(A.L+1)%(A++[t]).L=0:=by simp
  rw[e,List.nil_append,List.head?_eq_getElem?]
 |cons b B =>
  let e:(A.L+1)%(A++t::b::B).L=A.L+1:=MO (by simp)
  simp!
def zW{u:R}(h:u∈l):∃ A B,l=A++u::B/\u∉A:=by
 induction l with
 |nil=>exact nomatch h
 |cons a l L =>
  by_cases z:a=u
  .subst z;erw[[],l,U,Mr]
  .obtain y|y:=Lw.mp h
   .exact Ry y.Y z
   .let A B rfl k:=L y;erw[a::A,B,U,λw=>by simp!]
def Ec{es:En}{d:R}(h:ts[hd es d]?=Z l):fol es ts d=leave es (nxt l (d/2)) (hd es d):=by
 unfold fol;rw[h];rfl
def par(S:R->im):E R->im
 |[]=>j5
 |d::l=>S (d/2) ^^ par S l
theorem aV(S:R->im)(d:R)(l:E R):par S (d::l)=(S (d/2) ^^ par S l):=rfl
theorem C4(S:R->im):∀ a b:E R,par S (a++b)=(par S a ^^ par S b)
 |[],b=>by show par S b=(j5 ^^ par S b);simp!
 |x::a,b=>by rw[Pe,aV,aV,C4 S a b,Om]
def Ao(S:R->im){a b:E R}(p:a.Perm b):par S a=par S b:=by
 induction p with
 |nil=>rfl
 |cons x _ L=>rw[aV,aV,L]
 |swap x y l=>rw[aV,aV,aV,aV,← Om,← Om,NK (S (y/2))]
 |trans _ _ a b=>exact a.Q b
def Fl(es:En)(S j:R->im):Prop:=∀(t:R)(e:R×R),es[t]?=Z e->S t=(j e.1 ^^ j e.2)
def AN{es:En}{S:R->im}(h:Fl es S J){d:R}(O:d<2*es.L):S (d/2)=(J (tl es d) ^^ J (hd es d)):=by
 let f:es[d/2]?=Z (es[d/2]'∅):=Lj _
 rw[h _ _ f];unfold tl hd;rw[f];show _=(J (if d%2=0 then es[d/2].1 else es[d/2].2) ^^ J (if d%2=0 then es[d/2].2 else es[d/2].1));split
 .rfl
 .exact NK _ _
theorem AM{m:R}{es:En}{ts:mx}{S j:R->im}(w:iI m es ts)(h:Fl es S j):∀{x:R}{l:E R}{z:R},chain (fol es ts) x l z->x<2*es.L->(∀ t∈l,t<2*es.L)->z<2*es.L->par S (l++[z])=(j (hd es x) ^^ j (hd es z))
 |x,[],z,c,J,_,d=>by
  let _ _ _ _ _ _ _ _ _ _ k:=w.foll J;let B:fol es ts x=z:=c;rw[List.nil_append,aV,AN h d,← B,k];exact Ml _
 |x,a::l,z,c,J,C,d=>by
  let _ _ _ _ _ _ _ _ _ _ k:=w.foll J;let o:=C a (Lv ..);rw[Pe,aV,AM w h c.2 o (λt u=>C t (Lr _ u)) d,AN h o,← c.1,k];simp
structure Gr(m:R)(es:En)(ts:mx):Prop where
 w:iI m es ts
 part:∃ rs,Part (fol es ts) (2*es.L) rs/\m+rs.L=es.L+2
 conn:∀ S:R->Prop,(∀ e∈es,S e.1↔S e.2)->∀ p q,p<m->q<m->S p->S q
 cut:∀ S:R->im,(∀ r,CR (fol es ts) (2*es.L) r->par S r=j5)->∃ Pl:R->im,Fl es S Pl
def Dn{X Y:E R}{t:R}(nd:(X++Y).l)(u:t∈X++Y):nxt (Y++X) t=nxt (X++Y) t:=by
 let i N Q:=Mt.mp nd;obtain z|z:=LY.mp u
 .let a:t∉Y:=λy=>Q t z t y U
  let A B rfl k:=zW z;let f:Y++(A++t::B)=(Y++A)++t::B:=by simp
  let J:(A++t::B)++Y=A++t::(B++Y):=by simp
  rw[f,J,mD (by simp[a,k]),mD k]
  cases B<;>cases Y<;>cases A<;>rfl
 .let b:t∉X:=λy=>Q t y t z U
  let A B rfl k:=zW z;let f:(A++t::B)++X=A++t::(B++X):=by simp
  let J:X++(A++t::B)=(X++A)++t::B:=by simp
  rw[f,J,mD k,mD (by simp[b,k])]
  cases B<;>cases X<;>cases A<;>rfl
section
variable{m:R}{es es2:En}{ts ts2:E (E R)}{π σ:R->R}
def Iu(w:iI m es ts){p:R}(h:ts[p]?=Z l){t:R}(u:t∈l):t<es.L:=by
 let x J _:=(w.mem p l h t).mp u;exact(Ll.mp J).1
end
end K8
variable{es:K8.En}
namespace K8
open PySem L2
def top(i:R):fo:=PySem.Challenge.pw_spinfloor_k76_fans_just_rough_enough.main.body.getD i (.Pass #[00,00,00,00])
abbrev l4:fo:=top 16
abbrev lZ:fo:=top 18
abbrev sM:fo:=top 37
abbrev sN:fo:=top 38
abbrev i4:fo:=top 39
abbrev gR:fo:=top 40
abbrev kN:fo:=top 41
abbrev gZ:fo:=top 43
abbrev ng:fo:=top 45
abbrev nu:fo:=top 46
abbrev jW:fo:=top 47
abbrev kL:fo:=top 48
abbrev ni:fo:=top 54
abbrev nh:fo:=top 57
abbrev xV:fo:=top 58
abbrev iY:fo:=top 60
abbrev gY:fo:=top 61
abbrev fy:fo:=top 62
abbrev gj:fo:=top 63
abbrev m8:fo:=top 64
abbrev fz:fo:=top 65
abbrev m7:fo:=top 66
abbrev i5:fo:=top 67
abbrev gf:fo:=top 68
abbrev kQ:fo:=top 69
abbrev i7:fo:=top 70
abbrev di:fo:=top 71
abbrev cO:fo:=nF (top 73) 0
abbrev eZ:fo:=nF (top 73) 1
abbrev bO:fo:=nF (top 73) 2
abbrev cN:fo:=nF (top 73) 5
abbrev dj:fo:=nF (top 75) 0
abbrev CD:fo:=top 77
abbrev pG:fo:=top 78
abbrev nz:fo:=top 79
abbrev iZ:fo:=top 80
abbrev kM:fo:=top 81
abbrev m9:fo:=top 82
abbrev gU:fo:=top 84
abbrev gh:fo:=top 85
abbrev fx:fo:=top 86
abbrev cM:fo:=nF (top 87) 0
abbrev nj:fo:=top 89
abbrev kP:fo:=top 90
abbrev pH:fo:=top 91
abbrev sO:fo:=top 92
def tf(a b s:G):E (ff×V):=putF "strength" (.int s) (putF "two" (.int b) (putF "one" (.int a) []))
def dN(a b s:G):(tf a b s).Z ("one" : ff)=Z (.int a):=by
 rfl
def fj(a b s:G):(tf a b s).Z ("two" : ff)=Z (.int b):=by
 rfl
def HG(a b s:G):(tf a b s).Z ("strength" : ff)=Z (.int s):=by
 rfl
def rQ(a b s:G){m:ff}(Y:¬ m = "strength")(h2:¬ m = "two")(ef:¬ m = "one"):(tf a b s).Z m=kf:=by
 unfold tf;rw[aM,Rx Y,aM,Rx h2,aM,Rx ef];simp!
def f1_len(a:G):(putF "one" (.int a) []).L<1000:=by show 1<1000;decide
def f2_len(a b:G):(putF "two" (.int b) (putF "one" (.int a) [])).L<1000:=by
 let e:(putF "two" (.int b) (putF "one" (.int a) []):E (ff×V))=([("one",.int a),("two",.int b)]:E (ff×V)):=by rfl
 rw[e];show 2<1000;decide
structure CT(K:Ln)(C:eN):Prop where
 cl:Cls K C
 n1:fY K C "one"
 n2:fY K C "two"
 n3:fY K C "strength"
inductive qZ(K:Ln)
 |mk (p C dx:eN)(a b s:G) (_:vs=[.ref p,.int a,.int b,.int s])(_:H p=Z (.ins C dx []))(_:CT K C)(_:a≠b)(_:0<=a)(_:0<=b)(_:0<=s)(_:∀ H',H' p=Z (.ins C dx (tf a b s))->(∀ q o,H q=Z o->q≠p->H' q=Z o)->Q .non H')
theorem ah(h:H p=kf)(o:HO):Same H (upd H p o):=λb u q=>by rw[ao (aB q h)];exact q
theorem aC{l:eN}(h:Same H H2)(hl:H l=kf)(o:HO):Same H (upd H2 l o):=λb u q=>by rw[ao (aB q hl)];exact h b u q
def iV(p:R):V:=.int (p:G)
theorem iV_at{hs:E R}{k x:R}(h:hs[k]?=Z x):atI (hs.h iV) (k:G)=Z (iV x):=aE (by rw[Lx,h];rfl)
def qK(H:Hp)(ys:E V)(es:En):Prop:=ys.L=es.L/\∀(i:R)(e:R×R),es[i]?=Z e->∃ p,ys[i]?=Z (.ref p)/\H p=Z (.tup [iV e.1,iV e.2])
theorem qK.mono(h:qK H ys es)(s:mo):qK H' ys es:=#[h.1,λi e q=>by
 let p a b:=h.2 i e q
 erw[p,a,s _ _ b]]
def eF(K:Ln)(H:Hp)(xs:E V)(es:En):Prop:=xs.L=es.L/\∀(i:R)(e:R×R),es[i]?=Z e->∃ p C j s,xs[i]?=Z (.ref p)/\H p=Z (.ins C j (tf (e.1:G) (e.2:G) s))/\CT K C
theorem eF.mono(t:eF K H xs es)(h:mo):eF K H' xs es:=#[t.1,λi e q=>by
 let p C j s a b d:=t.2 i e q
 erw[p,C,j,s,a,h _ _ b,d]]
def cj(H:Hp)(xs:E V)(ts:mx):Prop:=xs.L=ts.L/\∀(i:R)(l:E R),ts[i]?=Z l->∃ p,xs[i]?=Z (.ref p)/\H p=Z (.lst (l.h iV))
theorem cj.mono(h:cj H xs ts)(s:mo):cj H' xs ts:=#[h.1,λi e q=>by
 let p a b:=h.2 i e q
 erw[p,a,s _ _ b]]
def cj.snoc(h:cj H xs ts)(e:H q=Z (.lst (l.h iV))):cj H (xs++[.ref q]) (ts++[l]):=by
 erw[by rw[Ls,Ls,h.1];rfl,λj k O=>?_]
 by_cases I:j<ts.L
 .rw[Lu I]at O;let p T n:=h.2 j k O;erw[p,by rw[Lu (by rw[h.1];exact I)];exact T,n]
 .rw[Lq ∅]at O
  let b:j=ts.L:=by
   let:=(Ll.mp O).1;rw[LZ]at this;lia
  subst b;rw[Mb]at O
  cases O
  erw[q,by rw[← h.1,Lq (Lo _),Mb];rfl,e]
def bV(S:eN->Prop)(H:Hp)(xs:E V)(ts:mx):Prop:=xs.L=ts.L/\∀(i:R)(l:E R),ts[i]?=Z l->∃ p,xs[i]?=Z (.ref p)/\(¬ S p/\H p=Z (.lst (l.h iV)))
theorem bV.mono{S:eN->Prop}(h:bV S H xs ts)(s:∀ b u,¬ S b->H b=Z u->H' b=Z u):bV S H' xs ts:=#[h.1,λi e q=>by
 let p a n b:=h.2 i e q
 erw[p,a,n,s _ _ n b]]
theorem bV.off{S:eN->Prop}(h:bV S H xs ts):cj H xs ts:=#[h.1,λi e q=>by
 let p a n b:=h.2 i e q
 erw[p,a,b]]
def bV.snoc{S:eN->Prop}(h:bV S H xs ts)(n:¬ S q)(e:H q=Z (.lst (l.h iV))):bV S H (xs++[.ref q]) (ts++[l]):=by
 erw[by rw[Ls,Ls,h.1];rfl,λj k O=>?_]
 by_cases I:j<ts.L
 .rw[Lu I]at O;let p T L:=h.2 j k O;erw[p,by rw[Lu (by rw[h.1];exact I)];exact T,L]
 .rw[Lq ∅]at O
  let b:j=ts.L:=by
   let:=(Ll.mp O).1;rw[LZ]at this;lia
  subst b;rw[Mb]at O
  cases O
  erw[q,by rw[← h.1,Lq (Lo _),Mb];rfl,n,e]
theorem uo{f:R->R}(w:cE f N i rs):rs.flatten.L<=N:=iP w.nd λx J=>by
 let r Y O:=MC.mp J;exact(w.ring r Y).lt x O
def Ag{f:R->R}(w:cE f N i rs):rs.L<=N:=by
 let h:∀(l:mx),(∀ r∈l,0<r.L)->l.L<=l.flatten.L:=λl=>by
  induction l with
  |nil=>intro _;exact Lo _
  |cons a l L =>
   intro h;rw[Ot,Ls,My];let Y:=h a (Lv ..);let O:=L λr eg=>h r (Lr _ eg);lia
 exact Mi (h rs λr eg=>(w.ring r eg).ne) (uo w)
structure TT(K:Ln)(H:Hp)(a b:eN)(m:R)(es:En)(ts:mx):Prop where
 xs:∃ xs,nv a xs/\eF K H xs es
 ys:∃ ys,nv b ys/\cj H ys ts
 w:iI m es ts
 few:es.L<=62
def TT.mono{K:Ln}{H H':Hp}{a b:eN}{m:R}{es:En}{ts:mx}(t:TT K H a b m es ts)(s:mo):TT K H' a b m es ts:=by
 let{D Y O}{j ef g}w f:=t;erw[#[D,s.seq Y,O.mono s],#[j,s.seq ef,g.mono s],w,f]
def AX(w:iI m es ts)(f:es.L<=62){p:R}(h:ts[p]?=Z l):(∀ t∈l,t<62)/\l.L<=62:=by
 let a:∀ t∈l,t<es.L:=λt u=>by
  let e eg _:=(w.mem p l h t).mp u;exact(Ll.mp eg).1
 erw[λt u=>by let:=a t u;lia,Mi (iP (w.nd p l h) a) f]
theorem perm(w:iI m es ts):Fi (fol es ts) (2*es.L):=#[λd h=>by
 let _ _ _ _ _ _ _ _ z _:=w.foll h
 exact z,λa b o M h=>w.inj o M h]
inductive HW(K:Ln)
 |mk (a:eN)(xs:E V)(es:En)(d:R) (_:vs=[.ref a,.int (d:G)])(_:nv a xs)(_:eF K H xs es)(_:d<2*es.L)(_:Q (iV (hd es d)) H)
inductive HU(K:Ln)
 |mk (a:eN)(xs:E V)(es:En)(t p:R)(e:R×R) (_:vs=[.ref a,.int (t:G),.int (p:G)])(_:nv a xs)(_:eF K H xs es)(_:es[t]?=Z e)(_:Q (iV (if e.1=p then 2*t else 2*t+1)) H)
inductive spFol(K:Ln)
 |mk (a b:eN)(m:R)(es:En)(ts:mx)(d:R) (_:vs=[.ref a,.ref b,.int (d:G)])(_:TT K H a b m es ts)(_:d<2*es.L)(_:Q (iV (fol es ts d)) H)
inductive HY(K:Ln)
 |mk (a b:eN)(m:R)(es:En)(ts:mx)(d:R) (_:vs=[.ref a,.ref b,.int (d:G)])(_:TT K H a b m es ts)(_:d<2*es.L)(_:∀ q r H',mo->H q=kf->H' q=Z (.lst (r.h iV))->Path (fol es ts) (2*es.L) d r->Ring (fol es ts) (2*es.L) r->Q (.ref q) H')
inductive zX(K:Ln)
 |mk (a b:eN)(m:R)(es:En)(ts:mx) (_:vs=[.ref a,.ref b])(_:TT K H a b m es ts)(_:∀ q ys rs H',mo->H' q=Z (.lst ys)->cj H' ys rs->cE (fol es ts) (2*es.L) (2*es.L) rs->Q (.ref q) H')
def gu(H:Hp)(ys:E V)(n:R)(rs:mx):Prop:=ys.L=n/\∀ i,i<n->∃ p a b r v,ys[i]?=Z (.ref p)/\(H p=Z (.tup [iV a,iV b])/\(rs[a]?=Z r/\(2*i∈r/\(rs[b]?=Z v/\2*i+1∈v))))
inductive Cc(K:Ln)
 |mk (a b:eN)(xs ys:E V)(es:En)(f:R->R)(rs:mx) (_:vs=[.ref a,.ref b])(_:nv a xs)(_:eF K H xs es)(_:es.L<=62)(_:nv b ys)(_:cj H ys rs)(_:cE f (2*es.L) (2*es.L) rs)(_:∀ q zs H',mo->H' q=Z (.lst zs)->gu H' zs es.L rs->Q (.ref q) H')
def wR(ns:E G)(k:R):G:=ns.f k 0
inductive Cp(K:Ln)
 |mk (a:eN)(k:R)(ns:E G) (_:vs=[.ref a,.int (k:G)])(_:nv a (ns.h V.int))(_:Q (.int (wR ns k)) H)
structure Txt(mg:ff->ii eK):Prop where
 n_len:mg "len"=kf
 n_int:mg "int"=kf
 n_bool:mg "bool"=kf
 n_list:mg "list"=kf
 n_tuple:mg "tuple"=kf
 n_range:mg "range"=kf
 n_enumerate:mg "enumerate"=kf
 n_isinstance:mg "isinstance"=kf
 n_min:mg "min"=kf
 n_sum:mg "sum"=kf
 n_sorted:mg "sorted"=kf
def CA:aw ["ties","dart","tie"] ["ties","dart"] (aq CD):=by ac_nf
def Ke(F:Fun K "head" "head" CD f fd):kt 1 f fd ["ties","dart"] (HW K):=by
 refine F.ok CA (by walk_at "l") λg A o s H n Q ef N h=>?_
 let a D y d rfl x l b k:=h;let I:d/2<y.L:=by lia
 let u:y[d/2]?=Z y[d/2]:=Lj I;let p C j O M r x3:=l.2 _ _ u;let L:hd y d=if d%2=0 then y[d/2].2 else y[d/2].1:=by unfold hd;rw[u]
 let c:(d:G)/2=((d/2:R):G):=by lia
 intro B eg;erw[_,(ag (az 2 CA.nd (bA (pv 0) (ax kX (pv 1) ak)))
   (aj (aF (g9 (aA eO (ax iO (pv 1) ak) ak (aH _)) (aW (pv 2) U) (aW (pv 2) U))))),3]
 erw[42393,#[by decide,by decide],a,D,165,x,(by rw[c];exact aE M),3]
 erw[2649,(by show(0:G)<2;decide),230]
 refine ite2 (λq=>?_) (λq=>?_)
 .let v:(d:G)%2=0:=V.int.inj (Rl q)
  erw[9,p,C,j,37,r,x3.cl,x3.n2,fj _ _ _,3];rw[L,Rw ∅]at k
  exact k
 .let v:¬ (d:G)%2=0:=λz=>q (QG (congrArg V.int z))
  erw[9,p,C,j,37,r,x3.cl,x3.n1,dN _ _ _,3];rw[L,Rx ∅]at k
  exact k
def A2:aw ["ties","number","place"] ["ties","number","place"] (aq pG):=by ac_nf
def A5(F:Fun K "leaving" "leaving" pG f fd):kt 1 f fd ["ties","number","place"] (HU K):=by
 refine F.ok A2 (by walk_at "l") λg A o s H n Q ef N h=>?_
 let a D y t m e rfl x l eg k:=h;let p C j O M r x3:=l.2 _ _ eg;let J:CMul 2 (t:G):=.inl #[by decide,by decide]
 intro B I;erw[_,(aj (aF (g9 (aA eO (aW (bA (pv 0) (pv 1)) U) (pv 2) (aH _)) (ax mB ak (pv 1)) (ax cV (ax mB ak (pv 1)) ak)))),3];erw[153,a,D,165,x,aE M,p,C,j,37,r,x3.cl,x3.n1,dN _ _ _,3689];refine ite2 (λq=>?_) (λq=>?_)
 .let v:(e.1:G)=(m:G):=V.int.inj (Rl q)
  erw[2649,J,3];rw[Rw ∅]at k
  exact k
 .let v:¬ (e.1:G)=(m:G):=λz=>q (QG (congrArg V.int z))
  erw[2649,J,933];rw[Rx ∅]at k
  exact k
def gQ:aw ["ties","turns","dart","place","about","behind"] ["ties","turns","dart"] (aq nz):=by ac_nf
def yk{ap:fk}(F:Fun K "follower" "follower" nz f fd)(T:Txt mg)(ac:k9 1 "head" ["ties","dart"] (HW K) C eg)(aa:k9 1 "leaving" ["ties","number","place"] (HU K) I ap):kt 2 f fd ["ties","turns","dart"] (spFol K):=by
 refine F.ok gQ (by walk_at "l") λg A o s H n Q ef N h=>?_
 let a b m y u d rfl tt ab k:=h;let{D Y O}{j B i}w' x:=tt;let l e p1 v p3 p4 p5 p6 p7 p8 p9:=w'.foll ab;let al len:=AX w' x p1;let q r J:=i.2 _ _ p1;let ed:(d:G)/2=((d/2:R):G):=by lia
 intro M Dc;erw[_,(ag (az 3 gQ.nd (ac.c N (ae (pv 0) (ae (pv 2) ai))))
   (ag (az 4 gQ.nd (bA (pv 1) (pv 3)))
   (ag (az 5 gQ.nd (ax iO (ax cV (d7 LG PySem.F.slot_list_index PySem.F.type_list_index Gx (pv 4) (ae (ax kX (pv 2) ak) ai)) ak) (aG aD (by rfl) T.n_len cq (ae (pv 4) ai))))
   (aj (aF (aa.c N (ae (pv 0) (ae (bA (pv 4) (pv 5)) (ae (pv 3) ai))))))))),3]
 erw[153,a,D,y,d,U,Y,O,ab,3];erw[153,b,j,165,B,aE r,3];let L:(l.h iV).L=l.L:=Lp _;let am:0<l.L:=Nx v;let an:(((l.idxOf (d/2):R):G)+1)%((l.h iV).L:G)=(((l.idxOf (d/2)+1)%l.L:R):G):=by rw[L];rfl
 erw[9,.inl #[6,SqL.of J],2649,#[by decide,by decide],q,l,d/2,U,congrArg (λz=>[V.int z]) ed,SqL.of J,λp t=>by let:=al p t;lia,4,v,2469,q,9,.inl (SqL.of J),165,(by show(0:G)<((l.h iV).L:G);rw[L];lia),3]
 erw[2457,q,661,SqL.of J,(by rw[an];exact iV_at (pP v)),9,a,D,y,nxt l (d/2),hd y d,e,U,Y,O,p3,3]
 rw[p6]at k;exact k
def eG:aw ["ties","turns","first","row","dart"] ["ties","turns","first"] (aq iZ):=by ac_nf
def Kg(F:Fun K "round_from" "round_from" iZ f fd)(ab:k9 2 "follower" ["ties","turns","dart"] (spFol K) p eg):kt 3 f fd ["ties","turns","first"] (HY K):=by
 refine F.ok eG (by walk_at "l") λg A o s H I Q ef N h=>?_
 let a b m M l d rfl tt ac k:=h;let T:=perm tt.w
 intro Xc Dc;erw[_,(ag (az 3 eG.nd (bC (ae (pv 2) ai)))
   (ag (az 4 eG.nd (ab.c N (ae (pv 0) (ae (pv 1) (ae (pv 2) ai)))))
   (ag (fN PassesOwn.never (aA mz (pv 4) (pv 2) (aH _)) (ag (aR (d7 LG LN LL aO (pv 3) (ae (pv 4) ai)))
   (aj (az 4 eG.nd (ab.c N (ae (pv 0) (ae (pv 1) (ae (pv 4) ai))))))))
   (aj (aF (pv 3)))))),3]
 erw[9,(by show 1<=P7;decide),λq Y=>?_]
 let n:=ah Y (.lst [.int (d:G)]);erw[2457,a,b,m,M,l,d,U,tt.mono n,ac,3];refine gL (λL O=>∃(r:E R)(x:R),L=[Z (.ref a),Z (.ref b),Z (.int (d:G)),Z (.ref q),Z (iV (fol M l x))]/\Same H O/\O q=Z (.lst ((r++[x]).h iV))/\Path (fol M l) (2*M.L) d (r++[x]))
  (λL O=>match O q with|some (.lst D)=>200-D.L|_=>0) #[[],d,U,n,af,FZ ac] ?_ ?_
 .rintro L O ⟨r,x,rfl,u,aa,pa⟩;erw[59033];let j:=tt.few;let v:=iP pa.nd pa.lt;refine ite2 (λc=>?_) (λc=>?_)
  .let t:fol M l x≠d:=λz=>by
    rw[QG (show iV (fol M l x)=V.int (d:G) by rw[z];rfl)]at c
    cases c
   let am:=pa.snoc T t;let an:=iP am.nd am.lt;let al:fol M l x<2*M.L:=am.lt _ (by simp)
   erw[9,.inl #[6,SqL.of aa],9,q,165,aa,ar (by rw[Lp];lia),3]
   let i:=aC u Y (.lst ((r++[x]).h iV++[iV (fol M l x)]));erw[2457,a,b,m,M,l,fol M l x,U,tt.mono i,al,3];erw[#[r++[x],fol M l x,U,i,3,am],3]
   .rw[af,show((r++[x]++[fol M l x]).h iV)=(r++[x]).h iV++[iV (fol M l x)] from by rw[LH];rfl]
   .show(match(upd O q (.lst ((r++[x]).h iV++[iV (fol M l x)]))) q with|some (.lst D)=>200-D.L|_=>0)<(match O q with|some (.lst D)=>200-D.L|_=>0)
    rw[af,aa];show 200-((r++[x]).h iV++[iV (fol M l x)]).L<200-((r++[x]).h iV).L;rw[Ls,Lp,LZ];lia
  .let t:fol M l x=d:=by
    by_cases z:fol M l x=d
    .exact z
    .exact Ry (by rw[P6 (λy=>z (by let:=V.int.inj y;lia))];rfl) c
   erw[57];exact k q _ O u Y aa pa (pa.ring T t)
 .rintro L O Q1 Q2 B ⟨v',e,b',J,C,t,e3,q'⟩;erw[v',e,b',J,C,t,e3,B _ _ q']
def cJ:aw ["ties","turns","rounds","seen","dart","row","gone"] ["ties","turns"] (aq kM):=by ac_nf
def Dg(F:Fun K "rounds_of" "rounds_of" kM f fd)(T:Txt mg)(aT:k9 3 "round_from" ["ties","turns","first"] (HY K) C eg):kt 4 f fd ["ties","turns"] (zX K):=by
 refine F.ok cJ (by walk_at "l") λab A I s H vs Q ef N h=>?_
 let a b m es ts rfl tt k:=h;let hu:=oy N;let pm:=perm tt.w;let al:=tt.few;let xs Y O:=tt.xs
 intro Xc Dc;erw[_,(ag (az 2 cJ.nd (bC ai))
   (ag (az 3 cJ.nd fO)
   (ag (mj (bf U T.n_range (ae (ax mB ak (aG aD (by rfl) T.n_len cq (ae (pv 0) ai))) ai)) (bp 4 cJ.nd) (aj (cz (Ak (pN hu (pv 4) (pv 3))) (ag (az 5 cJ.nd (aT.c N (ae (pv 0) (ae (pv 1) (ae (pv 4) ai)))))
   (ag (aR (d7 LG LN LL aO (pv 2) (ae (pv 5) ai)))
   (aj (mj (aJ (pv 5)) (bp 6 cJ.nd) (aj (gm hu (pv 3) (pv 6) tH U)))))) aQ)))
   (aj (aF (pv 2)))))),3]
 erw[(by show 0<=P7;decide),λqr ap=>λqs aI=>?_]
 let D:=(ah ap (.lst [])).Q (ah aI (.dK []));let a2:H qs=kf:=by
  cases z:H qs with
  |none=>rfl
  |some o=>rw[ah ap (.lst []) qs o z]at aI;cases aI
 let an:qr≠qs:=λz=>by rw[← z,af]at aI;cases aI
 let av:xs.L=es.L:=O.1;let hN:(2*(xs.L:G)).U=2*es.L:=by lia
 erw[9,a,xs,U,.inl (D.seq Y),165,.inl #[by decide,by decide],329,dU (n:=(2*(xs.L:G)).U) (λi L M=>∃ v4 v5 v6 v rs aa,L=[Z (.ref a),Z (.ref b),Z (.ref qr),Z (.ref qs),v4,v5,v6]/\Same H M/\M qr=Z (.lst v)/\bV (λp=>p=qr∨p=qs) M v rs/\M qs=Z (.dK aa)/\aa.L<=rs.flatten.L/\(∀ d:R,(valV aa (Sum.inl (d:G))).isSome=i0↔d∈rs.flatten)/\cE (fol es ts) (2*es.L) i rs)
  #[21,[],[],[],U,D,by rw[ao an,af],#[U,λi l e=>by simp at e],af,Lo _,λd=>by simp[valV],A3 _ _] ?_ ?_]
 .rintro i L M B ⟨v4,v5,v6,v,rs,aa,rfl,s2,u,rx,t,kl,km,ro⟩;rw[hN]at B;let e0:(0:G)+(i:G)=(i:G):=Nb _;rw[e0];let fl:=uo ro;let rl:=Ag ro;erw[9625,DGet.k (k:=Sum.inl (i:G)) t,57];refine ite2 (λc=>?_) (λc=>?_)
  .let a1:i∉rs.flatten:=λz=>by
    rw[(km i).mpr z]at c
    cases c
   erw[2457,a,b,m,es,ts,i,U,tt.mono s2,B,λq r H3 s3 hq am pa ri=>?_];let a5:=s2.Q s3;let nq:¬ (q=qr∨q=qs):=by
    rintro(z|z)
    .rw[z,u]at hq;cases hq
    .rw[z,t]at hq;cases hq
   erw[9,.inl #[6,SqL.of (s3 _ _ u)],9,qr,165,s3 _ _ u,ar (by rw[rx.1];lia),3]
   let s4:=aC a5 ap (.lst (v++[.ref q]));let a3:∀{H5:Hp},bV (λp=>p=qr∨p=qs) H5 (v++[.ref q]) (rs++[r])->H5 q=Z (.lst (r.h iV)):=λh=>by
    let p z1 _ z2:=h.2 rs.L r (by rw[Lq (Lo _),Mb];rfl)
    rw[← rx.1,Lq (Lo _),Mb]at z1
    cases z1
    exact z2
   let a4:bV (λp=>p=qr∨p=qs) (upd H3 qr (.lst (v++[.ref q]))) (v++[.ref q]) (rs++[r]):=by
    refine(rx.mono λp o n z=>?_).snoc nq ?_
    .rw[ao (λz=>n (.inl z))];exact s3 _ _ z
    .rw[ao (λz=>nq (.inl z))];exact am
   let rl:r.L<=2*es.L:=iP ri.nd ri.lt
   erw[9,q,U,#[_,SqL.of (a3 a4)],bh (xs:=r.h iV) (λj L H5=>∃ v6 ac,L=[Z (.ref a),Z (.ref b),Z (.ref qr),Z (.ref qs),Z (.int (i:G)),Z (.ref q),v6]/\Same H H5/\H5 qr=Z (.lst (v++[.ref q]))/\bV (λp=>p=qr∨p=qs) H5 (v++[.ref q]) (rs++[r])/\H5 qs=Z (.dK ac)/\ac.L<=rs.flatten.L+j/\∀ d:R,(valV ac (Sum.inl (d:G))).isSome=i0↔d∈rs.flatten∨d∈r.j j)
    #[_,aa,U,s4,af,a4,by rw[ao an.Y];exact s3 _ _ t,kl,λd=>by rw[km d];simp] (λj L H5 _ p=>?_) ?_ ?_]
   .let _ _ _ _ _ z _:=p;exact SqL.of (a3 z)
   .rintro j x L H5 J ⟨v6,ac,rfl,s5,f1,aS,f2,a0,aZ⟩;rw[Lx]at J;let g hg rfl:=LC.mp J;let a6:j<r.L:=(Ll.mp hg).1;erw[153,qs,9,DPut.k (k:=Sum.inl (g:G)) f2 (ar ∅),3]
    erw[37,aC s5 a2 _,by rw[ao an];exact f1,aS.mono λp o n z=>by rw[ao (λz=>n (.inr z))];exact z,af,by let:=fE ac (Sum.inl (g:G)) (V.bl i0);lia,λd=>?_]
    rw[gM];let tk:r.j (j+1)=r.j j++[g]:=by rw[LI,hg];rfl
    rw[tk];by_cases z:d=g
    .subst z;simp
    .rw[Rx (λy=>z (by let:=Sum.inl.inj y;lia)),aZ d]
     simp[z]
   .rintro L H5 ⟨v6,ac,rfl,s5,f1,aS,f2,a0,aZ⟩;rw[Lp]at a0 aZ;erw[85,rs++[r],ac,U,s5,f1,aS,f2,by rw[NO,Ls];simpa using a0,λd=>?_,ro.put pm a1 B ri pa]
    rw[aZ d,LQ,NO,LY];simp
  .let a7:i∈rs.flatten:=(km i).mp (by
    cases z:(valV aa (Sum.inl (i:G))).isSome with
    |true=>rfl
    |false=>exact Ry (by rw[z];rfl) c)
   erw[21,v,rs,aa,U,s2,u,rx,t,kl,km,ro.skip a7]
 .rintro L M ⟨v4,v5,v6,v,rs,aa,rfl,s2,u,rx,t,kl,km,ro⟩;rw[hN]at ro;erw[9,k qr v rs M s2 u rx.off ro]
def fq:aw ["ties","rounds","number_at","number","row","dart"] ["ties","rounds"] (aq m9):=by ac_nf
def F5(F:Fun K "sides_of" "sides_of" m9 f fd)(T:Txt mg):kt 1 f fd ["ties","rounds"] (Cc K):=by
 refine F.ok fq (by walk_at "l") λeg A o s H I Q ef N h=>?_
 let a b xs v M g rs rfl hS hT ac hB hR ro k:=h;let hu:=oy N;let fl:=uo ro
 intro Xc Dc;erw[_,(ag (az 2 fq.nd fO)
   (ag (mj (kU U T.n_enumerate (ae (pv 1) ai)) (iM U (ay (bp 3 fq.nd) (ay (bp 4 fq.nd) br))) (aj (mj (aJ (pv 4)) (bp 5 fq.nd) (aj (gm hu (pv 2) (pv 5) (pv 3) U)))))
   (aj (aF (eM [("number_at",2)] ["i"] (bf U T.n_range (ae (aG aD (by rfl) T.n_len cq (ae (pv 0) ai)) ai)) pg_c pt_c (λC ex s H=>(cm (ae (ib hu (pv 1) (ax mB ak (pv 0)) (λ_ _=>rfl)) (ae (ib hu (pv 1) (ax cV (ax mB ak (pv 0)) ak) (λ_ _=>rfl)) ai))))))))),3]
 intro q Y;let m:=ah Y (.dK []);let kF:∀ i,(rs.j i).flatten.L<=rs.flatten.L:=λi=>by
  let:=congrArg (λz=>z.flatten.L) (ND i rs);simp only[NO,Ls]at this;lia
 erw[9,b,U,#[_,m.seq hB],uj (K:=K) (xs:=v) (λi L O=>∃ v3 v4 v5 n,L=[Z (.ref a),Z (.ref b),Z (.ref q),v3,v4,v5]/\Same H O/\O q=Z (.dK n)/\n.L<=(rs.j i).flatten.L/\∀(d c:R)(r:E R),c<i->rs[c]?=Z r->d∈r->valV n (Sum.inl (d:G))=Z (iV c))
  #[21,[],U,m,af,LU _,λd c r z=>Ry z (MJ _)] (λi L O _ aa=>by let _ _ _ _ _ s2 _:=aa;exact s2.seq hB) ?_ ?_]
 .rintro i x L O T2 J ⟨v3,v4,v5,n,rfl,s2,u,kl,km⟩ am;let a0:i<rs.L:=by
   let:=(Ll.mp J).1;rw[hR.1]at this;exact this
  let al:rs[i]?=Z rs[i]:=Lj a0;let p x1 x2:=hR.2 i _ al;rw[J]at x1
  cases x1
  generalize rs[i]=r at al x2;let s3:Same H (upd O T2 (.tup [.int (i:G),.ref p])):=s2.Q (ah am _);let f1:(rs.j (i+1)).flatten=(rs.j i).flatten++r:=by rw[LI,al];simp
  let f2:=kF (i+1);rw[f1,Ls]at f2;erw[T2,9,SqT.of af,238998]
  erw[9,p,U,#[_,SqL.of (s3 _ _ x2)],bh (xs:=r.h iV) (λj L H5=>∃ v5 ab,L=[Z (.ref a),Z (.ref b),Z (.ref q),Z (.int (i:G)),Z (.ref p),v5]/\Same H H5/\H5 q=Z (.dK ab)/\ab.L<=(rs.j i).flatten.L+j/\(∀(d c:R)(r:E R),c<i->rs[c]?=Z r->d∈r->valV ab (Sum.inl (d:G))=Z (iV c))/\∀ d∈r.j j,valV ab (Sum.inl (d:G))=Z (iV i))
   #[_,n,U,s3,ah am _ _ _ u,kl,km,λd hd=>by simp at hd] (λj L H5 _ aa=>by let _ _ _ z _:=aa;exact SqL.of (z _ _ x2)) ?_ ?_]
  .rintro j x L H5 av ⟨v5,ab,rfl,s5,g1,aS,aI,aZ⟩;rw[Lx]at av;let g hg rfl:=LC.mp av;let a1:j<r.L:=(Ll.mp hg).1;erw[2457,q,9,DPut.k (k:=Sum.inl (g:G)) g1 (ar ∅),3]
   erw[37,aC s5 Y _,af,by let:=fE ab (Sum.inl (g:G)) (V.int (i:G));lia,λd c r' l aT hd=>?_,λd hd=>?_]
   .rw[gM,Rx (λz=>?_)]
    .exact aI d c r' l aT hd
    .let z':d=g:=by let:=Sum.inl.inj z;lia
     subst z';let:=jC ro.nd aT al hd (Lm hg);lia
   .rw[gM];by_cases z:d=g
    .subst z;rw[Rw U];rfl
    .rw[Rx (λy=>z (by let:=Sum.inl.inj y;lia))]
     refine aZ d ?_;rw[LI,hg]at hd;simpa[z] using hd
  .rintro L H5 ⟨v5,ab,rfl,s5,g1,aS,aI,aZ⟩;rw[Lp]at aS aZ;rw[LQ]at aZ;erw[21,ab,U,s5,g1,by rw[f1,Ls];exact aS,λd c r' l aT hd=>?_]
   by_cases z:c=i
   .subst z;rw[al]at aT
    cases aT
    exact aZ d hd
   .exact aI d c r' ∅ aT hd
 .rintro L O ⟨v3,v4,v5,n,rfl,s2,u,kl,km⟩;rw[hR.1]at km;let get:∀ d,d<2*M.L->∃ c r,rs[c]?=Z r/\d∈r/\valV n (Sum.inl (d:G))=Z (iV c):=λd hd=>by
   let r z1 z2:=MC.mp (ro.all d hd);let c z3:=MR.mp z1;erw[c,r,z3,z2,km d c r (Ll.mp z3).1 z3 z2]
  let an:xs.L=M.L:=hT.1;erw[9,a,xs,U,.inl (s2.seq hS),329,cH (λi zs H3=>Same O H3/\gu H3 zs i rs) (by rw[Ly,an];exact LK (ar ∅)) #[λ_ _ e=>e,U,λi B=>Ry B (MJ _)] ?_ ?_]
  .rintro i zs H3 B ⟨s3,sd⟩;let e0:(0:G)+(i:G)=(i:G):=Nb _;rw[e0];rw[Ly,an]at B;let c1 r1 z1 z2 z3:=get (2*i) ∅
   let c2 r2 y1 y2 y3:=get (2*i+1) ∅
   let m2:CMul 2 (i:G):=.inl #[by decide,by decide]
   let d1:DGet H3 q (V.int (2*(i:G))) (Z (iV c1)):=by
    rw[← z3,show((2*i:R):G)=2*(i:G) by lia]
    exact DGet.k (k:=Sum.inl (2*(i:G))) (s3 _ _ u)
   let d2:DGet H3 q (V.int (2*(i:G)+1)) (Z (iV c2)):=by
    rw[← y3,show((2*i+1:R):G)=2*(i:G)+1 by lia]
    exact DGet.k (k:=Sum.inl (2*(i:G)+1)) (s3 _ _ u)
   erw[42393,m2,q,9,d1,42393,m2,165,q,9,d2,(by show 2<=P7;decide),λt ht=>?_]
   let s4:=ah ht (.tup [iV c1,iV c2]);erw[s3.Q s4,by rw[Ls,sd.1];rfl,λj hj=>?_]
   by_cases z:j=i
   .subst z;erw[t,c1,c2,r1,r2,by rw[← sd.1,Lq (Lo _),Mb];rfl,af,z1,z2,y1,y2]
   .let p a' b' r r' w1 w2 w3:=sd.2 j ∅
    erw[p,a',b',r,r',by rw[Lu (by rw[sd.1];lia)];exact w1,s4 _ _ w2,w3]
  .rintro zs H3 ap ⟨s3,sd⟩ D hD;rw[Ly,an]at sd
   exact k D zs _ ((s2.Q s3).Q (ah hD _)) af #[sd.1,λi B=>by
    let p a' b' r r' w1 w2 w3:=sd.2 i B
    erw[p,a',b',r,r',w1,ah hD _ _ _ w2,w3]]
def sG:aw ["self","one","two","strength"] ["self","one","two","strength"] (aq cO):=by ac_nf
def Kd(F:Fun K "__init__" "Tie.__init__" cO f fd):kt 1 f fd ["self","one","two","strength"] (qZ K):=by
 refine F.ok sG (by walk_at "l") λg A I s H n Q ef N h=>?_
 let p C j a b st rfl Y T i J M L k:=h
 intro B eg;erw[_,(ag (cz (aA eO (pv 1) (pv 2) (aH _)) (aj cG) aQ)
   (ag (cz (PW.pt (xZ (aA A4 (pv 1) ak (aH _)) (rh (aA A4 (pv 2) ak (aH _))))) (aj cG) aQ)
   (ag (cz (aA A4 (pv 3) ak (aH _)) (aj cG) aQ)
   (ag (nO (pv 0) (pv 1) U)
   (ag (nO (pv 0) (pv 2) U)
   (aj (nO (pv 0) (pv 3) U))))))),3]
 walk_at "rd";refine ite2 (λc=>Ry (V.int.inj (Rl c)) i) (λ_=>?_);walk_at "rd";refine ite2 (λc=>Ry (Rl c) ∅) (λ_=>?_)
 walk_at "rd";refine ite2 (λc=>Ry (Rl c) ∅) (λ_=>?_)
 walk_at "rd";refine ite2 (λc=>Ry (Rl c) ∅) (λ_=>?_)
 erw[153,p,C,j,[],U,Y,T.cl,T.n1,(by show 0<1000;decide),3]
 erw[153,p,C,j,9,af,T.cl,T.n2,f1_len a,3];erw[153,p,C,j,9,af,T.cl,T.n3,f2_len a b,3];exact k _ af λq o e d=>by rw[ao d,ao d,ao d];exact e
def xP:aw ["script","k"] ["script","k"] (aq nj):=by ac_nf
def Ki(F:Fun K "_law_cell" "_law_cell" nj f fd)(T:Txt mg):kt 1 f fd ["script","k"] (Cp K):=by
 refine F.ok xP (by walk_at "l") λl A o s H n Q ef N h=>?_
 let a k L rfl x q:=h
 intro B I;erw[_,(ag (cz (aA A4 (pv 1) (aG aD (by rfl) T.n_len cq (ae (pv 0) ai)) (aH _)) (aj (aF (bA (pv 0) (pv 1)))) aQ)
   (aj (aF ak))),3]
 erw[153,a,9,.inl x,14757];refine ite2 (λc=>?_) (λc=>?_)
 .let t:(k:G)<((L.h V.int).L:G):=Rl c
  rw[Lp]at t;let g:k<L.L:=by lia
  let y:atI (L.h V.int) (k:G)=Z (.int (wR L k)):=aE (by rw[Lx,Lj g];unfold wR;rw[LA,Lj g];rfl)
  erw[153,a,661,x,y,q]
 .let t:¬ (k:G)<((L.h V.int).L:G):=λz=>c (QG z)
  rw[Lp]at t;let e:wR L k=0:=by unfold wR;rw[LA,Mv ∅];rfl
  rw[e]at q;exact q
theorem at0{u:V}:atI [u,v] 0=Z u:=rfl
theorem at1{u:V}:atI [u,v] 1=Z v:=rfl
def yt{ps:E R}(h:nv a (ps.h iV)):RdD K H (.ref a) (.list ((ps.h λ(p:R)=>((p:R):G)).h ge.int)):=by
 refine RdD.lst h (by simp) λi x d f A=>?_
 rw[Lx]at f;rw[Lx,Lx]at A
 cases z:ps[i]? with
 |none=>rw[z]at f;cases f
 |some n =>
  rw[z]at f A
  cases f
  cases A
  exact .int _
def DW(l:E G):(ge.list (l.h ge.int)).canLay0=i0/\(ge.list (l.h ge.int)).depth<=10:=by
 let Y:∀ d∈l.h ge.int,d.canLay0=i0/\d.depth<=1:=λd hd=>by
  let x _ rfl:=LW.mp hd;erw[by simp[ge.canLay0],by simp[QL]]
 let O:=jF λd hd=>(Y d hd).1;let ef:=lD λd hd=>(Y d hd).2;erw[by simp only[ge.canLay0];exact O,by simp only[QL];lia]
theorem pV(l:E G):SeqAt.shaped (.list (l.h ge.int))=i0:=kK λd hd=>by
 let x _ rfl:=LW.mp hd;erw[by simp[ge.canLay0],by simp[QL]]
def qK.snoc{e:R×R}(t:qK H xs es)(h:H p=Z (.tup [iV e.1,iV e.2])):qK H (xs++[.ref p]) (es++[e]):=by
 erw[by rw[Ls,Ls,t.1];rfl,λj k O=>?_]
 by_cases I:j<es.L
 .rw[Lu I]at O;let p T n:=t.2 j k O;erw[p,by rw[Lu (by rw[t.1];exact I)];exact T,n]
 .rw[Lq ∅]at O
  let b:j=es.L:=by
   let:=(Ll.mp O).1;rw[LZ]at this;lia
  subst b;rw[Mb]at O
  cases O
  erw[p,by rw[← t.1,Lq (Lo _),Mb];rfl,h]
def Dist(xs:E V):Prop:=∀(i j:R)(p:eN),xs[i]?=Z (.ref p)->xs[j]?=Z (.ref p)->i=j
def bV.set{S:eN->Prop}(h:bV S H xs ts)(D:Dist xs)(e:xs[i]?=Z (.ref p)):bV S (upd H p (.lst (l'.h iV))) xs (ts.set i l'):=by
 erw[by rw[Nn];exact h.1,λj l z=>?_]
 let B:i<ts.L:=by rw[← h.1];exact(Ll.mp e).1
 rw[NY]at z;by_cases I:i=j
 .subst I;rw[Rw U,Rw B]at z
  cases z
  let a T n M:=h.2 i _ (Lj B);rw[e]at T
  cases T
  erw[p,e,n,af]
 .rw[Rx I]at z;let a T n M:=h.2 j l z;erw[a,T,n,by rw[ao (λy=>by rw[y]at T;exact I (D i j p e T))];exact M]
def CF(h:nv a xs)(b:cj H xs ts):RdD K H (.ref a) (.list (ts.h λl=>ge.list ((l.h λ(p:R)=>((p:R):G)).h ge.int))):=by
 refine RdD.lst h (by rw[Lp];exact b.1) λi x d f A=>?_
 rw[Lx]at A;let l C rfl:=LC.mp A;let p T n:=b.2 i l C;rw[f]at T
 cases T
 exact yt (SqL.of n)
theorem xW(ts:mx):SeqAt.shaped (.list (ts.h λl=>ge.list ((l.h λ(p:R)=>((p:R):G)).h ge.int)))=i0:=kK λd hd=>by
 let l _ rfl:=LW.mp hd;exact DW _
end K8
namespace K8
open PySem L2
def qE:Qa "min"=Z (.builtin "min"):=by decide
def qu{S:eN->Prop}(h:bV S H xs ts)(D:Dist xs)(Y:H q=kf):Dist (xs++[.ref q]):=by
 let u:∀(j:R)(p:eN),j<xs.L->(xs++[V.ref q])[j]?=Z (.ref p)->xs[j]?=Z (.ref p)/\p≠q:=λj p I e=>by
  rw[Lu I]at e;let a T _ M:=h.2 j _ (Lj (by rw[← h.1];exact I))
  rw[e]at T
  cases T
  erw[e,aB M Y]
 let new:∀(j:R)(p:eN),¬ j<xs.L->(xs++[V.ref q])[j]?=Z (.ref p)->j=xs.L/\p=q:=λj p I e=>by
  let:=(Ll.mp e).1;rw[Ls,LZ]at this;let b:j=xs.L:=by lia
  subst b;rw[Lq (Lo _),Mb]at e
  cases e
  erw[10]
 intro j k p f A;by_cases I:j<xs.L
 .let B eg:=u j p I f;by_cases g:k<xs.L
  .exact D j k p B (u k p g A).1
  .exact Ry (new k p g A).2 eg
 .let B eg:=new j p I f;by_cases g:k<xs.L
  .exact Ry eg (u k p g A).2
  .rw[B,(new k p g A).1]
abbrev Kn:=E (G×G)
def iS(H:Hp)(ws:E V)(ks:Kn):Prop:=ws.L=ks.L/\∀(i:R)(k:G×G),ks[i]?=Z k->(k.1=0∨k.1=1)/\0<=k.2/\∃ p,ws[i]?=Z (.ref p)/\H p=Z (.tup [.int k.1,.int k.2])
theorem iS.mono{ks:Kn}(h:iS H ws ks)(s:mo):iS H' ws ks:=#[h.1,λi k z=>by
 let a b p c d:=h.2 i k z
 erw[a,b,p,c,s _ _ d]]
theorem iS.put{ks:Kn}{o:HO}(t:iS H ws ks)(h:H q=Z (.lst zs)):iS (upd H q o) ws ks:=#[t.1,λi e z=>by
 let u v p a b:=t.2 i e z;erw[u,v,p,a,3];rw[ao (λz=>by rw[z,h]at b;cases b)]
 exact b]
def iS.snoc{ks:Kn}{k:G×G}(t:iS H ws ks)(h:H p=Z (.tup [.int k.1,.int k.2]))(Y:k.1=0∨k.1=1)(h2:0<=k.2):iS H (ws++[.ref p]) (ks++[k]):=by
 erw[by rw[Ls,Ls,t.1];rfl,λj x O=>?_]
 by_cases I:j<ks.L
 .rw[Lu I]at O;let u v p T n:=t.2 j x O;erw[u,v,p,by rw[Lu (by rw[t.1];exact I)];exact T,n]
 .rw[Lq ∅]at O
  let b:j=ks.L:=by
   let:=(Ll.mp O).1;rw[LZ]at this;lia
  subst b;rw[Mb]at O
  cases O
  erw[Y,h2,p,by rw[← t.1,Lq (Lo _),Mb];rfl,h]
def Gr.two(g:Gr m es ts)(h:0<es.L):2<=m:=by
 let a b c:=g.w.ends _ (Lm (Lj h));lia
def IC(g:Gr m es ts):m<=es.L+2:=by
 let t _ c:=g.part;lia
open KF (andN orN shlN xorN)
theorem jR:∀{a b:E G},a.Perm b->a.y (·<=·)->b.y (·<=·)->a=b
 |[],b,h,_,_=>(List.nil_perm.mp h).Y▸rfl
 |x::a,[],h,_,_=>Ry h.length_eq (by simp)
 |x::a,y::b,h,c,w=>by
  let T n:=Ny.mp c;let b1 b2:=Ny.mp w;let Y:x<=y:=by
   rcases Lw.mp (h.mem_iff.mpr (Lv ..):y∈x::a)with z|z
   .rw[z];exact Mn _
   .exact T y z
  let O:y<=x:=by
   rcases Lw.mp (h.mem_iff.mp (Lv ..):x∈y::b)with z|z
   .rw[z];exact Mn _
   .exact b1 x z
  let e:x=y:=NS Y O;subst e;rw[jR (List.Perm.cons_inv h) n b2]
def cI(l:E R):E G:=l.h λ(p:R)=>((p:R):G)
def cI_V(l:E R):(cI l).h V.int=l.h iV:=by unfold cI;rw[MH];rfl
def JA{r:E R}{out:E G}(Y:out.Perm (cI l))(hs:out.y (·<=·))(B:l.l)(c:r.y (· < ·))(C:∀ t,t∈l↔t∈r):out=cI r:=by
 let d:r.l:=c.imp λh=>LJ h;let q:(cI l).Perm (cI r):=((MX B d).mpr C).h _;refine jR (Y.Q q) hs ?_;unfold cI;exact List.Pairwise.map _ (λa b h=>by lia) c
def DY:ins l l.L n=l++[n]:=by
 unfold ins;simp
inductive Cf(K:Ln)
 |mk (a:eN)(xs:E V)(m:R)(es:En) (_:vs=[.int (m:G),.ref a])(_:nv a xs)(_:eF K H xs es)(_:(∀ e∈es,e.1<m/\e.2<m))(_:Q .non H)
inductive zY(K:Ln)
 |mk (a b:eN)(xs zs:E V)(m:R)(es:En)(ts:mx) (_:vs=[.int (m:G),.ref a,.ref b])(_:nv a xs)(_:eF K H xs es)(_:nv b zs)(_:cj H zs ts)(_:iI m es ts)(_:es.L<=30)(_:m<=40)(_:∀ H',mo->Q .non H')
inductive Ce(K:Ln)
 |mk (a:eN)(xs:E V)(m:R)(es:En)(ts:mx) (_:vs=[.int (m:G),.ref a])(_:nv a xs)(_:eF K H xs es)(_:Gr m es ts)(_:2<=m)(_:m<=40)(_:es.L<=30)(_:∀ H',mo->Q .non H')
def kA:aw ["many","ties","tie"] ["many","ties"] (aq gU):=by ac_nf
def F7(F:Fun K "refuse_ends" "refuse_ends" gU f fd):kt 1 f fd ["many","ties"] (Cf K):=by
 refine F.ok kA (by walk_at "l") λg A o s H n Q ef N h=>?_
 let a xs m y rfl I l D k:=h;intro b T;erw[_,(aj (mj (aJ (pv 1)) (bp 2 kA.nd) (aj (cz (PW.pt (xZ (aA op_ge (aW (pv 2) U) (pv 0) (aH _)) (rh (aA op_ge (aW (pv 2) U) (pv 0) (aH _))))) (aj cG) aQ)))),3];erw[9,a,U,#[_,I],bh (K:=K) (xs:=xs) (λi L O=>∃ d,L=[Z (.int (m:G)),Z (.ref a),d]/\O=H) #[41] (λi L O _ ⟨_,_,z⟩=>z▸I) ?_ ?_]
 .rintro i x L O J ⟨d,rfl,rfl⟩;let B:i<y.L:=by rw[← l.1];exact(Ll.mp J).1
  let e eg:∃ e,y[i]?=Z e:=#[_,Lj B];let p C j st M r x3:=l.2 i e eg;rw[J]at M
  cases M
  let u t:=D e (Lm eg);erw[9,p,C,j,37,r,x3.cl,x3.n1,dN _ _ _,236121];refine ite2 (λc=>Ry (Rl c) ∅) (λ_=>?_)
  erw[9,p,C,j,37,r,x3.cl,x3.n2,fj _ _ _,236121];refine ite2 (λc=>Ry (Rl c) ∅) (λ_=>?_)
  erw[41]
 .rintro L O ⟨d,rfl,rfl⟩;exact k
def cU:aw ["many","ties","turns","ending","number","tie"] ["many","ties","turns"] (aq gh):=by ac_nf
def Df(F:Fun K "refuse_turns" "refuse_turns" gh f fd)(T:Txt mg):kt 1 f fd ["many","ties","turns"] (zY K):=by
 refine F.ok cU (by walk_at "l") λaa A g s H vs Q ef N h=>?_
 let a b xs zs m M ts rfl hS hT hB hR w' ac bB kk:=h;let an:=N.units
 intro Xc Dc;erw[_,(ag (nA 3 [] ["place"] cU.nd (bf U T.n_range (ae (pv 0) ai)) pg_c pt_c (λC ex s H=>(bC ai)))
   (ag (mj (kU U T.n_enumerate (ae (pv 1) ai)) (iM U (ay (bp 4 cU.nd) (ay (bp 5 cU.nd) br))) (ag (aR (d7 LG LN LL aO (bA (pv 3) (aW (pv 5) U)) (ae (pv 4) ai)))
   (aj (aR (d7 LG LN LL aO (bA (pv 3) (aW (pv 5) U)) (ae (pv 4) ai))))))
   (aj (cz (aA (op_neD an) (eM [] ["about"] (aJ (pv 2)) pg_c pt_c (λC ex s H=>(aG (wY (K:=K) U) (by rfl) T.n_sorted jK (ae (pv 0) ai)))) (pv 3) (aH _)) (aj cG) aQ)))),3]
 erw[5273,cH (n:=(m:G).U) (λi v O=>Same H O/\bV (λp=>H p≠kf) O v (Lz i [])/\Dist v) (by rw[Ly];exact LK (ar ∅)) #[λ_ _ e=>e,#[U,λi l e=>by simp at e],λi j p e=>by contradiction] ?_ ?_]
 .rintro i v O B ⟨s2,rx,D⟩;erw[(by simp),λl I=>?_]
  let s3:=ah I (.lst []);erw[s2.Q s3,3,qu rx D I];rw[Nk];refine(rx.mono λb u _ z=>s3 _ _ z).snoc (λz=>z ?_) af
  cases y:H l with
  |none=>rfl
  |some o=>rw[s2 _ _ y]at I;cases I
 rintro v O be ⟨s2,rx,D⟩ pn aI;rw[Ly]at rx;let s3:=ah aI (.lst v);let bm:H pn=kf:=by
  cases y:H pn with
  |none=>rfl
  |some o=>rw[s2 _ _ y]at aI;lia
 let bn:bV (λp=>p=pn∨H p≠kf) (upd O pn (.lst v)) v (Lz m []):=#[rx.1,λi l z=>by
  let p a1 a2 a3:=rx.2 i l z;let n2:p≠pn:=aB a3 aI
  erw[p,a1,by rintro(y|y);exact n2 y;exact a2 y,s3 _ _ a3]]
 erw[9,a,U,#[_,(s2.Q s3).seq hS],uj (K:=K) (xs:=xs) (λi L H5=>∃ v4 v5 rows,L=[Z (.int (m:G)),Z (.ref a),Z (.ref b),Z (.ref pn),v4,v5]/\Same H H5/\H5 pn=Z (.lst v)/\bV (λp=>p=pn∨H p≠kf) H5 v rows/\iI m (M.j i) rows/\∀ r∈rows,r.y (· < ·))
  #[149,s2.Q s3,af,bn,Fw m,λr N=>by simp!] (λi L H5 _ ab=>by let _ _ _ _ z _:=ab;exact z.seq hS) ?_ ?_]
 .rintro i x L H5 T2 J ⟨v4,v5,rows,rfl,s5,aZ,a0,w5,pw⟩ am;let B:i<M.L:=by rw[← hT.1];exact(Ll.mp J).1
  let e eg:∃ e,M[i]?=Z e:=#[_,Lj B];let p C dx st x1 x2 x3:=hT.2 i e eg;rw[J]at x1
  cases x1
  let sT:=ah am (.tup [.int (i:G),.ref p]);let s6:=s5.Q sT;let x6:=s6 _ _ x2;let c d e3:=w'.ends e (Lm eg);let ba:(M.j i).L=i:=by grind
  let av:=w5.len;let l I:∃ l,rows[e.1]?=Z l:=#[_,Lj ∅]
  let l' ap:∃ l,rows[e.2]?=Z l:=#[_,Lj ∅]
  let bi:bV (λp=>p=pn∨H p≠kf) (upd H5 T2 (.tup [.int (i:G),.ref p])) v rows:=a0.mono λb u _ z=>sT _ _ z;let p1 y1 y2 y3:=bi.2 _ _ I;let p2 z1 z2 z3:=bi.2 _ _ ap;let a7:∀{p:eN},¬ (p=pn∨H p≠kf)->H p=kf/\p≠pn:=λ{p} n=>by
   simp!
  let a4 bv:=a7 y2;let aS bz:=a7 z2;let bK:p2≠p1:=λy=>by rw[y]at z1;exact e3 (D _ _ p1 y1 z1)
  let ll:∀{q:R}{r:E R},rows[q]?=Z r->∀ t∈r,t<i:=λ{q r} h t ht=>by
   let:=Iu w5 h ht;lia
  let bJ:∀{q:R}{r:E R},rows[q]?=Z r->r.L<=30:=λ{q r} h=>by
   let:=iP (w5.nd _ _ h) (ll h);lia
  let f1:=bJ I;let f2:=bJ ap;let a8:=sT _ _ aZ;erw[T2,9,SqT.of af,238998];erw[153,p,C,dx,37,x6,x3.cl,x3.n1,dN _ _ _,pn,v,165,SqL.of a8,aE y1,.inl #[6,SqL.of y3],9,p1,165,y3,ar (by rw[Lp];lia),3]
  let aT:(l.h iV)++[V.int (i:G)]=(l++[i]).h iV:=by rw[LH];rfl
  rw[aT];let x7:(upd (upd H5 T2 (.tup [.int (i:G),.ref p])) p1 (.lst ((l++[i]).h iV))) p=Z (.ins C dx (tf (e.1:G) (e.2:G) st)):=by rw[ao (λz=>by rw[z]at x2;rw[x2]at a4;contradiction)];exact x6
  let a9:(upd (upd H5 T2 (.tup [.int (i:G),.ref p])) p1 (.lst ((l++[i]).h iV))) pn=Z (.lst v):=by rw[ao bv.Y];exact a8
  let z7:(upd (upd H5 T2 (.tup [.int (i:G),.ref p])) p1 (.lst ((l++[i]).h iV))) p2=Z (.lst (l'.h iV)):=by rw[ao bK];exact z3
  erw[153,p,C,dx,37,x7,x3.cl,x3.n2,fj _ _ _,pn,v,165,SqL.of a9,aE z1,.inl #[6,SqL.of z7],9,p2,165,z7,ar (by grind),3]
  let a6:(l'.h iV)++[V.int (i:G)]=(l'++[i]).h iV:=by rw[LH];rfl
  rw[a6];erw[5,(rows.set e.1 (l++[i])).set e.2 (l'++[i]),U,aC (aC s6 a4 _) aS _,by rw[ao bz.Y];exact a9,(bi.set D y1).set D z1,3,λr N=>?_]
  .let q:=w5.put (k:=l.L) (j:=l'.L) c d e3 I ap
   rw[DY,DY,ba]at q;rw[LI,eg];exact q
  .let app:∀{q:R}{r:E R},rows[q]?=Z r->(r++[i]).y (· < ·):=λ{q r} h=>List.pairwise_append.mpr #[pw r (Lm h),List.pairwise_singleton _ _,λx J y hy=>by
    let:=ll h x J
    simp!]
   obtain z|z:=Ol N
   .obtain z|z:=Ol z
    .exact pw r z
    .rw[z];exact app I
   .rw[z];exact app ap
 rintro L H5 ⟨v4,v5,rows,rfl,s5,aZ,a0,w5,pw⟩;rw[hT.1,LQ]at w5;let a5:zs.L=m:=by rw[hR.1,w'.len]
 erw[9,b,U,#[_,s5.seq hB],dB (K:=K) (xs:=zs) (λi vs H6=>Same H5 H6/\cj H6 vs (rows.j i)) (LK (ar ∅)) #[λ_ _ e=>e,U,λi l e=>by simp at e] (λi vs H6 _ z=>(s5.Q z.1).seq hB) ?_ ?_]
 .rintro i x vs H6 J ⟨s6,rz⟩;let B:i<ts.L:=by rw[← hR.1];exact(Ll.mp J).1
  let l I:∃ l,ts[i]?=Z l:=#[_,Lj B];let r al:∃ r,rows[i]?=Z r:=#[_,Lj (by rw[w5.len,← w'.len];exact B)]
  let p a1 a2:=(hR.mono (s5.Q s6)).2 i l I;rw[J]at a1
  cases a1
  let bR:l.L<=30:=Mi (iP (w'.nd _ _ I) λt ht=>Iu w' I ht) ac;erw[9,p,cI l,U,(by rw[cI_V];exact SqL.of a2),(by unfold cI;grind),λq out hq Y hs=>?_]
  let eo:=JA Y hs (w'.nd _ _ I) (pw r (Lm al)) λt=>(w'.mem i l I t).Q (w5.mem i r al t).Y;subst eo;let s7:=ah hq (.lst ((cI r).h V.int));erw[s6.Q s7,3];rw[show rows.j (i+1)=rows.j i++[r] by rw[LI,al];rfl]
  exact(rz.mono s7).snoc (by rw[af,cI_V])
 rintro vs H6 _ ⟨s6,rz⟩ D' bP;rw[a5,← w5.len,LQ]at rz;let s7:=ah bP (.lst vs);let bb:=s6.Q s7;erw[25,CF (SqL.of af) (rz.mono s7),CF (SqL.of (bb _ _ aZ)) (a0.off.mono bb),xW rows,9,iteF ?_];exact kk _ (s5.Q bb)
def og:aw ["many","ties"] ["many","ties"] (aq fx):=by ac_nf
def F6{fr:eN}(F:Fun K "refuse_parted" "refuse_parted" fx f fd)(ac:k9 1 "reached" ["start","pairs"] KF.spReach fr eg):kt 2 f fd ["many","ties"] (Ce K):=by
 refine F.ok og (by walk_at "l") λq A o s H n Q ef N h=>?_
 let a xs m y ts rfl hS Y g m2 an aa k:=h;let ap:xs.L=y.L:=Y.1;intro Xc Dc;erw[_,(aj (cz (aA mz (ac.c N (ae ak (ae (eM [] ["tie"] (aJ (pv 1)) pg_c pt_c (λC v s H=>(cm (ae (pM (K:=K) U (pv 0) U) (ae (pM (K:=K) U (pv 0) U) ai))))) ai))) (ax kD (ax bI ak (pv 0)) ak) (aH _)) (aj cG) aQ)),3];erw[9,a,U,#[_,hS],dB (K:=K) (xs:=xs) (λi t al=>Same H al/\qK al t (y.j i)) (LK (ar ∅)) #[λ_ _ e=>e,U,λi l e=>by simp at e] (λi t al _ z=>z.1.seq hS) ?_ ?_]
 .rintro i x t al J ⟨am,ez⟩;let B:i<y.L:=by rw[← Y.1];exact(Ll.mp J).1
  let e d:∃ e,y[i]?=Z e:=#[_,Lj B];let p C j st T L a3:=(Y.mono am).2 i e d;rw[J]at T
  cases T
  erw[9,p,C,j,37,L,a3.cl,a3.n1,dN _ _ _,9,p,C,j,37,L,a3.cl,a3.n2,fj _ _ _,(by show 2<=P7;decide),λg O=>?_]
  let ab:=ah O (.tup [iV e.1,iV e.2]);erw[am.Q ab,3];rw[show y.j (i+1)=y.j i++[e] by rw[LI,d];rfl]
  exact(ez.mono ab).snoc af
 rintro t al _ ⟨am,ez⟩ D hD;rw[Y.1,LQ]at ez;let ab:=ah hD (.lst t);let u:=ez.mono ab;let mem:∀ l∈y.h (λe=>((e.1,e.2,0):KF.Lk)),l.1<m/\l.2.1<m:=λl I=>by
  let e d rfl:=LW.mp I;let b1 b2 _:=g.w.ends e d;erw[b1,b2]
 let cn:KF.Conn m (y.h λe=>((e.1,e.2,0):KF.Lk)):=λb M=>g.conn (λp=>∃ x,KF.Wk (y.h λe=>(e.1,e.2,0)) 0 p x) (λe d=>by
  let i B:=Mg d;let lk:=KF.Wk.link (show(y.h λe=>((e.1,e.2,0):KF.Lk))[i]?=Z (e.1,e.2,0) by simp[*]) (a:=e.1) (.inl U)
  rw[show KF.bey (e.1,e.2,0) e.1=e.2 from Rw U]at lk
  erw[λ⟨x,h⟩=>#[_,h.Q lk],λ⟨x,h⟩=>#[_,h.Q lk.rev]]) 0 b ∅ M #[00,.nil 0]
 erw[D,t,m,y.h λe=>(e.1,e.2,0),U,af,#[by simp[*],λi l I=>?_],#[an,by grind,mem,λl I=>?_],4,λr N=>?_]
 .rw[Lx]at I;let e d rfl:=LC.mp I;let p x1 x2:=u.2 i e d;erw[_,x1,p,U,x2]
 .let e d rfl:=LW.mp I;erw[Mn _,Int.natCast_nonneg _]
 rw[KF.run_full N mem ∅ cn]
 erw[2649,#[20,by decide],59045]
 refine vR ?_ (k _ (am.Q ab));show V.int _=V.int _;rw[shlN];grind
def cls(PL PS:eN)(c:im):eN:=if c=i0 then PS else PL
def mV(PL PS:eN)(H:Hp)(xs:E V)(es:En)(ks:Kn):Prop:=xs.L=es.L/\∀(i:R)(e:R×R)(k:G×G),es[i]?=Z e->ks[i]?=Z k->∃ p j,xs[i]?=Z (.ref p)/\H p=Z (.ins (cls PL PS (decide (k.1=1))) j (tf (e.1:G) (e.2:G) k.2))
theorem mV.mono{PS:eN}{ks:Kn}(t:mV PL PS H xs es ks)(h:mo):mV PL PS H' xs es ks:=#[t.1,λi e k q r=>by
 let p j a b:=t.2 i e k q r
 erw[p,j,a,h _ _ b]]
structure CW(K:Ln)(C:eN):Prop where
 cl:Cls K C
 n1:fY K C "many"
 n2:fY K C "ties"
 n3:fY K C "turns"
 n4:fY K C "rounds"
 n5:fY K C "sides"
theorem jX(k:ff)(v:V):∀ fs:E (ff×V),(putF k v fs).L<=fs.L+1
 |[]=>Lo _
 | (a,b)::r=>by
  show(if a=k then(a,v)::r else(a,b)::putF k v r).L<=_;let:=jX k v r;grind
def none_of{b:eN}(s:mo)(z:H' b=kf):H b=kf:=by
 cases y:H b with
 |none=>rfl
 |some o=>rw[s _ _ y]at z;cases z
structure WebG(S:eN->Prop)(H:Hp)(fs:E (ff×V))(m:R)(es:En)(ts rs:mx):Prop where
 many:fs.Z ("many" : ff)=Z (.int (m:G))
 turns:∃ q z,fs.Z ("turns" : ff)=Z (.ref q)/\¬ S q/\H q=Z (.lst z)/\bV S H z ts
 rounds:∃ q z,fs.Z ("rounds" : ff)=Z (.ref q)/\H q=Z (.lst z)/\cj H z rs
 sides:∃ q z,fs.Z ("sides" : ff)=Z (.ref q)/\H q=Z (.lst z)/\gu H z es.L rs
 part:cE (fol es ts) (2*es.L) (2*es.L) rs
theorem gu.mono{z:E V}(h:gu H z n rs)(s:mo):gu H' z n rs:=#[h.1,λi B=>by
 let t a b r v o J w:=h.2 i B
 erw[t,a,b,r,v,o,s _ _ J,w]]
def WebG.mono{S f:eN->Prop}{H H':Hp}{fs:E (ff×V)}{m:R}{es:En}{ts rs:mx}(h:WebG S H fs m es ts rs)(s:mo)(i:∀ a,f a->S a):WebG f H' fs m es ts rs:=by
 let a{q z b1 O b2 b3}{v c c1 c2 c3}{p Q d1 t u}e:=h;erw[a,#[q,z,b1,λy=>O (i _ y),s _ _ b2,b3.1,λj l y=>?_],#[v,c,c1,s _ _ c2,c3.mono s],#[p,Q,d1,s _ _ t,u.mono s],e];let r o J w:=b3.2 j l y;erw[r,o,λx=>J (i _ x),s _ _ w]
inductive rT(K:Ln)
 |mk (p C dx qt qh:eN)(m:R)(xs zs:E V)(es:En)(ts:mx) (_:vs=[.ref p,.int (m:G),.ref qt,.ref qh])(_:H p=Z (.ins C dx []))(_:CW K C)(_:H qt=Z (.lst xs))(_:eF K H xs es)(_:H qh=Z (.lst zs))(_:cj H zs ts)(_:Gr m es ts)(_:0<es.L)(_:es.L<=30)(_:∀(fs:E (ff×V))(q1:eN)(rs:mx)(H':Hp),H' p=Z (.ins C dx fs)->WebG (λa=>H a≠kf) H' fs m es ts rs->H q1=kf->fs.Z ("ties" : ff)=Z (.ref q1)->H' q1=Z (.lst xs)->(∀ q o,H q=Z o->q≠p->H' q=Z o)->Q .non H')
theorem eF.keep{eg:Hp}(t:eF K H xs es)(Y:H p=Z (.ins C f []))(k:∀ q u,q≠p->H q=Z u->eg q=Z u):eF K eg xs es:=#[t.1,λi e z=>by
 let q c g s a b d:=t.2 i e z;erw[q,c,g,s,a,k _ _ (λz=>?_) b,d];rw[z,Y]at b;let l:([]:E (ff×V))=tf (e.1:G) (e.2:G) s:=by
  injection b with b;injection b
 contradiction]
def lX:aw ["self","many","ties","turns","rounds"] ["self","many","ties","turns"] (aq cM):=by ac_nf
def F3{f4 f5:eN}{d1 d2 d3 d4 d5:fk}(F:Fun K "__init__" "Web.__init__" cM f fd)(T:Txt mg)(aS:k9 1 "refuse_ends" ["many","ties"] (Cf K) f1 d1)(aI:k9 1 "refuse_turns" ["many","ties","turns"] (zY K) f2 d2)(av:k9 2 "refuse_parted" ["many","ties"] (Ce K) I d3)(aZ:k9 4 "rounds_of" ["ties","turns"] (zX K) f4 d4)(a4:k9 1 "sides_of" ["ties","rounds"] (Cc K) f5 d5):
  kt 5 f fd ["self","many","ties","turns"] (rT K):=by
 refine F.ok lX (by walk_at "l") λaa A L s H vs Q ef N h=>?_
 let p C dx qt qh m xs zs es ts rfl Y cw a3 hT a8 hR g e0 ab kk:=h;let w':=g.w;let m2:=g.two e0;let mf:=IC g;let bK:xs.L=es.L:=hT.1;let aT:zs.L=m:=by rw[hR.1,w'.len]
 let pl:∀{q:eN}{j:E V},H q=Z (.lst j)->q≠p:=λ{q j} h z=>by simp!
 intro Xc Dc;erw[_,(ag (aR (aS.c N (ae (pv 1) (ae (pv 2) ai))))
   (ag (aR (aI.c N (ae (pv 1) (ae (pv 2) (ae (pv 3) ai)))))
   (ag (aR (av.c N (ae (pv 1) (ae (pv 2) ai))))
   (ag (az 4 lX.nd (aZ.c N (ae (pv 2) (ae (pv 3) ai))))
   (ag (cz (aA mz (ax cV (ax kD (pv 1) (aG aD (by rfl) T.n_len cq (ae (pv 2) ai))) (aG aD (by rfl) T.n_len cq (ae (pv 4) ai))) ak (aH _)) (aj cG) aQ)
   (ag (nO (pv 0) (pv 1) U)
   (ag (nO (pv 0) (dQ jG (by rfl) T.n_list jL (ae (pv 2) ai)) U)
   (ag (nO (pv 0) (eM [] ["about"] (aJ (pv 3)) pg_c pt_c (λC ex s H=>(dQ (BS (K:=K) U) (by rfl) T.n_list jL (ae (pv 0) ai)))) U)
   (ag (nO (pv 0) (pv 4) U)
   (aj (nO (pv 0) (a4.c N (ae (pv 2) (ae (pv 4) ai))) U))))))))))),3]
 erw[153,qt,xs,m,es,U,SqL.of a3,hT,λe d=>#[(w'.ends e d).1,(w'.ends e d).2.1],3];erw[2457,qt,qh,xs,zs,m,es,ts,U,SqL.of a3,hT,SqL.of a8,hR,w',ab,4,λk M=>?_]
 erw[153,qt,xs,m,es,ts,U,SqL.of (M _ _ a3),hT.mono M,g,m2,4,ab,λO s2=>?_]
 let ac:=M.Q s2;erw[153,qt,qh,m,es,ts,U,#[#[xs,SqL.of (ac _ _ a3),hT.mono ac],#[zs,SqL.of (ac _ _ a8),hR.mono ac],w',4],λqr vs rs H3 s3 ap a6 ro=>?_]
 let am:=ac.Q s3;let cnt:m+rs.L=es.L+2:=by
  let bP p' c:=g.part;rw[← p'.same ro.part];exact c
 let bJ:vs.L=rs.L:=a6.1;erw[153,qt,xs,U,.inl (SqL.of (am _ _ a3)),2469,qr,vs,U,.inl (SqL.of ap),59045];refine vR (congrArg V.int ∅) ?_
 let be:=am _ _ Y;erw[153,p,C,dx,[],U,be,cw.cl,cw.n1,(by simp),3]
 let keep:∀{eg:Hp}{o:HO}{q:eN}{u:HO},q≠p->eg q=Z u->(upd eg p o) q=Z u:=λn z=>by rw[ao n];exact z
 erw[9,qt,xs,U,.inl (SqL.of (keep (pl a3) (am _ _ a3))),λq1 al=>?_];let a7:q1≠p:=λz=>by rw[z,af]at al;contradiction
 let t4:=ah al (.lst xs);erw[9,p,C,dx,9,t4 _ _ af,cw.cl,cw.n2,15]
 .let:=jX "many" (.int (m:G)) ([]:E (ff×V));grind
 let t1:∀ q u,q≠p->H3 q=Z u->(upd (upd (upd H3 p (.ins C dx (putF "many" (.int (m:G)) []))) q1 (.lst xs)) p (.ins C dx (putF "ties" (.ref q1) (putF "many" (.int (m:G)) [])))) q=Z u:=λq u n z=>keep n (t4 _ _ (keep n z));let bi:(upd (upd (upd H3 p (.ins C dx (putF "many" (.int (m:G)) []))) q1 (.lst xs)) p (.ins C dx (putF "ties" (.ref q1) (putF "many" (.int (m:G)) [])))) q1=Z (.lst xs):=keep a7 af;let pa:(upd (upd (upd H3 p (.ins C dx (putF "many" (.int (m:G)) []))) q1 (.lst xs)) p (.ins C dx (putF "ties" (.ref q1) (putF "many" (.int (m:G)) [])))) p=Z (.ins C dx (putF "ties" (.ref q1) (putF "many" (.int (m:G)) []))):=af;generalize upd (upd (upd H3 p (.ins C dx (putF "many" (.int (m:G)) []))) q1 (.lst xs)) p (.ins C dx (putF "ties" (.ref q1) (putF "many" (.int (m:G)) [])))=H4 at t1 bi pa;let lk:(putF "ties" (.ref q1) (putF "many" (.int (m:G)) []):E (ff×V)).Z ("ties" : ff)=Z (.ref q1):=by rfl
 let ln:(putF "ties" (.ref q1) (putF "many" (.int (m:G)) []):E (ff×V)).L<=2:=by
  let a1:=jX "many" (.int (m:G)) ([]:E (ff×V));let a2:=jX "ties" (.ref q1) (putF "many" (.int (m:G)) ([]:E (ff×V)));simp only[NF]at a1;lia
 let bm:(putF "ties" (.ref q1) (putF "many" (.int (m:G)) []):E (ff×V)).Z ("many" : ff)=Z (.int (m:G)):=by rfl
 generalize (putF "ties" (.ref q1) (putF "many" (.int (m:G)) []):E (ff×V))=fs at pa lk ln bm;let a9:=t1 _ _ (pl a8) (am _ _ a8);let ba:∀{b:eN},H4 b=kf->H b=kf:=λ{b} z=>by
  cases y:H b with
  |none=>rfl
  |some o =>
   by_cases n:b=p
   .simp!
   .rw[t1 _ _ n (am _ _ y)]at z;cases z
 let bn:H q1=kf:=by
  cases y:H q1 with
  |none=>rfl
  |some o=>rw[keep a7 (am _ _ y)]at al;lia
 erw[9,qh,U,#[_,SqL.of a9],dB (K:=K) (xs:=zs) (λi j H5=>Same H4 H5/\bV (λa=>H a≠kf) H5 j (ts.j i)) (LK (ar ∅)) #[λ_ _ e=>e,U,λi l e=>by simp at e] (λi _ H5 _ z=>SqL.of (z.1 _ _ a9)) ?_ ?_]
 .rintro i x j H5 J ⟨s5,rz⟩;let B:i<ts.L:=by rw[← hR.1];exact(Ll.mp J).1
  let l v:∃ l,ts[i]?=Z l:=#[_,Lj B];let r a1 a2:=hR.2 i l v;rw[J]at a1
  cases a1
  erw[9,r,9,.inl (SqL.of (s5 _ _ (t1 _ _ (pl a2) (am _ _ a2)))),λg hg=>#[s5.Q (ah hg _),3]];rw[show ts.j (i+1)=ts.j i++[l] by rw[LI,v];rfl]
  exact(rz.mono λb u _ z=>ah hg _ _ _ z).snoc (λz=>z (ba (none_of s5 hg))) af
 rintro j H5 _ ⟨s5,rz⟩ D hD;rw[hR.1,LQ]at rz;let bb:D≠p:=λz=>by rw[z,s5 _ _ pa]at hD;cases hD
 let s6:=s5.Q (ah hD (.lst j));erw[9,p,C,dx,fs,U,s6 _ _ pa,cw.cl,cw.n3,16]
 let bZ:=jX "turns" (.ref D) fs;let bR:(putF "turns" (.ref D) fs).Z ("ties" : ff)=Z (.ref q1):=by rw[aM,Rx ∅];exact lk
 erw[153,p,C,dx,9,af,cw.cl,cw.n4,16]
 let b0:=jX "rounds" (.ref qr) (putF "turns" (.ref D) fs);let bT:(putF "rounds" (.ref qr) (putF "turns" (.ref D) fs)).Z ("ties" : ff)=Z (.ref q1):=by rw[aM,Rx ∅];exact bR
 let t7:∀ q u,q≠p->H3 q=Z u->(upd (upd (upd H5 D (.lst j)) p (.ins C dx (putF "turns" (.ref D) fs))) p (.ins C dx (putF "rounds" (.ref qr) (putF "turns" (.ref D) fs)))) q=Z u:=λq u n z=>keep n (keep n (s6 _ _ (t1 q u n z)));let bv:(upd (upd (upd H5 D (.lst j)) p (.ins C dx (putF "turns" (.ref D) fs))) p (.ins C dx (putF "rounds" (.ref qr) (putF "turns" (.ref D) fs)))) q1=Z (.lst xs):=keep a7 (keep a7 (s6 _ _ bi));let p7:(upd (upd (upd H5 D (.lst j)) p (.ins C dx (putF "turns" (.ref D) fs))) p (.ins C dx (putF "rounds" (.ref qr) (putF "turns" (.ref D) fs)))) p=Z (.ins C dx (putF "rounds" (.ref qr) (putF "turns" (.ref D) fs))):=af;let D7:(upd (upd (upd H5 D (.lst j)) p (.ins C dx (putF "turns" (.ref D) fs))) p (.ins C dx (putF "rounds" (.ref qr) (putF "turns" (.ref D) fs)))) D=Z (.lst j):=keep bb (keep bb af);let u7:∀ q u,q≠p->H5 q=Z u->(upd (upd (upd H5 D (.lst j)) p (.ins C dx (putF "turns" (.ref D) fs))) p (.ins C dx (putF "rounds" (.ref qr) (putF "turns" (.ref D) fs)))) q=Z u:=λq u n z=>keep n (keep n (ah hD _ _ _ z));generalize upd (upd (upd H5 D (.lst j)) p (.ins C dx (putF "turns" (.ref D) fs))) p (.ins C dx (putF "rounds" (.ref qr) (putF "turns" (.ref D) fs)))=H7 at t7 bv p7 D7 u7;let a5:∀{q:eN}{j:E V},H3 q=Z (.lst j)->q≠p:=λ{q j} h z=>by simp!
 let bU:cj H7 vs rs:=#[a6.1,λi l z=>by
  let r a1 a2:=a6.2 i l z
  erw[r,a1,t7 _ _ (a5 a2) a2]]
 let T7:eF K H7 xs es:=(hT.mono am).keep be t7;erw[153,qt,qr,xs,vs,es,_,rs,U,SqL.of (t7 _ _ (pl a3) (am _ _ a3)),T7,4,SqL.of (t7 _ _ (a5 ap) ap),bU,ro,λq5 z5 H8 s8 an bz=>?_]
 erw[9,p,C,dx,9,s8 _ _ p7,cw.cl,cw.n5,16]
 let bY:q5≠p:=λz=>by rw[z,s8 _ _ p7]at an;simp!
 let bB:=t7 _ _ (a5 ap) ap;refine kk _ q1 rs _ af #[3,#[D,j,3,λz=>z (ba (none_of s5 hD)),keep bb (s8 _ _ D7),rz.1,λi l z=>?_],#[qr,vs,3,keep (a5 ap) (s8 _ _ bB),a6.1,λi l z=>?_],#[q5,z5,3,keep bY an,bz.1,λi B=>?_],ro] bn (by rw[aM,Rx ∅];exact bT) (keep a7 (s8 _ _ bv)) λq o z n=>keep n (s8 _ _ (t7 q o n (am _ _ z)))
 .rw[aM,Rx ∅,aM,Rx ∅,aM,Rx ∅]
  exact bm
 .rw[aM,Rx ∅,aM,Rx ∅,aM,Rw U]
 .let r a1 a0 a2:=rz.2 i l z;let nr:r≠p:=λz=>by simp!
  erw[r,a1,a0,keep nr (s8 _ _ (u7 r _ nr a2))]
 .rw[aM,Rx ∅,aM,Rw U]
 .let r a1 a2:=a6.2 i l z;erw[r,a1,keep (a5 a2) (s8 _ _ (t7 _ _ (a5 a2) a2))]
 .rw[aM,Rw U]
 .let t a b r r' y1 y2 y3:=bz.2 i B;erw[t,a,b,r,r',y1,keep (λz=>by rw[z,s8 _ _ p7]at y2;cases y2) y2,y3]
theorem mV.at{PS:eN}{ks:Kn}(t:mV PL PS H xs es ks)(d:ks.L=es.L)(f:CT K PL)(TS:CT K PS):eF K H xs es:=#[t.1,λi e z=>by
 let B:=(Ll.mp z).1;let k g:∃ k,ks[i]?=Z k:=#[_,Lj ∅]
 let p j a b:=t.2 i e k z g;erw[p,_,j,k.2,a,b,3];unfold cls;split
 .exact TS
 .exact f]
def WebF(S:eN->Prop)(PL PS k:eN)(H:Hp)(p:eN)(m:R)(es:En)(ts rs:mx)(ks:Kn):Prop:=∃ j fs ef D,H p=Z (.ins k j fs)/\WebG S H fs m es ts rs/\¬ S ef/\fs.Z ("ties" : ff)=Z (.ref ef)/\H ef=Z (.lst D)/\mV PL PS H D es ks
def WebF.mono{S f:eN->Prop}{PL PS k p:eN}{H H':Hp}{m:R}{es:En}{ts rs:mx}{ks:Kn}(h:WebF S PL PS k H p m es ts rs ks)(s:mo)(i:∀ a,f a->S a):WebF f PL PS k H' p m es ts rs ks:=by
 let j fs ef D a b n c d e:=h;erw[j,fs,ef,D,s _ _ a,b.mono s i,λy=>n (i _ y),c,s _ _ d,e.mono s]
open KF (andN orN shlN xorN)
def E4:Qa "sum"=Z (.builtin "sum"):=by rfl
theorem FR{t2:TE}(m:PE X e Y)(h2:PE X e t2):PE X e (λL H Q=>Y L H Q∨t2 L H Q):=λB s L H Q I h=>h.elim (m B s L H Q I) (h2 B s L H Q I)
def bit(l a:G):G:=l/2^a.U%2
def Jc(x y:G):Qr (Qt x y) 1=(x%2+y%2)%2:=by
 let e:Qr (Qt x y) 1=Qt x y%2:=Pa _ 1;rw[e,PyProof.Rows.bitXor_and];lia
def unp(c:im)(a b l:G):im:=!decide (V.int ((bit l a+bit l b)%2)=V.int (if c=i0 then 1 else 0))
inductive lP(push:im)
 |mk (p:_) (_:vs=[.ref p])(_:Q (.int (if push=i0 then 1 else 0)) H)
def TieAt(H:Hp)(p C:eN)(a b s:G):Prop:=∃ j,H p=Z (.ins C j (tf a b s))
inductive pz(C:eN)(push:im)
 |mk (p a b s l:_) (_:vs=[.ref p,.int l])(_:TieAt H p C a b s)(_:0<=a)(_:0<=b)(_:Q (.bl (unp push a b l)) H)
def upL(u:R->im)(i:R):E R:=(LD i).filter u
def oG(u:R->im)(i:R):upL u (i+1)=if u i=i0 then upL u i++[i] else upL u i:=by
 unfold upL;rw[Oa,M9];by_cases h:u i=i0
 .simp[*]
 .simp[*]
def A8(ps:E R):R:=ps.foldl (λm p=>m|||2^p) 0
def rj(ps:E R)(p:R):A8 (ps++[p])=A8 ps|||2^p:=by unfold A8;simp
def MK(u:R->im):R->R
 |0=>0
 |i+1=>if u i=i0 then MK u i|||2^i else MK u i
theorem pQ(u:R->im):∀ i,A8 (upL u i)=MK u i
 |0=>rfl
 |i+1=>by
  rw[oG];show _=if u i=i0 then MK u i|||2^i else MK u i
  split
  .rw[rj,pQ u i]
  .exact pQ u i
theorem gH(u:R->im)(k:R):∀ i,(MK u i).O k=(decide (k<i)&&u k)
 |0=>by show NV 0 k=_;simp
 |i+1=>by
  show(if u i=i0 then MK u i|||2^i else MK u i).O k=_
  let L:=gH u k i;by_cases h:u i=i0
  .rw[Rw h,Mw,L,LP];by_cases z:i=k
   .subst z;simp[h]
   .grind
  .rw[Rx h,L];by_cases Q:k<i
   .simp[Q,MQ Q]
   .grind
def stg(ks:Kn)(t:R):G:=match ks[t]? with|some k=>k.2|none=>0
def spMask(K:Ln):Sp:=λn H Q _=>∃(a:eN),∃(T:E R),(n=[.ref a]/\nv a (T.h iV)/\(∀ p∈T,p<80)/\Q (.int ((A8 T:R):G)) H)
def cE.at{f:R->R}{d:R}(w:cE f N N rs)(h:d<N):∃(a:R)(r:E R),rs[a]?=Z r/\d∈r:=by
 let r Y O:=MC.mp (w.all d h);let a o e:=MB Y;erw[a,r,by simp[*],O]
def sm(l:E R)(g:R->R):R:=(l.h g).sum
def Ct(x:R)(l:E R)(g:R->R):sm (x::l) g=g x+sm l g:=by rfl
def WebT(PL PS k:eN)(H:Hp)(p:eN)(m:R)(es:En)(ts:mx)(ks:Kn):Prop:=∃ j fs ef D t v,H p=Z (.ins k j fs)/\fs.Z ("many" : ff)=Z (.int (m:G))/\fs.Z ("ties" : ff)=Z (.ref ef)/\H ef=Z (.lst D)/\mV PL PS H D es ks/\fs.Z ("turns" : ff)=Z (.ref t)/\H t=Z (.lst v)/\cj H v ts
def WebF.t{S:eN->Prop}{PS:eN}{ks:Kn}(h:WebF S PL PS f H p m es ts rs ks):WebT PL PS f H p m es ts ks:=by
 let j fs ef D a b _ c d e:=h;let r v b1 _ b2 b3:=b.turns;erw[j,fs,ef,D,r,v,a,b.many,c,d,e,b1,b2,b3.off]
def xQ:aw ["self"] ["self"] (aq eZ):=by ac_nf
def F1(F:Fun K "wish" "Tie.wish" eZ f fd):kt 1 f fd ["self"] (lP j5):=by
 refine F.ok xQ (by walk_at "l") λg A o s H n Q ef N h=>?_
 let p rfl k:=h;erw[_,(aj (aF ak)),k]
def vm:aw ["self"] ["self"] (aq dj):=by ac_nf
def F0(F:Fun K "wish" "Push.wish" dj f fd):kt 1 f fd ["self"] (lP i0):=by
 refine F.ok vm (by walk_at "l") λg A o s H n Q ef N h=>?_
 let p rfl k:=h;erw[_,(aj (aF ak)),k]
def bt(M t:R):R:=M/2^t%2
def zG(M t:R):bt M t=if M.O t=i0 then 1 else 0:=by
 unfold bt;rw[OZ];by_cases z:M/2^t%2=1
 .simp!
 .simp!
def E6(M t:R):Qr ((M:G)/2^((t:R):G).U) 1=((bt M t:R):G):=by
 let e:Qr ((M:G)/2^((t:R):G).U) 1=((M:G)/2^((t:R):G).U)%2:=Pa _ 1;assumption
def parR(M:R)(r:E R):R:=sm r (λd=>bt M (d/2))%2
def FC(l:E R)(g:R->R):(l.h λd=>((g d:R):G)).sum=((sm l g:R):G):=by
 induction l with
 |nil=>rfl
 |cons x l L=>rw[LR,NJ,L,Ct];lia
def bH(ks:Kn)(t:R):im:=match ks[t]? with|some k=>decide (k.1=1)|none=>j5
def sV{ks:Kn}{t:R}{k:G×G}(h:ks[t]?=Z k):bH ks t=decide (k.1=1):=by unfold bH;rw[h]
def oddU(M:R)(rs:mx)(k:R):im:=decide (parR M (rs.f k [])=1)
def Ay{k:R}{r:E R}(h:rs[k]?=Z r):rs.f k []=r:=by simp[*]
def WebR(PL PS k:eN)(H:Hp)(p:eN)(es:En)(ks:Kn)(rs:mx):Prop:=∃ j fs ef D z i,H p=Z (.ins k j fs)/\fs.Z ("ties" : ff)=Z (.ref ef)/\H ef=Z (.lst D)/\mV PL PS H D es ks/\fs.Z ("rounds" : ff)=Z (.ref z)/\H z=Z (.lst i)/\cj H i rs
def WebR.mono{PL PS k:eN}{H H':Hp}{p:eN}{es:En}{ks:Kn}{rs:mx}(h:WebR PL PS k H p es ks rs)(s:mo):WebR PL PS k H' p es ks rs:=by
 let j fs ef D z i a b c d e f g:=h;erw[j,fs,ef,D,z,i,s _ _ a,b,s _ _ c,d.mono s,e,s _ _ f,g.mono s]
inductive Cg(PL PS WC:eN)
 |mk (p:eN)(es:En)(ks:Kn)(rs:mx) (_:vs=[.ref p])(_:WebR PL PS WC H p es ks rs)(_:ks.L=es.L)(_:es.L<=30)(_:∀ H',mo->Q (.int ((MK (bH ks) es.L:R):G)) H')
inductive rV(PL PS WC:eN)
 |mk (p:eN)(M k:R)(es:En)(ks:Kn)(rs:mx)(r:E R) (_:vs=[.ref p,.int (M:G),.int (k:G)])(_:WebR PL PS WC H p es ks rs)(_:rs[k]?=Z r)(_:r.L<=900)(_:∀ H',mo->Q (.int ((parR M r:R):G)) H')
inductive HR(PL PS WC:eN)
 |mk (p:eN)(es:En)(ks:Kn)(rs:mx) (_:vs=[.ref p])(_:WebR PL PS WC H p es ks rs)(_:ks.L=es.L)(_:es.L<=30)(_:rs.L<=70)(_:(∀ r∈rs,r.L<=900))(_:∀ H',mo->Q (.int ((MK (oddU (MK (bH ks) es.L) rs) rs.L:R):G)) H')
def WebF.r{S:eN->Prop}{PS:eN}{ks:Kn}(h:WebF S PL PS f H p m es ts rs ks):WebR PL PS f H p es ks rs:=by
 let j fs ef D a g _ b c d:=h;let z i e I k:=g.rounds;erw[j,fs,ef,D,z,i,a,b,c,d,e,I,k]
def Cy:aw ["web"] ["web"] (aq sM):=by ac_nf
def Ka{PS:eN}{d0 d1:fk}(F:Fun K "pushes" "pushes" sM f fd)(T:Txt mg)(cw:CW K q)(TL:CT K PL)(TS:CT K PS)(aa:k9 1 "mask_of" ["places"] (spMask K) a eg)(u0:Met P w K mg base 1 PL "wish" ["self"] (lP j5) I d0)(u1:Met P w K mg base 1 PS "wish" ["self"] (lP i0) f1 d1):
  kt 2 f fd ["web"] (Cg PL PS q):=by
 refine F.ok Cy (by walk_at "l") λl A o s H m Q ef N h=>?_
 let p v t rs rfl{dx fs r xs q5 z5 Y aS al tk _}kl ab kk:=h;let av:=TL.cl;let aI:=TS.cl;let an:xs.L=v.L:=tk.1;intro Xc Dc;erw[_,(aj (aF (aa.c N (ae (eM [] ["number","tie"] (kU U T.n_enumerate (ae (aW (pv 0) U) ai)) (λC ex s H=>(dq (n:=2) (K:=K) U U (ay (aU (i:=0) (show(["number","tie"]:E ff).l from by decide) U (Or.inl U)) (ay (aU (i:=1) (show(["number","tie"]:E ff).l from by decide) U (Or.inl U)) br)))) (λC ex s H=>(gk (aA eO (FR (mh (pv 1) av u0.me u0.ok (N.mono ∅) u0.bn .nil mw) (mh (pv 1) aI u1.me u1.ok (N.mono ∅) u1.bn .nil mw)) ak (aH _)))) (λC ex s H=>(pv 0))) ai)))),3]
 erw[9,p,q,dx,fs,9,Y,cw.cl,cw.n2,aS,r,U,#[_,SqL.of al],ku (K:=K) (xs:=xs) (λi j O=>Same H O/\j=(upL (bH t) i).h iV) (LK (ar ∅)) #[λ_ _ e=>e,U] (λi j O _ z=>SqL.of (z.1 _ _ al)) ?_ ?_ ?_]
 .rintro i x j O T2 J ⟨u,rfl⟩ am;let B:i<v.L:=by rw[← tk.1];exact(Ll.mp J).1
  let e d:∃ e,v[i]?=Z e:=#[_,Lj B];let k g:∃ k,t[i]?=Z k:=#[_,Lj ∅]
  let L:=u.Q (ah am (.tup [.int (i:G),x]));let p' ac x1 x2:=(tk.mono L).2 i e k d g;rw[J]at x1
  cases x1
  erw[T2,9,SqT.of af,959894];let hU:=sV g;let ap:∀ b:im,b=bH t i->(if b=i0 then tVar 0 ([Z (.int (i:G)),Z (.ref p')]:St) (upd O T2 (.tup [.int (i:G),.ref p'])) (λy H4=>Same H H4/\(upL (bH t) i).h iV++[y]=(upL (bH t) (i+1)).h iV) else Same H (upd O T2 (.tup [.int (i:G),.ref p']))/\(upL (bH t) i).h iV=(upL (bH t) (i+1)).h iV):=λb M=>by
   rw[oG,← M]
   cases b with
   |true =>
    refine iteT #[9,L,3];rw[Rw U,LH];rfl
   |false =>
    refine iteF #[L,3];rfl
  by_cases c:k.1=1
  .rw[QG c]at x2 hU;refine .inr #[9,p',ac,9,x2,rQ _ _ _ ∅ ∅ ∅,p',922]
   exact ap _ hU.Y
  .rw[P6 c]at x2 hU;refine .inl #[9,p',ac,9,x2,rQ _ _ _ ∅ ∅ ∅,p',922]
   exact ap _ hU.Y
 .rintro j O ⟨u,rfl⟩ D hD;rw[an];erw[D,upL (bH t) v.L,U,SqL.of af,λp Y=>?_,3]
  .let:=L5.mp (M6.mp Y).1;lia
  .rw[pQ];exact kk _ (u.Q (ah hD _))
 .rintro i j O ⟨_,rfl⟩;rw[Lp];exact Mi (M7 _ _) (by simp)
def Cz:aw ["web","ties","number"] ["web","ties","number"] (aq sN):=by ac_nf
def F9{PS:eN}(F:Fun K "odd_at" "odd_at" sN f fd)(T:Txt mg)(eg:CW K a):kt 1 f fd ["web","ties","number"] (rV PL PS a):=by
 refine F.ok Cz (by walk_at "l") λl A o s H n Q ef N h=>?_
 let p M k y v t r rfl{L fs b xs q5 z5 Y _ _ _ l5 aa hR}g I B:=h;let pr x1 q:=hR.2 k r g;intro Xc Dc;erw[_,(aj (aF (ax iO (aG (AQ U) (by rfl) T.n_sum E4 (ae (eM [("ties",1)] ["dart"] (aJ (bA (aW (pv 0) U) (pv 2))) pg_c pt_c (λC c s H=>(ax eB (ax iN (pv 1) (ax kX (pv 0) ak)) ak))) ai)) ak))),3]
 erw[9,p,a,L,fs,9,Y,eg.cl,eg.n4,l5,9,q5,z5,165,SqL.of aa,aE x1,pr,U,#[_,SqL.of q],dB (K:=K) (xs:=r.h iV) (λi j O=>Same H O/\j=((r.j i).h λd=>((bt M (d/2):R):G)).h V.int) (LK (ar (by grind))) #[λ_ _ e=>e,U] (λi j O _ z=>SqL.of (z.1 _ _ q)) ?_ ?_]
 .rintro i x j O J ⟨u,rfl⟩;rw[Lx]at J;let d ab rfl:=LC.mp J;let ed:(d:G)/2=((d/2:R):G):=by lia
  erw[42393,#[by decide,by decide],165,(show(0:G)<=(d:G)/2 by lia),165,u,3]
  rw[LI,ab,LH,LH];show _++[V.int (Qr ((M:G)/2^((d:G)/2).U) 1)]=_++[V.int ((bt M (d/2):R):G)];rw[ed,E6]
 rintro j O _ ⟨u,rfl⟩ D m;rw[Lp,LQ];erw[D,9,SqL.of af,165,(by show(0:G)<2;decide),3]
 let e:(r.h λd=>((bt M (d/2):R):G)).sum%2=((parR M r:R):G):=by
  rw[FC r λd=>bt M (d/2)];unfold parR;lia
 show Q (V.int ((r.h λd=>((bt M (d/2):R):G)).sum%2)) _;rw[e];exact B _ (u.Q (ah m _))
def lT:aw ["web","pushing"] ["web"] (aq i4):=by ac_nf
def Kb{fp PS:eN}{aS aT:fk}(F:Fun K "odd_rounds" "odd_rounds" i4 f fd)(T:Txt mg)(cw:CW K I)(aa:k9 1 "mask_of" ["places"] (spMask K) a eg)(an:k9 2 "pushes" ["web"] (Cg PL PS I) fp aS)(am:k9 1 "odd_at" ["web","ties","number"] (rV PL PS I) q aT):
  kt 3 f fd ["web"] (HR PL PS I):=by
 refine F.ok lT (by walk_at "l") λg A o s H n Q ef N h=>?_
 let p y v rs rfl wb kl ab aZ av t:=h
 intro Xc Dc;erw[_,(ag (az 1 lT.nd (an.c N (ae (pv 0) ai)))
   (aj (aF (aa.c N (ae (eM [("web",0),("pushing",1)] ["number"] (bf U T.n_range (ae (aG aD (by rfl) T.n_len cq (ae (aW (pv 0) U) ai)) ai)) pg_c (λC ex s H=>(gk (aA eO (am.c N (ae (pv 1) (ae (pv 2) (ae (pv 0) ai)))) ak (aH _)))) (λC ex s H=>(pv 0))) ai))))),3]
 erw[9,p,y,v,rs,U,wb,kl,ab,λl m=>?_];let aI:=wb.mono m;let L fs x b q5 z5 Y _ _ _ l5 al hR:=id aI;let ap:z5.L=rs.L:=hR.1;generalize hM:MK (bH v) y.L=M;rw[hM]at t;erw[9,p,I,L,fs,9,Y,cw.cl,cw.n4,l5,q5,z5,U,.inl (SqL.of al),329,lE (λi j O=>Same l O/\j=(upL (oddU M rs) i).h iV) (LK (ar ∅)) #[λ_ _ e=>e,U] ?_ ?_ ?_]
 .rintro i j O B ⟨k,rfl⟩;let e0:(0:G)+(i:G)=(i:G):=Nb _;rw[e0];let r ac:∃ r,rs[i]?=Z r:=#[_,Lj ∅]
  erw[9830,p,M,i,y,v,rs,r,U,aI.mono k,ac,av r (Lm ac),λu d=>#[230]];let J:oddU M rs i=decide (parR M r=1):=by unfold oddU;rw[Ay ac]
  rw[oG,J];refine ite2 (λc=>?_) (λc=>?_)
  .let c':parR M r=1:=by lia
   erw[9,k.Q d,3];rw[Rw (QG c'),LH];rfl
  .let c':¬ parR M r=1:=λz=>c (QG (congrArg V.int ∅))
   erw[k.Q d,3];rw[Rx (by simpa using c')]
 .rintro j O ⟨k,rfl⟩ D hD;rw[Ly,ap];erw[D,upL (oddU M rs) rs.L,U,SqL.of af,λp Y=>?_,3]
  .let:=L5.mp (M6.mp Y).1;lia
  .rw[pQ];exact t _ (m.Q (k.Q (ah hD _)))
 .rintro i j O ⟨_,rfl⟩;rw[Lp];exact Mi (M7 _ _) (by simp)
structure TxtZ(mg:ff->ii eK):Prop extends Txt mg where
 n_zip:mg "zip"=kf
def WebS(PL PS k:eN)(H:Hp)(p:eN)(es:En)(ks:Kn)(rs:mx):Prop:=∃ j fs ef D z i,H p=Z (.ins k j fs)/\fs.Z ("ties" : ff)=Z (.ref ef)/\H ef=Z (.lst D)/\mV PL PS H D es ks/\fs.Z ("sides" : ff)=Z (.ref z)/\H z=Z (.lst i)/\gu H i es.L rs
def BW(H:Hp)(zs:E V)(n:R)(ks:Kn)(rs:mx):Prop:=zs.L=n/\∀ i,i<n->∃ k t a b r v,ks[i]?=Z k/\(zs[i]?=Z (.ref t)/\(H t=Z (.tup [iV a,iV b,.int k.2])/\(rs[a]?=Z r/\(2*i∈r/\(rs[b]?=Z v/\2*i+1∈v)))))
theorem BW.mono{ks:Kn}(h:BW H zs n ks rs)(s:mo):BW H' zs n ks rs:=#[h.1,λi B=>by
 let k t a b r v d o J w:=h.2 i B
 erw[k,t,a,b,r,v,d,o,s _ _ J,w]]
inductive xG(PL PS WC:eN)
 |mk (p:eN)(es:En)(ks:Kn)(rs:mx) (_:vs=[.ref p])(_:WebS PL PS WC H p es ks rs)(_:ks.L=es.L)(_:es.L<=62)(_:∀ q zs H',mo->H q=kf->H' q=Z (.lst zs)->BW H' zs es.L ks rs->Q (.ref q) H')
def xN:aw ["web"] ["web"] (aq ni):=by ac_nf
def Gd{PS:eN}(F:Fun K "links_of" "links_of" ni f fd)(T:TxtZ mg)(cw:CW K q)(TL:CT K PL)(TS:CT K PS):kt 1 f fd ["web"] (xG PL PS q):=by
 refine F.ok xN (by walk_at "l") λl A I s H M Q ef N h=>?_
 let p y m rs rfl{dx fs d xs q5 z5 Y l1 ac tk l5 am hs}kl aa kk:=h;let an:xs.L=y.L:=tk.1;let av:z5.L=y.L:=hs.1;let ct:∀ b,CT K (cls PL PS b):=λb=>by
  unfold cls;split
  .exact TS
  .exact TL
 intro Xc Dc;erw[_,(aj (aF (eM [] ["sides","tie"] (CP U T.n_zip (ae (aW (pv 0) U) (ae (aW (pv 0) U) ai))) (λC ex s H=>(dq (n:=2) (K:=K) U U (ay (aU (i:=0) (show(["sides","tie"]:E ff).l from by decide) U (Or.inl U)) (ay (aU (i:=1) (show(["sides","tie"]:E ff).l from by decide) U (Or.inl U)) br)))) pt_c (λC ex s H=>(cm (ae (tD K (pv 0) ak) (ae (tD K (pv 0) ak) (ae (pM (K:=K) U (pv 1) U) ai)))))))),3]
 erw[9,p,q,dx,fs,9,Y,cw.cl,cw.n5,l5,9,p,q,dx,fs,9,Y,cw.cl,cw.n2,l1,q5,d,U,#[_,SqL.of am],#[_,SqL.of ac],wQ (K:=K) (xs:=z5) (zs:=xs) (λi v O=>Same H O/\BW O v i m rs) (LK (ar ∅)) ∅ #[λ_ _ e=>e,U,λi B=>by lia] (λi v O _ z=>#[SqL.of (z.1 _ _ am),SqL.of (z.1 _ _ ac)]) ?_ ?_ ?_]
 .rintro i x z v O T2 J hz ⟨u,hY⟩ al;let B:i<y.L:=by rw[← av];exact(Ll.mp J).1
  let e eg:∃ e,y[i]?=Z e:=#[_,Lj B];let k g:∃ k,m[i]?=Z k:=#[_,Lj ∅]
  let t a b r r' y1 y2 y3 y4 y5 y6:=hs.2 i B;rw[J]at y1
  cases y1
  let p' ab x1 x2:=tk.2 i e k eg g;rw[hz]at x1
  cases x1
  let L:=u.Q (ah al (.tup [.ref t,.ref p']));erw[T2,9,SqT.of af,173462,yesT ?_];erw[9,t,_,00,41,SqT.of (L _ _ y2),at0,9,t,_,01,41,SqT.of (L _ _ y2),at1,9,p',_,ab,37,L _ _ x2,(ct _).cl,(ct _).n3,HG _ _ _,(by show 3<=P7;decide),λt4 aI=>?_]
  let s4:=ah aI (.tup [iV a,iV b,.int k.2]);let ap:=(ah al (.tup [.ref t,.ref p'])).Q s4;let aS:=hY.mono ap;erw[u.Q ap,by rw[Ls,hY.1];rfl,λj hj=>?_]
  by_cases c:j<i
  .let k' t' a' b' w1 w2 v0 v1 v2:=aS.2 j c;erw[k',t',a',b',w1,w2,v0,by rw[Lu (by rw[hY.1];exact c)];exact v1,v2]
  .let:j=i:=by lia
   subst this;erw[k,t4,a,b,r,r',g,by rw[← hY.1,Lq (Lo _),Mb];rfl,af,y3,y4,y5,y6]
 .rintro v O ⟨u,hY⟩ D hD;rw[av]at hY;let aT:H D=kf:=by
   cases z:H D with
   |none=>rfl
   |some o=>rw[u _ _ z]at hD;cases hD
  exact kk D v _ (u.Q (ah hD _)) aT af (hY.mono (ah hD _))
 .rintro i v O ⟨_,hY⟩;rw[hY.1];exact Lo _
open KF (tE)
theorem ic(S T:R->im):∀ l:E R,par (λt=>S t ^^ T t) l=(par S l ^^ par T l)
 |[]=>rfl
 |d::l=>by
  rw[aV,aV,aV,ic S T l]
  cases S (d/2)<;>cases T (d/2)<;>cases par S l<;>cases par T l<;>rfl
theorem par_congr{S T:R->im}:∀{l:E R},(∀ d∈l,S (d/2)=T (d/2))->par S l=par T l
 |[],_=>rfl
 |d::l,h=>by rw[aV,aV,h d (Lv ..),par_congr λx J=>h x (Lr _ J)]
theorem Ap:∀ l:E R,par (λ_=>j5) l=j5
 |[]=>rfl
 |d::l=>by rw[aV,Ap l];rfl
theorem kW(i:R):∀{l:E R},l.l->par (λt=>decide (t=i)) l=(decide (2*i∈l) ^^ decide (2*i+1∈l))
 |[],_=>rfl
 |d::l,n=>by
  let a N:=LV.mp n;rw[aV,kW i N];by_cases c0:d=2*i
  .simp!
  .grind
structure Dl(N:R)(rs:mx)(ls:E KF.Lk):Prop where
 nd:rs.flatten.l
 all:∀ d,d<2*N->d∈rs.flatten
 lt:∀ r∈rs,∀ d∈r,d<2*N
 rn:∀ r∈rs,r.l
 ln:ls.L=N
 sd:∀(i:R)(l:KF.Lk),ls[i]?=Z l->(∃ r,rs[l.1]?=Z r/\2*i∈r)/\∃ r,rs[l.2.1]?=Z r/\2*i+1∈r
theorem Dl.odd{N:R}{rs:mx}{ls:E KF.Lk}(D:Dl N rs ls)(u:R){a:R}{ad:E R}(H:rs[a]?=Z ad):∀ i,i<=N->(KF.oddE ls u i).O a=par (λt=>u.O t&&decide (t<i)) ad
 |0,_=>by
  show(0:R).O a=_;rw[MN];exact((par_congr λd _=>by simp!).Q (Ap ad)).Y
 |i+1,h=>by
  let L:=D.odd u H i ∅
  let l C:∃ l,ls[i]?=Z l:=#[_,Lj (by rw[D.ln];lia)]
  let{r g T}{v m k}:=D.sd i l C;let b:=D.rn ad (Lm H);let O:decide (2*i∈ad)=decide (l.1=a):=decide_eq_decide.mpr #[λz=>jC D.nd g H T z,λz=>by simp!]
  let b1:decide (2*i+1∈ad)=decide (l.2.1=a):=decide_eq_decide.mpr #[λz=>jC D.nd m H k z,λz=>by simp!]
  unfold KF.oddE;by_cases c:u.O i=i0
  .rw[Rw c,Mm,L,KF.lkA_is C];unfold KF.endX;rw[Mm,LP,LP,← O,← b1,← kW i b,← ic];refine par_congr λd _=>?_;by_cases z:d/2=i
   .simp!
   .rw[P6 z,Ml];congr 1;exact decide_eq_decide.mpr ∅
  .rw[Rx c,L];refine par_congr λd _=>?_;by_cases z:d/2=i
   .simp!
   .congr 1;exact decide_eq_decide.mpr ∅
def Dl.oddN(D:Dl N rs ls)(u:R){a:R}{ad:E R}(H:rs[a]?=Z ad):(KF.oddE ls u N).O a=par (λt=>u.O t) ad:=by
 rw[D.odd u H N (Lo _)];refine par_congr λd hd=>?_;let:=D.lt ad (Lm H) d hd;grind
theorem Dl.rooms(D:Dl N rs ls):∀ l∈ls,l.1<rs.L/\l.2.1<rs.L:=λl C=>by
 let i B:=Mg C;let{_ g _}{_ m _}:=D.sd i l B;erw[(Ll.mp g).1,(Ll.mp m).1]
theorem Ar{n:R}{ls:E KF.Lk}(hl:∀ l∈ls,l.1<n/\l.2.1<n)(u:R):∀ i,i<=ls.L->KF.oddE ls u i<2^n
 |0,_=>MV n
 |i+1,h=>by
  unfold KF.oddE;let L:=Ar hl u i ∅
  split
  .let l e:∃ l,ls[i]?=Z l:=#[_,Lj ∅]
   let z Q:=hl l (Lm e);rw[KF.lkA_is e];exact MF L (MF (Mj ∅ z) (Mj ∅ Q))
  .exact L
theorem E8{x y:R}(J:x<2^n)(Q:y<2^n)(h:∀ a,a<n->x.O a=y.O a):x=y:=Ma λa=>by
 by_cases c:a<n
 .exact h a c
 .rw[OA (L6 J (Mx ∅ ∅)),OA (L6 Q (Mx ∅ ∅))]
def Hm{S:R->im}(w:iI m es ts)(h:Fl es S J){r:E R}(c:CR (fol es ts) (2*es.L) r):par S r=j5:=by
 let x l rfl a:=c.ch;let j:=c.lt x (Lv ..);let:=AM w h a j (λt u=>c.lt t (Lr _ u)) j;rw[C4]at this;rw[aV];let A:par S [x]=S (x/2):=by rw[aV];exact Ml _
 simp!
def Li(rs:mx)(S M:R):Prop:=∀(k:R)(r:E R),rs[k]?=Z r->parR S r=parR M r
theorem vA(S:R):∀ r:E R,par (λt=>S.O t) r=decide (parR S r=1)
 |[]=>rfl
 |d::r=>by
  let L:=vA S r;rw[aV,L];unfold parR;rw[Ct,zG]
  cases S.O (d/2) with
  |true =>
   rw[Rw U,im.true_xor];grind
  |false =>
   simp!
def sQ(nd:l.l){eg:R->im}(h:∀ s∈l,eg (nxt l s)=eg s):∀{s s':R},s∈l->s'∈l->eg s=eg s':=by
 let d:∀ j,(I:j<l.L)->eg l[j]=eg (l[0]'∅):=λj=>by
  induction j with
  |zero=>intro _;rfl
  |succ j L =>
   intro I;let C:l[j]'∅∈l:=Nh _
   let e:=pP C;rw[nd.idxOf_getElem j ∅,MO I,Lj I]at e
   simp!
 intro s s' Y O;let j I rfl:=MB Y;let i B rfl:=MB O;rw[d j I,d i B]
def Dl.whole(D:Dl N rs ls)(g:Gr m es ts)(hN:es.L=N)(cr:∀ r∈rs,CR (fol es ts) (2*es.L) r)(F:R->im)(hF:∀ (i:R) (l:KF.Lk),ls[i]?=Z l->F l.1=F l.2.1){a b:R}(o:a<rs.L)(M:b<rs.L):F a=F b:=by
 let w:=g.w;let eg hG:∃ eg:R->im,∀ s l,ls[s]?=Z l->eg s=F l.1:=#[λs=>match ls[s]? with|some l=>F l.1|none=>j5,λs l h=>by simp!]
 let c:∀{a:R}{r:E R}{d:R},rs[a]?=Z r->d∈r->F a=eg (d/2):=λ{a r d} Y O=>by
  let hd:=D.lt r (Lm Y) d O;let l C:∃ l,ls[d/2]?=Z l:=#[_,Lj (by rw[D.ln];lia)]
  let{k A B}{Q y1 I}:=D.sd _ l C;rw[hG _ l C];by_cases z:d%2=0
  .rw[show 2*(d/2)=d by lia]at B
   rw[jC D.nd Y A O B]
  .rw[show 2*(d/2)+1=d by lia]at I
   rw[jC D.nd Y y1 O I,hF _ l C]
 let fl:∀ d,d<2*N->eg (fol es ts d/2)=eg (d/2):=λd hd=>by
  let r f al:=MC.mp (D.all d hd);let a o:=Mg f;rw[← c o al,← c o ((cr r f).closed d al)]
 let row:∀{p:R}{l:E R},ts[p]?=Z l->∀ s∈l,eg (nxt l s)=eg s:=λ{p l} C s L=>by
  let e n T:=(w.mem p l C s).mp L;let sl:=(Ll.mp n).1;let d d1 d2 d3:∃ d,d/2=s/\hd es d=p/\d<2*es.L:=by
   obtain z|z:=T
   .erw[2*s+1,80]
    unfold hd;rw[show(2*s+1)/2=s by lia,n]
    simp!
   .erw[2*s,80]
    unfold hd;simp[*]
  let l' _ q _ _ _ _ _ _ f2 _:=w.foll d3;grind
 let r0 ac:∃ r,rs[a]?=Z r:=#[_,Lj o];let k aa:∃ r,rs[b]?=Z r:=#[_,Lj M];let d0 am:=(cr r0 (Lm ac)).ne;let d1 ab:=(cr k (Lm aa)).ne;rw[c ac am,c aa ab];let l0:=D.lt _ (Lm ac) _ am;let l1:=D.lt _ (Lm aa) _ ab;let e0 k0 _ _ _ p0 q0 m0:=w.at (d:=d0) ∅
 let j x _ _ _ p1 ef m1:=w.at (d:=d1) ∅
 let:=g.conn (λp=>∃ l s,ts[p]?=Z l/\s∈l/\eg s=eg (d0/2)) (λe n=>by
  let t y:=Mg n;let b1 b2 _:=w.ends e n;let u J:∃ l,ts[e.1]?=Z l:=#[_,Lj (by rw[w.len];exact b1)]
  let v H:∃ l,ts[e.2]?=Z l:=#[_,Lj (by rw[w.len];exact b2)]
  let tu:=(w.mem _ u J t).mpr #[e,y,.inl U];let tv:=(w.mem _ v H t).mpr #[e,y,.inr U];constructor
  .rintro⟨l,s,A,B,x3⟩;rw[J]at A
   cases A
   erw[v,t,H,tv,(sQ (w.nd _ _ J) (row J) tu B).Q x3]
  .rintro⟨l,s,A,B,x3⟩;rw[H]at A
   cases A
   erw[u,t,J,tu,(sQ (w.nd _ _ H) (row H) tv B).Q x3]) (hd es d0) (hd es d1) p0 p1 #[k0,_,q0,m0,U]
 let l s A B x3:=this;rw[ef]at A
 cases A
 rw[sQ (w.nd _ _ ef) (row ef) m1 B];exact x3.Y
theorem Dl.conn1(D:Dl N rs ls)(g:Gr m es ts)(o:es.L=N)(cr:∀ r∈rs,CR (fol es ts) (2*es.L) r):KF.Conn rs.L ls:=λb M=>by
 let F c:∃ F:R->im,∀ b,F b=i0↔∃ x,KF.Wk (ls) 0 b x:=#[λb=>@decide (∃ x,KF.Wk (ls) 0 b x) (Classical.propDecidable _),λb=>by simp!]
 let d:∀(i:R)(l:KF.Lk),ls[i]?=Z l->F l.1=F l.2.1:=λi l I=>by
  let f:F l.1=i0->F l.2.1=i0:=λz=>by
   let x J:=(c _).mp z;let:=KF.Wk.step J I (.inl U);let e:KF.bey l l.1=l.2.1:=by unfold KF.bey;rw[Rw U]
   rw[e]at this;exact(c _).mpr #[_,this]
  let h:F l.2.1=i0->F l.1=i0:=λz=>by
   let x J:=(c _).mp z;let:=KF.Wk.step J I (.inr U);by_cases q:l.2.1=l.1
   .rw[← q];exact z
   .let e:KF.bey l l.2.1=l.1:=by unfold KF.bey;rw[Rx q]
    rw[e]at this;exact(c _).mpr #[_,this]
  cases p:F l.1 with
  |true=>rw[f p]
  |false =>
   lia
 let:=D.whole g o cr F d (a:=0) (b:=b) ∅ M
 rw[(c 0).mpr #[00,.nil 0]]at this;exact(c b).mp this.Y
def UB(es:En)(ks:Kn)(L t:R):im:=match es[t]? with|some e=>(L.O e.1 ^^ L.O e.2 ^^ bH ks t)|none=>j5
def UB_at{ks:Kn}{L t:R}{e:R×R}(h:es[t]?=Z e):UB es ks L t=(L.O e.1 ^^ L.O e.2 ^^ bH ks t):=by unfold UB;rw[h]
theorem vV:∀ PL:E (R×R),(KF.flat PL).L%2=0
 |[]=>rfl
 |p::PL=>by
  rw[KF.flat_cons,My,My];let:=vV PL;lia
structure Oth(m:R)(es:En)(ts:mx)(ks:Kn)(rs:mx)(ls:E KF.Lk):Prop where
 g:Gr m es ts
 ro:cE (fol es ts) (2*es.L) (2*es.L) rs
 d:Dl es.L rs ls
 kl:ks.L=es.L
 ws:∀(i:R)(l:KF.Lk),ls[i]?=Z l->∃ k,ks[i]?=Z k/\l.2.2=k.2/\0<=k.2/\k.2<=10^(30:G).U
 m2:2<=m
 few:es.L<=24
theorem Oth.cr{m:R}{es:En}{ts:mx}{ks:Kn}{rs:mx}{ls:E KF.Lk}(O:Oth m es ts ks rs ls):∀ r∈rs,CR (fol es ts) (2*es.L) r:=λr N=>(O.ro.ring r N).cr
def Oth.lay{ks:Kn}(O:Oth m es ts ks rs ls)(L:R):KF.oddE ls (MK (UB es ks L) es.L) es.L=KF.oddE ls (MK (bH ks) es.L) es.L:=by
 refine E8 (n:=rs.L) (by rw[← O.d.ln];exact Ar O.d.rooms _ _ (Lo _)) (by rw[← O.d.ln];exact Ar O.d.rooms _ _ (Lo _)) λa o=>?_
 let H:=Lj o;rw[O.d.oddN _ H,O.d.oddN _ H];let lt:=O.d.lt _ (Lm H);let S I:∃ S:R->im,Fl es S (λp=>L.O p):=#[λs=>match es[s]? with|some x=>(L.O x.1 ^^ L.O x.2)|none=>j5,λs x J=>by simp!]
 let b:=Hm O.g.w I (O.cr _ (Lm H));let:par (λt=>(MK (UB es ks L) es.L).O t) rs[a]=par (λt=>S t ^^ (MK (bH ks) es.L).O t) rs[a]:=par_congr λd hd=>by
  let:=lt d hd;let e eg:∃ e,es[d/2]?=Z e:=#[_,Lj ∅]
  rw[gH,gH,QG (show d/2<es.L by lia),NL,NL,UB_at eg,I _ e eg]
 rw[this,ic,b,OO]
theorem Oth.lok1{ks:Kn}(O:Oth m es ts ks rs ls)(y:rs.L<=40):KF.Lok rs.L ls where
 n1:=y
 l9:=by
  let j:=O.d.ln;let ef:=O.few;lia
 sm l hl:=O.d.rooms l hl
 w0 l hl:=by
  let i B:=Mg hl;let k _ e a b:=O.ws i l B;rw[e];erw[a,O9 b ?_];unfold KF.MM;decide
def Oth.evenM{ks:Kn}(O:Oth m es ts ks rs ls)(y:rs.L<=40)(M:R):KF.oddE ls M es.L<2^rs.L/\(KF.bl (KF.oddE ls M es.L)).L%2=0:=by
 let ok:=O.lok1 y;let x:∀ l∈ls,0<=l.2.2:=λl C=>(ok.w0 l C).1;let T:=O.d.conn1 O.g U O.cr;let Y c{k I _}_:=KF.low_join (KF.far_met x T) M (λl C=>#[(ok.sm l C).1,(ok.sm l C).2,KF.far_link x C]) ls.L (Lo _);rw[O.d.ln]at Y I;erw[Y,3];rw[← I.length_eq];exact vV k
theorem Oth.even1{ks:Kn}(O:Oth m es ts ks rs ls)(y:rs.L<=40):KF.oddE ls (MK (bH ks) es.L) es.L<2^rs.L/\(KF.bl (KF.oddE ls (MK (bH ks) es.L) es.L)).L%2=0:=O.evenM y _
def Dl.marks(D:Dl N rs ls)(M:R):MK (oddU M rs) rs.L=KF.oddE ls M N:=by
 refine E8 (n:=rs.L) (M3 _ λi B=>by rw[gH,P6 ∅,OP]) (by rw[← D.ln];exact Ar D.rooms _ _ (Lo _)) λa o=>?_
 let H:=Lj o;rw[D.oddN _ H,vA,gH,QG o,NL];unfold oddU;simp[*]
def pI(g:Gr m es ts)(e:cE (fol es ts) (2*es.L) (2*es.L) rs):m+rs.L=es.L+2:=by
 let a p c:=g.part;rw[← p.same e.part];exact c
structure TxtO(mg:ff->ii eK)(TR:eN):Prop extends TxtZ mg where
 modd:∃ t,mg "MOST_ODD"=Z (.int 12 t)
 n_max:mg "max"=kf
 g_TooRough:mg "TooRough"=Z (.ref TR)
def rgh(ks:Kn)(n:R)(rs:mx):R:=(KF.bl (MK (oddU (MK (bH ks) n) rs) rs.L)).L
inductive Cm(TR PL PS WC:eN)(vs:E L2.V)(H:L2.Hp)(Q:L2.VK)(ef:L2.XK):Prop
 |mk (p:eN)(es:En)(ks:Kn)(rs:mx) (_:vs=[.ref p])(_:WebR PL PS WC H p es ks rs)(_:ks.L=es.L)(_:es.L<=30)(_:rs.L<=32)(_:(∀ r∈rs,r.L<=900))(_:(12<rgh ks es.L rs->∀ H',mo->ef (.ref TR) kf H'))(_:(rgh ks es.L rs<=12->∀ H',mo->Q (.int ((MK (oddU (MK (bH ks) es.L) rs) rs.L:R):G)) H'))
def pF:aw ["web","marks"] ["web"] (aq nh):=by ac_nf
def Gb{PS:eN}{d1:fk}(F:Fun K "marks_of" "marks_of" nh f fd)(T:TxtO mg a)(J:ExC K a)(r:k9 3 "odd_rounds" ["web"] (HR PL PS C) f1 d1)(e:k9 2 "ones" ["mask"] KF.spOnes f2 eg):FnOk P w K mg base (CXd P w) 4 f fd ["web"] (Cm a PL PS C):=by
 refine F.okD pF (by walk_at "l") λg A o s H n Q ef N h=>?_
 let p y v t rfl D j x Y u M d:=h
 intro b I;erw[_,(ag (az 1 pF.nd (r.c N (ae (pv 0) ai)))
   (ag (cz (aA yj (e.c N (ae (pv 1) ai)) (tE U T.modd) (aH _)) (aj (vo J T.g_TooRough U rN U U (ae Ik ai))) aQ)
   (aj (aF (pv 1))))),3]
 erw[9,p,y,v,t,U,D,j,x,4,u,λl m=>?_]
 let q:=λz O (k:Same l O)=>d z O (m.Q k);let L:=λz O (k:Same l O)=>M z O (m.Q k);let lt:MK (oddU (MK (bH v) y.L) t) t.L<2^t.L:=M3 _ λi B=>by rw[gH,P6 ∅,OP]
 unfold rgh at q L;generalize MK (oddU (MK (bH v) y.L) t) t.L=mk at lt q L ⊢;erw[9,mk,U,L6 lt (Mx ∅ ∅),λO k=>?_]
 erw[2469,ite2 (λz=>#[(by decide:1<=P7),L (by lia) _ k]) (λz=>?_)]
 erw[9,q (by lia) _ k]
open KF (andN orN shlN xorN)
inductive spRT(PL PS WC:eN)
 |mk (p:eN)(S:R)(es:En)(ks:Kn)(rs:mx) (_:vs=[.ref p,.int (S:G)])(_:WebR PL PS WC H p es ks rs)(_:ks.L=es.L)(_:es.L<=30)(_:rs.L<=70)(_:(∀ r∈rs,r.L<=900))(_:Li rs S (MK (bH ks) es.L))(_:∀ H',mo->Q .non H')
inductive spLO(PL PS WC:eN)
 |mk (p:eN)(S m:R)(es:En)(ts:mx)(ks:Kn)(rs:mx) (_:vs=[.ref p,.int (S:G)])(_:WebT PL PS WC H p m es ts ks)(_:WebR PL PS WC H p es ks rs)(_:Gr m es ts)(_:cE (fol es ts) (2*es.L) (2*es.L) rs)(_:ks.L=es.L)(_:0<m)(_:m<=40)(_:es.L<=30)(_:(∀ k∈ks,k.1=0∨k.1=1))(_:Li rs S (MK (bH ks) es.L))(_:∀(L:R) H',mo->L<2^m->Q (.int (L:G)) H')
def Ax{x y:R}(h:(Sum.inl (x:G):Key)=Sum.inl (y:G)):x=y:=by
 lia
def sI(b:im):G:=if b=i0 then 1 else 0
def kvS(j:R->im)(ps:E R):E (Key×V):=ps.h λ(p:R)=>((.inl ((p:R):G):Key),V.int (sI (j p)))
def vL{ps:E R}{p:R}(nd:ps.l)(h:p∈ps):valV (kvS J ps) (.inl (p:G))=Z (.int (sI (J p))):=by
 induction ps with
 |nil=>cases h
 |cons x r L =>
  rw[LV]at nd;show valV (((.inl (x:G):Key),V.int (sI (J x)))::kvS J r) _=_;obtain e|h:=Lw.mp h
  .subst e;exact bE U
  .let ne:¬ (Sum.inl (x:G):Key)=Sum.inl (p:G):=λz=>nd.1 (by rw[Ax z];exact h)
   rw[bF ne];exact L nd.2 h
def DH{ps:E R}{p:R}(h:p∉ps):valV (kvS J ps) (.inl (p:G))=kf:=by
 induction ps with
 |nil=>rfl
 |cons x r L =>
  show valV (((.inl (x:G):Key),V.int (sI (J x)))::kvS J r) _=_;let ne:¬ (Sum.inl (x:G):Key)=Sum.inl (p:G):=λz=>h (by rw[← Ax z];exact Lv ..)
  rw[bF ne];exact L λz=>h (Lr _ z)
def DI{ps:E R}{p:R}(h:p∉ps)(b:im):putK (kvS J ps) (.inl (p:G)) (.int (sI b))=kvS (λz=>if z=p then b else J z) (ps++[p]):=by
 rw[sU _ (DH h)];unfold kvS;rw[LH];refine congr (congrArg _ (MA λx j=>?_)) (by simp)
 simp only[Rx (show ¬ x=p from λz=>h (by simp!))]
def oth(e:R×R)(p:R):R:=if p=e.1 then e.2 else e.1
structure Met'(m:R)(ps wl:E R):Prop where
 nd:ps.l
 lt:∀ p∈ps,p<m
 wn:∀ p∈wl,p∈ps
def gB(s:mo){b:eN}(h:H' b=kf):H b=kf:=by
 cases z:H b with
 |none=>rfl
 |some u=>rw[s _ _ z]at h;cases h
theorem vI(x:R):∀(n:R)(ps:E R),ps.L=n->(A8 ps).O x=decide (x∈ps)
 |0,ps,h=>by
  rw[NR.mp h];show(0:R).O x=_;rw[MN];rfl
 |n+1,ps,h=>by
  let ne:ps≠[]:=λe=>by rw[e]at h;cases h
  let l:ps.dropLast++[ps.getLast ne]=ps:=Pk ne;let C:ps.dropLast.L=n:=by rw[List.length_dropLast,h];rfl
  rw[← l,rj,Mw,vI x n _ C,LP];grind
def BM{d:eN}{g:TG}(Pv:R->E V->Hp->Prop)(hz:kvs.L<=P7)(A:Pv 0 [] H1)(hl:∀ i ys H,i<=kvs.L->Pv i ys H->H d=Z (.frz o (.dK kvs)))
  (hs:∀ i k y ys H,kvs[i]?=Z (k,y)->Pv i ys H->g (kV k) (Lz n kf++L) H λh H2=>h.drop n=L/\tt h H2 λb H3=>if b=i0 then Y h H3 (λy H4=>Pv (i+1) (ys++[y]) H4) else Pv (i+1) ys H3) (hd:∀ ys H,Pv kvs.L ys H->QQ ys H) (Q:∀ i ys H,Pv i ys H->ys.L<=i)
  : iW g tt Y n L (Itk o kvs d) H1 QQ:=by
 erw[λi m ys H=>m=kvs.L-i/\i<=kvs.L/\Pv i ys H,#[kvs.L,by simp,LU _,A],3]
 rintro i m ys H ⟨rfl,B,p⟩;let q:=hl i ys H B p;let c:=Q i ys H p;erw[16]
 by_cases j:i<kvs.L
 .refine .inr #[#[q,j],λt H2=>Pv (i+1) t H2,λt H2 v=>#[kvs.L-(i+1),12,j,v],λx eg y=>?_]
  let k y f rfl rfl:=y;exact hs i k y ys _ f p
 .let e:i=kvs.L:=by lia
  subst e;exact .inl #[#[q,Lo _],hd ys H p]
def xor3(a b c:im):Qt (Qt (sI a) (if b=i0 then 1 else 0)) (sI c)=sI (a ^^ b ^^ c):=by cases a<;>cases b<;>cases c<;>decide
def bt_sI(S t:R):Qr ((S:G)/2^((t:R):G).U) 1=sI (S.O t):=by
 rw[E6,zG];unfold sI;split<;>rfl
theorem Dt{ps:E R}(nd:ps.l)(h:∀ p∈ps,p<m):ps.L<=m:=iP nd h
inductive lQ(C:eN)
 |mk (p a b s x:_) (_:vs=[.ref p,.int x])(_:TieAt H p C a b s)(_:Q (.int (if x=a then b else a)) H)
def Met'.new{ps wl:E R}{y:R}(h:Met' m ps wl)(c:y∉ps)(d:y<m):Met' m (ps++[y]) (wl++[y]):=by
 erw[Mt.mpr #[h.nd,by simp,λa o b M z=>c (by rw[← LB.mp M,← z];exact o)],λy Q=>?_,λy Q=>?_]
 .obtain z|z:=LY.mp Q
  .exact h.lt y z
  .rw[LB.mp z];exact d
 .obtain z|z:=LY.mp Q
  .exact Mo _ (h.wn y z)
  .exact LX _ z
def fZ:aw ["web","ties","pushing","number"] ["web","ties"] (aq gR):=by ac_nf
def ok_rt{PS:eN}{d1:fk}(F:Fun K "refuse_ties" "refuse_ties" gR f fd)(T:Txt mg)(cw:CW K a)(an:k9 2 "pushes" ["web"] (Cg PL PS a) f1 d1)(am:k9 1 "odd_at" ["web","ties","number"] (rV PL PS a) f2 eg):kt 3 f fd ["web","ties"] (spRT PL PS a):=by
 refine F.ok fZ (by walk_at "l") λg A o s H I Q ef N h=>?_
 let p S y v rs rfl wb kl aa aZ aS ev t:=h
 intro Xc Dc;erw[_,(ag (az 2 fZ.nd (an.c N (ae (pv 0) ai)))
   (aj (mj (bf U T.n_range (ae (aG aD (by rfl) T.n_len cq (ae (aW (pv 0) U) ai)) ai)) (bp 3 fZ.nd) (aj (cz (aA mz (am.c N (ae (pv 0) (ae (pv 1) (ae (pv 3) ai)))) (am.c N (ae (pv 0) (ae (pv 2) (ae (pv 3) ai)))) (aH _)) (aj cG) aQ))))),3]
 erw[9,p,y,v,rs,U,wb,kl,aa,λl m=>?_];let aT:=wb.mono m;let b fs x D q5 z5 Y _ _ _ l5 ac hR:=id aT;let aI:z5.L=rs.L:=hR.1;generalize hM:MK (bH v) y.L=M at *;erw[9,p,a,b,fs,9,Y,cw.cl,cw.n4,l5,q5,z5,U,.inl (SqL.of ac),329,dU (n:=(z5.L:G).U) (λi L O=>∃ v3,L=[Z (.ref p),Z (.int (S:G)),Z (.int (M:G)),v3]/\Same l O/\∀ j r,j<i->rs[j]?=Z r->parR S r=parR M r) #[9,λ_ _ e=>e,λj r h=>Ry h (MJ _)] ?_ ?_]
 .rintro i L O B ⟨v3,rfl,k,al⟩;let e0:(0:G)+(i:G)=(i:G):=Nb _;rw[e0];let r ab:∃ r,rs[i]?=Z r:=#[_,Lj ∅]
  erw[2457,p,S,i,y,v,rs,r,U,aT.mono k,ab,aS r (Lm ab),λq d=>?_];erw[2457,p,M,i,y,v,rs,r,U,aT.mono (k.Q d),ab,aS r (Lm ab),λJ s4=>?_];let ap:=(k.Q d).Q s4;erw[38,ite2 (λc=>?_) (λc=>?_)]
  .let C:parR S r≠parR M r:=λz=>by grind
   exact Ry (ev i r ab) C
  .let C:parR S r=parR M r:=by grind
   erw[9,ap,λj r2 u av=>?_];by_cases e:j=i
   .grind
   .grind
 .rintro L O ⟨v3,rfl,k,al⟩;rw[Ly,aI]at al;exact t _ (m.Q k)
def so:aw ["self","place"] ["self","place"] (aq cN):=by ac_nf
def vB(F:Fun K "across" "Tie.across" cN f fd)(T:CT K C):kt 1 f fd ["self","place"] (lQ C):=by
 refine F.ok so (by walk_at "l") λg A o s H n Q ef N h=>?_
 let p a b st x rfl{j Y}k:=h;intro B I;erw[_,(aj (aF (g9 (aA eO (pv 1) (aW (pv 0) U) (aH _)) (aW (pv 0) U) (aW (pv 0) U)))),3];erw[153,p,C,j,37,Y,T.cl,T.n1,dN _ _ _,230];refine ite2 (λc=>?_) (λc=>?_)
 .erw[9,p,C,j,37,Y,T.cl,T.n2,fj _ _ _,3];rw[Rw (V.int.inj (Rl c))]at k;exact k
 .erw[9,p,C,j,37,Y,T.cl,T.n1,dN _ _ _,3];rw[Rx (λz=>c (QG (by rw[z])))]at k
  exact k
def b8:aw ["web","ties","signs","waiting","place","number","tie","there"] ["web","ties"] (aq kN):=by ac_nf
def ok_lo{cA g0 g1 PS WC:eN}{d1 d2 cB cd cf bv:fk}(F:Fun K "laying_of" "laying_of" kN f fd)(T:Txt mg)(cw:CW K WC)(TL:CT K PL)(TS:CT K PS)(bK:k9 3 "refuse_ties" ["web","ties"] (spRT PL PS WC) f1 d1)(am:k9 1 "mask_of" ["places"] (spMask K) f2 d2)(a0:Met P w K mg base 1 PL "across" ["self","place"] (lQ PL) I cB)(a1:Met P w K mg base 1 PS "across" ["self","place"] (lQ PS) cA cd)(u0:Met P w K mg base 1 PL "wish" ["self"] (lP j5) g0 cf)(u1:Met P w K mg base 1 PS "wish" ["self"] (lP i0) g1 bv):kt 4 f fd ["web","ties"] (spLO PL PS WC):=by
 refine F.ok b8 (by walk_at "l") λab A aa s H vs Q ef N h=>?_
 let p S m es ts ks rs rfl wt wr g ro kl m0 ce an bY ev kk:=h;let hu:=oy N;let aT:=N.units;let bZ:=TL.cl;let b0:=TS.cl;let mf:=IC g;let bi:=Ag ro;let ca:∀ r∈rs,r.L<=900:=λr N=>by
  let:=iP (ro.ring r N).nd (ro.ring r N).lt;lia
 let dx fs q1 xs q3 z3 hp lm l1 Y tk l3 h3 cg:=id wt
 intro Xc Dc;erw[_,(ag (aR (bK.c N (ae (pv 0) (ae (pv 1) ai))))
   (ag (az 2 b8.nd (tG (oP ak ak sW) U U (λz=>by cases z) ∅))
   (ag (az 3 b8.nd (bC (ae ak ai)))
   (ag (fN PassesOwn.never (aA (C6 aT) (pv 3) (bC ai) (aH _)) (ag (az 4 b8.nd (CZ LG PySem.F.slot_list_pop PySem.F.type_list_pop mt_pop (pv 3)))
   (aj (mj (aJ (bA (aW (pv 0) U) (pv 4))) (bp 5 b8.nd) (ag (az 6 b8.nd (bA (aW (pv 0) U) (pv 5)))
   (ag (az 7 b8.nd (FR (tw (pv 6) bZ a0.me a0.ok (N.mono ∅) a0.bn .nil mw (ae (pv 4) ai)) (tw (pv 6) b0 a1.me a1.ok (N.mono ∅) a1.bn .nil mw (ae (pv 4) ai))))
   (aj (cz (Ak (pN hu (pv 7) (pv 2))) (ag (gm hu (pv 2) (pv 7) (ax i8 (ax i8 (ib hu (pv 2) (pv 4) (λ_ _=>rfl)) (FR (mh (pv 6) bZ u0.me u0.ok (N.mono ∅) u0.bn .nil mw) (mh (pv 6) b0 u1.me u1.ok (N.mono ∅) u1.bn .nil mw))) (ax eB (ax iN (pv 1) (pv 5)) ak)) U)
   (aj (aR (d7 LG LN LL aO (pv 3) (ae (pv 7) ai))))) aQ))))))))
   (aj (aF (am.c N (ae (eM [("signs",2)] ["place"] (JR (pv 2)) pg_c (λC ex s H=>(gk (aA eO (ib hu (pv 1) (pv 0) (λ_ _=>rfl)) ak (aH _)))) (λC ex s H=>(pv 0))) ai)))))))),3]
 erw[153,p,S,es,ks,rs,U,wr,kl,an,4,ca,ev,λH1 s1=>?_]
 intro d hd;erw[af,[(.inl ((0:R):G),.int 0)],U,(by show 1<=15;decide),3]
 let sd:Same H1 (upd (upd H1 d (.dK [])) d (.dK (eE [] [(.inl ((0:R):G),.int 0)]))):=aC (ah hd _) hd _;let bz:(upd (upd H1 d (.dK [])) d (.dK (eE [] [(.inl ((0:R):G),.int 0)]))) d=Z (.dK (kvS (λ_=>j5) [0])):=by
  rw[af];rfl
 generalize upd (upd H1 d (.dK [])) d (.dK (eE [] [(.inl ((0:R):G),.int 0)]))=O at sd bz;erw[(by show 1<=P7;decide),λq hq=>?_]
 let sq:=ah hq (.lst [.int 0]);let bT:q≠d:=λz=>by simp!
 let aI:H1 q=kf:=gB sd hq;erw[λmm L H'=>∃(Pl:R->im)(ps wl:E R)(v4 v5 v6 v7:ii V),mm=2*(m-ps.L)+wl.L/\mm<=80/\L=[Z (.ref p),Z (.int (S:G)),Z (.ref d),Z (.ref q),v4,v5,v6,v7]/\Same H1 H'/\H' d=Z (.dK (kvS Pl ps))/\H' q=Z (.lst (wl.h iV))/\Met' m ps wl,#[_,λ_=>j5,[0],[0],597,(by show 2*(m-1)+1<=80;lia),U,sd.Q sq,sq _ _ bz,af,#[(by simp),λx J=>by rw[LB.mp J];exact m0,λx J=>J]],3]
 rintro mm L H3 ⟨Pl,ps,wl,v4,v5,v6,v7,rfl,cD,rfl,s3,b6,av,mt⟩;erw[9,(by show 0<=P7;exact LU _),λl B=>?_]
 let sl:=ah B (.lst []);erw[5,yt (SqL.of (sl _ _ av)),yt (ps:=[]) (SqL.of af),pV _,pV _,57];rw[AG];let ch:=s3.Q sl;let ci:=sl _ _ b6;let bP:=sl _ _ av;generalize upd H3 l (.lst [])=H4 at ch ci bP;refine ite2 (λc=>?_) (λc=>?_)
 .let ne:wl≠[]:=λz=>by rw[z,QG U]at c;cases c
  let cu:wl.dropLast++[wl.getLast ne]=wl:=Pk ne;let x J:∃ x,x=wl.getLast ne:=#[9];let bb hw:∃ bb,bb=wl.dropLast:=#[9];rw[← J,← hw]at cu;subst cu;clear J hw ne c;let cv:=mt.wn x (by simp)
  let xm:=mt.lt x cv;let row a2:∃ row,ts[x]?=Z row:=#[_,Lj (by rw[g.w.len];exact xm)]
  let cP:=Dt mt.nd mt.lt;erw[λac H'=>∃(Pl:R->im)(aZ a9:E R)(v4 v5 v6 v7:ii V),2*(m-aZ.L)+a9.L<2*(m-ps.L)+(bb++[x]).L/\ac=[Z (.ref p),Z (.int (S:G)),Z (.ref d),Z (.ref q),v4,v5,v6,v7]/\Same H1 H'/\H' d=Z (.dK (kvS Pl aZ))/\H' q=Z (.lst (a9.h iV))/\Met' m aZ a9,λac H' ⟨Pl,aZ,a9,a4,a5,a6,a7,lt,e1,e2,e3,e4,e5⟩=>#[_,lt,Pl,aZ,a9,a4,a5,a6,a7,U,Mi (LK lt) cD,e1,e2,e3,e4,e5],3];let ck:((bb++[x]).h iV)[((bb++[x]).h iV).L-1]?=Z (iV x):=by
   rw[LH,Ls,Lp];show(bb.h iV++[iV x])[bb.L+1-1]?=_;rw[OW,Lq (by rw[Lp];exact Lo _),Lp,Mb]
   rfl
  erw[9,.inl #[6,SqL.of bP],q,_,iV x,10,bP,ck,3];let co:((bb++[x]).h iV).dropLast=bb.h iV:=by
   rw[LH];exact List.dropLast_concat
  rw[co];let s5:Same H1 (upd H4 q (.lst (bb.h iV))):=aC ch aI _;let cy:(upd H4 q (.lst (bb.h iV))) d=Z (.dK (kvS Pl ps)):=by rw[ao (Ne.Y bT)];exact ci
  let a3:(upd H4 q (.lst (bb.h iV))) q=Z (.lst (bb.h iV)):=af;generalize upd H4 q (.lst (bb.h iV))=H5 at s5 cy a3;let r r1 r2:=cg.2 x row a2;let cp:=s1.Q s5;let rl:row.L<=es.L:=iP (g.w.nd x row a2) λt ht=>by
   let e n _:=(g.w.mem x row a2 t).mp ht;exact(Ll.mp n).1
  erw[9,p,WC,dx,fs,9,cp _ _ hp,cw.cl,cw.n3,l3,9,q3,z3,165,SqL.of (cp _ _ h3),aE r1,r,U,#[_,SqL.of (cp _ _ r2)],bh (K:=K) (xs:=row.h iV) (λj L H6=>∃(Pl:R->im)(aZ a9:E R)(v5 v6 v7:ii V),L=[Z (.ref p),Z (.int (S:G)),Z (.ref d),Z (.ref q),Z (iV x),v5,v6,v7]/\Same H1 H6/\H6 d=Z (.dK (kvS Pl aZ))/\H6 q=Z (.lst (a9.h iV))/\Met' m aZ a9/\x∈aZ/\2*(m-aZ.L)+a9.L<2*(m-ps.L)+(bb++[x]).L) #[Pl,ps,bb,149,s5,cy,a3,#[mt.nd,mt.lt,λy hy=>mt.wn y (by simp[hy])],cv,by rw[Ls,LZ];lia] (λj L H6 _ al=>by let _ _ _ _ _ _ _ z _:=al;exact SqL.of (z _ _ (s1 _ _ r2))) ?_ ?_]
  .rintro j v L H6 a8 ⟨Pl,aZ,a9,v5,v6,v7,rfl,s6,bR,ba,be,bU,b5⟩;rw[Lx]at a8;let t ht rfl:=LC.mp a8;let e n aS:=(g.w.mem x row a2 t).mp (Lm ht);let k u:∃ k,ks[t]?=Z k:=#[_,Lj (by let:=(Ll.mp n).1;lia)]
   let cs:=s1.Q s6;let p' ap x1 x2:=(tk.mono cs).2 t e k n u;let b1 b2 bne:=g.w.ends e (Lm n);let om:oth e x<m:=by unfold oth;split<;>assumption
   let cK:=Dt be.nd be.lt;let cc:(if(x:G)=(e.1:G) then(e.2:G) else(e.1:G))=((oth e x:R):G):=by
    unfold oth;by_cases c:x=e.1
    .rw[Rw ∅,Rw c]
    .rw[Rx ∅,Rx c]
   erw[9,p,WC,dx,fs,9,cs _ _ hp,cw.cl,cw.n2,l1,9,q1,xs,165,SqL.of (cs _ _ Y),aE x1,3];by_cases c:k.1=1
   .rw[QG c]at x2;refine .inr #[9,p',ap,9,x2,rQ _ _ _ ∅ ∅ ∅,9,p',21,(x:G),U,#[ap,x2],3]
    rw[cc];erw[153,d,9,.inl #[_,.inl ((oth e x:R):G),.inl bR,10],57];by_cases bm:oth e x∈aZ
    .rw[vL be.nd bm];exact iteF #[Pl,aZ,a9,149,s6,bR,ba,be,bU,b5]
    .rw[DH bm];refine iteT ?_;erw[153,d,9,.inl #[_,.inl (x:G),.inl bR,U,(vL be.nd bU).Y],3];refine .inr #[9,p',ap,9,x2,rQ _ _ _ ∅ ∅ ∅,p',43411094,(show(0:G)<=(t:G) by lia),239013]
     erw[153,d,9,DPut.k (k:=.inl ((oth e x:R):G)) bR (ar (by unfold kvS;rw[Lp];lia)),3]
     let eg cb:∃ eg,putK (kvS Pl aZ) (.inl ((oth e x:R):G)) (.int (Qt (Qt (sI (Pl x)) (if i0=i0 then 1 else 0)) (Qr ((S:G)/2^((t:R):G).U) 1)))=kvS eg (aZ++[oth e x]):=#[_,by rw[bt_sI,xor3];exact DI bm _]
     let bJ:(upd H6 d (.dK (putK (kvS Pl aZ) (.inl ((oth e x:R):G)) (.int (Qt (Qt (sI (Pl x)) (if i0=i0 then 1 else 0)) (Qr ((S:G)/2^((t:R):G).U) 1)))))) q=Z (.lst (a9.h iV)):=by rw[ao bT];exact ba
     erw[9,.inl #[6,SqL.of bJ],9,q,165,bJ,ar (by rw[Lp];lia),3]
     erw[eg,aZ++[oth e x],a9++[oth e x],149,aC (aC s6 hd _) aI _,15,be.new bm om,Mo _ bU,3]
     .rw[ao (Ne.Y bT),af,cb]
     .rw[af,LH];rfl
     .simp only[Ls,LZ]at b5 ⊢;let:=Dt (Mt.mpr #[be.nd,(by simp),λa ha b M z=>bm (by rw[← LB.mp M,← z];exact ha)]:(aZ++[oth e x]).l) (m:=m) (λy hy=>(LY.mp hy).elim (be.lt y) λz=>by rw[LB.mp z];exact om)
      rw[Ls,LZ]at this;lia
   .rw[P6 c]at x2;refine .inl #[9,p',ap,9,x2,rQ _ _ _ ∅ ∅ ∅,9,p',21,(x:G),U,#[ap,x2],3]
    rw[cc];erw[153,d,9,.inl #[_,.inl ((oth e x:R):G),.inl bR,10],57];by_cases bm:oth e x∈aZ
    .rw[vL be.nd bm];exact iteF #[Pl,aZ,a9,149,s6,bR,ba,be,bU,b5]
    .rw[DH bm];refine iteT ?_;erw[153,d,9,.inl #[_,.inl (x:G),.inl bR,U,(vL be.nd bU).Y],3];refine .inl #[9,p',ap,9,x2,rQ _ _ _ ∅ ∅ ∅,p',43411094,(show(0:G)<=(t:G) by lia),239013]
     erw[153,d,9,DPut.k (k:=.inl ((oth e x:R):G)) bR (ar (by unfold kvS;rw[Lp];lia)),3]
     let eg cb:∃ eg,putK (kvS Pl aZ) (.inl ((oth e x:R):G)) (.int (Qt (Qt (sI (Pl x)) (if j5=i0 then 1 else 0)) (Qr ((S:G)/2^((t:R):G).U) 1)))=kvS eg (aZ++[oth e x]):=#[_,by rw[bt_sI,xor3];exact DI bm _]
     let bJ:(upd H6 d (.dK (putK (kvS Pl aZ) (.inl ((oth e x:R):G)) (.int (Qt (Qt (sI (Pl x)) (if j5=i0 then 1 else 0)) (Qr ((S:G)/2^((t:R):G).U) 1)))))) q=Z (.lst (a9.h iV)):=by rw[ao bT];exact ba
     erw[9,.inl #[6,SqL.of bJ],9,q,165,bJ,ar (by rw[Lp];lia),3]
     erw[eg,aZ++[oth e x],a9++[oth e x],149,aC (aC s6 hd _) aI _,15,be.new bm om,Mo _ bU,3]
     .rw[ao (Ne.Y bT),af,cb]
     .rw[af,LH];rfl
     .simp only[Ls,LZ]at b5 ⊢;let:=Dt (Mt.mpr #[be.nd,(by simp),λa ha b M z=>bm (by rw[← LB.mp M,← z];exact ha)]:(aZ++[oth e x]).l) (m:=m) (λy hy=>(LY.mp hy).elim (be.lt y) λz=>by rw[LB.mp z];exact om)
      rw[Ls,LZ]at this;lia
  .rintro L H6 ⟨Pl,aZ,a9,v5,v6,v7,rfl,s6,bR,ba,be,bU,b5⟩;erw[Pl,aZ,a9,85,b5,U,s6,bR,ba,be]
 .let e0:wl=[]:=by
   cases wl with
   |nil=>rfl
   |cons a b=>exact Ry (by rw[P6 (by simp)];rfl) c
  subst e0;erw[9,d,9,ci,λo=>?_];let cK:=Dt mt.nd mt.lt;refine BM (kvs:=kvS Pl ps) (d:=d) (o:=o) (λi ys H5=>H5=upd H4 d (.frz o (.dK (kvS Pl ps)))/\ys=((ps.j i).filter Pl).h iV) (LK (ar (by unfold kvS;rw[Lp];lia))) #[10] (λi ys H5 _ z=>by rw[z.1];exact af) ?_ ?_ ?_
  .rintro i ky y ys H5 ct ⟨rfl,rfl⟩;unfold kvS at ct;rw[Lx]at ct;let x J e2:=LC.mp ct
   cases e2
   let et:ps.j (i+1)=ps.j i++[x]:=by rw[LI,J];rfl
   erw[614,d,9,.inl #[_,.inl (x:G),.inr #[o,af],U,(vL mt.nd (Lm J)).Y],230]
   cases bB:Pl x with
   |true =>
    refine iteT #[233];rw[et,M9,LH,P4 bB];rfl
   |false =>
    refine iteF #[14];rw[et,M9,LH,Ov (by rw[bB];exact LS)]
    simp
  .rintro ys H5 ⟨rfl,rfl⟩ D hD;let el:(kvS Pl ps).L=ps.L:=by unfold kvS;rw[Lp]
   rw[el,LQ];erw[D,ps.filter Pl,U,SqL.of af,λx J=>?_,3]
   .let:=mt.lt x (M6.mp J).1
    lia
   .let sF:Same H1 (upd (upd H4 d (.frz o (.dK (kvS Pl ps)))) D (.lst (((ps.filter Pl)).h iV))):=(aC ch hd _).Q (ah hD _)
    exact kk _ _ (s1.Q sF) (M3 _ λx J=>by rw[vI x _ _ U];exact P6 λz=>by let:=mt.lt x (M6.mp z).1;lia)
  .rintro i ys H5 ⟨_,rfl⟩;rw[Lp];exact Mi (M7 _ _) (by rw[Me];exact M5 _ _)
theorem cj.smT(h:cj H xs ts)(s:KF.SmT H H'):cj H' xs ts:=#[h.1,λi l e=>by
 let p a b:=h.2 i l e
 erw[p,a,s.lst b]]
theorem mV.smT{PS:eN}{ks:Kn}(h:mV PL PS H xs es ks)(s:KF.SmT H H'):mV PL PS H' xs es ks:=#[h.1,λi e k Y O=>by
 let p j a b:=h.2 i e k Y O
 erw[p,j,a,s _ _ (λT y=>by cases y) b]]
def WebR.smT{PL PS k p:eN}{H H':Hp}{es:En}{ks:Kn}{rs:mx}(h:WebR PL PS k H p es ks rs)(s:KF.SmT H H'):WebR PL PS k H' p es ks rs:=by
 let j fs ef D z i a b c d e f g:=h;erw[j,fs,ef,D,z,i,s _ _ (λT y=>by cases y) a,b,s.lst c,d.smT s,e,s.lst f,g.smT s]
def WebT.smT{PL PS k p:eN}{H H':Hp}{m:R}{es:En}{ts:mx}{ks:Kn}(h:WebT PL PS k H p m es ts ks)(s:KF.SmT H H'):WebT PL PS k H' p m es ts ks:=by
 let j fs ef D t v a b c d e f g i:=h;erw[j,fs,ef,D,t,v,s _ _ (λT y=>by cases y) a,b,c,s.lst d,e.smT s,f,s.lst g,i.smT s]
structure WebL(TT PL PS WC:eN)(H:Hp)(p m:R)(es:En)(ts rs:mx)(ks:Kn):Prop where
 wf:∃ S,WebF S PL PS WC H p m es ts rs ks
 g:Gr m es ts
 kl:ks.L=es.L
 kin:∀ k∈ks,k.1=0∨k.1=1
 kb:∀ k∈ks,0<=k.2/\k.2<=10^(30:G).U
 few:es.L<=24
 e0:0<es.L
 tb:Tb KF.lqF KF.lpF TT H
def RX(a TT:eN)(ks:Kn)(es:En)(rs:mx)(H:Hp)(ef:XK):Prop:=12<rgh ks es.L rs->∀ eg,Same H eg->Tb KF.lqF KF.lpF TT eg->ef (.ref a) kf eg
def Dl.lnk{ks:Kn}(D:Dl N rs ls)(ws:∀ (i:R) (l:KF.Lk),ls[i]?=Z l->∃ k,ks[i]?=Z k/\l.2.2=k.2)(h:BW H zs N ks rs):LsAt KF.LkAt H zs ls:=by
 erw[by rw[h.1,D.ln],λi l C=>?_]
 let k t x y r v o Y O ef m I s:=h.2 i (by rw[← D.ln];exact(Ll.mp C).1)
 let L f A:=ws i l C;rw[o]at f
 cases f
 let{g T n}a b1 b2:=D.sd i l C;let b:=jC D.nd T ef n m;let j:=jC D.nd b1 I b2 s;erw[_,Y,t,14];rw[O,A,b,j];rfl
def mkW(es:En)(ks:Kn)(ls:E KF.Lk):R:=KF.oddE ls (MK (bH ks) es.L) es.L
inductive Cn(TR TT PL PS WC:eN)(vs:E L2.V)(H:L2.Hp)(Q:L2.VK)(ef:L2.XK):Prop
 |mk (p:eN)(m:R)(es:En)(ts rs:mx)(ks:Kn)(ls:E KF.Lk) (_:vs=[.ref p])(_:WebL TT PL PS WC H p m es ts rs ks)(_:Oth m es ts ks rs ls)(_:RX TR TT ks es rs H ef)(_:(rgh ks es.L rs<=12->∀(t:eN)(c:G)(v0 v1 v2:V)(u:R)(kv:E (R×R))(H':Hp),KF.SmT H H'->Tb KF.lqF KF.lpF TT H'->H' t=Z (.tup [v0,v1,v2])->KF.PpK H' v2 kv->kv.L<=3000->KF.oddE ls u es.L=mkW es ks ls->KF.cstU ls u es.L<=c->KF.Hls rs.L ls (mkW es ks ls) c kv->Q (.ref t) H'))
def lU:aw ["web","marks","many","links","found"] ["web"] (aq xV):=by ac_nf
def Ge{TT f5 PS WC:eN}{d1 d3 d4 d5:fk}(F:Fun K "least" "least" xV f fd)(T:TxtO mg a)(cw:CW K WC)(ap:CalD P w K mg base 4 "marks_of" ["web"] (Cm a PL PS WC) f1 d1)(av:k9 1 "links_of" ["web"] (xG PL PS WC) f2 eg)(a7:k9 11 "paired" ["many","links","marks"] (KF.spPaired TT) C d3)(aZ:k9 4 "laying_of" ["web","ties"] (spLO PL PS WC) I d4)(bb:k9 12 "hills" ["many","links","marks"] (KF.spHills TT) f5 d5):FnOk P w K mg base (CXd P w) 13 f fd ["web"] (Cn a TT PL PS WC):=by
 refine F.okD lU (by walk_at "l") λaa A b s H vs Q ef N h=>?_
 let p m y ts rs ks ls rfl wl O kx kk:=h;let{S wf}g kl a6 kb ab e0 tb:=wl;let dx fs x e o wg _ l2 am tk:=id wf;let q5 z5 l5 an r5:=wg.rounds;let q6 z6 l6 aI r6:=wg.sides;let ro:=wg.part;let cnt:=pI g ro;let m2:=g.two e0;let b6:rs.L<=24:=by lia
 let bB:1<=rs.L:=by
  let r ac _:=MC.mp (ro.all 0 ∅)
  let:=Nx ac;lia
 let ba:∀ r∈rs,r.L<=900:=λr N=>by
  let:=iP (ro.ring r N).nd (ro.ring r N).lt;lia
 let bY:z5.L=rs.L:=r5.1
 intro Xc Dc;erw[_,(ag (az 1 lU.nd (An ap.ok (N.mono ∅) U ap.mg ap.kp ap.bn .nil rN U (ae (pv 0) ai)))
   (ag (az 2 lU.nd (aG aD (by rfl) T.n_len cq (ae (aW (pv 0) U) ai)))
   (ag (az 3 lU.nd (av.c N (ae (pv 0) ai)))
   (ag (az 4 lU.nd (a7.c N (ae (pv 2) (ae (pv 3) (ae (pv 1) ai)))))
   (aj (aF (cm (ae (cR (pv 4) ak) (ae (aZ.c N (ae (pv 0) (ae (cR (pv 4) ak) ai))) (ae (bb.c N (ae (pv 2) (ae (pv 3) (ae (pv 1) ai)))) ai)))))))))),3]
 erw[9,p,y,ks,rs,U,wf.r,kl,20,ba,λz B n=>kx z B n (KF.tb_same tb n),λrg B n=>?_]
 let kk:=kk rg;erw[9,p,WC,dx,fs,9,n _ _ o,cw.cl,cw.n4,l5,q5,z5,U,.inl (SqL.of (n _ _ an)),3];rw[bY];erw[9,p,y,ks,rs,U,#[dx,fs,x,e,q6,z6,n _ _ o,l2,n _ _ am,tk.mono n,l6,n _ _ aI,r6.mono n],kl,4,λq zs M s2 nq hq lk=>?_]
 let ln:=O.d.ln
 let be:=O.d.lnk (λi l v=>by
  let k Y j _:=O.ws i l v
  erw[k,Y,j]) lk
 let bJ:=O.d.marks (MK (bH ks) y.L);let al:=n.Q s2;let a8:=KF.tb_same tb al;let bK:=O.lok1 ∅
 let bv:=O.d.conn1 O.g U O.cr;let u J:=O.even1 ∅
 unfold rgh at rg;rw[bJ]at rg;rw[bJ];let bP:KF.LnAt M (.ref q) ls:=#[q,zs,U,hq,be];erw[2457,.ref q,rs.L,_,ls,U,bP,bK,bB,bv,u,J,4,a8,λr4 c4 u4 H4 a0 aS a3 ca bi bR bT=>?_]
 let a9:=(KF.SmT.of al).Q a0;let ev:Li rs u4 (MK (bH ks) y.L):=λk r D=>by
  let a1:=O.d.oddN u4 D;let a2:=O.d.oddN (MK (bH ks) y.L) D;rw[ln]at bi;rw[bi,a2,vA,vA]at a1;let:=decide_eq_decide.mp a1;unfold parR at this ⊢;lia
 erw[9,r4,_,00,41,SqT.of a3,at0,153,r4,_,01,41,SqT.of a3,at1,p,u4,m,y,ts,ks,rs,U,wf.t.smT a9,wf.r.smT a9,g,ro,kl,84,a6,ev,λL H5 s5 cb=>?_]
 let bz:=KF.tb_same aS s5;let bm:=a0.Q (KF.SmT.of s5);erw[2457,.ref q,rs.L,_,ls,U,bP.smT bm,bK,bB,bv,u,J,20,bz,λq7 bZ kv c7 H7 b0 a4 aT b5 k3 bU a5=>?_]
 erw[(by show 3<=P7;decide),λt ht=>?_]
 let st:=ah ht (.tup [.int c4,.int (L:G),.ref q7]);let ce:c7=c4:=NS (bU.2 _ bR.1) (bR.2 _ bU.1);subst ce;rw[ln]at bT bi;exact kk t c7 _ _ _ u4 kv _ ((KF.SmT.of al).Q (bm.Q (b0.Q (KF.SmT.of st)))) (KF.tb_same a4 st) af #[q7,bZ,U,st _ _ aT,b5.mono st] k3 bi bT a5
open KF (andN orN shlN xorN)
def Oth.str{ks:Kn}(O:Oth m es ts ks rs ls){k:R}{kk:G×G}(h:ks[k]?=Z kk):(KF.lkA ls k).2.2=kk.2:=by
 let g:k<ls.L:=by rw[O.d.ln,← O.kl];exact(Ll.mp h).1
 let e:=Lj g;let L f A _:=O.ws k _ e;rw[h]at f
 cases f
 rw[KF.lkA_is e];exact A
inductive spTT(PL PS WC:eN)
 |mk (p:eN)(pv:V)(m:R)(es:En)(ts rs:mx)(ks:Kn)(ls:E KF.Lk)(kv:E (R×R)) (_:vs=[.ref p,pv])(_:WebS PL PS WC H p es ks rs)(_:Oth m es ts ks rs ls)(_:KF.PpK H pv kv)(_:kv.L<=3000)(_:∀ H',mo->Q (.int ((MK (KF.tgB ls kv) es.L:R):G)) H')
def sj:aw ["web","paper"] ["web","paper"] (aq iY):=by ac_nf
def ok_tt{PS:eN}{d1 d3:fk}(F:Fun K "tight_ties" "tight_ties" iY f fd)(T:Txt mg)(al:k9 1 "links_of" ["web"] (xG PL PS I) f1 d1)(am:k9 1 "paid_over" ["link","paper"] KF.spPaid f2 eg)(aa:k9 1 "mask_of" ["places"] (spMask K) a d3):kt 2 f fd ["web","paper"] (spTT PL PS I):=by
 refine F.ok sj (by walk_at "l") λL A o s H b Q ef N h=>?_
 let p pw m y ts rs ks ls kv rfl wb O pp k3 kk:=h;let ab:=O.few;let ln:=O.d.ln;intro Xc Dc;erw[_,(aj (aF (aa.c N (ae (eM [("paper",1)] ["number","link"] (kU U T.n_enumerate (ae (al.c N (ae (pv 0) ai)) ai)) (λC ex s H=>(dq (n:=2) (K:=K) U U (ay (aU (i:=0) (show(["number","link","paper"]:E ff).l from by decide) U (Or.inl U)) (ay (aU (i:=1) (show(["number","link","paper"]:E ff).l from by decide) U (Or.inl U)) br)))) (λC ex s H=>(gk (aA eO (am.c N (ae (pv 1) (ae (pv 2) ai))) (ax mB ak (tD K (pv 1) ak)) (aH _)))) (λC ex s H=>(pv 0))) ai)))),3]
 erw[9,p,y,ks,rs,U,wb,O.kl,4,λq zs B r nq u lk=>?_]
 let an:=O.d.lnk (λi l v=>by
  let k Y j _:=O.ws i l v
  erw[k,Y,j]) lk
 let zl:=an.1;let ap:=pp.mono r;erw[q,U,#[_,SqL.of u],ku (K:=K) (xs:=zs) (λi g M=>Same B M/\g=(upL (KF.tgB ls kv) i).h iV) (LK (ar ∅)) #[λ_ _ e=>e,U] (λi g M _ z=>SqL.of (z.1 _ _ u)) ?_ ?_ (λi g M z=>by rw[z.2,Lp];unfold upL;exact Mi (M7 _ _) (by simp))]
 .rintro i x g M T2 J ⟨s2,rfl⟩ ac;let l v t rfl ht:=an.get J;let sT:=ah ac (.tup [.int (i:G),.ref t]);let s3:=s2.Q sT;let tg:KF.tgB ls kv i=decide (((KF.pdN kv l:R):G)=2*l.2.2):=by unfold KF.tgB;rw[KF.lkA_is v]
  erw[T2,9,SqT.of af,959894];erw[153,.ref t,pw,l,kv,U,#[t,U,s3 _ _ ht],ap.mono s3,k3,λH4 s4=>?_];erw[9,t,_,02,41,SqT.of (s4 _ _ (s3 _ _ ht)),662,.inl #[by decide,by decide],230]
  rw[oG,tg];refine ite2 (λc=>?_) (λc=>?_)
  .let c':=V.int.inj (Rl c)
   rw[Rw (QG c'),LH];erw[9,s3.Q s4,U]
  .rw[Rx (λz=>c (QG (congrArg V.int (Rl z))))];erw[s3.Q s4,U]
 .rintro g M ⟨s2,rfl⟩ D hD;erw[D,upL (KF.tgB ls kv) zs.L,U,SqL.of af,λx J=>?_,3]
  .let:=L5.mp (M6.mp J).1
   lia
  .rw[pQ,zl,ln];exact kk _ ((r.Q s2).Q (ah hD _))
def FanE(es:En):Prop:=∀(k:R)(e:R×R),es[k]?=Z e->e=(0,1)∨e=(1,0)
def bj(h:FanE es){k:R}(g:k<es.L):leave es k 0/2=k/\leave es k 1/2=k/\hd es (leave es k 0)=1/\hd es (leave es k 1)=0/\∀ d,d/2=k->d=leave es k 0∨d=leave es k 1:=by
 let f:=Lj g;unfold leave;rw[f];obtain e|e:=h k _ f
 .rw[e]at f ⊢;dsimp only;rw[Rw U,Rx ∅]
  erw[260,λd hd=>by lia]
  .unfold hd;simp[*]
  .unfold hd;rw[show(2*k+1)/2=k by lia,f]
   dsimp only;simp!
 .rw[e]at f ⊢;dsimp only;rw[Rx ∅,Rw U]
  erw[260,λd hd=>by lia]
  .unfold hd;rw[show(2*k+1)/2=k by lia,f]
   simp!
  .unfold hd;grind
def D1{k:R}(h:k<n):(LD n).idxOf k=k:=by
 let a:=ud (L5.mpr h);let b:(LD n).idxOf k<n:=by
  let:=Np.mpr (L5.mpr h);rwa[L7]at this
 rw[Ob b]at a;exact L3 a
def CI(h:i<n):(LD n).x[i]?=Z (n-1-i):=by
 simp[*]
theorem Io(n:R):(LD n).x.l:=(O3 _).nodup_iff.mpr NM
def KH{k:R}(h:k<n):(LD n).x.idxOf k=n-1-k:=by
 let m:k∈(LD n).x:=Oy.mpr (L5.mpr h);let a:=ud m;let b:(LD n).x.idxOf k<n:=by
  let:=Np.mpr m;rwa[Nt,L7]at this
 rw[CI b]at a;grind
def prv(n k:R):R:=if k=0 then n-1 else k-1
def eu{k:R}(h:k<n):prv n k<n:=by unfold prv;split<;>lia
def Ko{k:R}(h:k<n):nxt (LD n).x k=prv n k:=by
 unfold nxt prv;rw[KH h,Nt,L7];split
 .rw[show n-1-k+1=n by lia,Oi,CI ∅]
  rfl
 .rw[MO ∅,CI ∅]
  show n-1-(n-1-k+1)=k-1;lia
def Dp{k:R}(h:k<n):nxt (LD n) (prv n k)=k:=by
 unfold nxt;rw[D1 (eu h),L7];unfold prv;split
 .rw[show n-1+1=n by lia,Oi,Ob ∅]
  simp[*]
 .rw[show k-1+1=k by lia,MO h,Ob h]
  rfl
structure FanT(n:R)(ts:mx):Prop where
 r0:∃ X Y,LD n=X++Y/\ts[0]?=Z (Y++X)
 r1:∃ X Y,(LD n).x=X++Y/\ts[1]?=Z (Y++X)
def yK(h:FanE es)(t:FanT es.L ts){k:R}(g:k<es.L):fol es ts (leave es k 0)=leave es (prv es.L k) 1/\fol es ts (leave es (prv es.L k) 1)=leave es k 0:=by
 let T _ M _ _:=bj h g;let _ b2 _ b4 _:=bj h (eu g);let X Y e D:=t.r0;let j s N f:=t.r1;constructor
 .rw[Ec (l:=s++j) (by rw[M];exact f),T,M,Dn (by rw[← N];exact Io _) (by rw[← N];exact Oy.mpr (L5.mpr g)),← N,Ko g]
 .rw[Ec (l:=Y++X) (by rw[b4];exact D),b2,b4,Dn (by rw[← e];exact NM) (by rw[← e];exact L5.mpr (eu g)),← e,Dp g]
def rgK(es:En)(n k:R):E R:=[leave es k 0,leave es (prv n k) 1]
theorem AF(h:FanE es){k:R}(g:k<es.L)(I:j<es.L):leave es k 0≠leave es j 1:=λz=>by
 let a:=(bj h g).2.2.1;rw[z,(bj h I).2.2.2.1]at a
 cases a
def JP{k:R}(I:j<n)(g:k<n)(e:prv n j=prv n k):j=k:=by unfold prv at e;grind
def JO(I:j<n):∃ k,k<n/\prv n k=j:=by
 by_cases c:j+1=n
 .erw[00,4,by show n-1=j;lia]
 .erw[j+1,4,by unfold prv;rfl]
def IE(h:FanE es)(t:FanT es.L ts){k:R}(g:k<es.L):CR (fol es ts) (2*es.L) (rgK es es.L k):=by
 let m o:=yK h t g;let a:=(bj h g).1;let b:=(bj h (eu g)).2.1;let c:=eu g;erw[#[37,m,o],λd hd=>?_,by unfold rgK;simp[AF h g c]]
 obtain z|z:=Lw.mp hd
 .lia
 .grind
def yz{d:R}:d∈(l.h (rgK es n)).flatten↔∃ k∈l,d=leave es k 0∨d=leave es (prv n k) 1:=by
 rw[MC];constructor
 .rintro⟨r,N,hd⟩;let k g rfl:=LW.mp N;erw[k,g,3];obtain z|z:=Lw.mp hd
  .exact .inl z
  .exact .inr (LB.mp z)
 .rintro⟨k,g,z⟩;erw[_,LW.mpr #[k,g,U],3];unfold rgK;simp[*]
theorem ID{es:En}(h:FanE es):∀{l:E R},l.l->(∀ k∈l,k<es.L)->(l.h (rgK es es.L)).flatten.l
 |[],_,_=>Na
 |k::l,n,lt=>by
  let i N:=LV.mp n;let g:=lt k (Lv ..);let lt':∀ j∈l,j<es.L:=λj I=>lt j (Lr _ I);rw[LR,Ot];refine Mt.mpr #[by unfold rgK;simp[AF h g (eu g)],ID h N lt',λa o b M z=>?_]
  subst z;let j I w:=yz.mp M;let c:=lt' j I;let d1:=bj h g;let t:=bj h (eu g);let u:=bj h c;let d:=bj h (eu c);obtain y|y:=Lw.mp o
  .obtain w|w:=w
   .exact i (by rw[show k=j by rw[← d1.1,← y,w,u.1]];exact I)
   .exact AF h g (eu c) (y.Y.Q w)
  .let y:=LB.mp y
   obtain w|w:=w
   .exact AF h c (eu g) (w.Y.Q y)
   .exact i (by rw[JP g c (by rw[← t.2.1,← y,w,d.2.1])];exact I)
theorem G3(h:FanE es)(t:FanT es.L ts):Part (fol es ts) (2*es.L) ((LD es.L).h (rgK es es.L)) where
 cr:=λr N=>by
  let k g rfl:=LW.mp N;exact IE h t (L5.mp g)
 nd:=ID h NM λk g=>L5.mp g
 all:=λd hd=>by
  let g:d/2<es.L:=by lia
  rcases(bj h g).2.2.2.2 d rfl with z|z
  .exact yz.mpr #[d/2,L5.mpr g,.inl z]
  .let k D y:=JO g;exact yz.mpr #[k,L5.mpr D,.inr (by rw[y];exact z)]
theorem fan_gr(h:FanE es)(e0:0<es.L)(t:FanT es.L ts)(Q:ts.L=2):Gr 2 es ts where
 w:=by
  let i:∀(p:R)(l:E R),ts[p]?=Z l->p<2/\l.l/\∀ t,t∈l↔t<es.L:=λp l e=>by
   let D:p<2:=by rw[← Q];exact(Ll.mp e).1
   let X Y M r:=t.r0;let j s o J:=t.r1;let H:∀{A B:E R},(A++B).l->(∀ t,t∈A++B↔t<es.L)->(B++A).l/\∀ t,t∈B++A↔t<es.L:=λ{A B} n m=>#[(List.perm_append_comm.nodup_iff).mp n,λt=>(List.perm_append_comm.mem_iff).Q (m t)];let:p=0∨p=1:=by lia
   obtain z|z:=this
   .subst z;rw[r]at e
    cases e
    erw[D,H (by rw[← M];exact NM) (λt=>by rw[← M];exact L5)]
   .subst z;rw[J]at e
    cases e
    erw[D,H (by rw[← o];exact Io _) (λt=>by rw[← o];exact Oy.Q L5)]
  erw[Q,λe eg=>?_,λp l e=>(i p l e).2.1,λp l e t=>?_]
  .let k g:=Mg eg;obtain z|z:=h k e g<;>rw[z]<;>decide
  .let v _ m:=i p l e;rw[m t];constructor
   .intro u;let f:=Lj u;erw[_,f,3];obtain z|z:=h t _ f<;>rw[z]
    .grind
    .grind
   .rintro⟨N,eg,_⟩;exact(Ll.mp eg).1
 part:=#[_,G3 h t,by grind]
 conn:=λS x p q T d ef=>by
  let f:=Lj e0;let c:=x _ (Lm f);let:S 0↔S 1:=by
   obtain z|z:=h 0 _ f<;>rw[z]at c
   .exact c
   .exact c.Y
  let b:p=0∨p=1:=by lia
  let a:q=0∨q=1:=by lia
  obtain y|y:=b<;>obtain z|z:=a<;>rw[y]at ef<;>rw[z]
  .exact ef
  .exact this.mp ef
  .exact this.mpr ef
  .exact ef
 cut:=λS x=>by
  let step:∀ k,k<es.L->S k=S (prv es.L k):=λk g=>by
   let c:=x _ (IE h t g);unfold rgK at c;rw[aV,aV,(bj h g).1,(bj h (eu g)).2.1]at c;revert c;show(S k ^^ (S (prv es.L k) ^^ j5))=j5->_;simp
  let all:∀ k,k<es.L->S k=S 0:=λk=>by
   induction k with
   |zero=>exact λ_=>rfl
   |succ k L =>
    intro g;let:=step (k+1) g;rw[show prv es.L (k+1)=k from rfl]at this;lia
  erw[λp=>if p=0 then j5 else S 0,λt e eg=>?_];rw[all t (Ll.mp eg).1];obtain z|z:=h t e eg<;>rw[z]
  .show S 0=(j5 ^^ S 0);simp
  .show S 0=(S 0 ^^ j5);simp
theorem xX{ad:R->R->Prop}(inj:∀ a J b,ad a b->ad J b->a=J):∀{A B:E R},A.l->(∀ a∈A,∃ b∈B,ad a b)->A.L<=B.L
 |[],B,_,_=>LU _
 |a::A,B,n,h=>by
  let i N:=LV.mp n;let b M r:=h a (Lv ..);let:=xX inj (A:=A) (B:=B.erase b) N λJ c=>by
   let w x v:=h J (Lr _ c);erw[w,(OL λz=>?_).mpr x,v];subst z;exact i (inj _ _ _ r v▸c)
  grind
def oddK(ks:Kn)(n k:R):im:=bH ks k ^^ bH ks (prv n k)
def KO{ks:Kn}(h:FanE es)(t:FanT es.L ts)(e:cE (fol es ts) (2*es.L) (2*es.L) rs):rgh ks es.L rs=((LD es.L).filter (oddK ks es.L)).L:=by
 let ne:∀{k j},k<es.L->j<es.L->leave es k 0≠leave es j 1:=λ{k j} g I z=>by
  let a:=(bj h g).2.2.1;rw[z,(bj h I).2.2.2.1]at a
  cases a
 let two:∀{k i:R}{r:E R},k<es.L->rs[i]?=Z r->leave es k 0∈r->(∀ d,d∈r↔d∈[leave es k 0,leave es (prv es.L k) 1])/\oddU (MK (bH ks) es.L) rs i=oddK ks es.L k:=λ{k i r} g B N=>by
  let cr:=(e.ring r (Lm B)).cr;let m o:=yK h t g
  let sub:=cr.sub (S:=λd=>d∈[leave es k 0,leave es (prv es.L k) 1]) (λd _ hd=>by
   obtain z|z:=Lw.mp hd
   .simp[*]
   .simp!) N (by simp)
  let n:∀ d,d∈r↔d∈[leave es k 0,leave es (prv es.L k) 1]:=λd=>#[sub d,λhd=>by
   obtain z|z:=Lw.mp hd
   .simp!
   .rw[LB.mp z,← m];exact cr.closed _ N]
  erw[n,3];let T:r.Perm [leave es k 0,leave es (prv es.L k) 1]:=(MX cr.nd (by simp[ne g (eu g)])).mpr n
  unfold oddU;rw[Ay B,← vA,Ao _ T,aV,aV,(bj h g).1,(bj h (eu g)).2.1,gH,gH,QG g,QG (eu g)];show(bH ks k ^^ (bH ks (prv es.L k) ^^ j5))=_;rw[Ml];rfl
 let lt:MK (oddU (MK (bH ks) es.L) rs) rs.L<2^rs.L:=M3 _ λi B=>by rw[gH,P6 ∅,OP]
 let s:∀ i,i∈KF.bl (MK (oddU (MK (bH ks) es.L) rs) rs.L)↔i<rs.L/\oddU (MK (bH ks) es.L) rs i=i0:=λi=>by
  rw[KF.mem_bl,gH,NN,decide_eq_true_iff]
 refine Nat.le_antisymm ?_ ?_
 .refine xX (ad:=λi k=>k<es.L/\∃ r,rs[i]?=Z r/\leave es k 0∈r) (λi l k h eg=>by let _ r a b:=h;let _ v J w:=eg;exact jC e.nd a J b w) (KF.bl_nd _) λi B=>?_
  let q f:=(s i).mp B;let ef:=Lj q;let cr:=(e.ring _ (Lm ef)).cr;let d hd:=cr.ne;let dl:=cr.lt d hd;let g:d/2<es.L:=by lia
  let k p C:∃ k,k<es.L/\leave es k 0∈rs[i]:=by
   rcases(bj h g).2.2.2.2 d rfl with z|z
   .erw[d/2,g,z▸hd]
   .skip
    let k D y:∃ k,k<es.L/\prv es.L k=d/2:=by
     by_cases c:d/2+1=es.L
     .erw[00,4,by show es.L-1=d/2;lia]
     .erw[d/2+1,4,by unfold prv;rw[Rx ∅];lia]
    erw[k,D,3];rw[← (yK h t D).2,y,← z];exact cr.closed d hd
  erw[k,M6.mpr #[L5.mpr p,by rw[← (two p ef C).2];exact f],p,_,ef,C]
 .refine xX (ad:=λk i=>k<es.L/\∃ r,rs[i]?=Z r/\leave es k 0∈r) (λk L i ⟨Y,r,a,b⟩ ⟨O,v,J,w⟩=>?_) ((NM).filter _) λk g=>?_
  .rw[a]at J
   cases J
   let:=((two Y a b).1 _).mp w;obtain z|z:=Lw.mp this
   .rw[← (bj h Y).1,← (bj h O).1,z]
   .exact Ry (LB.mp z) (ne O (eu Y))
  .let D y:=M6.mp g;let D:=L5.mp D;let i r a b:=e.at (d:=leave es k 0) (by let:=(bj h D).1;lia)
   erw[i,(s i).mpr #[(Ll.mp a).1,by rw[(two D a b).2];exact y],D,r,a,b]
def sB(ks:Kn)(b:im)(t:R):im:=b ^^ bH ks t
def cF(ks:Kn)(x:im):R->G
 |0=>0
 |i+1=>if sB ks x i=i0 then cF ks x i+stg ks i else cF ks x i
def sL(b:im):R:=if b=i0 then 2 else 0
def fan_UB{ks:Kn}(h:FanE es)(b:im){t:R}(u:t<es.L):UB es ks (sL b) t=sB ks b t:=by
 let e:=Lj u;rw[UB_at e];unfold sB;obtain z|z:=h t _ e<;>rw[z]<;>cases b<;>rfl
theorem yL{m:R}{es:En}{ts:mx}{ks:Kn}{rs:mx}{ls:E KF.Lk}(O:Oth m es ts ks rs ls){b:im}{u:R}(eg:∀ i,i<es.L->u.O i=sB ks b i):∀ i,i<=es.L->KF.cstU ls u i=cF ks b i
 |0,_=>rfl
 |i+1,B=>by
  show(if u.O i=i0 then KF.cstU ls u i+(KF.lkA ls i).2.2 else KF.cstU ls u i)=if sB ks b i=i0 then cF ks b i+stg ks i else cF ks b i;rw[eg i ∅,yL O eg i ∅]
  let k g:∃ k,ks[i]?=Z k:=#[_,Lj (by rw[O.kl];lia)]
  let:stg ks i=k.2:=by unfold stg;rw[g]
  rw[O.str g,this]
def KP{ks:Kn}(O:Oth 2 es ts ks rs ls)(h:FanE es)(y:rs.L<=40){c:G}(hl:KF.Hls rs.L ls (mkW es ks ls) c kv)(b:im):c<=cF ks b es.L/\(cF ks b es.L=c->∀ i,i<es.L->sB ks b i=i0->KF.tgB ls kv i=i0):=by
 let a:∀ i,i<es.L->(MK (UB es ks (sL b)) es.L).O i=sB ks b i:=λi B=>by rw[gH,QG B,NL,fan_UB h b B]
 let T n:=hl.kept (O.lok1 y) (u:=MK (UB es ks (sL b)) es.L) (by rw[O.d.ln];exact O.lay _)
 rw[O.d.ln,yL O a _ (Lo _)]at T n;erw[T,λe i B z=>(n.mpr e).tg i B (by rw[a i B];exact z)]
def KR{ks:Kn}(O:Oth 2 es ts ks rs ls)(h:FanE es){u:R}(eg:KF.oddE ls u es.L=mkW es ks ls):∃ b,KF.cstU ls u es.L=cF ks b es.L:=by
 let j q:=O.g.cut (λt=>u.O t ^^ bH ks t) λr N=>by
  let d hd:=N.ne;let ad Q J:=MC.mp (O.ro.all d (N.lt d hd));let a o:=Mg Q;let c2:=O.cr ad Q;let H:r.Perm ad:=(MX N.nd c2.nd).mpr λt=>#[N.same c2 hd J t,c2.same N J hd t];let f:=O.d.oddN u o;let A:=O.d.oddN (MK (bH ks) es.L) o;unfold mkW at eg;rw[eg,A]at f
  rw[Ao _ H,ic,← f,← par_congr (S:=λt=>(MK (bH ks) es.L).O t) (T:=bH ks) λd hd=>by
   let:=O.d.lt ad Q d hd
   rw[gH,QG (show d/2<es.L by lia),NL]]
  simp
 erw[j 0 ^^ j 1,yL O (λi B=>?_) _ (Lo _)];let e:=Lj B;let c:=q i _ e;unfold sB;let d:(u.O i ^^ bH ks i)=(j 0 ^^ j 1):=by
  refine c.Q ?_;obtain z|z:=h i _ e<;>rw[z]
  exact NK _ _
 rw[← d];simp
open KF (andN orN shlN xorN)
structure FW(PL PS WC:eN)(H:Hp)(p:eN)(es:En)(ts rs:mx)(ks:Kn):Prop where
 wf:∃ S,WebF S PL PS WC H p 2 es ts rs ks
 fe:FanE es
 ft:FanT es.L ts
 e0:0<es.L
 few:es.L<=14
 kl:ks.L=es.L
def FW.mono{PL PS k p:eN}{H H':Hp}{es:En}{ts rs:mx}{ks:Kn}(h:FW PL PS k H p es ts rs ks)(s:mo):FW PL PS k H' p es ts rs ks:=by
 let{S a}b c d e f:=h;erw[#[S,a.mono s λ_ z=>z],b,c,d,e,f]
inductive HS(PL PS WC:eN)
 |mk (p:eN)(es:En)(ts rs:mx)(ks:Kn) (_:vs=[.ref p])(_:FW PL PS WC H p es ts rs ks)(_:∀ q H',mo->H' q=Z (.lst [.int 2,.int 1])->Q (.ref q) H')
inductive spKof
 |mk (a:eN)(b:R) (_:vs=[.ref a,.int (b:G),.int (b:G)])(_:H a=Z (.lst [.int 2,.int 1]))(_:1<=b)(_:b<=3)(_:∀ H',mo->Q (.int (if b=3 then 0 else(b:G))) H')
inductive Ci(PL PS WC:eN)
 |mk (p:eN)(es:En)(ts rs:mx)(ks:Kn) (_:vs=[.ref p])(_:FW PL PS WC H p es ts rs ks)(_:∀ q H',mo->H' q=Z (.lst [.int 0,.int 1])->Q (.ref q) H')
def chs(i j:R):E T3:=if i=0 then([(1,0,0),(1,0,1)]:E T3).j j else([(0,-1,1)]:E T3).j (j-1)
def frN(i:R):G:=if i=1 then 1 else 0
def ordL(i:R):E V:=([.int 0,.int 1]:E V).j i
theorem nC{ws:E T3}(h:LsAt TrA H ys ws)(s:∀ b xs,H b=Z (.tup xs)->H' b=Z (.tup xs)):LsAt TrA H' ys ws:=h.imp λ_ _ ⟨a,x,y⟩=>#[a,x,s _ _ y]
theorem B8(h:H q=Z (.lst xs)):∀ b ys,H b=Z (.tup ys)->(upd H q (.lst zs)) b=Z (.tup ys):=λb ys e=>by
 rw[ao (λz=>by simp!)]
 exact e
def iL:aw ["self","laying","unlike"] ["self","laying"] (aq bO):=by ac_nf
def De{c:im}(F:Fun K "unpleased" "Tie.unpleased" bO f fd)(T:CT K C)(d:Met P w K mg base 1 C "wish" ["self"] (lP c) q eg):kt 2 f fd ["self","laying"] (pz C c):=by
 refine F.ok iL (by walk_at "l") λg A o s H n Q ef N h=>?_
 let p a b st l rfl{j Y}J M k:=h;let i:=T.cl
 intro B I;erw[_,(ag (az 2 iL.nd (ax eB (ax i8 (ax iN (pv 1) (aW (pv 0) U)) (ax iN (pv 1) (aW (pv 0) U))) ak))
   (aj (aF (nB mz (pv 2) (mh (pv 0) i d.me d.ok (N.mono ∅) d.bn .nil mw) (aH _))))),3]
 erw[153,p,C,j,37,Y,T.cl,T.n1,dN _ _ _,165,J,3];erw[153,p,C,j,37,Y,T.cl,T.n2,fj _ _ _,165,M,3];erw[239013];erw[153,p,j,9,Y,rQ _ _ _ ∅ ∅ ∅,p,14]
 erw[14];let e:=Jc (l/2^a.U) (l/2^b.U);let L:Q (V.bl (unp c a b l)) H:=k;unfold unp bit at L;rw[← e]at L;exact L
def f9:aw ["web","near","tie"] ["web"] (aq gY):=by ac_nf
def Kc{PS:eN}(F:Fun K "near_places" "near_places" gY f fd)(T:Txt mg)(cw:CW K a)(TL:CT K PL)(TS:CT K PS):kt 1 f fd ["web"] (HS PL PS a):=by
 refine F.ok f9 (by walk_at "l") λl A o s H M Q ef N h=>?_
 let p y ts rs v rfl fw kk:=h;let{S D fs r xs Y wg _ l2 am tk}fe ft e0 ab kl:=fw;let ct:∀ b,CT K (cls PL PS b):=λb=>by
  unfold cls;split
  .exact TS
  .exact TL
 intro Xc Dc;erw[_,(ag (nA 1 [] ["place"] f9.nd (bf U T.n_range (ae (aW (pv 0) U) ai)) pg_c pt_c (λC ex s H=>ak))
   (ag (mj (aJ (aW (pv 0) U)) (bp 2 f9.nd) (ag (vp (ax i9 (bA (pv 1) (aW (pv 2) U)) (ax bI ak (aW (pv 2) U))) (vy (pv 1) (aW (pv 2) U) jT))
   (aj (vp (ax i9 (bA (pv 1) (aW (pv 2) U)) (ax bI ak (aW (pv 2) U))) (vy (pv 1) (aW (pv 2) U) jT)))))
   (aj (aF (pv 1))))),3]
 erw[9,p,a,D,fs,9,Y,cw.cl,cw.n1,wg.many,02,82,cH (n:=(2:G).U) (λi t O=>O=H/\t=Lz i (V.int 0)) ∅ #[10] ?_ ?_]
 .rintro i t O B ⟨rfl,rfl⟩;erw[U,by rw[Nk]]
 rintro t O I ⟨rfl,rfl⟩ q u;let m:=ah u (.lst [V.int 0,V.int 0]);let an:xs.L=y.L:=tk.1;erw[9,p,a,D,fs,9,m _ _ Y,cw.cl,cw.n2,l2,r,U,#[_,SqL.of (m _ _ am)],bh (K:=K) (xs:=xs) (λi L H3=>∃ v2,L=[Z (.ref p),Z (.ref q),v2]/\Same O H3/\H3 q=Z (.lst (if i=0 then[.int 0,.int 0] else[.int 2,.int 1]))) #[9,m,af] (λi L H3 _ ⟨_,_,z,_⟩=>SqL.of (z _ _ am)) ?_ ?_]
 .rintro i x L H3 J ⟨v2,rfl,c,al⟩;let B:i<y.L:=by rw[← an];exact(Ll.mp J).1
  let e d:∃ e,y[i]?=Z e:=#[_,Lj B];let k g:∃ k,v[i]?=Z k:=#[_,Lj ∅]
  let p' ac x1 x2:=tk.2 i e k d g;rw[J]at x1
  cases x1
  let x3:=c _ _ x2;let np:=aB x2 u;let up1:∀ j,Same O (upd H3 q (.lst j)):=λj=>aC c u _;let y3:∀ j,(upd H3 q (.lst j)) p'=_:=λj=>up1 j _ _ x2;let q3:∀ j,(upd H3 q (.lst j)) q=Z (.lst j):=λj=>af;let a0 a1 ap h4:∃ a0 a1:G,H3 q=Z (.lst [.int a0,.int a1])/\(a0=0/\a1=0∨a0=2/\a1=1):=by
   by_cases z:i=0
   .erw[00,00,by rw[al,Rw z],.inl #[10]]
   .erw[02,01,by rw[al,Rx z],.inr #[10]]
  let aa:∀(eg:Hp),Same O eg->eg q=Z (.lst [.int 2,.int 1])->∃ v2,[Z (V.ref p),Z (V.ref q),Z (V.ref p')]=[Z (V.ref p),Z (V.ref q),v2]/\Same O eg/\eg q=Z (.lst (if i+1=0 then[.int 0,.int 0] else[.int 2,.int 1])):=λeg g1 g2=>#[9,g1,by assumption]
  obtain z|z:=fe i e d
  .rw[z]at x3 y3;rcases h4 with⟨rfl,rfl⟩|⟨rfl,rfl⟩<;>erw[153,p',_,ac,37,x3,(ct _).cl,(ct _).n1,dN _ _ _,q,_,00,41,SqL.of ap,38,p',_,ac,37,x3,(ct _).cl,(ct _).n2,fj _ _ _,165,#[by decide,4,by decide],39333,p',_,ac,37,x3,(ct _).cl,(ct _).n1,dN _ _ _,q,_,00,00,10,ap,614,p',_,ac,37,y3 _,(ct _).cl,(ct _).n2,fj _ _ _,q,_,01,41,SqL.of (q3 _),38,p',_,ac,37,y3 _,(ct _).cl,(ct _).n1,dN _ _ _,165,#[by decide,4,by decide],39333,p',_,ac,37,y3 _,(ct _).cl,(ct _).n2,fj _ _ _,q,_,01,01,10,q3 _,U,aa _ (aC (up1 _) u _) (by rw[af];rfl)]
  .rw[z]at x3 y3;rcases h4 with⟨rfl,rfl⟩|⟨rfl,rfl⟩<;>erw[153,p',_,ac,37,x3,(ct _).cl,(ct _).n1,dN _ _ _,q,_,01,41,SqL.of ap,38,p',_,ac,37,x3,(ct _).cl,(ct _).n2,fj _ _ _,165,#[by decide,4,by decide],39333,p',_,ac,37,x3,(ct _).cl,(ct _).n1,dN _ _ _,q,_,01,01,10,ap,614,p',_,ac,37,y3 _,(ct _).cl,(ct _).n2,fj _ _ _,q,_,00,41,SqL.of (q3 _),38,p',_,ac,37,y3 _,(ct _).cl,(ct _).n1,dN _ _ _,165,#[by decide,4,by decide],39333,p',_,ac,37,y3 _,(ct _).cl,(ct _).n2,fj _ _ _,q,_,00,00,10,q3 _,U,aa _ (aC (up1 _) u _) (by rw[af];rfl)]
 rintro L H3 ⟨v2,rfl,c,al⟩;rw[Rx ∅]at al
 erw[9,kk q H3 c al]
def oh:aw ["near","behind","front"] ["near","behind","front"] (aq fy):=by ac_nf
def ok_kof{d1:fk}(F:Fun K "kept_on_front" "kept_on_front" fy f fd)(e:k9 1 "mask_of" ["places"] (KF.spMask K) f1 d1)(p:k9 1 "bits" ["mask"] KF.spBits f2 eg):kt 2 f fd ["near","behind","front"] spKof:=by
 refine F.ok oh (by walk_at "l") λg A o s H n Q ef N h=>?_
 let a b rfl k b1 b3 d:=h;intro B I;erw[_,(aj (aF (e.c N (ae (eM [("near",0),("behind",1)] ["place"] (aJ (p.c N (ae (pv 2) ai))) pg_c (λC T s H=>(gk (aA mz (ax eB (qO K (pv 1) (pv 0)) (pv 2)) (qO K (pv 1) (pv 0)) (aH _)))) (λC T s H=>(pv 0))) ai)))),3];erw[5273,λq l m r Y=>?_]
 rw[Ly]at Y;let M:b=1∨b=2∨b=3:=by lia
 let u:=m _ _ k;obtain rfl|rfl|rfl:=M
 .rw[show K2.bitsF 0 1=[0] by decide]at Y
  erw[q,U,#[_,SqL.of Y],bg (K:=K) (xs:=[V.int 0]) (λi j O=>O=l/\j=[V.int 0].j i) ∅ #[10] (λi j O _ z=>by rw[z.1];exact SqL.of Y) ?_ ?_ (λi j O z=>by rw[z.2];first|exact LU _|(rw[Me];exact M5 _ _))]
  .rintro i x j O J ⟨rfl,rfl⟩;match i,J with
   |0,J=>cases J;erw[614,a,661,SqL.of u,2517350,a,661,SqL.of u,154,iteT #[169]]
   |i+1,J=>cases J
  rintro j O ⟨rfl,rfl⟩ D L;erw[D,[0],U,SqL.of af,4,d _ (m.Q (ah L _))]
 .rw[show K2.bitsF 0 2=[1] by decide]at Y
  erw[q,U,#[_,SqL.of Y],bg (K:=K) (xs:=[V.int 1]) (λi j O=>O=l/\j=[V.int 1].j i) ∅ #[10] (λi j O _ z=>by rw[z.1];exact SqL.of Y) ?_ ?_ (λi j O z=>by rw[z.2];first|exact LU _|(rw[Me];exact M5 _ _))]
  .rintro i x j O J ⟨rfl,rfl⟩;match i,J with
   |0,J=>cases J;erw[614,a,661,SqL.of u,2517350,a,661,SqL.of u,154,iteT #[169]]
   |i+1,J=>cases J
  rintro j O ⟨rfl,rfl⟩ D L;erw[D,[1],U,SqL.of af,4,d _ (m.Q (ah L _))]
 .rw[show K2.bitsF 0 3=[0,1] by decide]at Y
  erw[q,U,#[_,SqL.of Y],bg (K:=K) (xs:=[V.int 0,V.int 1]) (λi j O=>O=l/\j=([]:E V)) ∅ #[10] (λi j O _ z=>by rw[z.1];exact SqL.of Y) ?_ ?_ (λi j O z=>by simp[*])]
  .rintro i x j O J ⟨rfl,rfl⟩;match i,J with
   |0,J=>cases J;erw[614,a,661,SqL.of u,2517350,a,661,SqL.of u,154,iteF #[10]]
   |1,J=>cases J;erw[614,a,661,SqL.of u,2517350,a,661,SqL.of u,154,iteF #[10]]
   |i+2,J=>cases J
  rintro j O ⟨rfl,rfl⟩ D L;erw[D,[],U,SqL.of af,4,d _ (m.Q (ah L _))]
def aK:aw ["web","near","order","behind","front","choices","place","width"] ["web"] (aq gj):=by ac_nf
def F8{PS:eN}{d1 d3:fk}(F:Fun K "narrow_order" "narrow_order" gj f fd)(T:Txt mg)(cw:CW K C)(aT:k9 1 "near_places" ["web"] (HS PL PS C) f1 d1)(ap:k9 2 "ones" ["mask"] KF.spOnes f2 eg)(av:k9 2 "kept_on_front" ["near","behind","front"] spKof a d3):kt 3 f fd ["web"] (Ci PL PS C):=by
 refine F.ok aK (by walk_at "l") λg A o s H I Q ef N h=>?_
 let p M ts rs v rfl fw kk:=h;let al:=N.units
 intro Xc Dc;erw[_,(ag (az 1 aK.nd (aT.c N (ae (pv 0) ai)))
   (ag (az 2 aK.nd (bC ai))
   (ag (az 3 aK.nd ak)
   (ag (az 4 aK.nd ak)
   (ag (fN PassesOwn.never (aA A4 (aG aD (by rfl) T.n_len cq (ae (pv 2) ai)) (aW (pv 0) U) (aH _)) (ag (az 5 aK.nd (bC ai))
   (ag (mj (bf U T.n_range (ae (aW (pv 0) U) ai)) (bp 6 aK.nd) (aj (cz (aA eO (ax eB (ax iN (pv 3) (pv 6)) ak) ak (aH _)) (ag (az 7 aK.nd (ap.c N (ae (av.c N (ae (pv 1) (ae (ax i9 (pv 3) (ax bI ak (pv 6))) (ae (ax i9 (pv 4) (ax bI ak (pv 6))) ai)))) ai)))
   (aj (aR (d7 LG LN LL aO (pv 5) (ae (cm (ae (pv 7) (ae (pe_un un_neg (ap.c N (ae (ax eB (bA (pv 1) (pv 6)) (pv 3)) ai))) (ae (pv 6) ai)))) ai))))) aQ)))
   (ag (az 6 aK.nd (cR (aG (rJ U al) (by rfl) T.n_min qE (ae (pv 5) ai)) ak))
   (ag (aR (d7 LG LN LL aO (pv 2) (ae (pv 6) ai)))
   (ag (az 3 aK.nd (ax i9 (pv 3) (ax bI ak (pv 6))))
   (aj (az 4 aK.nd (av.c N (ae (pv 1) (ae (pv 3) (ae (ax i9 (pv 4) (ax bI ak (pv 6))) ai))))))))))))
   (aj (aF (pv 2)))))))),3]
 erw[9,p,M,ts,rs,v,U,fw,λpn l m aS=>?_];erw[(by simp),λq d=>?_]
 let J:=ah d (.lst []);refine gL (λL O=>∃(i:R)(v5 v6 v7:ii V),i<=2/\L=[Z (.ref p),Z (.ref pn),Z (.ref q),Z (.int ((2:G)^i-1)),Z (.int (frN i)),v5,v6,v7]/\Same l O/\O q=Z (.lst (ordL i))) (λL _=>match L with | [_,_,_,Z (.int b),_,_,_,_]=>(4-b).U|_=>0) #[00,kf,kf,kf,12,J,af] ?_ ?_
 .rintro L O ⟨i,v5,v6,v7,B,rfl,s3,ac⟩;let bv:=fw.mono (m.Q s3);let{S dx fs r D Y wg _}_:=bv;let bi:(ordL i).L=i:=by unfold ordL;rw[Me];show min i 2=i;lia
  erw[9,q,9,.inl (SqL.of ac),9,p,C,dx,fs,9,Y,cw.cl,cw.n1,wg.many,14757];rw[bi];refine ite2 (λc=>?_) (λc=>?_)
  .let i2:i<2:=by let:=Rl c;lia
   erw[(by show 0<=P7;decide),λqc be=>?_]
   let s4:=ah be (.lst []);erw[9,p,C,dx,fs,9,s4 _ _ Y,cw.cl,cw.n1,wg.many,02,82,dU (n:=(2:G).U) (λj L H4=>∃(v6 v7:ii V)(cs:E V),L=[Z (.ref p),Z (.ref pn),Z (.ref q),Z (.int ((2:G)^i-1)),Z (.int (frN i)),Z (.ref qc),v6,v7]/\Same O H4/\H4 qc=Z (.lst cs)/\LsAt TrA H4 cs (chs i j)) #[v6,v7,[],U,s4,af,#[by unfold chs;split<;>rfl,λk x e=>by unfold chs at e;split at e<;>simp at e]] ?_ ?_]
   .rintro j L H4 hj ⟨v6,v7,cs,rfl,s5,aI,aZ⟩;rw[Nb];let hj:j=0∨j=1:=by let:j<2:=hj;lia
    let B:i=0∨i=1:=by lia
    let ba:=s5 _ _ (s3 _ _ aS);let aa:∀(t:eN)(H5:Hp)(t3:T3)(v6 v7:ii V),Same H4 H5->H5 t=kf->chs i (j+1)=chs i j++[t3]->∃(bz bB:ii V)(bm:E V),[Z (V.ref p),Z (V.ref pn),Z (V.ref q),Z (V.int ((2:G)^i-1)),Z (V.int (frN i)),Z (V.ref qc),v6,v7]=[Z (V.ref p),Z (V.ref pn),Z (V.ref q),Z (V.int ((2:G)^i-1)),Z (V.int (frN i)),Z (V.ref qc),bz,bB]/\Same O (upd (upd H5 t (.tup [.int t3.1,.int t3.2.1,.int t3.2.2])) qc (.lst (cs++[.ref t])))/\(upd (upd H5 t (.tup [.int t3.1,.int t3.2.1,.int t3.2.2])) qc (.lst (cs++[.ref t]))) qc=Z (.lst bm)/\LsAt TrA (upd (upd H5 t (.tup [.int t3.1,.int t3.2.1,.int t3.2.2])) qc (.lst (cs++[.ref t]))) bm (chs i (j+1)):=λt H5 t3 v6 v7 sa ht e=>by
     let sb:=sa.Q (ah ht (.tup [.int t3.1,.int t3.2.1,.int t3.2.2]));erw[149,aC (s5.Q sb) be _,af,3];rw[e];let tu:=B8 (zs:=cs++[.ref t]) (sb _ _ aI);exact(nC aZ λb D z=>tu _ _ (sb _ _ z)).snoc #[t,U,tu _ _ af]
    obtain rfl|rfl:=B<;>obtain rfl|rfl:=hj
    .erw[2593695129,iteT ?_]
     erw[678297,#[by decide,4,by decide],10852773,#[by decide,4,by decide],165,pn,01,U,ba,20,λH6 s6=>?_]
     erw[01,18,λH7 s7=>?_]
     rw[show(KF.bl 1).L=1 by decide]
     let am:=s6.Q s7;erw[9,.inl #[6,SqL.of (am _ _ aI)],2457,pn,661,SqL.of (am _ _ ba),10598,00,18,λH8 s8=>?_]
     rw[show(KF.bl 0).L=0 by decide]
     erw[153,(by show 3<=P7;decide),λt ht=>?_]
     let a0:=am.Q s8;erw[qc,cs,41,ah ht _ _ _ (a0 _ _ aI),ar (by rw[aZ.1];decide),3]
     exact aa t H8 (1,0,0) _ _ a0 ht U
    .erw[2593695129,iteT ?_]
     erw[678297,#[by decide,4,by decide],10852773,#[by decide,4,by decide],165,pn,02,U,ba,20,λH6 s6=>?_]
     erw[02,18,λH7 s7=>?_]
     rw[show(KF.bl 2).L=1 by decide]
     let am:=s6.Q s7;erw[9,.inl #[6,SqL.of (am _ _ aI)],2457,pn,661,SqL.of (am _ _ ba),10598,00,18,λH8 s8=>?_]
     rw[show(KF.bl 0).L=0 by decide]
     erw[153,(by show 3<=P7;decide),λt ht=>?_]
     let a0:=am.Q s8;erw[qc,cs,41,ah ht _ _ _ (a0 _ _ aI),ar (by rw[aZ.1];decide),3]
     exact aa t H8 (1,0,1) _ _ a0 ht U
    .erw[2593695129,iteF ?_]
     erw[5,cs,U,s5,aI,aZ]
    .erw[2593695129,iteT ?_]
     erw[678297,#[by decide,4,by decide],10852773,#[by decide,4,by decide],165,pn,03,U,ba,20,λH6 s6=>?_]
     erw[00,18,λH7 s7=>?_]
     rw[show(KF.bl 0).L=0 by decide]
     let am:=s6.Q s7;erw[9,.inl #[6,SqL.of (am _ _ aI)],2457,pn,661,SqL.of (am _ _ ba),10598,01,18,λH8 s8=>?_]
     rw[show(KF.bl 1).L=1 by decide]
     erw[153,(by show 3<=P7;decide),λt ht=>?_]
     let a0:=am.Q s8;erw[qc,cs,41,ah ht _ _ _ (a0 _ _ aI),ar (by rw[aZ.1];decide),3]
     exact aa t H8 (0,-1,1) _ _ a0 ht U
   rintro L H4 ⟨v6,v7,cs,rfl,s5,aI,aZ⟩;let an:=s5 _ _ ac;let bb:∀ zs,Same l (upd H4 q (.lst zs)):=λzs=>aC (s3.Q s5) d _;let bn:∀ zs,(upd H4 q (.lst zs)) pn=Z (.lst [.int 2,.int 1]):=λzs=>bb zs _ _ aS;let B:i=0∨i=1:=by lia
   obtain rfl|rfl:=B
   .let y0 u t rfl ht:=aZ.2 0 (1,0,0) U;erw[9,qc,cs,chs 0 2,U,SqL.of aI,aZ,(λz=>by cases z),λy hy=>?_]
    let ab:argBest (λi j=>lt3 ((chs 0 2).f i (0,0,0)) ((chs 0 2).f j (0,0,0))) ((chs 0 2).L-1)=0:=by decide
    rw[ab,u]at hy
    cases hy
    erw[t,_,02,.int 0,10,SqT.of ht,14];erw[9,.inl #[6,SqL.of an],9,q,165,an,16]
    erw[42393,#[by decide,4,by decide],933]
    erw[10852761,#[by decide,4,by decide],165,pn,01,U,bn _,20,λH6 s6=>?_]
    erw[#[01,789,(bb _).Q s6,s6 _ _ af],(by show(3:R)<4;decide)]
   .let y0 u t rfl ht:=aZ.2 0 (0,-1,1) U;erw[9,qc,cs,chs 1 2,U,SqL.of aI,aZ,(λz=>by cases z),λy hy=>?_]
    let ab:argBest (λi j=>lt3 ((chs 1 2).f i (0,0,0)) ((chs 1 2).f j (0,0,0))) ((chs 1 2).L-1)=0:=by decide
    rw[ab,u]at hy
    cases hy
    erw[t,_,02,.int 1,10,SqT.of ht,14];erw[9,.inl #[6,SqL.of an],9,q,165,an,16]
    erw[42393,#[by decide,4,by decide],933]
    erw[10852761,#[by decide,4,by decide],165,pn,03,U,bn _,20,λH6 s6=>?_]
    erw[#[02,789,(bb _).Q s6,s6 _ _ af],(by show(1:R)<3;decide)]
  .let i2:i=2:=by
    by_cases z:i=2
    .exact z
    .exact Ry (QG ∅) c
   subst i2;erw[9,kk q O (m.Q s3) ac]
 .rintro L H4 Q1 Q2 B ⟨a1,a2,a3,a4,a5,a6,a7,a8,a9,bJ,bK,bP,bR,bT,bU,bY,bZ,b0,b5,b6,ca,cb,cc,cd,h⟩;erw[a1,a2,a3,a4,a5,a6,a7,a8,a9,bJ,bK,bP,bR,bT,bU,bY,bZ,b0,b5,b6,ca,cb,cc,cd,B _ _ h]
open KF (andN orN shlN xorN)
inductive oI(K:Ln)
 |mk (p C dx:eN)(a b s l:G) (_:vs=[.ref p,.int l])(_:H p=Z (.ins C dx (tf a b s)))(_:CT K C)(_:0<=a)(_:0<=b)(_:Q (.int (l/2^a.U%2+l/2^b.U%2)) H)
inductive Cj(PL PS WC:eN)
 |mk (p o:eN)(es:En)(ts rs:mx)(ks:Kn) (_:vs=[.ref p,.ref o])(_:FW PL PS WC H p es ts rs ks)(_:H o=Z (.lst [.int 0,.int 1]))(_:∀ q H',mo->H q=kf->H' q=Z (.lst [.int 0,.int 1])->Q (.ref q) H')
inductive Co(PL PS WC:eN)
 |mk (p:eN)(N:G)(es:En)(ts rs:mx)(ks:Kn) (_:vs=[.ref p,.int N])(_:FW PL PS WC H p es ts rs ks)(_:(N=1∨N=3))(_:Q (.int (if N=1 then 1 else 0)) H)
inductive rW(PL PS WC:eN)
 |mk (p o:eN)(es:En)(ts rs:mx)(ks:Kn) (_:vs=[.ref p,.ref o])(_:FW PL PS WC H p es ts rs ks)(_:H o=Z (.lst [.int 0,.int 1]))(_:∀ q H',mo->H' q=Z (.lst [.int 0,.int 1,.int 0])->Q (.ref q) H')
inductive Ic(PL PS WC:eN)
 |mk (p o:eN)(es:En)(ts rs:mx)(ks:Kn)(r1:E R) (_:vs=[.ref p,.ref o])(_:FW PL PS WC H p es ts rs ks)(_:ts[1]?=Z r1)(_:H o=Z (.lst [.int 0,.int 1]))(_:∀ q z0 z1 H',mo->H z0=kf->H' q=Z (.lst [.ref z0,.ref z1])->H' z0=Z (.lst [])->H' z1=Z (.lst (r1.h iV))->Q (.ref q) H')
def TkA(PL PS:eN)(es:En)(ks:Kn)(T:R)(H:Hp)(y:V)(k:R):Prop:=∃(t p j:eN)(e:R×R)(d:G×G),y=.ref t/\H t=Z (.tup [.ref p,.bl (T.O k)])/\es[k]?=Z e/\ks[k]?=Z d/\H p=Z (.ins (cls PL PS (decide (d.1=1))) j (tf (e.1:G) (e.2:G) d.2))
theorem rP{PS:eN}{ks:Kn}{T:R}{r:E R}(h:LsAt (TkA PL PS es ks T) H ys r)(s:mo):LsAt (TkA PL PS es ks T) H' ys r:=h.imp λ_ _ ⟨t,p,j,e,B,a,b,c,d,f⟩=>#[t,p,j,e,B,a,s _ _ b,c,d,s _ _ f]
inductive HQ(PL PS WC:eN)
 |mk (p o:eN)(T:R)(es:En)(ts rs:mx)(ks:Kn)(r1:E R) (_:vs=[.ref p,.ref o,.int (T:G)])(_:FW PL PS WC H p es ts rs ks)(_:ts[1]?=Z r1)(_:H o=Z (.lst [.int 0,.int 1]))(_:∀(q s0 s1 b0 b1:eN)(xs:E V) H',mo->H b0=kf->H' q=Z (.lst [.ref s0,.ref s1])->H' s0=Z (.tup [.int 0,.ref b0,.int 1])->H' s1=Z (.tup [.int 1,.ref b1,.int 0])->H' b0=Z (.lst [])->H' b1=Z (.lst xs)->LsAt (TkA PL PS es ks T) H' xs r1->Q (.ref q) H')
def FW.row{PS:eN}{ks:Kn}(h:FW PL PS a H p es ts rs ks){r:E R}(hi:i=0∨i=1)(e:ts[i]?=Z r):r.Perm (LD es.L):=by
 obtain rfl|rfl:=hi
 .let X Y x y:=h.ft.r0;rw[y]at e
  cases e
  exact OE.Q (by rw[← x])
 .let X Y x y:=h.ft.r1;rw[y]at e
  cases e
  exact(OE.Q (by rw[← x])).Q (O3 _)
def FunD.ok0{j:ff}{st:fo}{N:E ff}{k:R}(F:FunD K x j st f fd items)(S:aw N ps (aq st))(len:∀ vs H Q ef,sp vs H Q ef->vs.L=ps.L)(i:∀(g:eK)(A:Around)(outer:E gi)(s:e9)(H:Hp)(vs:E V)(Q:VK)(ef:XK),Room k (A.deeper (PyProof.Rows.envOfC j (aq st) s.H.M.J f g))->sp vs H Q ef ->
   let X:=(cxOf CX0 P w K mg base N j (aq st) f g A outer s H ef).nox;let D:Ends:={nx:=λ_ H'=>Q .non H',rt:=Q};∃ t,PSs X (bq st) t/\t D (n8 N vs) H):kt (k+1) f fd ps sp:=by
 let l m d kV B T p g a b rfl v z _:=F.ex;refine Ed v z S len λA outer s H vs Q ef eg I=>?_;let t h q:=i g A outer s H vs Q ef eg I;erw[t,h.nox,q]
theorem Aq:∀{l:E V},l.L=1->∃ x,l=[x]
 |[x],_=>#[x,U]
theorem zU:∀{l:E V},l.L=2->∃ x y,l=[x,y]
 |[x,y],_=>#[x,y,U]
def tb_eq(M t:R):decide (V.int (Qr ((M:G)/2^((t:R):G).U) 1)=V.int 1)=M.O t:=by
 rw[E6,zG]
 cases M.O t<;>rfl
def Hz(h:nv a [V.int 0,V.int 1]):RdD K H (.ref a) (.list (([0,1]:E G).h ge.int)):=by
 refine RdD.lst h U λi x d f A=>?_;match i,f,A with
 |0,f,A=>cases f;cases A;exact .int _
 |1,f,A=>cases f;cases A;exact .int _
 |i+2,f,A=>cases f
def qN:aw ["tie","patch"] ["tie","patch"] (aq gZ):=by ac_nf
def Dd(F:Fun K "ends_within" "ends_within" gZ f fd):kt 1 f fd ["tie","patch"] (oI K):=by
 refine F.ok qN (by walk_at "l") λg A o s H n Q ef N h=>?_
 let p C j a b st l rfl Y T J M d:=h;intro B I;erw[_,(aj (aF (ax cV (ax eB (ax iN (pv 1) (aW (pv 0) U)) ak) (ax eB (ax iN (pv 1) (aW (pv 0) U)) ak)))),3];erw[153,p,C,j,37,Y,T.cl,T.n1,dN _ _ _,165,J,39333,p,C,j,37,Y,T.cl,T.n2,fj _ _ _,165,M,239013];let e:∀ x,Qr x 1=x%2:=λx=>Pa _ 1;show Q (V.int (Qr (l/2^a.U) 1+Qr (l/2^b.U) 1)) H;rw[e,e];exact d
def pC:aw ["web","order","places"] ["web","order"] (aq ng):=by ac_nf
def ok_ord{PS:eN}(F:Fun K "order_of" "order_of" ng f fd)(T:Txt mg)(i:CW K a):kt 1 f fd ["web","order"] (Cj PL PS a):=by
 refine F.ok pC (by walk_at "l") λg A I s H n Q ef N h=>?_
 let p o y c t v rfl fw C B:=h;let{S j fs x D Y O _}_:=fw;let z:=N.units
 intro b eg;erw[_,(ag (az 2 pC.nd (nP U U T.n_list U T.n_range (aW (pv 0) U)))
   (ag (cz (aA Im (pv 1) kC (aH _)) (aj (aF (pv 2))) aQ)
   (ag (cz (aA (C6 z) (aG lG (by rfl) T.n_sorted jK (ae (pv 1) ai)) (pv 2) (aH _)) (aj cG) aQ)
   (aj (aF (dQ jG (by rfl) T.n_list jL (ae (pv 1) ai))))))),3]
 erw[9,p,a,j,fs,9,Y,i.cl,i.n1,O.many,02,18,λq d=>?_]
 let m:=ah d (.lst [V.int 0,V.int 1]);erw[617,iteF ?_];erw[9,o,[0,1],U,SqL.of (m _ _ C),4,λl out J aa L=>?_]
 let e:=jR aa L ∅
 subst e;let k:=ah J (.lst (([0,1]:E G).h V.int));erw[89,Hz (SqL.of af),Hz (SqL.of (k _ _ af)),922];rw[AG];let M:=m.Q k;exact iteF #[9,o,9,.inl (SqL.of (M _ _ C)),λr u=>B r _ (M.Q (ah u _)) (gB M u) af]
def gP:aw ["web","behind","front","tie"] ["web","behind"] (aq nu):=by ac_nf
def Gj{PS:eN}(F:Fun K "front_of" "front_of" nu f fd)(cw:CW K C)(TL:CT K PL)(TS:CT K PS)(al:k9 1 "ends_within" ["tie","patch"] (oI K) a eg):kt 2 f fd ["web","behind"] (Co PL PS C):=by
 refine F.ok gP (by walk_at "l") λl A o s H n Q ef u h=>?_
 let p N y ts q v rfl am hN M:=h;let{S j fs r xs Y wg _ l2 ac D}fe ft e0 aa kl:=am;let an:xs.L=y.L:=D.1;let ct:∀ b,CT K (cls PL PS b):=λb=>by
  unfold cls;split
  .exact TS
  .exact TL
 intro Xc Dc;erw[_,(ag (az 2 gP.nd ak)
   (ag (mj (aJ (aW (pv 0) U)) (bp 3 gP.nd) (aj (cz (aA eO (al.c u (ae (pv 3) (ae (pv 1) ai))) ak (aH _)) (aj (az 2 gP.nd (ax i9 (pv 2) (ax eB (pv 1) (ax i9 (ax bI ak (aW (pv 3) U)) (ax bI ak (aW (pv 3) U))))))) aQ)))
   (aj (aF (pv 2))))),3]
 erw[9,p,C,j,fs,9,Y,cw.cl,cw.n2,l2,r,U,#[_,SqL.of ac],bh (K:=K) (xs:=xs) (λi L O=>∃ v3,L=[Z (.ref p),Z (.int N),Z (.int (if N=1 then(if i=0 then 0 else 1) else 0)),v3]/\O=H) #[_,by obtain rfl|rfl:=hN<;>rfl,U] (λi L O _ ⟨_,_,z⟩=>by rw[z];exact SqL.of ac) ?_ ?_]
 .rintro i x L O J ⟨v3,rfl,rfl⟩;let B:i<y.L:=by rw[← an];exact(Ll.mp J).1
  let e d:∃ e,y[i]?=Z e:=#[_,Lj B];let k g:∃ k,v[i]?=Z k:=#[_,Lj ∅]
  let I ab x1 x2:=D.2 i e k d g;rw[J]at x1
  cases x1
  let m:∀ z:G,z=1->∃ v3,[Z (V.ref p),Z (V.int N),Z (V.int (if N=1 then z else 0)),Z (V.ref I)]=[Z (V.ref p),Z (V.int N),Z (V.int (if N=1 then if i+1=0 then 0 else 1 else 0)),v3]/\O=O:=λz t=>by subst t;erw[_,by rw[Rx (show ¬ i+1=0 by lia)],U]
  let two:∀ x:G,(x=if i=0 then(0:G) else 1)->x=0∨x=1:=λx J=>by lia
  let x0 T ap:∃ x0:G,(if i=0 then(0:G) else 1)=x0/\(x0=0∨x0=1):=#[9,two _ U];rw[T];obtain z|z:=fe i e d<;>rw[z]at x2<;>obtain rfl|rfl:=hN
  .erw[153,I,_,ab,597,x2,ct _,628,iteT ?_]
   erw[2457,I,_,ab,37,x2,(ct _).cl,(ct _).n1,dN _ _ _,165,#[by decide,4,by decide],9,I,_,ab,37,x2,(ct _).cl,(ct _).n2,fj _ _ _,165,#[by decide,4,by decide],61187493]
   exact m _ (by obtain rfl|rfl:=ap<;>rfl)
  .erw[153,I,_,ab,597,x2,ct _,628,iteF #[41]]
  .erw[153,I,_,ab,597,x2,ct _,628,iteT ?_]
   erw[2457,I,_,ab,37,x2,(ct _).cl,(ct _).n1,dN _ _ _,165,#[by decide,4,by decide],9,I,_,ab,37,x2,(ct _).cl,(ct _).n2,fj _ _ _,165,#[by decide,4,by decide],61187493]
   exact m _ (by obtain rfl|rfl:=ap<;>rfl)
  .erw[153,I,_,ab,597,x2,ct _,628,iteF #[41]]
 rintro L O ⟨v3,rfl,rfl⟩;rw[an,Rx (show ¬ y.L=0 by lia)]
 erw[9,M]
def iX:aw ["web","order","found","behind","place"] ["web","order"] (aq jW):=by ac_nf
def Dh{PS:eN}{an:fk}(F:FunD K "fronts" "fronts" jW f fd [eK.none].toArray)(ac:k9 1 "order_of" ["web","order"] (Cj PL PS I) a eg)(al:k9 2 "front_of" ["web","behind"] (Co PL PS I) C an):kt 3 f fd ["web","order"] (rW PL PS I):=by
 refine FunD.ok0 F iX (λn H Q ef h=>?_) (λg A b s H n Q ef N h=>?_)
 .let p o y l t v rfl _:=h;rfl
 let p o y l t v rfl fw D B:=h
 intro T Dc;erw[_,(ag (az 2 iX.nd (bC (ae ak ai)))
   (ag (az 3 iX.nd ak)
   (ag (mj (aJ (ac.c N (ae (pv 0) (ae (pv 1) ai)))) (bp 4 iX.nd) (ag (az 3 iX.nd (ax i9 (pv 3) (ax bI ak (pv 4))))
   (aj (aR (d7 LG LN LL aO (pv 2) (ae (al.c N (ae (pv 0) (ae (pv 3) ai))) ai))))))
   (aj (aF (pv 2)))))),3]
 erw[(by show 1<=P7;decide),λqf ab=>?_]
 let m:=ah ab (.lst [.int 0]);erw[153,p,o,y,l,t,v,U,fw.mono m,m _ _ D,λq O k nq Y=>?_];let M:=m.Q k;let am:q≠qf:=λz=>by rw[z,af]at nq;cases nq
 erw[q,U,#[_,SqL.of Y],bh (K:=K) (xs:=[V.int 0,V.int 1]) (λi L j=>∃ u,L=[Z (.ref p),Z (.ref o),Z (.ref qf),Z (.int ((2:G)^i-1)),u]/\Same H j/\j q=Z (.lst [V.int 0,V.int 1])/\j qf=Z (.lst (([.int 0,.int 1,.int 0]:E V).j (i+1)))) #[9,M,Y,k _ _ af] (λi L j _ e=>by let _ _ _ z _:=e;exact SqL.of z) ?_ ?_]
 .rintro i x L j J ⟨u,rfl,d,r,aa⟩;match i,J with
  |0,J =>
   cases J
   erw[42393,#[by decide,4,by decide],2469,.inl #[6,SqL.of aa],153,p,01,y,l,t,v,U,fw.mono d,.inl U,qf,165,aa,40,aC d ab _,by rw[ao am];exact r,af]
  |1,J =>
   cases J
   erw[42393,#[by decide,4,by decide],2469,.inl #[6,SqL.of aa],153,p,03,y,l,t,v,U,fw.mono d,.inr U,qf,165,aa,40,aC d ab _,by rw[ao am];exact r,af]
  |i+2,J=>cases J
 .rintro L j ⟨u,rfl,d,r,aa⟩;erw[9,B qf j d aa]
def dP:aw ["web","order","found","behind","place"] ["web","order"] (aq kL):=by ac_nf
def Kk{PS:eN}(F:Fun K "ties_back" "ties_back" kL f fd)(cw:CW K I)(TL:CT K PL)(TS:CT K PS)(av:k9 1 "ends_within" ["tie","patch"] (oI K) q eg):kt 2 f fd ["web","order"] (Ic PL PS I):=by
 refine F.ok dP (by walk_at "l") λaa A O s H vs Q ef u h=>?_
 let p o es ts rs ks r1 rfl aS am ho kk:=h;let{S dx fs q1 xs T wg _ l2 an tk}fe ft e0 ac kl:=id aS;let q3 z3 l3 _ h3 a0:=wg.turns;let aT:xs.L=es.L:=tk.1;let ct:∀ b,CT K (cls PL PS b):=λb=>by
  unfold cls;split
  .exact TS
  .exact TL
 intro Xc Dc;erw[_,(ag (az 2 dP.nd (bC ai))
   (ag (az 3 dP.nd ak)
   (ag (mj (aJ (pv 1)) (bp 4 dP.nd) (ag (az 3 dP.nd (ax i9 (pv 3) (ax bI ak (pv 4))))
   (aj (aR (d7 LG LN LL aO (pv 2) (ae (eM [("web",0),("behind",3)] ["number"] (aJ (bA (aW (pv 0) U) (pv 4))) pg_c (λC ex s H=>(gk (aA eO (av.c u (ae (qO K (pM (K:=K) U (pv 1) U) (pv 0)) (ae (pv 2) ai))) ak (aH _)))) (λC ex s H=>(pv 0))) ai))))))
   (aj (aF (pv 2)))))),3]
 erw[(by show 0<=P7;decide),λqf aZ=>?_]
 let m:=ah aZ (.lst []);let a2:∀(t:R)(e:R×R),es[t]?=Z e->(∀ B:G,B/2^((e.1:R):G).U%2+B/2^((e.2:R):G).U%2=B/2^0%2+B/2^1%2):=λt e d B=>by
  obtain z|z:=fe t e d<;>rw[z]
  .rfl
  .exact Int.add_comm _ _
 erw[9,o,U,#[_,SqL.of (m _ _ ho)],bh (K:=K) (xs:=[V.int 0,V.int 1]) (λi L H3=>∃ v4 zs,L=[Z (.ref p),Z (.ref o),Z (.ref qf),Z (.int ((2:G)^i-1)),v4]/\(Same H H3/\(H3 qf=Z (.lst zs)/\(zs.L=i/\((∀ z,zs[0]?=Z z->∃ a,z=.ref a/\a≠qf/\H a=kf/\H3 a=Z (.lst []))/\(∀ z,zs[1]?=Z z->∃ a,z=.ref a/\a≠qf/\H3 a=Z (.lst (r1.h iV)))))))) #[_,[],U,m,af,U,(λz e=>by cases e),λz e=>by cases e] (λi L H3 _ ab=>by let _ _ _ z _:=ab;exact SqL.of (z _ _ ho)) ?_ ?_]
 .rintro i x L H3 J ⟨v4,zs,rfl,s3,aI,zl,z0,z1⟩;let N:i=0∨i=1:=by let:i<2:=(Ll.mp J).1;lia
  let row ap:∃ row,ts[i]?=Z row:=by
   let X Y _ y:=ft.r0;obtain rfl|rfl:=N
   .erw[_,y]
   .erw[_,am]
  let pm:=aS.row N ap;let r y1 _ y2:=a0.2 i row ap;let rl:row.L<=14:=by rw[pm.length_eq,L7];exact ac
  let J:x=.int (i:G):=by obtain rfl|rfl:=N<;>cases J<;>rfl
  subst J;let B a3 hB:∃ B:G,Qs ((2:G)^i-1) (1*2^((i:R):G).U)=B/\(B=(2:G)^(i+1)-1/\(B/2^0%2+B/2^1%2=if i=0 then 1 else 2)):=by
   obtain rfl|rfl:=N
   .erw[01,42]
   .erw[03,42]
  erw[42393,#[20,by decide],933]
  dsimp only;rw[a3];erw[9,.inl #[6,SqL.of aI],9,p,I,dx,fs,9,s3 _ _ T,cw.cl,cw.n3,l3,9,q3,z3,165,SqL.of (s3 _ _ h3),aE y1,r,U,#[_,SqL.of (s3 _ _ y2)],bg (K:=K) (xs:=row.h iV) (λj v H4=>H4=H3/\v=if i=0 then[] else(row.j j).h iV) (LK (ar (by rw[Lp];lia))) #[U,by split<;>rfl] (λj v H4 _ z=>by rw[z.1];exact SqL.of (s3 _ _ y2)) ?_ ?_ ?_]
  .rintro j x v H4 J ⟨rfl,rfl⟩;rw[Lx]at J;let t ht rfl:=LC.mp J;let tl:t<es.L:=L5.mp (pm.mem_iff.mp (Lm ht));let e d:∃ e,es[t]?=Z e:=#[_,Lj tl];let k g:∃ k,ks[t]?=Z k:=#[_,Lj ∅]
   let p' al x1 x2:=tk.2 t e k d g;let a1:row.j (j+1)=row.j j++[t]:=by rw[LI,ht];rfl
   erw[38,p,I,dx,fs,9,s3 _ _ T,cw.cl,cw.n2,l2,9,q1,xs,165,SqL.of (s3 _ _ an),aE x1,9,p',_,al,597,s3 _ _ x2,ct _,3700]
   rw[a2 t e d,hB.2];by_cases c:i=0
   .rw[show(if i=0 then(1:G) else 2)=1 from Rw c];exact iteF #[U,by rw[Rw c,Rw c]]
   .rw[show(if i=0 then(1:G) else 2)=2 from Rx c];exact iteT #[41,by rw[Rx c,Rx c,a1,LH];rfl]
  .rintro v H4 ⟨rfl,rfl⟩ D hD;rw[Lp,LQ];let Dq:D≠qf:=λz=>by rw[z,aI]at hD;cases hD
   let s4:=ah hD (.lst (if i=0 then[] else row.h iV));erw[qf,zs,41,s4 _ _ aI,ar ∅,3]
   let gD:(upd (upd H4 D (.lst (if i=0 then[] else row.h iV))) qf (.lst (zs++[.ref D]))) D=Z (.lst (if i=0 then[] else row.h iV)):=by rw[ao Dq];exact af
   let gz:∀ a l,a≠qf->H4 a=Z (.lst l)->(upd (upd H4 D (.lst (if i=0 then[] else row.h iV))) qf (.lst (zs++[.ref D]))) a=Z (.lst l):=λa l n e=>by rw[ao n];exact s4 _ _ e
   erw[Z (.int (i:G)),zs++[.ref D],by rw[← hB.1];rfl,aC (s3.Q s4) aZ _,af,by rw[Ls,zl];rfl,3]
   obtain rfl|rfl:=N
   .let e:zs=[]:=Mh zl
    subst e;erw[λz e=>#[D,by cases e;rfl,Dq,gB s3 hD,gD],λz e=>by cases e]
   .let x rfl:=Aq zl;let a rfl n na ha:=z0 _ U;rw[am]at ap
    cases ap
    erw[λz e=>#[a,by cases e;rfl,n,na,gz _ _ n ha],λz e=>#[D,by cases e;rfl,Dq,gD]]
  .rintro j v H4 ⟨_,rfl⟩;split
   .exact LU _
   .rw[Lp,Me];exact M5 _ _
 .rintro L H3 ⟨v4,zs,rfl,s3,aI,zl,z0,z1⟩;let x y rfl:=zU zl;let a rfl _ na ha:=z0 _ U;let b rfl _ M:=z1 _ U;erw[9,kk qf a b H3 s3 na aI ha M]
def dh:aw ["web","order","tight","found","place","back","front","ties"] ["web","order","tight"] (aq m7):=by ac_nf
def JY{PS:eN}{d1:fk}(F:Fun K "stations" "stations" m7 f fd)(T:TxtZ mg)(cw:CW K q)(ba:k9 2 "ties_back" ["web","order"] (Ic PL PS q) f1 d1)(bi:k9 3 "fronts" ["web","order"] (rW PL PS q) f2 eg):kt 4 f fd ["web","order","tight"] (HQ PL PS q):=by
 refine F.ok dh (by walk_at "l") λaa A I s H vs Q ef N h=>?_
 let p o T' v ts rs ks r1 rfl aZ an ho kk:=h;let{S dx fs r xs Y wg _ l2 ap tk}fe ft e0 ac kl:=id aZ;let pm:=aZ.row (.inr U) an;let rl:r1.L<=14:=by rw[pm.length_eq,L7];exact ac
 intro Xc Dc;erw[_,(ag (az 3 dh.nd (bC ai))
   (ag (mj (JQ U T.n_zip (ae (pv 1) (ae (ba.c N (ae (pv 0) (ae (pv 1) ai))) (ae (ma pA (bi.c N (ae (pv 0) (ae (pv 1) ai))) (pK ak) pL) ai)))) (iM U (ay (bp 4 dh.nd) (ay (bp 5 dh.nd) (ay (bp 6 dh.nd) br)))) (ag (nA 7 [("web",0),("tight",2)] ["number"] dh.nd (aJ (pv 5)) pg_c pt_c (λC ex s H=>(cm (ae (qO K (pM (K:=K) U (pv 1) U) (pv 0)) (ae (nB eO (ax eB (ax iN (pv 2) (pv 0)) ak) ak (aH _)) ai)))))
   (aj (aR (d7 LG LN LL aO (pv 3) (ae (cm (ae (pv 4) (ae (pv 7) (ae (pv 6) ai)))) ai))))))
   (aj (aF (pv 3))))),3]
 erw[(by show 0<=P7;decide),λqf a5=>?_]
 let m:=ah a5 (.lst []);erw[2457,p,o,v,ts,rs,ks,r1,U,aZ.mono m,an,m _ _ ho,λqb z0 z1 O s2 bZ bb ab aI=>?_];let am:=m.Q s2;erw[153,p,o,v,ts,rs,ks,U,aZ.mono am,am _ _ ho,λqo H3 s3 bP=>?_];let aS:=am.Q s3;erw[9,qo,9,SqL.of bP,λqs a7=>?_];let s4:=ah a7 (.lst (cutV [.int 0,.int 1,.int 0] (Z 1) kf));let bn:=aS.Q s4;let bR:(upd H3 qs (.lst (cutV [.int 0,.int 1,.int 0] (Z 1) kf))) qs=Z (.lst [V.int 1,V.int 0]):=af;let a8:=s3.Q s4;erw[o,qb,qs,U,#[_,SqL.of (bn _ _ ho)],#[_,SqL.of (a8 _ _ bb)],#[_,SqL.of bR],3];generalize upd H3 qs (.lst (cutV [.int 0,.int 1,.int 0] (Z 1) kf))=H4 at bn bR a8;let bz:H4 qf=Z (.lst []):=(s2.Q a8) _ _ af;let C CH Cq:∃ C:Hp,(∀ b,b≠qf->C b=H4 b)/\C qf=kf:=#[λb=>if b=qf then kf else H4 b,λb n=>Rx n,Rw U];let sC:Same C H4:=λb u e=>by
  by_cases z:b=qf
  .simp!
  .rw[← CH b z];exact e
 let HC:Same H C:=λb u e=>by rw[CH b (aB e a5)];exact bn _ _ e
 let nl:∀{b:eN}{u:HO},H4 b=Z u->u≠.lst []->C b=Z u:=λ{b u} e n=>by rw[CH b λz=>n (by rw[z,bz]at e;exact(L3 e).Y)];exact e
 let b0:=nl (a8 _ _ bb) (λz=>by cases z)
 let b5:=nl bR (λz=>by cases z)
 let n0:z0≠qf:=λz=>by rw[z,af]at bZ;contradiction
 let b6:C z0=Z (.lst []):=by rw[CH _ n0];exact a8 _ _ ab
 let ca:C z1=Z (.lst (r1.h iV)):=nl (a8 _ _ aI) (λz=>by
  let:r1.L=0:=by simp!
  rw[pm.length_eq,L7]at this
  lia)
 refine GZ (K:=K) (xs:=[V.int 0,V.int 1]) (ys:=[V.ref z0,V.ref z1]) (zs:=[V.int 1,V.int 0]) 2 (λi L H5=>∃ v4 v5 v6 v7 zs,L=[Z (.ref p),Z (.ref o),Z (.int (T':G)),Z (.ref qf),v4,v5,v6,v7]/\(Same C H5/\(H5 qf=Z (.lst zs)/\(zs.L=i/\((∀ z,zs[0]?=Z z->∃ a b,z=.ref a/\H5 a=Z (.tup [.int 0,.ref b,.int 1])/\b≠qf/\H b=kf/\H5 b=Z (.lst []))/\(∀ z,zs[1]?=Z z->∃ a b xs,z=.ref a/\H5 a=Z (.tup [.int 1,.ref b,.int 0])/\H5 b=Z (.lst xs)/\LsAt (TkA PL PS v ks T') H5 xs r1)))))) #[85,[],U,sC,bz,U,(λz e=>by cases e),λz e=>by cases e] (Lo 2) (Lo 2) U (λi L H5 _ ab=>by let _ _ _ _ _ _ z _:=ab;erw[SqL.of (z _ _ (HC _ _ ho)),SqL.of (z _ _ b0),SqL.of (z _ _ b5)]) ?_ ?_
 .rintro i x y z L H5 T J hy hz ⟨v4,v5,v6,v7,zs,rfl,s5,bT,zl,y0,y1⟩ hT;let B:i=0∨i=1:=by let:i<2:=(Ll.mp J).1;lia
  let zb row rfl bU cd cb bJ a0:∃(zb:eN)(row:E R),y=.ref zb/\C zb=Z (.lst (row.h iV))/\row.L<=14/\(∀ t∈row,t<v.L)/\(i=0->row=[])/\(i=1->row=r1):=by
   obtain rfl|rfl:=B
   .cases hy;erw[z0,[],U,b6,4,(λt z=>nomatch z),(λ_=>rfl),(λz=>by cases z)]
   .cases hy;erw[z1,r1,U,ca,rl,(λt z=>L5.mp (pm.mem_iff.mp z)),(λz=>by cases z),λ_=>rfl]
  let sT:=ah hT (.tup [x,.ref zb,z]);let s6:=s5.Q sT;let a9:=sT _ _ bT;erw[T,9,SqT.of af,15295894];erw[9,zb,U,#[_,SqL.of (s6 _ _ bU)],bg (K:=K) (xs:=row.h iV) (λj ys H7=>Same (upd H5 T (.tup [x,.ref zb,z])) H7/\LsAt (TkA PL PS v ks T') H7 ys (row.j j)) (LK (ar (by rw[Lp];lia))) #[λ_ _ e=>e,LsAt.nil] (λj ys H7 _ z=>SqL.of (z.1 _ _ (s6 _ _ bU))) ?_ ?_ (λj ys H7 z=>by rw[z.2.1,Me];exact M5 _ _)]
  .rintro j x' ys H7 aT ⟨s7,be⟩;rw[Lx]at aT;let t ht rfl:=LC.mp aT;let tl:=cb t (Lm ht);let e d:∃ e,v[t]?=Z e:=#[_,Lj tl];let k g:∃ k,ks[t]?=Z k:=#[_,Lj ∅]
   let p' al x1 x2:=tk.2 t e k d g;let bK:row.j (j+1)=row.j j++[t]:=by rw[LI,ht];rfl
   let sH:=(HC.Q s6).Q s7;erw[U,yesT #[9,p,q,dx,fs,9,sH _ _ Y,cw.cl,cw.n2,l2,9,r,xs,165,SqL.of (sH _ _ ap),aE x1,42393,(show(0:G)<=(t:G) by lia),677,(by show 2<=P7;decide),λT2 av=>?_]]
   let s8:=ah av (.tup [.ref p',.bl (decide (V.int (Qr ((T':G)/2^((t:R):G).U) 1)=V.int 1))]);erw[s7.Q s8,3];rw[bK];exact(rP be s8).snoc #[T2,p',al,e,k,U,by rw[← tb_eq];exact af,d,g,s8 _ _ (sH _ _ x2)]
  rintro ys H7 ⟨s7,be⟩ D hD;rw[Lp,LQ]at be;let s8:=ah hD (.lst ys);let bm:=s7.Q s8;erw[9,.inl #[6,SqL.of (bm _ _ a9)],2457,(by show 3<=P7;decide),λT3 bB=>?_]
  let s9:=ah bB (.tup [x,.ref D,z]);let Dq:D≠qf:=(aB (s7 _ _ a9) hD).Y;erw[qf,zs,41,s9 _ _ (bm _ _ a9),ar ∅,3]
  let sA:=s6.Q (bm.Q s9);let sB:Same H5 (upd H7 D (.lst ys)):=(ah hT _).Q bm;let up:∀{b:eN}{u:HO},b≠qf->(upd (upd H7 D (.lst ys)) T3 (.tup [x,.ref D,z])) b=Z u->(upd (upd (upd H7 D (.lst ys)) T3 (.tup [x,.ref D,z])) qf (.lst (zs++[.ref T3]))) b=Z u:=λ{b u} n e=>by rw[ao n];exact e
  let tq:∀{b:eN}{l:E V},(upd (upd H7 D (.lst ys)) T3 (.tup [x,.ref D,z])) b=Z (.tup l)->b≠qf:=λ{b l} e n=>by
   rw[n,s9 _ _ (bm _ _ a9)]at e
   cases e
  let gT:=tq (b:=T3) af;let gD:(upd (upd H7 D (.lst ys)) T3 (.tup [x,.ref D,z])) D=Z (.lst ys):=s9 _ _ af;erw[85,zs++[.ref T3],U,aC sA Cq _,af,by rw[Ls,zl];rfl,3]
  obtain rfl|rfl:=B
  .cases J
   cases hz
   let e:zs=[]:=Mh zl;subst e;rw[bJ U]at be;let:ys=[]:=Mh be.1;erw[λz e=>#[T3,D,by cases e;rfl,up gT af,Dq,gB (HC.Q (s6.Q s7)) hD,(up Dq gD).Q (by rw[this])],λz e=>by cases e]
  .cases J
   cases hz
   let x rfl:=Aq zl;let a b rfl a1 a2 a4 a3:=y0 _ U;rw[a0 U]at be;let bY:=s9 _ _ (sB _ _ a1);erw[λz e=>#[a,b,by cases e;rfl,up (tq bY) bY,a2,a4,up a2 (s9 _ _ (sB _ _ a3))],λz e=>#[T3,D,ys,by cases e;rfl,up gT af,up Dq gD,3]]
   refine(rP be (s8.Q s9)).imp λy k ⟨t,p,dx,e,kk,u1,u2,u3,u4,u5⟩=>#[t,p,dx,e,kk,u1,up (tq u2) u2,u3,u4,up (λn=>?_) u5];rw[n,s9 _ _ (bm _ _ a9)]at u5
   cases u5
 .rintro L H5 ⟨v4,v5,v6,v7,zs,rfl,s5,bT,zl,y0,y1⟩;let x y rfl:=zU zl;let a b rfl ha _ nb M:=y0 _ U;let a' b' cc rfl bv a6 ls:=y1 _ U;erw[9,kk qf a a' b b' cc H5 (HC.Q s5) nb bT ha bv M a6 ls]
open KF (andN orN shlN xorN)
def okR(ks:Kn)(T:R)(S:im)(r:E R):im:=r.all λk=>!(sB ks S k)||T.O k
def smR(ks:Kn)(S:im)(r:E R):G:=(r.h λk=>if sB ks S k=i0 then stg ks k else 0).sum
def mvO(ks:Kn)(T:R)(r:E R)(S:im):ii T3:=if okR ks T S r=i0 then Z ((sL S:G),0,smR ks S r) else kf
def Sl(pl:R):E im:=if pl=0 then[j5] else[j5,i0]
def msL(ks:Kn)(T:R)(r:E R)(pl:R):E T3:=(Sl pl).filterMap (mvO ks T r)
inductive Cb
 |mk (pl:R) (_:vs=[.int (pl:G),.int 0])(_:(pl=0∨pl=1))(_:∀ q,H q=kf->Q (.ref q) (upd H q (.lst (if pl=0 then[.int 0] else[.int 0,.int 2]))))
inductive Ia(PL PS:eN)
 |mk (b:eN)(xs:E V)(r:E R)(es:En)(ks:Kn)(T:R)(S:im) (_:vs=[.ref b,.int (sL S:G)])(_:H b=Z (.lst xs))(_:LsAt (TkA PL PS es ks T) H xs r)(_:FanE es)(_:Q (if okR ks T S r=i0 then .int (smR ks S r) else .non) H)
inductive Ck(PL PS:eN)
 |mk (b:eN)(pl:R)(fr:G)(xs:E V)(r:E R)(es:En)(ks:Kn)(T:R) (_:vs=[.int (pl:G),.ref b,.int fr,.int 0])(_:(pl=0/\fr=1∨pl=1/\fr=0))(_:H b=Z (.lst xs))(_:LsAt (TkA PL PS es ks T) H xs r)(_:FanE es)(_:∀ q ys H',mo->H q=kf->H' q=Z (.lst ys)->LsAt TrA H' ys (msL ks T r pl)->Q (.ref q) H')
def unp_sB{ks:Kn}(h:FanE es){k:R}{e:R×R}{kk:G×G}(eg:es[k]?=Z e)(g:ks[k]?=Z kk)(S:im):unp (decide (kk.1=1)) (e.1:G) (e.2:G) ((sL S:R):G)=sB ks S k:=by
 unfold sB;rw[sV g];obtain z|z:=h k e eg<;>rw[z]<;>cases S<;>cases decide (kk.1=1)<;>rfl
def JZ(ks:Kn)(T:R)(S:im)(l:E R)(k:R):okR ks T S (l++[k])=(okR ks T S l&&(!(sB ks S k)||T.O k)):=by
 unfold okR;simp
def Cr(ks:Kn)(S:im)(l:E R)(k:R):smR ks S (l++[k])=smR ks S l+if sB ks S k=i0 then stg ks k else 0:=by
 unfold smR;simp
def xM:aw ["place","signs"] ["place","signs"] (aq m8):=by ac_nf
def F4(F:Fun K "signings" "signings" m8 f fd):kt 1 f fd ["place","signs"] Cb:=by
 refine F.ok xM (by walk_at "l") λg A o s H n Q ef N h=>?_
 let D rfl u d:=h;intro B I;erw[_,(aj (aF (g9 (aA eO (pv 0) ak (aH _)) (bC (ae (pv 1) ai)) (bC (ae (pv 1) (ae (ax i9 (pv 1) (ax bI ak (pv 0))) ai)))))),3];obtain rfl|rfl:=u
 .erw[617,iteT #[9,(by show 1<=P7;decide),λq Y=>d q Y]]
 .erw[617,iteF #[678297,#[by decide,4,by decide],165,(by show 2<=P7;decide),λq Y=>d q Y]]
def bX:aw ["ties","signs","cost","tie","tight"] ["ties","signs"] (aq fz):=by ac_nf
def Kh{PS:eN}{d1:fk}(F:Fun K "cost_if_tight" "cost_if_tight" fz f fd)(C:CT K PL)(TS:CT K PS)(u0:Met P w K mg base 2 PL "unpleased" ["self","laying"] (pz PL j5) a eg)(u1:Met P w K mg base 2 PS "unpleased" ["self","laying"] (pz PS i0) f1 d1):kt 3 f fd ["ties","signs"] (Ia PL PS):=by
 refine F.ok bX (by walk_at "l") λl A o s H I Q ef N h=>?_
 let b xs r v ks T S rfl M q fe B:=h;let ab:=C.cl;let ac:=TS.cl;let xl:=q.1
 intro Xc Dc;erw[_,(ag (az 2 bX.nd ak)
   (ag (mj (aJ (pv 0)) (iM U (ay (bp 3 bX.nd) (ay (bp 4 bX.nd) br))) (aj (cz (pJ (FR (tw (pv 3) ab u0.me u0.ok (N.mono ∅) u0.bn .nil mw (ae (pv 1) ai)) (tw (pv 3) ac u1.me u1.ok (N.mono ∅) u1.bn .nil mw (ae (pv 1) ai)))) (ag (cz (Aj (pJ (pv 4))) (aj (aF kC)) aQ)
   (aj (az 2 bX.nd (ax cV (pv 2) (aW (pv 3) U))))) aQ)))
   (aj (aF (pv 2))))),3]
 erw[9,b,U,#[_,SqL.of M],bh (K:=K) (xs:=xs) (λi L O=>∃ v3 v4,L=[Z (.ref b),Z (.int (sL S:G)),Z (.int (smR ks S (r.j i))),v3,v4]/\O=H/\okR ks T S (r.j i)=i0) #[677] (λi L O _ D=>by let _ _ _ z _:=D;rw[z];exact SqL.of M) ?_ ?_]
 .rintro i x L O J ⟨v3,v4,rfl,rfl,ok⟩;let k g t p j e aa rfl u n al Y:=q.get J;let et:r.j (i+1)=r.j i++[k]:=by rw[LI,g];rfl
  erw[t,9,SqT.of u,238998];let un:=unp_sB (ks:=ks) fe n al S;let run:∀(ad:im->Hp->Prop),ad (sB ks S k) O->tB (λL H Q=>Fz PL "unpleased" (pz PL j5) [] E0 (tVar 3) (Jv (tVar 1) tNil) L H Q∨Fz PS "unpleased" (pz PS i0) [] E0 (tVar 3) (Jv (tVar 1) tNil) L H Q) [Z (V.ref b),Z (V.int (sL S:G)),Z (V.int (smR ks S (r.j i))),Z (V.ref p),Z (V.bl (T.O k))] O ad:=λad h=>by
   rw[← un]at h
   cases c:decide (aa.1=1) with
   |false =>
    rw[c]at Y h;exact .inl #[9,p,j,9,Y,rQ _ _ _ ∅ ∅ ∅,9,p,597,#[j,Y],164,h]
   |true =>
    rw[c]at Y h;exact .inr #[9,p,j,9,Y,rQ _ _ _ ∅ ∅ ∅,9,p,597,#[j,Y],164,h]
  let ct:∀ b,CT K (cls PL PS b):=λb=>by
   unfold cls;split
   .exact TS
   .exact C
  let sg:stg ks k=aa.2:=by unfold stg;rw[al]
  let oS:=JZ ks T S (r.j i) k;let sS:=Cr ks S (r.j i) k;rw[← et,ok,NL]at oS;rw[← et]at sS;refine run _ ?_
  cases c:sB ks S k with
  |false =>
   rw[c]at oS sS;refine iteF #[Z (.ref p),Z (.bl (T.O k)),11,by assumption]
   simp!
  |true =>
   rw[c]at oS sS
   cases d:T.O k with
   |false =>
    let no:okR ks T S r=j5:=by
     rw[d]at oS
     cases z:okR ks T S r with
     |false=>rfl
     |true =>
      unfold okR at z oS;let:((r.j (i+1)).all λk=>!(sB ks S k)||T.O k)=i0:=Ph.mpr λy m=>Ph.mp z y (OJ m)
      rw[oS]at this;contradiction
    rw[no]at B;exact iteT #[153,iteT B]
   |true =>
    refine iteT #[153,iteF ?_];erw[153,p,_,j,37,Y,(ct _).cl,(ct _).n3,HG _ _ _,933];erw[Z (.ref p),Z (.bl i0),11,by rw[oS,d];rfl]
    rw[sS,← sg];rfl
 rintro L O ⟨v3,v4,rfl,rfl,ok⟩;rw[xl,LQ]at ok ⊢;rw[Rw ok]at B;erw[9,B]
def eI:aw ["place","back","front","signs","found","here","cost"] ["place","back","front","signs"] (aq i5):=by ac_nf
def Ga{PS:eN}{d1:fk}(F:Fun K "moves_from" "moves_from" i5 f fd)(am:k9 1 "signings" ["place","signs"] Cb f1 d1)(al:k9 3 "cost_if_tight" ["ties","signs"] (Ia PL PS) f2 eg):kt 4 f fd ["place","back","front","signs"] (Ck PL PS):=by
 refine F.ok eI (by walk_at "l") λg A o s H n Q ef N h=>?_
 let b D fr xs r y v T rfl aa M a fe B:=h
 intro Xc Dc;erw[_,(ag (az 4 eI.nd (bC ai))
   (ag (mj (aJ (am.c N (ae (pv 0) (ae (pv 3) ai)))) (bp 5 eI.nd) (ag (az 6 eI.nd (al.c N (ae (pv 1) (ae (pv 5) ai))))
   (aj (cz (aA C5 (pv 6) kC (aH _)) (aj (aR (d7 LG LN LL aO (pv 4) (ae (cm (ae (ax eB (pv 5) (ax bI ak (pv 0))) (ae (ax eB (pv 5) (pv 2)) (ae (pv 6) ai)))) ai)))) aQ))))
   (aj (aF (pv 4))))),3]
 erw[(by show 0<=P7;decide),λqf ac=>?_]
 let m:=ah ac (.lst []);erw[153,D,U,aa.imp And.left And.left,λq Y=>?_];let eq:(if D=0 then[V.int 0] else[.int 0,.int 2]:E V)=(Sl D).h λS=>V.int (sL S:G):=by rcases aa with⟨rfl,_⟩|⟨rfl,_⟩<;>rfl
 rw[eq];let k:=m.Q (ah Y (.lst ((Sl D).h λS=>V.int (sL S:G))));let nq:qf≠q:=λz=>by rw[← z,af]at Y;cases Y
 erw[q,U,#[_,SqL.of af],bh (K:=K) (xs:=(Sl D).h λS=>V.int (sL S:G)) (λi L O=>∃ v5 v6 j,L=[Z (.int (D:G)),Z (.ref b),Z (.int fr),Z (.int 0),Z (.ref qf),v5,v6]/\Same H O/\O q=Z (.lst ((Sl D).h λS=>V.int (sL S:G)))/\O qf=Z (.lst j)/\LsAt TrA O j (((Sl D).j i).filterMap (mvO v T r))/\j.L<=i) #[5,[],U,k,af,by rw[ao nq];exact af,LsAt.nil,Lo _] (λi L O _ e=>by let _ _ _ _ _ z _:=e;exact SqL.of z) ?_ ?_]
 .rintro i x L O J ⟨v5,v6,j,rfl,d,l,ab,an,yl⟩;rw[Lx]at J;let S I rfl:=LC.mp J;let et:(Sl D).j (i+1)=(Sl D).j i++[S]:=by rw[LI,I];rfl
  let i2:i<2:=by
   let:=(Ll.mp I).1;unfold Sl at this;split at this
   .exact MQ this
   .exact this
  let ap:Qr (sL S:G) (1*2^((D:R):G).U)=(sL S:G)/\Qr (sL S:G) fr=0:=by
   let C:=Lm I;rcases aa with⟨rfl,rfl⟩|⟨rfl,rfl⟩
   .let:=LB.mp C
    subst this;erw[10]
   .cases S
    .erw[10]
    .erw[10]
  let av:0<=(D:G)/\(D:G)<=1000000:=by lia
  erw[153,b,xs,r,y,v,T,S,U,d _ _ M,rP a d,fe,3]
  cases c:okR v T S r with
  |false =>
   erw[617,iteF #[5,j,U,d,l,ab,3,NW yl]];rw[et,OH];let : [S].filterMap (mvO v T r)=[]:=by simp[mvO,c]
   rw[this,Nd];exact an
  |true =>
   erw[617,iteT ?_];erw[9,.inl #[6,SqL.of ab],42393,#[av.1,av.2,by decide],161847717,(by show 3<=P7;decide),λt u=>?_]
   dsimp only;rw[ap.1,ap.2,Rw U];let p:=ah u (.tup [.int (sL S:G),.int 0,.int (smR v S r)]);erw[qf,j,41,p _ _ ab,ar ∅,3]
   let tu:=B8 (zs:=j++[.ref t]) (p _ _ ab);erw[5,j++[.ref t],U,aC (d.Q p) ac _,by rw[ao nq.Y];exact p _ _ l,af,3,by simp[*]]
   rw[et,OH];let : [S].filterMap (mvO v T r)=[((sL S:G),0,smR v S r)]:=by simp[mvO,c]
   rw[this];exact(nC an λb xs z=>tu _ _ (p _ _ z)).snoc #[t,U,tu _ _ af]
 rintro L O ⟨v5,v6,j,rfl,d,l,ab,an,yl⟩;rw[Lp,LQ]at an;erw[9,B qf j O d ac ab an]
open KF (andN orN shlN xorN)
def MvA(H:Hp)(v:V)(ms:E T3):Prop:=∃(d:eN)(o:hb)(q:eN)(j:E V),v=.ref d/\H d=Z (.frz o (.dK [(.inl 0,.ref q)]))/\H q=Z (.lst j)/\LsAt TrA H j ms
def MvA.mono(h:MvA H v ms)(s:mo):MvA H' v ms:=by
 let d o q j a b c e:=h;erw[d,o,q,j,a,s _ _ b,s _ _ c,nC e λ_ _ z=>s _ _ z]
def MvN(n:eN)(H:Hp)(v:V)(ms:E T3):Prop:=∃(d:eN)(o:hb)(q:eN)(j:E V),v=.ref d/\H d=Z (.frz o (.dK [(.inl 0,.ref q)]))/\H q=Z (.lst j)/\LsAt TrA H j ms/\q≠n
def MvN.mv{n:eN}(h:MvN n H v ms):MvA H v ms:=by
 let d o q j a b c e _:=h;erw[d,o,q,j,a,b,c,e]
def MvN.up{n:eN}(h:MvN n H v ms)(l:H n=Z (.lst zs))(s:∀ b u,b≠n->H b=Z u->H' b=Z u):MvN n H' v ms:=by
 let d o q j a b c e f:=h;erw[d,o,q,j,a,s _ _ (λz=>by simp!) b,s _ _ f c,nC e λ_ _ z=>s _ _ (λy=>by grind) z,f]
def Ir(ks:Kn)(T:R)(r:E R)(pl:R):(msL ks T r pl).L<=2:=by
 refine Mi (List.length_filterMap_le _ _) ?_;unfold Sl;split<;>decide
theorem Dw{ks:Kn}{T:R}{r:E R}{pl:R}:∀ t∈msL ks T r pl,t.2.1=0:=λt u=>by
 let S _ h:=Nz.mp u;unfold mvO at h;split at h
 .lia
 .contradiction
inductive spSgB
 |mk (d q:eN)(ys:E V)(ms:E T3) (_:vs=[.ref d])(_:H d=Z (.dK [(.inl 0,.ref q)]))(_:H q=Z (.lst ys))(_:LsAt TrA H ys ms)(_:ms.L<=2)(_:(∀ t∈ms,t.2.1=0))(_:∀(l:eN)(o:hb) H',Same (upd H d (.frz o (.dK [(.inl 0,.ref q)]))) H'->H' l=Z (.lst (if ms=[] then[] else[.int 0]))->Q (.ref l) H')
inductive Ie(PL PS WC:eN)
 |mk (p:eN)(T:R)(es:En)(ts rs:mx)(ks:Kn)(r1:E R) (_:vs=[.ref p,.int (T:G)])(_:FW PL PS WC H p es ts rs ks)(_:ts[1]?=Z r1)(_:∀(q:eN)(v0 v1:V) H',mo->H' q=Z (.lst [v0,v1])->MvA H' v0 [(0,0,0)]->MvA H' v1 (msL ks T r1 1)->Q (.ref q) H')
def bN:aw ["moves","met","found","own","then","cost"] ["moves"] (aq gf):=by ac_nf
def Di(F:Fun K "signs_behind" "signs_behind" gf f fd)(T:Txt mg):kt 1 f fd ["moves"] spSgB:=by
 refine F.ok bN (by walk_at "l") λg A I s H M Q ef eg h=>?_
 let d q v ms rfl hd Y ls m2 h0 kk:=h;let hu:=oy eg;let ab:=eg.units
 intro Xc Dc;erw[_,(ag (az 1 bN.nd fO)
   (ag (mj (CQ (CZ Nr PM PySem.F.type_dict_values Du (pv 0))) (bp 2 bN.nd) (aj (mj (aJ (pv 2)) (iM U (ay (bp 3 bN.nd) (ay (bp 4 bN.nd) (ay (bp 5 bN.nd) br)))) (aj (gm hu (pv 1) (pv 4) tH U)))))
   (aj (aF (dQ (qY U) (by rfl) T.n_list jL (ae (pv 1) ai)))))),3]
 refine λc p=>?_;let m:=ah p (.dK []);erw[9,.inr (.inr (.inl #[U,.inl #[_,m _ _ hd]])),d,41,m _ _ hd,λvw ac=>?_];let r:=ah ac (kH vw d);erw[vw,d,9,af,r _ _ (m _ _ hd),λo=>?_];let B hB:∃ B,upd H d (.frz o (.dK [(.inl 0,.ref q)]))=B:=#[9];let kk:=λl H' (s:Same B H') z=>kk l o H' (by rw[hB];exact s) z
 let al:c≠d:=(aB hd p).Y;let Bc:B c=kf:=by rw[← hB,ao al];exact p
 let Bd:B d=Z (.frz o (.dK [(.inl 0,.ref q)])):=by rw[← hB];exact af
 let Bk:∀ b u,b≠d->H b=Z u->B b=Z u:=λb u n e=>by rw[← hB,ao n];exact e
 let Bq:B q=Z (.lst v):=Bk _ _ (λz=>by rw[z,hd]at Y;cases Y) Y
 let am:LsAt TrA B v ms:=nC ls λb xs e=>Bk _ _ (λz=>by simp!) e
 let s3:Same B (upd (upd (upd H c (.dK [])) vw (kH vw d)) d (.frz o (.dK [(.inl 0,.ref q)]))):=λb u e=>by
  by_cases z:b=d
  .rw[z]at e ⊢;rw[Bd]at e;rw[af];exact e
  .rw[← hB,ao z]at e;rw[ao z];exact r _ _ (m _ _ e)
 let c3:(upd (upd (upd H c (.dK [])) vw (kH vw d)) d (.frz o (.dK [(.inl 0,.ref q)]))) c=Z (.dK []):=by
  rw[ao al];exact r _ _ af
 generalize upd (upd (upd H c (.dK [])) vw (kH vw d)) d (.frz o (.dK [(.inl 0,.ref q)]))=H3 at s3 c3;refine Bj (kvs:=[(.inl 0,.ref q)]) (λi L H4=>∃ v2 v3 v4 v5,L=[Z (.ref d),Z (.ref c),v2,v3,v4,v5]/\Same B H4/\H4 c=Z (.dK (if i=0∨ms=[] then[] else[(.inl 0,.bl i0)]))) #[597,s3,c3] (λi L H4 _ aa=>by let _ _ _ _ _ z _:=aa;exact z _ _ Bd) ?_ ?_
 .rintro i k y L H4 N ⟨v2,v3,v4,v5,rfl,s4,c4⟩;match i,N with
  |0,N =>
   cases N
   erw[9,q,U,#[_,SqL.of (s4 _ _ Bq)],bh (K:=K) (xs:=v) (λj L H5=>∃ v3 v4 v5,L=[Z (.ref d),Z (.ref c),Z (.ref q),v3,v4,v5]/\Same B H5/\H5 c=Z (.dK (if j=0 then[] else[(.inl 0,.bl i0)]))) #[149,s4,by rw[c4,Rw (.inl U),Rw U]] (λj L H5 _ aa=>by let _ _ _ _ z _:=aa;exact SqL.of (z _ _ Bq)) ?_ ?_]
   .rintro j x L H5 J ⟨v3,v4,v5,rfl,s5,c5⟩;let t D a rfl O:=am.get J;let t0:=h0 t (Lm D);rw[t0]at O;erw[a,9,SqT.of (s5 _ _ O),644441494,c,9,DPut.k (k:=.inl 0) c5 (by split<;>decide),149,aC s5 Bc _,3]
    rw[af,show(if j+1=0 then([]:E (Key×V)) else[(.inl 0,.bl i0)])=[(.inl 0,.bl i0)] from Rx ∅]
    by_cases z:j=0
    .rw[Rw z];rfl
    .rw[Rx z];rfl
   .rintro L H5 ⟨v3,v4,v5,rfl,s5,c5⟩;erw[597,s5,3];rw[c5,ls.1];by_cases z:ms=[]
    .rw[Rw (by rw[z];rfl),Rw (.inr z)]
    .rw[Rx (λy=>z (Mh y)),Rx (λy=>y.elim (λw=>by cases w) z)]
  |i+1,N=>cases N
 .rintro L H4 ⟨v2,v3,v4,v5,rfl,s4,c4⟩;erw[9,c,9,c4,λl C=>kk l _ (s4.Q (ah C _)) ?_];rw[af];by_cases z:ms=[]
  .rw[Rw (.inr z),Rw z];rfl
  .rw[Rx (λy=>y.elim (λw=>by cases w) z),Rx z];rfl
def bG:aw ["web","tight","rows","coming","place","back","front","moves","signs"] ["web","tight"] (aq kQ):=by ac_nf
def Kl{f4 PS WC:eN}{d1 d3 d4:fk}(F:Fun K "all_moves" "all_moves" kQ f fd)(a3:k9 3 "narrow_order" ["web"] (Ci PL PS WC) f1 d1)(a6:k9 4 "stations" ["web","order","tight"] (HQ PL PS WC) f2 eg)(a5:k9 4 "moves_from" ["place","back","front","signs"] (Ck PL PS) I d3)(a4:k9 1 "signs_behind" ["moves"] spSgB f4 d4):kt 5 f fd ["web","tight"] (Ie PL PS WC):=by
 refine F.ok bG (by walk_at "l") λab A aa s H vs Q ef N h=>?_
 let p T es ts rs ks r1 rfl aT am kk:=h;let hu:=oy N;let ap:=N.units
 intro Xc Dc;erw[_,(ag (az 2 bG.nd (bC ai))
   (ag (az 3 bG.nd (bC (ae ak ai)))
   (ag (mj (aJ (a6.c N (ae (pv 0) (ae (a3.c N (ae (pv 0) ai)) (ae (pv 1) ai))))) (iM U (ay (bp 4 bG.nd) (ay (bp 5 bG.nd) (ay (bp 6 bG.nd) br)))) (ag (az 7 bG.nd fO)
   (ag (mj (aJ (pv 3)) (bp 8 bG.nd) (aj (gm hu (pv 7) (pv 8) (a5.c N (ae (pv 4) (ae (pv 5) (ae (pv 6) (ae (pv 8) ai))))) U)))
   (ag (aR (d7 LG LN LL aO (pv 2) (ae (pv 7) ai)))
   (aj (az 3 bG.nd (a4.c N (ae (pv 7) ai))))))))
   (aj (aF (pv 2)))))),3]
 erw[(by show 0<=P7;decide),λqr aZ=>#[(by show 1<=P7;decide),λq0 a7=>?_]]
 let D:=ah aZ (.lst []);let s2:=D.Q (ah a7 (.lst [.int 0]));let nq:qr≠q0:=λz=>by rw[← z,af]at a7;contradiction
 let g0:(upd (upd H qr (.lst [])) q0 (.lst [.int 0])) q0=Z (.lst [.int 0]):=af;let gr:(upd (upd H qr (.lst [])) q0 (.lst [.int 0])) qr=Z (.lst []):=by rw[ao nq];exact af
 generalize upd (upd H qr (.lst [])) q0 (.lst [.int 0])=H1 at s2 g0 gr;erw[153,p,es,ts,rs,ks,U,aT.mono s2,λqo O s3 bn=>?_];let aI:=s2.Q s3;erw[9,p,qo,T,es,ts,rs,ks,r1,U,aT.mono aI,am,bn,λqs a0 a1 b0 b1 xs H3 s4 bP a2 h0 Y bR bv ls=>?_];let bb:=aI.Q s4;let a9:=(s3.Q s4) _ _ gr;let C CH Cq:∃ C:Hp,(∀ b,b≠qr->C b=H3 b)/\C qr=kf:=#[λb=>if b=qr then kf else H3 b,λb n=>Rx n,Rw U];let sC:Same C H3:=λb u e=>by
  by_cases z:b=qr
  .simp!
  .rw[← CH b z];exact e
 let HC:Same H C:=λb u e=>by rw[CH b (aB e aZ)];exact bb _ _ e
 let nl:∀{b:eN}{u:HO},H3 b=Z u->u≠.lst []->C b=Z u:=λ{b u} e n=>by rw[CH b λz=>n (by rw[z,a9]at e;exact(L3 e).Y)];exact e
 let nb:b0≠qr:=λz=>by rw[z,s3 _ _ gr]at bP;contradiction
 let pm:=aT.row (.inr U) am;let c0:=nl h0 (λz=>by cases z)
 let c1:=nl Y (λz=>by cases z)
 let cs:=nl a2 (λz=>by cases z)
 let bT:C b0=Z (.lst []):=by rw[CH _ nb];exact bR
 let bU:C b1=Z (.lst xs):=nl bv (λz=>by
  let e:xs.L=0:=by simp!
  rw[ls.1,pm.length_eq,L7]at e;let:=aT.e0
  lia)
 let cls:LsAt (TkA PL PS es ks T) C xs r1:=ls.imp λy k ⟨t,p,dx,e,kk,u1,u2,u3,u4,u5⟩=>#[t,p,dx,e,kk,u1,nl u2 (λz=>by cases z),u3,u4,nl u5 (λz=>by cases z)]
 erw[qs,U,#[_,SqL.of a2],bh (K:=K) (xs:=[V.ref a0,V.ref a1]) (λi L H4=>∃ v4 v5 v6 v7 v8 qc rl,L=[Z (.ref p),Z (.int (T:G)),Z (.ref qr),Z (.ref qc),v4,v5,v6,v7,v8]/\(Same C H4/\(H4 qr=Z (.lst rl)/\(rl.L=i/\((i<=1->H4 qc=Z (.lst [.int 0]))/\((∀ v,rl[0]?=Z v->MvN qr H4 v [(0,0,0)])/\(∀ v,rl[1]?=Z v->MvN qr H4 v (msL ks T r1 1)))))))) #[341,q0,[],U,sC,a9,U,(λ_=>(s3.Q s4) _ _ g0),(λv z=>by cases z),λv z=>by cases z] (λi L H4 _ ac=>by let _ _ _ _ _ _ _ _ z _:=ac;exact SqL.of (z _ _ cs)) ?_ ?_]
 .rintro i x L H4 J ⟨v4,v5,v6,v7,v8,qc,rl,rfl,s5,ba,aS,gq,m0,m1⟩;let B:i=0∨i=1:=by let:i<2:=(Ll.mp J).1;lia
  let a b pl fr ys r rfl ha M bY an N:∃(a b:eN)(pl:R)(fr:G)(ys:E V)(r:E R),x=.ref a/\C a=Z (.tup [.int (pl:G),.ref b,.int fr])/\C b=Z (.lst ys)/\LsAt (TkA PL PS es ks T) C ys r/\(pl=0/\fr=1∨pl=1/\fr=0)/\(i=0/\msL ks T r pl=[(0,0,0)]∨i=1/\msL ks T r pl=msL ks T r1 1):=by
   obtain rfl|rfl:=B
   .cases J;erw[a0,b0,00,01,[],[],U,c0,bT,LsAt.nil,.inl #[10],.inl #[10]]
   .cases J;erw[a1,b1,01,00,xs,r1,U,c1,bU,cls,.inr #[10],.inr #[10]]
  erw[a,9,SqT.of (s5 _ _ ha),2712982,λd hd=>?_];let s6:=ah hd (.dK []);let bJ:=gq ∅
  erw[9,qc,U,#[_,SqL.of (s6 _ _ bJ)],bh (K:=K) (xs:=[V.int 0]) (λj L H5=>∃ v8,L=[Z (.ref p),Z (.int (T:G)),Z (.ref qr),Z (.ref qc),Z (.int (pl:G)),Z (.ref b),Z (.int fr),Z (.ref d),v8]/\Same H4 H5/\(j=0->H5 d=Z (.dK []))/\(j=1->∃ q ys,H5 d=Z (.dK [(.inl 0,.ref q)])/\H5 q=Z (.lst ys)/\LsAt TrA H5 ys (msL ks T r pl)/\q≠qr)) #[9,s6,(λ_=>af),λz=>by cases z] (λj L H5 _ ac=>by let _ _ z _ _:=ac;exact SqL.of (z _ _ bJ)) ?_ ?_]
  .rintro j y L H5 hy ⟨v8,rfl,s7,d5,_⟩;match j,hy with
   |0,hy =>
    cases hy
    let av:=s5.Q s7;erw[39321,b,pl,fr,ys,r,es,ks,T,U,an,av _ _ M,rP bY av,aT.fe,λq be H6 s8 bK hq bi=>?_];let d6:=s8 _ _ (d5 U);erw[153,d,9,DPut.k (k:=.inl 0) d6 ∅,9,aC (s7.Q s8) hd _,(λz=>by cases z),λ_=>#[q,be,af,15,λz=>by rw[z,s7 _ _ ba]at bK;cases bK]]
    .rw[ao λz=>by rw[z,d6]at hq;cases hq]
     exact hq
    .refine nC bi λb xs e=>?_;rw[ao λz=>by rw[z,d6]at e;cases e]
     exact e
   |j+1,hy=>cases hy
  .rintro L H5 ⟨v8,rfl,s7,_,d5⟩;let q be d6 hq bi bz:=d5 U;let bm:=s7 _ _ ba;erw[9,.inl #[6,SqL.of bm],9,qr,rl,41,bm,ar ∅,3]
   let nd:d≠qr:=λz=>by rw[z,ba]at hd;cases hd
   let up:∀ b u,b≠qr->H5 b=Z u->(upd H5 qr (.lst (rl++[.ref d]))) b=Z u:=λb u n e=>by rw[ao n];exact e
   erw[9,d,q,be,msL ks T r pl,U,up _ _ nd d6,up _ _ bz hq,nC bi λb xs e=>up _ _ (λz=>by rw[z,bm]at e;cases e) e,Ir _ _ _ _,Dw,λl o H9 s9 g=>?_]
   let bB:∀ b u,b≠qr->b≠d->H5 b=Z u->H9 b=Z u:=λb u n m e=>s9 _ _ (by rw[ao m];exact up _ _ n e)
   let al:∀ b u,b≠qr->H4 b=Z u->H9 b=Z u:=λb u n e=>bB b u n (aB e hd) (s7 _ _ e);let d9:H9 d=Z (.frz o (.dK [(.inl 0,.ref q)])):=s9 _ _ af;let a8:q≠d:=λz=>by rw[z,d6]at hq;cases hq
   let nw:MvN qr H9 (.ref d) (msL ks T r pl):=#[d,o,q,be,U,d9,bB _ _ bz a8 hq,nC bi λb xs e=>bB _ _ (λz=>by rw[z,bm]at e;cases e) (λz=>by rw[z,d6]at e;cases e) e,bz]
   erw[341,l,rl++[.ref d],U,λb u e=>al b u (λz=>by rw[z,Cq]at e;cases e) (s5 _ _ e),s9 _ _ (by rw[ao nd.Y];exact af),by rw[Ls,aS];rfl,λz=>?_,3]
   .rcases N with⟨rfl,e⟩|⟨rfl,e⟩
    .rw[g,e,Rx (λz=>by cases z)]
    .lia
   .rcases N with⟨rfl,e⟩|⟨rfl,e⟩
    .let e0:rl=[]:=Mh aS
     subst e0;rw[e]at nw;erw[λv z=>by cases z;exact nw,λv z=>by cases z]
    .let x rfl:=Aq aS;rw[e]at nw;erw[λv z=>by cases z;exact(m0 _ U).up ba al,λv z=>by cases z;exact nw]
 .rintro L H4 ⟨v4,v5,v6,v7,v8,qc,rl,rfl,s5,ba,aS,gq,m0,m1⟩;let x y rfl:=zU aS;erw[9,kk qr x y H4 (HC.Q s5) ba (m0 _ U).mv (m1 _ U).mv]
open KF (andN orN shlN xorN)
def PrA(H:Hp)(v:V)(t:G×G):Prop:=∃ a,v=.ref a/\H a=Z (.tup [.int t.1,.int t.2])
theorem kS{ws:E (G×G)}(h:LsAt PrA H ys ws)(s:∀ b xs,H b=Z (.tup xs)->H' b=Z (.tup xs)):LsAt PrA H' ys ws:=h.imp λ_ _ ⟨a,x,y⟩=>#[a,x,s _ _ y]
def BsA(H:Hp)(v:V)(ps:E (G×G)):Prop:=∃(d q:eN)(j:E V),v=.ref d/\H d=Z (.dK [(.inl 0,.ref q)])/\H q=Z (.lst j)/\LsAt PrA H j ps
def BsA.mono{ps:E (G×G)}(h:BsA H v ps)(s:mo):BsA H' v ps:=by
 let d q j a b c e:=h;erw[d,q,j,a,s _ _ b,s _ _ c,kS e λ_ _ z=>s _ _ z]
def BsN(n:eN)(H:Hp)(v:V)(ps:E (G×G)):Prop:=∃(d q:eN)(j:E V),v=.ref d/\H d=Z (.dK [(.inl 0,.ref q)])/\H q=Z (.lst j)/\LsAt PrA H j ps/\q≠n
def BsN.bs{n:eN}{ps:E (G×G)}(h:BsN n H v ps):BsA H v ps:=by
 let d q j a b c e _:=h;erw[d,q,j,a,b,c,e]
def BsN.up{n:eN}{ps:E (G×G)}(h:BsN n H v ps)(l:H n=Z (.lst zs))(s:∀ b u,b≠n->H b=Z u->H' b=Z u):BsN n H' v ps:=by
 let d q j a b c e f:=h;erw[d,q,j,a,s _ _ (λz=>by simp!) b,s _ _ f c,kS e λ_ _ z=>s _ _ (λy=>by simp!) z,f]
def wy(av:G)(t:T3):T3:=(t.2.2+av,t.1,t.2.1)
def dtT(t:T3):ge:=.tuple [.int t.1,.int t.2.1,.int t.2.2]
def Jg{ws:E T3}(h:H a=Z (.lst zs))(ls:LsAt TrA H zs ws):RdD K H (.ref a) (.list (ws.h dtT)):=by
 refine RdD.lst (SqL.of h) (by rw[Lp];exact ls.1) λi x d f A=>?_
 let t u b rfl M:=ls.get f;rw[Lx,u]at A
 cases A
 refine RdD.tup (SqT.of M) U λi x d f A=>?_;match i,f,A with
 |0,f,A=>cases f;cases A;exact .int _
 |1,f,A=>cases f;cases A;exact .int _
 |2,f,A=>cases f;cases A;exact .int _
 |i+3,f,A=>cases f
theorem Jf(ws:E T3):SeqAt.shaped (.list (ws.h dtT))=i0:=kK λd hd=>by
 let t _ rfl:=LW.mp hd;erw[U,Nat.le_of_ble_eq_true U]
def iT(ms:E T3)(low:G):E (G×G):=(ms.filter λt=>decide (t.2.2=low)).h λt=>(t.1,t.2.1)
def E9(ms:E T3)(t:T3)(low:G):iT (ms++[t]) low=iT ms low++if t.2.2=low then[(t.1,t.2.1)] else[]:=by
 unfold iT;rw[M9,LH];by_cases z:t.2.2=low
 .simp[z]
 .simp[z]
def Low(ms:E T3)(low:G):Prop:=(∀ t∈ms,low<=t.2.2)/\∃ t∈ms,t.2.2=low
inductive Ib
 |mk (a:eN)(v0 v1:V)(ms:E T3) (_:vs=[.ref a])(_:H a=Z (.lst [v0,v1]))(_:MvA H v0 [(0,0,0)])(_:MvA H v1 ms)(_:ms≠[])(_:ms.L<=2)(_:(∀ t∈ms,t.2.1=0))(_:∀(q:eN)(b0 b1:V)(low:G) H',mo->H' q=Z (.lst [b0,b1])->BsA H' b0 [(0,0)]->BsA H' b1 (iT ms low)->Low ms low->Q (.ref q) H')
structure TxtR(mg:ff->ii eK):Prop extends Txt mg where
 n_reversed:mg "reversed"=kf
def aX:aw ["rows","kept","least_ahead","moves","best","least_here","signs","found","ways","low"] ["rows"] (aq i7):=by ac_nf
def Kj(F:Fun K "best_moves" "best_moves" i7 f fd)(T:Txt mg)(n_reversed:mg "reversed"=kf):kt 1 f fd ["rows"] Ib:=by
 let T:TxtR mg:={T with n_reversed:=n_reversed};refine F.ok aX (by walk_at "l") λaa A O s H vs Q ef N h=>?_
 let a v0 v1 ms rfl ha h0 Y ne m2 z0 kk:=h;let hu:=oy N;let an:=N.units
 intro Xc Dc;erw[_,(ag (az 1 aX.nd (bC ai))
   (ag (az 2 aX.nd (tG (oP ak ak sW) U U (λz=>by cases z) ∅))
   (ag (mj (pi_rev U T.n_reversed (pv 0)) (bp 3 aX.nd) (ag (az 4 aX.nd fO)
   (ag (az 5 aX.nd fO)
   (ag (mj (CS (CV (pv 3))) (iM U (ay (bp 6 aX.nd) (ay (bp 7 aX.nd) br))) (ag (nA 8 [("least_ahead",2)] ["own","then","cost"] aX.nd (aJ (pv 7)) (λC ex s H=>(dq (n:=3) (K:=K) U U (ay (aU (i:=0) (show(["own","then","cost","least_ahead"]:E ff).l from by decide) U (Or.inl U)) (ay (aU (i:=1) (show(["own","then","cost","least_ahead"]:E ff).l from by decide) U (Or.inl U)) (ay (aU (i:=2) (show(["own","then","cost","least_ahead"]:E ff).l from by decide) U (Or.inl U)) br))))) (λC ex s H=>(gk (Ak (pc_din hu (pv 1) (pv 3))))) (λC ex s H=>(cm (ae (ax cV (pv 2) (ib hu (pv 3) (pv 1) (λ_ _=>rfl))) (ae (pv 0) (ae (pv 1) ai))))))
   (aj (cz (aA (C6 an) (pv 8) (bC ai) (aH _)) (ag (az 9 aX.nd (cR (aG (wW U an) (by rfl) T.n_min qE (ae (pv 8) ai)) ak))
   (ag (gm hu (pv 5) (pv 6) (pv 9) U)
   (aj (gm hu (pv 4) (pv 6) (eM [("low",9)] ["cost","own","then"] (aJ (pv 8)) (λC ex s H=>(dq (n:=3) (K:=K) U U (ay (aU (i:=0) (show(["cost","own","then","low"]:E ff).l from by decide) U (Or.inl U)) (ay (aU (i:=1) (show(["cost","own","then","low"]:E ff).l from by decide) U (Or.inl U)) (ay (aU (i:=2) (show(["cost","own","then","low"]:E ff).l from by decide) U (Or.inl U)) br))))) (λC ex s H=>(gk (aA eO (pv 0) (pv 3) (aH _)))) (λC ex s H=>(cm (ae (pv 1) (ae (pv 2) ai))))) U)))) aQ))))
   (ag (aR (d7 LG LN LL aO (pv 1) (ae (pv 4) ai)))
   (aj (az 2 aX.nd (pv 5))))))))
   (aj (aF (ml U U T.n_list U T.n_reversed (pv 1))))))),3]
 erw[(by show 0<=P7;decide),λqk ci=>?_]
 let m:=ah ci (.lst []);let ck:(upd H qk (.lst [])) qk=Z (.lst []):=af;generalize upd H qk (.lst [])=p at m ck;refine λla bb=>?_;erw[af,[(.inl 0,.int 0)],66]
 let s2:=ah bb (.dK []);let s3:Same p (upd (upd p la (.dK [])) la (.dK (eE [] [(.inl 0,.int 0)]))):=aC s2 bb _;let aS:(upd (upd p la (.dK [])) la (.dK (eE [] [(.inl 0,.int 0)]))) la=Z (.dK [(.inl 0,.int 0)]):=by rw[af];rfl
 generalize upd (upd p la (.dK [])) la (.dK (eE [] [(.inl 0,.int 0)]))=H3 at s3 aS;let ap:=m.Q s3;erw[9,a,[v0,v1],U,SqL.of (ap _ _ ha),KN (K:=K) (xs:=[v0,v1]) (λi L H4=>∃(la:eN)(av:G)(w3 w4 w5 w6 w7 w8 w9:ii V)(kl:E V),L=[Z (.ref a),Z (.ref qk),Z (.ref la),w3,w4,w5,w6,w7,w8,w9]/\(Same H H4/\(H4 la=Z (.dK [(.inl 0,.int av)])/\(H4 qk=Z (.lst kl)/\(kl.L=i/\((∀ v,kl[0]?=Z v->∃ am,Low ms am/\BsN qk H4 v (iT ms am))/\(∀ v,kl[1]?=Z v->BsN qk H4 v [(0,0)]))))))) #[la,00,5461,[],U,ap,aS,s3 _ _ ck,U,(λv z=>by cases z),λv z=>by cases z] (λi L H4 _ ab=>by let _ _ _ _ _ _ _ _ _ _ _ z _:=ab;exact SqL.of (z _ _ ha)) ?_ ?_]
 .rintro i x L H4 J ⟨la,av,w3,w4,w5,w6,w7,w8,w9,kl,rfl,s4,cl,bi,bm,k0,k1⟩;let B:i=0∨i=1:=by let:i<2:=(Ll.mp J).1;lia
  let mr hm co da zr cW:∃ mr:E T3,MvA H x mr/\mr≠[]/\mr.L<=2/\(∀ t∈mr,t.2.1=0)/\(i=0/\mr=ms∨i=1/\mr=[(0,0,0)]):=by
   obtain rfl|rfl:=B
   .cases J;erw[ms,Y,ne,m2,z0,.inl #[10]]
   .cases J;erw[[(0,0,0)],h0,(λz=>by cases z),4,(λt ht=>by rw[LB.mp ht]),.inr #[10]]
  let d o q g rfl hd eg ls:=hm.mono s4;refine λpb cc=>λph bP=>?_;let s5:=(ah cc (.dK [])).Q (ah bP (.dK []));let cd:pb≠ph:=λz=>by rw[← z,af]at bP;cases bP
  let cp:(upd (upd H4 pb (.dK [])) ph (.dK [])) ph=Z (.dK []):=af;let cs:(upd (upd H4 pb (.dK [])) ph (.dK [])) pb=Z (.dK []):=by rw[ao cd];exact af
  let ct:H4 ph=kf:=gB (ah cc (.dK [])) bP;generalize upd (upd H4 pb (.dK [])) ph (.dK [])=H5 at s5 cp cs;erw[9,d,.dK [(.inl 0,.ref q)],U,#[trivial,.inr #[o,s5 _ _ hd]],λvw be=>?_];let s6:=ah be (iQ vw d);erw[vw,d,.dK [(.inl 0,.ref q)],U,af,#[trivial,.inr #[o,s6 _ _ (s5 _ _ hd)]],λo' uq=>?_];let eo:=uq _ (s6 _ _ (s5 _ _ hd));subst eo;let s7:Same (upd H5 vw (iQ vw d)) (upd (upd H5 vw (iQ vw d)) d (.frz o (.dK [(.inl 0,.ref q)]))):=λb u e=>by
   by_cases z:b=d
   .rw[z]at e ⊢;rw[af,← e];exact(s6 _ _ (s5 _ _ hd)).Y
   .rw[ao z];exact e
  let a8:=s6.Q s7;let bJ:=a8 _ _ cp;let cu:=a8 _ _ cs;let cv:=s5.Q a8;generalize upd (upd H5 vw (iQ vw d)) d (.frz o (.dK [(.inl 0,.ref q)]))=H7 at cv bJ cu;refine Eb (u:=.dK [(.inl 0,.ref q)]) (d:=d) (o:=o) (λj L H8=>∃(w6 w7 w8 w9:ii V),L=[Z (.ref a),Z (.ref qk),Z (.ref la),Z (.ref d),Z (.ref pb),Z (.ref ph),w6,w7,w8,w9]/\Same H4 H8/\(j=0->H8 ph=Z (.dK [])/\H8 pb=Z (.dK []))/\(j=1->∃(am:G)(qb:eN)(zs:E V),Low mr am/\H8 ph=Z (.dK [(.inl 0,.int (am+av))])/\H8 pb=Z (.dK [(.inl 0,.ref qb)])/\H4 qb=kf/\H8 qb=Z (.lst zs)/\LsAt PrA H8 zs (iT mr am))) #[597,cv,(λ_=>#[bJ,cu]),λz=>by cases z] (λj L H8 _ ab=>by let _ _ _ _ _ z _:=ab;exact z _ _ hd) ?_ ?_
  .rintro j x y L H8 T8 hj ba ⟨w6,w7,w8,w9,rfl,s8,e8,_⟩ cw;let cX:j=0:=by let:j<1:=hj;lia
   subst cX;let rfl rfl:x=.int 0/\y=.ref q:=by
    rcases ba with⟨r,k,a1,a2,a3⟩|⟨r,k,t,a1,_⟩
    .cases a1;cases a2;erw[a3,U]
    .cases a1
   let cY cZ:=e8 U;let s9:=s8.Q (ah cw (.tup [.int 0,.ref q]));erw[T8,9,SqT.of af,238998];let bn:=s9 _ _ eg;let yl:=ls.1;let b0:=s9 _ _ cl;let wl:(mr.h (wy av)).L=mr.L:=Lp _;let cy:=ah cw (.tup [.int 0,.ref q]);let cA:=cy _ _ cY;let cB:=cy _ _ cZ;generalize upd H8 T8 (.tup [.int 0,.ref q])=H9 at s9 bn b0 cA cB;erw[9,q,U,#[_,SqL.of bn],bg (K:=K) (xs:=g) (λj zs HA=>Same H9 HA/\LsAt TrA HA zs ((mr.j j).h (wy av))) (LK (ar ∅)) #[λ_ _ e=>e,LsAt.nil] (λj zs HA _ z=>SqL.of (z.1 _ _ bn)) ?_ ?_ (λj zs HA z=>by rw[z.2.1,Lp,Me];exact M5 _ _)]
   .rintro j x zs HA J ⟨sA,bR⟩;let t ht b rfl M:=ls.get J;let et:mr.j (j+1)=mr.j j++[t]:=by rw[LI,ht];rfl
    let cD:=sA _ _ (s9 _ _ M);rw[zr t (Lm ht)]at cD;let gA:DGet HA la (.int 0) (Z (.int av)):=DGet.k (k:=.inl 0) (sA _ _ b0);erw[b,9,SqT.of cD,2578015638,la,9,gA,9,iteT ?_];erw[2457,la,9,gA,39333,(by show 3<=P7;decide),λt3 a6=>?_]
    let sB:=ah a6 (.tup [.int (t.2.2+av),.int t.1,.int 0]);erw[sA.Q sB,3];rw[et,LH];exact(nC bR λb xs e=>sB _ _ e).snoc #[t3,U,by show _=Z (HO.tup [.int (t.2.2+av),.int t.1,.int t.2.1]);rw[zr t (Lm ht)];exact af]
   rintro zs HA ⟨sA,bR⟩ wa bK;rw[yl,LQ]at bR;let sB:=ah bK (.lst zs);let ce:=nC bR λb xs e=>sB _ _ e;let cf:(upd HA wa (.lst zs)) wa=Z (.lst zs):=af;let cK:=sA.Q sB;generalize upd HA wa (.lst zs)=HB at sB ce cf cK;let cb:mr.h (wy av)≠[]:=λz=>co (List.map_eq_nil_iff.mp z);erw[9,(by show 0<=P7;decide),λl I=>?_]
   let sC:=ah I (.lst []);erw[5,Jg (sC _ _ cf) (nC ce λb xs e=>sC _ _ e),RdD.lst (ds:=[]) (SqL.of af) U (λi x d e=>by cases e),Jf _,230]
   let al:(!ge.eqv (.list ((mr.h (wy av)).h dtT)) (.list []))=i0:=by
    cases mr with
    |nil=>exact Ry U co
    |cons a l=>rfl
   rw[al];refine iteT ?_;let bv:=sC _ _ cf;let bT:=nC ce λb xs e=>sC _ _ e;let bU:=cK.Q sC;generalize upd HB l (.lst [])=HC at sC bv bT bU;erw[9,wa,zs,9,SqL.of bv,bT,cb,λi y t hy ht a0=>?_];let t' a5 tb rfl aT:=bT.get hy;rw[ht]at a5
   cases a5
   erw[tb,_,00,41,SqT.of aT,14];rw[Lx]at ht;let t0 aZ rfl:=LC.mp ht
   let aI:Low mr t0.2.2:=#[λu hu=>by
    let:(wy av t0).1<=(wy av u).1:=a0 _ (LW.mpr #[u,hu,U]);let:t0.2.2+av<=u.2.2+av:=this
    lia,t0,Lm aZ,U]
   let cg:=bU _ _ cA;let c5:=s9.Q bU;erw[2457,ph,9,DPut.k (k:=.inl 0) cg ∅,3]
   let dn:∀ b u,b≠ph->HC b=Z u->(upd HC ph (.dK (putK [] (.inl 0) (.int (wy av t0).1)))) b=Z u:=λb u n e=>by rw[ao n];exact e
   let ch:=dn _ _ (λz=>by rw[z,cg]at bv;cases bv) bv
   let bY:=nC bT λb xs e=>dn _ _ (λz=>by rw[z,cg]at e;cases e) e
   let bZ:=dn _ _ cd (bU _ _ cB);let b5:(upd HC ph (.dK (putK [] (.inl 0) (.int (wy av t0).1)))) ph=Z (.dK [(.inl 0,.int (t0.2.2+av))]):=by rw[af];rfl
   let cP:Same H4 (upd HC ph (.dK (putK [] (.inl 0) (.int (wy av t0).1)))):=aC c5 ct _;generalize upd HC ph (.dK (putK [] (.inl 0) (.int (wy av t0).1)))=HD at ch bY bZ b5 cP;erw[9,wa,U,#[_,SqL.of ch],bg (K:=K) (xs:=zs) (λj us HE=>Same HD HE/\LsAt PrA HE us (iT (mr.j j) t0.2.2)/\us.L<=j) (LK (ar (by rw[bY.1];lia))) #[λ_ _ e=>e,LsAt.nil,Lo _] (λj us HE _ z=>SqL.of (z.1 _ _ ch)) ?_ ?_ (λj us HE z=>z.2.2)]
   .rintro j x us HE J ⟨sE,bz,ul⟩;let t' a5 b rfl M:=bY.get J;rw[Lx]at a5;let u a4 rfl:=LC.mp a5;let et:mr.j (j+1)=mr.j j++[u]:=by rw[LI,a4];rfl
    rw[et,E9];erw[b,9,SqT.of (sE _ _ M),165786772886,ite2 (λc=>?_) (λc=>?_)]
    .let c':u.2.2=t0.2.2:=by
      let:u.2.2+av=t0.2.2+av:=V.int.inj (Rl c);lia
     rw[Rw c'];erw[153,(by show 2<=P7;decide),λt2 a7=>?_]
     let sF:=ah a7 (.tup [.int u.1,.int u.2.1]);erw[sE.Q sF,(kS bz λb xs e=>sF _ _ e).snoc #[t2,U,af],by rw[Ls,LZ];lia]
    .let c':¬ u.2.2=t0.2.2:=λz=>c (QG (congrArg V.int (show u.2.2+av=t0.2.2+av by rw[z])))
     rw[Rx c',Nd];erw[sE,bz,NW ul]
   rintro us HE ⟨sE,bz,ul⟩ D hD;rw[bY.1,Lp,LQ]at bz;let sF:=ah hD (.lst us);let c6:=sF _ _ (sE _ _ bZ);let cQ:=cP.Q sE;erw[153,pb,9,DPut.k (k:=.inl 0) c6 ∅,3]
   let np:D≠pb:=(aB (sE _ _ bZ) hD).Y;erw[597,aC (cQ.Q sF) cc _,(λz=>by cases z),λ_=>#[t0.2.2,D,us,aI,3,af,gB cQ hD,by rw[ao np];exact af,3]]
   .rw[ao cd.Y];exact sF _ _ (sE _ _ b5)
   .refine kS bz λb xs e=>?_;rw[ao λz=>by rw[z,sE _ _ bZ]at e;cases e]
    exact sF _ _ e
  .rintro L H8 ⟨w6,w7,w8,w9,rfl,s8,_,e8⟩;let am qb zs aI ep eb cT a9 c7:=e8 U;let bB:=s8 _ _ bi;erw[9,.inl #[6,SqL.of bB],9,qk,kl,41,bB,ar ∅,3]
   let up:∀ b u,b≠qk->H8 b=Z u->(upd H8 qk (.lst (kl++[.ref pb]))) b=Z u:=λb u n e=>by rw[ao n];exact e
   let ac:∀ b u,b≠qk->H4 b=Z u->(upd H8 qk (.lst (kl++[.ref pb]))) b=Z u:=λb u n e=>up _ _ n (s8 _ _ e);let nq:qb≠qk:=λz=>by rw[z,bi]at cT;cases cT
   let nw:BsN qk (upd H8 qk (.lst (kl++[.ref pb]))) (.ref pb) (iT mr am):=#[pb,qb,zs,U,up _ _ (λz=>by rw[z,bB]at eb;cases eb) eb,up _ _ nq a9,kS c7 λb xs e=>up _ _ (λz=>by rw[z,bB]at e;cases e) e,nq]
   erw[9,ph,am+av,5461,kl++[.ref pb],U,aC (s4.Q s8) ci _,up _ _ (λz=>by rw[z,bB]at ep;cases ep) ep,af,by rw[Ls,bm];rfl,3]
   rcases cW with⟨rfl,rfl⟩|⟨rfl,rfl⟩
   .let e0:kl=[]:=Mh bm
    subst e0;erw[λv z=>by cases z;erw[am,aI,nw],λv z=>by cases z]
   .let x rfl:=Aq bm;let l0:am=0:=by
     let t ht e:=aI.2;rw[LB.mp ht]at e;exact e.Y
    subst l0;let lo b6 ca:=k0 _ U;erw[λv z=>by cases z;erw[lo,b6,ca.up bi ac],λv z=>by cases z;exact nw]
 .rintro L H4 ⟨la,av,w3,w4,w5,w6,w7,w8,w9,kl,rfl,s4,cl,bi,bm,k0,k1⟩;let x y rfl:=zU bm;let am aI M:=k0 _ U;erw[9,qk,9,SqL.of bi,λq eg=>?_];let s5:=ah eg (.lst [x,y].x);exact kk q y x am _ (s4.Q s5) af ((k1 _ U).bs.mono s5) (M.bs.mono s5) aI
open KF (andN orN shlN xorN)
def FunD.okD{j:ff}{st:fo}{N:E ff}{k:R}(F:FunD K x j st f fd items)(S:aw N ps (aq st))(len:∀ vs H Q ef,sp vs H Q ef->vs.L=ps.L)(i:∀(g:eK)(A:Around)(outer:E gi)(s:e9)(H:Hp)(vs:E V)(Q:VK)(ef:XK),Room k (A.deeper (PyProof.Rows.envOfC j (aq st) s.H.M.J f g))->sp vs H Q ef ->
   let X:=(cxOf (CXd P w) P w K mg base N j (aq st) f g A outer s H ef);let D:Ends:={nx:=λ_ H'=>Q .non H',rt:=Q};∃ t,PSs X (bq st) t/\t D (n8 N vs) H):FnOk P w K mg base (CXd P w) (k+1) f fd ps sp:=by
 let l m d kV B T p g a b rfl v z _:=F.ex;exact Ed v z S len λA outer s H vs Q ef eg I=>i g A outer s H vs Q ef eg I
def JB(ks:Kn)(S:im){a b:E R}(h:a.Perm b):smR ks S a=smR ks S b:=by
 unfold smR;induction h with
 |nil=>rfl
 |cons x _ L=>simp[*]
 |swap x y l=>rw[LR,LR,LR,LR,NJ,NJ,NJ,NJ];lia
 |trans _ _ Y O=>rw[Y,O]
theorem z8(ks:Kn)(S:im):∀ n,smR ks S (LD n)=cF ks S n
 |0=>rfl
 |n+1=>by
  rw[Oa,Cr,z8 ks S n];show _=if sB ks S n=i0 then cF ks S n+stg ks n else cF ks S n;split
  .rfl
  .exact Int.add_zero _
def dueL(ks:Kn)(n:R):E G:=([j5,i0].filter λS=>decide (cF ks S n=min (cF ks j5 n) (cF ks i0 n))).h λS=>(sL S:G)
def KQ{ks:Kn}(O:Oth 2 es ts ks rs ls)(h:FanE es)(l:rs.L<=40){c:G}{u:R}(hl:KF.Hls rs.L ls (mkW es ks ls) c kv)(eg:KF.oddE ls u es.L=mkW es ks ls)(T:KF.cstU ls u es.L<=c){r1:E R}(H:r1.Perm (LD es.L)):
  msL ks (MK (KF.tgB ls kv) es.L) r1 1≠[]/\∀ low,Low (msL ks (MK (KF.tgB ls kv) es.L) r1 1) low->iT (msL ks (MK (KF.tgB ls kv) es.L) r1 1) low=(dueL ks es.L).h λz=>(z,0):=by
 let sm:∀ S,smR ks S r1=cF ks S es.L:=λS=>(JB ks S H).Q (z8 ks S _);let lo:=λS=>KP O h l hl S;let ok:∀ S,cF ks S es.L=c->okR ks (MK (KF.tgB ls kv) es.L) S r1=i0:=λS e=>Ph.mpr λk g=>by
  let d:=L5.mp (H.mem_iff.mp g)
  cases z:sB ks S k with
  |false=>rfl
  |true=>rw[gH,QG d,(lo S).2 e k d z];rfl
 let b M:=KR O h eg;let p:cF ks b es.L=c:=NS ∅ (lo b).1
 let mem:∀ S,okR ks (MK (KF.tgB ls kv) es.L) S r1=i0->((sL S:G),0,smR ks S r1)∈msL ks (MK (KF.tgB ls kv) es.L) r1 1:=λS z=>Nz.mpr #[S,by cases S<;>decide,by unfold mvO;rw[Rw z]]
 let m:∀ t∈msL ks (MK (KF.tgB ls kv) es.L) r1 1,∃ S,t.2.2=cF ks S es.L:=λt y=>by
  let S _ z:=Nz.mp y;unfold mvO at z;split at z
  .cases z;erw[S,sm S]
  .cases z
 let s:=mem b (ok b p);erw[(λz=>by simp!),λlow a=>?_]
 let f:low=c:=by
  let t y e:=a.2;let S J:=m t y;let Y:=a.1 _ s;let j:=(lo S).1;let:low<=c:=by rw[← p,← sm b];exact Y
  lia
 subst f;let i:min (cF ks j5 es.L) (cF ks i0 es.L)=low:=by
  let Y:=(lo j5).1;let j:=(lo i0).1
  cases b<;>lia
 let one:∀ S,iT ([S].filterMap (mvO ks (MK (KF.tgB ls kv) es.L) r1)) low=(([S].filter λS=>decide (cF ks S es.L=min (cF ks j5 es.L) (cF ks i0 es.L))).h λS=>(sL S:G)).h λz=>(z,0):=λS=>by
  rw[i];by_cases e:cF ks S es.L=low
  .simp[mvO,ok S e,iT,sm,e]
  .by_cases o:okR ks (MK (KF.tgB ls kv) es.L) S r1=i0
   .simp[mvO,o,iT,sm,e]
   .simp[mvO,o,iT,e]
 let split:∀(A B:E T3),iT (A++B) low=iT A low++iT B low:=λA B=>by unfold iT;simp
 show iT (([j5]++[i0]).filterMap _) low=((([j5]++[i0]).filter _).h _).h _;rw[OH,split,one,one,M9,LH,LH]
def flt2(p:im->im): [j5,i0].filter p=[]∨[j5,i0].filter p=[j5]∨[j5,i0].filter p=[i0]∨[j5,i0].filter p=[j5,i0]:=by
 grind
def Eu(ks:Kn)(n:R):(dueL ks n).L<=2/\(dueL ks n).y (·<=·)/\∀ x∈dueL ks n,Qs 0 x=x:=by
 unfold dueL;rcases flt2 (λS=>decide (cF ks S n=min (cF ks j5 n) (cF ks i0 n)))with z|z|z|z<;>rw[z]<;>erw[by decide,4,by decide]
theorem FD{z:E V}(h:gu H z n rs)(s:KF.SmT H H'):gu H' z n rs:=#[h.1,λi B=>by
 let t a b r v o J w:=h.2 i B
 erw[t,a,b,r,v,o,s.tup J,w]]
theorem Cu(s:KF.SmT H H')(h:cj H xs ts):cj H' xs ts:=#[h.1,λi l e=>by
 let p a b:=h.2 i l e
 erw[p,a,s.lst b]]
def WebF.smT{S:eN->Prop}{PS:eN}{ks:Kn}(h:WebF S PL PS f H p m es ts rs ks)(s:KF.SmT H H'):WebF S PL PS f H' p m es ts rs ks:=by
 obtain⟨L,fs,ef,D,a,⟨N,⟨q,z,b1,O,b2,b3⟩,⟨v,A,c1,c2,c3⟩,⟨M,Q,d1,t,u⟩,pt⟩,n,c,d,e⟩:=h;let Y:∀{b C d:eN}{fs:E (ff×V)},H b=Z (.ins C d fs)->H' b=Z (.ins C d fs):=λz=>s _ _ (λT y=>by cases y) z
 erw[L,fs,ef,D,Y a,#[N,#[q,z,b1,O,s.lst b2,b3.1,λj l y=>?_],#[v,A,c1,s.lst c2,Cu s c3],#[M,Q,d1,s.lst t,FD u s],pt],n,c,s.lst d,e.1,λi x k q r=>?_]
 .let r o J w:=b3.2 j l y;erw[r,o,J,s.lst w]
 .let I g B eg:=e.2 i x k q r;erw[I,g,B,Y eg]
structure TxtA(mg:ff->ii eK)(TR TM:eN):Prop extends TxtO mg TR where
 g_TooMany:mg "TooMany"=Z (.ref TM)
inductive Jz(TR TT PL PS WC:eN)(vs:E L2.V)(H:L2.Hp)(Q:L2.VK)(ef:L2.XK):Prop
 |mk (p:eN)(es:En)(ts rs:mx)(ks:Kn)(ls:E KF.Lk) (_:vs=[.ref p,.int 64])(_:WebL TT PL PS WC H p 2 es ts rs ks)(_:FW PL PS WC H p es ts rs ks)(_:Oth 2 es ts ks rs ls)(_:RX TR TT ks es rs H ef)(_:(rgh ks es.L rs<=12->∀ q H',KF.SmT H H'->H' q=Z (.lst ((dueL ks es.L).h V.int))->Q (.ref q) H'))
def bS:aw ["web","most","paper","begun","best","longer","laying","signs"] ["web","most"] (aq di):=by ac_nf
def ok_all{TM TT f3 f4 PS WC:eN}{d1 d3 d4:fk}{tk:Tok}(F:FunD K "all_least" "all_least" di f fd [eK.int 64 tk].toArray)(T:TxtA mg I TM)(cb:ExC K TM)(cw:CW K WC)(a1:CalD P w K mg base 13 "least" ["web"] (Cn I TT PL PS WC) f1 d1)(a5:k9 2 "tight_ties" ["web","paper"] (spTT PL PS WC) f2 eg)(a9:k9 5 "all_moves" ["web","tight"] (Ie PL PS WC) f3 d3)(a6:k9 1 "best_moves" ["rows"] Ib f4 d4):FnOk P w K mg base (CXd P w) 14 f fd ["web","most"] (Jz I TT PL PS WC):=by
 refine FunD.okD F bS (λvs H Q ef h=>?_) (λab A aa s H vs Q ef N h=>?_)
 .let p es ts rs ks ls rfl _:=h;rfl
 let p es ts rs ks ls rfl wl fw O kx kk:=h;let hu:=oy N;let av:=N.units;let cnt:=pI O.g O.ro;let al:=fw.few
 intro Xc Dc;erw[_,(ag (az 2 bS.nd (cR (An a1.ok (N.mono ∅) U a1.mg a1.kp a1.bn .nil rN U (ae (pv 0) ai)) ak))
   (ag (az 3 bS.nd (bC (ae (cm (ae ak (ae ak ai))) ai)))
   (ag (bc PassesOwn.leaving U (aJ (a6.c N (ae (a9.c N (ae (pv 0) (ae (a5.c N (ae (pv 0) (ae (pv 2) ai))) ai))) ai))) (bp 4 bS.nd) (ag (az 5 bS.nd (bC ai))
   (ag (bc PassesOwn.leaving U (aJ (pv 3)) (iM U (ay (bp 6 bS.nd) (ay (bp 7 bS.nd) br))) (aj (aR (d7 LG PK PJ vH (pv 5) (ae (eM [("laying",6)] ["own","then"] (aJ (ib hu (pv 4) (pv 7) (λ_ _=>rfl))) (λC ex s H=>(dq (n:=2) (K:=K) U U (ay (aU (i:=0) (show(["own","then","laying"]:E ff).l from by decide) U (Or.inl U)) (ay (aU (i:=1) (show(["own","then","laying"]:E ff).l from by decide) U (Or.inl U)) br)))) pt_c (λC ex s H=>(cm (ae (ax i9 (pv 2) (pv 0)) (ae (pv 1) ai))))) ai)))))
   (ag (cz (aA yj (aG aD (by rfl) T.n_len cq (ae (pv 5) ai)) (pv 1) (aH _)) (aj (vo cb T.g_TooMany U rN U U (ae Ik ai))) aQ)
   (aj (az 3 bS.nd (pv 5)))))))
   (aj (aF (aG lG (by rfl) T.n_sorted jK (ae (eM [] ["laying","signs"] (aJ (pv 3)) (λC ex s H=>(dq (n:=2) (K:=K) U U (ay (aU (i:=0) (show(["laying","signs"]:E ff).l from by decide) U (Or.inl U)) (ay (aU (i:=1) (show(["laying","signs"]:E ff).l from by decide) U (Or.inl U)) br)))) pt_c (λC ex s H=>(pv 0))) ai))))))),3]
 erw[9,p,02,es,ts,rs,ks,ls,U,wl,O,kx,λrg t c v0 v1 v2 u kv H1 a3 bP cc bT k3 cd ce aS=>?_];let kk:=kk rg;let pv r rfl cs pa:=id bT;erw[t,_,02,41,SqT.of cc,14];erw[(by show 2<=P7;decide),λt0 a2=>#[(by show 1<=P7;decide),λq0 bi=>?_]]
 let s2:=(ah a2 (.tup [.int 0,.int 0])).Q (ah bi (.lst [.ref t0]));let aT:(upd (upd H1 t0 (.tup [.int 0,.int 0])) q0 (.lst [.ref t0])) q0=Z (.lst [.ref t0]):=af;let ba:(upd (upd H1 t0 (.tup [.int 0,.int 0])) q0 (.lst [.ref t0])) t0=Z (.tup [.int 0,.int 0]):=(ah bi (.lst [.ref t0])) _ _ af;generalize upd (upd H1 t0 (.tup [.int 0,.int 0])) q0 (.lst [.ref t0])=m at s2 aT ba;let bZ:FW PL PS WC m p es ts rs ks:=by
  let{S a}b c d e f:=fw;erw[#[S,a.smT (a3.Q (.of s2))],b,c,d,e,f]
 let r1 am:∃ r1,ts[1]?=Z r1:=by
  let X Y _ y:=fw.ft.r1;erw[_,y]
 let pm:=fw.row (.inr U) am;let ne cf:=KQ O fw.fe ∅ aS cd ce pm
 let eg dp d0:=Eu ks es.L;let cg:WebS PL PS WC m p es ks rs:=by
  let{S dx fs q1 xs o wg _ l2 an tk}_:=bZ;let q6 z6 l6 a0 r6:=wg.sides;erw[dx,fs,q1,xs,q6,z6,o,l2,an,tk,l6,a0,r6]
 erw[2457,p,.ref pv,02,es,ts,rs,ks,ls,kv,U,cg,O,bT.mono s2,k3,λH3 s3=>?_];erw[p,MK (KF.tgB ls kv) es.L,es,ts,rs,ks,r1,U,bZ.mono s3,am,λq v0 v1 H4 s4 a4 m0 m1=>?_];erw[q,v0,v1,9,a4,m0,m1,ne,Ir _ _ _ _,Dw,λqb b0 b1 ap H5 s5 bm ch b5 aZ=>?_];rw[cf ap aZ]at b5;let bb:=(s3.Q s4).Q s5;let aI:=bb _ _ aT;let ci:=bb _ _ ba;let bR:=(a3.Q (.of s2)).Q (.of bb);erw[qb,U,#[_,SqL.of bm],bh (K:=K) (xs:=[b0,b1]) (λi L H6=>∃(w4 w5 w6 w7:ii V)(qg:eN)(gl:E V),L=[Z (.ref p),Z (.int 64),Z (.ref pv),Z (.ref qg),w4,w5,w6,w7]/\Same H5 H6/\H6 qg=Z (.lst gl)/\LsAt PrA H6 gl (if i<=1 then[(0,0)] else(dueL ks es.L).h λz=>(z,0))) #[85,q0,[.ref t0],U,(λ_ _ e=>e),aI,LsAt.nil.snoc #[t0,U,ci]] (λi L H6 _ ac=>by let _ _ _ _ _ _ _ z _:=ac;exact SqL.of (z _ _ bm)) ?_ ?_]
 .rintro i x L H6 J ⟨w4,w5,w6,w7,qg,gl,rfl,s6,bB,bv⟩;let B:i=0∨i=1:=by let:i<2:=(Ll.mp J).1;lia
  rw[Rw ∅]at bv
  let ps ck p2 p0 cl:∃ ps:E (G×G),BsA H5 x ps/\ps.L<=2/\(∀ t∈ps,t.2=0/\Qs 0 t.1=t.1)/\ps=if i+1<=1 then[(0,0)] else(dueL ks es.L).h λz=>(z,0):=by
   obtain rfl|rfl:=B
   .cases J;erw[_,ch,4,(λt ht=>by rw[LB.mp ht];erw[10]),U]
   .cases J;erw[_,b5,by rw[Lp];exact eg,(λt ht=>?_),U]
    let z hz rfl:=LW.mp ht;erw[U,d0 z hz]
  let d qd r rfl hd bz bY:=ck.mono s6;erw[(by show 0<=P7;decide),λql b6=>?_]
  let s7:=ah b6 (.lst []);erw[9,qg,U,#[_,SqL.of (s7 _ _ bB)],bh (K:=K) (xs:=gl) (λj L H7=>∃(w6 w7:ii V)(ll:E V),L=[Z (.ref p),Z (.int 64),Z (.ref pv),Z (.ref qg),Z (.ref d),Z (.ref ql),w6,w7]/\Same H6 H7/\H7 ql=Z (.lst ll)/\LsAt PrA H7 ll (if j=0 then[] else ps)) #[5,[],U,s7,af,LsAt.nil] (λj L H7 _ ac=>by let _ _ _ _ z _:=ac;exact SqL.of (z _ _ bB)) ?_ ?_]
  .rintro j y L H7 hy ⟨w6,w7,ll,rfl,s8,be,bJ⟩;let g hg tg rfl co:=bv.get hy;let j0:j=0:=by let:j<1:=(Ll.mp hg).1;lia
   subst j0
   cases hg
   let gD:DGet H7 d (.int 0) (Z (.ref qd)):=DGet.k (k:=.inl 0) (s8 _ _ hd);let bU:=s8 _ _ bz;erw[tg,9,SqT.of (s8 _ _ co),238998];erw[9,.inl #[6,SqL.of be],153,d,9,gD,qd,U,#[_,SqL.of bU],bg (K:=K) (xs:=r) (λk zs H8=>Same H7 H8/\LsAt PrA H8 zs (ps.j k)) (LK (ar (by rw[bY.1];lia))) #[λ_ _ e=>e,LsAt.nil] (λk zs H8 _ z=>SqL.of (z.1 _ _ bU)) ?_ ?_ (λk zs H8 z=>by rw[z.2.1,Me];exact M5 _ _)]
   .rintro k z zs H8 hz ⟨s9,bK⟩;let u a7 b rfl M:=bY.get hz;let et:ps.j (k+1)=ps.j k++[u]:=by rw[LI,a7];rfl
    let u0 u1:=p0 u (Lm a7);erw[b,9,SqT.of (s9 _ _ (s8 _ _ M)),173462,yesT #[632217,(by show 2<=P7;decide),λt3 a8=>?_]]
    dsimp only;rw[u1];let sB:=ah a8 (.tup [.int u.1,.int u.2]);rw[et];erw[s9.Q sB,(kS bK λb xs e=>sB _ _ e).snoc #[t3,U,af]]
   rintro zs H8 ⟨s9,bK⟩ D hD;rw[bY.1,LQ]at bK;let sB:=ah hD (.lst zs);let cp:=sB _ _ (s9 _ _ be);let l0:ll=[]:=Mh bJ.1;subst l0;erw[ql,D,[],zs,10,cp,af,by rw[bK.1];exact LK (ar (by simp;lia)),3]
   erw[5,zs,U,aC ((s8.Q s9).Q sB) b6 _,af,3];rw[Rx ∅]
   refine kS bK λb xs e=>?_;rw[ao λz=>by rw[z,s9 _ _ be]at e;cases e]
   exact sB _ _ e
  .rintro L H7 ⟨w6,w7,ll,rfl,s8,be,bJ⟩;rw[Rx (by rw[bv.1];exact Nat.one_ne_zero)]at bJ
   let l2:ll.L<=2:=by rw[bJ.1];exact p2
   erw[9,ql,9,.inl (SqL.of be),39513,ite2 (λc=>?_) (λ_=>?_)]
   .let:=Rl c
    lia
   .erw[1369,ql,ll,U,s6.Q s8,be,by rw[← cl];exact bJ]
 .rintro L H6 ⟨w4,w5,w6,w7,qg,gl,rfl,s6,bB,bv⟩;rw[Rx (show ¬ [b0,b1].L<=1 from λz=>by simp!)]at bv
  let ca:=bv.1;rw[Lp]at ca;erw[9,qg,U,#[_,SqL.of bB],bg (K:=K) (xs:=gl) (λk zs H8=>H8=H6/\zs=((dueL ks es.L).j k).h V.int) (LK (ar ∅)) #[10] (λk zs H8 _ z=>by rw[z.1];exact SqL.of bB) ?_ ?_ (λk zs H8 z=>by rw[z.2,Lp,Me];exact M5 _ _)]
  .rintro k y zs H8 hy ⟨rfl,rfl⟩;let u a7 b rfl M:=bv.get hy;rw[Lx]at a7;let z hz rfl:=LC.mp a7;erw[b,9,SqT.of M,173462,yesT #[233]];rw[LI,hz,LH];rfl
  rintro zs H8 ⟨rfl,rfl⟩ D hD;rw[ca,LQ];erw[D,dueL ks es.L,U,SqL.of af,4,λl out v o hs=>?_]
  let e:=jR o hs dp;subst e;exact kk l _ (bR.Q (.of ((s6.Q (ah hD _)).Q (ah v _)))) af
inductive xH(K:Ln)
 |mk (a:eN)(ns:E G) (_:vs=[.ref a])(_:nv a (ns.h V.int))(_:ns.L<=63)(_:∀(q:eN)(ws:E V)(ks:Kn)(H':Hp),mo->H' q=Z (.lst ws)->iS H' ws ks->8<=ks.L->ks.L<=14->(∀ k∈ks,k.2<=10^(30:G).U)->Q (.ref q) H')
inductive HZ(PL PS WC:eN)
 |mk (pk:eN)(c:G)(ws:E V)(ks:Kn) (_:vs=[.ref pk,.int c])(_:H pk=Z (.lst ws))(_:iS H ws ks)(_:8<=ks.L)(_:ks.L<=14)(_:∀(p:eN)(es:En)(ts rs:mx)(H':Hp),mo->WebF (λa=>H a≠kf) PL PS WC H' p 2 es ts rs ks->FanE es->es.L=ks.L->FanT es.L ts->Gr 2 es ts->Q (.ref p) H')
def fM:aw ["script","kinds","k","cell"] ["script"] (aq kP):=by ac_nf
def Gi(F:Fun K "_law_kinds" "_law_kinds" kP f fd)(T:Txt mg)(aa:k9 1 "_law_cell" ["script","k"] (Cp K) C eg):kt 2 f fd ["script"] (xH K):=by
 refine F.ok fM (by walk_at "l") λl A o s H I Q ef N h=>?_
 let a ns rfl e al d:=h
 intro r Dc;erw[_,(ag (az 1 fM.nd (bC ai))
   (ag (mj (bf U T.n_range (ae (ax cV ak (ax iO (aa.c N (ae (pv 0) (ae ak ai))) ak)) ai)) (bp 2 fM.nd) (ag (az 3 fM.nd (aa.c N (ae (pv 0) (ae (ax cV ak (pv 2)) ai))))
   (aj (aR (d7 LG LN LL aO (pv 1) (ae (cm (ae (ax iO (ax cV (pv 2) (dQ wX (by rfl) T.n_int E5 (ae (nB eO (ax iO (pv 3) ak) ak (aH _)) ai))) ak) (ae (ax iO (ax kX (pv 3) ak) (bA (bC (ae ak (ae ak (ae (ax cV (ax op_pow ak ak) ak) ai)))) (ax iO (ax kX (pv 3) ak) ak))) ai))) ai))))))
   (aj (aF (pv 1))))),3]
 erw[(by show 0<=P7;decide),λq Y=>?_]
 let m:=ah Y (.lst []);let M hM M8 am:∃ M:R,8+wR ns 0%7=(M:G)/\8<=M/\M<=14:=#[(8+wR ns 0%7).U,by ac_rfl,by ac_rfl,by ac_rfl]
 erw[9,a,00,ns,U,m.seq e,165,(by decide:(0:G)<7),2469,by ac_rfl,by ac_rfl,3]
 rw[hM];refine dU (n:=(M:G).U) (λi g O=>∃ v2 v3 J v,g=[Z (.ref a),Z (.ref q),v2,v3]/\Same H O/\O q=Z (.lst J)/\iS O J v/\v.L=i/\∀ k∈v,k.2<=10^(30:G).U) #[5,[],[],U,m,af,#[U,λi k z=>by contradiction],U,λk z=>nomatch z] ?_ ?_
 .rintro i g O B ⟨v2,v3,J,v,rfl,u,ab,b,j,kb⟩;rw[Ly]at B;let wl:=b.1;rw[Nb];erw[42393,a,2+i,ns,(by show _=[V.ref a,V.int ((2+i:R):G)];rw[Int.natCast_add];rfl),u.seq e,3]
  generalize wR ns (2+i)=cc;let two:∀ x:G,x%2=0∨x%2=1:=λx=>by ac_rfl
  let L hL L1 L2:∃ L:G,atI [V.int 2,V.int 4,V.int (10^(30:G).U+1)] (cc/5%3)=Z (.int L)/\1<=L/\L<=10^(30:G).U+1:=by
   let:cc/5%3=0∨cc/5%3=1∨cc/5%3=2:=by ac_rfl
   obtain z|z|z:=this<;>rw[z]
   .erw[02,18,by decide]
   .erw[04,18,by decide]
   .erw[73,Mn _]
  erw[9,.inl #[6,SqL.of ab],42393,(by decide:(0:G)<5),U,.inr #[57]]
  erw[42405,(by decide:(0:G)<2),3]
  erw[2649,#[by decide,by decide],3]
  erw[165,#[by decide,4,by decide],165,(by show 3<=P7;decide),λq9 ac=>?_]
  let s9:=ah ac (.lst [V.int 2,V.int 4,V.int (10^(30:G).U+1)]);erw[2649,#[by decide,by decide],165,(by decide:(0:G)<3),q9,661,SqL.of af,hL,165,(show(0:G)<L by ac_rfl),(by show 2<=P7;decide),λt y=>?_]
  erw[q,J,41,ah y _ _ _ (s9 _ _ ab),ar (by ac_rfl),3]
  generalize (i:G)+(if decide (V.int (cc%5)=V.int 1)=i0 then 1 else 0)=pu at y ⊢;let sA:=s9.Q (ah y (.tup [.int (pu%2),.int (cc/10%L)]));erw[21,v++[(pu%2,cc/10%L)],U,aC (u.Q sA) Y _,af,((b.mono sA).snoc (p:=t) (k:=(pu%2,cc/10%L)) af (two _) (Int.emod_nonneg _ (by ac_rfl))).put (sA _ _ ab),by rw[Ls,j];rfl,λk D=>?_]
  obtain z|z:=LY.mp D
  .exact kb k z
  .rw[LB.mp z];let:=Int.emod_lt_of_pos (cc/10) (show(0:G)<L by ac_rfl)
   show cc/10%L<=_;ac_rfl
 rintro g O ⟨v2,v3,J,v,rfl,u,ab,b,j,kb⟩;rw[Ly]at j;erw[9,d q J v O u ab b (by ac_rfl) (by ac_rfl) kb]
def cut_hi{c:R}(h:c<=xs.L):cutV xs (Z (c:G)) kf=xs.drop c:=by
 unfold cutV;rw[HT.sIx_nat,Pq h];show(xs.drop c).j (xs.L-c)=_;exact NT (by simp)
def cut_lo{c:R}(h:c<=xs.L):cutV xs kf (Z (c:G))=xs.j c:=by
 unfold cutV;rw[HT.sIx_nat,Pq h];rfl
theorem up2{x:eN}{o1 o2:HO}(nx:H x=kf)(c:H a=kf):Same H (upd (upd H a o1) x o2):=λb o z=>by rw[ao (aB z nx),ao (aB z c)];exact z
theorem JE(s:mo)(h:H a≠kf):H' a≠kf:=λy=>h (by
 cases u:H a with
 |none=>rfl
 |some o=>rw[s _ _ u]at y;cases y)
def eY:aw ["kinds","cell","ties","k","ends","start","row"] ["kinds","cell"] (aq pH):=by ac_nf
def Kf{PS WC fW:eN}{bJ:fk}(F:Fun K "_law_web" "_law_web" pH f fd)(T:TxtR mg)(aZ:Mak P w K mg base 1 "Pull" ["self","one","two","strength"] (qZ K) PL I eg)(a0:Mak P w K mg base 1 "Push" ["self","one","two","strength"] (qZ K) PS I eg)(TL:CT K PL)(TS:CT K PS)(a4:Mak P w K mg base 5 "Web" ["self","many","ties","turns"] (rT K) WC fW bJ)(cw:CW K WC):kt 7 f fd ["kinds","cell"] (HZ PL PS WC):=by
 refine F.ok eY (by walk_at "l") λaa A J s H vs Q ef N h=>?_
 let pk c ws ks rfl a3 tk k4 be kk:=h
 intro Xc Dc;erw[_,(ag (az 2 eY.nd (bC ai))
   (ag (mj (bf U T.n_range (ae (aG aD (by rfl) T.n_len cq (ae (pv 0) ai)) ai)) (bp 3 eY.nd) (ag (az 4 eY.nd (bA (bC (ae (cm (ae ak (ae ak ai))) (ae (cm (ae ak (ae ak ai))) ai))) (ax iO (ax cV (pv 1) (ax mB (pv 3) (pv 3))) ak)))
   (aj (cz (aA eO (cR (bA (pv 0) (pv 3)) ak) ak (aH _)) (aj (aR (d7 LG LN LL aO (pv 2) (ae (yh a0.mkc a0.ok (N.mono ∅) U a0.mg a0.bn .nil mw (ae (cR (pv 4) ak) (ae (cR (pv 4) ak) (ae (cR (bA (pv 0) (pv 3)) ak) ai)))) ai)))) (aj (aR (d7 LG LN LL aO (pv 2) (ae (yh aZ.mkc aZ.ok (N.mono ∅) U aZ.mg aZ.bn .nil mw (ae (cR (pv 4) ak) (ae (cR (pv 4) ak) (ae (cR (bA (pv 0) (pv 3)) ak) ai)))) ai))))))))
   (ag (az 5 eY.nd (ax iO (ax kX (pv 1) ak) (aG aD (by rfl) T.n_len cq (ae (pv 0) ai))))
   (ag (az 6 eY.nd (nP U U T.n_list U T.n_range (aG aD (by rfl) T.n_len cq (ae (pv 0) ai))))
   (aj (aF (yh a4.mkc a4.ok (N.mono ∅) U a4.mg a4.bn .nil mw (ae ak (ae (pv 2) (ae (bC (ae (ax op_cat (ma pA (pv 6) (pK (pv 5)) pL) (ma pA (pv 6) pL (pK (pv 5)))) (ae (ml U U T.n_list U T.n_reversed (pv 6)) ai))) ai)))))))))),3]
 erw[(by show 0<=P7;decide),λq hq=>?_]
 let m:=ah hq (.lst []);let aT:ws.L=ks.L:=tk.1;erw[9,pk,ws,U,.inl (SqL.of (m _ _ a3)),329,dU (n:=(ws.L:G).U) (λi L M=>∃ v3 v4 us es,L=[Z (.ref pk),Z (.int c),Z (.ref q),v3,v4,kf,kf]/\Same H M/\M q=Z (.lst us)/\mV PL PS M us es ks/\es.L=i/\FanE es) #[5,[],[],U,m,af,#[U,λi e k z=>by contradiction],U,λk e z=>by contradiction] ?_ ?_]
 .rintro i L M B ⟨v3,v4,us,es,rfl,s2,aI,tt,el,fe⟩;rw[Ly,aT]at B;let e0:(0:G)+(i:G)=(i:G):=Nb _;rw[e0];let k u:∃ k,ks[i]?=Z k:=#[_,Lj B];let ul:us.L=i:=by rw[tt.1,el]
  erw[(by show 2<=P7;decide),λt1 Y=>#[(by show 2<=P7;decide),λt2 O=>#[(by show 2<=P7;decide),λq1 an=>?_]]]
  let sa:=(ah Y (.tup [.int 0,.int 1])).Q (ah O (.tup [.int 1,.int 0]));let sb:=sa.Q (ah an (.lst [.ref t1,.ref t2]));let g1:=(ah an (.lst [.ref t1,.ref t2])) _ _ ((ah O (.tup [.int 1,.int 0])) _ _ (show(upd M t1 (.tup [.int 0,.int 1])) t1=_ from af));let g2:=(ah an (.lst [.ref t1,.ref t2])) _ _ (show(upd (upd M t1 (.tup [.int 0,.int 1])) t2 (.tup [.int 1,.int 0])) t2=_ from af);let gq:(upd (upd (upd M t1 (.tup [.int 0,.int 1])) t2 (.tup [.int 1,.int 0])) q1 (.lst [.ref t1,.ref t2])) q1=Z (.lst [.ref t1,.ref t2]):=af;let p e t d a6:∃(p:eN)(e:R×R),atI [V.ref t1,V.ref t2] ((c+(i:G)*(i:G))%2)=Z (.ref p)/\(e=(0,1)∨e=(1,0))/\(upd (upd (upd M t1 (.tup [.int 0,.int 1])) t2 (.tup [.int 1,.int 0])) q1 (.lst [.ref t1,.ref t2])) p=Z (.tup [.int (e.1:G),.int (e.2:G)]):=by
   let:(c+(i:G)*(i:G))%2=0∨(c+(i:G)*(i:G))%2=1:=by lia
   obtain z|z:=this<;>rw[z]
   .erw[t1,(0,1),U,.inl U,g1]
   .erw[t2,(1,0),U,.inr U,g2]
  erw[678297,.inl #[20],42405,(by decide:(0:G)<2),q1,661,SqL.of gq,t,3]
  generalize (upd (upd (upd M t1 (.tup [.int 0,.int 1])) t2 (.tup [.int 1,.int 0])) q1 (.lst [.ref t1,.ref t2]))=H3 at sb a6;let s3:=s2.Q sb;let al:=sb _ _ aI;let k1 k2 bb y1 y2:=(tk.mono s3).2 i k u;let ne:e.1≠e.2/\e.1<=1/\e.2<=1:=by
   obtain z|z:=d<;>rw[z]<;>decide
  let bK:=tt.mono sb;erw[153,pk,ws,165,SqL.of (s3 _ _ a3),aE y1,bb,_,00,41,SqT.of y2,at0,230];let ab:∀(x dx:eN)(H':Hp),Same H3 H'->H' x=Z (.ins (cls PL PS (decide (k.1=1))) dx (tf (e.1:G) (e.2:G) k.2))->∃ v3 v4 zs es,([Z (.ref pk),Z (.int c),Z (.ref q),Z (.int (i:G)),Z (.ref p),kf,kf]:St)=[Z (.ref pk),Z (.int c),Z (.ref q),v3,v4,kf,kf]/\Same H (upd H' q (.lst (us++[.ref x])))/\(upd H' q (.lst (us++[.ref x]))) q=Z (.lst zs)/\mV PL PS (upd H' q (.lst (us++[.ref x]))) zs es ks/\es.L=i+1/\FanE es:=λx dx H' s4 Y=>by
   erw[21,es++[e],U,aC (s3.Q s4) hq _,af,#[by rw[Ls,Ls,ul,el];rfl,λj e' k' hj aS=>?_],by rw[Ls,el];rfl,λj e' hj=>?_]
   .let bi:∀{b:eN}{C dx:eN}{fs:E (ff×V)},H' b=Z (.ins C dx fs)->b≠q:=λz y=>by rw[y,s4 _ _ al]at z;cases z
    by_cases z:j<i
    .rw[Lu ∅]at hj
     let p' ac a1 a2:=(bK.mono s4).2 j e' k' hj aS;erw[p',ac,by rw[Lu ∅];exact a1,by rw[ao (bi a2)];exact a2]
    .let jl:=(Ll.mp hj).1
     rw[Ls,el]at jl;let z2:j=i:=by let:j<i+1:=jl;lia
     subst z2;rw[← el,Lq (Lo _),Mb]at hj
     cases hj
     rw[u]at aS
     cases aS
     erw[x,dx,by rw[← ul,Lq (Lo _),Mb];rfl,by rw[ao (bi Y)];exact Y]
   .by_cases z:j<es.L
    .rw[Lu z]at hj;exact fe j e' hj
    .rw[Lq ∅]at hj
     let:=LB.mp (Lm hj);rw[this];exact d
  refine ite2 (λc=>?_) (λc=>?_)
  .let c':k.1=1:=V.int.inj (Rl c)
   erw[9,.inl #[6,SqL.of al],9,p,_,00,41,SqT.of a6,at0,9,p,_,01,41,SqT.of a6,at1,153,pk,ws,165,SqL.of (s3 _ _ a3),aE y1,bb,_,01,41,SqT.of y2,at1,3];intro x dx nx a5 bm;erw[x,PS,dx,149,af,TS,84,k2,λH' Y O=>?_]
   let s4:Same H3 H':=λb o z=>O b o (by rw[ao (aB z nx),ao (aB z a5)];exact z) (aB z nx)
   erw[U,q,us,41,s4 _ _ al,ar ∅,ab x dx H' s4 ?_]
   rw[QG c'];exact Y
  .let c':¬ k.1=1:=λz=>c (QG (by rw[z]))
   erw[9,.inl #[6,SqL.of al],9,p,_,00,41,SqT.of a6,at0,9,p,_,01,41,SqT.of a6,at1,153,pk,ws,165,SqL.of (s3 _ _ a3),aE y1,bb,_,01,41,SqT.of y2,at1,3];intro x dx nx a5 bm;erw[x,PL,dx,149,af,TL,84,k2,λH' Y O=>?_]
   let s4:Same H3 H':=λb o z=>O b o (by rw[ao (aB z nx),ao (aB z a5)];exact z) (aB z nx)
   erw[U,q,us,41,s4 _ _ al,ar ∅,ab x dx H' s4 ?_]
   rw[P6 c'];exact Y
 rintro L M ⟨v3,v4,us,es,rfl,s2,aI,tt,el,fe⟩;rw[Ly,aT]at el;let a9:=s2 _ _ a3;let st av bU:∃ st:R,c/2%(ws.L:G)=(st:G)/\st<ks.L:=by
  let u0:=Int.emod_nonneg (c/2) (show(ws.L:G)≠0 by lia)
  let u1:=Int.emod_lt_of_pos (c/2) (show(0:G)<(ws.L:G) by lia)
  erw[(c/2%(ws.L:G)).U,20]
 erw[2649,#[by decide,by decide],9,pk,ws,U,.inl (SqL.of a9),4261]
 show ui 5 (V.int (c/2%(ws.L:G))) _ _ _;rw[av];erw[9,pk,ws,U,.inl (SqL.of a9),ws.L,18,λr am=>?_]
 rw[aT];let s3:=ah am (.lst ((LD ks.L).h iV));let g3:(upd M r (.lst ((LD ks.L).h iV))) r=Z (.lst ((LD ks.L).h iV)):=af;let rl:((LD ks.L).h iV).L=ks.L:=by rw[Lp,L7]
 erw[39321,r,9,SqL.of g3,λb1 ba=>?_];rw[cut_hi ∅]
 let s4:=ah ba (.lst (((LD ks.L).h iV).drop st));erw[2457,r,9,SqL.of (s4 _ _ g3),λb2 bP=>?_];rw[cut_lo ∅]
 let s5:=ah bP (.lst (((LD ks.L).h iV).j st));erw[b1,b2,165,s5 _ _ af,af,by rw[Pb,Me];exact LK (ar ∅),λb3 a8=>?_]
 let ap:((LD ks.L).h iV).drop st++((LD ks.L).h iV).j st=((LD ks.L).drop st++(LD ks.L).j st).h iV:=by
  rw[LH,List.map_drop,List.map_take]
 rw[ap];let s6:=ah a8 (.lst (((LD ks.L).drop st++(LD ks.L).j st).h iV));let g6:(upd (upd (upd (upd M r (.lst ((LD ks.L).h iV))) b1 (.lst (((LD ks.L).h iV).drop st))) b2 (.lst (((LD ks.L).h iV).j st))) b3 (.lst (((LD ks.L).drop st++(LD ks.L).j st).h iV))) b3=Z (.lst (((LD ks.L).drop st++(LD ks.L).j st).h iV)):=af;let s7:=((s3.Q s4).Q s5).Q s6;let g7:=((s4.Q s5).Q s6) _ _ g3;erw[9,r,9,SqL.of g7,λb4 bv=>?_];let bz:((LD ks.L).h iV).x=(LD ks.L).x.h iV:=List.map_reverse.symm;let s8:=s7.Q (ah bv (.lst ((LD ks.L).x.h iV)));erw[(by show 2<=P7;decide),λD hD x dx nx a5 bm=>?_]
 rw[← bz]at s8;let sD:=ah hD (.lst [.ref b3,.ref b4]);let s9:=s8.Q sD;let bR:=sD _ _ (ah bv (.lst ((LD ks.L).h iV).x) _ _ g6);let bT:=sD b4 _ af;let up:=up2 (o1:=.own x) (o2:=.ins WC dx []) nx a5;let kl:ks.L=es.L:=el.Y;let ft:FanT es.L [(LD ks.L).drop st++(LD ks.L).j st,(LD ks.L).x]:=by
  rw[el];erw[#[5,(ND st _).Y,U],#[[],9,by rw[Nd];rfl]]
 let g:=fan_gr fe ∅ ft U
 erw[x,WC,dx,q,D,02,us,[.ref b3,.ref b4],es,9,af,cw,up _ _ (s9 _ _ aI),((tt.at kl TL TS).mono s9).mono up,up _ _ af,#[U,λi l v=>?_],g,20,λfs q1 rs H' Y hg hn O h3 h4=>#[14]]
 .match i,v with
  |0,v=>cases v;erw[b3,U,up _ _ bR]
  |1,v=>cases v;erw[b4,U,by rw[← bz];exact up _ _ bT]
  |i+2,v=>cases v
 let a7:Same M H':=λb o z=>h4 b o (up _ _ (s9 _ _ z)) (aB (s9 _ _ z) nx);let bB:=λa (z:H a≠kf)=>JE ((s2.Q s9).Q up) z;exact kk x es _ rs H' (s2.Q a7) #[dx,fs,q1,us,Y,hg.mono (λ_ _ z=>z) bB,λz=>bB _ z hn,O,h3,tt.mono a7] fe el ft g
def at_prv(hl:xs.L=n)(hi:i<n)(h:xs[prv n i]?=Z v):atI xs ((i:G)-1)=Z v:=by
 by_cases c:i=0
 .subst c;let e:prv n 0=n-1:=rfl;rw[e]at h;unfold atI ixN;rw[Rx ∅,Rw ∅]
  show xs[(((0:R):G)-1+(xs.L:G)).U]?=Z v;rw[show(((0:R):G)-1+(xs.L:G)).U=n-1 by lia]
  exact h
 .let e:prv n i=i-1:=Rx c
  rw[e]at h;rw[show(i:G)-1=((i-1:R):G) by lia]
  exact aE h
def Gk{ks:Kn}:(((LD (i+1)).filter (oddK ks n)).L:G)=(((LD i).filter (oddK ks n)).L:G)+(if oddK ks n i=i0 then 1 else 0):=by
 rw[Oa,M9,Ls];by_cases c:oddK ks n i=i0
 .simp[*]
 .simp[*]
def FF{ks:Kn}(d:ks.L=N)(h:gu H zs N rs):∃ ls:E KF.Lk,ls.L=N/\∀(i:R)(l:KF.Lk),ls[i]?=Z l->((∃ r,rs[l.1]?=Z r/\2*i∈r)/\∃ r,rs[l.2.1]?=Z r/\2*i+1∈r)/\∃ k,ks[i]?=Z k/\l.2.2=k.2:=by
 let go:∀ n,n<=N->∃ ls:E KF.Lk,ls.L=n/\∀(i:R)(l:KF.Lk),ls[i]?=Z l->((∃ r,rs[l.1]?=Z r/\2*i∈r)/\∃ r,rs[l.2.1]?=Z r/\2*i+1∈r)/\∃ k,ks[i]?=Z k/\l.2.2=k.2:=λn=>by
  induction n with
  |zero=>exact λ_=>#[[],U,λi l z=>by contradiction]
  |succ n L =>
   intro A;let ls b c:=L ∅
   let p x y r v _ _ ef m I s:=h.2 n ∅
   let k g:∃ k,ks[n]?=Z k:=#[_,Lj ∅]
   erw[ls++[(x,y,k.2)],by simp[*],λi l e=>?_]
   by_cases q:i<n
   .rw[Lu ∅]at e
    exact c i l e
   .let:i=n:=by grind
    subst this;rw[Lq ∅,b,Mb]at e
    cases e
    erw[#[#[r,ef,m],#[v,I,s]],k,g,U]
 exact go N (Lo _)
def WebF.oth{S:eN->Prop}{PS:eN}{ks:Kn}(h:WebF S PL PS f H p m es ts rs ks)(g:Gr m es ts)(d:ks.L=es.L)(c:∀ k∈ks,0<=k.2/\k.2<=10^(30:G).U)(J:2<=m)(x:es.L<=24):∃ ls,Oth m es ts ks rs ls:=by
 let j fs ef D a b _:=h;let n o _ _ s:=b.sides;let e:=b.part;let ls q A:=FF d s
 erw[ls,g,e,#[e.nd,e.all,λr N=>(e.ring r N).lt,λr N=>(e.ring r N).nd,q,λi l C=>(A i l C).1],d,λi l C=>by
  let k Y O:=(A i l C).2
  erw[k,Y,O,(c k (Lm Y)).1,(c k (Lm Y)).2],J,x]
theorem BR(e:X.K=K)(T:X.calm=i0):iJ X (.builtin "min") (rMinL K):=e▸wV T
inductive zZ(K:Ln)(TT:eN)
 |mk (a:eN)(ns:E G) (_:vs=[.ref a])(_:nv a (ns.h V.int))(_:ns.L<=63)(_:Tb KF.lqF KF.lpF TT H)(_:∀ H',Q (.bl i0) H')
def gy:aw ["script","kinds","web","costs","odd_ones","k","due","found","rough"] ["script"] (aq sO):=by ac_nf
def ok_law{TM TT fC fK fW fA PS WC:eN}{dK dW dA:fk}{bP:Tok}(F:Fun K "law" "law" sO f fd)(T:TxtA mg I TM)(be:ExC K I)(a9:∀ c,c=I->N6 K c (.ref I)=Z i0)(al:k9 1 "_law_cell" ["script","k"] (Cp K) fC eg)(aZ:k9 2 "_law_kinds" ["script"] (xH K) fK dK)(a0:k9 7 "_law_web" ["kinds","cell"] (HZ PL PS WC) fW dW)(am:CalD P w K mg base 14 "all_least" ["web","most"] (Jz I TT PL PS WC) fA dA)(b1:dY K dA ["web","most"] [eK.int 64 bP]):kt 16 f fd ["script"] (zZ K TT):=by
 refine F.ok gy (by walk_at "l") λaa A o s H vs Q ef u h=>?_
 let a ns rfl hS bv tb kk:=h
 intro Xc Dc;erw[_,(ag (az 1 gy.nd (aZ.c u (ae (pv 0) ai)))
   (ag (az 2 gy.nd (a0.c u (ae (pv 1) (ae (al.c u (ae (pv 0) (ae ak ai))) ai))))
   (ag (az 3 gy.nd (bC (ae ak (ae ak ai))))
   (ag (az 4 gy.nd ak)
   (ag (mj (bf U T.n_range (ae (aG aD (by rfl) T.n_len cq (ae (pv 1) ai)) ai)) (bp 5 gy.nd) (ag (JN (pv 3) (ax kD ak (cR (bA (pv 1) (pv 5)) ak)) GW (cR (bA (pv 1) (pv 5)) ak) ip_add jT)
   (aj (az 4 gy.nd (ax cV (pv 4) (dQ wX (by rfl) T.n_int E5 (ae (nB mz (cR (bA (pv 1) (pv 5)) ak) (cR (bA (pv 1) (ax kD (pv 5) ak)) ak) (aH _)) ai)))))))
   (ag (nA 6 [("costs",3)] ["side"] gy.nd (bf U T.n_range (ae ak ai)) pg_c (λC ex s H=>(gk (aA eO (qO K (pv 1) (pv 0)) (aG (BR (K:=K) U U) (by rfl) T.n_min qE (ae (pv 1) ai)) (aH _)))) (λC ex s H=>(ax mB ak (pv 0))))
   (ag (az 7 gy.nd kC)
   (ag (az 8 gy.nd tH)
   (ag (JM (Cs:=(λc=>c=I)) U U U U T.g_TooRough be a9 (λB XE W ws=>(aj (az 7 gy.nd (CY am.ok (u.mono ∅) U am.mg am.kp b1 (dvs:=[.int 64]) (.cons #[9] .nil) ws U (ae (pv 2) ai))))) (λv=>(aj (az 8 gy.nd tH))))
   (ag (cz (PW.pt (xZ (aA yj (pv 4) ak (aH _)) (rh (pJ (pv 8))))) (aj (aF (pe_and (nB yj (pv 4) ak (aH _)) (pe_one (pv 8))))) aQ)
   (ag (cz (PW.pt (xZ (Aj (pJ (aG uP (by rfl) T.n_isinstance iH (ae (pv 7) (ae (yi (v:=.ty "list") U T.n_list jL U) ai))))) (rh (aA mz (aG aD (by rfl) T.n_len cq (ae (pv 7) ai)) (aG aD (by rfl) T.n_len cq (ae (pv 6) ai)) (aH _))))) (aj (aF tH)) aQ)
   (ag (mj (bf U T.n_range (ae (aG aD (by rfl) T.n_len cq (ae (pv 6) ai)) ai)) (bp 5 gy.nd) (aj (cz (PW.pt (xZ (Aj (pJ (aG uP (by rfl) T.n_isinstance iH (ae (bA (pv 7) (pv 5)) (ae (yi (v:=.ty "int") U T.n_int E5 U) ai))))) (xZ (pJ (aG uP (by rfl) T.n_isinstance iH (ae (bA (pv 7) (pv 5)) (ae (yi (v:=.ty "bool") U T.n_bool Ld U) ai)))) (rh (aA mz (bA (pv 7) (pv 5)) (bA (pv 6) (pv 5)) (aH _)))))) (aj (aF tH)) aQ)))
   (aj (aF tH)))))))))))))),3]
 erw[9,a,ns,U,hS,bv,λpk ws ks l r aS tk k8 bz kb=>?_];erw[153,a,01,ns,U,r.seq hS,pk,_,ws,ks,U,aS,tk,by ac_rfl,bz,λp y ts rs M s2 wf fe el ft g=>?_]
 let av:ws.L=ks.L:=tk.1;let bR:=r.Q s2;let a3:=tk.mono s2;let a4:∀ k∈ks,k.1=0∨k.1=1:=λk D=>by
  let i N:=Mg D;exact(tk.2 i k N).1
 let bB:∀ k∈ks,0<=k.2/\k.2<=10^(30:G).U:=λk D=>by
  let i N:=Mg D;erw[(tk.2 i k N).2.1,kb k D]
 let rg:rgh ks y.L rs=((LD y.L).filter (oddK ks y.L)).L:=by
  let dx fs d e t wg _:=id wf;exact KO fe ft wg.part
 erw[(by show 2<=P7;decide),λqc a6=>?_]
 let s3:=ah a6 (.lst [.int 0,.int 0]);let nn:∀ x,cF ks x 0=0:=λ_=>rfl;erw[9,pk,ws,U,.inl (SqL.of (s3 _ _ (s2 _ _ aS))),9,by ac_rfl,by ac_rfl,dU (n:=(ws.L:G).U) (λi L H3=>∃ v5,L=[Z (.ref a),Z (.ref pk),Z (.ref p),Z (.ref qc),Z (.int (((LD i).filter (oddK ks y.L)).L:G)),v5,kf,kf,kf]/\Same M H3/\H3 qc=Z (.lst [.int (cF ks j5 i),.int (cF ks i0 i)])) #[9,s3,af] ?_ ?_]
 .rintro i L H3 N ⟨v5,rfl,an,ab⟩;rw[Ly,av]at N;rw[Nb];let k D:∃ k,ks[i]?=Z k:=#[_,Lj N];let pl:=eu N;let k' ap:∃ k',ks[prv ks.L i]?=Z k':=#[_,Lj pl];let k1 k2 bJ y1 y2:=(a3.mono an).2 i k D;let bT _ b0 b5 b6:=(a3.mono an).2 _ k' ap;let a7:=an _ _ (s2 _ _ aS);let pb:=sV D;let sk:stg ks i=k.2:=by unfold stg;rw[D]
  erw[2457,pk,ws,165,SqL.of a7,aE y1,bJ,_,00,41,SqT.of y2,at0,933];let j x hj J jl bK:∃(j:R)(x:G),1-k.1=(j:G)/\[V.int (cF ks j5 i),V.int (cF ks i0 i)][j]?=Z (.int x)/\j<2/\[V.int (cF ks j5 i),V.int (cF ks i0 i)].set j (.int (x+k.2))=[.int (cF ks j5 (i+1)),.int (cF ks i0 (i+1))]:=by
   let c0:∀ x,cF ks x (i+1)=if(x ^^ bH ks i)=i0 then cF ks x i+stg ks i else cF ks x i:=λ_=>rfl;obtain z|z:=k1
   .erw[01,cF ks i0 i,by ac_rfl,66]
    simp[*]
   .erw[00,cF ks j5 i,by ac_rfl,66]
    simp[*]
  let a1 : [V.int (cF ks j5 i),V.int (cF ks i0 i)][(1-k.1).U]?=Z (.int x):=by rw[hj,Ly];exact J
  let a2:ixN [V.int (cF ks j5 i),V.int (cF ks i0 i)].L (1-k.1)=Z j:=by rw[hj];exact t6 jl
  erw[qc,661,SqL.of ab,by ac_rfl,a1,3]
  erw[153,pk,ws,165,SqL.of a7,aE y1,bJ,_,01,41,SqT.of y2,at1,165,qc,5,j,10,ab,a2,3];let s4:=aC an a6 (.lst ([V.int (cF ks j5 i),V.int (cF ks i0 i)].set j (.int (x+k.2))));let g4:(upd H3 qc (.lst ([V.int (cF ks j5 i),V.int (cF ks i0 i)].set j (.int (x+k.2))))) qc=_:=af;let _ _ bU z1 z2:=(a3.mono s4).2 i k D;let _ _ bY ba bb:=(a3.mono s4).2 _ k' ap;let a8:=s4 _ _ (s2 _ _ aS);let ho:(if oddK ks y.L i=i0 then 1 else 0:G)=if(!decide (V.int k.1=V.int k'.1))=i0 then 1 else 0:=by
   unfold oddK;rw[el,pb,sV ap];obtain z|z:=k1<;>obtain z'|z':=bT<;>rw[z,z']<;>rfl
  erw[2457,pk,ws,165,SqL.of a8,aE z1,bU,_,00,41,SqT.of z2,at0,42393,pk,ws,165,SqL.of a8,at_prv av N ba,bY,_,00,41,SqT.of bb,at0,U,.inr #[14937]];erw[_,by rw[Gk,ho];rfl,s4,by rw[g4,bK]]
 rintro L H3 ⟨v5,rfl,an,ab⟩;rw[Ly,av,← el]at ab;rw[Ly,av,← el,← rg];let aI:=KF.tb_same tb (bR.Q an);erw[329,lE (k:=(2:G).U) (λi zs H4=>H4=H3/\zs=((([j5,i0].j i).filter λS=>decide (cF ks S y.L=min (cF ks j5 y.L) (cF ks i0 y.L))).h λS=>(sL S:G)).h V.int) ∅ #[10] ?_ ?_ ?_]
 .rintro i zs H4 N ⟨rfl,rfl⟩;let N:i=0∨i=1:=by grind
  let S hS hv ac:∃ S,[j5,i0][i]?=Z S/\2*(0+(i:G))=(sL S:G)/\atI [V.int (cF ks j5 y.L),V.int (cF ks i0 y.L)] (0+(i:G))=Z (.int (cF ks S y.L)):=by
   obtain rfl|rfl:=N
   .erw[j5,42]
   .erw[i0,42]
  let et : [j5,i0].j (i+1)=[j5,i0].j i++[S]:=by rw[LI,hS];rfl
  erw[614,qc,661,SqL.of ab,ac,9,qc,[cF ks j5 y.L,cF ks i0 y.L],U,SqL.of ab,Nat.zero_lt_two,λm hm aT=>?_];let em:m=min (cF ks j5 y.L) (cF ks i0 y.L):=by
   let Y:=aT _ (Lv ..);let b:=aT _ (Lr _ (LB.mpr U));obtain z|z:=Lw.mp hm
   .ac_rfl
   .grind
  erw[38,ite2 (λc=>?_) (λc=>?_)]
  .let c':cF ks S y.L=min (cF ks j5 y.L) (cF ks i0 y.L):=by rw[← em];exact V.int.inj (Rl c)
   erw[2649,.inl #[by decide,by decide],14]
   grind
  .let c':¬ cF ks S y.L=min (cF ks j5 y.L) (cF ks i0 y.L):=λz=>c (QG (by rw[z,em]))
   erw[14];rw[et,M9,Ov (by rw[P6 c'];exact LS),List.filter_nil,Nd]
 .rintro zs H4 ⟨rfl,rfl⟩ qd a5;let s4:=ah a5 (.lst ((dueL ks y.L).h V.int));let gd:(upd H4 qd (.lst ((dueL ks y.L).h V.int))) qd=Z (.lst ((dueL ks y.L).h V.int)):=af;show tSeq _ _ _ _ (upd H4 qd (.lst ((dueL ks y.L).h V.int)));generalize upd H4 qd (.lst ((dueL ks y.L).h V.int))=H5 at s4 gd;let bi:=KF.tb_same aI s4;let bm:=wf.mono (an.Q s4) (λ_ z=>z);let ls O:=bm.oth g el.Y bB (Lo 2) (by ac_rfl)
  let d2:=(Eu ks y.L).1;erw[9,p,y,ts,rs,ks,ls,U,#[#[_,bm],g,el.Y,a4,bB,by ac_rfl,by ac_rfl,bi],#[#[_,bm],fe,ft,by ac_rfl,by ac_rfl,el.Y],O,λz H6 s6 ca=>#[I,58],λz q H6 bZ hq=>?_]
  .erw[236121];rw[QG (show(12:G)<((rgh ks y.L rs:R):G) by ac_rfl)]
   refine iteT (iteT #[236121]);rw[QG (show(12:G)<((rgh ks y.L rs:R):G) by ac_rfl)]
   exact iteT #[9,kk _]
  .erw[236121];rw[P6 (show ¬ (12:G)<((rgh ks y.L rs:R):G) by ac_rfl)]
   refine iteF #[153,iteF ?_];let bn:=bZ.lst gd;erw[38233,TyOf.lst hq,Or.inl #[41],kit_ll K,9,iteF ?_];erw[9,q,9,.inl (SqL.of hq),9,qd,9,.inl (SqL.of bn),38,vR U ?_];erw[9,qd,9,.inl (SqL.of bn),9,by ac_rfl,by grind,dU (n:=(((dueL ks y.L).h V.int).L:G).U) (λi L H7=>∃ v5,L=[Z (.ref a),Z (.ref pk),Z (.ref p),Z (.ref qc),Z (.int ((rgh ks y.L rs:R):G)),v5,Z (.ref qd),Z (.ref q),Z (.bl j5)]/\H7=H6) #[41] ?_ ?_]
   .rintro i L H7 N ⟨v5,rfl,rfl⟩;rw[Ly,Lp]at N;rw[Nb];let ac:((dueL ks y.L).h V.int)[i]?=Z (.int (dueL ks y.L)[i]):=by rw[Lx,Lj N];rfl
    erw[153,q,661,SqL.of hq,aE ac,2389,TyOf.int _,Or.inl #[41],kit_ii K,9,iteF ?_];erw[153,q,661,SqL.of hq,aE ac,2389,TyOf.int _,Or.inl #[41],kit_ib K,9,iteF ?_];erw[153,q,661,SqL.of hq,aE ac,153,qd,661,SqL.of bn,aE ac,38,vR U #[41]]
   rintro L H7 ⟨v5,rfl,rfl⟩;exact kk _
 .rintro i zs H4 ⟨_,rfl⟩;rw[Lp,Lp];exact Mi (M7 _ _) (by rw[Me];exact M5 _ _)
open KF (oO jV i6 oJ sJ Ae Ad FL dG g8 b9 gX oK lY l7 l8 oM sP gW)
structure GF(K:Ln)(x:ff)(st:fo)(f:eN)(fd:fk):Prop where
 a:L8 K P9 x=Z (Z (.ref f))
 F:Fun K x x st f fd
structure Wr(P:fI)(w:hx)(K:Ln)(mg:ff->ii eK)(base:fc):Prop where
 g:∀{x:ff}{v:eK},L8 K P9 x=Z (Z v)->mg x=Z v
section
variable{P:fI}{w:hx}{K:Ln}{mg:ff->ii eK}{base:fc}{x p p2 p3 p4 p5 p6:ff}{ps:E ff}{st:fo}{f:eN}{fd:fk}{k:R}{sp:Sp}
def Bn(x:ff)(st:fo)(us:E eK)(r:E (ff×eK)):Prop:=∀ kV B T p g a,bindArgs (Mq x x (bQ st) (bq st) (aq st) .none kV B T p g a) #[us,[]]=pure r
theorem GF.b(g:GF K x st f fd)(h:∀ us:E eK,us.L=ps.L->Bn x st us (ps.zip us)):dY K fd ps []:=g.F.binds λkV B T p l a us C=>h us C kV B T p l a
theorem Wr.c(W:Wr P w K mg base)(g:GF K x st f fd)(b:dY K fd ps [])(o:kt k f fd ps sp):k9 k x ps sp f fd:=#[o,b,W.g g.a,g.F.kp]
theorem Wr.c0(W:Wr P w K mg base)(g:GF K x st f fd)(o:kt k f fd [] sp)(h:Bn x st [] []:=by intros _ _ _ _ _ _;rfl):k9 k x [] sp f fd:=W.c g (g.b λj l=>match j,l with | [],_=>h) o
theorem GF.b1(g:GF K x st f fd)(h:∀ u,Bn x st [u] [(p,u)]):dY K fd [p] []:=g.b λj l=>by let _ rfl:=Kw l;exact h _
theorem GF.b2(g:GF K x st f fd)(h:∀ u v,Bn x st [u,v] [(p,u),(p2,v)]):dY K fd [p,p2] []:=g.b λj l=>by let _ _ rfl:=Kv l;exact h _ _
theorem GF.b3(g:GF K x st f fd)(h:∀ u v y,Bn x st [u,v,y] [(p,u),(p2,v),(p3,y)]):dY K fd [p,p2,p3] []:=g.b λj l=>by let _ _ _ rfl:=len_3 l;exact h _ _ _
theorem GF.b4(g:GF K x st f fd)(h:∀ u v y z,Bn x st [u,v,y,z] [(p,u),(p2,v),(p3,y),(p4,z)]):dY K fd [p,p2,p3,p4] []:=g.b λj l=>by let _ _ _ _ rfl:=Ku l;exact h _ _ _ _
theorem Wr.c1(W:Wr P w K mg base)(g:GF K x st f fd)(o:kt k f fd [p] sp)(h:∀ u,Bn x st [u] [(p,u)]:=by intros _ _ _ _ _ _ _;rfl):k9 k x [p] sp f fd:=W.c g (g.b1 h) o
theorem Wr.c2(W:Wr P w K mg base)(g:GF K x st f fd)(o:kt k f fd [p,p2] sp)(h:∀ u v,Bn x st [u,v] [(p,u),(p2,v)]:=by intros _ _ _ _ _ _ _ _;rfl):k9 k x [p,p2] sp f fd:=W.c g (g.b2 h) o
theorem Wr.c3(W:Wr P w K mg base)(g:GF K x st f fd)(o:kt k f fd [p,p2,p3] sp)(h:∀ u v y,Bn x st [u,v,y] [(p,u),(p2,v),(p3,y)]:=by intros _ _ _ _ _ _ _ _ _;rfl):k9 k x [p,p2,p3] sp f fd:=W.c g (g.b3 h) o
theorem Wr.c4(W:Wr P w K mg base)(g:GF K x st f fd)(o:kt k f fd [p,p2,p3,p4] sp)(h:∀ u v y z,Bn x st [u,v,y,z] [(p,u),(p2,v),(p3,y),(p4,z)]:=by intros _ _ _ _ _ _ _ _ _ _;rfl):k9 k x [p,p2,p3,p4] sp f fd:=W.c g (g.b4 h) o
theorem Wr.d1(W:Wr P w K mg base)(g:GF K x st f fd)(o:FnOk P w K mg base (CXd P w) k f fd [p] sp)(h:∀ u,Bn x st [u] [(p,u)]:=by intros _ _ _ _ _ _ _;rfl):CalD P w K mg base k x [p] sp f fd:=#[o,g.b1 h,W.g g.a,g.F.kp]
end
def Fy{c T:eN}{o1:eK}{o2 b:ii eN}{g h:io (ii eK)}{vs:io eK}(a:L8 K P9 x=Z (Z (.ref f)))(l:K.Z f=Z #[o1,o2,.func fd,g])(e:fd.code=.ref c)(d:K.Z c=Z #[u,b,.fields vs,h])(v:vs[11]?=Z (.ref T)):NH K x=Z (c,T):=by
 unfold NH;rw[a];simp only[l,e,d,v]
def all_mk{l:Po}{w:hx}{K:Ln}{h:fc}{mg:ff->ii eK}{J dD qL bZ bY iK aa ab a2 Eh Eg G9 Bv uw G4 KS qR yS jD yP G6 Ef Ek yO G5 G7 wc ur yQ ux Bs Bx o9 yM El G8 KY Bu Bt KU vY uv pZ qS Bp qe Bo wj qP yT wm iE bT gG bz cg fH ac Ei By vZ yN Br uu qQ pY cP Bw yR Ej KW:eN}{cT TT:eN}{Q:eK}{dT:ii eN}{vT:io eK}{n:io (ii eK)}(X:K.In h)(eg:h.Ns P9 mg) (q:mg "law"=Z (.ref J))
  {Gn Ht Dk Fc vC xt tN uY ym zM oj oE tL uX vD xu tK uW al IP:ii eN} {FE Cv vg sf xJ n9 se vh r8 am:io (ii eK)} {Gs GK He FQ uO Hn Dm DN ED CN wU EV vE vO wx vq nU wN tQ t5 uC tj mU uM yo yE ze ye qC zy oo oq oA oi iR oB tP tZ uB sZ mT uK vF vP wA vt nV wO tO tW uA sY mS uJ an Iy IG Ij E1 II:eK}
  {H I:Tok}
  {A:Tok}
  {AL:eN} {ES:eK} {ER:ii eN} {EO:R} {EN:io (ii eK)}
  {qz:eN} {wK:eK} {wJ:ii eN} {wI:R} {wH:io (ii eK)}
  {ap av a3 EH EG Hk BH Hf K4 qW zt qw zj Hh EF EK zh Hg Hi wD uE zm uH BE BJ zf EM Hj K7 BG BF K6 wB uG qx qX BC qy BB wF qU zv wG aI EI BK wC zg BD uF qV qv BI zo EJ:fk}
  (lM:L8 K P9 "TooRough"=Z (Z (.ref dD)))
  (nM:L8 K P9 "TooMany"=Z (Z (.ref qL)))
  (zO:L8 K P9 "Pull"=Z (Z (.ref bZ)))
  (zN:L8 K P9 "Push"=Z (Z (.ref bY)))
  (Fd:L8 K P9 "Web"=Z (Z (.ref iK)))
  (jq:L0 K (.ref bZ) "__init__"=Z (Z (.ref bT)))
  (jo:L0 K (.ref bZ) "wish"=Z (Z (.ref gG)))
  (gp:L0 K (.ref bZ) "across"=Z (Z (.ref cg)))
  (dw:L0 K (.ref bZ) "unpleased"=Z (Z (.ref bz)))
  (jn:L0 K (.ref bY) "__init__"=Z (Z (.ref bT)))
  (jj:L0 K (.ref bY) "wish"=Z (Z (.ref fH)))
  (gn:L0 K (.ref bY) "across"=Z (Z (.ref cg)))
  (du:L0 K (.ref bY) "unpleased"=Z (Z (.ref bz)))
  (lr:L0 K (.ref iK) "__init__"=Z (Z (.ref cP)))
  (AB:GF K "bits" Ae aa ap)
  (Az:GF K "ones" Ad ab av)
  (GX:GF K "odd" FL a2 a3)
  (gE:GF K "mask_of" l4 Eh EH)
  (mJ:GF K "reached" lZ Eg EG)
  (o7:GF K "beyond" oO G9 Hk)
  (kd:GF K "links_at" jV Bv BH)
  (oU:GF K "row_to" oJ G4 Hf)
  (uf:GF K "whole" sJ KS K4)
  (dJ:GF K "refuse_marks" dG qR qW)
  (iB:GF K "chosen_of" g8 yS zt)
  (aZ:GF K "laid_in_pairs" b9 jD qw)
  (iy:GF K "new_table" gX yP zj)
  (oX:GF K "paired" oK G6 Hh)
  (mI:GF K "root_of" lY Ef EF)
  (mM:GF K "heights" l7 Ek EK)
  (iw:GF K "paid_over" gW yO zh)
  (oW:GF K "pushes" sM G5 Hg)
  (oY:GF K "odd_at" sN G7 Hi)
  (fU:GF K "odd_rounds" i4 wc wD)
  (eQ:GF K "refuse_ties" gR ur uE)
  (iz:GF K "laying_of" kN yQ zm)
  (eX:GF K "ends_within" gZ ux uH)
  (j8:GF K "order_of" ng Bs BE)
  (kj:GF K "front_of" nu Bx BJ)
  (ir:GF K "ties_back" kL yM zf)
  (mO:GF K "dryings" l8 El EM)
  (oZ:GF K "joined" oM G8 Hj)
  (uh:GF K "hills" sP KY K7)
  (ka:GF K "links_of" ni Bu BG)
  (j9:GF K "marks_of" nh Bt BF)
  (ug:GF K "least" xV KU K6)
  (fR:GF K "tight_ties" iY vY wB)
  (eU:GF K "near_places" gY uv uG)
  (cZ:GF K "kept_on_front" fy pZ qx)
  (dM:GF K "narrow_order" gj qS qX)
  (j6:GF K "signings" m8 Bp BC)
  (c6:GF K "cost_if_tight" fz qe qy)
  (j4:GF K "stations" m7 Bo BB)
  (fV:GF K "moves_from" i5 wj wF)
  (dH:GF K "signs_behind" gf qP qU)
  (iC:GF K "all_moves" kQ yT zv)
  (fX:GF K "best_moves" i7 wm wG)
  (AA:GF K "head" CD ac aI)
  (mK:GF K "leaving" pG Ei EI)
  (ko:GF K "follower" nz By BK)
  (fT:GF K "round_from" iZ vZ wC)
  (iu:GF K "rounds_of" kM yN zg)
  (j7:GF K "sides_of" m9 Br BD)
  (eR:GF K "refuse_ends" gU uu uF)
  (dI:GF K "refuse_turns" gh qQ qV)
  (cY:GF K "refuse_parted" fx pY qv)
  (kh:GF K "_law_cell" nj Bw BI)
  (iA:GF K "_law_kinds" kP yR zo)
  (mL:GF K "_law_web" pH Ej EJ)
  (qH:L8 K P9 "fares"=Z (Z (.ref uw)))
  (tU:K.Z uw=Z #[Gs,Gn,.func (Mq "fares" "fares" (bQ i6) (bq i6) (aq i6) .none GK He FQ Ht uO Hn),FE])
  (zF:MD K uO "fares"=i0)
  (tV:L9 K (.ref uw)=i0)
  (uZ:L8 K P9 "fronts"=Z (Z (.ref o9)))
  (tS:K.Z o9=Z #[Dm,Dk,.func (Mq "fronts" "fronts" (bQ jW) (bq jW) (aq jW) (.ref AL) DN ED CN Fc wU EV),Cv])
  (pS:K.Z AL=Z #[ES,ER,.seq [eK.none].toArray EO,EN])
  (uQ:MD K wU "fronts"=i0)
  (oQ:L9 K (.ref o9)=i0)
  (lL:L8 K P9 "all_least"=Z (Z (.ref iE)))
  (ly:K.Z iE=Z #[vE,vC,.func (Mq "all_least" "all_least" (bQ di) (bq di) (aq di) (.ref qz) vO wx vq xt nU wN),vg])
  (jt:K.Z qz=Z #[wK,wJ,.seq [eK.int 64 A].toArray wI,wH])
  (lH:MD K nU "all_least"=i0)
  (ik:L9 K (.ref iE)=i0)
  (jy:K.Z bT=Z #[tQ,tN,.func (Mq "__init__" "Tie.__init__" (bQ cO) (bq cO) (aq cO) .none t5 uC tj uY mU uM),sf])
  (jJ:MD K mU "Tie.__init__"=i0)
  (jA:L9 K (.ref bT)=i0)
  (fQ:NA K (.ref bT)=i0)
  (nE:K.Z gG=Z #[yo,ym,.func (Mq "wish" "Tie.wish" (bQ eZ) (bq eZ) (aq eZ) .none yE ze ye zM qC zy),xJ])
  (nK:MD K qC "Tie.wish"=i0)
  (jZ:L9 K (.ref gG)=i0)
  (nG:NA K (.ref gG)=i0)
  (fF:K.Z bz=Z #[oo,oj,.func (Mq "unpleased" "Tie.unpleased" (bQ bO) (bq bO) (aq bO) .none oq oA oi oE iR oB),n9])
  (fJ:MD K iR "Tie.unpleased"=i0)
  (cf:L9 K (.ref bz)=i0)
  (cX:NA K (.ref bz)=i0)
  (jx:K.Z cg=Z #[tP,tL,.func (Mq "across" "Tie.across" (bQ cN) (bq cN) (aq cN) .none tZ uB sZ uX mT uK),se])
  (jI:MD K mT "Tie.across"=i0)
  (dS:L9 K (.ref cg)=i0)
  (fP:NA K (.ref cg)=i0)
  (lA:K.Z fH=Z #[vF,vD,.func (Mq "wish" "Push.wish" (bQ dj) (bq dj) (aq dj) .none vP wA vt xu nV wO),vh])
  (lK:MD K nV "Push.wish"=i0)
  (iq:L9 K (.ref fH)=i0)
  (lB:NA K (.ref fH)=i0)
  (jv:K.Z cP=Z #[tO,tK,.func (Mq "__init__" "Web.__init__" (bQ cM) (bq cM) (aq cM) .none tW uA sY uW mS uJ),r8])
  (jH:MD K mS "Web.__init__"=i0)
  (jz:L9 K (.ref cP)=i0)
  (jB:NA K (.ref cP)=i0)
  (Hv:L8 K P9 "law"=Z (Z (.ref KW)))
  (Ky:K.Z KW=Z #[an,al,.func (Mq "law" "law" (bQ sO) (bq sO) (aq sO) .none Iy IG Ij IP E1 II),am])
  (Lb:MD K E1 "law"=i0)
  (KA:L9 K (.ref KW)=i0)
  (gK:OU K dD veM "ValueError.__new__"=i0)
  (cA:N6 K dD (.ref dD)=Z i0)
  (m5:OU K qL veM "ValueError.__new__"=i0)
  (yg:Nu K bZ ff.empty=i0)
  (yG:NI K bZ=i0)
  (yd:NU K bZ=i0)
  (xU:L0 K (.ref bZ) "__setattr__"=Z (Z (.builtin "object.__setattr__")))
  (yw:N8 K bZ=i0)
  (yD:L9 K (.ref bZ)=i0)
  (lj:L0 K (.ref bZ) "one"=Z kf)
  (lh:L0 K (.ref bZ) "two"=Z kf)
  (eh:L0 K (.ref bZ) "strength"=Z kf)
  (yf:Nu K bY ff.empty=i0)
  (yF:NI K bY=i0)
  (yc:NU K bY=i0)
  (xR:L0 K (.ref bY) "__setattr__"=Z (Z (.builtin "object.__setattr__")))
  (yu:N8 K bY=i0)
  (yC:L9 K (.ref bY)=i0)
  (lg:L0 K (.ref bY) "one"=Z kf)
  (k7:L0 K (.ref bY) "two"=Z kf)
  (d8:L0 K (.ref bY) "strength"=Z kf)
  (CU:Nu K iK ff.empty=i0)
  (D4:NI K iK=i0)
  (CM:NU K iK=i0)
  (CC:L0 K (.ref iK) "__setattr__"=Z (Z (.builtin "object.__setattr__")))
  (Dx:N8 K iK=i0)
  (DM:L9 K (.ref iK)=i0)
  (kZ:L0 K (.ref iK) "many"=Z kf)
  (kY:L0 K (.ref iK) "ties"=Z kf)
  (jd:L0 K (.ref iK) "turns"=Z kf)
  (ig:L0 K (.ref iK) "rounds"=Z kf)
  (jh:L0 K (.ref iK) "sides"=Z kf)
  (yH:L8 K P9 "MOST_MARKS"=Z (Z (.int 14 H)))
  (yI:L8 K P9 "MOST_ODD"=Z (Z (.int 12 I)))
  (IX:L8 K P9 "len"=Z kf)
  (IY:L8 K P9 "int"=Z kf)
  (B0:L8 K P9 "bool"=Z kf)
  (BY:L8 K P9 "list"=Z kf)
  (xy:L8 K P9 "tuple"=Z kf)
  (xA:L8 K P9 "range"=Z kf)
  (kG:L8 K P9 "enumerate"=Z kf)
  (iU:L8 K P9 "isinstance"=Z kf)
  (IV:L8 K P9 "min"=Z kf)
  (IT:L8 K P9 "sum"=Z kf)
  (rM:L8 K P9 "sorted"=Z kf)
  (IW:L8 K P9 "max"=Z kf)
  (IS:L8 K P9 "zip"=Z kf)
  (IZ:L8 K P9 "abs"=Z kf)
  (BZ:L8 K P9 "dict"=Z kf)
  (mY:L8 K P9 "reversed"=Z kf)
  (IU:L8 K P9 "set"=Z kf)
  (tbc:uO=.ref cT) (tbl:K.Z cT=Z #[Q,dT,.fields vT,n]) (tbv:vT[11]?=Z (.ref TT)) (tbn:K.Z TT=kf)
  : ∃ fd:fk,(∀(s:e9)(v:eK),BindsTo s fd #[[v],[]] [("script",v)])/\∃ c T,NH K "fares"=Z (c,T)/\K.Z T=kf/\∀ base:fc,K.In base->base.Ns P9 mg->Nw base c T->Bm mg base->FnOk l.e w K mg base CX0 16 J fd ["script"] (zZ K T):=by
 let a9:=Fy qH tU tbc tbl tbv;let e:=q.Y.Q (MT X eg Hv)
 cases e
 let Fj:=fun_mk (st:=i6) tU zF tV;let Lf:=Fj.binds (ps:=["many","links","start"]) λ_ _ _ _ _ _ j C=>by let u M r rfl:=len_3 C;rfl
 let u6:=D9 (st:=jW) tS uQ oQ pS U;let Hs:=u6.binds (ps:=["web","order"]) (ds:=[]) λ_ _ _ _ _ _ _ j C=>match j,C with | [_,_],_=>#[41]
 let a4:=u6.binds (ps:=["web","order"]) (ds:=[eK.none]) λ_ _ _ _ _ _ _ j C=>by
  let Y:j.L=1:=by simpa using C
  match j,Y with | [_],_=>exact#[41]
 let lN:=D9 (st:=di) ly lH ik jt U;let zH:=lN.binds (ps:=["web","most"]) (ds:=[]) λ_ _ _ _ _ _ _ j C=>match j,C with | [_,_],_=>#[41]
 let xr:=lN.binds (ps:=["web","most"]) (ds:=[eK.int 64 A]) λ_ _ _ _ _ _ _ j C=>by
  let Y:j.L=1:=by simpa using C
  match j,Y with | [_],_=>exact#[41]
 let n6:=fun_mk (st:=cO) jy jJ jA;let nX:=n6.binds (ps:=["self","one","two","strength"]) λ_ _ _ _ _ _ j C=>by let u M r x3 rfl:=Ku C;rfl
 let rL:=fun_mk (st:=eZ) nE nK jZ;let BU:=rL.binds (ps:=["self"]) λ_ _ _ _ _ _ j C=>by let u rfl:=Kw C;rfl
 let fL:=fun_mk (st:=bO) fF fJ cf;let jO:=fL.binds (ps:=["self","laying"]) λ_ _ _ _ _ _ j C=>by let u M rfl:=Kv C;rfl
 let jQ:=fun_mk (st:=cN) jx jI dS;let nW:=jQ.binds (ps:=["self","place"]) λ_ _ _ _ _ _ j C=>by let u M rfl:=Kv C;rfl
 let qJ:=fun_mk (st:=dj) lA lK iq;let zI:=qJ.binds (ps:=["self"]) λ_ _ _ _ _ _ j C=>by let u rfl:=Kw C;rfl
 let nZ:=fun_mk (st:=cM) jv jH jz;let xq:=nZ.binds (ps:=["self","many","ties","turns"]) λ_ _ _ _ _ _ j C=>by let u M r x3 rfl:=Ku C;rfl
 let a5:=fun_mk (st:=sO) Ky Lb KA;erw[Mq "law" "law" (bQ sO) (bq sO) (aq sO) .none Iy IG Ij IP E1 II,λs v=>.of_eq U,cT,TT,a9,tbn,λbase _ _ z ef=>?_];let Kt:=MT X eg qH;let GC:=MT X eg uZ;let yA:=MT X eg lL;let b0:=MT X eg Hv;let Be:=MT X eg lM;let DB:=MT X eg nM;let aT:=MT X eg zO;let a0:=MT X eg zN;let a6:=MT X eg Fd;let ba:=MT X eg yH;let modd:=MT X eg yI;let L:=Mf X eg IX;let N:=Mf X eg IY;let B:=Mf X eg B0;let p:=Mf X eg BY;let t:=Mf X eg xy;let x:=Mf X eg xA;let o:=Mf X eg kG;let k:=Mf X eg iU;let O:=Mf X eg IV;let n_sum:=Mf X eg IT;let n_sorted:=Mf X eg rM;let n_max:=Mf X eg IW;let n_zip:=Mf X eg IS;let a7:=Mf X eg IZ;let bU:=Mf X eg BZ;let n_reversed:=Mf X eg mY;let n_set:=Mf X eg IU;let W:Wr l.e w K mg base:=#[λe=>MT X eg e];let f:CT K bZ:=#[#[yg,yG,yd,xU],lj,lh,eh];let TS:CT K bY:=#[#[yf,yF,yc,xR],lg,k7,d8];let i:CW K iK:=#[#[CU,D4,CM,CC],kZ,kY,jd,ig,jh];let T:Txt mg:=#[L,N,B,p,t,x,o,k,O,n_sum,n_sorted];let GI:FnOk l.e w K mg base CX0 1 bT _ _ (qZ K):=Kd n6;let ML:Mak l.e w K mg base 1 "Pull" _ (qZ K) bZ bT _:=#[#[yw,jq,fQ,yD],GI,nX,aT];let MS:Mak l.e w K mg base 1 "Push" _ (qZ K) bY bT _:=#[#[yu,jn,fQ,yC],GI,nX,a0];let Gh:=W.c2 AA (Ke AA.F);let Gl:=W.c3 mK (A5 mK.F);let Gf:=W.c3 ko (yk ko.F T Gh Gl);let Gr:=W.c3 fT (Kg fT.F Gf);let GR:=W.c2 iu (Dg iu.F T Gr);let GS:=W.c2 j7 (F5 j7.F T);let wL:Met l.e w K mg base 1 bZ "wish" _ (lP j5) gG _:=#[#[jo,nG,jZ],F1 rL,BU];let wS:Met l.e w K mg base 1 bY "wish" _ (lP i0) fH _:=#[#[jj,lB,iq],F0 qJ,zI];let Gm:=W.c1 (sp:=(spMask K)) gE (KF.ok_mask gE.F);let Gp:=W.c1 oW (Ka oW.F T i f TS Gm wL wS);let Go:=W.c3 (sp:=(rV bZ bY iK)) oY (F9 oY.F T i);let Gq:=W.c1 fU (Kb fU.F T i Gm Gp Go);let R1:=W.c2 eR (F7 eR.F);let R2:=W.c3 dI (Df dI.F T);let bb:=W.c2 mJ (KF.ok_reached mJ.F);let R3:=W.c2 cY (F6 cY.F bb);let WI:FnOk l.e w K mg base CX0 5 cP _ _ (rT K):=F3 nZ T R1 R2 R3 GR GS;let MW:Mak l.e w K mg base 5 "Web" _ (rT K) iK cP _:=#[#[Dx,lr,jB,DM],WI,xq,a6];let Gc:=W.c2 kh (Ki kh.F T);let kT:KF.Txt mg:=#[L,N,B,p,t,x,O,a7,o,k];let be:=W.c2 o7 (KF.ok_bey o7.F);let b5:=W.c2 kd (KF.ok_at kd.F kT);let bi:Cal l.e w K mg base 2 "fares" _ (KF.spFares TT) uw _:=#[KF.ok_fares Fj kT a9 qH z ef b5 be,Lf,Kt,tV];let b6:=W.c2 uf (KF.ok_whl uf.F bb);let ca:=W.c3 oU (KF.ok_row oU.F #[p,n_reversed] be);let y:=W.c1 AB (KF.ok_bits AB.F);let a1:=W.c1 Az (KF.ok_ones Az.F kT y);let cb:=W.c1 GX (KF.ok_odd GX.F a1);let bm:=W.c1 gE (KF.ok_mask gE.F);let bn:=W.c3 dJ (KF.ok_ref dJ.F #[#[_,ba]] cb b6 a1);let bv:=W.c2 iB (KF.ok_chosen iB.F);let bB:=W.c0 iy (KF.ok_table iy.F);let bJ:∀(D:R->R->G)(m:R),(∀ a b,D a b=D b a)->Cal l.e w K mg base 10 "laid_in_pairs" _ (KF.spLaid D m 8) jD _:=λD m sy=>#[KF.ok_laid sy aZ.F kT y (aZ.b3 λ_ _ _=>by intros _ _ _ _ _ _;rfl) (W.g aZ.a) aZ.F.kp 8,(aZ.b3 λ_ _ _=>by intros _ _ _ _ _ _;rfl),(W.g aZ.a),aZ.F.kp]
 let cc:=W.c3 oX (KF.ok_paired oX.F kT bn y bi bv bB bJ bm ca);let bK:KF.TxtZ mg:={kT with n_zip:=n_zip};let a8:KF.TxtH mg:={bK with n_reversed:=n_reversed,n_sorted:=n_sorted,n_set:=n_set};let bP:=W.c1 mI (KF.ok_root mI.F y);let cd:=W.c3 mM (KF.ok_hts mM.F bK bn y bi bv bB bJ bP);let ce:=W.c2 mO (KF.ok_dry mO.F a8);let ch:=W.c2 oZ (KF.ok_join oZ.F kT y);let ci:=W.c3 uh (KF.ok_hills uh.F a8 cd ce bP ch);let ck:KF.TxtE mg:={a8 with n_sum:=n_sum};let cl:=W.c2 iw (KF.ok_paid iw.F ck);let TO:TxtO mg dD:={T with n_zip:=n_zip,modd:=#[_,modd],n_max:=n_max,g_TooRough:=Be};let co:=W.d1 j9 (Gb j9.F TO gK Gq a1);let TZ:TxtZ mg:={T with n_zip:=n_zip};let bR:=W.c1 ka (Gd ka.F TZ i f TS);let aL:Met l.e w K mg base 1 bZ "across" _ (lQ bZ) cg _:=#[#[gp,fP,dS],vB jQ f,nW];let aS:Met l.e w K mg base 1 bY "across" _ (lQ bY) cg _:=#[#[gn,fP,dS],vB jQ TS,nW];let uL:Met l.e w K mg base 2 bZ "unpleased" _ (pz bZ j5) bz _:=#[#[dw,cX,cf],De fL f wL,jO];let uS:Met l.e w K mg base 2 bY "unpleased" _ (pz bY i0) bz _:=#[#[du,cX,cf],De fL TS wS,jO];let M1:=W.c2 eQ (ok_rt eQ.F T i Gp Go);let M2:=W.c2 iz (ok_lo iz.F T i f TS M1 Gm aL aS wL wS);let cp:=W.d1 ug (Ge ug.F TO i co bR cc M2 ci);let Q1:=W.c2 fR (ok_tt fR.F T bR cl Gm);let Q2:=W.c1 eU (Kc eU.F T i f TS);let Q3:=W.c3 cZ (ok_kof cZ.F bm y);let Q4:=W.c1 dM (F8 dM.F T i Q2 a1 Q3);let Q5:=W.c2 (sp:=(oI K)) eX (Dd eX.F);let Q6:=W.c2 (sp:=(Cj bZ bY iK)) j8 (ok_ord j8.F T i);let Q7:=W.c2 kj (Gj kj.F i f TS Q5);let Q8:Cal l.e w K mg base 3 "fronts" _ (rW bZ bY iK) o9 _:=#[Dh u6 Q6 Q7,Hs,GC,oQ];let Q9:=W.c2 ir (Kk ir.F i f TS Q5);let U1:=W.c3 j4 (JY j4.F TZ i Q9 Q8);let U2:=W.c2 j6 (F4 j6.F);let U3:=W.c2 c6 (Kh c6.F f TS uL uS);let U4:=W.c4 fV (Ga fV.F U2 U3);let U5:=W.c1 dH (Di dH.F T);let U6:=W.c2 iC (Kl iC.F Q4 U1 U4 U5);let U7:=W.c1 fX (Kj fX.F T n_reversed);let TA:TxtA mg dD qL:={TO with g_TooMany:=DB};let U8:CalD l.e w K mg base 14 "all_least" _ (Jz dD TT bZ bY iK) iE _:=#[ok_all lN TA m5 i cp Q1 U6 U7,zH,yA,ik];let N1:=W.c1 (sp:=(xH K)) iA (Gi iA.F T Gc);let TV:TxtR mg:={T with n_reversed:=n_reversed};let N2:=W.c2 mL (Kf mL.F TV ML MS f TS MW i);exact ok_law a5 TA gK (λc d=>by rw[d];exact cA) Gc N1 N2 U8 xr
theorem walk{l:Po}{q:fI}{Q:E ff}{N:(ff->ii eK)->fc->Prop}{A:hx->fc->Prop}{d:DefRec}{K:Params->Ln}(y:l.most=some 63)(p:d.params.defaults=[])(b:∀(w:hx)(h:fc),A w h->(K w.params).In h)(ef:((PyProof.Rows.recsOf q).find? (λe=>e.name == ("fares" : ff))).isSome=i0)(F:∀(w:hx)(mg:ff->ii eK)(J:eN)(h:fc),(K w.params).In h->h.Ns P9 mg->mg d.name=some (.ref J) ->
   ∃ fd:fk,(∀(s:e9)(u:eK),BindsTo s fd #[[u],[]] [("script",u)])/\∃ c T,NH (K w.params) "fares"=Z (c,T)/\(K w.params).Z T=kf/\∀ base:fc,(K w.params).In base->base.Ns P9 mg->Nw base c T->Bm mg base->FnOk l.e w (K w.params) mg base CX0 16 J fd ["script"] (zZ (K w.params) T)):
  PySem.W.WalkO q Q N A l.row.toRowW d [] (λf vs=>PySem.call f vs) :=
 L2.walk_ofT (n:=63) (k:=16) (x:="script") (CX:=CX0) (sp:=λK T=>zZ K T) y ∅ p #[18,by decide] b (ii.some_get ef).Y F (λ_ _ _ a L C Y I=>#[a,L,U,I,C,.inl Y,λ_=>rfl]) λ_ _ _ _ z=>z
end K8
local macro_rules|`(command|universe $xs*)=>do return Lean.mkNullNode (←xs.mapM λx=>`(command|def $(Lean.mkIdent (.mkSimple s!"tw{x.getId.toString.drop 1}")):ident:=R))
namespace PySem.W.Fast
universe a2009101738415036960 a7770482600234610434 a907031824531261827 a11030508077139983492 a14154425517117111461 a2056429120315715718 a10865804048414880998 a4571258521960082506 a10790752680782461578 a5061948581636396268 a14935513266315050220 a13950629459209888076 a13938391533158186126 a7688728089458388974 a15663217236592389167 a18215978211713880047 a12844434791029021104 a10105461468429732786 a9818691723361482867 a6675223163987298778 a301993018686112603 a7627224860271391871 a16373981835001098592 a13277690559050314208 a17637406159614368288 a1767596939225161280 a10808831977872049760 a14540495725720488704 a2696562639988409184 a4650253836609650592 a4990131864078667777 a6899458504224728065 a8593919136304702497 a9663073437399096449 a1378127162260953281 a2598028192154186017 a9328047123455652161 a7866842422267644513 a3916376723838189313 a18394291629597574945 a12634440770429080642 a3584257633876524386 a3624620906251034050 a10367382808230504930 a11485563609447932482 a4903703000646221410 a15399706112153261954 a7055785242670490530 a17186202246632556514 a16225908580188159011 a11405448209812542595 a4673326494671718595 a12951110389351517507 a3436502596994436483 a6781304313155885443 a10071452205625176451 a3735415156401708515 a3486222019120655107 a8622091522412989251 a3073997498422945603 a15891478144960978819 a2824738588438287299 a15828423487217815588 a11894941990840787332 a3300196496342637988 a9233666654218599876 a3758921577355518500 a3920812854154901124 a8314271823048074916 a17729167898773198532 a18366617760744868580 a16236568863683043268 a17672721922509555909 a13000935443400091941 a7171782487252258437 a3692815523312198309 a18432936757413385061 a11200255767902195621 a17388068313458967654 a14029250607084050822 a2413346179328595398 a13555905718157817286 a6390931482142727654 a4792077683254531558 a15636996828356220518 a5954377869015178854 a9680917774822940358 a3262346058299746118 a1691785780449823815 a1777778282486924487 a14393941851047642439 a17355628150357416295 a880741260771067431 a2158202036233101063 a7232264175926657831 a3348947989576338279 a15055948650886940551 a10698649169594039239 a10456236276198746184 a16476122108489687144 a10417672454725726376 a11207827097128174920 a5935579756639363432 a1054444873413727656 a18399358466390018664 a358146122186667624 a6656623227212815016 a14033026363286892456 a14905017076950662056 a16800901588977307592 a12860716099737983976 a7291006861750740201 a1469806683376668969 a8271095904839924041 a869133250303691145 a1690244175301343721 a15415993646888957449 a4620588536997307913 a1578874759295868489 a8835901619920645769 a3561890294062791529 a16339340018567489802 a1719505861577714954 a12496865035749285130 a15848590568224699690 a3094226968022239562 a2699061865436972426 a8528956829943977578 a1500921643334854538 a10275900179326008234 a12628567717607670891 a4792916558087527691 a17176724744145844555 a12945992633811188075 a4714298525990666795 a7318772114899458795 a10498384959227636619 a679529924141188075 a2837766444134648844 a1778274306795507852 a1818867523492640940 a1454134506308217452 a8816534823765868204 a2958648614269781740 a5824797694959880044 a2421832296613173100 a5207615788412906509 a13990385601714254957 a5719653769244616845 a3083966965949866189 a1910462225447343533 a1988015317456084493 a15760742721059745773 a8189783302497385453 a11359313615720213550 a1170939335008497774 a17698659929040152782 a4908969762293945678 a9209393305192219054 a3034895709612821934 a11569293137253928398 a6845602830405373390 a2871418528478169646 a12562340463667911278 a6507198165431171790 a16786083512186992398 a507882477162007502 a10409145451591427022 a7135333352553995246 a6702876492912682031 a3945260005854519407 a8437656629541029007 a505758460956515567 a5105790112684749039 a330676864758001903 a12067589935057308047 a5772322391117846991 a17719157889352380879 a404072232865012207 a4502299811931008591 a10030549496435329647 a6240917579467674223 a16663404427321456271 a4616243741091564207 a5233216223697960623 a13823688577560819407 a4009205224606160591 a5589319426695735023 a1640647377418771215 a4498091597091725103 a3705307451499340687 a5606567805078176880 a324490479979281808 a8264582439360697008 a2231961662440918928 a6473310513381922736 a12686225975980235953 a3110921060888658097 a7051761997227808113 a10440212708901158385 a5100954755818383953 a12185248204382721713 a4083505054613944017 a10153092720174478129 a2582824150287187761 a9695451257614469073 a1397839219387326449 a10522291026766840914 a5137463602242905266 a12447108542040742226 a1475796115331007314 a17024050017432297394 a413874809403511859 a2280315847713962067 a7144479121774930099 a13757430652864144595 a7985977662021590387 a915903232114977267 a1488115815411502067 a16748722680539666516 a13235295075328329844 a15660834183113944308 a16166181884257172020 a2572764407706813012 a7898670298333947476 a7456385640847389268 a5411018160770295604 a7339668824226199412 a7483356294931908468 a875221782938020756 a2089047233123470292 a1743408657041955989 a14114599830014673365 a11994028649387880917 a8914052900491944437 a11294968139815413 a16910608938798667317 a15289735156526791317 a6479880289351212054 a16323925216519980086 a6302716396846937174 a11114316001373881910 a432120396895451766 a4960984732213049046 a8522783751709424406 a5333408426812600118 a17415230860281613367 a11088048741368718487 a13476308171831992503 a5322787305896042871 a10812828062531386775 a8253108215417268663 a126913975302076887 a16390302059958936055 a18058714714659742487 a7972058521355854807 a11371465565630631927 a17262900593007957016 a785545857406730520 a13461346852454514968 a7312016263695942936 a13735847702129173112 a15426663006813338392 a79458674921925464 a990053115952491384 a8536113543351052280 a1251457331828949081 a11934759128410591321 a10235815797812552825 a15865051751965449465 a13922824741553139993 a14311633024482571545 a17471259405362289049 a939878927527353849 a6659916780755275353 a1189581683782810393 a13941505214880120601 a15749846233201766490 a3105561339881981114 a3918403679588733242 a3939164377523387802 a571334508181998074 a6066991708103399962 a4733625371602040442 a17480281664703187610 a4862361559826922362 a851364179032032250 a7732026308944524282 a12206466797900988667 a7204120343413263643 a11169025866684608795 a3291931011427489147 a5799803136574995867 a7710441215141837275 a13549826548898698779 a10333820782258082363 a12648875818880465659 a17205116632207146076 a9101547269551759900 a17925127737349035964 a15357375738884872156 a297329489391274045 a12746285765787352157 a11679450495666954397 a18133596953056283837 a2606067400659590621 a7697963520030856765 a16369341505763646077 a4349350997331089021 a7834120091045839517 a12141107383715051261 a11776681529166457629 a6981214050417288093 a2707599537132698750 a17974355750786347166 a2868045222372656350 a5260052699372651870 a5061396269727041982 a5841697996949779038 a287416675336109662 a12812124863903345278 a15803218551523205758 a11055907461933059742 a12061274586475251454 a603033127500656414 a1888087325110858590 a15396336971041675134 a1427771378777494494 a11778739001302701054 a7648192499213073439 a9715164657884155999 a5757150526121236607 a1395184204702111871 a13713869109026193791 a15493577823357315615 a13615852355989128799 a14875401589239994047 a5789861857554652895 a9556760792702925663 a2770878106940620735 a10884298547336262915 a155070858188559162 a3646929729304729612 a2643834097589095828 a414349097010858098 a16358884726109402740 a1162252816490146410 a15994258315402312391 a14295791332678176508 a8674509732094374410 a6499604312840788342 a9054875183469322770 a6732052459036848201 a3009263176142774084 a12099366284197777383 a5496349529107339299 a1240810886955330402 a15862602619833587990 a4251392806185185025 a11538070064370536298 a16019597659749090365 a3034622655749557175 a11787102969328257474 a12565802944149043406 a5979489738435725410 a183561359717663733 a12690110915619958266 a3774844996089231981 a1102466419382497761 a12867083679710758600 a15468883034114280982 a9069677837034585572 a16834869593936186942 a12930282562564306889 a17377855810526313386 a14006978946665336207 a10454850429939679514 a3659390449929804809 a645829582855846316 a6189332087303170117 a10507062590448244036 a3071362124690783406 a8033524047351493083 a6254969216201175014 a15127070343143781185 a8985836223873885664 a17287029463174406987 a8582778523787514886 a2256515883260287019 a11880739015074828732 a18410111152780728937 a142168242664239162 a11400289374027276258 a579659127643269769 a17437705535463868663 a9480176149222568748 a10458762329239563303 a15192069896978868081 a7242577083239832509 a17270189044824469851 a4897951137733178373 a12421114441919891064 a2843169860648054537 a16560095639362223928 a773219365567137312 a15714929526264093443 a8534017109446974012 a11134370823950953704 a225976181027333978 a6291073924357077994 a8363730417847219555 a5098494322428827273 a9777076022010371736 a2451406318429728919 a8877303542278423351 a4479409828059628874 a7724454953749970693 a12460720428382602555 a14689566910094995329 a9190576260203524828 a10163264909644536930 a13592841812901198194 a10404088496867907984 a7012122029101419356 a11513268300057132920 a13741678230893566153 a12261290386708471576 a4965799255022202223 a7407171105327624352 a3918545995337482528 a16664063444299603849 a11041665999915610495 a13354942229384229820 a13627322186961440143 a795548373410147076 a8715029125476317240 a8346564736867873361 a3494138996375024449 a3583492871289052693 a15222080451822244352 a7645764950956870673 a11252925301602175236 a14753131384985746096 a14338716085434310345 a5454306847247296731 a10385471125548772910 a14833974854381871344 a1088247430706115416 a16639767724544297823 a14361314017902435068 a15527488354486534229 a9647067611984413337 a12930975415893202906 a3888264923891191264 a2982674338485319603 a2908978874008155223 a9562861788133009023 a1865466896877399405 a2546299746749986406 a1201061951850081322 a15538990088289429147 a13477358694726777714 a15692197721166883674 a15912784177109265300 a7921878134885450867 a8394184371836232551 a9827326784362134848 a10497539467796804845 a15248550502349193241 a9890124599859269453 a8367734842206669588 a11991514445239032029 a9919135485916192682 a7667615152549965904 a4120748486131130594 a3885348461054021042 a5603483456130536534 a10020775644211337756 a635499818013969510 a15048318116108507483 a3430370486691410280 a7347701713214009094 a2703742461462246003 a1536056534208890421 a10523230185361413876 a17984949342946934809 a6839107644349923046 a788940171684083217 a1851745243837293672 a15351265387449610727 a17760660747281620185 a8546787294369817571 a10551728375616791399 a5205438745718070180 a2269564911583260157 a15736894716087838940 a14267485969605514551 a5199939191163388890 a4711627014336391570 a2927578397203369797 a1289497989875532046 a1666124801313998676 a7689844671969833131 a1377146398164390384 a7930478599897573558 a163921274044837719 a6588815362500076188 a369808809194948131 a14406626587331648115 a2819856824632180586 a6097241581935252672 a2782290387835290567 a16389315486727931229 a2233244155901713527 a9185368013095805368 a11209937257135708394 a4869547319283434203 a12668948544162182511 a5409975609019795301 a11679651130777302415 a1861320219292258144 a16465310275143394310 a3254292050089455491 a16091785500198994832 a10734064929382451034 a11046321767642504908 a10549355851334971890 a8145969520631357519 a5395415761073917308 a16295442076825299448 a11103061728440828905 a6796346979622559396 a1143113488397273485 a17134219197528764163 a3659754966521269934 a4084881607256563520 a11603223408750667985 a12823792437885200995 a8732352564814651445 a17112981382201658349 a9995722814544287138 a2503192480500004965 a6801154981507554620 a18277949635716299441 a11589471717898777871 a4756223739419979214 a10153697349164482640 a1016185402591517692 a14515277967102728284 a1563905760993762160 a14979016867957871829 a10136661216161218748 a4979374859621398664 a16998807975163266715 a7100544012119073034 a16600387031163942087 a9765025122593534376 a16174815143538872457 a3058868670604127172 a17631364356042720858 a662575950565807927 a17673449893855216244 a6129554844186410361 a12312787397229669727 a15680633522352190037 a2314712775535774178 a1162568046845138334 a9803191461048925030 a13159622716814472378 a12468914108692806258 a14572616382327216814 a12916151993950196903 a4996541640781504564 a5404581985302882778 a1899799554510565916 a6577937178133120388 a8309010884642061385 a7041827817694969201 a11055317305596557757 a12930409497120841399 a17570498023446279511 a10170073252465000765 a5954759649594168085 a2886769180277734250 a15813253795603199075 a176413238892851601 a4094139540532833060 a187120396152915051 a5480058452526105313 a5802549236497621535 a15770286324349730795 a7802137386837549059 a5490568271057758994 a12150206054099314247 a17724961721391758665 a12028484914439825131 a17389557959813594140 a1005126102270030698 a3431094445212584379 a15441795092229528390
end PySem.W.Fast
open PySem PySem.W PyProof.Rows
set_option maxRecDepth 100000 in
set_option maxHeartbeats 0 in
theorem PySem.Challenge.cw_spinfloor_k76_fans_just_rough_enough_holds : PySem.Challenge.rw_spinfloor_k76_fans_just_rough_enough.Holds := by
 w_on;o_law;k_head;(case hw=>w_witness2);k_fill;refine K8.walk (l:=PySem.Challenge.rw_spinfloor_k76_fans_just_rough_enough) rfl rfl (λw h Y=>PySem.W.km_in_of Y) ?R ?F;(case R=>kernel_rfl)
 case F =>
  intro w mg fa h KX G hmg;refine' K8.all_mk KX G hmg ?lM ?nM ?zO ?zN ?Fd ?jq ?jo ?gp ?dw ?jn ?jj ?gn ?du ?lr ?AB ?Az ?GX ?gE ?mJ ?o7 ?kd ?oU ?uf ?dJ ?iB ?aZ ?iy ?oX ?mI ?mM ?iw ?oW ?oY ?fU ?eQ ?iz ?eX ?j8 ?kj ?ir ?mO ?oZ ?uh ?ka ?j9 ?ug ?fR ?eU ?cZ ?dM ?j6 ?c6 ?j4 ?fV ?dH ?iC ?fX ?AA ?mK ?ko ?fT ?iu ?j7 ?eR ?dI ?cY ?kh ?iA ?mL ?qH ?tU ?zF ?tV ?uZ ?tS ?pS ?uQ ?oQ ?lL ?ly ?jt ?lH ?ik ?jy ?jJ ?jA ?fQ ?nE ?nK ?jZ ?nG ?fF ?fJ ?cf ?cX ?jx ?jI ?dS ?fP ?lA ?lK ?iq ?lB ?jv ?jH ?jz ?jB ?Hv ?Ky ?Lb ?KA ?gK ?cA ?m5 ?yg ?yG ?yd ?xU ?yw ?yD ?lj ?lh ?eh ?yf ?yF ?yc ?xR ?yu ?yC ?lg ?k7 ?d8 ?CU ?D4 ?CM ?CC ?Dx ?DM ?kZ ?kY ?jd ?ig ?jh ?yH ?yI ?IX ?IY ?B0 ?BY ?xy ?xA ?kG ?iU ?IV ?IT ?rM ?IW ?IS ?IZ ?BZ ?mY ?IU ?tbc ?tbl ?tbv ?tbn;(case lM|nM|zO|zN|Fd|jq|jo|gp|dw|jn|jj|gn|du|lr=>k_is)
  (case AB|Az|GX|gE|mJ|o7|kd|oU|uf|dJ|iB|aZ|iy|oX|mI|mM|iw|oW|oY|fU|eQ|iz|eX|j8|kj|ir|mO|oZ|uh|ka|j9|ug|fR|eU|cZ|dM|j6|c6|j4|fV|dH|iC|fX|AA|mK|ko|fT|iu|j7|eR|dI|cY|kh|iA|mL=>refine' ⟨?ja,L2.fun_mk ?jl ?jc ?jk⟩;(case ja=>k_is);(case jl=>k_is);(case jc=>k_is);(case jk=>k_is));(case qH|tU|zF|tV|uZ|tS|pS|uQ|oQ|lL|ly|jt|lH|ik|jy|jJ|jA|fQ|nE|nK|jZ|nG|fF|fJ|cf|cX|jx|jI|dS|fP|lA|lK|iq|lB|jv|jH|jz|jB|Hv|Ky|Lb|KA=>k_is)
  (case gK=>k_exc);(case cA=>k_is);(case m5=>k_exc);(case yg|yG|yd|xU|yw|yD|lj|lh|eh|yf|yF|yc|xR|yu|yC|lg|k7|d8|CU|D4|CM|CC|Dx|DM|kZ|kY|jd|ig|jh|yH|yI|IX|IY|B0|BY|xy|xA|kG|iU|IV|IT|rM|IW|IS|IZ|BZ|mY|IU=>k_is)
  (case tbc=>rfl);(case tbl=>k_is);(case tbv=>rfl);(case tbn=>kernel_rfl)
