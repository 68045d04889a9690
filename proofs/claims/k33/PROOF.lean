import PyProof.Rows.All
import Wide.All
import OpenK.AllK
import Wide.FinOn
import Lean
import PyProof.EqAt
import PyProof.EqKinds
import PyProof.TupleCall
import PySem.Challenge.RW_spinfloor_k33_whole_least_laying
open PyProof.Rows renaming callWith_type1->QZ, kindOf->Rf, IntsAre->Rk, seqObj->RE, get?_update_seq->RF
open PyProof.Rows.F renaming plain_set_update_loop->RW
open PyProof.Rows.LCg renaming lst->Rt
open PySem renaming sizeLine->QG, mainGlobals->QI, bootBuiltins->QJ, starEach->QM, wpAny_mono->QN, compareOp->QO, wpAny_truthy_bool->QP, assignEach->QR, wpAny_bind->QS, wpAny_holding->QT, wpAny_passesOwn->QU, wpAny_pure->QV, foldedSetIterable->Q0, binaryOp->Q3, codeAny->Q7, codeAny_mono->Rb, wpAny_Call_Name_kw->Rc, wpAny_specialOf->Rm, wpAny_ite_split->Rp, wpAny_isInstance->Rq, wpAny_newObj_type->Ru, wpAny_call_entry->Rv, wpAny_callSpecial?_slot->Rx, wpAny_typeNameOfWhole_itemiter->Ry, wpAny_isOneOf_itemiter->RA, wpAny_setField_rec->RB, wpAny_letGo->RD, wpAny_newList->RG, codeAny_builtin->RI, wpAny_seqItems->RK, wpAny_tryCatch->RL, updateSeq->RN, wpAny_updateSeq->RO, plainId_quiet->RP, wpAny_setState_of->RU, wpAny_askSetting->RY
open PySem.Around renaming under_plainId->RJ
open PySem.Builtin renaming bitAnd->Q4, bitOr->Q5, bitXor->Q6
open PySem.Builtin.Builtins renaming bindParams->RQ
open PySem.Builtin.Dict_items renaming ownsTuple->Rw, pairFromOwner->RC
open PySem.Builtin.List renaming listLengthHint->Ro, listExtendWith->RZ, listSameRef->R0, listItems->R4
open PySem.Builtin.Range renaming rangeSize->QY
open PySem.Calls renaming spliced_nil->Q9, spliced_cons->Ra, callWith_builtin->Rj
open PySem.Heap renaming lt_size->QH, get?_none_of_le->QK, SameBut->QL, get?_push_of_some->QW, get?_push_size->QX, size_push->Q8, get?_update_self->Rh, get?_update_other->Ri, size_update->RH
open PySem.Heap.SameBut renaming update->Rz
open PySem.Obj renaming mapSeq->Rg
open PySem.PyData renaming depth->Rr
open PySem.SetTable renaming below->RT, grown->RV
open Array renaming length_toList->L9, getElem?_toList->MQ, getElem?_eq_getElem->Nu, getD_eq_getD_getElem?->OR, getElem?_eq_some_iff->OS, toList_push->PX, getD->PY, perm_iff_toList_perm->Qm
open Bool renaming false_ne_true->LZ, true_and->Mq, xor_false->MA, false_and->MO, false_eq_true->Nf, or_eq_true->NF, xor_comm->Oc, and_false->Oe, eq_iff_iff->Oq, and_eq_true->OE, xor_self->OI, xor_assoc->OY, not_true->O7, false_xor->Pt, noConfusion->Qd, or_false->QE
open Int renaming toNat_natCast->Lv, le_refl->MD, zero_add->MP, emod_lt_of_pos->Nx, toNat_of_nonneg->ND, emod_nonneg->NN, natCast_nonneg->NT, le_antisymm->OQ, le_trans->P5, fdiv_eq_ediv_of_nonneg->Ql
open Int.ofNat renaming inj->OH
open List renaming getElem?_eq_getElem->Ll, getElem?_eq_some_iff->Lm, mem_of_getElem?->Ln, length_map->Lp, getElem?_append_right->Lr, getElem?_append_left->Ls, mem_cons_of_mem->Lu, length_append->Lx, mem_cons_self->Ly, mem_cons->Lz, getElem?_map->LA, getD_eq_getElem?_getD->LB, map_append->LC, replicate->LD, nodup_cons->LF, mem_append->LG, take_add_one->LK, take_length->LP, length_singleton->LR, nodup_append->LV, mem_map->LW, map_cons->LX, mem_singleton->LY, mem_append_right->Ma, range->Mg, mem_append_left->Mi, size_toArray->Mn, mem_flatten->Mo, mem_iff_getElem?->Mp, getElem_of_mem->Mt, getElem?_of_mem->Mx, mem_range->Mz, flatten_cons->ME, perm_ext_iff_of_nodup->MF, length_cons->MG, getElem?_set->MH, getElem?_eq_none->MI, flatten_append->MN, getElem_mem->MT, pairwise_iff_getElem->MV, map_congr_left->M7, length_take->M9, length_range->Na, getElem?_replicate->Nb, map_map->Nd, length_set->Nk, length_pos_of_mem->Nm, nodup_nil->Nt, mem_filter->Nv, filter_append->Nw, not_mem_nil->Ny, take_of_length_le->NH, erase_cons_head->NJ, range_succ->NM, filter_cons_of_pos->NP, pairwise_cons->NS, take_append_drop->NW, sum_append->NX, length_nil->NY, length_filter_le->NZ, find?_cons->Oa, replicate_succ'->Od, filter_cons->Og, sum_cons->Ol, length_eq_zero_iff->Om, filter_cons_of_neg->Oo, pairwise_map->Ox, append_assoc->Oy, length_replicate->OA, eq_nil_of_length_eq_zero->OC, all_eq_true->OD, perm_cons_erase->OG, length_reverse->ON, idxOf_lt_length_of_mem->OO, append_nil->OP, append_of_mem->OV, mem_or_eq_of_mem_set->OW, getElem?_zip_eq_some->OX, idxOf_lt_length_iff->O2, foldl_append->O3, lookup->O6, flatten_singleton->O9, of_mem_zip->Pe, mem_of_mem_erase->Pg, getElem?_reverse->Ph, mem_of_mem_take->Pk, mem_of_mem_drop->Pm, getElem?_set_ne->Po, length_pos_iff->PB, getElem?_range->PD, filterMap_cons->PF, mem_filterMap->PK, getElem?_drop->PM, ext_getElem?->PV, length_drop->P8, isEmpty_nil->P9, ext_getElem->Qa, cons_append->Qb, any_eq_true->Qc, dropLast_concat_getLast->Qe, foldl_cons->Qi, length_eraseIdx_of_lt->Qk, drop_eq_getElem_cons->Qr, length_erase_of_mem->Qt, map_take->QC, map_drop->QD
open Nat renaming le_refl->Lq, le_of_lt->LN, ne_of_lt->LQ, testBit_two_pow->LU, lt_of_lt_of_le->Mb, sub_self->Mf, zero_le->Mh, eq_of_testBit_eq->Ml, pow_lt_pow_right->Mv, pow_le_pow_right->Mw, testBit_xor->My, le_trans->MB, xor_assoc->MC, testBit_or->MJ, not_lt_zero->MR, lt_pow_two_of_testBit->MU, xor_lt_two_pow->MX, ne_of_gt->MZ, two_pow_pos->Ng, zero_testBit->Nh, mod_eq_of_lt->Ni, lt_succ_of_lt->Nj, lt_succ_self->Nl, lt_irrefl->Nr, lt_trans->NI, testBit_and->NL, xor_self->NO, le_succ->NV, le_add_right->Of, testBit_eq_decide_div_mod_eq->Ot, testBit_lt_two_pow->Ou, testBit->Ow, zero_add->Oz, le_of_not_lt->OB, mod_lt->OJ, testBit_two_pow_sub_one->OM, xor_zero->OT, xor_comm->OU, not_lt_of_le->O8, strongRecOn->Pc, min_eq_left->Pd, mul_le_mul_right->Pj, sub_add_eq->Pq, lt_of_le_of_lt->PH, add_sub_cancel->PJ, or_lt_two_pow->PR, le_succ_of_le->PU, mod_self->PZ, le_of_eq->P2, add_comm->P4, div_eq_of_lt->P7, testBit_div_two_pow->QB
open Option renaming map_eq_some_iff->LL, isSome_iff_exists->O1
open Option.some renaming inj->Me
open PySem renaming Spec->LJ, mem_of_lookup->NC, mem_getD->Qn, getD_mem->Qo, frameOf->Qu
open PySem.F renaming plainAttrs_list->LH, type_list_append->Mc, slot_list_append->Md, plain_min_loop->Mr, plain_extend_loop->Nq, entry_min_loop->NG, type_list_index->Oi, slot_list_index->Oj, type_list_insert->OZ, slot_list_insert->O0, plainAttrs_dict->O5, slot_dict_get->Pb, excBase_ValueError->Qj, args_list_init_2->Qs, typeCall_list_1->Qx, slot_dict_items->Qy, entry_list_init->Qz, args_dict_get_3->QA
open PySem.W renaming Frag->Lo, findIn->LS, nsIn->Mj, mg_none_of->Mm, keepIn->Mu, kia_one->MY, kitOne->M8, fnOf->Nc, emptyDict->Nn, codeIn->Np, mroIn->Nz, mg_of->NA, hasDictIn->NB, instObj->NK, plainGet->NQ, CodeHd->NR, isFn->NU, tabIn->Ob, callWith_K->Oh, plainOver->Ov, looks_findIn->OF, makesIn->OL, Looks->O4, kla_obj->Pa, lookIn->Pp, plainGet_of->Px, looks_mroIn->Py, hideAll_get->Pz, specialIn->PN, methodObj->PQ, any_some->P6, takesIn->Qf, takerIn->Qg, OpenLaw->Qh, tabObj->Qp, notCls->Qq, excIn->Qv, clsIn->Qw
open _root_ renaming autoParam->uP_
open Std.Slice renaming Self.eq._autoParam->uR_
open Rat renaming den_nz._autoParam->uD_
open _root_ renaming Nat->R, List->E, Int->G
set_option Elab.async false
set_option linter.all false
set_option compiler.extract_closed false
set_option bootstrap.genMatcherCode false
set_option genSizeOf false
set_option maxRecDepth 100000
local macro_rules | `(tactic| lia) => `(tactic| first | assumption | lia (splits:=9) | omega +splitDisjunctions)
local macro_rules | `(tactic| ac_rfl) => `(tactic| omega +splitDisjunctions)
local macro_rules | `(tactic| ac_nf) => `(tactic| exact ⟨rfl,rfl,rfl,by decide +kernel,rfl,by decide +kernel,by decide +kernel⟩)
local macro_rules | `(tactic| decide) => `(tactic| decide +kernel)
local macro_rules | `(∅) => `(by first|decide|lia)
local macro_rules | `(tactic| walk_at "cc") => `(tactic| first | exact ⟨by decide, by decide⟩ | (show (0 : G) < _; decide) | (show (0 : G) < _; lia) | (show (0 : G) ≤ _; lia) | exact ⟨by decide, by decide, by decide⟩ | exact ⟨by lia, by lia, by decide⟩ | exact Or.inl ⟨by decide, by decide⟩ | exact Or.inl ⟨by lia, by lia⟩)
local macro_rules | `(tactic| walk_at "rd") => `(tactic| repeat (first | refine ⟨_, rfl, ?_⟩ | (refine ⟨_, _, rfl, rfl, ?cc, ?_⟩; (case cc => walk_at "cc")) | refine ⟨_, _, rfl, rfl, ?_⟩ | refine ⟨rfl, ?_⟩ | (refine ⟨?cc, ?_⟩; (case cc => walk_at "cc"))))
local macro_rules | `(tactic| walk_at "l") => `(tactic| (intro _ _ _ _ h; first | (cases h; subst_vars; rfl) | repeat (first | (obtain ⟨e, _⟩ := h; subst e; rfl) | obtain ⟨_, h⟩ := h)))
def hA(a:Array Lean.Syntax):Lean.MacroM (Array Lean.Term):=do
 let mut r:=#[]
 for e in a do
  match e.isNatLit? with
  |some n=>
   if e[0].getAtomVal.startsWith "0" then r:=r.push ⟨e⟩
   else
    let mut n:=n
    while n>0 do
     r:=r.push (←match (n-1)%4 with|0=>`(_)|1=>`($(Lean.mkIdent `U))|2=>`(?_)|_=>`(∅))
     n:=(n-1)/4
  |_=>r:=r.push ⟨e⟩
 return r
local macro_rules(kind:=«term{_}»)|`({$x,$y})=>`({$x with heap:=$y})
local macro_rules|`(tactic|simp!)=>`(tactic|simp_all)
def hB(r:Bool):Lean.Name->Lean.Name|.str p s=>if r||!p.isAnonymous then .str (hB r p) (match s with|"L"=>"length"|"H"=>"heap"|"J"=>"size"|"M"=>"objs"|"O"=>"testBit"|"Q"=>"trans"|"R"=>"get?"|"U"=>"toNat"|"X"=>"extBut"|"Y"=>"symm"|"Z"=>"lookup"|"h"=>"map"|"l"=>"Nodup"|"n"=>"toList"|"o"=>"push"|"e"=>"prog"|"i"=>"env"|"j"=>"take"|"x"=>"reverse"|"y"=>"Pairwise"|"f"=>"getD"|"v"=>"toks"|_=>s) else .str p s|n=>n
def hC(k:Nat)(x:Lean.Syntax):Lean.Syntax:=if x.isIdent then let n:=hB false x.getId;if n==x.getId then x else Lean.mkIdentFrom x n else if x.isOfKind `Lean.Parser.Term.proj then match k with|0=>x|k+1=>let n:=hB true x[2].getId;(x.setArg 0 (hC k x[0])).setArg 2 (if n==x[2].getId then x[2] else Lean.mkIdentFrom x[2] n) else x
def hD(x:Lean.Syntax):Lean.MacroM Lean.Term:=let i n:=Lean.mkIdent n;match x.getId with|`k9=>`($(i `FnOk) $(i `P) $(i `w) $(i `K) $(i `mg) $(i `base) $(i `CX0))|`lc=>`($(i `Cal) $(i `P) $(i `w) $(i `K) $(i `mg) $(i `base))|`lf=>`($(i `wpAny) ($(i `model) $(i `X.prog) $(i `X.w)) $(i `X.A))|`li=>`($(i `wpAny) ($(i `model) $(i `prog) $(i `w)))|`mi=>`($(i `Inv) $(i `X) $(i `pins))|`mj=>`($(i `bo) $(i `PassesOwn.never) $(i `U))|`mo=>`($(i `E) ($(i `E) $(i `R)))|`mu=>`($(i `Same) $(i `H))|`na=>`($(i `SqL) $(i `K) $(i `H))|`nv=>`($(i `Inv) $(i `X) $(i `B))|_=>do let y:=hC 99 x;if y==x then Lean.Macro.throwUnsupported else return ⟨y⟩
local macro_rules
 |`($x:ident)=>hD x
 |`($e.$x:ident)=>do let y←`($e.$x:ident);hD y
 |`($f $a*)=>do
  match ←hD f with
  |`($g $b*)=>`($g $b* $a*)
  |g=>`($g $a*)
def hP(k:Nat)(e:Lean.Syntax):Lean.MacroM (Lean.TSyntax `rcasesPat):=do
 if e.isIdent then `(rcasesPat|$(⟨e⟩):ident)
 else if e.isOfKind `Lean.Parser.Term.hole then `(rcasesPat|_)
 else if e.isOfKind `Lean.Parser.Term.anonymousCtor then
  match k with
  |0=>Lean.Macro.throwUnsupported
  |k+1=>
   let q←e[1].getSepArgs.mapM (hP k)
   `(rcasesPat|⟨$[$q],*⟩)
 else Lean.Macro.throwUnsupported
def hG:Nat->Nat->Bool
 |k+1,n+1=>n%4==2||hG k (n/4)
 |_,_=>false
def hQ(k:Nat)(e:Lean.Syntax):Bool:=e.isOfKind `Lean.Parser.Term.syntheticHole||(match e.isNatLit? with|some n=>hG 999 n|_=>match k with|0=>false|k+1=>e.getArgs.any (hQ k))
local macro_rules|`(λ$xs* =>$b)=>do
 unless xs.any (·.raw.isOfKind `Lean.Parser.Term.anonymousCtor)&&!hQ 999 b do Lean.Macro.throwUnsupported
 let q←xs.mapM λx=>do `(rintroPat|$(←hP 99 x):rcasesPat)
 `(by rintro $q*;exact $b)
local macro_rules
 |`(tactic|let $c:letConfig $d:letDecl)=>do
  let z:=d.raw[0]
  unless z.isOfKind ``Lean.Parser.Term.letIdDecl do Lean.Macro.throwUnsupported
  if z[1].getNumArgs==0 then return ←`(tactic|have $c:letConfig $d:letDecl)
  let f(e:Lean.Syntax):Lean.MacroM (Lean.TSyntax `rcasesPat):=if e.isIdent then `(rcasesPat|$(⟨e⟩):ident) else `(rcasesPat|_)
  let mut p:=#[]
  for b in #[z[0][0]]++z[1].getArgs do
   if b.isOfKind ``Lean.Parser.Term.implicitBinder then
    let q←b[1].getArgs.mapM f
    p:=p.push (←`(rcasesPat|⟨$[$q],*⟩))
   else unless b.isOfKind `hygieneInfo do p:=p.push (←f b)
  if z[2].getNumArgs==0 then `(tactic|obtain ⟨$[$p],*⟩:=$(⟨z[4]⟩):term) else `(tactic|obtain ⟨$[$p],*⟩:$(⟨z[2][0][1]⟩):term:=$(⟨z[4]⟩):term)
local macro_rules|`(tactic|erw[$r,*])=>do
  `(tactic|refine ⟨$[$(←hA (r.getElems.map λe=>e.raw[1]))],*⟩)
theorem QF{p:Prop}[Decidable p](h:¬p):decide p=false:=decide_eq_false h
theorem Rl{p:Prop}[Decidable p](h:p):decide p=true:=decide_eq_true h
theorem RS{p:Prop}[Decidable p](h:decide p=true):p:=of_decide_eq_true h
theorem R5.{u}{c:Prop}{h:Decidable c}(T:c){α:Sort u}{t e:α}:ite c t e=t:=if_pos T
theorem R6.{u}{c:Prop}{h:Decidable c}(T:¬c){α:Sort u}{t e:α}:ite c t e=e:=if_neg T
theorem R7{a b:Prop}(h:a)(g:¬a):b:=absurd h g
open PySem (Addr Around CmpOp Env Expr FuncData Heap Obj Pos Program Result Scope Sem Shared Stmt Str Value World)
variable{C I PL a f f1 f2 it p q tb tp va wd:Addr}{A:Around}{op:CmpOp}{env:Env}{eK fd:FuncData}{base h h':Heap}{O:E (Addr×Obj)}{rs ts:E (E R)}{kv sd:E (R×R)}{T:E (Option G)}{Y:E (Option R)}{fr:E (Str×R)}{ch fp:E Addr}{outer:E Env}{ns ord:E G}{B W ks l l' ps r':E R}{its us vs:E Value}{K:Lo}{L M N ep i j m mk n t' tk:R}{F J Pl:R->Bool}{D:R->R->G}{ex ex':R->R->Prop}{e:R×R}{o ob:Obj}{pos:Pos}{P:Program}{ad:Result->Shared->Prop}{scope:Scope}{pl:Sem Bool}{s s':Shared}{x:Str}{mg:Str->Option Value}{α:Type}{u:Value}{eg Q:Value->Shared->Prop}{w:World}
theorem U.{u}{α:Sort u}{a:α}:a=a:=rfl
open Option renaming some->Z
inductive Ex2{α β:Sort _}(p:α->β->Prop):Prop|mk a b:p a b->Ex2 p
inductive Ex3{α β γ:Sort _}(p:α->β->γ->Prop):Prop|mk a b c:p a b c->Ex3 p
inductive Ex4{α β γ δ:Sort _}(p:α->β->γ->δ->Prop):Prop|mk a b c d:p a b c d->Ex4 p
inductive Ex5{α β γ δ ε:Sort _}(p:α->β->γ->δ->ε->Prop):Prop|mk a b c d e:p a b c d e->Ex5 p
inductive Ex6{α β γ δ ε ζ:Sort _}(p:α->β->γ->δ->ε->ζ->Prop):Prop|mk a b c d e f:p a b c d e f->Ex6 p
inductive An3(a b c:Prop):Prop|mk:a->b->c->An3 a b c
inductive An4(a b c d:Prop):Prop|mk:a->b->c->d->An4 a b c d
inductive An5(a b c d e:Prop):Prop|mk:a->b->c->d->e->An5 a b c d e
inductive An6(a b c d e f:Prop):Prop|mk:a->b->c->d->e->f->An6 a b c d e f
inductive An7(a b c d e f g:Prop):Prop|mk:a->b->c->d->e->f->g->An7 a b c d e f g
local macro_rules|`(∃$xs:explicitBinders,$b)=>do
 let x:=xs.raw[0]
 let mut v:=#[]
 if x.isOfKind `Lean.unbracketedExplicitBinders then
  for i in x[0].getArgs do v:=v.push (i[0],x[1][1])
 else
  for z in x.getArgs do
   for i in z[1].getArgs do v:=v.push (i[0],z[3])
 let mut c:Array Lean.Term:=#[]
 let mut e:Lean.Term:=b
 while true do
  match e with
  |`($p∧$q)=>c:=c.push p;e:=q
  |_=>break
 if v.size<2&&c.size<2 then Lean.Macro.throwUnsupported
 while c.size>0 do
  let a:=(c.extract (c.size-6) c.size).push e
  c:=c.extract 0 (c.size-6)
  e←if a.size<3 then `($(a[0]!)∧$e) else `($(Lean.mkIdent (.mkSimple s!"An{a.size}")) $a*)
 while v.size>0 do
  let g:=v.extract (v.size-6) v.size
  v:=v.extract 0 (v.size-6)
  let f←g.mapM λ(i,t)=>do
   let i←if i.isIdent then pure ⟨i⟩ else `(_)
   if t.isMissing then `(Lean.Parser.Term.funBinder|$i:term) else `(Lean.Parser.Term.funBinder|($i:term:$(⟨t⟩)))
  e←`($(if g.size<2 then Lean.mkIdent `Exists else Lean.mkIdent (.mkSimple s!"Ex{g.size}")) λ$f*=>$e)
 return e
def hS(x:Lean.Syntax):Lean.Syntax:=Id.run<|x.rewriteBottomUp (·.setInfo .none)
local macro_rules|`($x:declaration)=>do
 let d:=x.raw[1]
 unless x.raw[0].getArgs.all (·.getNumArgs==0) do Lean.Macro.throwUnsupported
 if d.isOfKind `Lean.Parser.Command.definition||d.isOfKind `Lean.Parser.Command.abbrev then
  if d.isOfKind `Lean.Parser.Command.definition&&d[3][1].isOfKind `Lean.Parser.Term.byTactic then
   let t:=(←`(theorem x:True:=x)).raw[1]
   return hS (x.raw.setArg 1 (t.setArgs #[t[0],d[1],d[2].setArg 1 d[2][1][0],d[3]]))
  return hS (x.raw.setArg 0 (←`(noncomputable def x:=1)).raw[0])
 if d.isOfKind `Lean.Parser.Command.theorem&&x.raw.getPos?.isSome&&!(d[1][0].getId.getRoot==`PySem) then return hS x
 if d.isOfKind `Lean.Parser.Command.inductive&&d[2][1].getNumArgs==0&&d[4].getNumArgs==1 then
  let v n:=Lean.mkIdent n
  let s:=(←`(inductive X($(v `vs):ident:E $(v `L2.V))($(v `H):ident:$(v `L2.Hp))($(v `Q):ident:$(v `L2.VK))(_:$(v `L2.XK)):Prop|mk)).raw[1][2]
  return x.raw.setArg 1 (d.setArg 2 (s.setArg 0 (Lean.mkNullNode (d[2][0].getArgs++s[0].getArgs))))
 Lean.Macro.throwUnsupported
open PySem renaming Value->eN, Addr->e8, Shared->e9, Heap->fc, Str->ff, FuncData->fk, Expr->fm, Stmt->fo, Program->ge, PyData->gi, Env->gI, Obj->hr, Scope->hx, World->ih, Builtin->ii, SetTable->im
open _root_ renaming Option->io, Bool->i0, Array->j5
open Bool renaming true->kf, false->kt
open Option renaming none->k7
namespace L2
open PySem PySem.Spec PyProof.Rows
abbrev Key:=Sum G ff
def rF:Key->eN->i0
 |.inl k,v=>eN.isInt k v
 |.inr x,v=>eN.isStrOf x v
def keyH(w:ih):Key->G
 |.inl k=>hashInt k
 |.inr x=>hashStr w x
theorem bf:∀{k:Key}{v:eN},rF k v=kf->(∃ i t,k=Sum.inl i/\v=eN.int i t)∨(∃ x t,k=Sum.inr x/\v=eN.str x t)
 |.inl i,v,h=>by
  let t e:=eN.isInt_shape (k:=i) (v:=v) h;exact .inl ⟨i,t,U,e⟩
 |.inr x,v,h=>by
  let t e:=eN.isStrOf_shape (x:=x) (v:=v) h;exact .inr ⟨x,t,U,e⟩
def DR(i:G)(t:Tok):rF (.inl i) (.int i t)=kf:=by simp[rF,eN.isInt]
def DQ(x:ff)(t:Tok):rF (.inr x) (.str x t)=kf:=by simp[rF,eN.isStrOf]
def key_ll(a b:G):decide ((Sum.inl a:Key)=Sum.inl b)=(a == b):=by
 by_cases e:a=b
 .subst e;simp
 .simp!
def key_rr(a b:ff):decide ((Sum.inr a:Key)=Sum.inr b)=decide (a=b):=by
 simp!
theorem key_lr(a:G)(b:ff):decide ((Sum.inl a:Key)=Sum.inr b)=kt:=QF (λq=>nomatch q)
theorem key_rl(a:ff)(b:G):decide ((Sum.inr a:Key)=Sum.inl b)=kt:=QF (λq=>nomatch q)
def bM(prog:ge)(w:ih):PySem.KeyKind prog w Key where
 is:=rF
 hash:=keyH w
 inj:=λv a b T M=>by
  rcases bf T with⟨i,t,rfl,rfl⟩|⟨x,t,rfl,rfl⟩
  .rcases bf M with⟨j,u,rfl,e⟩|⟨y,u,rfl,e⟩
   .injection e with C _;rw[C]
   .contradiction
  .rcases bf M with⟨j,u,rfl,e⟩|⟨y,u,rfl,e⟩
   .contradiction
   .injection e with C _;rw[C]
 byValue:=λk v h=>by
  rcases bf h with⟨i,t,rfl,rfl⟩|⟨x,t,rfl,rfl⟩<;>rfl
 pyHash:=λH h=>by
  rcases bf H with⟨i,t,rfl,rfl⟩|⟨x,t,rfl,rfl⟩
  .exact wpAny_pyHash_int h
  .exact wpAny_pyHash_str h
 eqBool:=λeK H h=>by
  rcases bf eK with⟨i,t,rfl,rfl⟩|⟨x,t,rfl,rfl⟩
  .rcases bf H with⟨j,u,rfl,rfl⟩|⟨y,u,rfl,rfl⟩
   .rw[key_ll]at h;exact wpAny_eqBool_int h
   .rw[key_lr]at h;exact SeqAt.EqAt.int_str i t y u _ _ _ _ h
  .rcases bf H with⟨j,u,rfl,rfl⟩|⟨y,u,rfl,rfl⟩
   .rw[key_rl]at h;exact SeqAt.EqAt.str_int x t j u _ _ _ _ h
   .rw[key_rr]at h;exact wpAny_eqBool_str h
 «strs»:=λk x t v h=>by
  rcases bf h with⟨i,u,rfl,e⟩|⟨y,u,rfl,e⟩
  .exact nomatch e
  .injection e with C _;subst C
   cases v<;>rfl
theorem yr(prog:ge)(w:ih)(i:G)(t:Tok):(bM prog w).is (.inl i) (.int i t)=kf:=DR i t
theorem yq(prog:ge)(w:ih)(x:ff)(t:Tok):(bM prog w).is (.inr x) (.str x t)=kf:=DQ x t
inductive V where
 |non|bl (b:i0)|int (i:G)|str (x:ff)|byt (b:j5 UInt8)|flt (b:UInt64)|ref (a:e8)|ty (n:String)
 deriving DecidableEq
def RelV:V->eN->Prop
 |.non,u=>u=eN.none
 |.bl b,u=>u=eN.bool b
 |.int i,u=>∃ t,u=eN.int i t
 |.str x,u=>∃ t,u=eN.str x t
 |.byt b,u=>∃ t,u=eN.bytes b t
 |.flt b,u=>∃ t,u=eN.float b t
 |.ref a,u=>u=eN.ref a
 |.ty n,u=>u=eN.type n
abbrev Vals:E V->E eN->Prop:=Paired RelV
theorem Vals.length{xs:E V}{us:E eN}(r:Vals xs us):xs.L=us.L:=Paired.length r
theorem Vals.get:∀{xs:E V}{us:E eN}{i:R}{x:V},Vals xs us->xs[i]?=Z x->∃ u,us[i]?=Z u/\RelV x u
 |_,_,_,_,.nil,e=>by simp at e
 |_,_,0,_,.cons r _,e=>by simp at e;subst e;erw[9,r]
 |_,_,i+1,x,.cons _ t,e=>by
  let u Y L:=Vals.get (i:=i) (x:=x) t (by simpa using e)
  erw[u,by assumption,L]
theorem Vals.set{x:V}{u:eN}(r:RelV x u):∀{xs:E V}{us:E eN}(i:R),Vals xs us->Vals (xs.set i x) (us.set i u)
 |_,_,_,.nil=>.nil
 |_,_,0,.cons _ t=>.cons r t
 |_,_,i+1,.cons q t=>.cons q (Vals.set r i t)
theorem Vals.append:∀{xs ys:E V}{us g:E eN},Vals xs us->Vals ys g->Vals (xs++ys) (us++g)
 |_,_,_,_,.nil,s=>s
 |_,_,_,_,.cons r t,s=>.cons r (Vals.append t s)
theorem Vals.take:∀{xs:E V}{us:E eN}(n:R),Vals xs us->Vals (xs.j n) (us.j n)
 |_,_,0,_=>.nil
 |_,_,_+1,.nil=>.nil
 |_,_,n+1,.cons r t=>.cons r (Vals.take n t)
theorem Vals.drop:∀{xs:E V}{us:E eN}(n:R),Vals xs us->Vals (xs.drop n) (us.drop n)
 |_,_,0,r=>r
 |_,_,_+1,.nil=>.nil
 |_,_,n+1,.cons _ t=>Vals.drop n t
def RelO:io V->io eN->Prop
 |some v,Z u=>RelV v u
 |none,k7=>True
 |_,_=>False
def KV{a:Type}:E (a×V)->E (a×eN)->Prop:=Paired λ(p:a×V) (q:a×eN)=>p.1=q.1/\RelV p.2 q.2
def kV:Key->V
 |.inl i=>.int i
 |.inr x=>.str x
inductive HO where
  |lst (xs:E V)
  |tup (xs:E V)
  |dK (kvs:E (Key×V))|dT (kvs:E (E Key×V))
  |set (S:G->i0) (n:R)
  |ins (C dx:e8) (fs:E (ff×V))
  |own (x:e8)
  |xd (fs:E (ff×V))
  |met (f x:e8)
  |rng (lo hi:G)
  |frz (o:hr) (u:HO)
  |tbl (ps:j5 eN)
  |ext (φ:fc->Prop)
abbrev Hp:=e8->io HO
def upd(H:Hp)(a:e8)(o:HO):Hp:=λb=>if b=a then Z o else H b
def ag{H:Hp}{o:HO}:upd H a o a=Z o:=by unfold upd;rw[R5 U]
def ar{H:Hp}{b:e8}{o:HO}(h:b≠a):upd H a o b=H b:=by unfold upd;rw[R6 h]
def Bk{H:Hp}{b:e8}{o u:HO}(h:H a=Z o)(h':H b=Z u)(d:o≠u):a≠b:=by
 intro e;subst e;grind
def aF{H:Hp}{b:e8}{o:HO}(h:H a=Z o)(h':H b=k7):a≠b:=by
 grind
section
variable(P:ge)(w:ih)
def bE(H:Hp)(h:fc)(a:e8):HO->Prop
 |.lst J=>J.L<=QG/\∃(g:E eN)(n:R),Vals J g/\h.R a=Z {cls:=.type "list",data:=.seq g.toArray n}
 |.tup J=>J.L<=QG/\∃ g:E eN,Vals J g/\IsTup h a g.toArray
 |.dK m=>m.L<=QG/\(a == sysModules)=kt/\∃ M,KV m M/\h.DictOf (bM P w) a M
 |.dT m=>m.L<=QG/\(a == sysModules)=kt/\∃ J:E (E Key×e8×eN),
   Paired (λ(p:E Key×V) (q:E Key×e8×eN)=>p.1=q.1/\H q.2.1=Z (.tup (p.1.h kV))/\RelV p.2 q.2.2) m J /\
   ∃ o D l,h.R a=Z o/\o.ExactDict/\o.data=.dict D l/\D.n=J.h (entryOfKey (tupleKind (bM P w)))/\(J.h (·.1)).l
 |.set S n=>h.SetOf (intKind P w) a S n
 |.ins C j fs=>H j=Z (.own a)/\fs.L<=1000/\j≠a/\h.R a=Z (NK C j) /\
   ∃ k,h.Ns1 j k/\(∀ f,RelO (fs.Z f) (k f))/\PySem.Within k (fs.h (·.1))
 |.own _=>∃ o,h.R a=Z o
 |.xd fs=>∃ k,h.Ns1 a k/\∀ f,RelO (fs.Z f) (k f)
 |.rng lo B=>∃ t u v,h.R a=Z {cls:=.type "range",data:=.fields #[.int lo t,.int B u,.int 1 v]}
 |.frz o u=>h.R a=Z o/\bE H h a u
 |.tbl T=>h.R a=Z {cls:=.none,data:=.fields T}
 |.met f x=>h.R a=Z (PQ (.ref f) (.ref x))
 |.ext s=>s h/\(∃ o,h.R a=Z o)/\∀ Y L:fc,s Y->(∀ o,Y.R a=Z o->L.R a=Z o)->s L
def HOk(H:Hp)(h:fc):Prop:=∀ a o,H a=Z o->bE P w H h a o
end
section
variable{P:ge}{w:ih}{H H':Hp}{h h':fc}{a:e8}{o:HO}
def bE.lt(x:bE P w H h a o):a<h.M.J:=by
 cases o with
 |lst J=>obtain⟨_,_,_,_,e⟩:=x;exact QH e
 |tup J=>obtain⟨_,_,_,p⟩:=x;exact p.lt
 |dK m=>obtain⟨_,_,_,_,o,_,_,e,_⟩:=x;exact QH e
 |dT m=>obtain⟨_,_,_,_,o,_,_,e,_⟩:=x;exact QH e
 |set S n=>obtain⟨o,_,_,_,e,_⟩:=x;exact QH e
 |ins C j fs=>obtain⟨_,_,_,e,_⟩:=x;exact QH e
 |own y=>obtain⟨_,e⟩:=x;exact QH e
 |xd fs=>obtain⟨_,⟨_,_,_,e,_⟩,_⟩:=x;exact QH e
 |rng lo B=>obtain⟨_,_,_,e⟩:=x;exact QH e
 |frz N u=>obtain⟨e,_⟩:=x;exact QH e
 |tbl T=>exact QH (show h.R a=Z _ from x)
 |met f y=>exact QH (show h.R a=Z _ from x)
 |ext s=>obtain⟨_,⟨_,e⟩,_⟩:=x;exact QH e
theorem Paired.mapP{α j:Type}{F eK:α->j->Prop}:∀{c:E α}{d:E j},Paired F c d->(∀ a b,F a b->eK a b)->Paired eK c d
 |_,_,.nil,_=>.nil
 |_,_,.cons r t,f=>.cons (f _ _ r) (Paired.mapP t f)
def bE.stay(x:bE P w H h a o)(k:∀ b u,(b=a∨H b=Z (.own a))->h.R b=Z u->h'.R b=Z u)(i:∀ b,H b=Z (.own a)->H' b=Z (.own a))(Y:∀ b xs,H b=Z (.tup xs)->H' b=Z (.tup xs)):bE P w H' h' a o:=by
 induction o with
 |lst xs=>obtain⟨z,g,n,r,e⟩:=x;erw[z,g,n,r,k _ _ (.inl U) e]
 |tup xs=>obtain⟨z,g,r,N,e,c⟩:=x;erw[z,g,r,N,k _ _ (.inl U) e,c]
 |dK m=>obtain⟨z,y,L,r,N,D,l,e,c⟩:=x;erw[z,y,L,r,N,D,l,k _ _ (.inl U) e,c]
 |dT m =>
  let z y xs r N D l e c c2 c3 c4:=x;erw[z,y,xs,Paired.mapP r λp q z=>⟨z.1,Y _ _ z.2.1,z.2.2⟩,N,D,l,k _ _ (.inl U) e,c,c2,c3,c4]
 |set S n=>obtain⟨N,D,l,t,e,c⟩:=x;erw[N,D,l,t,k _ _ (.inl U) e,c]
 |ins C j fs =>
  let d z ne e J{I D l eg c}r eK:=x;erw[i _ d,z,ne,k _ _ (.inl U) e,J,⟨I,D,l,k _ _ (.inr d) eg,c⟩,r,eK]
 |own y=>obtain⟨N,e⟩:=x;erw[N,k _ _ (.inl U) e]
 |xd fs=>obtain⟨J,⟨I,D,l,e,c⟩,r⟩:=x;erw[J,⟨I,D,l,k _ _ (.inl U) e,c⟩,r]
 |rng lo B=>obtain⟨t,u,v,e⟩:=x;erw[t,u,v,k _ _ (.inl U) e]
 |frz N u O=>obtain⟨e,q⟩:=x;erw[k _ _ (.inl U) e,O q]
 |tbl T =>
  let e:h.R a=Z {cls:=.none,data:=.fields T}:=x;show h'.R a=Z {cls:=.none,data:=.fields T};exact k a _ (.inl U) e
 |met f y =>
  let e:h.R a=Z (PQ (.ref f) (.ref y)):=x;show h'.R a=Z (PQ (.ref f) (.ref y));exact k a _ (.inl U) e
 |ext s=>obtain⟨p,⟨o,e⟩,st⟩:=x;erw[st _ _ p λo q=>k _ _ (.inl U) q,⟨o,k _ _ (.inl U) e⟩,st]
theorem HOk.lt(x:HOk P w H h)(e:H a=Z o):a<h.M.J:=(x a o e).lt
def HOk.fresh(x:HOk P w H h)(e:h.M.J<=a):H a=k7:=by
 cases q:H a with
 |none=>rfl
 |some u=>exact R7 (Mb (x.lt q) e) (Nr _)
theorem HOk.kept(x:HOk P w H h)(k:∀ b u,h.R b=Z u->h'.R b=Z u):HOk P w H h':=λa o e =>
 (x a o e).stay (λb u _ q=>k b u q) (λ_ q=>q) λ_ _ q=>q
theorem HOk.laid(x:HOk P w H h)(k:∀ b u,h.R b=Z u->h'.R b=Z u)(g:h.M.J<=a)(new:bE P w (upd H a o) h' a o):HOk P w (upd H a o) h':=λb u e=>by
 let N:=x.fresh g;by_cases M:b=a
 .subst M;rw[ag]at e;cases e;exact new
 .rw[ar M]at e;exact(x b u e).stay (λc v _ q=>k c v q) (λc q=>by rw[ar (aF q N)];exact q) λc J q=>by rw[ar (aF q N)];exact q
end
def Rd(H:Hp)(a:e8)(u:HO):Prop:=H a=Z u∨∃ o,H a=Z (.frz o u)
def Rd.ok{H:Hp}{u:HO}(r:Rd H a u)(x:HOk P w H h):bE P w H h a u:=by
 obtain r|⟨o,r⟩:=r
 .exact x a u r
 .let _ q:=x a _ r;exact q
def Mut:io HO->Prop
 |some (.lst _)=>True
 |some (.dK _)=>True
 |some (.dT _)=>True
 |some (.set _ _)=>True
 |some (.ins _ _ _)=>True
 |some (.ext _)=>True
 |_=>False
section
variable{P:ge}{w:ih}{H:Hp}{h h':fc}{x e:e8}{o':HO}
theorem HOk.write(ok:HOk P w H h)(f:Mut (H x))(eK:e=x∨H e=Z (.own x))(k:∀ b u,b≠e->h.R b=Z u->h'.R b=Z u)(d:∃ u,h'.R e=Z u)
  (new:bE P w (upd H x o') h' x o'):HOk P w (upd H x o') h':=λb u q=>by
 let g:∀ c y,H c=Z (.own y)->c≠x:=λc y r z=>by subst z;rw[r]at f;exact f
 let i:∀ c J,H c=Z (.tup J)->c≠x:=λc J r z=>by subst z;rw[r]at f;exact f
 by_cases M:b=x
 .subst M;rw[ag]at q;cases q;exact new
 .rw[ar M]at q;by_cases a:b=e
  .let Y:H b=Z (.own x):=by
    obtain z|z:=eK
    .exact R7 (a.Q z) M
    .rw[a];exact z
   rw[q]at Y;cases Y;let v m:=d;erw[v,by rw[a];exact m]
  .refine(ok b u q).stay (λc v T r=>k c v ?_ r) (λc r=>by rw[ar (g c b r)];exact r) λc J r=>by rw[ar (i c J r)];exact r
   obtain rfl|T:=T
   .exact a
   .grind
end
structure Un(fs ex:E e8)(H H':Hp)(h h':fc):Prop where
 keep:∀ b o,h.R b=Z o->H b=k7->b∉fs->b∉ex->h'.R b=Z o
 slot:∀ b o,h.R b=Z o->H b=k7->b∈fs->b∉ex->∃ sl,h'.R b=Z {o with slots:=sl}
 free:∀ b o,h.R b=Z o->H b=k7->b∉ex->H' b=k7
 there:∀ b o,h.R b=Z o->b∉ex->∃ o',h'.R b=Z o'
 tups:∀ b xs,H b=Z (.tup xs)->H' b=Z (.tup xs)
 frzs:∀ b o u,H b=Z (.frz o u)->H' b=Z (.frz o u)
 tbls:∀ b ps,H b=Z (.tbl ps)->∃ more,H' b=Z (.tbl (ps++more))
section
variable{fs fs' ex ex':E e8}{H H1 H2:Hp}{h h1 h2 h':fc}{a x e:e8}{o:HO}
def Un.any(u:Un fs ex H H1 h h1){b:e8}(q:h.R b=Z ob)(n:H b=k7)(J:b∉ex):∃ sl,h1.R b=Z {ob with slots:=sl}:=by
 by_cases M:b∈fs
 .exact u.slot b ob q n M J
 .erw[ob.slots,u.keep b ob q n M J]
theorem Un.kept(k:∀ b u,h.R b=Z u->h'.R b=Z u):Un fs ex H H h h' :=
 ⟨λb N q _ _ _=>k b N q,λb N q _ _ _=>⟨N.slots,k b N q⟩,λ_ _ _ n _=>n,λb N q _=>⟨N,k b N q⟩,λ_ _ q=>q,λ_ _ _ q=>q,λ_ T q=>⟨#[],by assumption⟩⟩
theorem Un.refl:Un fs ex H H h h:=Un.kept λ_ _ q=>q
theorem Un.laid(k:∀ b u,h.R b=Z u->h'.R b=Z u)(g:h.M.J<=a)(N:H a=k7):Un fs ex H (upd H a o) h h' where
 keep:=λb u q _ _ _=>k b u q
 slot:=λb u q _ _ _=>⟨u.slots,k b u q⟩
 free:=λb u q n _=>by rw[ar (LQ (Mb (QH q) g))];exact n
 there:=λb u q _=>⟨u,k b u q⟩
 tups:=λb J q=>by rw[ar (aF q N)];exact q
 frzs:=λb u J q=>by rw[ar (aF q N)];exact q
 tbls:=λb T q=>⟨#[],by rw[ar (aF q N),q];simp⟩
def Un.write(f:Mut (H x))(eK:e=x∨H e=Z (.own x))(k:∀ b u,b≠e->h.R b=Z u->h'.R b=Z u)(d:∃ u,h'.R e=Z u):Un fs ex H (upd H x o) h h':=by
 let J:∀ b,H b=k7->b≠x:=λb n z=>by subst z;rw[n]at f;exact f
 let M:∀ b,H b=k7->b≠e:=λb n z=>by
  simp!
 let D:∀ b u,H b=Z u->¬ Mut (Z u)->b≠x:=λb u q g z=>by simp!
 erw[λb u q n _ _=>k b u (M b n) q,λb u q n _ _=>⟨u.slots,k b u (M b n) q⟩,λb u q n _=>by rw[ar (J b n)];exact n,λb u q _=>?_,
  λb j q=>by rw[ar (D b _ q λz=>z)];exact q,λb u j q=>by rw[ar (D b _ q λz=>z)];exact q,λb T q=>⟨#[],by rw[ar (D b _ q λz=>z),q];simp⟩]
 by_cases a:b=e
 .subst a;exact d
 .erw[u,k b u a q]
end
def trk(h:fc)(H:Hp):E e8:=(Mg h.M.J).filter λa=>(H a).isSome
def hidT(h:fc)(H:Hp):fc:=PySem.W.hideAll h (trk h H)
theorem Ec(h:fc)(H:Hp):(hidT h H).M.J=h.M.J:=PySem.W.hideAll_size _ _
theorem pO{H:Hp}{b:e8}(e:h.R b=Z o)(n:H b=k7):(hidT h H).R b=Z o :=
 Pz _ e λD=>by
  let q:(H b).isSome=kf:=(Nv.mp D).2;rw[n]at q;simp at q
def Kj{H:Hp}{b:e8}(e:(hidT h H).R b=Z o):h.R b=Z o/\H b=k7:=by
 let J:h.R b=Z o:=PySem.W.of_hideAll (trk h H) e;erw[J,3]
 cases q:H b with
 |none=>rfl
 |some x =>
  let D:b∈trk h H:=Nv.mpr ⟨Mz.mpr (QH J),by simp[q]⟩
  let z:(hidT h H).R b=k7:=PySem.W.hideAll_none (trk h H) D;simp!
structure Mod(K:Lo)(mg:ff->io eN)(base:fc):Prop where
 kin:K.In base
 glob:base.Ns QI mg
 blt:∃ mb,base.Ns builtinsNs mb/\∀ x:ff,x≠"__name__"->mb x=QJ x
 nolimit:base.NoLimit
set_option genInjectivity false in
structure Cx where
 prog:ge
 w:ih
 K:Lo
 mg:ff->io eN
 base:fc
 A:Around
 N:E ff
 s₀:e9
 H₀:Hp
 env:gI
 outer:E gI
 stack:E gI
 ex:E e8
 fn:ff->i0
 calm:i0
 pn:E (e8×hr)
 xe:eN->e9->Prop
def frs(l:E gI):E e8:=l.filterMap (·.frame)
abbrev Cx.fs(X:Cx):E e8:=frs X.outer
def Vis(a:hx)(x:ff):Prop:=a.names.Z x=Z .local∨a.names.Z x=Z .cell∨a.names.Z x=Z .free
def Loc(a:hx)(x:ff):Prop:=a.names.Z x=Z .local∨a.names.Z x=Z .cell
def Look(env:gI)(h:fc)(m:ff->io eN)(x:ff)(u:eN):Prop :=
 (env.kindOf x=Z .local/\m x=Z u)∨((env.kindOf x=Z .cell∨env.kindOf x=Z .free)/\∃ c,env.cells.Z x=Z c/\h.IsCell c (Z u))
structure Cx.Ok(X:Cx):Prop where
 mod:Mod X.K X.mg X.base
 kind:X.i.scope.kind=.function
 glob:X.i.globals=QI
 blt:X.i.builtins=builtinsNs
 above:X.s₀.H.M.J<=X.i.locals
 inj:∀ x y c,X.i.cells.Z x=Z c->X.i.cells.Z y=Z c->x=y
 has:∀ x,(X.i.kindOf x=Z .cell∨X.i.kindOf x=Z .free)->∃ c,X.i.cells.Z x=Z c
 cab:∀ x c,X.fn x=kf->X.i.cells.Z x=Z c->X.s₀.H.M.J<=c
 hd:X.calm=kf->X.A.handled=k7
 frames:X.A.frames=Z X.stack
 stk:X.stack=X.outer∨(X.stack=X.i::X.outer/\X.i.frame=Z X.i.locals)
 exf:∀ b∈X.ex,b≠X.i.locals/\∀ x c,X.i.cells.Z x=Z c->c≠b
 bs:∀ b o,X.base.R b=Z o->X.s₀.H.R b=Z o/\X.H₀ b=k7
 bsz:X.base.M.J<=X.s₀.H.M.J
 noex:∀ b o,X.base.R b=Z o->b∉X.ex
 exfs:∀ b∈X.ex,b∉X.fs
 funs:X.s₀.H.FunFrames X.base X.outer
 frf:∀ b∈X.fs,X.H₀ b=k7
structure Inv(X:Cx)(pins:E (e8×hr))(σ:E (io V))(H:Hp)(s:e9):Prop where
 ok:X.Ok
 os:s.os=X.s₀.os
 bare:AllBare s.gens
 base:Un X.fs X.ex X.H₀ H X.s₀.H s.H
 loc:∃ m,s.H.Ns X.i.locals m/\∀(i:R)(x:ff)(v:V),X.N[i]?=Z x->σ[i]?=Z (Z v)->Vis X.i.scope x->∃ u,RelV v u/\Look X.i s.H m x u
 cell:∀ x c,X.i.cells.Z x=Z c->∃ v,s.H.IsCell c v
 free:H X.i.locals=k7
 freeC:∀ x c,X.i.cells.Z x=Z c->H c=k7
 pin:∀ p∈X.pn++pins,s.H.R p.1=Z p.2/\H p.1=k7/\p.1≠X.i.locals/\p.1∉X.fs/\∀ v,p.2.data≠.cell v
 hok:HOk X.e X.w H s.H
 len:σ.L=X.N.L
section
variable{X:Cx}{pins:E (e8×hr)}{σ:E (io V)}{H H':Hp}{s:e9}{h':fc}
theorem Cx.Ok.nofr(ok:X.Ok){b:e8}(e:X.base.R b=Z o):b∉X.fs:=λM=>by
 let:=(ok.funs.mem M).1;simp!
theorem Inv.bs(I:Inv X pins σ H s):∀ b o,X.base.R b=Z o->s.H.R b=Z o/\H b=k7:=λb o e =>
 ⟨I.base.keep b o (I.ok.bs b o e).1 (I.ok.bs b o e).2 (I.ok.nofr e) (I.ok.noex b o e),I.base.free b o (I.ok.bs b o e).1 (I.ok.bs b o e).2 (I.ok.noex b o e)⟩
theorem Inv.bk(I:Inv X pins σ H s):∀ b o,X.base.R b=Z o->s.H.R b=Z o:=λb o e=>(I.bs b o e).1
theorem Inv.mod(I:Inv X pins σ H s):Mod X.K X.mg X.base:=I.ok.mod
theorem Inv.kIn(I:Inv X pins σ H s):X.K.In s.H:=I.ok.mod.kin.keeps I.bk
theorem Inv.nolimit(I:Inv X pins σ H s):s.H.NoLimit:=I.ok.mod.nolimit.keeps I.bk
theorem Inv.lt(I:Inv X pins σ H s):X.i.locals<s.H.M.J:=let ⟨_,N,_⟩:=I.loc;N.lt
theorem Inv.sz(I:Inv X pins σ H s):X.s₀.H.M.J<=s.H.M.J:=MB I.ok.above (LN I.lt)
theorem Inv.nofs(I:Inv X pins σ H s)(h:s.H.M.J<=a):a∉X.fs:=λM=>by
 let _ o t _:=I.ok.funs.mem M;exact R7 (Mb (QH t) (MB I.sz h)) (Nr _)
theorem Inv.cne(I:Inv X pins σ H s):∀ x c,X.i.cells.Z x=Z c->c≠X.i.locals:=λx c e z=>by
 let v o t hd:=I.cell x c e;let m{j D l a B _}_:=I.loc;simp!
def Inv.funs(I:Inv X pins σ H s):s.H.FunFrames X.base X.outer:=by
 let all:∀(l:E gI),(∀ b∈frs l,b∈X.fs)->X.s₀.H.FunFrames X.base l->s.H.FunFrames X.base l:=by
  intro l;induction l with
  |nil=>intro _ _;trivial
  |cons h r O =>
   intro p d;let eK{L o C a t hd}N:=d;let g:L∈X.fs:=p L (by unfold frs;rw[PF,C];exact Ly)
   let Q e:=I.base.slot L o t (I.ok.frf L g) g λz=>I.ok.exfs L z g;erw[eK,⟨L,_,C,a,e,hd⟩,O (λb M=>p b (by unfold frs;rw[PF,C];exact Lu _ M)) N]
 exact all X.outer (λ_ M=>M) I.ok.funs
def Inv.stack(I:Inv X pins σ H s):s.H.FunFrames X.base X.stack:=by
 obtain e|⟨e,C⟩:=I.ok.stk
 .rw[e];exact I.funs
 .rw[e];let m N _:=I.loc;refine .cons (by rw[I.ok.kind];decide) C N ?_ I.funs
  exact QK (MB I.ok.bsz I.ok.above)
theorem Inv.stkSub(I:Inv X pins σ H s):∀ b∈frs X.stack,b∈X.i.locals::X.fs:=λb M=>by
 obtain e|⟨e,C⟩:=I.ok.stk
 .rw[e]at M;exact Lu _ M
 .rw[e]at M;unfold frs at M;rw[PF,C]at M;exact M
theorem Inv.stkFree(I:Inv X pins σ H s):∀ b∈frs X.stack,H b=k7:=λb M=>by
 rcases Lz.mp (I.stkSub b M)with e|M
 .rw[e];exact I.free
 .let _ o t _:=I.ok.funs.mem M;exact I.base.free b o t (I.ok.frf b M) λz=>I.ok.exfs b z M
def Inv.step{g':j5 GenState}{t':R}{d':Drawn}{ch:E e8}(I:Inv X pins σ H s)(y:∀ b∈ch,(b∈X.ex∨X.s₀.H.M.J<=b)/\b≠X.i.locals/\(∀ x c,X.i.cells.Z x=Z c->c≠b)/\∀ p∈X.pn++pins,p.1≠b)(keep:∀ b o,b≠X.i.locals->b∉X.fs->b∉ch->s.H.R b=Z o->H b=k7->h'.R b=Z o)(slot:∀ b o,b≠X.i.locals->b∈X.fs->b∉ch->s.H.R b=Z o->H b=k7->∃ sl,h'.R b=Z {o with slots:=sl})(free:∀ b o,b∉ch->s.H.R b=Z o->H b=k7->H' b=k7)(there:∀ b o,b∉ch->s.H.R b=Z o->∃ j,h'.R b=Z j)(tups:∀ b xs,H b=Z (.tup xs)->H' b=Z (.tup xs))(frzs:∀ b o u,H b=Z (.frz o u)->H' b=Z (.frz o u))(tbls:∀ b ps,H b=Z (.tbl ps)->∃ more,H' b=Z (.tbl (ps++more)))(ns:∀ m,s.H.Ns X.i.locals m->h'.Ns X.i.locals m)(A:HOk X.e X.w H' h')(Y:AllBare g'):
  mi σ H' {s with heap:=h',gens:=g',drawn:=d',toks:=t'}:=by
 let O:∀ b o,X.s₀.H.R b=Z o->b≠X.i.locals:=λb o e=>LQ (Mb (QH e) I.ok.above);let h:∀ b o,X.s₀.H.R b=Z o->b∉X.ex->b∉ch:=λb o e J M=>by
  rcases(y b M).1 with z|z
  .exact J z
  .exact R7 (Mb (QH e) z) (Nr _)
 let L:∀ x c,X.i.cells.Z x=Z c->∀ v,s.H.IsCell c v->h'.IsCell c v:=λx c e v ⟨o,t,hd⟩=>by
  let Q:c∉ch:=λz=>(y c z).2.2.1 x c e U;by_cases T:c∈X.fs
  .let sl q:=slot c o (I.cne x c e) T Q t (I.freeC x c e);erw[_,q,hd]
  .erw[o,keep c o (I.cne x c e) T Q t (I.freeC x c e),hd]
 erw[I.ok,I.os,Y,⟨λb o e n M J=>?_,λb o e n M J=>?_,λb o e n J=>?_,λb o e J=>?_,λb xs e=>tups b xs (I.base.tups b xs e),λb o xs e=>frzs b o xs (I.base.frzs b o xs e),λb ps e=>?_⟩,3,λx c e=>?_,3,λx c e=>?_,λp g=>?_,A,I.len]
 .exact keep b o (O b o e) M (h b o e J) (I.base.keep b o e n M J) (I.base.free b o e n J)
 .let sl C:=I.base.slot b o e n M J;let aa eg:=slot b _ (O b o e) M (h b o e J) C (I.base.free b o e n J);erw[aa,eg]
 .let j C:=I.base.there b o e J;exact free b j (h b o e J) C (I.base.free b o e n J)
 .let j C:=I.base.there b o e J;exact there b j (h b o e J) C
 .let eK C:=I.base.tbls b ps e;let a eg:=tbls b _ C;erw[eK++a,by simp[*]]
 .let m N D:=I.loc;erw[m,ns m N,λi x v C eg f=>?_];let u r l:=D i x v C eg f;erw[u,r,3];obtain l|⟨k,c,e,z⟩:=l
  .exact .inl l
  .exact .inr ⟨k,c,e,L x c e _ z⟩
 .let v z:=I.cell x c e;erw[v,L x c e v z]
 .let m{o _ _ t _}_:=I.loc;exact free _ o (λz=>(y _ z).2.1 U) t I.free
 .let v o t hd:=I.cell x c e;exact free c o (λz=>(y c z).2.2.1 x c e U) t (I.freeC x c e)
 .let e n ne B d:=I.pin p g;let Q:p.1∉ch:=λz=>(y p.1 z).2.2.2 p g U;erw[keep p.1 p.2 ne B Q e n,free p.1 p.2 Q e n,ne,B,d]
def Inv.un(I:Inv X pins σ H s)(u:Un X.fs [] H H' s.H h')(A:HOk X.e X.w H' h'):Inv X pins σ H' {s with heap:=h',toks:=t'}:=by
 let m{o v l t r}_:=id I.loc;let d g:=u.any t I.free (by simp)
 exact I.step (g':=s.gens) (d':=s.drawn) (ch:=[]) (λ_ z=>nomatch z) (λb o _ M _ e n=>u.keep b o e n M (by simp)) (λb o _ M _ e n=>u.slot b o e n M (by simp)) (λb o _ e n=>u.free b o e n (by simp)) (λb o _ e=>u.there b o e (by simp)) u.tups u.frzs u.tbls (λC D=>by
  let j es' i a eK:=D;rw[t]at a;cases a
  erw[_,es',i,g,eK]) A I.bare
def Inv.call{g':j5 GenState}{d':Drawn}(I:Inv X pins σ H s)(u:Un (frs X.stack) ch H H' s.H h')(A:HOk X.e X.w H' h')(Y:AllBare g')(y:∀ b∈ch,(b∈X.ex∨X.s₀.H.M.J<=b)/\b≠X.i.locals/\(∀ x c,X.i.cells.Z x=Z c->c≠b)/\∀ p∈X.pn++pins,p.1≠b):
  mi σ H' {s with heap:=h',gens:=g',drawn:=d',toks:=t'}:=by
 let m{o v l t r}_:=id I.loc;let d g:=u.any t I.free λz=>(y _ z).2.1 U
 exact I.step (ch:=ch) y (λb o g M T e n=>u.keep b o e n (λz=>(Lz.mp (I.stkSub b z)).elim g M) T) (λb o _ _ T e n=>u.any e n T) (λb o T e n=>u.free b o e n T) (λb o T e=>u.there b o e T) u.tups u.frzs u.tbls (λC D=>by
  let j es' i a eK:=D;rw[t]at a;cases a
  erw[_,es',i,g,eK]) A Y
def Inv.turned(I:Inv X pins σ H s)(k:∀ b o,b≠it->s.H.R b=Z o->h'.R b=Z o)(N:H it=k7)(g:it≠X.i.locals)(Y:it∈X.ex∨X.s₀.H.M.J<=it)(h2:∀ x c,X.i.cells.Z x=Z c->c≠it)(f:∀ p∈X.pn++pins,p.1≠it):Inv X pins σ H {s with heap:=h',toks:=t'}:=by
 let h:∀ b u,H b=Z u->b≠it:=λb u e z=>by simp!
 refine I.step (g':=s.gens) (d':=s.drawn) (ch:=[it]) (λb M=>?_) (λb o _ _ T e _=>k b o (λz=>T (by simp[z])) e) (λb o _ _ T e _=>⟨o.slots,k b o (λz=>T (by simp[z])) e⟩) (λ_ _ _ _ n=>n)
  (λb o T e=>⟨o,k b o (λz=>T (by simp[z])) e⟩) (λ_ _ e=>e) (λ_ _ _ e=>e) (λb d e=>⟨#[],by assumption⟩) (λm A=>?_) (λb u e=>?_) I.bare
 .let e:b=it:=by simpa using M
  subst e;erw[Y,g,h2,f]
 .let o D l t r:=A;erw[o,D,l,k _ o (Ne.Y g) t,r]
 .refine(I.hok b u e).stay (λc v T q=>k c v ?_ q) (λ_ q=>q) λ_ _ q=>q;obtain z|z:=T
  .rw[z];exact h b u e
  .exact h c _ z
theorem Inv.tok(I:Inv X pins σ H s)(t:R):Inv X pins σ H {s with toks:=t}:=I.un (h':=s.H) (t':=t) Un.refl I.hok
theorem Inv.kept{t':R}(I:Inv X pins σ H s)(k:∀ b u,s.H.R b=Z u->h'.R b=Z u):Inv X pins σ H {s with heap:=h',toks:=t'}:=I.un (Un.kept k) (I.hok.kept k)
theorem Inv.laid{a:e8}{o:HO}{t':R}(I:Inv X pins σ H s)(k:∀ b u,s.H.R b=Z u->h'.R b=Z u)(g:s.H.M.J<=a)(new:bE X.e X.w (upd H a o) h' a o):
  mi σ (upd H a o) {s with heap:=h',toks:=t'}:=I.un (Un.laid k g (I.hok.fresh g)) (I.hok.laid k g new)
theorem Inv.write{x e:e8}{o:HO}{t':R}(I:Inv X pins σ H s)(f:Mut (H x))(eK:e=x∨H e=Z (.own x))(k:∀ b u,b≠e->s.H.R b=Z u->h'.R b=Z u)(d:∃ u,h'.R e=Z u)(new:bE X.e X.w (upd H x o) h' x o):Inv X pins σ (upd H x o) {s with heap:=h',toks:=t'}:=I.un (Un.write f eK k d) (I.hok.write f eK k d new)
theorem Inv.weak{σ':E (io V)}(I:Inv X pins σ H s)(hl:σ'.L=σ.L)(w:∀ (i:R) v,σ'[i]?=Z (Z v)->σ[i]?=Z (Z v)):Inv X pins σ' H s :=
 ⟨I.ok,I.os,I.bare,I.base,let ⟨m,N,a⟩:=I.loc;⟨m,N,λi x v C eg f=>a i x v C (w i v eg) f⟩,I.cell,I.free,I.freeC,I.pin,I.hok,hl.Q I.len⟩
theorem Inv.pins_of(I:Inv X pins σ H s)(h:∀ p∈O,s.H.R p.1=Z p.2/\H p.1=k7/\p.1≠X.i.locals/\p.1∉X.fs/\∀ v,p.2.data≠.cell v):Inv X O σ H s :=
 ⟨I.ok,I.os,I.bare,I.base,I.loc,I.cell,I.free,I.freeC,λp g=>(LG.mp g).elim (λz=>I.pin p (Mi _ z)) (h p),I.hok,I.len⟩
def uo{N:E ff}(w:N.l)(a:N[i]?=Z x)(b:N[j]?=Z x):i=j:=by
 let Y C:=Lm.mp a;let L eg:=Lm.mp b;exact(List.getElem_inj w).mp (C.Q eg.Y)
def Ct{M:Model}{v:V}{Q:Unit->e9->Prop}(I:mi σ H s)(hN:X.N.l)(hi:X.N[i]?=Z x)(J:Loc X.i.scope x)(r:RelV v u)(h:∀ s',mi (σ.set i (Z v)) H s'->(∃ a,QL a s.H s'.H/\(a=X.i.locals∨X.i.cells.Z x=Z a))->Q () s')(L:X.fn x=kf∨X.i.scope.names.Z x=Z .local:=by first|exact .inl rfl|exact .inr rfl|assumption):wpAny M A (storeName X.i x u) Q eg s:=by
 let m O D:=id I.loc;let ae:(X.i.scope.kind == .class||(X.i.scope.kind == .module&&X.i.locals != X.i.globals))=kt:=by rw[I.ok.kind];rfl
 let al:i<σ.L:=by rw[I.len];exact(Lm.mp hi).1
 let cne:=I.cne;let ab:∀{a:e8}{h':fc},(∃ o,s.H.R a=Z o/\H a=k7)->QL a s.H h'->HOk X.e X.w H h':=λ{a h'} l hs b ob e=>by
  let _ _ ap:=l;refine(I.hok b ob e).stay (λc w' T q=>(hs.2 c ?_).Q q) (λ_ q=>q) λ_ _ q=>q;rintro rfl;simp!
 obtain eK|eK:=J
 .refine wpAny_storeName_local eK O (λh' aI hs=>?_) ae;let oL _ _ aa _:=id O;refine h _ ⟨I.ok,I.os,I.bare,⟨λb o e n g J=>?_,λb o e n g J=>?_,I.base.free,λb o e J=>?_,I.base.tups,I.base.frzs,I.base.tbls⟩,⟨_,aI,λj y v' C f e3=>?_⟩,λy c e=>?_,I.free,I.freeC,λp t=>?_,ab ⟨oL,aa,I.free⟩ hs,by simpa using I.len⟩ ⟨_,hs,.inl U⟩
  .exact(hs.2 b (LQ (Mb (QH e) I.ok.above))).Q (I.base.keep b o e n g J)
  .let sl C:=I.base.slot b o e n g J;erw[sl,(hs.2 b (LQ (Mb (QH e) I.ok.above))).Q C]
  .let o' C:=I.base.there b o e J;erw[o',(hs.2 b (LQ (Mb (QH e) I.ok.above))).Q C]
  .by_cases Y:j=i
   .subst Y;rw[hi]at C;cases C;rw[List.getElem?_set_self al]at f
    cases f
    erw[u,r,.inl ⟨eK,by simp⟩]
   .rw[Po (Ne.Y Y)]at f;let u' r' q:=D j y v' C f e3;erw[u',r',3];rcases q with⟨k,e⟩|⟨k,c,e,z⟩
    .refine .inl ⟨k,?_⟩;let:y≠x:=λe=>Y (uo hN C (e▸hi));simp[this,e]
    .exact .inr ⟨k,c,e,z.sameBut hs (cne y c e)⟩
  .let w' z:=I.cell y c e;erw[w',z.sameBut hs (cne y c e)]
  .let e n ne nf d:=I.pin p t;erw[(hs.2 p.1 ne).Q e,n,ne,nf,d]
 .let am:X.fn x=kf:=by simp!
  let c T:=I.ok.has x (.inl eK);let w' z:=I.cell x c T;refine wpAny_storeName_cell I.ok.kind eK T z (λh' ac hs=>?_);let oc aS aT:=id z;refine h {s,h'} ⟨I.ok,I.os,I.bare,⟨λb o e n g J=>?_,λb o e n g J=>?_,I.base.free,λb o e J=>?_,I.base.tups,I.base.frzs,I.base.tbls⟩,⟨m,O.sameBut hs (Ne.Y (cne x c T)),λj y v' C f e3=>?_⟩,λy B e=>?_,I.free,I.freeC,λp t=>?_,ab ⟨oc,aS,I.freeC x c T⟩ hs,by simpa using I.len⟩ ⟨c,hs,.inr T⟩
  .exact(hs.2 b (LQ (Mb (QH e) (I.ok.cab x c am T)))).Q (I.base.keep b o e n g J)
  .let sl C:=I.base.slot b o e n g J;erw[sl,(hs.2 b (LQ (Mb (QH e) (I.ok.cab x c am T)))).Q C]
  .let o' C:=I.base.there b o e J;erw[o',(hs.2 b (LQ (Mb (QH e) (I.ok.cab x c am T)))).Q C]
  .by_cases Y:j=i
   .subst Y;rw[hi]at C;cases C;rw[List.getElem?_set_self al]at f
    cases f
    erw[u,r,.inr ⟨.inl eK,c,T,ac⟩]
   .rw[Po (Ne.Y Y)]at f;let u' r' q:=D j y v' C f e3;erw[u',r',3];obtain q|⟨k,B,e,z'⟩:=q
    .exact .inl q
    .refine .inr ⟨k,B,e,z'.sameBut hs ?_⟩;rintro rfl;exact Y (uo hN C (I.ok.inj _ _ _ e T▸hi))
  .by_cases an:B=c
   .subst an;erw[_,ac]
   .let w2 z2:=I.cell y B e;erw[w2,z2.sameBut hs an]
  .let e n ne nf d:=I.pin p t;erw[(hs.2 p.1 ?_).Q e,n,ne,nf,d];intro q;simp!
theorem mv{M:Model}{v:V}{Q:Unit->e9->Prop}(I:mi σ H s)(w:X.N.l)(hi:X.N[i]?=Z x)(J:Loc X.i.scope x)(r:RelV v u)(h:∀ s',mi (σ.set i (Z v)) H s'->Q () s')(C:X.fn x=kf∨X.i.scope.names.Z x=Z .local:=by first|exact .inl rfl|exact .inr rfl|assumption):wpAny M A (storeName X.i x u) Q eg s :=
 Ct I w hi J r (λs' D _=>h s' D) C
def Inv.call'(I:Inv X pins σ H s)(t:s'.os=s.os)(u:Un (frs X.stack) ch H H' s.H s'.H)(A:HOk X.e X.w H' s'.H)(Y:AllBare s'.gens)(y:∀ b∈ch,(b∈X.ex∨X.s₀.H.M.J<=b)/\b≠X.i.locals/\(∀ x c,X.i.cells.Z x=Z c->c≠b)/\∀ p∈X.pn++pins,p.1≠b):Inv X pins σ H' s':=by
 let h' g' d' t' j:=s';let e:j=s.os:=t;subst e;exact I.call (g':=g') (t':=t') (d':=d') u A Y y
end
abbrev XK:=eN->io e8->Hp->Prop
abbrev St:=E (io V)
abbrev VK:=V->Hp->Prop
abbrev TE:=St->Hp->VK->Prop
abbrev TT:=St->Hp->(i0->Hp->Prop)->Prop
abbrev TA:=St->Hp->(E V->Hp->Prop)->Prop
set_option genInjectivity false in
structure Ends where
 nx:St->Hp->Prop
 rt:VK
 bk:St->Hp->Prop:=λ_ _=>False
 ct:St->Hp->Prop:=λ_ _=>False
abbrev Ends.nxt(D:Ends)(n:St->Hp->Prop):Ends:={D with nx:=n}
abbrev Ends.lop(D:Ends)(n:St->Hp->Prop):Ends:={D with nx:=n,ct:=n,bk:=D.nx}
abbrev TS:=Ends->St->Hp->Prop
def EP(X:Cx)(B:E (e8×hr))(σ:St)(Q:VK)(u:eN)(s':e9):Prop:=∃ v eK,nv σ eK s'/\RelV v u/\Q v eK
def TP(X:Cx)(B:E (e8×hr))(σ:St)(Q:i0->Hp->Prop)(b:i0)(s':e9):Prop:=∃ eK,nv σ eK s'/\Q b eK
def AP(X:Cx)(B:E (e8×hr))(σ:St)(Q:E V->Hp->Prop)(us:E eN)(s':e9):Prop:=∃ L eK,nv σ eK s'/\Vals L us/\Q L eK
def SP(X:Cx)(B:E (e8×hr))(D:Ends)(f:Flow)(s':e9):Prop :=
 match f with
 |.next=>∃ z eK,nv z eK s'/\D.nx z eK
 |.brk=>∃ z eK,nv z eK s'/\D.bk z eK
 |.cont=>∃ z eK,nv z eK s'/\D.ct z eK
 |.ret u=>∃ v z eK,nv z eK s'/\RelV v u/\D.rt v eK
def PE(X:Cx)(e:fm)(t:TE):Prop :=
 ∀(B:E (e8×hr))(s:e9)(O:St)(H:Hp)(Q:VK),nv O H s->t O H Q->lf (eval e X.i) (EP X B O Q) X.xe s
def PT(X:Cx)(e:fm)(t:TT):Prop :=
 ∀(B:E (e8×hr))(s:e9)(O:St)(H:Hp)(Q:i0->Hp->Prop),nv O H s->t O H Q->lf (isTrue e X.i (eval e X.i)) (TP X B O Q) X.xe s
def PW(X:Cx)(e:fm)(t:TT):Prop :=
 ∀(whole:Sem eN)(B:E (e8×hr))(s:e9)(O:St)(H:Hp)(Q:i0->Hp->Prop),nv O H s->t O H Q->lf (isTrue e X.i whole) (TP X B O Q) X.xe s
theorem PW.pt{X:Cx}{e:fm}{t:TT}(h:PW X e t):PT X e t:=h _
def PA(X:Cx)(es:E fm)(t:TA):Prop :=
 ∀(eK:Pos)(B:E (e8×hr))(s:e9)(O:St)(H:Hp)(Q:E V->Hp->Prop),nv O H s->t O H Q->lf (spliced (backTo eK (QM es X.i))) (AP X B O Q) X.xe s
def PS(X:Cx)(st:fo)(t:TS):Prop :=
 ∀(B:E (e8×hr))(s:e9)(O:St)(H:Hp)(D:Ends),nv O H s->t D O H->lf (exec st X.i) (SP X B D) X.xe s
def PSs(X:Cx)(st:E fo)(t:TS):Prop :=
 ∀(B:E (e8×hr))(s:e9)(O:St)(H:Hp)(D:Ends),nv O H s->t D O H->lf (execs st X.i) (SP X B D) X.xe s
theorem thn{t:Sem α}{Q z:α->e9->Prop}{M:Model}(h:wpAny M A t Q eg s)(g:∀ a s,Q a s->z a s):wpAny M A t z eg s:=QN h g λ_ _ x=>x
section
variable{X:Cx}
inductive tVar(i:R)(σ:L2.St)(H:L2.Hp)(Q:L2.VK):Prop
 |mk (v:_) (_:σ[i]?=Z (Z v))(_:Q v H)
def tC(v:V):TE:=λ_ H Q=>Q v H
def pe_var(w:X.N[i]?=Z x)(hv:Vis X.i.scope x)(hd:uP_ ((x == ("__debug__" : ff))=kt) uD_)(z:uP_ ((x == ("__classdict__" : ff))=kt) uD_):PE X (.Name x pos) (tVar i):=by
 intro B s O H Q I h;let v e h:=h;let m a d:=I.loc;let u r l:=d i x v w e hv;let C:EP X B O Q u s:=⟨v,H,I,r,h⟩;rcases l with⟨eK,D⟩|⟨eK,c,T,b⟩
 .exact wpAny_Name (wpAny_loadName_local I.ok.kind eK a D C) hd
 .obtain eK|eK:=eK
  .exact wpAny_Name (wpAny_loadName_cell I.ok.kind eK T b C) hd
  .exact wpAny_Name (wpAny_loadName_free I.ok.kind eK T b C z) hd
theorem ai{i j pos}:PE X (.Constant (.int i) j pos) (tC (.int i)):=λ_ _ _ H _ I h=>wpAny_Constant_int ⟨.int i,H,I.tok _,⟨_,U⟩,h⟩
theorem gH{b j pos}:PE X (.Constant (.bool b) j pos) (tC (.bl b)):=λ_ _ _ H _ I h=>Constant_bool ⟨.bl b,H,I,U,h⟩
theorem qE{j pos}:PE X (.Constant .none j pos) (tC .non):=λ_ _ _ H _ I h=>Constant_none ⟨.non,H,I,U,h⟩
theorem pe_str{x j pos}:PE X (.Constant (.str x) j pos) (tC (.str x)):=λ_ _ _ H _ I h=>Calls.Constant_str ⟨.str x,H,I.tok _,⟨_,U⟩,h⟩
def Gl(X:Cx)(x:ff):Prop:=X.i.kindOf x=Z .globalImplicit
theorem lR{σ:St}{H:Hp}(I:Inv X O σ H s)(Y:Gl X x)(D:X.mg x=Z u)(h:Q u s)(hd:uP_ ((x == ("__debug__" : ff))=kt) uD_):lf (eval (.Name x pos) X.i) Q eg s :=
 Calls.Name_function_global I.ok.kind Y (Calls.loadGlobal_global (by rw[I.ok.glob];exact I.mod.glob.keeps I.bk) D h) hd
def kP{σ:St}{H:Hp}(I:Inv X O σ H s)(J:Gl X x)(D:X.mg x=k7)(hv:QJ x=Z u)(h:Q u s)(N:uP_ (x≠"__name__") uD_)(hd:uP_ ((x == ("__debug__" : ff))=kt) uD_):lf (eval (.Name x pos) X.i) Q eg s:=by
 let e Y L:=I.mod.blt;exact Calls.Name_function_global I.ok.kind J (Calls.loadGlobal_builtin (by rw[I.ok.glob];exact I.mod.glob.keeps I.bk) D (by rw[I.ok.blt];exact Y.keeps I.bk) ((L x N).Q hv) h) hd
theorem Di{v:V}(Y:Gl X x)(D:X.mg x=Z u)(r:RelV v u)(hd:uP_ ((x == ("__debug__" : ff))=kt) uD_):PE X (.Name x pos) (tC v) :=
 λ_ _ _ H _ I h=>lR I Y D ⟨v,H,I,r,h⟩ hd
theorem n9{v:V}(Y:Gl X x)(D:X.mg x=k7)(hv:QJ x=Z u)(r:RelV v u)(N:uP_ (x≠"__name__") uD_)(hd:uP_ ((x == ("__debug__" : ff))=kt) uD_):PE X (.Name x pos) (tC v) :=
 λ_ _ _ H _ I h=>kP I Y D hv ⟨v,H,I,r,h⟩ N hd
variable{a b:fm}{ta tb:TE}{pos:Pos}
def PC(X:Cx)(op:CmpOp)(a b:fm)(t:TE):Prop :=
 ∀(B:E (e8×hr))(s:e9)(O:St)(H:Hp)(Q:VK),nv O H s->t O H Q ->
  lf (eval a X.i) (λv C=>lf (eval b X.i) (λu k=>lf (QO op v u) (EP X B O Q) X.xe k) X.xe C) X.xe s
def tB(t:TE):TT:=λO H Q=>t O H λx l=>∃ c,x=.bl c/\Q c l
def AB{t:TE}(h:PC X op a b t)(Y:behindInMarks op b=kt:=by first|exact nobehind _ ∅ ∅|rfl):PT X (.Compare a [op] [b] pos) (tB t):=by
 intro B s O H Q I p;refine wpAny_isTrue_Compare1 (thn (h B s O H _ I p) λv j Y=>thn Y λu o L=>thn L λc m ⟨x,l,n,A,k⟩=>?_) Y;let d rfl q:=k
 cases A
 exact QP ⟨l,n,q⟩
def dM{e:fm}{t:TE}(h:PE X e t)(eK:∀ whole,isTrue e X.i whole=(do let v ← whole;standAt e.pos;holding [v] (truthy v)):=by intro _;rfl):PT X e (tB t):=by
 intro B s O H Q I p;refine isTrue_plain (thn (h B s O H _ I p) λv j ⟨x,l,n,A,k⟩=>?_) (eK _);let d rfl q:=k
 cases A
 exact QP ⟨l,n,q⟩
variable{tA tB':TT}{rest:E fm}
def tAnd(t u:TT):TT:=λO H Q=>t O H λc l=>if c=kf then u O l Q else Q kt l
def tOr(t u:TT):TT:=λO H Q=>t O H λc l=>if c=kf then Q kf l else u O l Q
def tNot(t:TT):TT:=λO H Q=>t O H λc l=>Q (!c) l
def JP(T:PT X a tA):PW X (.BoolOp .And [a] pos) tA:=by
 intro d B s O H Q I h;refine isTrue_and (thn (T B s O H Q I h) λc j e=>?_)
 cases c with
 |true=>exact isTrue_and_nil e
 |false=>exact e
def gG(T:PT X a tA):PW X (.BoolOp .Or [a] pos) tA:=by
 intro d B s O H Q I h;refine isTrue_or (thn (T B s O H Q I h) λc j e=>?_)
 cases c with
 |false=>exact isTrue_or_nil e
 |true=>exact e
def Iu(T:PT X a tA)(M:PW X (.BoolOp .And (b::rest) pos) tB'):PW X (.BoolOp .And (a::b::rest) pos) (tAnd tA tB'):=by
 intro d B s O H Q I h;refine isTrue_and (thn (T B s O H _ I h) λc j ⟨l,n,k⟩=>?_)
 cases c with
 |true=>exact M d B j O l Q n k
 |false=>exact⟨l,n,k⟩
def jj(T:PT X a tA)(M:PW X (.BoolOp .Or (b::rest) pos) tB'):PW X (.BoolOp .Or (a::b::rest) pos) (tOr tA tB'):=by
 intro d B s O H Q I h;refine isTrue_or (thn (T B s O H _ I h) λc j ⟨l,n,k⟩=>?_)
 cases c with
 |true=>exact⟨l,n,k⟩
 |false=>exact M d B j O l Q n k
def gj(T:PT X a tA):PT X (.UnaryOp .Not a pos) (tNot tA):=by
 intro B s O H Q I h;exact isTrue_not (T B s O H (λc l=>Q (!c) l) I h)
def tAndV(ta tb:TE):TE:=λO H Q=>ta O H λx l=>∃ c,x=.bl c/\if c=kf then tb O l Q else Q (.bl kt) l
def tNotV(ta:TE):TE:=λO H Q=>ta O H λx l=>∃ c,x=.bl c/\Q (.bl (!c)) l
theorem rT{op}{t:TE}(h:PE X a t):PE X (.BoolOp op [a] pos) t:=λB s O H Q I p=>BoolOp_one (h B s O H Q I p)
def oG(T:PE X a ta)(M:PE X (.BoolOp .And (b::rest) pos) tb):PE X (.BoolOp .And (a::b::rest) pos) (tAndV ta tb):=by
 intro B s O H Q I h;refine BoolOp_and (thn (T B s O H _ I h) λv j ⟨x,l,n,A,k⟩=>?_);let c rfl k:=k
 cases A
 refine QP ?_
 cases c with
 |true=>exact M B j O l Q n k
 |false=>exact⟨.bl kt,l,n,U,k⟩
def pe_not(T:PE X a ta):PE X (.UnaryOp .Not a pos) (tNotV ta):=by
 intro B s O H Q I h;refine UnaryOp_ (thn (T B s O H _ I h) λv j ⟨x,l,n,A,k⟩=>?_);let c rfl k:=k
 cases A
 exact not_of (QP ⟨.bl (!c),l,n,U,k⟩)
def tIf(t:TT)(ta tb:TE):TE:=λO H Q=>t O H λc l=>if c=kf then ta O l Q else tb O l Q
def j8{c:fm}(T:PT X c tA)(i:PE X a ta)(M:PE X b tb):PE X (.IfExp c a b pos) (tIf tA ta tb):=by
 intro B s O H Q I h;refine wpAny_IfExp (thn (T B s O H _ I h) λd j ⟨l,n,k⟩=>?_)
 cases d with
 |true=>exact i B j O l Q n k
 |false=>exact M B j O l Q n k
end
def SqL(K:Lo)(H:Hp)(a:e8)(xs:E V):Prop :=
 Rd H a (.lst xs) ∨
  ∃(o:hr)(g:j5 eN)(n:R),K.Z a=Z o/\o.cls=.type "list"/\o.dict=k7/\o.data=.seq g n/\g.J<=QG/\Vals xs g.n
def SqT(K:Lo)(H:Hp)(a:e8)(xs:E V):Prop :=
 Rd H a (.tup xs) ∨
  ∃(o:hr)(g:j5 eN)(n:R),K.Z a=Z o/\o.cls=.type "tuple"/\o.data=.seq g n/\g.J<=QG/\Vals xs g.n
def absV:eN->io V
 |.none=>Z .non
 |.bool b=>Z (.bl b)
 |.int i _=>Z (.int i)
 |.str x _=>Z (.str x)
 |.bytes b _=>Z (.byt b)
 |.float b _=>Z (.flt b)
 |.ref a=>Z (.ref a)
 |.type n=>Z (.ty n)
 |_=>k7
def RelV.abs{x:V}(r:RelV x u):absV u=Z x:=by
 cases x with
 |non=>cases r;rfl
 |bl _=>cases r;rfl
 |int _=>obtain⟨t,rfl⟩:=r;rfl
 |str _=>obtain⟨t,rfl⟩:=r;rfl
 |byt _=>obtain⟨t,rfl⟩:=r;rfl
 |flt _=>obtain⟨t,rfl⟩:=r;rfl
 |ref _=>cases r;rfl
 |ty _=>cases r;rfl
theorem RelV.inj{x y:V}(r:RelV x u)(q:RelV y u):x=y:=Me (r.abs.Y.Q q.abs)
theorem Vals.inj:∀{xs ys:E V}{us:E eN},Vals xs us->Vals ys us->xs=ys:=by
 intro xs ys us h;induction h generalizing ys with
 |nil=>intro k;cases k;rfl
 |cons r t ih=>
  intro k;cases k with
  |cons eK d=>rw[r.inj eK,ih d]
section
variable{X:Cx}{pins:E (e8×hr)}{σ:St}{H:Hp}{s:e9}{a:e8}{xs ys:E V}
theorem SqL.of(h:H a=Z (.lst xs)):SqL K H a xs:=.inl (.inl h)
theorem SqT.of(h:H a=Z (.tup xs)):SqT K H a xs:=.inl (.inl h)
def Inv.list(I:Inv X pins σ H s)(h:SqL X.K H a xs):∃ its:E eN,Vals xs its/\PlainL s.H a its.toArray/\xs.L<=QG:=by
 obtain h|⟨o,its,n,eK,T,hd,p,A,r⟩:=h
 .let z its n r e:=h.ok I.hok;erw[its,r,⟨_,n,e,U,U,U⟩,z]
 .erw[its.n,r,⟨o,n,I.kIn a o eK,T,hd,∅⟩,3]
  let e:=r.L;simp[*]
def Inv.tuple(I:Inv X pins σ H s)(h:SqT X.K H a xs):∃ its:E eN,Vals xs its/\IsTup s.H a its.toArray/\xs.L<=QG:=by
 obtain h|⟨o,its,n,eK,T,m,A,r⟩:=h
 .let z its r p:=h.ok I.hok;erw[its,r,p,z]
 .erw[its.n,r,⟨o,I.kIn a o eK,T,n,∅⟩,3]
  let e:=r.L;simp[*]
def Inv.list_inj(I:Inv X pins σ H s)(h:SqL X.K H a xs)(h':SqL X.K H a ys):xs=ys:=by
 let g r{o n e _ _ d}_:=I.list h;let b eK{j k J _ _ v}_:=I.list h';rw[e]at J;cases J;rw[d]at v;injection v with d1 _;let:g=b:=by simpa using congrArg j5.toList d1
 subst this;exact r.inj eK
end
abbrev Cx.wish(X:Cx)(eg:eN->e9->Prop):Cx:={X with xe:=eg}
abbrev Cx.nox(X:Cx):Cx:=X.wish λ_ _=>False
theorem Cx.Ok.wish{X:Cx}(ok:X.Ok)(eg:eN->e9->Prop):(X.wish eg).Ok :=
 ⟨ok.mod,ok.kind,ok.glob,ok.blt,ok.above,ok.inj,ok.has,ok.cab,ok.hd,ok.frames,ok.stk,ok.exf,ok.bs,ok.bsz,ok.noex,ok.exfs,ok.funs,ok.frf⟩
theorem Cx.Ok.unwish{X:Cx}(ok:(X.wish eg).Ok):X.Ok :=
 ⟨ok.mod,ok.kind,ok.glob,ok.blt,ok.above,ok.inj,ok.has,ok.cab,ok.hd,ok.frames,ok.stk,ok.exf,ok.bs,ok.bsz,ok.noex,ok.exfs,ok.funs,ok.frf⟩
section
variable{X:Cx}{pins:E (e8×hr)}{σ:St}{H:Hp}{s:e9}{eg:eN->e9->Prop}
theorem Inv.wish(I:Inv X pins σ H s)(eg:eN->e9->Prop):Inv (X.wish eg) pins σ H s:=⟨I.ok.wish eg,I.os,I.bare,I.base,I.loc,I.cell,I.free,I.freeC,I.pin,I.hok,I.len⟩
theorem Inv.unwish(I:Inv (X.wish eg) pins σ H s):Inv X pins σ H s:=⟨I.ok.unwish,I.os,I.bare,I.base,I.loc,I.cell,I.free,I.freeC,I.pin,I.hok,I.len⟩
def SP.unwish{D:Ends}{f:Flow}{s':e9}(h:SP (X.wish eg) pins D f s'):SP X pins D f s':=by
 cases f with
 |next=>obtain⟨z,eK,I,q⟩:=h;erw[z,eK,I.unwish,q]
 |brk=>obtain⟨z,eK,I,q⟩:=h;erw[z,eK,I.unwish,q]
 |cont=>obtain⟨z,eK,I,q⟩:=h;erw[z,eK,I.unwish,q]
 |ret u=>obtain⟨v,z,eK,I,r,q⟩:=h;erw[v,z,eK,I.unwish,r,q]
theorem PSs.nox{st:E fo}{t:TS}(h:PSs X.nox st t):PSs X st t:=λpins s σ H D I p =>
 QN (h pins s σ H D (I.wish _) p) (λ_ _ q=>q.unwish) λ_ _ z=>False.elim z
end
section
variable{X:Cx}{st:fo}{rest:E fo}{t u:TS}{e:fm}{te:TE}{pos:Pos}
def tNext:TS:=λD O H=>D.nx O H
def tSeq(t u:TS):TS:=λD O H=>t (D.nxt (u D)) O H
theorem aM:PSs X [] tNext:=λ_ _ O H _ I h=>wpAny_execs_nil ⟨O,H,I,h⟩
def ah(Y:PS X st t)(h2:PSs X rest u):PSs X (st::rest) (tSeq t u):=by
 intro B s O H D I h;refine wpAny_execs_cons (thn (Y B s O H (D.nxt (u D)) I h) λf j q=>?_)
 cases f with
 |next =>
  let z eK a q:=q;exact h2 B j z eK D a q
 |ret v=>exact q
 |brk=>exact q
 |cont=>exact q
def ao(Y:PS X st t):PSs X [st] t:=by
 intro B s O H D I h;refine wpAny_execs_cons (thn (Y B s O H D I h) λf j q=>?_)
 cases f with
 |next=>exact wpAny_execs_nil q
 |ret v=>exact q
 |brk=>exact q
 |cont=>exact q
def Inv.quiet{σ:St}{H:Hp}(I:Inv X O σ H s):interactive X.i=kt:=by simp[interactive,I.ok.kind]
def tDrop(te:TE):TS:=λD O H=>te O H λ_ l=>D.nx O l
def aW(eK:PE X e te)(hs:uP_ (swapsWith e k7 pos.line X.i=pure kt) uR_):PS X (.Expr e pos) (tDrop te):=by
 intro B s O H D I h;exact wpAny_Expr_any (thn (eK B s O H _ I h) λv j ⟨x,l,n,A,k⟩=>⟨O,l,n,k⟩) I.quiet hs
def tRet(te:TE):TS:=λD O H=>te O H D.rt
def aD(eK:PE X e te):PS X (.Return (Z e) pos) (tRet te):=by
 intro B s O H D I h;exact wpAny_Return_some (thn (eK B s O H _ I h) λv j ⟨x,l,n,A,k⟩=>⟨x,O,l,n,A,k⟩)
def tIfS(c:TT)(t u:TS):TS:=λD O H=>c O H λb l=>if b=kf then t D O l else u D O l
def bH{c:fm}{a b:E fo}{f:TT}(T:PT X c f)(i:PSs X a t)(M:PSs X b u):PS X (.If c a b pos) (tIfS f t u):=by
 intro B s O H D I h;refine wpAny_If (thn (T B s O H _ I h) λd j ⟨l,n,k⟩=>?_)
 cases d with
 |true=>exact i B j O l D n k
 |false=>exact M B j O l D n k
def tNever:TS:=λ_ _ _=>False
theorem dA:PS X st tNever:=λ_ _ _ _ _ _ h=>h.elim
end
abbrev TG:=V->St->Hp->(St->Hp->Prop)->Prop
abbrev TGs:=E V->St->Hp->(St->Hp->Prop)->Prop
def PG(X:Cx)(b:fm)(t:TG):Prop :=
 ∀(B:E (e8×hr))(s:e9)(O:St)(H:Hp)(v:V)(u:eN)(Q:St->Hp->Prop),nv O H s->RelV v u->t v O H Q ->
  lf (assign b X.i u) (λ_ m=>∃ z eK,nv z eK m/\Q z eK) X.xe s
def PGs(X:Cx)(ts:E fm)(t:TGs):Prop :=
 ∀(B:E (e8×hr))(s:e9)(O:St)(H:Hp)(L:E V)(eg:E eN)(Q:St->Hp->Prop),nv O H s->Vals L eg->t L O H Q ->
  lf (assignInOrder ((QR ts X.i).h (·.2)) eg) (λ_ m=>∃ z eK,nv z eK m/\Q z eK) X.xe s
abbrev TSet:=V->V->V->Hp->(Hp->Prop)->Prop
def PSet(X:Cx)(t:TSet):Prop :=
 ∀(B:E (e8×hr))(s:e9)(O:St)(H:Hp)(o i v:V)(k J u:eN)(Q:Hp->Prop),nv O H s->RelV o k->RelV i J->RelV v u->t o i v H Q ->
  lf (setItem k J u) (λ_ m=>∃ eK,nv O eK m/\Q eK) X.xe s
abbrev TIp:=V->V->Hp->VK->Prop
def PIp(X:Cx)(op:Operator)(t:TIp):Prop :=
 ∀(B:E (e8×hr))(s:e9)(O:St)(H:Hp)(x y:V)(v u:eN)(Q:VK),nv O H s->RelV x v->RelV y u->t x y H Q ->
  lf (inplaceOp op v u) (EP X B O Q) X.xe s
section
variable{X:Cx}{pos:Pos}
def qQ(i:R):TG:=λv O H Q=>Q (O.set i (Z v)) H
def bc(w:X.N.l)(hi:X.N[i]?=Z x)(J:Loc X.i.scope x)(C:X.fn x=kf∨X.i.scope.names.Z x=Z .local:=by first|exact .inl rfl|exact .inr rfl|assumption):PG X (.Name x pos) (qQ i):=by
 intro B s O H v u Q I r h;exact wpAny_assign_Name (mv I w hi J r (λm D=>⟨_,H,D,h⟩) C)
def gNil:TGs:=λL O H Q=>L=[]/\Q O H
inductive gCons(t:TG)(u:TGs)(vs:E L2.V)(σ:L2.St)(H:L2.Hp)(Q:(L2.St->L2.Hp->Prop)):Prop
 |mk (v r:_) (_:vs=v::r)(_:t v σ H λσ' H'=>u r σ' H' Q)
def b7:PGs X [] gNil:=by
 intro B s O H L eg Q I r h;let e h:=h;subst e
 cases r
 exact assignInOrder_nil ⟨O,H,I,h⟩
def aH{e:fm}{es:E fm}{t:TG}{u:TGs}(Y:PG X e t)(h2:PGs X es u)(hs:uP_ ((QR (e::es) X.i).h (·.2)=assign e X.i::(QR es X.i).h (·.2)) uR_):PGs X (e::es) (gCons t u):=by
 intro B s O H L eg Q I r h;let v q C h:=h;subst C
 cases r with
 |cons r x =>
  rw[hs];refine assignInOrder_cons (thn (Y B s O H _ _ _ I r h) λ_ j ⟨y,l,n,k⟩=>?_);exact h2 B j y l _ _ Q n x k
inductive gTup(K:Lo)(n:R)(t:TGs)(v:L2.V)(σ:L2.St)(H:L2.Hp)(Q:(L2.St->L2.Hp->Prop)):Prop
 |mk (a xs:_) (_:v=.ref a)(_:SqT K H a xs)(_:xs.L=n)(_:t xs σ H Q)
def qD{es:E fm}{k:R}{t:TGs}(T:X.calm=kf)(h:PGs X es t)(N:uP_ ((QR es X.i).L=n) uR_)(c:uP_ ((QR es X.i).findIdx? (·.1)=k7) uR_):PG X (.Tuple es k pos) (gTup X.K n t):=by
 intro B s O H v u Q I r p;let a j C y d p:=p;subst C
 cases r
 let g rv Y A:=I.tuple y;refine assign_Tuple_tuple (I.ok.hd T) Y (by simp[N,← d,rv.L]) c λm J=>?_
 let i:nv O H {s,m}:=I.kept (t':=s.v) λb o e=>J b o (LQ (QH e)) e;exact h B _ O H j _ Q i (by simpa using rv) p
def gSub(b a:TE)(t:TSet):TG:=λv O H Q=>b O H λo l=>a O l λi Y=>t o i v Y λd=>Q O d
def vI{o i:fm}{b a:TE}{t:TSet}(w:PE X o b)(hi:PE X i a)(hs:PSet X t)(T:∀ v,assign (.Subscript o i pos) X.i v=(do
   let ov ← holding [v] (eval o X.i)
   let J ← holding [v,ov] (eval i X.i)
   standAt pos
   holding [v,ov,J] (setItem ov J v)
   release [v,ov,J] []):=by intro _;rfl):PG X (.Subscript o i pos) (gSub b a t):=by
 intro B s O H v u Q I r h;rw[T];refine QS (QT (thn (w B s O H _ I h) λov j ⟨x,l,n,A,k⟩=>?_));refine QS (QT (thn (hi B j O l _ n k) λJ eK ⟨y,Y,z,p,L⟩=>?_));refine QS (wpAny_standAt (QS (QT (thn (hs B eK O Y x y v ov J u _ z A p r L) λ_ m ⟨d,eg,N⟩=>?_))));exact wpAny_release ⟨O,d,eg,N⟩
def tAsg(f:TE)(g:TG):TS:=λD O H=>f O H λx l=>g x O l D.nx
def vF{tg e:fm}{f:TE}{g:TG}(eK:PE X e f)(J:PG X tg g)(hs:uP_ (swapsWithSole [tg] e pos.line X.i=pure kt) uR_)(hw:uP_ (swappedStores [tg] e X.i=pure k7) uR_)(Y:uP_ ((QR [tg] X.i).h (·.2)=[assign tg X.i]) uR_):PS X (.Assign [tg] e pos) (tAsg f g):=by
 intro B s O H D I h;refine wpAny_Assign_stores (thn (eK B s O H _ I h) λv j ⟨x,l,n,A,k⟩=>?_) hs hw;rw[Y];exact thn (J B j O l x v _ n A k) λ_ o q=>q
def ps_set{e:fm}{f:TE}{a:Pos}(w:X.N.l)(hi:X.N[i]?=Z x)(J:Loc X.i.scope x)(eK:PE X e f)(hs:uP_ (swapsWith e (Z (.Name x a)) pos.line X.i=pure kt) uR_)(C:X.fn x=kf∨X.i.scope.names.Z x=Z .local:=by first|exact .inl rfl|exact .inr rfl|assumption):
  PS X (.Assign [.Name x a] e pos) (tAsg f (qQ i)):=by
 intro B s O H D I h;refine wpAny_Assign_Name (thn (eK B s O H _ I h) λv j ⟨y,l,n,A,k⟩=>?_) hs;exact mv n w hi J A (λo z=>⟨_,l,z,k⟩) C
inductive tAug(i:R)(te:TE)(ti:TIp)(D:L2.Ends)(σ:L2.St)(H:L2.Hp):Prop
 |mk (x:_) (_:σ[i]?=Z (Z x))(_:te σ H λy H1=>ti x y H1 λz H2=>D.nx (σ.set i (Z z)) H2)
def Iv{e:fm}{te:TE}{op:Operator}{ti:TIp}{al:Pos}(hN:X.N.l)(hi:X.N[i]?=Z x)(J:Loc X.i.scope x)(eK:PE X e te)(t:PIp X op ti)(b:X.fn x=kf∨X.i.scope.names.Z x=Z .local:=by first|exact .inl rfl|exact .inr rfl|assumption):
  PS X (.AugAssign (.Name x al) op e pos) (tAug i te ti):=by
 intro B s O H D I h;let v C h:=h;let m a d:=I.loc;let am:Vis X.i.scope x:=by obtain k|k:=J;exact .inl k;exact .inr (.inl k)
 let u r l:=d i x v hi C am;refine wpAny_AugAssign_Name ?_;let go:lf (eval e X.i) (λw ac=>lf (inplaceOp op u w) (λr aa=>lf (storeName X.i x r) (λ_=>SP X B D .next) X.xe aa) X.xe ac) X.xe s:=by
  refine thn (eK B s O H _ I h) λw j ab=>?_;let y L n eg f:=ab;refine thn (t B j O L v y u w _ n r eg f) λz q ab=>?_;let zv Y Q r2 g:=ab;exact mv Q hN hi J r2 (λM I3=>⟨_,Y,I3,g⟩) b
 rcases l with⟨o,p⟩|⟨o,c,T,ae⟩
 .exact wpAny_loadName_local I.ok.kind o a p go
 .obtain o|o:=o
  .exact wpAny_loadName_cell I.ok.kind o T ae go
  .obtain k|k:=J
   .let:X.i.scope.names.Z x=Z .free:=o
    rw[k]at this;cases this
   .let:X.i.scope.names.Z x=Z .free:=o
    rw[k]at this;cases this
def ipI(f:G->G->G):TIp:=λx y H Q=>∃ i j,x=.int i/\y=.int j/\Q (.int (f i j)) H
def IJ:PIp X .Add (ipI λi j=>i+j):=by
 intro B s O H x y v u Q I A p h;let i j C eg q:=h;subst C;subst eg;let t rfl:=A;let d rfl:=p;exact iadd_int ⟨.int _,H,I.tok _,⟨_,U⟩,q⟩
inductive HW(c:TT)(tb:TS)(D:L2.Ends)(σ:L2.St)(H:L2.Hp):Prop
 |mk (W:R->St->Hp->Prop) (_:(∃ m,W m σ H))(_:∀ m σ H,W m σ H ->
 c σ H λb H1=>if b=kf then ∃ N:St->Hp->Prop,(∀ σ' H',N σ' H'->∃ m',m'<m/\W m' σ' H')/\tb (D.lop (N)) σ H1 else D.nx σ H1)
def fB{c:fm}{q:E fo}{tc:TT}{tb:TS}(g:PassesOwn (model X.e X.w) X.A X.i X.xe)(T:PT X c tc)(M:PSs X q tb):PS X (.While c q [] pos) (HW tc tb):=by
 intro B s O H D I h;let W{x u}turn:=h;refine wpAny_While (codeAny_whileLoop (λn e=>∃ z eK,nv z eK e/\W n z eK) ?_ x ⟨O,H,I,u⟩);rintro n j ⟨y,l,i,J⟩;refine QU g (thn (T B j y l _ i (turn n y l J)) λb o ⟨Y,a,L⟩=>?_)
 cases b with
 |true =>
  let N k L:=L;rw[R5 U];refine QU g (thn (M B o y Y _ a L) λf m t=>?_)
  cases f with
  |next =>
   let r d eg Q:=t;let C p w3:=k r d Q;erw[C,p,r,d,eg,w3]
  |cont =>
   let r d eg Q:=t;let C p w3:=k r d Q;erw[C,p,r,d,eg,w3]
  |brk=>exact t
  |ret v=>exact t
 |false =>
  rw[R6 LZ];exact wpAny_execs_nil ⟨y,Y,a,L⟩
end
set_option genInjectivity false in
structure It where
 go:R->Hp->Prop
 yld:R->Hp->V->Hp->Prop
 stop:R->Hp->Prop
def FpOk(X:Cx)(B:E (e8×hr))(H:Hp)(b:e8):Prop :=
 H b=k7/\b≠X.i.locals/\b∉X.fs/\(b∈X.ex∨X.s₀.H.M.J<=b)/\(∀ x c,X.i.cells.Z x=Z c->c≠b)/\∀ p∈X.pn++B,p.1≠b
def Inv.fpOk{X:Cx}{σ:St}{H H':Hp}{b:e8}(I:Inv X O σ H s)(M:s.H.M.J<=b)(N:H' b=k7):FpOk X O H' b:=by
 erw[N,MZ (Mb I.lt M),I.nofs M,.inr (MB I.sz M),λx c e z=>?_,λp g z=>?_]
 .let v q:=I.cell x c e;exact R7 (Mb q.lt (by simp!)) (Nr _)
 .exact R7 (Mb (QH (I.pin p g).1) (by simp!)) (Nr _)
structure Turn(P:ge)(w:ih)(K:Lo)(tg:fm)(J:It)(fp:E e8)(it:e8)(tn:R->fc->Prop):Prop where
 mem:it∈fp
 obj:∀ i h,tn i h->∀ b∈fp,∃ o,h.R b=Z o/\∀ v,o.data≠.cell v
 keep:∀ i h h',tn i h->(∀ b∈fp,∀ o,h.R b=Z o->h'.R b=Z o)->tn i h'
 item:∀(X:Cx),X.e=P->X.w=w->X.K=K->X.calm=kf->∀(i:R)(pins:E (e8×hr))(s:e9)(σ:St)(H:Hp)(eg:eN->e9->Prop),mi σ H s->(∀ b∈fp,FpOk X pins H b)->tn i s.H->J.go i H ->
  wpAny (model P w) X.A (pyNext (.ref it)) (λr s1=>∃ u,r=Z u /\
   wpAny (model P w) X.A (letOwnedTupleGo tg (.ref it) u) (λ_ s2=>∃ x H',mi σ H' s2/\RelV x u/\J.yld i H x H'/\tn (i+1) s2.H/\∀ b∈fp,H' b=k7) eg s1) eg s
 done:∀(X:Cx),X.e=P->X.w=w->X.K=K->X.calm=kf->∀(i:R)(pins:E (e8×hr))(s:e9)(σ:St)(H:Hp)(eg:eN->e9->Prop),mi σ H s->(∀ b∈fp,FpOk X pins H b)->tn i s.H->J.stop i H ->
  wpAny (model P w) X.A (pyNext (.ref it)) (λr s1=>r=k7/\mi σ H s1) eg s
 self:∀(A:Around)(i:R)(s:e9)(Q:eN->e9->Prop)(eg:eN->e9->Prop),tn i s.H->Q (.ref it) s->wpAny (model P w) A (pyIter (.ref it)) Q eg s
abbrev TI:=St->Hp->(It->Hp->Prop)->Prop
def PIE(X:Cx)(B:E (e8×hr))(σ:St)(tg:fm)(ad:It->Hp->Prop)(d:eN)(s2:e9):Prop :=
 ∃(e:e8)(c:E e8)(a:R->fc->Prop)(J:It)(eK:Hp),d=.ref e/\nv σ eK s2/\Turn X.e X.w X.K tg J c e a/\a 0 s2.H/\(∀ b∈c,FpOk X B eK b)/\ad J eK
def PI(X:Cx)(tg f:fm)(p:TI):Prop :=
 ∀(B:E (e8×hr))(s:e9)(O:St)(H:Hp)(ad:It->Hp->Prop),nv O H s->p O H ad ->
  lf (eval f X.i) (λv j=>lf (pyIter v) (PIE X B O tg ad) X.xe j) X.xe s
def G6{M:Model}{tg:fm}{n:String}{vs:j5 eN}{Q:Unit->e9->Prop}(t:s.H.R it=Z o)(T:o.cls=.type n)(hd:o.data=.fields vs)(N : ["enumerate","zip","dict_itemiterator","dict_reverseitemiterator","odict_iterator","itertools.zip_longest","itertools.pairwise"].contains n=kt)(g:Q () s):wpAny M A (letOwnedTupleGo tg (.ref it) u) Q eg s:=by
 unfold letOwnedTupleGo
 cases tg<;>first
  |exact QV g
  | (cases u<;>first
    |exact QV g
    | (refine QS (wpAny_load t ?_)
       rw[T,hd]
       show wpAny M A (if(["enumerate","zip","dict_itemiterator","dict_reverseitemiterator","odict_iterator","itertools.zip_longest","itertools.pairwise"].contains n&&vs[0]? == Z (rawInt _))=kf then _ else _) Q eg s
       rw[R6 (by intro h;rw[N,MO]at h;cases h)]
       exact QV g))
def Itl(K:Lo)(a:e8):It :=
 ⟨λi H=>∃ J x,na a J/\J[i]?=Z x,λi H x eK=>eK=H/\∀ J,na a J->J[i]?=Z x,λi H=>∃ J,na a J/\J.L<=i⟩
def Itr(lo:G)(n:R):It:=⟨λi _=>i<n,λi H x eK=>eK=H/\x=.int (lo+i),λi _=>n<=i⟩
theorem Co{tg:fm}(a it:e8):Turn P w K tg (Itl K a) [it] it (λi h=>h.IsListIter it a i) where
 mem:=by simp
 obj:=λi h st b M=>by
  let e:b=it:=by simpa using M
  subst e;let o e c d:=st;erw[o,e,λv z=>by simp!]
 keep:=λi h N st k=>st.at λo e=>k it (by simp) o e
 item:=by
  intro X L r hK T i B s O H eg I C st Y;subst L r hK;let j x y J:=Y;let g rv p A:=I.list y;let u eK q:=rv.get J;let f0 f l f3 f4 f5:=C it (by simp)
  refine wpAny_pyNext_list_item st p.isList (x:=u) (by simpa using eK) λN aa sb=>?_
  let n:nv O H {s,N}:=I.turned (t':=s.v) (λb o M e=>(sb.2 b M).Q e) f0 f f3 f4 f5;let o e c d:=id aa;erw[u,U,G6 (s:={s,N}) e c d ∅ ⟨x,H,n,q,⟨U,λt Q=>by rw[I.list_inj Q y];exact J⟩,aa,λb M=>(C b M).1⟩]
 done:=by
  intro X L r hK T i B s O H eg I C st Y;subst L r hK;let j y J:=Y;let g rv p A:=I.list y;let f0 f l f3 f4 f5:=C it (by simp)
  let D:=rv.L;exact wpAny_pyNext_list_end (I.ok.hd T) st p.isList (by simp!) λN m=>⟨U,I.turned (t':=s.v) (λb o M e=>m b o M e) f0 f f3 f4 f5⟩
 self:=λ_ _ _ _ _ st h=>wpAny_pyIter_listiter st h
theorem Bc{tg:fm}(it:e8)(lo:G)(n:R):Turn P w K tg (Itr lo n) [it] it (λi h=>IsRangeIter h it (lo+(i:R)*1) ((n:G)-(i:R)) 1) where
 mem:=by simp
 obj:=λi h st b M=>by
  let e:b=it:=by grind
  subst e
  erw[_,st,λv z=>by
   contradiction]
 keep:=λi h N st k=>k it (by simp) _ st
 item:=by
  intro X D p f T i B s O H eg I C st Y;subst D p f;let eK Q a j g x:=C it (by simp)
  let W:=Walks.range (prog:=X.e) (w:=X.w) (I.ok.hd T) it lo 1 n;refine W.item i s _ _ Y st λv N l m q y=>?_;let t rfl:=m;let d:nv O H {s with heap:=N,toks:=l}:=I.turned (λb o M e=>y b o (by simpa using M) e) eK Q j g x
  erw[9,G6 (s:={s with heap:=N,toks:=l}) (n:="range_iterator") q U U ∅ ⟨.int (lo+i),H,d,⟨t,?_⟩,⟨U,U⟩,q,λb M=>(C b M).1⟩]
  rw[Int.mul_one]
 done:=by
  intro X D p f T i B s O H eg I C st Y;subst D p f;let eK Q a j g x:=C it (by simp)
  exact wpAny_pyNext_range_end (I.ok.hd T) st (by let:n<=i:=Y;lia) λN A=>⟨U,I.turned (t':=s.v) (λb o M e=>A b o M e) eK Q j g x⟩
 self:=λ_ _ _ _ _ st h=>wpAny_pyIter_rangeiter st h
section
variable{X:Cx}{tg:fm}
def iList(K:Lo)(tl:TE):TI:=λO H ad=>tl O H λx l=>∃ a,x=.ref a/\(∃ J,SqL K l a J)/\ad (Itl K a) l
def aN{l:fm}{tl:TE}(hl:PE X l tl):PI X tg l (iList X.K tl):=by
 intro B s O H ad I h;refine thn (hl B s O H _ I h) λv j r=>?_;let x L n A k:=r;let a e{J y}q:=k;subst e
 cases A
 let g rv p d:=n.list y;refine wpAny_pyIter_list p.isList ?_;erw[j.H.M.J,[j.H.M.J],5,L,U,n.kept (t':=j.v) λb o e=>QW _ e,Co a _,⟨_,QX _ U,U,U⟩,λb M=>?_,q];let e:b=j.H.M.J:=by simpa using M
 subst e;exact n.fpOk (Lq _) (n.hok.fresh (Lq _))
def FW{σ:St}{H:Hp}{ad:It->Hp->Prop}{lo hi:G}{t u v:Tok}(I:Inv X O σ H s)(Y : -(2^62)<=lo)(h2:lo<2^62)(f : -(2^62)<=hi)(B:hi<2^62)(q:ad (Itr lo (hi-lo).U) H):lf (pyIter (.ref s.H.M.J)) (PIE X O σ tg ad) eg {s with heap:=s.H.o {cls:=.type "range",data:=.fields #[.int lo t,.int hi u,.int 1 v]},toks:=tk}:=by
 refine wpAny_pyIter_range (IsRange.new ..) (small_one Y h2 f B) ?_;let n:Inv X O σ H {s with heap:=s.H.o {cls:=.type "range",data:=.fields #[.int lo t,.int hi u,.int 1 v]},toks:=tk}:=I.kept λb o e=>QW _ e
 erw[(s.H.o {cls:=.type "range",data:=.fields #[.int lo t,.int hi u,.int 1 v]}).M.J,[(s.H.o {cls:=.type "range",data:=.fields #[.int lo t,.int hi u,.int 1 v]}).M.J],5,H,U,
  n.kept (t':=tk) λb o e=>QW _ e,Bc _ lo (hi-lo).U,3,λb M=>?_,q]
 .let C:lo+((0:R):G)*1=lo:=by simp
  let D:(((hi-lo).U:R):G)-((0:R):G)=QY lo hi 1:=by rw[rangeSize_one];grind
  show IsRangeIter _ _ (lo+((0:R):G)*1) ((((hi-lo).U:R):G)-((0:R):G)) 1;rw[C,D];exact QX _ U
 .let e:b=(s.H.o {cls:=.type "range",data:=.fields #[.int lo t,.int hi u,.int 1 v]}).M.J:=by simpa using M
  subst e;exact n.fpOk (Lq _) (n.hok.fresh (Lq _))
def iRng1(d:TA):TI:=λO H ad=>d O H λL l=>∃ j:G,L=[.int j]/\-(2^62)<=j/\j<2^62/\ad (Itr 0 j.U) l
def aO{a:fm}{d:TA}{p:Pos}(Y:Gl X "range")(D:X.mg "range"=k7)(T:PA X [a] d)(hs:uP_ (QM [a] X.i=[(kt,eval a X.i)]) uR_):PI X tg (.Call (.Name "range" p) [a] [] pos) (iRng1 d):=by
 intro B s O H ad I h;refine Call_ (kP I Y D boot_range (QZ (thn (T pos B s O H _ I h) λeg J ⟨L,l,n,A,k⟩=>?_) hs U));let j e k g q:=k;subst e
 cases A with
 |cons r x =>
  cases x
  let t rfl:=r;exact call_range_1 (FW n ∅ ∅ k g (by simpa using q))
def tFor(p:TI)(g:TG)(tb:TS):TS:=λD O H=>p O H λJ l=>∃ W:R->R->St->Hp->Prop,(∃ m,W 0 m O l)/\∀ i m O H,W i m O H ->
 (J.stop i H/\D.nx O H)∨(J.go i H/\∃ N:St->Hp->Prop,(∀ z eK,N z eK->∃ C,C<m/\W (i+1) C z eK)/\∀ x eK,J.yld i H x eK->g x O eK λh Y=>tb (D.lop (N)) h Y)
def AE(fp:E e8)(h:fc):E (e8×hr):=fp.filterMap λb=>(h.R b).h λo=>(b,o)
theorem j9{b:e8}(M:b∈fp)(e:h.R b=Z o):(b,o)∈AE fp h:=PK.mpr ⟨b,M,by rw[e];rfl⟩
def DA{p:e8×hr}(g:p∈AE fp h):p.1∈fp/\h.R p.1=Z p.2:=by
 let b M e:=PK.mp g
 cases q:h.R b with
 |none=>simp!
 |some o =>
  rw[q]at e;let J:(b,o)=p:=Me e;subst J;erw[M,q]
theorem Inv.pinned{σ:St}{H:Hp}(I:Inv X O σ H s)(C:∀ b∈fp,FpOk X O H b)(t:∀ b∈fp,∃ o,s.H.R b=Z o/\∀ v,o.data≠.cell v):Inv X (O++AE fp s.H) σ H s :=
 I.pins_of λp g=>(LG.mp g).elim (λz=>I.pin p (Ma _ z)) λz=>by
  let M e:=DA z;let eK Q a _:=C p.1 M;let o J d:=t p.1 M;rw[e]at J;cases J;erw[e,eK,Q,a,d]
theorem Inv.unpinned{pl:E (e8×hr)}{σ:St}{H:Hp}(I:Inv X (O++pl) σ H s):Inv X O σ H s:=I.pins_of λp g=>I.pin p (Ma _ (Mi _ g))
def bo{ac:fm}{aa:E fo}{wi:TI}{g:TG}{tb:TS}(j:PassesOwn (model X.e X.w) X.A X.i X.xe)(t:X.calm=kf)(hi:PI X tg ac wi)(y:PG X tg g)(M:PSs X aa tb)(hs:∀ x,Q0 ac X.i x=pure x:=by intro _;rfl):PS X (.For tg ac aa [] pos) (tFor wi g tb):=by
 intro B s O H D I h;refine wpAny_For (thn (hi B s O H _ I h) λv k Y=>thn Y λaT q L=>?_) hs;let it fp tn J eK e Q T ab f2 W{m0 w0}turn:=L;subst e;let al:∀{H':Hp},(∀ b∈fp,H' b=k7)->∀ b∈fp,FpOk X B H' b:=λa b M=>⟨a b M,(f2 b M).2⟩;refine codeAny_forLoop_any (λn s'=>∃ i eg H',nv eg H' s'/\tn i s'.H/\(∀ b∈fp,H' b=k7)/\W i n eg H') ?_ m0 ⟨0,O,eK,Q,ab,λb M=>(f2 b M).1,w0⟩;rintro n C ⟨i,ae,c,I3,aI,aS,w3⟩;rcases turn i n ae c w3 with⟨stop,qn⟩|⟨go,N,hN,step⟩
 .refine QU j (thn (T.done X U U U t i B C ae c X.xe I3 (al aS) aI stop) λr s4 ⟨l,I4⟩=>?_);subst l;exact wpAny_execs_nil ⟨ae,c,I4,qn⟩
 .refine QU j (thn (T.item X U U U t i B C ae c X.xe I3 (al aS) aI go) λr s4 ⟨u,l,h4⟩=>?_);subst l;refine QU j (thn h4 λ_ s5 ⟨x,z,I5,r5,y5,an,aX⟩=>?_);let a0:=I5.pinned (al aX) (T.obj _ _ an);refine QU j (thn (y _ s5 ae z x u _ a0 r5 (step x z y5)) λ_ s6 ⟨ap,H6,I6,q6⟩=>?_);refine QU j (thn (M _ s6 ap H6 _ I6 q6) λf s7 q7=>?_);let again:∀{am:St}{H7:Hp},Inv X (B++AE fp s5.H) am H7 s7->N am H7->∃ m,m<n/\∃ i eg H',nv eg H' s7/\tn i s7.H/\(∀ b∈fp,H' b=k7)/\W i m eg H':=λ{am H7} I7 n7=>by
   let m' p w7:=hN am H7 n7;erw[m',p,i+1,am,H7,I7.unpinned,T.keep _ _ _ an λb M o e=>(I7.pin (b,o) (Ma _ (Ma _ (j9 M e)))).1,λb M=>?_,w7];let o e d:=T.obj _ _ an b M;exact(I7.pin (b,o) (Ma _ (Ma _ (j9 M e)))).2.1
  cases f with
  |next=>obtain⟨am,H7,I7,n7⟩:=q7;exact again I7 n7
  |cont=>obtain⟨am,H7,I7,n7⟩:=q7;exact again I7 n7
  |brk=>obtain⟨am,H7,I7,q7⟩:=q7;erw[am,H7,I7.unpinned,q7]
  |ret v=>obtain⟨x7,am,H7,I7,r7,q7⟩:=q7;erw[x7,am,H7,I7.unpinned,r7,q7]
end
def bO{xs:E V}{g:TG}{tb:TS}{D:Ends}{σ:St}{H:Hp}(Pv:R->St->Hp->Prop)(l:Pv 0 σ H)(hl:∀ i σ H,i<=xs.L->Pv i σ H->na a xs)(hs:∀ i x σ H,xs[i]?=Z x->Pv i σ H->g x σ H λh H2=>tb (D.lop (Pv (i+1))) h H2)(hd:∀ σ H,Pv xs.L σ H->D.nx σ H):
  ∃ W:R->R->St->Hp->Prop,(∃ m,W 0 m σ H)/\∀ i m σ H,W i m σ H ->
   ((Itl K a).stop i H/\D.nx σ H)∨((Itl K a).go i H/\∃ N:St->Hp->Prop,(∀ σ' H',N σ' H'->∃ C,C<m/\W (i+1) C σ' H')/\∀ x H',(Itl K a).yld i H x H'->g x σ H' λh H2=>tb (D.lop (N)) h H2):=by
 erw[λi m σ H=>m=xs.L-i/\i<=xs.L/\Pv i σ H,⟨xs.L,by simp,Mh _,l⟩,3]
 rintro i m σ H ⟨rfl,B,p⟩;let q:=hl i σ H B p;by_cases r:i<xs.L
 .refine .inr ⟨⟨xs,xs[i],q,by simp⟩,Pv (i+1),λσ' H' A=>⟨xs.L-(i+1),∅,U,r,A⟩,λx H' y=>?_⟩
  let e y:=y;subst e;exact hs i x σ _ (y xs q) p
 .let e:i=xs.L:=by lia
  subst e;exact .inl ⟨⟨xs,q,Lq _⟩,hd σ H p⟩
def bY{lo:G}{g:TG}{tb:TS}{D:Ends}{σ:St}{H:Hp}(Pv:R->St->Hp->Prop)(l:Pv 0 σ H)(hs:∀ i σ H,i<n->Pv i σ H->g (.int (lo+i)) σ H λh H2=>tb (D.lop (Pv (i+1))) h H2)(hd:∀ σ H,Pv n σ H->D.nx σ H):
  ∃ W:R->R->St->Hp->Prop,(∃ m,W 0 m σ H)/\∀ i m σ H,W i m σ H ->
   ((Itr lo n).stop i H/\D.nx σ H)∨((Itr lo n).go i H/\∃ N:St->Hp->Prop,(∀ σ' H',N σ' H'->∃ C,C<m/\W (i+1) C σ' H')/\∀ x H',(Itr lo n).yld i H x H'->g x σ H' λh H2=>tb (D.lop (N)) h H2):=by
 erw[λi m σ H=>m=n-i/\i<=n/\Pv i σ H,⟨n,by simp,Mh _,l⟩,3]
 rintro i m σ H ⟨rfl,B,p⟩;by_cases r:i<n
 .refine .inr ⟨r,Pv (i+1),λσ' H' A=>⟨n-(i+1),∅,U,r,A⟩,λx H' y=>?_⟩
  let e y:=y;subst e y;exact hs i σ _ r p
 .let e:i=n:=by lia
  subst e;exact .inl ⟨Lq _,hd σ H p⟩
def fY{c:TT}{tb:TS}{D:Ends}{σ:St}{H:Hp}(Pv:St->Hp->Prop)(a:St->Hp->R)(v:Pv σ H)(hs:∀ σ H,Pv σ H->c σ H λb H1=>if b=kf then tb (D.lop (λσ' H'=>Pv σ' H'/\a σ' H'<a σ H)) σ H1 else D.nx σ H1)(mono:∀ σ H Q z,(∀ b H1,Q b H1->z b H1)->c σ H Q->c σ H z):HW c tb D σ H:=by
 erw[λm σ H=>m=a σ H/\Pv σ H,⟨_,U,v⟩,3];rintro m σ H ⟨rfl,p⟩;refine mono σ H _ _ (λb H1 q=>?_) (hs σ H p)
 cases b with
 |true=>exact⟨_,λσ' H' ⟨A,l⟩=>⟨_,l,U,A⟩,q⟩
 |false=>exact q
abbrev R2:=V->V->Hp->VK->Prop
def OpR(X:Cx)(f:eN->eN->Sem eN)(r:R2):Prop :=
 ∀(B:E (e8×hr))(s:e9)(O:St)(H:Hp)(x y:V)(v u:eN)(Q:VK),nv O H s->RelV x v->RelV y u->r x y H Q ->
  lf (f v u) (EP X B O Q) X.xe s
def eO(X:Cx)(f:eN)(r:E V->Hp->VK->Prop):Prop :=
 ∀(B:E (e8×hr))(s:e9)(O:St)(H:Hp)(J:E V)(eg:E eN)(Q:VK),nv O H s->Vals J eg->r J H Q ->
  lf (call f eg) (EP X B O Q) X.xe s
def tOp(r:R2)(d tb:TE):TE:=λO H Q=>d O H λx l=>tb O l λy Y=>r x y Y Q
inductive rI(C:G->G->Prop)(g:G->G->V)(x:L2.V)(y:L2.V)(H:L2.Hp)(Q:L2.VK):Prop
 |mk (i j:_) (_:x=.int i)(_:y=.int j)(_:C i j)(_:Q (g i j) H)
inductive rI0(g:G->G->V)(x:L2.V)(y:L2.V)(H:L2.Hp)(Q:L2.VK):Prop
 |mk (i j:_) (_:x=.int i)(_:y=.int j)(_:Q (g i j) H)
section
variable{X:Cx}{a b c:fm}{ta tb tc:TE}{pos:Pos}
def binT(T:PE X a ta)(M:PE X b tb){σ:St}{H:Hp}{ad:V->V->Hp->Prop}(I:Inv X O σ H s)(h:ta σ H λx H1=>tb σ H1 λy H2=>ad x y H2){f:eN->eN->Sem eN}(C:∀ v u s2 x y H2,Inv X O σ H2 s2->RelV x v->RelV y u->ad x y H2->lf (f v u) Q X.xe s2):
  lf (eval a X.i) (λv s₁=>lf (eval b X.i) (λu s₂=>lf (f v u) Q X.xe s₂) X.xe s₁) X.xe s:=by
 refine thn (T O s σ H _ I h) λv j r=>?_;let x H1 n eg k:=r;refine thn (M O j σ H1 _ n k) λu s2 r=>?_;let y H2 z p L:=r;exact C v u s2 x y H2 z eg p L
def aw{op:Operator}{r:R2}(t:OpR X (Q3 op) r)(T:PE X a ta)(M:PE X b tb):PE X (.BinOp a op b pos) (tOp r ta tb):=by
 intro B s O H Q I h;exact wpAny_BinOp (binT T M I h λv u o x y Y z c D q=>t B o O Y x y v u Q z c D q)
def opI{f:eN->eN->Sem eN}{C:G->G->Prop}{g:G->G->G}(rule:∀(i j:G)(t u:Tok)(s:e9)(Q:eN->e9->Prop)(eg:eN->e9->Prop),C i j->Q (.int (g i j) s.v) {s with toks:=s.v+1}->lf (f (.int i t) (.int j u)) Q eg s):
  OpR X f (rI C λi j=>.int (g i j)):=by
 intro B s O H x y v u Q I c D h;let i j rfl rfl T q:=h;let t rfl:=c;let d rfl:=D;exact rule i j t d s _ _ T ⟨.int (g i j),H,I.tok _,⟨_,U⟩,q⟩
def opI0{f:eN->eN->Sem eN}{g:G->G->G}(rule:∀(i j:G)(t u:Tok)(s:e9)(Q:eN->e9->Prop)(eg:eN->e9->Prop),Q (.int (g i j) s.v) {s with toks:=s.v+1}->lf (f (.int i t) (.int j u)) Q eg s):
  OpR X f (rI0 λi j=>.int (g i j)):=by
 intro B s O H x y v u Q I c D h;let i j rfl rfl q:=h;let t rfl:=c;let d rfl:=D;exact rule i j t d s _ _ ⟨.int (g i j),H,I.tok _,⟨_,U⟩,q⟩
def opB0{f:eN->eN->Sem eN}{g:G->G->i0}(rule:∀(i j:G)(t u:Tok)(s:e9)(Q:eN->e9->Prop)(eg:eN->e9->Prop),Q (.bool (g i j)) s->lf (f (.int i t) (.int j u)) Q eg s):
  OpR X f (rI0 λi j=>.bl (g i j)):=by
 intro B s O H x y v u Q I c D h;let i j rfl rfl q:=h;let t rfl:=c;let d rfl:=D;exact rule i j t d s _ _ ⟨.bl (g i j),H,I,U,q⟩
def CDiv(i j:G):Prop:=0<j/\j<1073741824
def CPow(i j:G):Prop:=0<=j/\j<=1000000/\i.natAbs<2^64
def CMul(i j:G):Prop:=(-(2^64)<i/\i<2^64)∨(-(2^64)<j/\j<2^64)
def CMul.ok{i j:G}(h:CMul i j):IntMulOk i j:=by
 rcases h with⟨Y,L⟩|⟨Y,L⟩
 .exact .of_left (intBits_le_64 Y L)
 .exact .of_right (intBits_le_64 Y L)
def Bb(k:R):(0:G)<=2^k:=by
 rw[two_pow_cast];exact NT _
theorem cA:OpR X (Q3 .Add) (rI0 λi j=>.int (i+j)):=opI0 λ_ _ _ _ _ _ _ q=>add_int q
theorem iW:OpR X (Q3 .Sub) (rI0 λi j=>.int (i-j)):=opI0 λ_ _ _ _ _ _ _ q=>sub_int q
theorem cz:OpR X (Q3 .Mult) (rI CMul λi j=>.int (i*j)):=opI λ_ _ _ _ _ _ _ T q=>mul_int q T.ok
theorem fe:OpR X (Q3 .FloorDiv) (rI CDiv λi j=>.int (i/j)):=opI λi j _ _ _ _ _ T q=>by
 let Y:(0:G)<j:=T.1;let L:j<1073741824:=T.2;exact floordiv_int ∅ (by rw[Ql i ∅];exact q) (.inl (PyProof.noPylong_small ∅))
theorem bG:OpR X (Q3 .Mod) (rI (λ_ j=>0<j) λi j=>.int (i%j)):=opI λi j _ _ _ _ _ T q=>by
 let Y:(0:G)<j:=T;exact mod_int' ∅ (by rw[Int.fmod_eq_emod_of_nonneg i ∅];exact q)
theorem IA:OpR X (Q3 .Pow) (rI CPow λi j=>.int (i^j.U)):=opI λ_ _ _ _ _ _ _ T q=>pow_int_small T.1 T.2.1 T.2.2 q
theorem b9:OpR X (Q3 .LShift) (rI CPow λi j=>.int (i*2^j.U)):=opI λ_ _ _ _ _ _ _ T q=>lshift_int_small T.1 T.2.1 T.2.2 q
theorem de:OpR X (Q3 .RShift) (rI (λ_ j=>0<=j) λi j=>.int (i/2^j.U)):=opI λi j _ _ _ _ _ T q =>
 rshift_int T (by rw[Ql i (Bb _)];exact q)
theorem fN:OpR X (Q3 .BitAnd) (rI0 λi j=>.int (Q4 i j)):=opI0 λ_ _ _ _ _ _ _ q=>and_int q
theorem Dq:OpR X (Q3 .BitOr) (rI0 λi j=>.int (Q5 i j)):=opI0 λ_ _ _ _ _ _ _ q=>or_int q
theorem c9:OpR X (Q3 .BitXor) (rI0 λi j=>.int (Q6 i j)):=opI0 λ_ _ _ _ _ _ _ q=>xor_int q
end
def scal:V->V->i0
 |.non,.non=>kf | .non,.int _=>kf | .int _,.non=>kf | .non,.bl _=>kf | .bl _,.non=>kf | .non,.str _=>kf | .str _,.non=>kf
 |.int _,.int _=>kf | .bl _,.bl _=>kf | .str _,.str _=>kf | .byt _,.byt _=>kf
 |.int _,.str _=>kf | .str _,.int _=>kf | .bl _,.str _=>kf | .str _,.bl _=>kf
 |_,_=>kt
def rEq:R2:=λx y H Q=>scal x y=kf/\Q (.bl (decide (x=y))) H
def rNe:R2:=λx y H Q=>scal x y=kf/\Q (.bl (!decide (x=y))) H
def EJ{i j:G}:decide (V.int i=V.int j)=(i == j):=by
 rw[Oq];simp
def IK{i j:i0}:decide (V.bl i=V.bl j)=(i == j):=by
 rw[Oq];simp
def EI{i j:ff}:decide (V.str i=V.str j)=(i == j):=by
 rw[Oq];simp
def EK{i j:j5 UInt8}:decide (V.byt i=V.byt j)=(i.n == j.n):=by
 rw[Oq];simp
section
variable{X:Cx}{a b c:fm}{ta tb tc:TE}{pos:Pos}
def bj{σ:St}{H:Hp}{Q:VK}{k c:i0}(I:Inv X O σ H s)(q:Q (.bl k) H)(e:k=c):EP X O σ Q (.bool c) s:=by
 subst e;erw[.bl k,H,I,U,q]
def cR:OpR X (QO .Eq) rEq:=by
 intro B s O H x y v u Q I c D h;let p q:=h
 cases x with
 |non =>
  cases c
  cases y with
  |non=>cases D;exact PySem.EqNone.eq_none_none (bj I q (by simp))
  |bl j=>cases D;exact PySem.EqNone.eq_none_bool (bj I q (by simp))
  |int j=>obtain⟨d,rfl⟩:=D;exact PySem.EqNone.eq_none_int (bj I q (by simp))
  |str j=>obtain⟨d,rfl⟩:=D;exact PySem.EqNone.eq_none_str (bj I q (by simp))
  |_=>exact R7 (show kt=kf from p) LZ
 |bl i =>
  cases c
  cases y with
  |non=>cases D;exact PySem.EqNone.eq_bool_none (bj I q (by simp))
  |bl j=>cases D;exact eq_bool (bj I q IK)
  |str j=>obtain⟨d,rfl⟩:=D;exact PySem.EqMixed.eq_bool_str (bj I q (by simp))
  |_=>exact R7 (show kt=kf from p) LZ
 |int i =>
  let t rfl:=c
  cases y with
  |non=>cases D;exact PySem.EqNone.eq_int_none (bj I q (by simp))
  |int j=>obtain⟨d,rfl⟩:=D;exact eq_int (bj I q EJ)
  |str j=>obtain⟨d,rfl⟩:=D;exact PySem.EqMixed.eq_int_str (bj I q (by simp))
  |_=>exact R7 (show kt=kf from p) LZ
 |str i =>
  let t rfl:=c
  cases y with
  |non=>cases D;exact PySem.EqNone.eq_str_none (bj I q (by simp))
  |bl j=>cases D;exact PySem.EqMixed.eq_str_bool (bj I q (by simp))
  |int j=>obtain⟨d,rfl⟩:=D;exact PySem.EqMixed.eq_str_int (bj I q (by simp))
  |str j=>obtain⟨d,rfl⟩:=D;exact eq_str (bj I q EI)
  |_=>exact R7 (show kt=kf from p) LZ
 |byt i =>
  let t rfl:=c
  cases y with
  |byt j=>obtain⟨d,rfl⟩:=D;exact PySem.W.eq_bytes (bj I q EK)
  |_=>exact R7 (show kt=kf from p) LZ
 |_=>cases y<;>exact R7 (show kt=kf from p) LZ
def i4:OpR X (QO .NotEq) rNe:=by
 intro B s O H x y v u Q I c D h;let p q:=h
 cases x with
 |non =>
  cases c
  cases y with
  |non=>cases D;exact PySem.EqNone.ne_none_none (bj I q (by simp))
  |bl j=>cases D;exact PySem.EqNone.ne_none_bool (bj I q (by simp))
  |int j=>obtain⟨d,rfl⟩:=D;exact PySem.EqNone.ne_none_int (bj I q (by simp))
  |str j=>obtain⟨d,rfl⟩:=D;exact PySem.EqNone.ne_none_str (bj I q (by simp))
  |_=>exact R7 (show kt=kf from p) LZ
 |bl i =>
  cases c
  cases y with
  |non=>cases D;exact PySem.EqNone.ne_bool_none (bj I q (by simp))
  |bl j=>cases D;exact ne_bool (bj I q (congrArg not IK))
  |str j=>obtain⟨d,rfl⟩:=D;exact PySem.EqMixed.ne_bool_str (bj I q (by simp))
  |_=>exact R7 (show kt=kf from p) LZ
 |int i =>
  let t rfl:=c
  cases y with
  |non=>cases D;exact PySem.EqNone.ne_int_none (bj I q (by simp))
  |int j=>obtain⟨d,rfl⟩:=D;exact ne_int (bj I q (congrArg not EJ))
  |str j=>obtain⟨d,rfl⟩:=D;exact PySem.EqMixed.ne_int_str (bj I q (by simp))
  |_=>exact R7 (show kt=kf from p) LZ
 |str i =>
  let t rfl:=c
  cases y with
  |non=>cases D;exact PySem.EqNone.ne_str_none (bj I q (by simp))
  |bl j=>cases D;exact PySem.EqMixed.ne_str_bool (bj I q (by simp))
  |int j=>obtain⟨d,rfl⟩:=D;exact PySem.EqMixed.ne_str_int (bj I q (by simp))
  |str j=>obtain⟨d,rfl⟩:=D;exact ne_str (bj I q (congrArg not EI))
  |_=>exact R7 (show kt=kf from p) LZ
 |byt i =>
  let t rfl:=c
  cases y with
  |byt j=>obtain⟨d,rfl⟩:=D;exact PySem.W.ne_bytes (bj I q (congrArg not EK))
  |_=>exact R7 (show kt=kf from p) LZ
 |_=>cases y<;>exact R7 (show kt=kf from p) LZ
theorem qG:OpR X (QO .Lt) (rI0 λi j=>.bl (decide (i<j))):=opB0 λ_ _ _ _ _ _ _ q=>lt_int q
theorem op_le:OpR X (QO .LtE) (rI0 λi j=>.bl (decide (i<=j))):=opB0 λ_ _ _ _ _ _ _ q=>le_int q
theorem ye:OpR X (QO .Gt) (rI0 λi j=>.bl (decide (j<i))):=opB0 λ_ _ _ _ _ _ _ q=>gt_int q
theorem F7:OpR X (QO .GtE) (rI0 λi j=>.bl (decide (j<=i))):=opB0 λ_ _ _ _ _ _ _ q=>ge_int q
def op_isN:OpR X (QO .Is) (λx y H Q=>y=.non/\Q (.bl (decide (x=.non))) H):=by
 intro B s O H x y v u Q I c D h;let rfl q:=h
 cases D
 refine is_none_gen (bj I q ?_)
 cases x<;>first
  | (cases c;rfl)
  | (let t rfl:=c;rfl)
def JV:OpR X (QO .IsNot) (λx y H Q=>y=.non/\Q (.bl (!decide (x=.non))) H):=by
 intro B s O H x y v u Q I c D h;let rfl q:=h
 cases D
 refine isnot_none_gen (bj I q ?_)
 cases x<;>first
  | (cases c;rfl)
  | (let t rfl:=c;rfl)
def aE(b:fm)(h:uP_ (op≠.In) uD_)(h2:uP_ (op≠.NotIn) uD_):behindInMarks op b=kt:=by
 let C:(op == CmpOp.In)=kt:=by simp!
 let eg:(op == CmpOp.NotIn)=kt:=by simp!
 cases b<;>simp[behindInMarks,C,eg]
def cm{r:R2}(t:OpR X (QO op) r)(T:PE X a ta)(M:PE X b tb)(D:behindInMarks op b=kt):PE X (.Compare a [op] [b] pos) (tOp r ta tb):=by
 intro B s O H Q I h;exact wpAny_Compare1 (binT T M I h λv u o x y Y z c J q=>t B o O Y x y v u Q z c J q) D
def tTest(t:TE):TT:=λO H Q=>t O H λx eK=>∃ k,x=.bl k/\Q k eK
def aC{r:R2}(t:OpR X (QO op) r)(T:PE X a ta)(M:PE X b tb)(D:behindInMarks op b=kt):PT X (.Compare a [op] [b] pos) (tTest (tOp r ta tb)):=by
 intro B s O H Q I h
 refine wpAny_isTrue_Compare1 (thn (T B s O H _ I h) λv j ⟨x,l,n,A,f⟩=>thn (M B j O l _ n f) λu o ⟨y,Y,i,p,L⟩ =>
  thn (t B o O Y x y v u _ i A p L) λc m ⟨z,d,eg,g,k,e,N⟩=>?_) D
 subst e
 cases g
 exact QP ⟨d,eg,N⟩
def rW:(QG:R)<2^63:=by rw[sizeLine_eq];decide
def i7{x:V}(r:Vals [x] us):∃ u,us=[u]/\RelV x u:=by
 cases r with
 |cons A p=>cases p;erw[9,A]
def Ba{x y:V}(r:Vals [x,y] us):∃ u w',us=[u,w']/\RelV x u/\RelV y w':=by
 cases r with
 |cons A p =>
  cases p with
  |cons g s=>cases s;erw[37,A,g]
def Fb(T:X.calm=kf):eO X (.builtin "min") (λxs H Q=>∃ i j,xs=[.int i,.int j]/\Q (.int (if j<i then j else i)) H):=by
 intro B s O H xs eg Q I r h;let i j rfl q:=h;let u w rfl{t rfl}{d rfl}:=Ba r;refine min_two_ints (I.ok.hd T) λN l k=>⟨_,H,I.kept k,?_,q⟩;by_cases J:j<i
 .rw[R5 J,R5 J];erw[9]
 .rw[R6 J,R6 J];erw[9]
def Ff:eO X (.type "int") (λxs H Q=>(∃ i,xs=[.int i]/\Q (.int i) H)∨∃ k,xs=[.bl k]/\Q (.int (if k then 1 else 0)) H):=by
 intro B s O H xs eg Q I r h;rcases h with⟨i,rfl,q⟩|⟨k,rfl,q⟩
 .let u rfl t rfl:=i7 r;exact call_int_int ⟨.int i,H,I,⟨_,U⟩,q⟩
 .let u rfl A:=i7 r
  cases A
  exact call_int_bool ⟨.int (if k then 1 else 0),H,I.tok _,⟨_,U⟩,q⟩
end
structure ObjM(h:fc)(x dx C:e8)(mA:ff->io eN):Prop where
 obj:h.R x=Z (NK C dx)
 ns:h.Ns1 dx mA
 ne:dx≠x
def DL{k:ff->io eN}(n:h.Ns1 p k):∃ i,h.R p=Z i/\∀ name,Pp name i=Z (k name):=by
 let o v l w hd eK _ D:=n;erw[o,w,λname=>?_];let e:=D name;unfold nsFind findBy at e;rw[← j5.find?_toList]at e;unfold Pp;rw[hd];dsimp only;split
 .simp!
 .rename_i q;rw[q]at e;let a:v.n.any (·.refKey)=kt:=by
   rw[List.any_eq_false];intro y Q;let z t b:=eK y (j5.mem_toList_iff.mp Q);simp[DictEntry.refKey,b]
  let m:¬ v.n.any (·.refKey)=kf:=by lia
  rw[R6 m];exact congrArg Z e
theorem ObjM.look{x:e8}{k:ff->io eN}(I:ObjM h x a C k):∃ i,PySem.W.InstAt h x (NK C a) C (Z i)/\∀ name,Pp name i=Z (k name) :=
 let ⟨i,t,d⟩:=DL I.ns
 ⟨i,⟨I.obj,U,U,t⟩,d⟩
section
variable{prog:ge}{w:ih}{A:Around}{eg:eN->e9->Prop}{s:e9}{K:Lo}{x dx C f:e8}{mA:ff->io eN}{name:ff}{v:eN}
def KL{b:i0}(X:K.In s.H)(I:ObjM s.H x dx C mA)(Y:NQ K C name=kf)(l:NB K C=kf)(T:LS K (.ref C) name=Z k7)(hv:mA name=Z v)(a:PySem.W.handedIn v=kf)(h:Q v {s with toks:=s.v+1}):
  li A (getAttr (.ref x) name b) Q eg s:=by
 let i J d:=I.look;exact PySem.W.get_value X J (Px Y).1 (PySem.W.findObj_own l T U (by rw[d,hv])) a h
def G7{Q:eN×E eN->e9->Prop}(X:K.In s.H)(I:ObjM s.H x dx C mA)(Y:NQ K C name=kf)(H:LS K (.ref C) name=Z (Z (.ref f)))(n:NU K (.ref f)=kf)(hv:mA name=k7)(h:Q (.ref f,[.ref x]) s):
  li A (getMethod (.ref x) name pl) Q eg s:=by
 let i J d:=I.look;exact PySem.W.method_fn X J (Px Y).1 (Px Y).2 H (beq_iff_eq.mp n) (by show(Pp name i).h (·.isSome)=Z kt;simp[*]) h
def JH{ns:E ff}{Q:Unit->e9->Prop}(X:K.In s.H)(I:ObjM s.H x dx C mA)(hs:LS K (.ref C) "__setattr__"=Z (Z (.builtin "object.__setattr__")))(g:Ov K C=kf)(n:Qg K C name=Z k7)(l:NB K C=kf)(hw:PySem.Within mA ns)(hsz:ns.L<=QG)(h:∀ h',ObjM h' x dx C (λy=>if y=name then Z v else mA y)->QL dx s.H h'->Q () {s with heap:=h',toks:=s.v+2}):
  li A (setAttr (.ref x) name v) Q eg s:=by
 let i J d:=I.look;refine PySem.W.set_plain X J hs (PySem.W.osa_open (s:={s with toks:=s.v+1}) (r:=k7) X J g n λb=>?_);let O T B:=P6 l;let k:s.H.R x=Z ⟨.ref C,Z dx,.plain,#[]⟩:=I.obj;refine QS (QV (QS (QS (wpAny_loadPart k (QS (PySem.W.Looks.here (s:={s with toks:=s.v+1}) (PySem.W.looks_clsIn X T) ?_))))));rw[B];refine QV (a:=Z dx) (QS (QV (QS ?_)));refine wpAny_nsSet1 (s:={s with toks:=s.v+1}) I.ns λh' e c=>?_;let q o p j m f:=e.count (PySem.Within.cons name v hw);refine QS (wpAny_lookBehind j (by rw[m];exact pastItsLine_dict (MB f (by simp[*]))) ?_)
 exact QV (h _ ⟨(c.2 _ (Ne.Y I.ne)).Q I.obj,e,I.ne⟩ c)
def GN{kw:E (ff×eN)}(X:K.In s.H)(D:OL K C=kf)(hi:LS K (.ref C) "__init__"=some (some (.ref f)))(H:PySem.W.typeIn K (.ref f)=some (.type "function"))(h:Q7 (model prog w) (A.under (.builtin "type.__call__" ⟨.ref C::vs,kw⟩)) (.call (.ref f) ⟨.ref (s.H.M.J+1)::vs,kw⟩) (PySem.W.InitBack (s.H.M.J+1) ad)
   {s,(s.H.o Nn).o (NK C s.H.M.J)}):
  Q7 (model prog w) A (.call (.ref C) ⟨vs,kw⟩) ad s:=by
 let l g d t os:=s;exact PySem.W.make_core (PySem.W.makes_of X D) (OF X hi) (λa=>PySem.W.bind_fn X a H) (.inl U) h
end
def putF(f:ff)(v:V):E (ff×V)->E (ff×V)
 |[]=>[(f,v)]
 | (g,x)::r=>if g=f then(g,v)::r else(g,x)::putF f v r
theorem aP(f g:ff)(v:V):∀ fs:E (ff×V),(putF f v fs).Z g=if g=f then Z v else fs.Z g
 |[]=>by
  show O6 g [(f,v)]=_;by_cases h:g=f
  .simp[*]
  .simp[*]
 | (k,x)::r=>by
  let O:=aP f g v r;rw[show putF f v ((k,x)::r)=(if k=f then(k,v)::r else(k,x)::putF f v r) from rfl];by_cases eK:k=f
  .rw[R5 eK];by_cases h:g=k
   .simp[*]
   .let M:(g == k)=kt:=beq_eq_false_iff_ne.mpr h
    simp only[O6,M,R6 (λe:g=f=>h (e.Q eK.Y))]
  .rw[R6 eK];by_cases h:g=k
   .simp[*]
   .let M:(g == k)=kt:=beq_eq_false_iff_ne.mpr h
    simp only[O6,M];exact O
theorem qL(f:ff)(v:V):∀ fs:E (ff×V),f∈(putF f v fs).h (·.1)/\∀ g,g∈fs.h (·.1)->g∈(putF f v fs).h (·.1)
 |[]=>⟨by simp[putF],λg h=>by simp at h⟩
 | (k,x)::r=>by
  let H z:=qL f v r;rw[show putF f v ((k,x)::r)=(if k=f then(k,v)::r else(k,x)::putF f v r) from rfl];grind
theorem qJ(f:ff)(v:V):∀ fs:E (ff×V),(putF f v fs).L<=fs.L+1
 |[]=>by simp[putF]
 | (k,x)::r=>by
  let O:=qJ f v r;rw[show putF f v ((k,x)::r)=(if k=f then(k,v)::r else(k,x)::putF f v r) from rfl];by_cases eK:k=f
  .simp[*]
  .simp[*]
def RelO.some_of{v:V}{o:io eN}(r:RelO (Z v) o):∃ u,o=Z u/\RelV v u:=by
 cases o with
 |none=>exact(show False from r).elim
 |some u=>exact⟨u,U,r⟩
def RelO.none_of{o:io eN}(r:RelO k7 o):o=k7:=by
 cases o with
 |none=>rfl
 |some u=>contradiction
def Ef{v:V}(r:RelV v u):PySem.W.handedIn u=kf:=by
 cases v with
 |non=>cases (show u=eN.none from r);rfl
 |bl b=>cases (show u=eN.bool b from r);rfl
 |int i=>obtain⟨t,e⟩:=(show ∃ t,u=eN.int i t from r);cases e;rfl
 |str x=>obtain⟨t,e⟩:=(show ∃ t,u=eN.str x t from r);cases e;rfl
 |byt b=>obtain⟨t,e⟩:=(show ∃ t,u=eN.bytes b t from r);cases e;rfl
 |flt b=>obtain⟨t,e⟩:=(show ∃ t,u=eN.float b t from r);cases e;rfl
 |ref a=>cases (show u=eN.ref a from r);rfl
 |ty n=>cases (show u=eN.type n from r);rfl
section
variable{P:ge}{w:ih}{H H':Hp}{h h':fc}{a C dx:e8}{fs fs':E (ff×V)}
def uy(A:HOk P w H h)(e:H a=Z (.ins C dx fs)):∃ k,ObjM h a dx C k/\(∀ f,RelO (fs.Z f) (k f))/\PySem.Within k (fs.h (·.1))/\fs.L<=1000/\H dx=Z (.own a):=by
 let d z ne N k n r q:=(show bE P w H h a (.ins C dx fs) from A a _ e);erw[k,⟨N,n,ne⟩,r,q,z,d]
end
structure Cls(K:Lo)(C:e8):Prop where
 pg:NQ K C ff.empty=kf
 hd:NB K C=kf
 po:Ov K C=kf
 sa:LS K (.ref C) "__setattr__"=Z (Z (.builtin "object.__setattr__"))
theorem Cls.get(c:Cls K C)(f:ff):NQ K C f=kf:=c.pg
def gy(K:Lo)(C:e8)(f:ff):Prop:=LS K (.ref C) f=Z k7
def gy.taker{f:ff}(n:gy K C f):Qg K C f=Z k7:=by
 unfold Qg;rw[show LS K (.ref C) f=Z k7 from n];rfl
structure Meth(K:Lo)(C:e8)(m:ff)(f:e8):Prop where
 at_:LS K (.ref C) m=Z (Z (.ref f))
 fn:NU K (.ref f)=kf
 kp:Mu K (.ref f)=kf
section
variable{X:Cx}{pins:E (e8×hr)}{σ:St}{H:Hp}{s:e9}{a C dx:e8}{fs:E (ff×V)}{f:ff}{v:V}{A:Around}{eg:eN->e9->Prop}
def Bv{b:i0}(I:mi σ H s)(e:H a=Z (.ins C dx fs))(c:Cls X.K C)(n:gy X.K C f)(l:fs.Z f=Z v)(h:∀ u s',mi σ H s'->RelV v u->Q u s'):wpAny (model X.e X.w) A (getAttr (.ref a) f b) Q eg s:=by
 let k O r _ _ _:=uy I.hok e;let u eK i:=RelO.some_of (v:=v) (o:=k f) (by rw[← l];exact r f)
 exact KL I.kIn O (c.get f) c.hd n eK (Ef i) (h u _ (I.tok _) i)
def rZ{m:ff}{g:e8}{Q:eN×E eN->e9->Prop}(I:mi σ H s)(e:H a=Z (.ins C dx fs))(c:Cls X.K C)(k:Meth X.K C m g)(l:fs.Z m=k7)(h:Q (.ref g,[.ref a]) s):wpAny (model X.e X.w) A (getMethod (.ref a) m pl) Q eg s:=by
 let J O r _ _ _:=uy I.hok e;let N:J m=k7:=RelO.none_of (by rw[← l];exact r m)
 exact G7 I.kIn O (c.get m) k.at_ k.fn N h
def Bd{y:V}{Q:Unit->e9->Prop}(I:mi σ H s)(e:H a=Z (.ins C dx fs))(c:Cls X.K C)(n:gy X.K C f)(hl:fs.L<1000)(D:RelV y u)(h:∀ s',mi σ (upd H a (.ins C dx (putF f y fs))) s'->Q () s'):wpAny (model X.e X.w) A (setAttr (.ref a) f u) Q eg s:=by
 let k O r p _ t:=uy I.hok e;let d:(fs.h (·.1)).L<=QG:=by rw[Lp,sizeLine_eq];lia
 refine JH I.kIn O c.sa c.po n.taker c.hd p d λN i j=>h _ ?_;let hd:∃ o,N.R dx=Z o:=let ⟨o,_,_,J,_⟩:=i.ns;⟨o,J⟩;refine I.write (x:=a) (e:=dx) (by rw[e];exact True.intro) (.inr t) (λb q M z=>(j.2 b M).Q z) hd ?_
 erw[by rw[ar O.ne];exact t,3,O.ne,i.obj,_,i.ns,λg=>?_,λg Y=>?_]
 .let:=qJ f y fs;lia
 .show RelO ((putF f y fs).Z g) (if g=f then Z u else k g);rw[aP];by_cases q:g=f
  .rw[R5 q,R5 q];exact D
  .rw[R6 q,R6 q];exact r g
 .by_cases q:g=f
  .rw[q];exact(qL f y fs).1
  .refine(qL f y fs).2 g (p g λz=>Y ?_);simp!
def Inv.made(I:Inv X pins σ H s):Inv X pins σ (upd (upd H s.H.M.J (.own (s.H.M.J+1))) (s.H.M.J+1) (.ins C s.H.M.J []))
  {s,(s.H.o Nn).o (NK C s.H.M.J)}:=by
 let j:(s.H.o Nn).R s.H.M.J=Z Nn:=QX s.H U;let eg:((s.H.o Nn).o (NK C s.H.M.J)).R (s.H.M.J+1)=Z (NK C s.H.M.J):=by
  let:=QX (s.H.o Nn) (o:=NK C s.H.M.J) U;rwa[Q8]at this
 let f:(s.H.o Nn).Ns s.H.M.J (λ_=>k7):=⟨Nn,#[],_,j,U,(λe eK=>R7 eK (by simp)),λ_=>rfl⟩
 let n:=I.laid (a:=s.H.M.J) (o:=.own (s.H.M.J+1)) (h':=s.H.o Nn) (t':=s.v) (λb u q=>QW _ q) (Lq _) ⟨_,j⟩;refine n.laid (a:=s.H.M.J+1) (o:=.ins C s.H.M.J []) (t':=s.v) (λb u q=>QW _ q) (P2 (Q8 _ _)) ?_;let ne:s.H.M.J≠s.H.M.J+1:=LQ (Nl _);erw[by rw[ar ne,ag],Mh _,ne,eg,λ_=>k7,(fc.Ns1.of_empty f).at λo q=>QW _ q,λ_=>True.intro,λy Q=>R7 rfl Q]
theorem Lh{prog:ge}{e:fm}{f:ff}{s:e9}(M:attributeBase e f env (eval e env)=eval e env)(h:li A (eval e env) (λo s₁=>li A (getAttr o f kf) Q eg s₁) eg s):li A (eval (.Attribute e f pos) env) Q eg s :=
 Attribute_any_ h (by rw[arm_eval_Attribute,M])
end
def tFld(K:Lo)(d:TE)(f:ff):TE:=λO H Q=>d O H λx l=>∃ a C j fs v,x=.ref a/\l a=Z (.ins C j fs)/\Cls K C/\gy K C f/\fs.Z f=Z v/\Q v l
def sFld(K:Lo)(d e:TE)(f:ff):TS:=λD O H=>e O H λy l=>d O l λx Y=>∃ a C j fs,x=.ref a/\Y a=Z (.ins C j fs)/\Cls K C/\gy K C f/\fs.L<1000 /\
 D.nx O (upd Y a (.ins C j (putF f y fs)))
section
variable{X:Cx}{o e value:fm}{f:ff}{pos pos' tpos:Pos}{ta tv:TE}
def bX(eK:PE X e ta)(M:attributeBase e f X.i (eval e X.i)=eval e X.i):PE X (.Attribute e f pos) (tFld X.K ta f):=by
 intro B s O H Q I h;refine Lh M (thn (eK B s O H _ I h) λu j ⟨x,L,i,r,a,C,d,fs,v,b,g,c,n,l,q⟩=>?_);subst b;obtain rfl:u=eN.ref a:=r;exact Bv i g c n l λA o z w=>⟨v,L,z,w,q⟩
def oF(T:PE X o ta)(hv:PE X value tv)(hs:swapsWith value (Z (.Attribute o f pos')) pos.line X.i=pure kt):PS X (.Assign [.Attribute o f pos'] value pos) (sFld X.K ta tv f):=by
 intro B s O H D I h;refine plainObj_wpAny_Assign_Attribute (thn (hv B s O H _ I h) λu j ⟨y,L,i,J,q⟩=>thn (T B j O L _ i q) λk eK ⟨x,Y,z,r,a,C,d,fs,b,t,c,n,l,g⟩=>?_) hs;subst b;obtain rfl:k=eN.ref a:=r;exact Bd z t c n l J λm eg=>⟨O,_,eg,g⟩
end
section
variable{X:Cx}{pins:E (e8×hr)}{σ:St}{H:Hp}{s:e9}{A:Around}{eg:eN->e9->Prop}{Q:eN->e9->Prop}{c:eN}{b:i0}
inductive TyOf(K:Lo)(H:Hp):V->eN->Prop where
 |non:TyOf K H .non (.type "NoneType")
 |bl (x:i0):TyOf K H (.bl x) (.type "bool")
 |int (i:G):TyOf K H (.int i) (.type "int")
 |str (x:ff):TyOf K H (.str x) (.type "str")
 |flt (x:UInt64):TyOf K H (.flt x) (.type "float")
 |lst {a:e8} {xs:E V} (e:H a=Z (.lst xs)):TyOf K H (.ref a) (.type "list")
 |frz {a:e8} {o:hr} {xs:E V} (e:H a=Z (.frz o (.lst xs))):TyOf K H (.ref a) (.type "list")
 |tup {a:e8} {xs:E V} (e:H a=Z (.tup xs)):TyOf K H (.ref a) (.type "tuple")
 |dK {a:e8} {kvs:E (Key×V)} (e:H a=Z (.dK kvs)):TyOf K H (.ref a) (.type "dict")
 |dT {a:e8} {kvs:E (E Key×V)} (e:H a=Z (.dT kvs)):TyOf K H (.ref a) (.type "dict")
 |ins {a C dx:e8} {fs:E (ff×V)} (e:H a=Z (.ins C dx fs)) (cl:Cls K C) (ha:LS K (.ref C) "__class__"=Z (Z (.builtin "object.__class__")))
   (hn:PN K (.builtin "object.__class__") "__get__"=Z (Z (.builtin "getset_descriptor.__get__"))) (htk:Qf K (.builtin "object.__class__")=Z kf)
   (hm:Nz K C (.type "object")=Z kf):TyOf K H (.ref a) (.ref C)
def DX{x:V}{t:eN}(I:mi σ H s)(r:RelV x u)(ty:TyOf X.K H x t)(e:M8 X.K t c=Z b)(h:∀ tk,Q (.bool b) {s with toks:=tk}):
  wpAny (model X.e X.w) A (call (.builtin "isinstance") [u,c]) Q eg s:=by
 cases ty with
 |non=>cases (show u=eN.none from r);exact MY PySem.W.kitx_none I.kIn True.intro e (λz=>nomatch z) h
 |bl y=>cases (show u=eN.bool y from r);exact MY PySem.W.kitx_bool I.kIn True.intro e (λz=>nomatch z) h
 |int i=>obtain⟨t,q⟩:=(show ∃ t,u=eN.int i t from r);cases q;exact MY PySem.W.kitx_int I.kIn True.intro e (λz=>nomatch z) h
 |str y=>obtain⟨t,q⟩:=(show ∃ t,u=eN.str y t from r);cases q;exact MY PySem.W.kitx_str I.kIn True.intro e (λz=>nomatch z) h
 |flt y=>obtain⟨t,q⟩:=(show ∃ t,u=eN.float y t from r);cases q;exact MY PySem.W.kitx_float I.kIn True.intro e (λz=>nomatch z) h
 | @lst a j g =>
  cases (show u=eN.ref a from r)
  let _ _ n _ Y:=(show bE X.e X.w H s.H a (.lst j) from I.hok a _ g);exact MY PySem.W.kitx_list I.kIn ⟨_,Y,U⟩ e (λz=>nomatch z) h
 | @frz a f j g =>
  cases (show u=eN.ref a from r)
  let _ _ _ n _ Y:=(show bE X.e X.w H s.H a (.frz f (.lst j)) from I.hok a _ g);exact MY PySem.W.kitx_list I.kIn ⟨_,Y,U⟩ e (λz=>nomatch z) h
 | @tup a j g =>
  cases (show u=eN.ref a from r)
  let _ _ _ p:=(show bE X.e X.w H s.H a (.tup j) from I.hok a _ g);let o Y L _:=p;exact MY PySem.W.kitx_tuple I.kIn ⟨o,Y,L⟩ e (λz=>nomatch z) h
 | @dK a m g =>
  cases (show u=eN.ref a from r)
  let _ _ M _ p:=(show bE X.e X.w H s.H a (.dK m) from I.hok a _ g);let o v l Y L _:=p;exact MY PySem.W.kitx_dict I.kIn ⟨o,Y,L.1⟩ e (λz=>nomatch z) h
 | @dT a m g =>
  cases (show u=eN.ref a from r)
  let _ _ j _ o v l Y L _:=(show bE X.e X.w H s.H a (.dT m) from I.hok a _ g);exact MY PySem.W.kitx_dict I.kIn ⟨o,Y,L.1⟩ e (λz=>nomatch z) h
 | @ins a C d fs g eK T N aa D =>
  cases (show u=eN.ref a from r)
  let B O _:=uy I.hok g;let k J _:=O.look;exact MY (PySem.W.kitx_own (eK.get _) eK.hd T N aa D) I.kIn J e (λz=>nomatch z) h
end
structure Room(k:R)(A:Around):Prop where
 hd:A.handled=k7
 dp:A.depth+3*k+5<recursionLimit
 un:A.units+16*k+200<cLine
theorem Room.mono{k:R}(r:Room k A)(h:j<=k):Room j A:=⟨r.hd,by let:=r.dp;lia,by let:=r.un;lia⟩
theorem Room.deeper{k:R}(r:Room (k+1) A)(env:gI):Room k (A.deeper env) :=
 ⟨r.hd,by let:=r.dp;show A.depth+1+3*k+5<_;lia,by let:=r.un;show A.units+3+16*k+200<_;lia⟩
def Bp{kw:E (ff×eN)}:(A.under (.builtin "type.__call__" ⟨.ref C::us,kw⟩)).depth=A.depth+1:=by
 rfl
def Bo{kw:E (ff×eN)}:(A.under (.builtin "type.__call__" ⟨.ref C::us,kw⟩)).units=A.units+1:=by
 rfl
theorem Room.make{k:R}(r:Room (k+1) A)(C:e8)(us:E eN)(kw:E (ff×eN)):Room k (A.under (.builtin "type.__call__" ⟨.ref C::us,kw⟩)) :=
 ⟨r.hd,by let:=r.dp;rw[Bp];lia,by let:=r.un;rw[Bo];lia⟩
def Room.depth{k:R}(r:Room k A):A.depth<recursionLimit:=by let:=r.dp;lia
def Room.units{k:R}(r:Room k A):A.units+64<cLine:=by let:=r.un;lia
def tNil:TA:=λ_ H Q=>Q [] H
def tCons(d:TE)(tr:TA):TA:=λO H Q=>d O H λx l=>tr O l λJ Y=>Q (x::J) Y
section
variable{X:Cx}{e:fm}{es:E fm}{te:TE}{t:TA}{pos:Pos}
theorem aj:PA X [] tNil:=λ_ _ _ _ H Q I h=>Q9 ⟨[],H,I,.nil,h⟩
def af(T:PE X e te)(N:PA X es t)(hs:uP_ (QM (e::es) X.i=(kt,eval e X.i)::QM es X.i) uR_):PA X (e::es) (tCons te t):=by
 intro pos B s O H Q I h;rw[hs];show wpAny _ _ (spliced ((kt,eval e X.i)::backTo pos (QM es X.i))) _ _ s;refine Ra (thn (T B s O H _ I h) λu j ⟨x,l,n,A,k⟩=>?_);exact thn (N pos B j O l _ n k) λeg o ⟨J,Y,z,p,L⟩=>⟨x::J,Y,z,.cons A p,L⟩
def tTup(t:TA):TE:=λO H Q=>t O H λJ l=>J.L<=QG/\∀ p,l p=k7->Q (.ref p) (upd l p (.tup J))
def tLst(t:TA):TE:=λO H Q=>t O H λJ l=>J.L<=QG/\∀ p,l p=k7->Q (.ref p) (upd l p (.lst J))
def cj{x1}(h:PA X es t):PE X (.Tuple es x1 pos) (tTup t):=by
 intro B s O H Q I y;refine wpAny_Tuple_spliced (thn (h pos B s O H _ I y) λeg j ⟨J,l,n,r,z,q⟩=>⟨by rw[← r.L];exact z,?_⟩)
 let C:l j.H.M.J=k7:=n.hok.fresh (Lq _);erw[.ref j.H.M.J,upd l j.H.M.J (.tup J),n.laid (t':=j.v) (λb u e=>QW _ e) (Lq _) ?_,U,q _ C];erw[z,eg,r,⟨_,QX _ U,U,_,U⟩]
def dB(h:PA X es t):PE X (.List es pos) (tLst t):=by
 intro B s O H Q I y;refine wpAny_List_spliced (thn (h pos B s O H _ I y) λeg j ⟨J,l,n,r,z,q⟩=>⟨by rw[← r.L];exact z,?_⟩)
 let C:l j.H.M.J=k7:=n.hok.fresh (Lq _);erw[.ref j.H.M.J,upd l j.H.M.J (.lst J),n.laid (t':=j.v) (λb u e=>QW _ e) (Lq _) ?_,U,q _ C];erw[z,eg,00,r,QX _ U]
end
abbrev Sp:=E V->Hp->VK->XK->Prop
abbrev CXT:=E gI->Hp->e9->XK->eN->e9->Prop
structure Env0(P:ge)(w:ih)(K:Lo)(mg:ff->io eN)(base:fc)(A:Around)(outer:E gI)(s:e9)(H:Hp):Prop where
 frames:A.frames=Z outer
 mod:Mod K mg base
 bs:∀ b o,base.R b=Z o->s.H.R b=Z o/\H b=k7
 bsz:base.M.J<=s.H.M.J
 funs:s.H.FunFrames base outer
 frf:∀ b∈frs outer,H b=k7
 hok:HOk P w H s.H
 bare:AllBare s.gens
def CE(outer:E gI)(P:ge)(w:ih)(H:Hp)(s:e9)(Q:VK)(u:eN)(s':e9):Prop :=
 ∃ v eK,s'.os=s.os/\AllBare s'.gens/\Un (frs outer) [] H eK s.H s'.H/\HOk P w eK s'.H/\RelV v u/\Q v eK
def CR(CX:CXT)(outer:E gI)(P:ge)(w:ih)(H:Hp)(s:e9)(Q:VK)(eg:XK)(r:Result)(s':e9):Prop :=
 match r with
 |.ok (.ret u)=>CE outer P w H s Q u s'
 |.ok _=>False
 |.error e=>CX outer H s eg e s'
structure FnOk(P:ge)(w:ih)(K:Lo)(mg:ff->io eN)(base:fc)(CX:CXT)(k:R)(f:e8)(fd:fk)(ps:E ff)(sp:Sp):Prop where
 len:∀ vs H Q eg,sp vs H Q eg->vs.L=ps.L
 run:∀(A:Around)(outer:E gI)(s:e9)(H:Hp)(args:Args)(us:E eN)(vs:E V)(Q:VK)(eg:XK),Room k A->Env0 P w K mg base A outer s H->BindsTo s fd args (ps.zip us)->Vals vs us->sp vs H Q eg ->
  Q7 (model P w) A (.call (.ref f) args) (CR CX outer P w H s Q eg) s
theorem Env0.make{H:Hp}(e:Env0 P w K mg base A outer s H)(C:e8)(us:E eN)(kw:E (ff×eN)):
  Env0 P w K mg base (A.under (.builtin "type.__call__" ⟨.ref C::us,kw⟩)) outer s H:=⟨by first|exact e.frames|(simpa[Around.under,Code.envs,Code.isFrame,pushEnvs] using e.frames),e.mod,e.bs,e.bsz,e.funs,e.frf,e.hok,e.bare⟩
section
variable{X:Cx}{pins:E (e8×hr)}{σ:St}{H:Hp}{s s':e9}
theorem Inv.env0(I:Inv X pins σ H s):Env0 X.e X.w X.K X.mg X.base X.A X.stack s H :=
 ⟨I.ok.frames,I.ok.mod,I.bs,MB I.ok.bsz I.sz,I.stack,I.stkFree,I.hok,I.bare⟩
def Inv.after{Q:VK}(I:Inv X pins σ H s)(h:CE X.stack X.e X.w H s Q u s'):EP X pins σ Q u s':=by
 let v eK os a un A r q:=h;let l g d t c:=s';obtain rfl:c=s.os:=os;erw[v,eK,I.call (h':=l) (g':=g) (d':=d) (t':=t) (ch:=[]) un A a (λb z=>R7 z (by simp)),r,q]
end
def FC(sp:Sp)(b:E V)(eg:XK)(t:TA):TE:=λO H Q=>t O H λL l=>sp (L++b) l Q eg
def tMeth(C:e8)(m:ff)(sp:Sp)(b:E V)(eg:XK)(d:TE)(t:TA):TE:=λO H Q=>d O H λx l=>∃ a j fs,x=.ref a/\l a=Z (.ins C j fs)/\fs.Z m=k7 /\
 t O l λL Y=>sp (x::(L++b)) Y Q eg
def tMake(C:e8)(sp:Sp)(b:E V)(eg:XK)(t:TA):TE:=λO H Q=>t O H λL l=>∀ x j,l x=k7->l j=k7->j≠x ->
 sp (.ref x::(L++b)) (upd (upd l j (.own x)) x (.ins C j [])) (λv Y=>v=.non/\Q (.ref x) Y) eg
def fu(K:Lo)(fd:fk)(ps:E ff)(ds:E eN):Prop :=
 ∀(s:e9)(eg:E eN),K.In s.H->(eg++ds).L=ps.L->BindsTo s fd ⟨eg,[]⟩ (ps.zip (eg++ds))
theorem fu.all{ps:E ff}(h:∀ us:E eN,us.L=ps.L->bindArgs fd ⟨us,[]⟩=pure (ps.zip us)):fu K fd ps []:=λs us _ d=>by
 rw[OP]at d ⊢;exact .of_eq (h us d)
def oO(CX:CXT)(X:Cx)(eg:XK):Prop:=∀(B:E (e8×hr))(O:St)(H:Hp)(s:e9)(e:eN)(m:e9),nv O H s->CX X.stack H s eg e m->X.xe e m
section
variable{X:Cx}{CX:CXT}{k:R}{f C:e8}{fd:fk}{ps:E ff}{sp:Sp}{dvs:E V}{ds:E eN}{eg:XK}{x m:ff}{p pos apos:Pos}{e o:fm}{es:E fm}{ta:TE}{t:TA}
def Ay{σ:St}{H:Hp}{Q:VK}{vs:E V}(F:FnOk X.e X.w X.K X.mg X.base CX k f fd ps sp)(N:Room k X.A)(M:fu X.K fd ps ds)(hd:Vals dvs ds)(J:oO CX X eg)(I:Inv X O σ H s)(r:Vals vs us)(h:sp (vs++dvs) H Q eg):lf (call (.ref f) us) (EP X O σ Q) X.xe s:=by
 let p:Vals (vs++dvs) (us++ds):=r.append hd;let d:(us++ds).L=ps.L:=by rw[← p.L];exact F.len _ _ _ _ h
 refine wpAny_call (Rb (F.run X.A X.stack s H ⟨us,[]⟩ (us++ds) (vs++dvs) Q eg N I.env0 (M s us I.kIn d) p h) λr m y=>?_)
 cases r with
 |error e=>exact J O σ H s e m I y
 |ok B =>
  cases B with
  |ret u=>exact I.after y
  |next=>exact False.elim y
  |brk=>exact False.elim y
  |cont=>exact False.elim y
def JT(F:FnOk X.e X.w X.K X.mg X.base CX k f fd ps sp)(N:Room k X.A)(Y:Gl X x)(D:X.mg x=Z (.ref f))(o:Mu X.K (.ref f)=kf)(M:fu X.K fd ps ds)(hd:Vals dvs ds)(J:oO CX X eg)(T:PA X (e::es) t)(u:uP_ ((x == ("__debug__" : ff))=kt) uD_)(eK:uP_ (QM (e::es) X.i=(kt,eval e X.i)::QM es X.i) uR_)(b:uP_ ((backTo pos (QM es X.i)).any (·.1)=kt) uR_):
  PE X (.Call (.Name x p) (e::es) [] pos) (FC sp dvs eg t):=by
 intro B s O H Q I h;refine Rc (lR I Y D ?_ u);refine Oh (h₀:=X.base) I.ok.mod.kin o (thn (T pos B s O H _ I h) λg j ⟨L,l,n,r,q⟩=>⟨n.kIn,?_⟩) eK b;exact Ay F N M hd J n r q
def F6(F:FnOk X.e X.w X.K X.mg X.base CX k f fd ps sp)(N:Room k X.A)(Y:Gl X x)(D:X.mg x=Z (.ref f))(eK:Mu X.K (.ref f)=kf)(M:fu X.K fd ps ds)(hd:Vals dvs ds)(J:oO CX X eg)(u:uP_ ((x == ("__debug__" : ff))=kt) uD_):PE X (.Call (.Name x p) [] [] pos) (FC sp dvs eg tNil):=by
 intro B s O H Q I h;refine Rc (lR I Y D ?_ u);exact PySem.W.callWith_K0 I.kIn eK (Ay (us:=[]) F N M hd J I .nil h)
def tZ(eK:PE X o ta)(c:Cls X.K C)(D:Meth X.K C m f)(F:FnOk X.e X.w X.K X.mg X.base CX k f fd ps sp)(N:Room k X.A)(M:fu X.K fd ps ds)(hd:Vals dvs ds)(J:oO CX X eg)(T:PA X (e::es) t)(ab:uP_ (QM (e::es) X.i=(kt,eval e X.i)::QM es X.i) uR_)(aa:uP_ ((backTo pos (QM es X.i)).any (·.1)=kt) uR_)(n:uP_ (eval (.Call (.Attribute o m apos) (e::es) [] pos) X.i=(do
   let ov ← eval o X.i
   standAt apos.atName
   let (f,first) ← holding [ov] (getMethod ov m pl)
   callWith pos f first (backTo pos (QM (e::es) X.i)) (backToKw pos (keywordEach [] X.i)))) uR_):
  PE X (.Call (.Attribute o m apos) (e::es) [] pos) (tMeth C m sp dvs eg ta t):=by
 intro B s O H Q I h;refine PySem.W.methodCall_KW (pl:=pl) (thn (eK B s O H _ I h) λu j ⟨x,L,i,v,a,b,fs,p,y,l,q⟩=>?_) n;subst p;obtain rfl:u=eN.ref a:=v;refine rZ i y c D l ?_;refine Oh (first:=[.ref a]) (h₀:=X.base) I.ok.mod.kin D.kp (thn (T pos B j O L _ i q) λus d ⟨vs,Y,z,r,g⟩=>⟨z.kIn,?_⟩) ab aa;exact Ay (us:=.ref a::us) (vs:=.ref a::vs) F N M hd J z (.cons U r) g
def mQ(eK:PE X o ta)(c:Cls X.K C)(D:Meth X.K C m f)(F:FnOk X.e X.w X.K X.mg X.base CX k f fd ps sp)(N:Room k X.A)(M:fu X.K fd ps ds)(hd:Vals dvs ds)(J:oO CX X eg)(n:uP_ (eval (.Call (.Attribute o m apos) [] [] pos) X.i=(do
   let ov ← eval o X.i
   standAt apos.atName
   let (f,first) ← holding [ov] (getMethod ov m pl)
   callWith pos f first (backTo pos (QM [] X.i)) (backToKw pos (keywordEach [] X.i)))) uR_):
  PE X (.Call (.Attribute o m apos) [] [] pos) (tMeth C m sp dvs eg ta tNil):=by
 intro B s O H Q I h;refine PySem.W.methodCall_KW (pl:=pl) (thn (eK B s O H _ I h) λu j ⟨x,L,i,r,a,d,fs,b,g,l,q⟩=>?_) n;subst b;obtain rfl:u=eN.ref a:=r;refine rZ i g c D l ?_;exact PySem.W.callWith_K0 (first:=[.ref a]) i.kIn D.kp (Ay (us:=[.ref a]) (vs:=[.ref a]) F N M hd J i (.cons U .nil) q)
structure Mk(K:Lo)(C f:e8):Prop where
 makes:OL K C=kf
 init:LS K (.ref C) "__init__"=Z (Z (.ref f))
 fn:NU K (.ref f)=kf
 kp:Mu K (.ref C)=kf
def FV{σ:St}{H:Hp}{Q:VK}{vs:E V}(M:Mk X.K C f)(F:FnOk X.e X.w X.K X.mg X.base CX k f fd ps sp)(N:Room (k+1) X.A)(g:fu X.K fd ps ds)(hd:Vals dvs ds)(J:oO CX X eg)(I:Inv X O σ H s)(r:Vals vs us)(h:∀ x j,H x=k7->H j=k7->j≠x->sp (.ref x::(vs++dvs)) (upd (upd H j (.own x)) x (.ins C j [])) (λv H2=>v=.non/\Q (.ref x) H2) eg):
  lf (call (.ref C) us) (EP X O σ Q) X.xe s:=by
 let y:=h (s.H.M.J+1) s.H.M.J (I.hok.fresh (NV _)) (I.hok.fresh (Lq _)) (LQ (Nl _));let z:=Inv.made (C:=C) I;let p:Vals (V.ref (s.H.M.J+1)::(vs++dvs)) (eN.ref (s.H.M.J+1)::(us++ds)):=.cons U (r.append hd);let d:(eN.ref (s.H.M.J+1)::us++ds).L=ps.L:=by
  let e:=p.L;rw[F.len _ _ _ _ y]at e;exact e.Y
 refine wpAny_call (GN (f:=f) I.kIn M.makes M.init (beq_iff_eq.mp M.fn) (Rb (F.run _ X.stack _ _ ⟨eN.ref (s.H.M.J+1)::us,[]⟩ (eN.ref (s.H.M.J+1)::(us++ds)) _ _ eg (N.make C us [])
  (z.env0.make C us []) (g _ (eN.ref (s.H.M.J+1)::us) z.kIn d) p y) λr m n=>?_))
 cases r with
 |error e=>exact J O σ _ _ e m z n
 |ok B =>
  cases B with
  |ret u =>
   let v eK c rv i t:=z.after n;subst i;erw[rv,⟨V.ref (s.H.M.J+1),eK,c,U,t⟩]
  |next=>exact False.elim n
  |brk=>exact False.elim n
  |cont=>exact False.elim n
def yb(M:Mk X.K C f)(F:FnOk X.e X.w X.K X.mg X.base CX k f fd ps sp)(N:Room (k+1) X.A)(Y:Gl X x)(D:X.mg x=Z (.ref C))(g:fu X.K fd ps ds)(hd:Vals dvs ds)(J:oO CX X eg)(T:PA X (e::es) t)(u:uP_ ((x == ("__debug__" : ff))=kt) uD_)(eK:uP_ (QM (e::es) X.i=(kt,eval e X.i)::QM es X.i) uR_)(b:uP_ ((backTo pos (QM es X.i)).any (·.1)=kt) uR_):
  PE X (.Call (.Name x p) (e::es) [] pos) (tMake C sp dvs eg t):=by
 intro B s O H Q I h;refine Rc (lR I Y D ?_ u);refine Oh (h₀:=X.base) I.ok.mod.kin M.kp (thn (T pos B s O H _ I h) λz j ⟨L,l,n,r,q⟩=>⟨n.kIn,?_⟩) eK b;exact FV M F N g hd J n r q
end
section
variable{X:Cx}{CX:CXT}{k:R}{f C:e8}{fd:fk}{ps ks:E ff}{sp:Sp}{eg:XK}{x m:ff}{p pos apos kpos:Pos}{e o:fm}{es:E fm}{kws:E Keyword}{te ta:TE}{t tk:TA}{nm:io ff}
variable{g:E eN->E eN->E eN}{gV:E V->E V->E V}
end
structure az(N P:E ff)(sc:hx):Prop where
 kind:sc.kind=.function
 co:sc.isCoroutine=kt
 gen:sc.isGenerator=kt
 nd:N.l
 pre:N.j P.L=P
 par:∀ x∈P,sc.names.Z x=Z .local∨sc.names.Z x=Z .cell
 nofree:∀ y∈sc.names,y.2≠.free
theorem w6{Rf:ff->io NameKind}{x:ff}:∀{binds:E (ff×eN)}{m:ff->io eN},(∀ v,(x,v)∉binds)->bindL Rf binds m x=m x
 |[],_,_=>rfl
 | (n,v)::r,m,h=>by
  unfold bindL;rw[w6 λw p=>h w (Lu _ p)];split
  .let:x≠n:=by rintro rfl;exact h v Ly
   simp[this]
  .rfl
theorem xh{Rf:ff->io NameKind}{x:ff}:∀{binds:E (ff×eN)}{m:ff->io eN},(∀ v,(x,v)∉binds)->bindC Rf binds m x=m x
 |[],_,_=>rfl
 | (n,v)::r,m,h=>by
  unfold bindC;rw[xh λw p=>h w (Lu _ p)];split
  .rfl
  .let:x≠n:=by rintro rfl;exact h v Ly
   simp[this]
theorem xc{Rf:ff->io NameKind}{x:ff}{v:eN}:∀{P:E ff}{vs:E eN}{i:R}{m:ff->io eN},P.l->P[i]?=Z x->vs[i]?=Z v->Rf x=Z .local ->
  bindL Rf (P.zip vs) m x=Z v
 |[],_,_,_,_,h,_,_=>by contradiction
 |_::_,[],_,_,_,_,h,_=>by contradiction
 |p::P,w::vs,0,m,u,Y,L,eK=>by
  simp at Y L;subst Y;subst L;show bindL Rf ((p,w)::P.zip vs) m p=_;unfold bindL;rw[w6 λv H=>(LF.mp u).1 (Pe H).1,R5 eK];simp
 |p::P,w::vs,i+1,m,u,Y,L,eK=>by
  show bindL Rf ((p,w)::P.zip vs) m x=_;unfold bindL;exact xc (i:=i) (LF.mp u).2 (by simpa using Y) (by simpa using L) eK
theorem xj{Rf:ff->io NameKind}{x:ff}{v:eN}:∀{P:E ff}{vs:E eN}{i:R}{m:ff->io eN},P.l->P[i]?=Z x->vs[i]?=Z v->Rf x≠Z .local ->
  bindC Rf (P.zip vs) m x=Z v
 |[],_,_,_,_,h,_,_=>by contradiction
 |_::_,[],_,_,_,_,h,_=>by contradiction
 |p::P,w::vs,0,m,u,Y,L,eK=>by
  simp at Y L;subst Y;subst L;show bindC Rf ((p,w)::P.zip vs) m p=_;unfold bindC;rw[xh λv H=>(LF.mp u).1 (Pe H).1,R6 eK];simp
 |p::P,w::vs,i+1,m,u,Y,L,eK=>by
  show bindC Rf ((p,w)::P.zip vs) m x=_;unfold bindC;exact xj (i:=i) (LF.mp u).2 (by simpa using Y) (by simpa using L) eK
def rE(N:E ff)(vs:E V):St:=vs.h Z++LD (N.L-vs.L) k7
def cxOf(CX:CXT)(P:ge)(w:ih)(K:Lo)(mg:ff->io eN)(base:fc)(N:E ff)(j:ff)(scope:hx)(f:e8)(O:eN)(A:Around)(outer:E gI)(s:e9)(H:Hp)(eg:XK):Cx where
 prog:=P
 w:=w
 K:=K
 mg:=mg
 base:=base
 A:=A.deeper (envOfC j scope s.H.M.J f O)
 N:=N
 s₀:=s
 H₀:=H
 env:=envOfC j scope s.H.M.J f O
 outer:=outer
 stack:=envOfC j scope s.H.M.J f O::outer
 ex:=[]
 calm:=kf
 fn:=λ_=>kf
 pn:=[]
 xe:=λe m=>wpAny (model P w) (A.deeper (envOfC j scope s.H.M.J f O)) (leaving (envOfC j scope s.H.M.J f O) e) (λ_ a=>CX outer H s eg e a) (λJ a=>CX outer H s eg J a) m
def A3{a:hx}(h:a.names.Z x=Z .cell):∃ c,(cellsFrom n a.names []).Z x=Z c:=by
 let q:=PySem.W.cellsFrom_some a.names n [] (.inl h);exact O1.mp q
def DY{CX:CXT}{N ps:E ff}{j:ff}{O:eN}{s1:e9}{H:Hp}{eg:XK}{vs:E V}(S:az N ps scope)(hd:A.handled=k7)(e0:Env0 P w K mg base A outer s H)(hl:vs.L=ps.L)(r:Vals vs us)(x:InCallC s s.H.M.J (bindL (envOfC j scope s.H.M.J f O).kindOf (ps.zip us) λ_=>k7) (cellsFrom (s.H.M.J+1) scope.names []) (bindC (envOfC j scope s.H.M.J f O).kindOf (ps.zip us) λ_=>k7) s1):
  Inv (cxOf CX P w K mg base N j scope f O A outer s H eg) [] (rE N vs) H s1:=by
 let d:ps.L<=N.L:=by let:=congrArg List.length S.pre;rw[M9]at this;lia
 let Y l rfl eK:=x.done;let m:∀ b:e8,b∉(cxOf CX P w K mg base N j scope f O A outer s H eg).ex:=λb z=>R7 (show b∈([]:E e8) from z) (by simp)
 erw[⟨e0.mod,S.kind,U,U,Lq _,λy z c Y L=>?_,λy Q=>?_,λy c _ h=>?_,λ_=>hd,Around.frames_deeper e0.frames,.inr ⟨U,U⟩,λb z=>R7 z (m b),e0.bs,e0.bsz,λb _ _=>m b,λb z=>R7 z (m b),e0.funs,e0.frf⟩,
  rfl,e0.bare,Un.kept eK,⟨_,x.toInCall.ns,λi y v Y L o=>?_⟩,λy c h=>⟨_,x.cell y c h⟩,e0.hok.fresh (Lq _),λy c h=>?_,λp g=>R7 (show p∈([]:E (e8×hr)) from g) (by simp),e0.hok.kept eK,3]
 .exact name_of_addr x.apart (NC Y) (NC L)
 .let Q:scope.names.Z y=Z .cell∨scope.names.Z y=Z .free:=Q
  obtain Q|Q:=Q
  .exact A3 Q
  .exact R7 U (S.nofree _ (NC Q))
 .exact LN (x.above y c (NC h))
 .let B:i<vs.L:=by
   unfold rE at L;by_cases B:i<vs.L
   .exact B
   .rw[Lr (by simpa using B)]at L
    rw[Nb]at L;simp!
  let T:vs[i]?=Z v:=by
   unfold rE at L;rw[Ls (by simpa using B),LA]at L
   cases e:vs[i]? with
   |none=>simp!
   |some a=>rw[e]at L;simp!
  let u M rv:=r.get T;let g:ps[i]?=Z y:=by
   rw[← S.pre,List.getElem?_take_of_lt ∅];exact Y
  let t:ps.l:=by rw[← S.pre];exact S.nd.sublist (List.take_sublist _ _)
  erw[u,rv,3];rcases S.par y (Ln g)with k|k
  .exact .inl ⟨k,xc t g M k⟩
  .let c e:=A3 (n:=s.H.M.J+1) k;refine .inr ⟨.inl k,c,e,?_⟩;let q:=x.cell y c e;rw[xj t g M (by show scope.names.Z y≠_;rw[k];decide)]at q
   exact q
 .exact e0.hok.fresh (LN (x.above y c (NC h)))
 .unfold rE;show _=N.L;simp[*]
def KN{CX:CXT}{k:R}{name j:ff}{ae:Arguments}{h:E fo}{dV kV c D B ct oc:eN}{an L:io e8}{ac:j5 (io eN)}{N ps:E ff}{sp:Sp}(lk:K.Z f=some ⟨oc,L,.func (Nc name j ae h scope dV kV c D an B ct),ac⟩)(i:Np K B j=kf)(S:az N ps scope)(len:∀ vs H Q eg,sp vs H Q eg->vs.L=ps.L)(aa:∀(A:Around)(outer:E gI)(s:e9)(H:Hp)(vs:E V)(Q:VK)(eg:XK),Room k (A.deeper (envOfC j scope s.H.M.J f B))->sp vs H Q eg ->
   ∃ t,PSs (cxOf CX P w K mg base N j scope f B A outer s H eg) h t/\t {nx:=λ_ H'=>Q .non H',rt:=Q} (rE N vs) H):
  FnOk P w K mg base CX (k+1) f (Nc name j ae h scope dV kV c D an B ct) ps sp:=by
 erw[len,λA outer s H ap g vs Q eg l O M r ab=>?_];let d:=len _ _ _ _ ab;let KX:K.In s.H:=O.mod.kin.keeps λb o e=>(O.bs b o e).1;let am:s.H.NoLimit:=O.mod.nolimit.keeps λb o e=>(O.bs b o e).1;let aI:∀ y∈ps.zip g,scope.names.Z y.1=Z .local∨(scope.names.Z y.1=Z .cell/\((cellsFrom (s.H.M.J+1) scope.names []).Z y.1).isSome=kf):=λ⟨n,v⟩ a=>by
  obtain q|q:=S.par n (Pe a).1
  .exact .inl q
  .exact .inr ⟨q,PySem.W.cellsFrom_some _ _ _ (.inl q)⟩
 refine codeAny_call_function l.depth (KX _ _ lk) U S.co S.gen U (PySem.W.codeRec_of KX i) (M _ _ _ _ ?_);refine wpAny_newFunctionEnv_cells S.kind aI λal eK s1 x=>?_;subst eK;erw[am.keeps x.toInCall.keep,codeAny_func ?_];let t Y C:=aa A outer s H vs Q eg (l.deeper _) ab;let I:Inv (cxOf CX P w K mg base N j scope f B A outer s H eg) [] (rE N vs) H s1:=DY S l.hd O d r x;refine QN (Y [] s1 (rE N vs) H _ I C) (λfl m p=>?_) λe m p=>p;let T:∀{z:St}{H':Hp}{v:V}{u:eN},Inv (cxOf CX P w K mg base N j scope f B A outer s H eg) [] z H' m->RelV v u->Q v H'->CE outer P w H s Q u m :=
  λ{z H' v u} J rv q=>⟨v,H',J.os,J.bare,J.base,J.hok,rv,q⟩
 cases fl with
 |ret u =>
  let v z H' J rv q:=p;exact T J rv q
 |next =>
  let z H' J q:=p;exact T (v:=V.non) (u:=eN.none) J U q
 |brk =>
  let _ _ _ q:=p;exact False.elim q
 |cont =>
  let _ _ _ q:=p;exact False.elim q
section
variable{X:Cx}{x:ff}{p pos:Pos}{e:fm}{es:E fm}{t:TA}{id T:String}{r:E V->Hp->VK->Prop}
def tCB(r:E V->Hp->VK->Prop)(t:TA):TE:=λO H Q=>t O H λL l=>r L l Q
def ay(T:eO X (.builtin id) r)(Y:Gl X x)(D:X.mg x=k7)(hv:QJ x=Z (.builtin id))(i:PA X (e::es) t)(N:uP_ (x≠"__name__") uD_)(u:uP_ ((x == ("__debug__" : ff))=kt) uD_)(eK:uP_ (QM (e::es) X.i=(kt,eval e X.i)::QM es X.i) uR_)(b:uP_ ((backTo pos (QM es X.i)).any (·.1)=kt) uR_):PE X (.Call (.Name x p) (e::es) [] pos) (tCB r t):=by
 intro B s O H Q I h;refine Rc (kP I Y D hv ?_ N u);exact PyProof.Rows.callWith_builtin1 (thn (i pos B s O H _ I h) λeg j ⟨L,l,n,A,k⟩=>T B j O l L eg Q n A k) eK b
def dD(d:eO X (.type T) r)(Y:Gl X x)(D:X.mg x=k7)(hv:QJ x=Z (.type T))(i:PA X (e::es) t)(N:uP_ (x≠"__name__") uD_)(u:uP_ ((x == ("__debug__" : ff))=kt) uD_)(eK:uP_ (QM (e::es) X.i=(kt,eval e X.i)::QM es X.i) uR_)(b:uP_ ((backTo pos (QM es X.i)).any (·.1)=kt) uR_):PE X (.Call (.Name x p) (e::es) [] pos) (tCB r t):=by
 intro B s O H Q I h;refine Rc (kP I Y D hv ?_ N u);exact QZ (thn (i pos B s O H _ I h) λeg j ⟨L,l,n,A,k⟩=>d B j O l L eg Q n A k) eK b
end
end L2
variable{X:L2.Cx}{H H' H1 H2:L2.Hp}{sp:L2.Sp}{σ:L2.St}{tt:L2.TT}{v y z:L2.V}{kvs:E (L2.Key×L2.V)}{xs ys zs:E L2.V}{QQ:E L2.V->L2.Hp->Prop}
namespace HT
open PySem PyProof.Rows
section
open PySem.SeqAt
open PySem.AutoSeq1 (wpAny_loadPart')
open PySem.MeetsSeq PySem.MeetsSeq2 PySem.MeetsSeq3
end
section
variable{prog:ge}{w:ih}{A:Around}{eg:eN->e9->Prop}{s:e9}
def sIx(n d:R):io G->R
 |none=>d
 |some v=>if v<0 then(v+(n:G)).U else min v.U n
theorem sIx_none(n d:R):sIx n d k7=d:=rfl
def sIx_nat(n d k:R):sIx n d (Z (k:G))=min k n:=by
 rfl
end
end HT
namespace L2
open PySem PySem.Spec PyProof.Rows
abbrev TO:=St->Hp->(io G->Hp->Prop)->Prop
def PO(X:Cx)(e:io fm)(t:TO):Prop :=
 ∀(B:E (e8×hr))(s:e9)(O:St)(H:Hp)(Q:io G->Hp->Prop),nv O H s->t O H Q ->
  lf (evalPart e X.i) (λu m=>∃ o eK,nv O eK m/\IsPart u o/\Q o eK) X.xe s
def Jy:TO:=λ_ H Q=>Q k7 H
def tPart(t:TE):TO:=λO H Q=>t O H λx l=>∃ i,x=.int i/\Q (Z i) l
section
variable{X:Cx}{e:fm}{te:TE}{lo hi:io fm}{tl th:TO}{pos p2:Pos}
def qC:PO X k7 Jy:=by
 intro B s O H Q I h;rw[evalPart_none];exact QV ⟨k7,H,I,.none,h⟩
def qB(h:PE X e te):PO X (Z e) (tPart te):=by
 intro B s O H Q I p;rw[evalPart_some];refine thn (h B s O H _ I p) λu j r=>?_;let x l n A k:=r;let i rfl q:=k;let t rfl:=A;erw[Z i,l,n,.int i t,q]
def SlR(X:Cx)(r:V->io G->io G->Hp->VK->Prop):Prop :=
 ∀(B:E (e8×hr))(s:e9)(O:St)(H:Hp)(x:V)(v y a:eN)(lo hi:io G)(d:e8)(Q:VK),nv O H s->RelV x v->s.H.IsSliceOf d y a .none->IsPart y lo->IsPart a hi->r x lo hi H Q ->
  ∃ T id,typeLookup (.type T) "__getitem__"=pure (Z (.builtin id))/\s.TypeIs v T/\lf (getItem v (.ref d)) (EP X B O Q) X.xe s
def tSl(r:V->io G->io G->Hp->VK->Prop)(te:TE)(tl th:TO):TE:=λO H Q=>te O H λx L=>tl O L λl Y=>th O Y λu d=>r x l u d Q
def mP{r:V->io G->io G->Hp->VK->Prop}(N:SlR X r)(eK:PE X e te)(hl:PO X lo tl)(M:PO X hi th):PE X (.Subscript e (.Slice lo hi k7 p2) pos) (tSl r te tl th):=by
 intro B s O H Q I h;refine Subscript_ (thn (eK B s O H _ I h) λv j ⟨x,L,i,eg,k⟩=>?_);refine wpAny_Slice (thn (hl B j O L _ i k) λy o ⟨l,Y,z,D,g⟩=>thn (M B o O Y _ z g) λa m ⟨u,d,c,pu,t⟩=>?_);rw[evalPart_none];refine QV ?_;let C:nv O d {m,m.H.o {cls:=.type "slice",data:=.fields #[y,a,.none]}}:=c.kept (t':=m.v) λb f q=>QW _ q;let T id p n J:=N B {m,m.H.o {cls:=.type "slice",data:=.fields #[y,a,.none]}} O d x v y a l u m.H.M.J Q C eg (fc.IsSliceOf.new ..) D pu t;show lf (subscriptTail e (.Slice lo hi k7 p2) v (.ref m.H.M.J)) (EP X B O Q) X.xe {m,m.H.o {cls:=.type "slice",data:=.fields #[y,a,.none]}};exact tail_any (ops:=[.ref m.H.M.J,v]) n p J (by with_unfolding_all rfl)
def cutV(xs:E V)(lo hi:io G):E V:=(xs.drop (HT.sIx xs.L 0 lo)).j (HT.sIx xs.L xs.L hi-HT.sIx xs.L 0 lo)
def zN(xs:E V)(lo hi:io G):(cutV xs lo hi).L<=xs.L:=by
 unfold cutV;rw[M9,P8];lia
end
def ixN(n:R)(i:G):io R:=if 0<=i then(if i<n then Z i.U else k7) else if -(n:G)<=i then Z (i+n).U else k7
def atI{α:Type}(xs:E α)(i:G):io α:=(ixN xs.L i).bind λj=>xs[j]?
def DU{i:G}(h:ixN n i=Z j):seqIndex? i n=Z j/\j<n/\-(n:G)<=i/\i<n:=by
 unfold ixN at h;by_cases l:0<=i
 .rw[R5 l]at h;by_cases Y:i<n
  .rw[R5 Y]at h;let e:i.U=j:=Me h;erw[by rw[seqIndex_of l Y,e],20,Y]
  .simp!
 .rw[R6 l]at h;by_cases Y : -(n:G)<=i
  .rw[R5 Y]at h;let e:(i+n).U=j:=Me h;erw[by rw[seqIndex_neg ∅ Y,e],4,Y,4]
  .simp!
def Fi{xs:E α}{i:G}{v:α}(h:atI xs i=Z v):∃ j,seqIndex? i xs.L=Z j/\xs[j]?=Z v/\j<xs.L/\-(xs.L:G)<=i/\i<xs.L:=by
 unfold atI at h
 cases e:ixN xs.L i with
 |none=>rw[e]at h;cases h
 |some j =>
  rw[e]at h;let Y L f B:=DU e;erw[j,Y,h,L,f,B]
def aB{xs:E α}{v:α}(h:xs[j]?=Z v):atI xs (j:G)=Z v:=by
 let J:j<xs.L:=(Lm.mp h).1;let e:ixN xs.L (j:G)=Z j:=by
  unfold ixN;rw[R5 ∅,R5 ∅];simp
 unfold atI;rw[e];exact h
def rB(b:fm):Prop:=∀ o i,subscripted b kt o i=operate [o,i] (getItem o i)
def IxR(X:Cx)(r:R2):Prop :=
 ∀(e b:fm)(B:E (e8×hr))(s:e9)(O:St)(H:Hp)(x y:V)(v u:eN)(Q:VK),nv O H s->RelV x v->RelV y u->r x y H Q ->
  subscripted b kt v u=operate [v,u] (getItem v u)->lf (subscriptTail e b v u) (EP X B O Q) X.xe s
def MtR(X:Cx)(id:String)(r:V->E V->Hp->VK->Prop):Prop :=
 ∀(B:E (e8×hr))(s:e9)(O:St)(H:Hp)(x:V)(J:E V)(v:eN)(eg:E eN)(Q:VK),nv O H s->RelV x v->Vals J eg->r x J H Q ->
  lf (call (.builtin id) (v::eg)) (EP X B O Q) X.xe s
section
variable{X:Cx}{a b:fm}{ta tb:TE}{pos:Pos}
def F0{r:R2}(N:IxR X r)(T:PE X a ta)(M:PE X b tb)(hs:rB b):PE X (.Subscript a b pos) (tOp r ta tb):=by
 intro B s O H Q I h;exact Subscript_ (binT T M I h λv u o x y Y z c D q=>N a b B o O Y x y v u Q z c D q (hs _ _))
inductive rIxL(K:Lo)(x:L2.V)(y:L2.V)(H:L2.Hp)(Q:L2.VK):Prop
 |mk (p xs i v:_) (_:x=.ref p)(_:y=.int i)(_:na p xs)(_:atI xs i=Z v)(_:Q v H)
inductive rIxT(K:Lo)(x:L2.V)(y:L2.V)(H:L2.Hp)(Q:L2.VK):Prop
 |mk (p xs i v:_) (_:x=.ref p)(_:y=.int i)(_:SqT K H p xs)(_:atI xs i=Z v)(_:Q v H)
def DT:IxR X (rIxL X.K):=by
 intro o b B s O H x y v u Q I c D h m;let p J i z rfl rfl C eK q:=h
 cases c
 let t rfl:=D;let g r n A:=I.list C;let j Y L f eg a:=Fi eK;let w ew M:=r.get L;let d:=r.L;let N:=rW;let T:EP X B O Q w s:=⟨z,H,I,M,q⟩;by_cases l:0<=i
 .let k:i.U=j:=by
   rw[seqIndex_of l a]at Y;exact Me Y
  exact item_listR n.isList l ∅ (by simp[*]) T m
 .let k:(i+(g.toArray.J:G)).U=j:=by
   rw[seqIndex_neg ∅ eg]at Y
   rw[Mn,← d];exact Me Y
  exact subscriptTail_builtinR (x:=w) n.isList.typeIs slot_list_getitem.Z
   (wpAny_getItem_list_neg (Q:=λr e=>r=w/\EP X B O Q r e) n.isList ∅ (by simp!) ∅ (by rw[k];simpa using ew) ⟨U,T⟩) m
def IH:IxR X (rIxT X.K):=by
 intro e b B s O H x y v u Q I c D h m;let p J i z rfl rfl C eK q:=h
 cases c
 let t rfl:=D;let g r n A:=I.tuple C;let j Y L f eg a:=Fi eK;let w k M:=r.get L;let d:=r.L;let N:=rW;let T:EP X B O Q w s:=⟨z,H,I,M,q⟩;exact subscriptTail_builtinR (x:=w) n.typeIs slot_tuple_getitem.Z
  (getItem_tuple (j:=j) (Q:=λr l=>r=w/\EP X B O Q r l) n ∅ ∅ (by simp!) (by simpa using k) ⟨U,T⟩) m
def Bl(its:E eN)(n j:R)(u:eN):Rg (·.setIfInBounds j u) {cls:=.type "list",data:=.seq its.toArray n}={cls:=.type "list",data:=.seq (its.set j u).toArray n}:=by
 simp[Rg]
def Inv.lst{B:E (e8×hr)}{σ:St}{H:Hp}{s:e9}{p:e8}{xs:E V}(I:Inv X B σ H s)(h:H p=Z (.lst xs)):
  ∃(its:E eN)(n:R),Vals xs its/\s.H.R p=Z {cls:=.type "list",data:=.seq its.toArray n}/\xs.L<=QG:=by
 let z its n r e:=I.hok p _ h;erw[its,n,r,e,z]
def Inv.lstUpd{its':E eN}{f:hr->hr}(I:Inv X O σ H s)(h:H p=Z (.lst xs))(w:s.H.R p=Z {cls:=.type "list",data:=.seq its.toArray n})(C:f {cls:=.type "list",data:=.seq its.toArray n}={cls:=.type "list",data:=.seq its'.toArray N})(r:Vals ys its')(hz:ys.L<=QG)(t:R):
  Inv X O σ (upd H p (.lst ys)) {s with heap:=s.H.update p f,toks:=t}:=by
 let e:(s.H.update p f).R p=Z {cls:=.type "list",data:=.seq its'.toArray N}:=by
  rw[Rh f w (by rw[C]<;>rfl),C]
 refine I.write (x:=p) (e:=p) (by rw[h];trivial) (.inl U) (λb u M q=>(Ri _ _ (Ne.Y M)).Q q) ⟨_,e⟩ ?_
 erw[hz,its',N,r,e]
inductive rSetL(o:L2.V)(i:L2.V)(v:L2.V)(H:L2.Hp)(Q:(Hp->Prop)):Prop
 |mk (p xs k j:_) (_:o=.ref p)(_:i=.int k)(_:H p=Z (.lst xs))(_:ixN xs.L k=Z j)(_:Q (upd H p (.lst (xs.set j v))))
def mB:PSet X rSetL:=by
 intro B s O H o i v c T u Q I b e rv h;let p J k j rfl rfl g C q:=h
 cases b
 let t rfl:=e;let a n r w A:=I.lst g;let Y L f eg:=DU C;let d:=r.L;let N:=rW;let D:nv O (upd H p (.lst (J.set j v))) {s,s.H.update p (Rg (·.setIfInBounds j u))} :=
  I.lstUpd g w (Bl a n j u) (r.set rv j) (by rw[Nk];exact A) s.v
 by_cases l:0<=k
 .let eK:k.U=j:=by
   rw[seqIndex_of l eg]at Y;exact Me Y
  exact PySem.W.ki_setAt w l ∅ (by simp!) (by rw[eK];erw[_,D,q])
 .let eK:(k+(a.toArray.J:G)).U=j:=by
   rw[seqIndex_neg ∅ f]at Y
   rw[Mn,← d];exact Me Y
  exact PySem.W.ki_setBack w ∅ (by simp!) ∅ (by rw[eK];erw[_,D,q])
def vq(lo hi:io G)(n:R):(sliceBounds lo hi k7 n).1=((HT.sIx n 0 lo:R):G)/\(sliceBounds lo hi k7 n).2.1=((HT.sIx n n hi:R):G)/\(sliceBounds lo hi k7 n).2.2=1:=by
 erw[47]
 .cases lo with
  |none=>simp[sliceBounds,HT.sIx]
  |some i =>
   simp only[sliceBounds,HT.sIx,io.getD_none,show(1:G) > 0 by decide,if_true]
   by_cases h:i<0
   .simp only[h,if_true]<;>lia
   .grind
 .cases hi with
  |none=>simp[sliceBounds,HT.sIx]
  |some i =>
   simp only[sliceBounds,HT.sIx,io.getD_none,show(1:G) > 0 by decide,if_true]
   by_cases h:i<0
   .simp only[h,if_true]<;>lia
   .simp only[h,if_false]<;>lia
def sW(its:E eN)(lo hi:io G):slicePick its.toArray lo hi k7=((its.drop (HT.sIx its.L 0 lo)).j (HT.sIx its.L its.L hi-HT.sIx its.L 0 lo)).toArray:=by
 let Y L f:=vq lo hi its.toArray.J;unfold slicePick;rw[Y,L,f];simp only[sliceRange_one,pick_run,Mn]<;>rfl
inductive rSlL(K:Lo)(x:L2.V)(lo:io G)(hi:io G)(H:L2.Hp)(Q:L2.VK):Prop
 |mk (a xs:_) (_:x=.ref a)(_:na a xs)(_:∀ p,H p=k7->Q (.ref p) (upd H p (.lst (cutV xs lo hi))))
def qm:SlR X (rSlL X.K):=by
 intro B s O H x v y e lo f d Q I c p D k h;let a j rfl J q:=h
 cases c
 let g r n A:=I.list J;let i:=r.L;erw["list",_,slot_list_getitem.Z,n.isList.typeIs,3];refine wpAny_getItem_list_slice n.isList p D k .none (by simp) ?_ (by simp!)
 rw[sW,← i];erw[.ref s.H.M.J,_,I.laid (t':=s.v) (o:=.lst (cutV j lo f)) (λb N q=>QW _ q) (Lq _) ?_,U,q _ (I.hok.fresh (Lq _))];erw[MB (zN j lo f) A,_,00,(r.drop (HT.sIx j.L 0 lo)).j (HT.sIx j.L j.L f-HT.sIx j.L 0 lo),QX _ U]
def ax:eO X (.builtin "len") (λxs H Q=>∃ p ys,xs=[.ref p]/\(SqL X.K H p ys∨SqT X.K H p ys)/\Q (.int ys.L) H):=by
 intro B s O H xs eg Q I r h;let p ys rfl y q:=h;let u rfl c:=i7 r
 cases c
 let N:=rW;obtain y|y:=y
 .let g eK D A:=I.list y;let i:=eK.L;exact Calls.call_len_list D.isList (by simp only[Mn]<;>lia) ⟨.int ys.L,H,I.tok _,⟨s.v+1,by rw[Mn,i]⟩,q⟩
 .let g eK D A:=I.tuple y;let i:=eK.L;exact len_tuple D (by simp only[Mn]<;>lia) ⟨.int ys.L,H,I.tok _,⟨s.v+1,by rw[Mn,i]⟩,q⟩
def eJ:eO X (.type "list") (λxs H Q=>∃ p ys,xs=[.ref p]/\(SqL X.K H p ys∨SqT X.K H p ys)/\∀ l,H l=k7->Q (.ref l) (upd H l (.lst ys))):=by
 intro B s O H xs eg Q I r h;let p ys rfl y q:=h;let u rfl c:=i7 r
 cases c
 let C:∀(g:E eN),Vals ys g->ys.L<=QG->∀(N:fc)(D:R),(∀ b j,s.H.R b=Z j->N.R b=Z j) ->
   N.R s.H.M.J=Z {cls:=.type "list",dict:=k7,data:=.seq g.toArray D,slots:=#[]}->EP X B O Q (.ref s.H.M.J) {s,N}:=λg eK A N D d e =>
  ⟨.ref s.H.M.J,_,I.laid (t':=s.v) d (Lq _) (show bE X.e X.w _ N _ (.lst ys) from⟨A,g,D,eK,e⟩),U,q _ (I.hok.fresh (Lq _))⟩
 obtain y|y:=y
 .let g eK a A:=I.list y;let i:=eK.L;let o t T n hd:=a.isList;exact call_list_seq p (.inl U) t T hd (λN D d e=>C g eK A N D d e) (by simp!)
 .let g eK a A:=I.tuple y;let i:=eK.L;let o t T n hd:=a;exact call_list_seq p (.inr U) t T hd (λN D d e=>C g eK A N D d e) (by simp!)
def tyV(K:Lo)(T:String)(x:V)(H:Hp):Prop:=match x with
 |.str _=>T = "str"
 |.int _=>T = "int"
 |.ref p=>(T = "list"/\∃ J,na p J)∨(T = "tuple"/\∃ o,K.Z p=Z o/\o.cls=.type "tuple"/\o.dict=k7) ∨
   (T = "dict"/\((∃ m,H p=Z (.dK m))∨∃ m,H p=Z (.dT m)))∨(T = "set"/\∃ S n,H p=Z (.set S n))
 |_=>False
def HU{T:String}{x:V}{v:eN}(I:Inv X O σ H s)(r:RelV x v)(ty:tyV X.K T x H):
  s.TypeIs v T/\∀ a,v=.ref a->∃ ob,s.H.R a=Z ob/\ob.dict=k7:=by
 cases x with
 |str z =>
  let t rfl:=r
  cases (show T = "str" from ty)
  erw[typeIs_str s z t,λ_ e=>nomatch e]
 |int i =>
  let t rfl:=r
  cases (show T = "int" from ty)
  erw[typeIs_int s i t,λ_ e=>nomatch e]
 |ref p =>
  cases r
  rcases ty with⟨rfl,J,y⟩|⟨rfl,o,eK,d,hd⟩|⟨rfl,eK⟩|⟨rfl,S,n,eK⟩
  .let g _ D _:=I.list y;erw[D.isList.typeIs,λa e=>?_]
   cases e
   let o n e c hd _:=D;erw[o,e,hd]
  .erw[⟨o,I.kIn p o eK,d⟩,λa e=>?_]
   cases e
   erw[o,I.kIn _ o eK,hd]
  .let z:∃ o,s.H.R p=Z o/\o.ExactDict:=by
    rcases eK with⟨m,eK⟩|⟨m,eK⟩
    .let _ _ _ _ o _ _ e b _:=I.hok p _ eK;erw[o,e,b]
    .let _ _ _ _ o _ _ e b _:=I.hok p _ eK;erw[o,e,b]
   let o e b:=z;erw[⟨o,e,b.1⟩,λa eg=>?_]
   cases eg
   erw[o,e,b.2.1]
  .let o _ _ _ e b _:=I.hok p _ eK;erw[⟨o,e,b.1⟩,λa eg=>?_]
   cases eg
   erw[o,e,b.2.1]
 |_=>exact False.elim ty
def tBM0(K:Lo)(T:String)(r:V->E V->Hp->VK->Prop)(b:TE):TE:=λO H Q=>b O H λx l=>tyV K T x l/\r x [] l Q
def tBM(K:Lo)(T:String)(r:V->E V->Hp->VK->Prop)(b:TE)(t:TA):TE:=λO H Q=>b O H λx l=>tyV K T x l/\t O l λJ Y=>r x J Y Q
variable{o e:fm}{es:E fm}{to:TE}{t:TA}{name:ff}{apos cpos:Pos}{T id:String}{r:V->E V->Hp->VK->Prop}
def Iy(c:PlainAttrs T)(slot:Slot T name id)(d:typeOf (.builtin id)=pure (.type "method_descriptor"))(D:MtR X id r)(t:PE X o to)(a:uP_ (attributeBase o name X.i (eval o X.i)=eval o X.i) uR_)(b:uP_ ((apos.endLine == cpos.line)=kf) uR_):PE X (.Call (.Attribute o name apos) [] [] cpos) (tBM0 X.K T r to):=by
 intro B s O H Q I h;refine wpAny_Call_method0_late a b (thn (t B s O H _ I h) λv j ⟨x,l,n,A,ty,k⟩=>?_);let Y L:=HU n A ty;erw[T,id,c,slot,d,Y,L,Rj U (PySem.evalArgs_none (D B j O l x [] v [] Q n A .nil k))]
def eG(c:PlainAttrs T)(slot:Slot T name id)(d:typeOf (.builtin id)=pure (.type "method_descriptor"))(D:MtR X id r)(w:PE X o to)(i:PA X (e::es) t)(a:uP_ (attributeBase o name X.i (eval o X.i)=eval o X.i) uR_)(f:uP_ (((backTo cpos (QM (e::es) X.i)).all (λx=>!x.1)&&(backToKw cpos (keywordEach [] X.i)).all (λx=>x.1.isSome)
   && decide ((e::es).L+([]:E Keyword).L+(if([]:E Keyword).isEmpty then 0 else 1)<30))=kf) uR_)(b:uP_ ((apos.endLine == cpos.line)=kf) uR_)(hs:uP_ (QM (e::es) X.i=(kt,eval e X.i)::QM es X.i) uR_)(m:uP_ ((backTo cpos (QM es X.i)).any (·.1)=kt) uR_):
  PE X (.Call (.Attribute o name apos) (e::es) [] cpos) (tBM X.K T r to t):=by
 intro B s O H Q I h;refine wpAny_Call_method_late a f b U (thn (w B s O H _ I h) λv j ⟨x,l,n,A,ty,k⟩=>?_);let Y L:=HU n A ty;erw[T,id,c,slot,d,Y,L,3];let q:=i cpos B j O l _ n k;rw[hs]at q ⊢;refine Rj (by assumption) (Calls.evalArgs_plain ?_)
 exact thn q λeg eK ⟨M,u,z,p,g⟩=>D B eK O u x M v eg Q z A p g
end
def MtM(X:Cx)(id:String)(r:V->E V->Hp->VK->Prop):Prop :=
 ∀(B:E (e8×hr))(s:e9)(O:St)(H:Hp)(x:V)(J:E V)(v:eN)(eg:E eN)(Q:VK),nv O H s->RelV x v->Vals J eg->r x J H Q ->
  lf (call (.builtin id) (v::eg)) (EP X B O Q) X.xe s
theorem Vals.one:∀{x:V}{us:E eN},Vals [x] us->∃ u,us=[u]/\RelV x u:=by
 intro x us h;cases h with
 |cons r t=>cases t;exact⟨_,U,r⟩
def Vals.unc{x:V}(h:Vals (x::xs) us):∃ u w,us=u::w/\RelV x u/\Vals xs w:=by
 cases h with
 |cons r t=>exact⟨_,_,U,r,t⟩
def Vals.two{x:V}(h:Vals [x,y] us):∃ u v,us=[u,v]/\RelV x u/\RelV y v:=by
 let u w rfl r c:=Vals.unc h;let v z rfl q d:=Vals.unc c;cases d;erw[37,r,q]
theorem Vals.zero:∀{us:E eN},Vals [] us->us=[]
 |_,.nil=>rfl
def Vals.dropLast(h:Vals xs us):Vals xs.dropLast us.dropLast:=by
 induction h with
 |nil=>exact .nil
 |cons r t O =>
  cases t with
  |nil=>exact .nil
  |cons q d=>exact .cons r O
def Vals.reverse(h:Vals xs us):Vals xs.x us.x:=by
 induction h with
 |nil=>exact .nil
 |cons r t O=>rw[List.reverse_cons,List.reverse_cons];exact Vals.append O (.cons r .nil)
section
variable{X:Cx}{pins:E (e8×hr)}{σ:St}{H:Hp}{s:e9}{l b:e8}{xs ys zs:E V}
def Inv.lset{its':E eN}{f:j5 eN->j5 eN}(I:Inv X pins σ H s)(m:H l=Z (.lst xs))(e:s.H.R l=Z {cls:=.type "list",data:=.seq its.toArray n})(C:f its.toArray=its'.toArray)(hv:Vals ys its')(hz:ys.L<=QG):
  mi σ (upd H l (.lst ys)) {s with heap:=s.H.update l (Rg f),toks:=t'}:=by
 let q:=PySem.IsL.update e f;rw[C]at q;refine I.write (x:=l) (e:=l) (by rw[m];exact trivial) (.inl U) (λa u M eK=>(Ri s.H (Rg f) (Ne.Y M)).Q eK) ⟨_,q⟩ ?_
 erw[hz,its',_,hv,q]
theorem Inv.lnew(I:Inv X pins σ H s)(hv:Vals ys its)(hz:ys.L<=QG):
  mi σ (upd H s.H.M.J (.lst ys)) {s with heap:=s.H.o {cls:=.type "list",data:=.seq its.toArray},toks:=t'} :=
 I.laid (λ_ _ q=>QW _ q) (Lq _) ⟨hz,its,0,hv,QX _ U⟩
theorem Inv.fresh(I:Inv X pins σ H s):H s.H.M.J=k7:=I.hok.fresh (Lq _)
def Inv.lstM(I:Inv X pins σ H s)(m:H l=Z (.lst xs)):xs.L<=QG/\∃(its:E eN)(n:R),Vals xs its/\xs.L=its.L/\s.H.R l=Z {cls:=.type "list",data:=.seq its.toArray n}:=by
 let z its n r e:=I.hok l _ m;erw[z,its,n,r,r.L,e]
def GD(h:n<=QG):ii.List.listTooLong n=kt:=by
 unfold ii.List.listTooLong;lia
end
inductive JM(x:L2.V)(vs:E V)(H:L2.Hp)(Q:L2.VK):Prop
 |mk (l xs y:_) (_:x=.ref l)(_:vs=[y])(_:H l=Z (.lst xs))(_:xs.L<QG)(_:Q .non (upd H l (.lst (xs++[y]))))
def a9:MtM X "list.append" JM:=by
 intro B s O H x L v eg Q I c rv h;let l J y rfl rfl m A q:=h
 cases c
 let u rfl w:=rv.one;let z g n r d e:=I.lstM m;refine call_meets F.slot_list_append ⟨_,e,U⟩ F.entry_list_append (F.args_list_append_2 _ _) (PySem.list_append l g.toArray n u (by simp!)) ⟨e,?_⟩
 erw[.non,_,I.lset (its':=g++[u]) m e (by simp) (r.append (.cons w .nil)) ?_,U,q]
 grind
inductive JL(x:L2.V)(vs:E V)(H:L2.Hp)(Q:L2.VK):Prop
 |mk (l b xs zs:_) (_:x=.ref l)(_:vs=[.ref b])(_:H l=Z (.lst xs))(_:H b=Z (.lst zs))(_:xs.L+zs.L<=QG)(_:Q .non (upd H l (.lst (xs++zs))))
def DD:MtM X "list.extend" JL:=by
 intro B s O H x L v g Q I c rv h;let l b J M rfl rfl m i A q:=h
 cases c
 let u rfl w:=rv.one
 cases w
 let z its n r d e:=I.lstM m;let a j D p k eg:=I.lstM i;let t:its.toArray.J+j.toArray.J<=QG:=by simp!
 let f:¬ (!its.toArray.isEmpty&&ii.List.listTooLong (its.toArray.J+j.toArray.J))=kf:=by
  rw[GD t,Oe];exact LZ
 refine call_meets F.slot_list_extend ⟨_,e,U⟩ F.entry_list_extend (F.args_list_extend_2 _ _)
  (AutoSeq1.list_extend_list_list_0 l its.toArray n b j.toArray D f (by rw[Mn];lia) ∅) ⟨e,eg,?_⟩
 erw[.non,_,I.lset (its':=its++j) m e (by simp) (r.append p) ?_,U,q]
 rw[Lx];lia
inductive rPop(x:L2.V)(vs:E V)(H:L2.Hp)(Q:L2.VK):Prop
 |mk (l xs y:_) (_:x=.ref l)(_:vs=[])(_:H l=Z (.lst xs))(_:xs[xs.L-1]?=Z y)(_:Q y (upd H l (.lst xs.dropLast)))
def mt_pop:MtM X "list.pop" rPop:=by
 intro B s O H x L v eg Q I c rv h;let l J y rfl rfl m a q:=h
 cases c
 let f:=rv.zero;subst f;let z g n r d e:=I.lstM m;let u eK w:=r.get a;let A:g.toArray[g.toArray.J-1]?=Z u:=by
  show g.toArray[g.L-1]?=Z u;rw[← MQ,← d];exact eK
 refine call_meets F.slot_list_pop ⟨_,e,U⟩ F.entry_list_pop (F.args_list_pop_1 _) (MeetsSeq.list_pop_last l g.toArray n u A (by rw[Mn];lia)) ⟨e,?_⟩
 erw[y,_,I.lset (its':=g.dropLast) m e ?_ r.dropLast ?_,w,q]
 .show g.toArray.eraseIdxIfInBounds (g.toArray.J-1)=g.dropLast.toArray;simp
 .rw[List.length_dropLast];lia
inductive rCat(x:L2.V)(y:L2.V)(H:L2.Hp)(Q:L2.VK):Prop
 |mk (l b xs zs:_) (_:x=.ref l)(_:y=.ref b)(_:H l=Z (.lst xs))(_:H b=Z (.lst zs))(_:xs.L+zs.L<=QG)(_:∀ p,H p=k7->Q (.ref p) (upd H p (.lst (xs++zs))))
def op_cat:OpR X (Q3 .Add) rCat:=by
 intro B s O H x y v u Q I c D h;let l b J M rfl rfl m i A q:=h
 cases c
 cases D
 let z g n r d e:=I.lstM m;let a j f p k eg:=I.lstM i;refine PySem.P.add_list e eg ?_ (by simp!)
 let o:g.toArray++j.toArray=(g++j).toArray:=by simp
 rw[o];erw[.ref _,_,I.lnew (t':=s.v) (r.append p) (by rw[Lx];lia),U,q _ I.fresh]
section
variable{prog:ge}{w:ih}{A:Around}{eg:eN->e9->Prop}{s:e9}
end
end L2
namespace Att
open PySem PySem.W PySem.Calls PyProof.Rows
def qP{P:Params}:∀(ns:E G)(vs:E eN),WellAll P h vs (ns.h WData.int)->Rk vs ns:=by
 intro ns;induction ns with
 |nil =>
  intro vs w;rw[List.map_nil]at w
  cases w
  exact .nil
 |cons n ns O =>
  intro vs w;rw[LX]at w
  cases w with
  |cons a b =>
   cases a
   exact .cons _ _ (O _ b)
def CS{l:OpenLaw}(N:l.most=Z n){P:Params}{args:E WData}{g:E eN}(c:l.row.toRowW.claim.pre args=kf)(k:WellAll P h g args):
  ∃ a vs ns,g=[eN.ref a]/\args=[WData.list (ns.h WData.int)]/\h.R a=Z {cls:=.type "list",data:=.seq vs.toArray}/\Rk vs ns/\ns.L<=n:=by
 let e:WShape.hasAll [] args [.list .int]=kf:=(pre_splitW c).1;let T:l.pre.holds [] {args:=args}=kf:=(pre_splitW c).2;let d r rfl Y L:=hasAllW_cons e;obtain rfl:=hasAllW_nil L;let J rfl f:=hasW_list Y;let ns rfl:=items_int f;let i:ns.L<=n:=by
  unfold OpenLaw.pre at T;let B:(WTm.not (.lt (.lit (.int (n:G))) (.len (.arg 0)))).holds [] {args:=[.list (ns.h .int)]}=kf:=by
   let B:=(holds_andW T).1;rw[N]at B;exact B
  let s:=condW_of B (w_not (w_lt w_lit (w_len_list (w_arg U))));rw[Lp]at s;refine OB λq=>?_;let j:(n:G)<((ns.L:R):G):=by lia
  first
   | (simp!)
   | (simp at s;lia)
 cases k with
 |cons y m =>
  cases m
  cases y with
  |list t b=>exact⟨_,_,ns,U,U,t,qP ns _ b,i⟩
theorem C9(l:OpenLaw)(args:E WData):l.row.toRowW.claim.post args (.bool kf) args=kf :=
 postW_of (r:=l.row.toRowW) (X:=(kf == kf))
  (show WShape.has [] (.bool kf) .bool=kf by rfl)
  (show(WTm.eq .res (.lit (.bool kf))).value [] {args:=args,res:=Z (.bool kf),after:=args}=Z (.bool (kf == kf)) from w_eq_bool (w_res U) w_lit) U
def attach_call{l:OpenLaw}{q:ge}{eg:E ff}{H:(ff->io eN)->fc->Prop}{C:ih->fc->Prop}{d:DefRec}(N:l.most=some n)(m:d.params.defaults=[])(call:∀(w:ih)(s₀ s₁:e9)(mg e:ff->io eN)(j:e8)(o:hr)(M O p:eN)(a:e8)(vs:E eN)(ns:E G),
   Ground q eg [] H w s₀ mg e s₁.H->C w s₁.H ->
   s₁.H.R j=Z o->o.data=.func (docDef d.name d.params d.body d.scope M O p)->s₁.H.CodeRec O d.name->mg d.name=Z (.ref j) ->
   s₁.H.R a=Z {cls:=.type "list",data:=.seq vs.toArray}->Rk vs ns->ns.L<=n->s₁.gens=#[] ->
   Q7 (model l.e w) callerA (.call (.ref j) ⟨[.ref a],[]⟩) (λr s'=>r=.ok (.ret (.bool kf))/\OldK s₁.H s'.H/\s'.os=s₁.os/\AllBare s'.gens) s₁):
  WalkO q eg H C l.row.toRowW d [] (λf vs=>PySem.call f vs):=by
 intro w s₀ s₁ mg e eK Y j o M O p s kV t hd z T h J v g as c u x k I;obtain rfl:s=.none:=Dflts.none T m;obtain rfl:kV=.none:=Dflts.noKw T;let a vs ns rfl rfl Q b i:=CS N c k;refine enter_call (Rb (call w s₀ s₁ mg e j o M O p a vs ns eK Y t (fd_plain hd) z h Q b i J) λr s' y=>?_);let rfl L A B:=y;erw[.inl ⟨.bool kf,.bool kf,[],U,λ_=>rfl,.bool kf,C9 l _,λ_=>⟨List.Pairwise.nil,λ_ D=>(nomatch D)⟩⟩,L,A,B]
section
variable{prog:ge}{w:ih}{A:Around}{eg:eN->e9->Prop}{s:e9}{K:Frag}
end
end Att
namespace L2
open PySem PySem.Spec PyProof.Rows
theorem vj:∀{vs:E eN}{ns:E G},Rk vs ns->Vals (ns.h V.int) vs
 |_,_,.nil=>.nil
 |_,_,.cons n t h=>.cons ⟨t,U⟩ (vj h)
def oh(s:fo)(j:R):fo:=match s with
 |.ClassDef _ _ _ h _ _ _ _ _ _ _=>h.f j (.Pass ⟨0,0,0,0⟩)
 |_=>.Pass ⟨0,0,0,0⟩
def dJ(s:fo):Arguments:=match s with
 |.FunctionDef _ a _ _ _ _ _ _ _ _=>a
 |_=>{posonlyargs:=[],args:=[],vararg:=k7,kwonlyargs:=[],kw_defaults:=[],kwarg:=k7,defaults:=[]}
def cG(s:fo):E fo:=match s with
 |.FunctionDef _ _ b _ _ _ _ _ _ _=>b
 |_=>[]
def aq(s:fo):hx:=match s with
 |.FunctionDef _ _ _ _ _ _ a _ _ _=>a
 |_=>{kind:=.function,names:=[],isGenerator:=kt,isCoroutine:=kt}
abbrev CX0:CXT:=λ_ _ _ _ _ _=>False
abbrev E0:XK:=λ_ _ _=>False
theorem mT:oO CX0 X E0:=λ_ _ _ _ _ _ _ h=>h.elim
structure Fun(K:Lo)(x qual:ff)(st:fo)(f:e8)(fd:fk):Prop where
 ex:∃(oc:eN)(od:io e8)(kV doc pm:eN)(an:io e8)(cdv ct:eN)(osl:j5 (io eN)),
  fd=Nc x qual (dJ st) (cG st) (aq st) .none kV doc pm an cdv ct/\K.Z f=Z ⟨oc,od,.func fd,osl⟩/\Np K cdv qual=kf
 kp:Mu K (.ref f)=kf
def Fun.ok{j:ff}{st:fo}{N ps:E ff}{k:R}(F:Fun K x j st f fd)(S:az N ps (aq st))(len:∀ vs H Q eg,sp vs H Q eg->vs.L=ps.L)(b:∀(B:eN)(A:Around)(outer:E gI)(s:e9)(H:Hp)(vs:E V)(Q:VK)(eg:XK),Room k (A.deeper (envOfC j (aq st) s.H.M.J f B))->sp vs H Q eg ->
   let X:=(cxOf CX0 P w K mg base N j (aq st) f B A outer s H eg).nox;let D:Ends:={nx:=λ_ H'=>Q .non H',rt:=Q};∃ t,PSs X (cG st) t/\t D (rE N vs) H):k9 (k+1) f fd ps sp:=by
 let g i kV p M m B l d rfl v z:=F.ex;refine KN v z S len λA outer s H vs Q eg I y=>?_;let t h q:=b B A outer s H vs Q eg I y;erw[t,h.nox,q]
def Fun.binds{j:ff}{st:fo}{ps:E ff}(F:Fun K x j st f fd)(h:∀(kV p M:eN)(m:io e8)(B ct:eN)(us:E eN),us.L=ps.L->bindArgs (Nc x j (dJ st) (cG st) (aq st) .none kV p M m B ct) ⟨us,[]⟩=pure (ps.zip us)):fu K fd ps []:=by
 let g i kV p M m B ct d rfl v z:=F.ex;exact .all (h kV p M m B ct)
theorem fun_mk{j:ff}{st:fo}{i m:io e8}{d:j5 (io eN)}{kV p M B ct:eN}(l:K.Z f=Z ⟨u,i,.func (Nc x j (dJ st) (cG st) (aq st) .none kV p M m B ct),d⟩)(c:Np K B j=kf)(k:Mu K (.ref f)=kf):Fun K x j st f (Nc x j (dJ st) (cG st) (aq st) .none kV p M m B ct):=⟨⟨u,i,kV,p,M,m,B,ct,d,U,l,c⟩,k⟩
theorem uz{k:R}(N:Room k A):A.units+1<cLine:=PH (Nat.add_le_add_left (by decide:1<=64) _) N.units
theorem av(h:n<=1000):n<QG:=PH h ∅
theorem pv(i:R)(w:uP_ (X.N[i]?=Z x) uR_)(hv:Vis X.i.scope x:=by first|exact Or.inl rfl|exact Or.inr (Or.inl U)|exact Or.inr (Or.inr U))(hd:uP_ ((x == ("__debug__" : ff))=kt) uD_)(z:uP_ ((x == ("__classdict__" : ff))=kt) uD_):PE X (.Name x pos) (tVar i):=pe_var w hv hd z
def iteF{A B:Prop}(h:B):if kt=kf then A else B:=by
 rw[R6 LZ];exact h
def iteT{A B:Prop}(h:A):if kf=kf then A else B:=by
 rw[R5 U];exact h
def ite2{c A B:Prop}[Decidable c](Y:c->A)(h2:¬ c->B):if c then A else B:=by
 by_cases h:c
 .rw[R5 h];exact Y h
 .rw[R6 h];exact h2 h
def wx{c A B:Prop}[Decidable c](T:c)(h:B):if(!decide c)=kf then A else B:=by
 rw[Rl T];exact iteF h
def Same(H H':Hp):Prop:=∀ b o,H b=Z o->H' b=Z o
theorem Same.trans(a:Same H H1)(b:Same H1 H2):Same H H2:=λc o h=>b c o (a c o h)
def Same.seq(e:Same H H')(h:na a xs):SqL K H' a xs:=by
 rcases h with(h|⟨o,h⟩)|h
 .exact .inl (.inl (e _ _ h))
 .exact .inl (.inr ⟨o,e _ _ h⟩)
 .exact .inr h
end L2
set_option maxRecDepth 100000
set_option maxHeartbeats 4000000
namespace L2
open PySem PySem.Spec PyProof.Rows
section
variable{κ:Type} [DecidableEq κ]
def valV(kvs:E (κ×V))(k:κ):io V:=(kvs.find? λf=>decide (f.1=k)).h (·.2)
def putK(kvs:E (κ×V))(k:κ)(v:V):E (κ×V) :=
 if(kvs.any λf=>decide (f.1=k))=kf then kvs.h (λf=>if f.1=k then(f.1,v) else f) else kvs++[(k,v)]
def o9(kvs:E (κ×V))(k:κ):E (κ×V):=kvs.filter λf=>decide (f.1≠k)
def bz{p:κ×V}{r:E (κ×V)}{k:κ}(e:p.1=k):valV (p::r) k=Z p.2:=by simp[valV,Oa,e]
def bA{p:κ×V}{r:E (κ×V)}{k:κ}(e:¬ p.1=k):valV (p::r) k=valV r k:=by simp[valV,Oa,e]
theorem gQ(k:κ):∀ kvs:E (κ×V),(kvs.any λkv=>decide (kv.1=k))=(valV kvs k).isSome
 |[]=>rfl
 |p::r=>by
  rw[List.any_cons];by_cases e:p.1=k
  .simp only[bz e,Rl e,i0.true_or,io.isSome_some]
  .rw[bA e,QF e,i0.false_or];exact gQ k r
theorem Al(k j:κ)(y:V):∀ kvs:E (κ×V),valV (kvs.h λkv=>if kv.1=k then(kv.1,y) else kv) j=(valV kvs j).h λx=>if j=k then y else x
 |[]=>rfl
 |p::r=>by
  let O:=Al k j y r;rw[LX];by_cases h:p.1=k
  .rw[R5 h];by_cases e:p.1=j
   .rw[bz (p:=(p.1,y)) e,bz e,io.map_some,R5 (e.Y.Q h)]
   .rw[bA (p:=(p.1,y)) e,bA e,O]
  .rw[R6 h];by_cases e:p.1=j
   .rw[bz (p:=p) e,bz e,io.map_some,R6 (λz=>h (e.Q z))]
   .rw[bA (p:=p) e,bA e,O]
theorem vk(k j:κ)(y:V):∀ kvs:E (κ×V),valV kvs k=k7->valV (kvs++[(k,y)]) j=if j=k then Z y else valV kvs j
 |[],_=>by
  by_cases e:k=j
  .rw[R5 e.Y];exact bz (p:=(k,y)) e
  .rw[R6 (λz=>e z.Y)];exact bA (p:=(k,y)) e
 |p::r,N=>by
  rw[Qb];let eK:¬ p.1=k:=λz=>by rw[bz z]at N;cases N
  rw[bA eK]at N;let O:=vk k j y r N;by_cases e:p.1=j
  .rw[bz e,bz e,R6 (λz=>eK (e.Q z))]
  .rw[bA e,bA e,O]
def fZ(kvs:E (κ×V))(k j:κ)(y:V):valV (putK kvs k y) j=if j=k then Z y else valV kvs j:=by
 unfold putK;by_cases a:(kvs.any λf=>decide (f.1=k))=kf
 .rw[R5 a,Al];rw[gQ]at a;by_cases e:j=k
  .let x J:=O1.mp a;simp[*]
  .simp[*]
 .rw[R6 a];refine vk k j y kvs ?_;rw[gQ]at a;simp!
def dY(kvs:E (κ×V))(k:κ)(v:V):(putK kvs k v).L<=kvs.L+1:=by
 unfold putK;split
 .simp
 .simp
def tQ{kvs:E (κ×V)}{k:κ}(v:V)(h:valV kvs k=k7):putK kvs k v=kvs++[(k,v)]:=by
 unfold putK;rw[gQ,h];rfl
def RelO.isSome_eq{o:io V}{u:io eN}(r:RelO o u):o.isSome=u.isSome:=by
 cases o with
 |none=>cases u with
  |none=>rfl
  |some _=>contradiction
 |some _=>cases u with
  |none=>contradiction
  |some _=>rfl
def RelO.getD{o:io V}{u:io eN}{d:V}{d':eN}(r:RelO o u)(c:RelV d d'):RelV (o.f d) (u.f d'):=by
 cases o with
 |none=>cases u with
  |none=>exact c
  |some _=>exact(show False from r).elim
 |some _=>cases u with
  |none=>exact(show False from r).elim
  |some _=>exact r
def KV.val{kvs:E (κ×V)}{vs:E (κ×eN)}(r:KV kvs vs)(k:κ):RelO (valV kvs k) (valueAt vs k):=by
 unfold KV at r;induction r with
 |nil=>exact True.intro
 | @cons p q T c h t O =>
  let Y L:=h;by_cases e:p.1=k
  .let J:q.1=k:=Y.Y.Q e
   let b:valueAt (q::c) k=Z q.2:=by simp[valueAt,Oa,J]
   rw[bz e,b];exact L
  .let J:¬ q.1=k:=λz=>e (Y.Q z)
   let b:valueAt (q::c) k=valueAt c k:=by simp[valueAt,Oa,J]
   rw[bA e,b];exact O
def KV.any{kvs:E (κ×V)}{vs:E (κ×eN)}(r:KV kvs vs)(k:κ):(kvs.any λkv=>decide (kv.1=k))=vs.any λkv=>decide (kv.1=k):=by
 unfold KV at r;induction r with
 |nil=>rfl
 |cons h t O=>simp[*]
def KV.repl{kvs:E (κ×V)}{vs:E (κ×eN)}(r:KV kvs vs)(k:κ)(D:RelV y u):
  KV (kvs.h λkv=>if kv.1=k then(kv.1,y) else kv) (vs.h λkv=>if kv.1=k then(kv.1,u) else kv):=by
 unfold KV at r ⊢;induction r with
 |nil=>exact .nil
 | @cons p q T c h t O =>
  rw[LX,LX];refine .cons ?_ O;let Y L:=h;by_cases e:p.1=k
  .rw[R5 e,R5 (Y.Y.Q e)];erw[Y,D]
  .rw[R6 e,R6 (λz=>e (Y.Q z))];erw[Y,L]
def KV.put{kvs:E (κ×V)}{vs:E (κ×eN)}(r:KV kvs vs)(k:κ)(D:RelV y u):KV (putK kvs k y) (stored vs k u):=by
 unfold putK stored;rw[r.any k];by_cases e:(vs.any λf=>decide (f.1=k))=kf
 .rw[R5 e,R5 e];exact r.repl k D
 .rw[R6 e,R6 e];exact Paired.snoc r ⟨U,D⟩
def KV.drop{kvs:E (κ×V)}{vs:E (κ×eN)}(r:KV kvs vs)(k:κ):KV (o9 kvs k) (without vs k):=by
 unfold KV at r ⊢;unfold o9 without;induction r with
 |nil=>exact .nil
 | @cons p q T c h t O =>
  let Y L:=h;rw[Og,Og];by_cases e:p.1=k
  .let a:¬ decide (p.1≠k)=kf:=by simp[e]
   let b:¬ decide (q.1≠k)=kf:=by simp!
   rw[R6 a,R6 b];exact O
  .let J:¬ q.1=k:=λz=>e (Y.Q z)
   let a:decide (p.1≠k)=kf:=by simp[e]
   let b:decide (q.1≠k)=kf:=by simp[J]
   rw[R5 a,R5 b];exact .cons ⟨Y,L⟩ O
theorem KV.length{kvs:E (κ×V)}{vs:E (κ×eN)}(r:KV kvs vs):kvs.L=vs.L:=Paired.length r
theorem Hq(kvs:E (κ×V))(k:κ):(o9 kvs k).L<=kvs.L:=NZ _ _
end
def yy{k:Key}(r:RelV (kV k) u):(bM P w).is k u=kf:=by
 cases k with
 |inl i=>obtain⟨t,e⟩:=(show ∃ t,u=eN.int i t from r);subst e;exact yr P w i t
 |inr x=>obtain⟨t,e⟩:=(show ∃ t,u=eN.str x t from r);subst e;exact yq P w x t
theorem wq{P:ge}{w:ih}:∀{ks:E Key}{us:E eN},Vals (ks.h kV) us->ItemsAre (bM P w) ks us
 |[],_,r=>by rw[List.map_nil]at r;cases r;exact .nil
 |k::ks,_,r=>by
  rw[LX]at r
  cases r with
  |cons h t=>exact .cons (yy h) (wq t)
abbrev KT(H:Hp):E (E Key×V)->E (E Key×e8×eN)->Prop:=Paired λp q=>p.1=q.1/\H q.2.1=Z (.tup (p.1.h kV))/\RelV p.2 q.2.2
def KT.val{kvs:E (E Key×V)}{xs:E (E Key×e8×eN)}(r:KT H kvs xs)(k:E Key):RelO (valV kvs k) ((atKey xs k).h (·.2)):=by
 induction r with
 |nil=>exact True.intro
 | @cons p q T c h t O =>
  let Y _ L:=h;by_cases e:p.1=k
  .let J:q.1=k:=Y.Y.Q e
   let b:atKey (q::c) k=Z q.2:=by simp[atKey,Oa,J]
   rw[bz e,b];exact L
  .let J:¬ q.1=k:=λz=>e (Y.Q z)
   let b:atKey (q::c) k=atKey c k:=by simp[atKey,Oa,J]
   rw[bA e,b];exact O
def KT.repl{kvs:E (E Key×V)}{xs:E (E Key×e8×eN)}(r:KT H kvs xs)(k:E Key)(D:RelV y u):
  KT H (kvs.h λkv=>if kv.1=k then(kv.1,y) else kv) (xs.h (putAt k u)):=by
 induction r with
 |nil=>exact .nil
 | @cons p q T c h t O =>
  rw[LX,LX];refine .cons ?_ O;let Y L f:=h;unfold putAt;by_cases e:p.1=k
  .rw[R5 e,R5 (Y.Y.Q e)];erw[Y,L,D]
  .rw[R6 e,R6 (λz=>e (Y.Q z))];erw[Y,L,f]
def KT.put{kvs:E (E Key×V)}{xs:E (E Key×e8×eN)}(r:KT H kvs xs)(k:E Key){b:e8}(M:H b=Z (.tup (k.h kV)))(D:RelV y u):
  KT H (putK kvs k y) (storedH xs k b u):=by
 let e:(kvs.any λf=>decide (f.1=k))=(atKey xs k).isSome:=by
  rw[gQ,(r.val k).isSome_eq,io.isSome_map]
 unfold putK storedH;rw[e];by_cases q:(atKey xs k).isSome=kf
 .rw[R5 q,R5 q];exact r.repl k D
 .rw[R6 q,R6 q];exact Paired.snoc r ⟨U,M,D⟩
theorem KT.keeps{kvs:E (E Key×V)}{xs:E (E Key×e8×eN)}(r:KT H kvs xs)(n:∀ b ys,H b=Z (.tup ys)->H' b=Z (.tup ys)):KT H' kvs xs :=
 Paired.mapP r λ_ _ z=>⟨z.1,n _ _ z.2.1,z.2.2⟩
theorem rd_of{u:HO}(ok:HOk P w H h)(e:Rd H a u):bE P w H h a u:=e.ok ok
theorem BL(ok:HOk P w H h)(e:Rd H a (.dK kvs)):kvs.L<=QG/\(a == sysModules)=kt/\∃ vs,KV kvs vs/\h.DictOf (bM P w) a vs :=
 show bE P w H h a (.dK kvs) from rd_of ok e
theorem BM(ok:HOk P w H h)(e:H a=Z (.dK kvs)):kvs.L<=QG/\(a == sysModules)=kt/\∃ vs,KV kvs vs/\h.DictOf (bM P w) a vs:=BL ok (.inl e)
def wm{ks:E Key}(ok:HOk P w H h)(e:H a=Z (.tup (ks.h kV))):(tupleKind (bM P w)).is h ks a:=by
 let _ g r o Y L n f:=(show bE P w H h a (.tup (ks.h kV)) from ok a _ e);erw[o,g.toArray,n,Y,L,f,by simpa using wq r]
def BK{kvs:E (E Key×V)}(ok:HOk P w H h)(e:Rd H a (.dT kvs)):kvs.L<=QG/\(a == sysModules)=kt /\
  ∃ xs,KT H kvs xs/\h.DictOfH (tupleKind (bM P w)) a xs:=by
 let z y xs r o v N Y L f B s:=(show bE P w H h a (.dT kvs) from rd_of ok e);erw[z,y,xs,r,o,v,N,Y,L,f,B,λx J=>?_,s];let all:∀{l:E (E Key×V)}{m:E (E Key×e8×eN)},KT H l m->∀ x∈m,(tupleKind (bM P w)).is h x.1 x.2.1:=by
  intro l m q;induction q with
  |nil=>simp
  | @cons p q T c C t O =>
   intro x J;obtain e|J:=Lz.mp J
   .subst e;exact wm ok (by simp!)
   .exact O x J
 exact all r x J
theorem dt_of{kvs:E (E Key×V)}(ok:HOk P w H h)(e:H a=Z (.dT kvs)):kvs.L<=QG/\(a == sysModules)=kt /\
  ∃ xs,KT H kvs xs/\h.DictOfH (tupleKind (bM P w)) a xs:=BK ok (.inl e)
def DGet(H:Hp)(a:e8)(y:V)(r:io V):Prop :=
 (∃ m k,Rd H a (.dK m)/\y=kV k/\r=valV m k)∨∃ m k b,Rd H a (.dT m)/\y=.ref b/\H b=Z (.tup (k.h kV))/\r=valV m k
def DPut(H:Hp)(a:e8)(y v:V)(H':Hp):Prop :=
 (∃ m k,H a=Z (.dK m)/\y=kV k/\m.L<QG/\H'=upd H a (.dK (putK m k v))) ∨
 ∃ m k b,H a=Z (.dT m)/\y=.ref b/\H b=Z (.tup (k.h kV))/\m.L<QG/\H'=upd H a (.dT (putK m k v))
theorem DGet.k{H:Hp}{a:e8}{kvs:E (Key×V)}{k:Key}(e:H a=Z (.dK kvs)):DGet H a (kV k) (valV kvs k):=.inl ⟨kvs,k,.inl e,U,U⟩
theorem DPut.k{H:Hp}{a:e8}{kvs:E (Key×V)}{k:Key}{v:V}(e:H a=Z (.dK kvs))(hl:kvs.L<QG):DPut H a (kV k) v (upd H a (.dK (putK kvs k v))):=.inl ⟨kvs,k,e,U,hl,U⟩
section
variable{X:Cx}{pins:E (e8×hr)}{σ:St}{H:Hp}{s:e9}{a:e8}{y v:V}{u r:eN}{o:io V}{A:Around}{eg:eN->e9->Prop}
def Inv.big(I:Inv X pins σ H s):sysModules<s.H.M.J:=by
 let h:QI<s.H.M.J:=(I.mod.glob.keeps I.bk).lt;exact NI ∅ h
def EV(eK:A.units+1<cLine)(I:mi σ H s)(g:DGet H a y (Z v))(D:RelV y u)(h:∀ w' s',mi σ H s'->RelV v w'->Q w' s'):
  wpAny (model X.e X.w) A (getItem (.ref a) u) Q eg s:=by
 rcases g with⟨m,k,e,T,l⟩|⟨m,k,b,e,T,t,l⟩
 .subst T;let z hd L rel n:=BL I.hok e;let w' r M:=RelO.some_of (v:=v) (o:=valueAt L k) (by rw[l];exact rel.val k)
  exact wpAny_getItem_of (yy D) n.mapOf r (h w' _ (I.tok _) M)
 .subst T
  cases (show u=eN.ref b from D)
  let z hd J rel n:=BK I.hok e;let w' r M:=RelO.some_of (v:=v) (o:=(atKey J k).h (·.2)) (by rw[l];exact rel.val k)
  let p j c:=LL.mp r;refine wpAny_getItem_heap (tupleKind_room_in1 eK) (wm I.hok t) n j ?_;rw[c];exact h w' _ (I.tok _) M
def K3(eK:A.units+1<cLine)(I:mi σ H s)(g:DGet H a y o)(D:RelV y u)(h:∀ s',mi σ H s'->Q (.bool (!o.isSome)) s'):
  wpAny (model X.e X.w) A (QO .NotIn u (.ref a)) Q eg s:=by
 rcases g with⟨m,k,e,T,l⟩|⟨m,k,b,e,T,t,l⟩
 .subst T;let z hd L rel n:=BL I.hok e;refine wpAny_notIn_of (yy D) hd n.mapOf ?_;rw[← (rel.val k).isSome_eq,← l];exact h _ (I.tok _)
 .subst T
  cases (show u=eN.ref b from D)
  let z hd J rel n:=BK I.hok e;refine wpAny_notIn_heap (tupleKind_room_in1 eK) (wm I.hok t) hd n ?_;let q:=(rel.val k).isSome_eq;rw[io.isSome_map]at q;rw[← q,← l];exact h _ (I.tok _)
theorem uO{ob:HO}(I:mi σ H s)(f:Mut (H a))(hs:QL a s.H h')(eK:∃ q,h'.R a=Z q)(new:bE X.e X.w (upd H a ob) h' a ob):
  mi σ (upd H a ob) {s with heap:=h',toks:=t'} :=
 I.write (x:=a) (e:=a) f (.inl U) (λb q M z=>(hs.2 b M).Q z) eK new
theorem EH{vs:E (Key×eN)}(z:kvs.L<=QG)(hd:(a == sysModules)=kt)(rel:KV kvs vs)(dd:h'.DictOf (bM P w) a vs):
  bE P w H' h' a (.dK kvs):=⟨z,hd,vs,rel,dd⟩
def EL{Q:Unit->e9->Prop}(x:A.units+1<cLine)(I:mi σ H s)(g:DPut H a y v H')(i:RelV y u)(rv:RelV v r)(h:∀ s',mi σ H' s'->Q () s'):
  wpAny (model X.e X.w) A (setItem (.ref a) u r) Q eg s:=by
 rcases g with⟨m,k,e,ey,l,eH⟩|⟨m,k,b,e,ey,t,l,eH⟩
 .subst ey eH;let z hd M rel n:=BM I.hok e;let o:M.L<=QG:=by rw[← rel.L];exact z
  let d:(putK m k v).L<=QG:=by let:=dY m k v;lia
  refine wpAny_setItem_pairs (hsz:=o) (yy i) n λN aa p=>h _ ?_;let eK:∃ q,N.R a=Z q:=let ⟨q,_,_,C,_⟩:=aa;⟨q,C⟩;exact uO I (by rw[e];exact True.intro) p eK (EH d hd (rel.put k rv) aa)
 .subst ey eH
  cases (show u=eN.ref b from i)
  let z hd J rel n:=dt_of I.hok e;let o:J.L<=QG:=by rw[← Paired.length rel];exact z
  let d:(putK m k v).L<=QG:=by let:=dY m k v;lia
  refine wpAny_setItem_heap (hsz:=o) (tupleKind_room_in1 x) (wm I.hok t) n λN aa p=>h _ ?_;let q D j C L f B _ T:=aa;refine uO I (by rw[e];exact True.intro) p ⟨q,C⟩ ⟨d,hd,_,(rel.put k t rv).keeps λc O Y=>?_,q,D,j,C,L,f,B,T⟩
  rw[ar (Bk Y e (λz=>nomatch z))];exact Y
end
section
variable{X:Cx}{pins:E (e8×hr)}{σ:St}{H:Hp}{s:e9}{a:e8}{kvs:E (Key×V)}{k:Key}{u:eN}{A:Around}{eg:eN->e9->Prop}
def d_pop{more:E eN}(I:mi σ H s)(e:H a=Z (.dK kvs))(J:RelV (kV k) u)(l:valV kvs k=Z v)(D:more=[]∨∃ x,more=[x])(h:∀ w' s',mi σ (upd H a (.dK (o9 kvs k))) s'->RelV v w'->Q w' s'):wpAny (model X.e X.w) A (call (.builtin "dict.pop") (.ref a::u::more)) Q eg s:=by
 let z hd L rel n:=BM I.hok e;let w' r M:=RelO.some_of (v:=v) (o:=valueAt L k) (by rw[← l];exact rel.val k)
 let g:(keyPart u).isSome=kf:=by
  cases k with
  |inl i=>obtain⟨t,q⟩:=(show ∃ t,u=eN.int i t from J);subst q;rfl
  |inr x=>obtain⟨t,q⟩:=(show ∃ t,u=eN.str x t from J);subst q;rfl
 let T:argsOk "dict.pop" ⟨.ref a::u::more,[]⟩:=by
  obtain q|⟨x,q⟩:=D
  .subst q;exact PySem.F.args_dict_pop_2 _ _
  .subst q;exact PySem.F.args_dict_pop_3 _ _ _
 refine call_meetsIn PySem.F.slot_dict_pop n.typeIs PySem.F.entry_dict_pop T (meets_dict_pop_there (bM X.e X.w) a (yy J) more D g)
  ⟨L,w',n,by rw[← rel.L];exact z,r,λN C p=>h w' _ ?_ M⟩
 let eK:∃ q,N.R a=Z q:=let ⟨q,_,_,y,_⟩:=C;⟨q,y⟩;exact uO I (by rw[e];exact True.intro) p eK (EH (MB (Hq kvs k) z) hd (rel.drop k) C)
end
def NoSl(i:fm):Prop:=∀ k J,subscripted i kt k J=operate [k,J] (getItem k J)
def JA{prog:ge}{e b:fm}{T id:String}(hl:typeLookup (.type T) "__getitem__"=pure (Z (.builtin id)))(hs:NoSl b)(h:li A (eval e env) (λo s₁=>li A (eval b env) (λi s₂=>s₂.TypeIs o T/\li A (getItem o i) Q eg s₂) eg s₁) eg s):
  li A (eval (.Subscript e b pos) env) Q eg s:=by
 refine Subscript_ (QN h (λo s₁ a=>QN a (λi s₂ g=>?_) λ_ _ x=>x) λ_ _ x=>x);let O g:=g;unfold subscriptTail;refine QS ?_;rw[getitemInPython_of_ne O.not_modules];refine QS (Rm O hl ?_);let C:li A (subscripted b kt o i) (λr d=>li A (letTemporaryGo e o r >>= λ_=>pure r) Q eg d) eg s₂:=by
  rw[hs o i];exact wpAny_operating (QN g (λr d j=>QS (wpAny_letTemporaryGo (QV j))) λ_ _ x=>x)
 first
  |exact QV (QS C)
  |exact QS (QV (QS C))
  |exact QS C
def zg{o:io V}(I:Inv X O σ H s)(g:DGet H a y o):s.TypeIs (.ref a) "dict":=by
 rcases g with⟨m,k,e,_,_⟩|⟨m,k,b,e,_,_,_⟩
 .let _ _ L _ n:=BL I.hok e;exact n.typeIs
 .let _ _ J _ n:=BK I.hok e;exact n.typeIs
def tDGet(b ty:TE):TE:=λO H Q=>b O H λx l=>ty O l λy Y=>∃ a v,x=.ref a/\DGet Y a y (Z v)/\Q v Y
def Jz(ty b:TE):TE:=λO H Q=>ty O H λy l=>b O l λx Y=>∃ a o,x=.ref a/\DGet Y a y o/\Q (.bl (!o.isSome)) Y
def sDPut(b ty e:TE):TS:=λD O H=>e O H λv l=>b O l λx Y=>ty O Y λy d=>∃ a eg,x=.ref a/\DPut d a y v eg/\D.nx O eg
section
variable{X:Cx}{o i e value:fm}{pos pos' tpos:Pos}{td ty tv:TE}
def ib(M:X.A.units+1<cLine)(t:PE X o td)(hi:PE X i ty)(hs:NoSl i):PE X (.Subscript o i pos) (tDGet td ty):=by
 intro B s O H Q I h;refine JA PySem.F.slot_dict_getitem.lookup hs (thn (t B s O H _ I h) λu j ⟨x,l,n,c,k⟩=>thn (hi B j O l _ n k) λJ eK ⟨y,Y,z,D,a,v,b,g,L⟩=>?_);subst b;obtain rfl:u=eN.ref a:=c;erw[zg z g,EV M z g D λw m eg d=>⟨v,Y,eg,d,L⟩]
def mS(M:X.A.units+1<cLine)(hi:PE X i ty)(t:PE X o td):PC X .NotIn i o (Jz ty td):=by
 intro B s O H Q I h;refine thn (hi B s O H _ I h) λJ j ⟨y,l,n,D,k⟩=>thn (t B j O l _ n k) λu eK r=>?_;let x Y z c a ov b g L:=r;subst b;obtain rfl:u=eN.ref a:=c;exact K3 M z g D λm eg=>⟨.bl (!ov.isSome),Y,eg,U,L⟩
def lF(M:X.A.units+1<cLine)(t:PE X o td)(hi:PE X i ty)(hv:PE X value tv)(hs:swapsWith value (Z (.Subscript o i pos')) pos.line X.i=pure kt):
  PS X (.Assign [.Subscript o i pos'] value pos) (sDPut td ty tv):=by
 intro B s O H D I h;refine wpAny_Assign_Subscript (thn (hv B s O H _ I h) λr j ⟨v,l,n,rv,k⟩=>thn (t B j O l _ n k) λu eK ⟨x,Y,z,c,L⟩=>thn (hi B eK O Y _ z L) λT m ⟨y,d,e,J,a,eg,b,g,N⟩=>?_) hs;subst b;obtain rfl:u=eN.ref a:=c;exact EL M e g J rv λp C=>⟨O,eg,C,N⟩
end
theorem AX(h:fc)(M:sysModules<h.M.J):bE P w H (h.o {cls:=.type "dict",data:=.dict #[]}) h.M.J (.dK []) :=
 ⟨Mh _,beq_eq_false_iff_ne.mpr (Ne.Y (LQ M)),[],.nil,fc.DictOf.new h⟩
def tDNewK:TE:=λ_ H Q=>∀ p,H p=k7->Q (.ref p) (upd H p (.dK []))
theorem mR:PE X (.Dict [] [] pos) tDNewK:=λB s O H Q I h =>
 wpAny_Dict_empty ⟨.ref s.H.M.J,_,I.laid (a:=s.H.M.J) (o:=.dK []) (t':=s.v) (λ_ _ q=>QW _ q) (Lq _) (AX s.H I.big),U,h _ (I.hok.fresh (Lq _))⟩
def Cr:E (TE×TE)->St->Hp->(E (V×V)->Hp->Prop)->Prop
 |[],_,H,Q=>Q [] H
 | (C,e)::r,O,H,Q=>C O H λx l=>e O l λy Y=>Cr r O Y λT d=>Q ((x,y)::T) d
abbrev VV:E (V×V)->E (eN×eN)->Prop:=Paired λp q=>RelV p.1 q.1/\RelV p.2 q.2
def PPs(X:Cx)(pos:Pos)(t:E (io fm))(k:E fm)(J:E (TE×TE)):Prop :=
 ∀(B:E (e8×hr))(s:e9)(O:St)(H:Hp)(Q:E (V×V)->Hp->Prop),nv O H s->Cr J O H Q ->
  lf (evalPairs (pairTrees t k X.i pos)) (λL m=>∃ T eK,nv O eK m/\VV T L/\Q T eK) X.xe s
theorem xX:PPs X pos [] [] []:=λB s O H Q I h=>pairTrees_nil_walk ⟨[],H,I,.nil,h⟩
theorem tS{k v:fm}{ks:E (io fm)}{vs:E fm}{tk e:TE}{J:E (TE×TE)}(eK:PE X k tk)(hv:PE X v e)(N:PPs X pos ks vs J):
  PPs X pos (Z k::ks) (v::vs) ((tk,e)::J):=λB s O H Q I h =>
 pairTrees_cons_walk (thn (eK B s O H _ I h) λu j ⟨x,l,n,c,f⟩=>thn (hv B j O l _ n f) λa o ⟨y,Y,z,D,L⟩ =>
  thn (N B o O Y _ z L) λg m ⟨T,d,eg,rel,t⟩=>⟨(x,y)::T,d,eg,.cons ⟨c,D⟩ rel,t⟩)
def gK(kvs more:E (Key×V)):E (Key×V):=more.foldl (λy f=>putK y f.1 f.2) kvs
def KV.merge:∀{more:E (Key×V)}{rs:E (Key×eN)}{kvs:E (Key×V)}{vs:E (Key×eN)},KV more rs->KV kvs vs->KV (gK kvs more) (merged vs rs):=by
 intro more rs kvs vs r;unfold KV at r;induction r generalizing kvs vs with
 |nil=>intro q;exact q
 | @cons p q T c h t O =>
  intro x;let e:KV (putK kvs p.1 p.2) (stored vs q.1 q.2):=by
   let:=x.put p.1 h.2;rw[← h.1];exact this
  exact O e
theorem mX:∀(more kvs:E (Key×V)),(gK kvs more).L<=kvs.L+more.L
 |[],kvs=>by show kvs.L<=kvs.L+0;lia
 |p::r,kvs=>by
  let Y:=mX r (putK kvs p.1 p.2);let L:=dY kvs p.1 p.2;show(gK (putK kvs p.1 p.2) r).L<=_;rw[MG];lia
theorem sf{P:ge}{w:ih}:∀{kvs:E (Key×V)}{g:E (eN×eN)},VV (kvs.h λkv=>(kV kv.1,kv.2)) g->∃ rs,Carries (bM P w) g rs/\KV kvs rs
 |[],_,r=>by rw[List.map_nil]at r;cases r;erw[[],True.intro,.nil]
 |p::kvs,_,r=>by
  rw[LX]at r
  cases r with
  | @cons a b as bs h t =>
   let rs c q:=sf (P:=P) (w:=w) t;let b1 b2:=b;erw[(p.1,b2)::rs,⟨yy h.1,U,c⟩,.cons ⟨U,h.2⟩ q]
def tDisp(J:E (TE×TE)):TE:=λO H Q=>∀ p,H p=k7->Cr J O (upd H p (.dK [])) λT Y=>Y p=Z (.dK [])/\∃ m:E (Key×V),T=m.h (λf=>(kV f.1,f.2))/\m.L<=15/\Q (.ref p) (upd Y p (.dK (gK [] m)))
def yd{t:E (io fm)}{k:E fm}{J:E (TE×TE)}(h:PPs X pos t k J)(b:t.all (·.isSome)=kf)(hl:t.L=k.L)(l:t≠[])(D:t.L<=15):PE X (.Dict t k pos) (tDisp J):=by
 intro B s O H Q I q;let N:=I.hok.fresh (Lq s.H.M.J);let n:=I.laid (a:=s.H.M.J) (o:=.dK []) (h':=s.H.o {cls:=.type "dict",data:=.dict #[]}) (t':=s.v) (λ_ _ q=>QW _ q) (Lq _) (AX s.H I.big);refine wpAny_Dict_walk (knd:=bM X.e X.w) b hl l D (thn (h B _ O _ _ n (q _ N)) λg d ⟨T,u,i,rel,e,m,j,v,L⟩=>?_);subst j;let f c eg:=sf (P:=X.e) (w:=X.w) rel;let z hd M x r:=BM i.hok e
 cases x
 erw[f,c,r,λh' C p=>⟨.ref s.H.M.J,_,?_,U,L⟩];let A:(gK [] m).L<=QG:=by
  let Y:=mX m [];rw[NY]at Y;rw[sizeLine_eq];lia
 let eK:∃ q,h'.R s.H.M.J=Z q:=let ⟨q,_,_,y,_⟩:=C;⟨q,y⟩;exact uO i (by rw[e];exact True.intro) p eK (EH A hd (eg.merge .nil) C)
structure M1(X:Cx)(o:fm)(m:ff)(apos:Pos)(e:fm)(cpos:Pos):Prop where
 base:attributeBase o m X.i (eval o X.i)=eval o X.i
 few:((backTo cpos (QM [e] X.i)).all (λx=>!x.1)&&(backToKw cpos (keywordEach [] X.i)).all (λx=>x.1.isSome)
  && decide (([e]:E fm).L+([]:E Keyword).L+(if([]:E Keyword).isEmpty then 0 else 1)<30))=kf
 line:(apos.endLine == cpos.line)=kf
 trees:backTo cpos (QM [e] X.i)=[(kt,eval e X.i)]
structure M2(X:Cx)(o:fm)(m:ff)(apos:Pos)(e f:fm)(cpos:Pos):Prop where
 base:attributeBase o m X.i (eval o X.i)=eval o X.i
 few:((backTo cpos (QM [e,f] X.i)).all (λx=>!x.1)&&(backToKw cpos (keywordEach [] X.i)).all (λx=>x.1.isSome)
  && decide (([e,f]:E fm).L+([]:E Keyword).L+(if([]:E Keyword).isEmpty then 0 else 1)<30))=kf
 line:(apos.endLine == cpos.line)=kf
 trees:backTo cpos (QM [e,f] X.i)=[(kt,eval e X.i),(kt,eval f X.i)]
def IsD(H:Hp)(a:e8):Prop:=(∃ m,Rd H a (.dK m))∨∃ m,Rd H a (.dT m)
def II(I:Inv X O σ H s)(d:IsD H a):
  s.TypeIs (.ref a) "dict"/\(∀ b,eN.ref a=.ref b->∃ ob,s.H.R b=Z ob/\ob.dict=k7)/\(a == sysModules)=kt:=by
 rcases d with⟨m,e⟩|⟨m,e⟩
 .let _ hd M _ n:=BL I.hok e;erw[n.typeIs,λb q=>?_,hd]
  cases q
  let ob _ _ Y L _:=n;erw[ob,Y,L.2.1]
 .let _ hd J _ n:=BK I.hok e;erw[n.typeIs,λb q=>?_,hd]
  cases q
  let ob _ _ Y L _:=n;erw[ob,Y,L.2.1]
section
variable{X:Cx}{pins:E (e8×hr)}{σ:St}{H:Hp}{s:e9}{a:e8}{y d:V}{u r:eN}{o:io V}{A:Around}{eg:eN->e9->Prop}
def d_get2(eK:A.units+1<cLine)(I:mi σ H s)(g:DGet H a y o)(D:RelV y u)(c:RelV d r)(h:∀ w' s',mi σ H s'->RelV (o.f d) w'->Q w' s'):
  wpAny (model X.e X.w) A (call (.builtin "dict.get") [.ref a,u,r]) Q eg s:=by
 rcases g with⟨m,k,e,T,l⟩|⟨m,k,b,e,T,t,l⟩
 .subst T;let z hd L rel n:=BL I.hok e;refine call_meetsIn Pb n.typeIs PySem.F.entry_dict_get (QA _ _ _) (meets_dict_get_default (bM X.e X.w) a (yy D) hd r) ⟨_,n.mapOf,h _ _ (I.tok _) ?_⟩;rw[l];exact(rel.val k).f c
 .subst T
  cases (show u=eN.ref b from D)
  let z hd J rel n:=BK I.hok e;refine call_meetsIn Pb n.typeIs PySem.F.entry_dict_get (QA _ _ _) (meetsH_dict_get_default (tupleKind (bM X.e X.w)) a b hd r) ⟨tupleKind_room_in1 eK,k,J,wm I.hok t,n,h _ _ (I.tok _) ?_⟩;rw[l];exact(rel.val k).f c
end
def tDGet2(b ty i:TE):TE:=λO H Q=>b O H λx l=>∃ a,x=.ref a/\IsD l a/\ty O l λy Y=>i O Y λz d=>∃ o,DGet d a y o/\Q (o.f z) d
def tDPop1(b ty:TE):TE:=λO H Q=>b O H λx l=>∃ a,x=.ref a/\IsD l a/\ty O l λy Y=>∃ m k v,Y a=Z (.dK m)/\y=kV k/\valV m k=Z v/\Q v (upd Y a (.dK (o9 m k)))
section
variable{X:Cx}{o e f:fm}{apos cpos:Pos}{td ty tx:TE}
def F3(M:X.A.units+1<cLine)(t:PE X o td)(eK:PE X e ty)(T:PE X f tx)(m:M2 X o "get" apos e f cpos):PE X (.Call (.Attribute o "get" apos) [e,f] [] cpos) (tDGet2 td ty tx):=by
 intro B s O H Q I h;refine wpAny_Call_method m.base m.few m.line O5 Pb PySem.F.type_dict_get (thn (t B s O H _ I h) λu j ⟨x,l,n,r,a,b,d,k⟩=>?_);subst b;obtain rfl:u=eN.ref a:=r;let t1 J _:=II n d;erw[t1,J,3];rw[m.trees]
 refine Rj U (Calls.evalArgs_plain (Ra (thn (eK B j O l _ n k) λiv q ⟨y,Y,i,D,L⟩ =>
  Ra (thn (T B q O Y _ i L) λfv C ⟨z,c,eg,rz,ov,g,N⟩=>Q9 ?_))))
 exact d_get2 M eg g D rz λw p I4 v=>⟨_,c,I4,v,N⟩
def F1(t:PE X o td)(eK:PE X e ty)(m:M1 X o "pop" apos e cpos):PE X (.Call (.Attribute o "pop" apos) [e] [] cpos) (tDPop1 td ty):=by
 intro B s O H Q I h;refine wpAny_Call_method m.base m.few m.line O5 PySem.F.slot_dict_pop PySem.F.type_dict_pop (thn (t B s O H _ I h) λu j ⟨x,L,n,c,a,b,d,f⟩=>?_);subst b;obtain rfl:u=eN.ref a:=c;let r J _:=II n d;erw[r,J,3];rw[m.trees];refine Rj U (Calls.evalArgs_plain (Ra (thn (eK B j O L _ n f) λA q ⟨y,Y,z,D,p,k,v,i,T,l,g⟩=>Q9 ?_)));subst T;exact d_pop z i D l (.inl U) λw C eg M=>⟨v,_,eg,M,g⟩
end
section
variable{X:Cx}{pins:E (e8×hr)}{σ:St}{H:Hp}{s:e9}{a:e8}{kvs:E (Key×V)}{A:Around}{eg:eN->e9->Prop}
end
section
variable{X:Cx}{pins:E (e8×hr)}{σ:St}{H:Hp}{s:e9}{a:e8}{y:V}{u:eN}{A:Around}{eg:eN->e9->Prop}
end
section
variable{κ:Type} [DecidableEq κ]
def Ak{kvs:E (κ×V)}{k:κ}(h:valV kvs k=k7):¬ k∈kvs.h (·.1):=by
 intro m;let p g e:=LW.mp m;let q:(kvs.any λf=>decide (f.1=k))=kf:=Qc.mpr ⟨p,g,Rl e⟩;rw[gQ,h]at q;simp!
theorem yk:∀{l:E κ}{k:κ},l.l->¬ k∈l->(l++[k]).l
 |[],k,_,_=>by simp
 |a::r,k,h,eK=>by
  let Y L:=LF.mp h;show(a::(r++[k])).l;refine LF.mpr ⟨λm=>?_,yk L λm=>eK (Lz.mpr (Or.inr m))⟩;simp!
def Ko{kvs:E (κ×V)}{k:κ}(v:V)(N:(kvs.h (·.1)).l)(h:valV kvs k=k7):((putK kvs k v).h (·.1)).l:=by
 rw[tQ v h,LC];exact yk N (Ak h)
def EF{p:κ×V}{r:E (κ×V)}{k:κ}(e:p.1=k):o9 (p::r) k=o9 r k:=by
 unfold o9;simp[*]
def EG{p:κ×V}{r:E (κ×V)}{k:κ}(e:¬ p.1=k):o9 (p::r) k=p::o9 r k:=by
 unfold o9;simp[*]
end
def clOf(env:gI)(fr:E (ff×R)):E (ff×e8):=fr.h λp=>(p.1,(env.cells.Z p.1).f 0)
def frOf(fr:E (ff×R))(σ:St):St:=fr.h λp=>(σ[p.2]?).join
theorem kN{env:gI}:∀{fr:E (ff×R)}{y:ff}{c:e8},(clOf env fr).Z y=Z c->y∈fr.h (·.1)/\c=(env.cells.Z y).f 0
 |[],_,_,h=>by cases h
 |p::r,y,c,h=>by
  unfold clOf at h;rw[LX,List.lookup_cons]at h
  cases e:y == p.1 with
  |true =>
   simp!
  |false =>
   rw[e]at h;let a b:=kN (env:=env) (fr:=r) h;erw[Lu _ a,b]
theorem fO{env:gI}:∀{fr:E (ff×R)}{y:ff},y∈fr.h (·.1)->(clOf env fr).Z y=Z ((env.cells.Z y).f 0)
 |[],_,h=>by cases h
 |p::r,y,h=>by
  unfold clOf;rw[LX,List.lookup_cons]
  cases e:y == p.1 with
  |true =>
   simp!
  |false =>
   let i:y≠p.1:=λz=>by simp!
   obtain z|z:=Lz.mp h
   .contradiction
   .exact fO (env:=env) (fr:=r) z
section
variable{X:Cx}{pins:E (e8×hr)}{σ:St}{H:Hp}{s:e9}{scope:hx}{fr:E (ff×R)}{x:ff}
end
def vm(f:TE)(a:St)(J:It)(H1:Hp)(QQ:E V->Hp->Prop):Prop :=
 ∃ W:R->R->E V->Hp->Prop,(∃ m,W 0 m [] H1)/\∀ i m O H,W i m O H->O.L<=QG /\
  ((J.stop i H/\QQ O H)∨(J.go i H/\∃ N:V->Hp->Prop,(∀ y Y,N y Y->∃ C,C<m/\W (i+1) C (O++[y]) Y)/\∀ x eK,J.yld i H x eK->f (Z x::a) eK N))
section
variable{X:Cx}{scope:hx}{fr:E (ff×R)}{x:ff}{elt iter:fm}{px pos:Pos}{te:TE}{wi:TI}
end
def E4{f:TE}(Pv:R->E V->Hp->Prop)(hz:xs.L<=QG)(l:Pv 0 [] H1)(hl:∀ i ys H,i<=xs.L->Pv i ys H->na a xs)
  (hs:∀ i x ys H,xs[i]?=Z x->Pv i ys H->f (Z x::σ) H λy H2=>Pv (i+1) (ys++[y]) H2) (hd:∀ ys H,ys.L=xs.L->Pv xs.L ys H->QQ ys H)
  : vm f σ (Itl K a) H1 QQ:=by
 erw[λi m ys H=>m=xs.L-i/\i<=xs.L/\ys.L=i/\Pv i ys H,⟨xs.L,by simp,Mh _,U,l⟩,3]
 rintro i m ys H ⟨rfl,B,Q,p⟩;let q:=hl i ys H B p;erw[16]
 by_cases r:i<xs.L
 .refine .inr ⟨⟨xs,xs[i],q,by simp⟩,λy H2=>Pv (i+1) (ys++[y]) H2,λy H2 t=>⟨xs.L-(i+1),∅,U,r,by simp[*],t⟩,λx eK y=>?_⟩
  let e y:=y;subst e;exact hs i x ys _ (y xs q) p
 .let e:i=xs.L:=by lia
  subst e;exact .inl ⟨⟨xs,q,Lq _⟩,hd ys H Q p⟩
def BZ{lo:G}{f:TE}(Pv:R->E V->Hp->Prop)(hz:n<=QG)(l:Pv 0 [] H1)
  (hs:∀ i ys H,i<n->Pv i ys H->f (Z (.int (lo+i))::σ) H λy H2=>Pv (i+1) (ys++[y]) H2) (hd:∀ ys H,ys.L=n->Pv n ys H->QQ ys H)
  : vm f σ (Itr lo n) H1 QQ:=by
 erw[λi m ys H=>m=n-i/\i<=n/\ys.L=i/\Pv i ys H,⟨n,by simp,Mh _,U,l⟩,3]
 rintro i m ys H ⟨rfl,B,Q,p⟩;erw[16]
 by_cases r:i<n
 .refine .inr ⟨r,λy H2=>Pv (i+1) (ys++[y]) H2,λy H2 t=>⟨n-(i+1),∅,U,r,by simp[*],t⟩,λx eK y=>?_⟩
  let e y:=y;subst e y;exact hs i ys _ r p
 .let e:i=n:=by lia
  subst e;exact .inl ⟨Lq _,hd ys H Q p⟩
def IV:QJ "int"=Z (.type "int"):=by rfl
def Ld:QJ "bool"=Z (.type "bool"):=by rfl
def iQ:QJ "list"=Z (.type "list"):=by rfl
def A4:QJ "tuple"=Z (.type "tuple"):=by rfl
def aZ:QJ "len"=Z (.builtin "len"):=by rfl
def HG:QJ "range"=Z (.type "range"):=by rfl
def bQ:QJ "isinstance"=Z (.builtin "isinstance"):=by rfl
def rj:QJ "sorted"=Z (.builtin "sorted"):=by rfl
def zW:QJ "reversed"=Z (.type "reversed"):=by rfl
def w4:QJ "enumerate"=Z (.type "enumerate"):=by rfl
structure Cal(P:ge)(w:ih)(K:Lo)(mg:ff->io eN)(base:fc)(k:R)(x:ff)(ps:E ff)(sp:Sp)(f:e8)(fd:fk):Prop where
 ok:k9 k f fd ps sp
 bn:fu K fd ps []
 mg:mg x=Z (.ref f)
 kp:Mu K (.ref f)=kf
structure Mak(P:ge)(w:ih)(K:Lo)(mg:ff->io eN)(base:fc)(k:R)(x:ff)(ps:E ff)(sp:Sp)(C f:e8)(fd:fk):Prop where
 mkc:Mk K C f
 ok:k9 k f fd ps sp
 bn:fu K fd ps []
 mg:mg x=Z (.ref C)
structure Met(P:ge)(w:ih)(K:Lo)(mg:ff->io eN)(base:fc)(k:R)(C:e8)(m:ff)(ps:E ff)(sp:Sp)(f:e8)(fd:fk):Prop where
 me:Meth K C m f
 ok:k9 k f fd ps sp
 bn:fu K fd ps []
theorem n8{a:E fo}{t t2:TS}(h:PSs X a t)(i:∀ D σ H,t2 D σ H->t D σ H):PSs X a t2:=λB s σ H D I q=>h B s σ H D I (i D σ H q)
inductive rIsi(K:Lo)(xs:E V)(H:L2.Hp)(Q:L2.VK):Prop
 |mk (x c t b u:_) (_:xs=[x,c])(_:TyOf K H x t)(_:((∃ n,c=.ty n/\u=eN.type n)∨∃ a,c=.ref a/\u=eN.ref a))(_:M8 K t u=Z b)(_:Q (.bl b) H)
def nH:eO X (.builtin "isinstance") (rIsi X.K):=by
 intro B s O H J g Q I r h;let x c t b u rfl ty eK e q:=h;let m T rfl A p:=Ba r;let eg:T=u:=by
  rcases eK with⟨n,rfl,rfl⟩|⟨a,rfl,rfl⟩
  .exact p
  .exact p
 subst eg;exact DX I A ty e λl=>⟨.bl b,H,I.tok l,U,q⟩
def kit_ii(K:Lo):M8 K (.type "int") (.type "int")=Z kf:=by with_unfolding_all rfl
def kit_ib(K:Lo):M8 K (.type "int") (.type "bool")=Z kt:=by with_unfolding_all rfl
def kit_ll(K:Lo):M8 K (.type "list") (.type "list")=Z kf:=by with_unfolding_all rfl
def IF(K:Lo):M8 K (.type "tuple") (.type "tuple")=Z kf:=by with_unfolding_all rfl
inductive RdD(K:Lo)(H:Hp):V->gi->Prop where
 |non:RdD K H .non .none
 |bl (b:i0):RdD K H (.bl b) (.bool b)
 |int (i:G):RdD K H (.int i) (.int i)
 |lst {a:e8} {xs:E V} {ds:E gi} (h:na a xs) (hl:xs.L=ds.L) (r:∀(i:R)(x:V)(d:gi),xs[i]?=Z x->ds[i]?=Z d->RdD K H x d):RdD K H (.ref a) (.list ds)
 |tup {a:e8} {xs:E V} {ds:E gi} (h:SqT K H a xs) (hl:xs.L=ds.L) (r:∀(i:R)(x:V)(d:gi),xs[i]?=Z x->ds[i]?=Z d->RdD K H x d):RdD K H (.ref a) (.tuple ds)
theorem lE{h:fc}:∀{xs:E V}{us:E eN}{ds:E gi},Vals xs us->xs.L=ds.L->(∀(i:R) x d,xs[i]?=Z x->ds[i]?=Z d->∀ u,RelV x u->∃ as,Reads h u d as)->∃ as,ReadsAll h us ds as
 |_,_,[],.nil,_,_=>⟨_,.nil⟩
 |_,_,_::_,.nil,e,_=>by cases e
 |_,_,[],.cons _ _,e,_=>by cases e
 |_,_,d::ds,.cons r a,e,k=>by
  let n f:=k 0 _ d U U _ r;let I L:=lE a (Nat.succ.inj e) λi x v C eg=>k (i+1) x v C eg;erw[_,.cons f L]
def RdD.reads(I:Inv X O σ H s){x:V}{d:gi}(r:RdD X.K H x d):∀ u,RelV x u->∃ as,Reads s.H u d as:=by
 induction r with
 |non=>intro u eK;cases eK;erw[_,.none]
 |bl b=>intro u eK;cases eK;erw[_,.bool b]
 |int i=>intro u eK;let t rfl:=eK;erw[_,.int i t]
 |lst h D r A =>
  intro u eK
  cases eK
  let g rv p _:=I.list h;let as q:=lE (h:=s.H) rv D A;let o n e c _ d:=p;erw[_,.list e c d (by simpa using q)]
 |tup h D r A =>
  intro u eK
  cases eK
  let g rv p _:=I.tuple h;let as q:=lE (h:=s.H) rv D A;let o e c n d:=p;erw[_,.tuple e c d (by simpa using q)]
inductive rSame(b:i0)(K:Lo)(x:L2.V)(y:L2.V)(H:L2.Hp)(Q:L2.VK):Prop
 |mk (d:_) (_:RdD K H x d)(_:RdD K H y d)(_:SeqAt.shaped d=kf)(_:Q (.bl b) H)
def IB(eK:X.A.units+64<cLine):OpR X (QO .NotEq) (rSame kt X.K):=by
 intro B s O H x y v u Q I c D h;let d eg o p q:=h;let as k:=eg.reads I v c;let bs L:=o.reads I u D;refine ne_dataH k L p p eK ?_;rw[SeqAt.eqv_refl d (SeqAt.canLay_of_shaped p)];erw[.bl kt,H,I,U,q]
def Itr3(lo c:G)(n:R):It:=⟨λi _=>i<n,λi H x eK=>eK=H/\x=.int (lo+i*c),λi _=>n<=i⟩
theorem xA{tg:fm}(it:e8)(lo c:G)(n:R):Turn P w K tg (Itr3 lo c n) [it] it (λi h=>IsRangeIter h it (lo+(i:R)*c) ((n:G)-(i:R)) c) where
 mem:=by simp
 obj:=λi h st b M=>by
  let e:b=it:=by simpa using M
  subst e
  erw[_,st,λv z=>by
   contradiction]
 keep:=λi h N st k=>k it (by simp) _ st
 item:=by
  intro X D p f T i B s O H eg I C st Y;subst D p f;let eK Q a j g x:=C it (by simp)
  let W:=Walks.range (prog:=X.e) (w:=X.w) (I.ok.hd T) it lo c n;refine W.item i s _ _ Y st λv N l m q y=>?_;let t rfl:=m;let d:nv O H {s with heap:=N,toks:=l}:=I.turned (λb o M e=>y b o (by simpa using M) e) eK Q j g x
  erw[9,G6 (s:={s with heap:=N,toks:=l}) (n:="range_iterator") q U U ∅ ⟨.int (lo+i*c),H,d,⟨t,U⟩,⟨U,U⟩,q,λb M=>(C b M).1⟩]
 done:=by
  intro X D p f T i B s O H eg I C st Y;subst D p f;let eK Q a j g x:=C it (by simp)
  exact wpAny_pyNext_range_end (I.ok.hd T) st (by let:n<=i:=Y;lia) λN A=>⟨U,I.turned (t':=s.v) (λb o M e=>A b o M e) eK Q j g x⟩
 self:=λ_ _ _ _ _ st h=>wpAny_pyIter_rangeiter st h
section
variable{X:Cx}{tg:fm}
end
section
variable{P:ge}{w:ih}{H:Hp}{h:fc}{a:e8}{o:HO}
def bE.get(x:bE P w H h a o):∃ ob,h.R a=Z ob:=by
 cases o with
 |lst J=>obtain⟨_,_,_,_,e⟩:=x;erw[_,e]
 |tup J=>obtain⟨_,_,_,ob,e,_⟩:=x;erw[_,e]
 |dK m=>obtain⟨_,_,_,_,o,_,_,e,_⟩:=x;erw[_,e]
 |dT m=>obtain⟨_,_,_,_,o,_,_,e,_⟩:=x;erw[_,e]
 |set S n=>obtain⟨o,_,_,_,e,_⟩:=x;erw[_,e]
 |ins C j fs=>obtain⟨_,_,_,e,_⟩:=x;erw[_,e]
 |own y=>exact x
 |xd fs=>obtain⟨_,⟨_,_,_,e,_⟩,_⟩:=x;erw[_,e]
 |rng lo B=>obtain⟨_,_,_,e⟩:=x;erw[_,e]
 |frz ob u=>exact⟨_,x.1⟩
 |tbl T=>exact⟨_,(show h.R a=Z _ from x)⟩
 |met f y=>exact⟨_,(show h.R a=Z _ from x)⟩
 |ext s=>exact x.2.1
def HOk.none_of(x:HOk P w H h)(e:h.R a=k7):H a=k7:=by
 cases q:H a with
 |none=>rfl
 |some u =>
  let N z:=(x a u q).get;simp!
end
structure XOk(X:Cx)(pins:E (e8×hr))(H:Hp)(b:e8):Prop where
 old:X.s₀.H.R b=k7
 trk:H b=k7
 nl:b≠X.i.locals
 nc:∀ x c,X.i.cells.Z x=Z c->c≠b
 np:∀ p∈X.pn++pins,p.1≠b
section
variable{X:Cx}{pins:E (e8×hr)}{σ:St}{H H':Hp}{s s':e9}{b:e8}
def Inv.xok(I:Inv X pins σ H s)(J:X.ex=[])(e:s.H.R b=k7)(n:H' b=k7):XOk X pins H' b:=by
 erw[3,n,λz=>?_,λx c q z=>?_,λp g z=>?_]
 .cases q:X.s₀.H.R b with
  |none=>rfl
  |some o =>
   let j O:=I.base.there b o q (by simp[*])
   simp!
 .let m{o _ _ t _}_:=I.loc;simp!
 .let v o t _:=I.cell x c q;simp!
 .let:=(I.pin p g).1
  simp!
def Inv.xstep(I:Inv X pins σ H s)(y:∀ b∈ch,XOk X pins H b)(keep:∀ b o,s.H.R b=Z o->b∉ch->b∉frs X.stack->h'.R b=Z o)(slot:∀ b o,s.H.R b=Z o->b∉ch->b∈frs X.stack->∃ sl,h'.R b=Z {o with slots:=sl}):Inv X pins σ H {s,h'}:=by
 let any:∀ b o,s.H.R b=Z o->b∉ch->∃ sl,h'.R b=Z {o with slots:=sl}:=λb o e T=>by
  by_cases M:b∈frs X.stack
  .exact slot b o e T M
  .erw[o.slots,keep b o e T M]
 let Q:∀ b,b∈frs X.stack->b≠X.i.locals->b∈X.fs:=λb M n=>(Lz.mp (I.stkSub b M)).elim (λz=>R7 z n) λz=>z;let O:∀ b o,X.s₀.H.R b=Z o->b≠X.i.locals:=λb o e=>LQ (Mb (QH e) I.ok.above);let h:∀ b o,X.s₀.H.R b=Z o->b∉ch:=λb o e M=>by
  let:=(y b M).old;rw[e]at this;contradiction
 let L:∀ x c,X.i.cells.Z x=Z c->∀ v,s.H.IsCell c v->h'.IsCell c v:=λx c e v ⟨o,t,hd⟩=>by
  let sl q:=any c o t λz=>(y c z).nc x c e U;erw[_,q,hd]
 erw[I.ok,I.os,I.bare,⟨λb o e n M J=>?_,λb o e n M J=>?_,I.base.free,λb o e J=>?_,I.base.tups,I.base.frzs,I.base.tbls⟩,3,λx c e=>?_,I.free,I.freeC,λp g=>?_,λb u e=>?_,I.len]
 .exact keep b o (I.base.keep b o e n M J) (h b o e) λz=>M (Q b z (O b o e))
 .let sl C:=I.base.slot b o e n M J;let w eg:=any b _ C (h b o e);erw[w,eg]
 .let j C:=I.base.there b o e J;let sl eg:=any b _ C (h b o e);erw[_,eg]
 .let m{o D N t r}B:=I.loc;let sl eg:=any _ o t λz=>(y _ z).nl U;erw[m,⟨_,D,N,eg,r⟩,λi x v C eg f=>?_];let u r l:=B i x v C eg f;erw[u,r,3];obtain l|⟨k,c,e,z⟩:=l
  .exact .inl l
  .exact .inr ⟨k,c,e,L x c e _ z⟩
 .let v z:=I.cell x c e;erw[v,L x c e v z]
 .let e n ne a d:=I.pin p g;erw[keep p.1 p.2 e (λz=>(y p.1 z).np p g U) λz=>a (Q p.1 z ne),n,ne,a,d]
 .let eK:∀ c A,H c=Z A->c∉ch/\c∉frs X.stack:=λc A q=>⟨λz=>(by rw[(y c z).trk]at q;exact nomatch q),λz=>(by rw[I.stkFree c z]at q;exact nomatch q)⟩
  refine(I.hok b u e).stay (λc v T q=>?_) (λ_ q=>q) λ_ _ q=>q;obtain z|z:=T
  .rw[z]at q ⊢;exact keep b v q (eK b u e).1 (eK b u e).2
  .exact keep c v q (eK c _ z).1 (eK c _ z).2
def Inv.xtrack{o:HO}(I:Inv X pins σ H s)(f:XOk X pins H a)(new:bE X.e X.w (upd H a o) s.H a o):Inv X pins σ (upd H a o) s:=by
 let ne:∀ b u,H b=Z u->b≠a:=λb u e=>aF e f.trk;let l:∀ b u,s.H.R b=Z u->b≠a->H b=k7->upd H a o b=k7:=λb u _ n q=>by rw[ar n];exact q
 erw[I.ok,I.os,I.bare,⟨I.base.keep,I.base.slot,λb N e n J=>?_,I.base.there,λb j e=>?_,λb N j e=>?_,λb T e=>?_⟩,I.loc,I.cell,3,λx c e=>?_,λp g=>?_,λb u e=>?_,I.len]
 .rw[ar (λz=>by rw[z,f.old]at e;cases e)]
  exact I.base.free b N e n J
 .let:=I.base.tups b j e
  rw[ar (ne _ _ this)];exact this
 .let:=I.base.frzs b N j e
  rw[ar (ne _ _ this)];exact this
 .let m q:=I.base.tbls b T e;erw[m,by rw[ar (ne _ _ q)];exact q]
 .rw[ar (Ne.Y f.nl)];exact I.free
 .rw[ar (f.nc x c e)];exact I.freeC x c e
 .let e n r:=I.pin p g;erw[e,by rw[ar (f.np p g)];exact n,r]
 .by_cases M:b=a
  .rw[M,ag]at e
   cases e
   rw[M];exact new
  .rw[ar M]at e;exact(I.hok b u e).stay (λc v _ q=>q) (λc q=>by rw[ar (ne c _ q)];exact q) λc j q=>by rw[ar (ne c _ q)];exact q
end
def Trc(h:fc)(x:e8)(C:eN)(T:e8):Prop :=
 ∃ g L m Q i,h.R x=Z g/\g.cls=C/\L[0]?=Z m/\g.data=.fields L/\L[1]?=Z (.ref T)/\T≠x/\h.R T=Z Q/\Q.data=.fields i/\i[3]?=Z .none
def Xnw(h:fc)(x:e8)(C:eN):Prop:=∃ g L m,h.R x=Z g/\g.cls=C/\g.data=.fields L/\L[0]?=Z m/\L[1]?=Z .none
def XA(X:Cx)(B:E (e8×hr))(H:Hp)(s:e9)(x:e8)(C:eN):Prop:=XOk X B H x/\(Xnw s.H x C∨∃ T,XOk X B H T/\Trc s.H x C T)
section
variable{X:Cx}{pins:E (e8×hr)}{σ:St}{H:Hp}{s:e9}{x:e8}{C:eN}{eg:eN->e9->Prop}
abbrev hidX(X:Cx)(h:fc)(ch:E e8):fc:=PySem.W.hideAll h (ch++frs X.stack)
theorem Inv.hidF(I:Inv X pins σ H s)(ch:E e8):s.H.FunFrames (hidX X s.H ch) X.stack :=
 PySem.W.funFrames_hide I.stack λh eK a C=>Ma _ (PK.mpr ⟨h,eK,C⟩)
theorem Eb(ch:E e8)(h:fc):(hidX X h ch).StaysIn h:=λ_ _ e=>PySem.W.of_hideAll _ e
theorem mZ{b:e8}(M:b∈ch):(hidX X h ch).R b=k7:=PySem.W.hideAll_none _ (Mi _ M)
def Inv.left{m:eN}(I:Inv X pins σ H s)(J:X.ex=[])(y:∀ b∈ch,XOk X pins H b)(k:(hidX X s.H ch).StaysIn h')(t:h'.TracedW (hidX X s.H ch) x C m)(u:s.H.UpToSlots h'):
  mi σ H {s,h'}/\∃ T,XOk X pins H T/\Trc h' x C T:=by
 let A:∀ b o,s.H.R b=Z o->b∈frs X.stack->∃ d,h'.R b=Z {o with slots:=d}:=λb o e M=>by
  let _ j w hd:=I.stack.mem M;rw[e]at w
  cases w
  exact u b o e hd
 erw[I.xstep y (λb o e eg D=>k b o (Pz _ e λz=>(LG.mp z).elim eg D)) λb o e _ M=>A b o e M,3];let g L T Q i eK{h l}hd Y r p O c f:=t;erw[T,3,g,L,m,Q,i,eK,h,l,hd,Y,p,O,c,f]
 cases q:s.H.R T with
 |none=>exact I.xok J q (I.hok.none_of q)
 |some o =>
  by_cases z:T∈ch
  .exact y T z
  .by_cases a:T∈frs X.stack
   .let _ j w B:=I.stack.mem a;let d e:=A T o q a;rw[O]at e
    cases e
    rw[q]at w
    cases w
    exact R7 c (B i)
   .let:=Pz (ch++frs X.stack) q λn=>(LG.mp n).elim z a
    rw[r]at this
    cases this
def Inv.leave{Q:Unit->e9->Prop}(I:Inv X pins σ H s)(J:X.ex=[])(c:X.stack=X.i::X.outer)(a:X.i.frame=Z X.i.locals)(xa:XA X pins H s x C)(h:∀ h' T,Inv X pins σ H {s,h'}->XOk X pins H x->XOk X pins H T->Trc h' x C T->Q () {s,h'}):lf (leaving X.i (.ref x)) Q eg s:=by
 let r q:=xa;let z:X.A.frames=Z (X.i::X.outer):=by rw[← c];exact I.ok.frames
 rcases q with⟨g,j,m,eK,d,hd,l,Y⟩|⟨T,u,g,j,m,t,i,eK,d,l,hd,Y,o,O,k,f⟩
 .let y:∀ b∈[x],XOk X pins H b:=λb M=>by
   let e:b=x:=by simpa using M
   rw[e];exact r
  refine wpAny_leaving_firstW (base:=hidX X s.H [x]) z (c▸I.hidF [x]) a eK (Eb _ _) (mZ (by simp)) hd Y l λh' L=>?_
  let N _ v p:=L;let D T u n:=I.left J y N v p;rw[d]at n;exact h h' T D r u n
 .let y:∀ b∈[x,T],XOk X pins H b:=λb M=>by
   obtain e|M:=Lz.mp M
   .rw[e];exact r
   .let e:b=T:=by simpa using M
    rw[e];exact u
  refine wpAny_leaving_nextW (base:=hidX X s.H [x,T]) z (c▸I.hidF [x,T]) a ⟨g,j,T,t,i,eK,⟨d,l⟩,hd,Y,mZ (by simp),o,O,k,f⟩ (Eb _ _) (mZ (by simp)) λh' L=>?_
  let N _ v p:=L;let D T' B n:=I.left J y N v p;exact h h' T' D r B n
end
section
variable{X:Cx}{k:R}{f C:e8}{fd:fk}{ps:E ff}{sp:Sp}{dvs:E V}{ds:E eN}{W:WK}{x m:ff}{p pos apos:Pos}{e o:fm}{es:E fm}{ta:TE}{t:TA}
end
@[inline] abbrev veM:E eN:=[.type "ValueError",.type "Exception",.type "BaseException",.type "object"]
def zzC(d:PySem.Data):io PySem.ClassData:=match d with|.cls c=>Z c|_=>k7
theorem zzD{d:PySem.Data}{c}(h:zzC d=Z c):d=.cls c:=by
 unfold zzC at h;split at h<;>cases h;rfl
def zzG(K:Lo)(C:e8)(i:io eN):Bool:=match K.lookup C with|Z o=>(match zzC o.data with|Z c=>o.cls == .type "type"&&c.mro.head? == Z (.ref C)&&o.slots.toList.length == 6&&o.slots.toList[4]? == Z (Z (.builtin "ValueError.__new__"))&& !c.hasDel&&PySem.W.tailIn K veM c.mro.tail&&PySem.W.nsOkIn K c.ns&&PySem.W.nsIn K c.ns "__init__" == Z i|_=>kt)|_=>kt
theorem zzS{α:Type}{l:E α}(h:l.length=6){G:Prop}(k:∀ a b c d e f,l=[a,b,c,d,e,f]->G):G:=by
 iterate 6 (obtain⟨_,_,rfl⟩:=List.exists_cons_of_length_eq_add_one h;replace h:=Nat.succ.inj h)
 exact k _ _ _ _ _ _ (by rw[List.eq_nil_of_length_eq_zero h])
theorem zzA{i:io eN}(e:zzG K C i=kf){G:Prop}(k:∀ o c,K.lookup C=Z o->o.data=.cls c->o.cls=.type "type"->c.mro.head? =Z (.ref C)->o.slots.toList.length=6->o.slots.toList[4]? =Z (Z (.builtin "ValueError.__new__"))->c.hasDel=kt->PySem.W.tailIn K veM c.mro.tail=kf->PySem.W.nsOkIn K c.ns=kf->PySem.W.nsIn K c.ns "__init__"=Z i->G):G:=by
 unfold zzG at e;cases hl:K.lookup C with
 |none=>rw[hl]at e;cases e
 |some o=>
  rw[hl]at e;dsimp only at e;cases hc:zzC o.data with
  |none=>rw[hc]at e;cases e
  |some c=>rw[hc]at e;simp only[Bool.and_eq_true,beq_iff_eq,Bool.not_eq_true']at e;obtain⟨⟨⟨⟨⟨⟨⟨m,n⟩,p⟩,q⟩,r⟩,s⟩,t⟩,u⟩:=e;exact k o c hl (zzD hc) m n p q r s t u
theorem zzT{α:Type}{l:E α}{x}(h:l.head? =Z x):l=x::l.tail:=by cases l<;>cases h;rfl
inductive zzE(K:Lo)(h:fc)(C:e8)(i:io eN):Prop
 |mk(bm N nm qn bs hdct sn sub ab col dd k0 k1 k2 k3 k5 mN)(a:h.get? C=Z (excClassObj nm qn C N bs bm hdct sn sub ab col dd k0 k1 k2 k3 k5 "ValueError.__new__"))(b:h.Ns N mN)(c:mN "__init__"=i)(d:OwnTail h veM bm)(e:∀ B b,PySem.W.mroIn K C B=Z b->(eN.ref C::bm).contains B=b):zzE K h C i
abbrev ExC(K:Lo)(C:e8):Prop:=zzG K C k7=kf
theorem Ey(e:ExC K C)(X:K.In h):zzE K h C k7:=by
 refine zzA e λo c hl hd m n p q r s t u=>?_;refine zzS p λy0 y1 y2 y3 y4 y5 w=>?_;have v:=zzT n;rw[w]at q;refine .mk c.mro.tail c.ns c.name c.qualname c.bases c.hasDict c.slotNames c.subclasses c.abstract c.collection o.dict y0 y1 y2 y3 y5 _ ?_ (.of_isNs (PySem.W.isNs_of_in X t)) (PySem.W.nsMap_none_of_in X t u) (PySem.W.tail_of_in X s) λB b i=>?_
 .rw[X _ _ hl];obtain⟨_,_,_,⟨_⟩⟩:=o;cases hd;cases m;cases w;cases q;delta excClassObj;rw[← v,← r]
 .unfold PySem.W.mroIn PySem.W.clsIn at i;rw[hl]at i;obtain⟨_,_,_,_⟩:=o;cases hd;have i:(if c.mro.isEmpty=true then none else some (c.mro.contains B))=some b:=i;rw[v]at i;exact Option.some.inj i
section
variable{X:Cx}{pins:E (e8×hr)}{σ:St}{H:Hp}{s:e9}{x:e8}{C:eN}
def Cx.marked(X:Cx)(v:eN):Cx:={X with A:=X.A.mark (Z v),calm:=kt,xe:=λ_ _=>False}
theorem Inv.marked(I:Inv X pins σ H s)(v:eN):Inv (X.marked v) pins σ H s :=
 ⟨⟨I.ok.mod,I.ok.kind,I.ok.glob,I.ok.blt,I.ok.above,I.ok.inj,I.ok.has,I.ok.cab,λz=>(by cases z),I.ok.frames,I.ok.stk,I.ok.exf,I.ok.bs,I.ok.bsz,I.ok.noex,I.ok.exfs,I.ok.funs,I.ok.frf⟩,I.os,I.bare,I.base,I.loc,I.cell,I.free,I.freeC,I.pin,I.hok,I.len⟩
theorem Inv.unmarked{hd:X.calm=kf->X.A.handled=k7}{fr:X.A.frames=Z X.stack}{v:eN}(I:Inv (X.marked v) pins σ H s):Inv X pins σ H s :=
 ⟨⟨I.ok.mod,I.ok.kind,I.ok.glob,I.ok.blt,I.ok.above,I.ok.inj,I.ok.has,I.ok.cab,hd,fr,I.ok.stk,I.ok.exf,I.ok.bs,I.ok.bsz,I.ok.noex,I.ok.exfs,I.ok.funs,I.ok.frf⟩,I.os,I.bare,I.base,I.loc,I.cell,I.free,I.freeC,I.pin,I.hok,I.len⟩
def Inv.gone{n:ff}{m:ff->io eN}{v:io eN}(I:Inv X pins σ H s)(w:X.N.l)(hi:X.N[i]?=Z n)(D:s.H.Ns X.i.locals m/\∀ (i:R) (x:ff) (v:V),X.N[i]?=Z x->σ[i]?=Z (Z v)->Vis X.i.scope x->∃ u,RelV v u/\Look X.i s.H m x u)(a:h'.Ns X.i.locals (λy=>if y=n then v else m y))(hs:QL X.i.locals s.H h'):Inv X pins (σ.set i k7) H {s with heap:=h',toks:=tk}:=by
 let lo:∀ b o,X.s₀.H.R b=Z o->b≠X.i.locals:=λb o e=>LQ (Mb (QH e) I.ok.above);let oL _ _ Y _:=id D.1;erw[I.ok,I.os,I.bare,⟨λb o e O M J=>(hs.2 b (lo b o e)).Q (I.base.keep b o e O M J),λb o e O M J=>?_,I.base.free,λb o e J=>?_,I.base.tups,I.base.frzs,I.base.tbls⟩,⟨_,a,λj y h C eg f=>?_⟩,λy c e=>?_,I.free,I.freeC,λp g=>?_,λb u e=>?_,by simpa using I.len]
 .let Q q:=I.base.slot b o e O M J;erw[Q,(hs.2 b (lo b o e)).Q q]
 .let l q:=I.base.there b o e J;erw[l,(hs.2 b (lo b o e)).Q q]
 .by_cases k:j=i
  .subst k;rw[MH]at eg;split at eg
   .split at eg<;>cases eg
   .rename_i z;exact R7 U z
  .rw[Po (Ne.Y k)]at eg;let u' eK t:=D.2 j y h C eg f;erw[u',eK,3];rcases t with⟨r,e⟩|⟨r,c,e,z⟩
   .refine .inl ⟨r,?_⟩;let ny:y≠n:=λq=>k (uo w C (q▸hi));show(if y=n then v else m y)=Z u';rw[R6 ny];exact e
   .exact .inr ⟨r,c,e,z.sameBut hs (I.cne y c e)⟩
 .let w2 z:=I.cell y c e;erw[w2,z.sameBut hs (I.cne y c e)]
 .let e O ne B d:=I.pin p g;erw[(hs.2 p.1 ne).Q e,O,ne,B,d]
 .refine(I.hok b u e).stay (λc L T q=>(hs.2 c λz=>?_).Q q) (λ_ q=>q) λ_ _ q=>q;let A:=I.free;obtain y|y:=T
  .rw[← y,z,A]at e;cases e
  .rw[z,A]at y;cases y
end
section
variable{M:Model}{A:Around}{eg:eN->e9->Prop}{h:fc}{g:j5 GenState}{d:Drawn}{t:R}{os:OsState}
end
def Cx.tried(X:Cx)(B:E (e8×hr))(eg:eN->e9->Prop):Cx:={X with pn:=X.pn++B,xe:=eg}
section
variable{X:Cx}{pins pins':E (e8×hr)}{σ:St}{H:Hp}{s:e9}{eg:eN->e9->Prop}{b:e8}
theorem Inv.tried(I:Inv X pins σ H s):Inv (X.tried pins eg) [] σ H s :=
 ⟨⟨I.ok.mod,I.ok.kind,I.ok.glob,I.ok.blt,I.ok.above,I.ok.inj,I.ok.has,I.ok.cab,I.ok.hd,I.ok.frames,I.ok.stk,I.ok.exf,I.ok.bs,I.ok.bsz,I.ok.noex,I.ok.exfs,I.ok.funs,I.ok.frf⟩,I.os,I.bare,I.base,I.loc,I.cell,I.free,I.freeC,λp g=>I.pin p (by rw[OP]at g;exact g),I.hok,I.len⟩
theorem Inv.untried(I:Inv (X.tried pins eg) pins' σ H s):Inv X pins σ H s :=
 ⟨⟨I.ok.mod,I.ok.kind,I.ok.glob,I.ok.blt,I.ok.above,I.ok.inj,I.ok.has,I.ok.cab,I.ok.hd,I.ok.frames,I.ok.stk,I.ok.exf,I.ok.bs,I.ok.bsz,I.ok.noex,I.ok.exfs,I.ok.funs,I.ok.frf⟩,I.os,I.bare,I.base,I.loc,I.cell,I.free,I.freeC,λp g=>I.pin p (Mi _ g),I.hok,I.len⟩
theorem XOk.untried(x:XOk (X.tried pins eg) pins' H b):XOk X pins H b:=⟨x.old,x.trk,x.nl,x.nc,λp g=>x.np p (Mi _ g)⟩
def SP.untried{D:Ends}{f:Flow}(h:SP (X.tried pins eg) [] D f s):SP X pins D f s:=by
 cases f with
 |next=>obtain⟨z,eK,I,q⟩:=h;erw[z,eK,I.untried,q]
 |brk=>obtain⟨z,eK,I,q⟩:=h;erw[z,eK,I.untried,q]
 |cont=>obtain⟨z,eK,I,q⟩:=h;erw[z,eK,I.untried,q]
 |ret u=>obtain⟨v,z,eK,I,r,q⟩:=h;erw[v,z,eK,I.untried,r,q]
end
section
variable{X:Cx}{k:R}{f:e8}{fd:fk}{ps:E ff}{sp:Sp}{dvs:E V}{ds:E eN}{W:WK}{x:ff}{p pos:Pos}{e:fm}{es:E fm}{t:TA}
end
section
variable{prog:ge}{w:ih}{A:Around}{eg:eN->e9->Prop}{s:e9}
def DI:typeLookup (.type "list_reverseiterator") "__len__"=pure k7:=by rfl
def GO:typeLookup (.type "list_reverseiterator") "__length_hint__"=pure (Z (.builtin "list_reverseiterator.__length_hint__")):=by rfl
def G5{r:e8}{Q:i0->e9->Prop}(O:s.TypeIs (.ref r) "list_reverseiterator")(h:Q kt s):li A (Ro (.ref r)) Q eg s:=by
 unfold Ro;refine QS (Rm O DI ?_);wp_delta;refine Rp (λm=>R7 m ∅) (λ_=>?_)
 refine Rp (λm=>R7 m ∅) (λ_=>?_)
 refine QS (Rm O GO ?_);generalize a:("list_reverseiterator.__length_hint__" : String)=c;wp_delta;rw[show splitId c=Z ("list_reverseiterator","__length_hint__") from by subst a;rfl]
 subst a;refine QS (Rq (T:="list_reverseiterator") (b:=kf) O (by rfl) ?_)
 refine Rp (λm=>R7 m ∅) (λ_=>?_)
 refine Rp (λ_=>?_) (λm=>R7 (by rfl) m)
 refine Rp (λm=>R7 m (by assumption)) (λ_=>?_)
 exact QV h
end
def Inv.track{o:HO}(I:Inv X O σ H s)(f:FpOk X O H a)(new:bE X.e X.w (upd H a o) s.H a o):Inv X O σ (upd H a o) s:=by
 let eK Q t j g x:=f;let ne:∀ b u,H b=Z u->b≠a:=λb u e=>aF e eK;refine I.step (g':=s.gens) (t':=s.v) (d':=s.drawn) (h':=s.H) (ch:=[a]) (λb M=>?_) (λb o _ _ _ e _=>e) (λb o _ _ _ e _=>⟨o.slots,e⟩) (λb o T e n=>?_) (λb o _ e=>⟨o,e⟩) (λb J e=>by rw[ar (ne b _ e)];exact e) (λb o u e=>by rw[ar (ne b _ e)];exact e)
  (λb d e=>⟨#[],by rw[ar (ne b _ e),e];simp⟩) (λm D=>D) (λb u e=>?_) I.bare
 .let A:b=a:=by simpa using M
  rw[A];erw[j,Q,g,x]
 .rw[ar (λz=>T (by simp[z]))]
  exact n
 .by_cases M:b=a
  .rw[M,ag]at e
   cases e
   rw[M];exact new
  .rw[ar M]at e;exact(I.hok b u e).stay (λc v _ q=>q) (λc q=>by rw[ar (ne c _ q)];exact q) λc J q=>by rw[ar (ne c _ q)];exact q
def Inv.turnedL(I:Inv X O σ H s)(k:∀ b o,b∉fp->s.H.R b=Z o->h'.R b=Z o)(C:∀ b∈fp,FpOk X O H b):Inv X O σ H {s with heap:=h',toks:=t'}:=by
 let h:∀ b u,H b=Z u->b∉fp:=λb u e z=>by rw[(C b z).1]at e;cases e
 refine I.step (g':=s.gens) (d':=s.drawn) (ch:=fp) (λb M=>?_) (λb o _ _ T e _=>k b o T e) (λb o _ _ T e _=>⟨o.slots,k b o T e⟩) (λ_ _ _ _ n=>n)
  (λb o T e=>⟨o,k b o T e⟩) (λ_ _ e=>e) (λ_ _ _ e=>e) (λb d e=>⟨#[],by assumption⟩) (λm p=>?_) (λb u e=>?_) I.bare
 .let eK Q a j g x:=C b M;erw[j,Q,g,x]
 .let o D l t r:=p;erw[o,D,l,k _ o (λz=>(C _ z).2.1 U) t,r]
 .refine(I.hok b u e).stay (λc v T q=>k c v ?_ q) (λ_ q=>q) λ_ _ q=>q;obtain z|z:=T
  .rw[z];exact h b u e
  .exact h c _ z
def Ite(K:Lo)(a:e8):It :=
 ⟨λi H=>∃ J x,na a J/\J[i]?=Z x,λi H v eK=>∃ T x,H T=k7/\v=.ref T/\eK=upd H T (.tup [.int (i:G),x])/\∀ J,na a J->J[i]?=Z x,λi H=>∃ J,na a J/\J.L<=i⟩
theorem Cq{es:E fm}{k:R}(a e it:e8)(aI:e≠it):Turn P w K (.Tuple es k pos) (Ite K a) [e,it] e (λi h=>(∃ old,IsEnum h e it ((i:R):G) old)/\h.IsListIter it a i) where
 mem:=by simp
 obj:=λi h st b M=>by
  let{old eK}o f c d:=st;obtain rfl|M:=Lz.mp M
  .erw[_,eK,λv z=>by
    contradiction]
  .let e3:b=it:=by simpa using M
   subst e3;erw[o,f,λv z=>by simp!]
 keep:=λi h h' st r=>by
  let{old eK}aa:=st;erw[⟨old,r e (by simp) _ eK⟩,aa.at λo q=>r it (by simp) o q]
 item:=by
  intro X hP hw hK T i B s O H eg I C st Y;subst hP hw hK;let j x y J:=Y;let g rv p hz:=I.list y;let u A ru:=rv.get J;let{old eK}aa:=st;refine wpAny_pyNext_enum_item eK aa p.isList (x:=u) (by simpa using A) aI λh' m aS hT ab l=>?_
  erw[57];refine wpAny_letOwnedTupleGo_enum m λL an al=>?_;let ae:QL e h' L:=al;let aT:e<s.H.M.J:=QH eK;let am:it<s.H.M.J:=by let _ q _:=aa;exact QH q
  let ac:H s.H.M.J=k7:=I.hok.fresh (Lq _);let I0:nv O (upd H s.H.M.J (.tup [.int (i:G),x])) {s with heap:=s.H.o {cls:=.type "tuple",data:=.seq #[.int (i:G) s.v,u]},toks:=s.v+1} :=
   I.laid (t':=s.v+1) (λb u e=>QW _ e) (Lq _) ⟨by show 2<=QG;decide,[.int (i:G) s.v,u],.cons ⟨_,U⟩ (.cons ru .nil),⟨_,QX _ U,U,_,U⟩⟩
  let ap:∀ b∈[e,it],b<s.H.M.J:=λb M=>by
   obtain rfl|M:=Lz.mp M
   .exact aT
   .simp!
  let N:∀ b∈[e,it],upd H s.H.M.J (.tup [.int (i:G),x]) b=k7:=λb M=>by
   rw[ar (LQ (ap b M))];exact(C b M).1
  let I2:nv O (upd H s.H.M.J (.tup [.int (i:G),x])) {s with heap:=L,toks:=s.v+1}:=Inv.turnedL (s:={s with heap:=s.H.o {cls:=.type "tuple",data:=.seq #[.int (i:G) s.v,u]},toks:=s.v+1}) (h':=L) I0 (t':=s.v+1) (fp:=[e,it]) (λb o M q=>by
   let nb:b≠e:=λz=>M (by simp[z])
   let aX:b≠it:=λz=>M (by simp[z])
   refine(ae.2 b nb).Q ?_;rcases fc.get?_push_cases q with⟨z1,n⟩|q
   .simp!
   .exact l b o nb aX q) λb M=>⟨N b M,(C b M).2⟩
  erw[.ref s.H.M.J,_,I2,U,⟨s.H.M.J,x,ac,U,U,λt Q=>by rw[I.list_inj Q y];exact J⟩,3,N]
  erw[⟨u,?_⟩,aS.at λo q=>(ae.2 it (Ne.Y aI)).Q q];let e4:(((i+1:R):R):G)=(i:G)+1:=by lia
  rw[e4];exact an
 done:=by
  intro X hP hw hK T i B s O H eg I C st Y;subst hP hw hK;let j y J:=Y;let g rv p hz:=I.list y;let{old eK}aa:=st;let D:=rv.L;let f0 f1 f2 f3 f4 f5:=C it (by simp)
  exact wpAny_pyNext_enum_end (I.ok.hd T) eK aa p.isList (by simp!) λh' eb=>⟨U,I.turned (t':=s.v) (λb o M e=>eb b o M e) f0 f1 f3 f4 f5⟩
 self:=λ_ _ _ _ _ st h=>by
  let{old eK}_:=st;exact wpAny_pyIter_enum eK h
def iEnum(K:Lo)(d:TA):TI:=λO H ad=>d O H λL l=>∃ a,L=[.ref a]/\(∃ J,SqL K l a J)/\ad (Ite K a) l
def g9{l:fm}{d:TA}{es:E fm}{k:R}{tp p:Pos}(Y:Gl X "enumerate")(D:X.mg "enumerate"=k7)(T:PA X [l] d)(hs:uP_ (QM [l] X.i=[(kt,eval l X.i)]) uR_):
  PI X (.Tuple es k tp) (.Call (.Name "enumerate" p) [l] [] pos) (iEnum X.K d):=by
 intro B s O H ad I h;refine Call_ (kP I Y D w4 (QZ (thn (T pos B s O H _ I h) λeg j ⟨i,L,n,A,f⟩=>?_) hs U));let a e{J y}q:=f;subst e;let u rfl w:=i7 A
 cases w
 let g rv p v:=n.list y;refine call_enumerate_list p.isList λN eK c t o=>?_;refine wpAny_pyIter_enum eK ?_;erw[j.H.M.J+1,[j.H.M.J+1,j.H.M.J],5,L,U,n.kept (t':=j.v) o,Cq a _ _ (Nat.succ_ne_self _),⟨⟨_,eK⟩,c⟩,λb M=>?_,q];let m:j.H.M.J<=b:=by
  obtain rfl|M:=Lz.mp M
  .exact NV _
  .simp!
 exact n.fpOk m (n.hok.fresh m)
def pY{g:TG}{tb:TS}{D:Ends}(Pv:R->St->Hp->Prop)(l:Pv 0 σ H)(hl:∀ i σ H,i<=xs.L->Pv i σ H->na a xs)(hs:∀ i x σ H T,xs[i]?=Z x->Pv i σ H->H T=k7->g (.ref T) σ (upd H T (.tup [.int (i:G),x])) λh H2=>tb (D.lop (Pv (i+1))) h H2)(hd:∀ σ H,Pv xs.L σ H->D.nx σ H):
  ∃ W:R->R->St->Hp->Prop,(∃ m,W 0 m σ H)/\∀ i m σ H,W i m σ H ->
   ((Ite K a).stop i H/\D.nx σ H)∨((Ite K a).go i H/\∃ N:St->Hp->Prop,(∀ σ' H',N σ' H'->∃ C,C<m/\W (i+1) C σ' H')/\∀ x H',(Ite K a).yld i H x H'->g x σ H' λh H2=>tb (D.lop (N)) h H2):=by
 erw[λi m σ H=>m=xs.L-i/\i<=xs.L/\Pv i σ H,⟨xs.L,by simp,Mh _,l⟩,3]
 rintro i m σ H ⟨rfl,B,p⟩;let q:=hl i σ H B p;by_cases r:i<xs.L
 .refine .inr ⟨⟨xs,xs[i],q,by simp⟩,Pv (i+1),λσ' H' A=>⟨xs.L-(i+1),∅,U,r,A⟩,λv H' y=>?_⟩
  let T x O rfl rfl y:=y;exact hs i x σ _ T (y xs q) p O
 .let e:i=xs.L:=by lia
  subst e;exact .inl ⟨⟨xs,q,Lq _⟩,hd σ H p⟩
def qM(h:j<n):ixN n (j:G)=Z j:=by
 unfold ixN;simp[*]
theorem jK:∀{ds:E gi},(∀ d∈ds,d.canLay0=kf)->gi.canLayAll0 ds=kf
 |[],_=>by rfl
 |d::ds,h=>by
  rw[gi.canLayAll0,h d (by simp),jK λx J=>h x (by simp[J])]
  rfl
theorem l7{n:R}:∀{ds:E gi},(∀ d∈ds,d.depth<=n)->gi.depthAll ds<=n
 |[],_=>by simp[gi.depthAll]
 |d::ds,h=>by
  let Y:=h d (by simp)
  let L:=l7 (ds:=ds) λx J=>h x (Lu _ J);rw[gi.depthAll];lia
def qo{ds:E gi}(h:∀ d∈ds,d.canLay0=kf/\d.depth<=10):SeqAt.shaped (.list ds)=kf:=by
 let Y:=jK λd hd=>(h d hd).1;let L:=l7 λd hd=>(h d hd).2;let f:Rr (.list ds)<=64:=by simp only[Rr];lia
 show(gi.canLay0 (.list ds)&&decide (Rr (.list ds)<=64))=kf;rw[OE];erw[by assumption,Rl f]
def cxG(X:Cx)(scope:hx)(fr:E (ff×R))(xs:E ff)(C:e8)(ex:E e8)(s:e9)(H:Hp):Cx where
 prog:=X.e
 w:=X.w
 K:=X.K
 mg:=X.mg
 base:=X.base
 A:=X.A
 N:=xs++fr.h (·.1)
 s₀:=s
 H₀:=H
 env:=compEnvC scope (clOf X.i fr) C X.i
 outer:=X.stack
 stack:=X.stack
 ex:=ex
 fn:=λ_=>kt
 calm:=X.calm
 pn:=[]
 xe:=λ_ _=>False
structure pA(X:Cx)(scope:hx)(fr:E (ff×R))(xs:E ff):Prop where
 clos:closureFor scope X.i=pure (clOf X.i fr)
 cell:∀ y∈scope.names,y.2≠.cell
 kind:scope.kind=.function
 names:∀ y∈scope.names,y.2=.local->scope.names.Z y.1=Z .local
 slot:∀ p∈fr,X.N[p.2]?=Z p.1/\X.i.kindOf p.1=Z .cell
 has:∀ y∈(relabel scope X.i).names,(y.2=.cell∨y.2=.free)->y.1∈fr.h (·.1)
 frk:∀ p∈fr,(relabel scope X.i).names.Z p.1=Z .cell
theorem pA.of{xs:E ff}(clos:closureFor scope X.i=pure (clOf X.i fr))(cell:∀ y∈scope.names,y.2≠.cell)(kind:scope.kind=.function)(names:∀ y∈scope.names,y.2=.local->scope.names.Z y.1=Z .local)(slot:∀ p∈fr,X.N[p.2]?=Z p.1/\X.i.kindOf p.1=Z .cell)(B:∀ z∈scope.names,z.2=.free->z.1∈fr.h (·.1))(frk:∀ p∈fr,(relabel scope X.i).names.Z p.1=Z .cell):pA X scope fr xs where
 clos:=clos
 cell:=cell
 kind:=kind
 names:=names
 slot:=slot
 has:=λz A eK=>by
  let{n k}D e:=LW.mp (show z∈scope.names.h _ from A);let L:=cell _ D;dsimp only at e L;let a:z.1=n:=by rw[← e];split<;>rfl
  let C:k=.free:=by
   by_cases q:k=.free
   .exact q
   .let M:(k == NameKind.free)=kt:=by simpa using q
    lia
  let:=B _ D C;rw[a];exact this
 frk:=frk
abbrev nons(xs:E ff):St:=LD xs.L k7
section
variable{X:Cx}{pins:E (e8×hr)}{σ:St}{H:Hp}{s:e9}{scope:hx}{fr:E (ff×R)}{xs:E ff}
def pA.cells(O:pA X scope fr xs)(I:mi σ H s){y:ff}{c:e8}(h:(clOf X.i fr).Z y=Z c):X.i.cells.Z y=Z c:=by
 let D e:=kN h;let p g l:=LW.mp D;let k:=(O.slot p g).2;rw[l]at k;let T J:=I.ok.has y (.inl k);simp[*]
def DZ(O:pA X scope fr xs)(I:mi σ H s)(T:∀ b∈fp,FpOk X pins H b)(an:∀ b∈fp,b<s.H.M.J){g:fc}(J:g=s.H.o (Rt []))(eK:∀ b o,g.R b=Z o->h'.R b=Z o)(hC:h'.Ns g.M.J λ_=>k7):
  Inv (cxG X scope fr xs g.M.J (s.H.M.J::fp) {s,g} H) (X.pn++pins++[(s.H.M.J,Rt [])]) (nons xs++frOf fr σ) H {s with heap:=h',toks:=tk}:=by
 let aa:g.M.J=s.H.M.J+1:=by rw[J,Q8]
 let kp:∀ b o,s.H.R b=Z o->g.R b=Z o:=λb o e=>by rw[J];exact QW _ e
 let aI:∀ b o,s.H.R b=Z o->h'.R b=Z o:=λb o e=>eK b o (kp b o e);let a1:h'.R s.H.M.J=Z (Rt []):=eK _ _ (by rw[J];exact QX _ U)
 let ae:∀ b,b<s.H.M.J->b≠g.M.J:=λb e=>by rw[aa];exact LQ (Nj e)
 let aS:s.H.M.J≠g.M.J:=by rw[aa];exact LQ (Nl _)
 let ab:H g.M.J=k7:=I.hok.fresh (by rw[aa];exact NV _)
 let a2:H s.H.M.J=k7:=I.hok.fresh (Lq _);let cne:∀ y c,X.i.cells.Z y=Z c->c<s.H.M.J:=λy c e=>by
  let v q:=I.cell y c e;exact q.lt
 let am:∀ b,b≠X.i.locals->b∉X.fs->b∉frs X.stack:=λb Y L z=>(Lz.mp (I.stkSub b z)).elim Y L;let aT:s.H.M.J∉frs X.stack:=am _ (MZ I.lt) (I.nofs (Lq _));erw[⟨I.ok.mod,O.kind,I.ok.glob,I.ok.blt,Lq _,?_,?_,λ_ _ z _=>(by cases z),I.ok.hd,I.ok.frames,.inl U,?_,?_,?_,?_,?_,?_,I.stkFree⟩,U,I.bare,Un.kept eK,15,ab,15,I.hok.kept aI,3]
 .intro y z c Y L;exact I.ok.inj y z c (O.cells I Y) (O.cells I L)
 .intro y Q;let A:y∈fr.h (·.1):=by
   obtain Q|Q:=Q
   .exact O.has (y,_) (NC Q) (.inl U)
   .exact O.has (y,_) (NC Q) (.inr U)
  erw[_,fO A]
 .intro b M;obtain rfl|M:=Lz.mp M
  .erw[aS,λy c e=>LQ (cne y c (O.cells I e))]
  .erw[ae b (an b M),λy c e=>(T b M).2.2.2.2.1 y c (O.cells I e)]
 .intro b o e;erw[kp b o (I.bs b o e).1,(I.bs b o e).2]
 .show X.base.M.J<=g.M.J;rw[aa];exact PU (MB I.ok.bsz I.sz)
 .intro b o e M;obtain z|M:=Lz.mp M
  .let:=QH (I.bs b o e).1
   rw[z]at this;exact Nr _ this
  .rcases(T b M).2.2.2.1 with z|z
   .exact I.ok.noex b o e z
   .exact R7 (Mb (QH (I.ok.bs b o e).1) z) (Nr _)
 .intro b M;obtain z|M:=Lz.mp M
  .rw[z];exact aT
  .exact am b (T b M).2.1 (T b M).2.2.1
 .exact(I.kept (h':=g) (t':=s.v) kp).stack
 .erw[_,hC,λi y v C eg h=>?_];let aX:(xs++fr.h (·.1))[i]?=Z y:=C;by_cases B:i<xs.L
  .rw[Ls (by simpa using B)]at eg
   rw[Nb,R5 B]at eg
   cases eg
  .let ac:(fr.h (·.1))[i-xs.L]?=Z y:=by
    rw[Lr ∅]at aX
    exact aX
   let al:(frOf fr σ)[i-xs.L]?=Z (Z v):=by
    rw[Lr (by simp;lia)]at eg
    simpa using eg
   generalize i-xs.L=k at ac al;unfold frOf at al;rw[LA]at ac al
   cases q:fr[k]? with
   |none=>rw[q]at ac;cases ac
   |some p =>
    rw[q]at ac al;let ey:p.1=y:=Me ac;let ev:(σ[p.2]?).join=Z v:=Me al;let j:p∈fr:=Ln q;let hN hK:=O.slot p j;let a0:=O.frk p j;rw[ey]at hN hK a0;let ap:σ[p.2]?=Z (Z v):=by
     cases f:σ[p.2]? with
     |none=>rw[f]at ev;cases ev
     |some w=>rw[f]at ev;exact congrArg Z ev
    let m N D:=I.loc;let u r l:=D p.2 y v hN ap (.inr (.inl hK));erw[u,r,3];rcases l with⟨x,_⟩|⟨_,c,ec,z⟩
    .rw[hK]at x;cases x
    .let A:y∈fr.h (·.1):=by rw[← ey];exact LW.mpr ⟨p,j,U⟩
     let el:=fO (env:=X.i) A;rw[ec]at el;exact .inr ⟨.inl a0,c,el,by let o t hd:=z;erw[o,aI _ _ t,hd]⟩
 .intro y c e;let v o t hd:=I.cell y c (O.cells I e);erw[v,o,aI _ _ t,hd]
 .intro y c e;exact I.freeC y c (O.cells I e)
 .intro p j;obtain j|j:=LG.mp j
  .cases j
  .obtain j|j:=LG.mp j
   .let e n ne nf d:=I.pin p j;erw[aI _ _ e,n,ae _ (QH e),am _ ne nf,d]
   .let a:p=(s.H.M.J,Rt []):=by simpa using j
    subst a;erw[a1,a2,aS,aT,λv z=>by cases z]
 .show(nons xs++frOf fr σ).L=(xs++fr.h (·.1)).L;unfold frOf;simp
def ux{g:fc}{σ':St}(I:mi σ H s)(C:∀ b∈fp,FpOk X pins H b)(Y:g=s.H.o (Rt []))(J:Inv (cxG X scope fr xs g.M.J (s.H.M.J::fp) {s,g} H) (X.pn++pins++[(s.H.M.J,Rt us)]) σ' H' s')(hv:Vals ys us)(hl:ys.L<=QG):
  mi σ (upd H' s.H.M.J (.lst ys)) s'/\H' s.H.M.J=k7/\FpOk X pins (upd H' s.H.M.J (.lst ys)) g.M.J/\∃ m,s'.H.Ns g.M.J m:=by
 let t:g.M.J=s.H.M.J+1:=by rw[Y,Q8]
 let d:∀ b o,s.H.R b=Z o->g.R b=Z o:=λb o e=>by rw[Y];exact QW _ e
 let l h _ _ _:=J.pin (s.H.M.J,Rt us) (by simp)
 let i:g.M.J≠s.H.M.J:=by rw[t];exact MZ (Nl _)
 let f:∀ b u,H' b=Z u->b≠s.H.M.J:=λb u e z=>by simp!
 let k:∀ b o,s.H.R b=Z o->b∉fp->b∉s.H.M.J::fp:=λb o e M z=>by
  obtain z|z:=Lz.mp z
  .let:=QH e
   simp!
  .exact M z
 let j:Un (frs X.stack) (s.H.M.J::fp) H H' g s'.H:=J.base;let p:∀ b o,s.H.R b=Z o->b≠s.H.M.J:=λb o e=>LQ (QH e);let un:Un (frs X.stack) fp H (upd H' s.H.M.J (.lst ys)) s.H s'.H:=by
  erw[λb o e n M eK=>j.keep b o (d b o e) n M (k b o e eK),λb o e n M eK=>j.slot b o (d b o e) n M (k b o e eK),λb o e n eK=>?_,λb o e eK=>j.there b o (d b o e) (k b o e eK),λb xs e=>?_,λb o u e=>?_,λb T e=>?_]
  .rw[ar (p b o e)];exact j.free b o (d b o e) n (k b o e eK)
  .let q:=j.tups b xs e
   rw[ar (f b _ q)];exact q
  .let q:=j.frzs b o u e
   rw[ar (f b _ q)];exact q
  .let a q:=j.tbls b T e;erw[a,by rw[ar (f b _ q)];exact q]
 let A:HOk X.e X.w (upd H' s.H.M.J (.lst ys)) s'.H:=λb u e=>by
  by_cases M:b=s.H.M.J
  .rw[M,ag]at e
   cases e
   rw[M];erw[hl,us,us.L,hv,l]
  .rw[ar M]at e;exact(J.hok b u e).stay (λc v _ q=>q) (λc q=>by rw[ar (f c _ q)];exact q) λc xs q=>by rw[ar (f c _ q)];exact q
 let os:s'.os=s.os:=J.os;erw[I.call' os un A J.bare λb M=>⟨(C b M).2.2.2.1,(C b M).2.1,(C b M).2.2.2.2⟩,h,15]
 .refine I.fpOk (H':=upd H' s.H.M.J (.lst ys)) (b:=g.M.J) (by rw[t];exact NV _) ?_
  rw[ar i];exact J.free
 .let m N _:=J.loc;erw[m,N]
end
def PTs(X:Cx)(l:E fm)(t:TT):Prop :=
 ∀(B:E (e8×hr))(s:e9)(O:St)(H:Hp)(Q:i0->Hp->Prop),nv O H s->t O H Q ->
  lf (forIn l kf λc r=>if r=kf then do let ok ← isTrue c X.i (eval c X.i);pure (ForInStep.yield ok) else pure (ForInStep.yield r)) (λb m=>∃ eK,nv O eK m/\Q b eK) X.xe s
def tYes:TT:=λ_ H Q=>Q kf H
theorem JQ:PTs X [] tYes:=λ_ _ _ H _ I h=>wpAny_tests_nil ⟨H,I,h⟩
theorem jn{c:fm}{t:TT}(h:PT X c t):PTs X [c] t:=λB s O H Q I q=>wpAny_tests_one (h B s O H Q I q)
section
variable{prog:ge}{w:ih}{A:Around}{s:e9}
def E5{k b f:fm}{l:E fm}{it:eN}(I:R->e9->Prop)(turn:∀ n s,I n s->li A (pyNext it) (λr s₁=>match r with
   |none=>ad (.ok .next) s₁
   |some v=>li A (letOwnedTupleGo b it v) (λ_ s₀=>li A (assign b env v) (λ_ s₂ =>
     li A (forIn l kf λc r=>if r=kf then do let ok ← isTrue c env (eval c env);pure (ForInStep.yield ok) else pure (ForInStep.yield r)) (λok d=>if ok=kf then li A (eval k env) (λx i =>
      li A (call (.builtin "list.append") [u,x]) (λ_ o=>∃ m,m<n/\I m o) (notedBy (model prog w) A env λe s'=>ad (.error e) s') i) (notedBy (model prog w) A env λe s'=>ad (.error e) s') d
      else ∃ m,m<n/\I m d) (notedBy (model prog w) A env λe s'=>ad (.error e) s') s₂)
     (notedBy (model prog w) A env λe s'=>ad (.error e) s') s₀) (notedBy (model prog w) A env λe s'=>ad (.error e) s') s₁) (notedBy (model prog w) A env λe s'=>ad (.error e) s') s)(n:R)(h:I n s):Q7 (model prog w) A (.compLoop (.ListComp k [⟨b,f,l,0⟩] scope pos) 0 it u env) ad s:=by
 refine codeAny_loop U I (λn s q=>?_) n h;show wpAny _ A ((compTurn (.ListComp k [⟨b,f,l,0⟩] scope pos) 0 it u env).onRaise (λx=>do noteFrame x env;theTreesLotGoes x)) _ _ s
 refine wpAny_noted ?_;rw[compTurn_list];refine QS (wpAny_standAt (QS (QN (turn n s q) (λr s₁ a=>?_) λ_ _ N=>N)))
 cases r with
 |none=>exact QV a
 |some v =>
  refine QS (QN a (λ_ s₀ p=>?_) λ_ _ N=>N);refine QS (QN p (λ_ s₂ g=>?_) λ_ _ N=>N);refine QS (QN g (λz d j=>?_) λ_ _ N=>N)
  cases z with
  |false=>exact QV ⟨U,j⟩
  |true=>exact QS (QS (QN j (λx i t=>QS (QN t (λ_ o y=>QV (QV ⟨U,y⟩)) λ_ _ N=>N)) λ_ _ N=>N))
end
def iT(g:TG)(tt:TT)(f:TE)(n:R)(a:St)(J:It)(H1:Hp)(QQ:E V->Hp->Prop):Prop :=
 ∃ W:R->R->E V->Hp->Prop,(∃ m,W 0 m [] H1)/\∀ i m O H,W i m O H->O.L<=QG /\
  ((J.stop i H/\QQ O H)∨(J.go i H/\∃ N:E V->Hp->Prop,(∀ M Y,N M Y->∃ C,C<m/\W (i+1) C M Y) /\
   ∀ x eK,J.yld i H x eK->g x (LD n k7++a) eK λh Y=>h.drop n=a/\tt h Y λb d=>if b=kf then f h d (λy eg=>N (O++[y]) eg) else N O d))
section
variable{X:Cx}{scope:hx}{fr:E (ff×R)}{xs:E ff}{elt iter tg:fm}{ifs:E fm}{pos:Pos}{te:TE}{tt:TT}{tgt:TG}{wi:TI}
def se{B:E (e8×hr)}{tn:R->fc->Prop}{J:It}{RR:eN->e8->Result->e9->Prop}(d:X.calm=kf)(O:pA X scope fr xs)(an:∀ C ex s H,PG (cxG X scope fr xs C ex s H) tg tgt)(Y:∀ C ex s H,PTs (cxG X scope fr xs C ex s H) ifs tt)(eK:∀ C ex s H,PE (cxG X scope fr xs C ex s H) elt te)(I:nv σ H s)(T:Turn X.e X.w X.K tg J fp it tn)(st:tn 0 s.H)(hf:∀ b∈fp,FpOk X B H b)(k:iT tgt tt te xs.L (frOf fr σ) J H QQ)(ab:∀ D C H4 ys s4 m,nv σ (upd H4 D (.lst ys)) s4->H4 D=k7->FpOk X B (upd H4 D (.lst ys)) C->s4.H.Ns C m->QQ ys H4->RR (.ref D) C (.ok .next) s4):
  lf (newList []) (λaa al=>lf (newFunctionEnv scope X.i.globals (clOf X.i fr) [] X.i.qual k7 .none (Z X.i)) (λba a0 =>
   Q7 (model X.e X.w) X.A (.compStart (.ListComp elt [⟨tg,iter,ifs,0⟩] scope pos) 0 (.ref it) aa {ba with scope:=relabel scope X.i}) (RR aa ba.locals) a0) eg al) eg s:=by
 let W{m0 w0}turn:=k;let a1:∀ b∈fp,b<s.H.M.J:=λb M=>by
  let o e _:=T.obj 0 s.H st b M;exact QH e
 refine Ru (wpAny_newFunctionEnv O.cell (by intro y hy;simp at hy) (λae aS aT=>?_) O.kind)
 dsimp only at aS aT ⊢;generalize bp:s.H.o {cls:=.type "list",dict:=k7,data:=.seq ([]:E eN).toArray}=g at aS aT ⊢;let hg:g=s.H.o (Rt []):=bp.Y;let hsz:g.M.J=s.H.M.J+1:=by rw[hg,Q8]
 let L:∀ b o,g.R b=Z o->ae.R b=Z o:=λb o e=>aT.X b o (LQ (QH e)) (QW _ e);let kp:∀ b o,s.H.R b=Z o->ae.R b=Z o:=λb o e=>L b o (by rw[hg];exact QW _ e)
 let J0:=DZ (h':=ae) (tk:=s.v+([]:E (ff×eN)).L) O I hf a1 hg L aS;let am:∀{H':Hp}{us:E eN},(∀ b∈fp,H' b=k7)->∀ b∈fp,FpOk (cxG X scope fr xs g.M.J (s.H.M.J::fp) {s,g} H) (X.pn++B++[(s.H.M.J,Rt us)]) H' b:=λ{H' us} hn b M=>by
  let _ f1 f2 f3 f4 f5:=hf b M;erw[hn b M,3,λz=>(Lz.mp (I.stkSub b z)).elim f1 f2,.inl (Lu _ M),λy c e=>f4 y c (O.cells I e),λp j=>?_]
  .show b≠g.M.J;rw[hsz];exact LQ (Nj (a1 b M))
  .obtain j|j:=LG.mp j
   .cases j
   .obtain j|j:=LG.mp j
    .exact f5 p j
    .let ep:p=(s.H.M.J,Rt us):=by simpa using j
     rw[ep];exact MZ (a1 b M)
 let bb:Q7 (model X.e X.w) X.A (.compLoop (.ListComp elt [⟨tg,iter,ifs,0⟩] scope pos) 0 (.ref it) (.ref s.H.M.J) (compEnvC scope (clOf X.i fr) g.M.J X.i))
   (RR (.ref s.H.M.J) g.M.J) {s with heap:=ae,toks:=s.v+([]:E (ff×eN)).L}:=by
  refine E5 (λn s'=>∃ i ys us H',Inv (cxG X scope fr xs g.M.J (s.H.M.J::fp) {s,g} H) (X.pn++B++[(s.H.M.J,Rt us)]) (nons xs++frOf fr σ) H' s'/\Vals ys us/\tn i s'.H/\(∀ b∈fp,H' b=k7)/\W i n ys H') ?_ m0
   ⟨0,[],[],H,J0,.nil,T.keep 0 s.H ae st λb _ o e=>kp b o e,λb M=>(hf b M).1,w0⟩
  rintro n s3 ⟨i,ys,us,H3,J3,a,a2,a3,w3⟩;let ac hh:=turn i n ys H3 w3;let none_err:∀{α:Type}{t:Sem α}{Q:α->e9->Prop}{E':eN->e9->Prop}{s:e9},lf t Q (λ_ _=>False) s->lf t Q E' s:=λh=>QN h (λ_ _ q=>q) λ_ _ z=>z.elim;let a4:∀{aI:St},aI.L=(nons xs++frOf fr σ).L->aI.drop xs.L=frOf fr σ->∀(i:R) v,(nons xs++frOf fr σ)[i]?=Z (Z v)->aI[i]?=Z (Z v):=λ{aI} a5 e6 i v e=>by
   by_cases f:i<xs.L
   .rw[Ls (by simpa using f),Nb,R5 f]at e
    cases e
   .rw[Lr (by simp!),← e6,PM]at e
    simp!
  rcases hh with⟨stop,qn⟩|⟨go,N,hN,step⟩
  .refine none_err (thn (T.done (cxG X scope fr xs g.M.J (s.H.M.J::fp) {s,g} H) U U U d i _ s3 _ H3 _ J3 (am a3) a2 stop) λr s4 ⟨l,J4⟩=>?_);subst l;let I4 nD fC m hn:=ux I hf hg J4 a ac;exact ab _ _ H3 ys s4 m I4 nD fC hn qn
  .refine none_err (thn (T.item (cxG X scope fr xs g.M.J (s.H.M.J::fp) {s,g} H) U U U d i _ s3 _ H3 _ J3 (am a3) a2 go) λr s4 ⟨u,l,h4⟩=>?_);subst l;refine none_err (thn h4 λ_ s5 ⟨v,H5,J5,r5,y5,ap,be⟩=>?_);let bu:=J5.pinned (am be) (T.obj _ _ ap);refine none_err (thn (an _ _ _ _ _ s5 _ H5 v u _ bu r5 (step v H5 y5)) λ_ s6 ⟨aI,H6,J6,e6,q6⟩=>?_);refine none_err (thn (Y _ _ _ _ _ s6 aI H6 _ J6 q6) λb bi ⟨a6,bg,a7⟩=>?_);let a5:aI.L=(nons xs++frOf fr σ).L:=J6.len.Q J3.len.Y
   cases b with
   |false =>
    rw[R6 LZ]at a7 ⊢;let m' x w7:=hN ys a6 a7;let aX:∀ b∈fp,∀ o,s5.H.R b=Z o->bi.H.R b=Z o/\a6 b=k7:=λb M o e=>by
     let q1 q2 _:=bg.pin (b,o) (Ma _ (Ma _ (j9 M e)));erw[q1,q2]
    erw[m',x,i+1,ys,us,a6,bg.unpinned.weak (σ':=nons xs++frOf fr σ) a5.Y (a4 a5 e6),a,T.keep _ _ _ ap λb M o e=>(aX b M o e).1,λb M=>?_,w7];let o e _:=T.obj _ _ ap b M;exact(aX b M o e).2
   |true =>
    rw[R5 U]at a7 ⊢;refine none_err (thn (eK _ _ _ _ _ bi _ a6 _ bg a7) λu7 s7 ⟨v7,H7,J7,r7,q7⟩=>?_);let m' x w7:=hN _ H7 q7;let eD nD dC dF dd:=J7.pin (s.H.M.J,Rt us) (Ma _ (Mi _ (Ma _ (by simp))))
    let bv:=a.L;refine append_at (hsz:=by simp!) eD λh8 bm bB=>?_
    let bn:∀ p∈X.pn++B,p.1≠s.H.M.J:=λp j z=>by
     let:=QH (I.pin p j).1;simp!
    let bJ:Inv (cxG X scope fr xs g.M.J (s.H.M.J::fp) {s,g} H) (X.pn++B) _ H7 s7:=J7.pins_of λp j=>J7.pin p (Ma _ (Mi _ (Mi _ j)))
    let J8:Inv (cxG X scope fr xs g.M.J (s.H.M.J::fp) {s,g} H) (X.pn++B) _ H7 {s7,h8}:=bJ.turned (t':=s7.v) (λb o M e=>(bm.2 b M).Q e) nD dC (.inl Ly) (λy c e z=>by
     let w' q:=I.cell y c (O.cells I e);let:=q.lt
     simp!) (λp j=>(LG.mp j).elim (λz=>by cases z) (bn p))
    let J9:Inv (cxG X scope fr xs g.M.J (s.H.M.J::fp) {s,g} H) (X.pn++B++[(s.H.M.J,Rt (us++[u7]))]) _ H7 {s7,h8}:=J8.pins_of λp j=>by
     obtain j|j:=LG.mp j
     .exact J8.pin p (Ma _ j)
     .let ep:p=(s.H.M.J,Rt (us++[u7])):=by simpa using j
      subst ep;erw[bB.Q (congrArg Z (LCg.lst_snoc us u7)),nD,dC,dF,λv z=>by cases z]
    let bK:=J9.weak (σ':=nons xs++frOf fr σ) a5.Y (a4 a5 e6);let aX:∀ b∈fp,∀ o,s5.H.R b=Z o->s7.H.R b=Z o/\H7 b=k7:=λb M o e=>by
     let q1 q2 _:=J7.pin (b,o) (Ma _ (Ma _ (j9 M e)));erw[q1,q2]
    erw[m',x,i+1,ys++[v7],us++[u7],H7,bK,a.append (.cons r7 .nil),T.keep _ _ _ ap λb M o e=>(bm.2 b (LQ (a1 b M))).Q (aX b M o e).1,λb M=>?_,w7];let o e _:=T.obj _ _ ap b M;exact(aX b M o e).2
 exact codeAny_compStart_list bb (T.self X.A 0 _ _ _ (T.keep 0 s.H ae st λb _ o e=>kp b o e) bb)
def HY(wi:TI)(g:TG)(tt:TT)(te:TE)(n:R)(fr:E (ff×R)):TE:=λO H Q=>wi O H λJ l=>iT g tt te n (frOf fr O) J l λt Y=>∀ D,Y D=k7->Q (.ref D) (upd Y D (.lst t))
def F4(d:X.calm=kf)(O:pA X scope fr xs)(hi:PI X tg iter wi)(v:∀ C ex s H,PG (cxG X scope fr xs C ex s H) tg tgt)(n:∀ C ex s H,PTs (cxG X scope fr xs C ex s H) ifs tt)(eK:∀ C ex s H,PE (cxG X scope fr xs C ex s H) elt te)(hs:∀ x,Q0 iter X.i x=pure x:=by intro _;rfl):
  PE X (.ListComp elt [⟨tg,iter,ifs,0⟩] scope pos) (HY wi tgt tt te xs.L fr):=by
 intro B s j H Q I h;rw[eval_ListComp];refine wpAny_comprehension_free (use:=k7) U hs O.clos O.kind O.names (thn (hi B s j H _ I h) λxv k Y=>thn Y λab q L=>?_);let it fp tn J u e z T r a g:=L;subst e;refine se (RR:=λy C=>compPost (model X.e X.w) X.A X.xe k7 (EP X B j Q) y C) d O v n eK z T r a g ?_;intro D C eg t c m I4 nD fC N q4;erw[m,N,λp aa=>?_];let g0 f i l g4 g5:=fC;erw[.ref D,_,I4.turned (t':=c.v) (λb o M e=>(aa.2 b M).Q e) g0 f l g4 g5,U,q4 D nD]
def vo(i:R)(wi:TI)(g:TG)(tt:TT)(te:TE)(n:R)(fr:E (ff×R)):TS:=λD O H=>wi O H λJ l=>iT g tt te n (frOf fr O) J l λt Y=>∀ a,Y a=k7->D.nx (O.set i (Z (.ref a))) (upd Y a (.lst t))
def xV{y:ff}{py al:Pos}(d:X.calm=kf)(hN:X.N.l)(ab:X.N[i]?=Z y)(l:X.i.scope.names.Z y=Z .local)(O:pA X scope fr xs)(hi:PI X tg iter wi)(ae:∀ C ex s H,PG (cxG X scope fr xs C ex s H) tg tgt)(c:∀ C ex s H,PTs (cxG X scope fr xs C ex s H) ifs tt)(eK:∀ C ex s H,PE (cxG X scope fr xs C ex s H) elt te)(ap:uP_ (swapsWith (.ListComp elt [⟨tg,iter,ifs,0⟩] scope pos) (Z (.Name y py)) al.line X.i=pure kf) uR_)(hs:∀ x,Q0 iter X.i x=pure x:=by intro _;rfl):
  PS X (.Assign [.Name y py] (.ListComp elt [⟨tg,iter,ifs,0⟩] scope pos) al) (vo i wi tgt tt te xs.L fr):=by
 intro B s j H D I h;rw[exec_Assign_Name_used _ _ _ _ ap];refine QS (wpAny_standAt (QS ?_));show wpAny _ X.A (do let _ ← comprehension (.ListComp elt [⟨tg,iter,ifs,0⟩] scope pos) scope X.i _ (newList []) kt (eval iter X.i) (Z (assign (.Name y py) X.i))) _ _ s
 refine QS (thn (wpAny_comprehension_free (use:=Z (assign (.Name y py) X.i)) (Q:=λ_ s'=>SP X B D .next s') U hs O.clos O.kind O.names (thn (hi B s j H _ I h) λxv k Y=>thn Y λan q L=>?_)) λ_ s' r=>QV (QV r));let it fp tn J u e I2 T ac f2 eg:=L;subst e;refine se (RR:=λaa C=>compPost (model X.e X.w) X.A X.xe (Z (assign (.Name y py) X.i)) (λ_ s'=>SP X B D .next s') aa C) d O ae c eK I2 T ac f2 eg ?_;intro a C H4 t s4 m I4 nD fC f q4;let g0 g1 g2 g3 g4 g5:=fC;let oC eC aI:=LCg.ns_obj f;let I5:Inv X (B++[(C,oC)]) j (upd H4 a (.lst t)) s4:=I4.pins_of λp g=>by
  obtain g|g:=LG.mp g
  .exact I4.pin p (Ma _ g)
  .let ep:p=(C,oC):=by simpa using g
   subst ep;let n aS hd _:=aI;erw[eC,g0,g1,g2,λv z=>by simp!]
 show wpAny _ X.A (assign (.Name y py) X.i (.ref a)) _ _ _;refine wpAny_assign_Name (mv I5 hN ab (.inl l) (v:=.ref a) U (λs6 I6=>?_) (.inr l));let e6 _:=I6.pin (C,oC) (Ma _ (Ma _ (by simp)))
 erw[m,aI.ns e6,λh' am=>?_];erw[5,I6.unpinned.turned (t':=s6.v) (λb o M e=>(am.2 b M).Q e) g0 g1 g3 g4 g5,q4 a nD]
end
def cN{g:TG}{f:TE}(Pv:R->E V->Hp->Prop)(hz:xs.L<=QG)(l:Pv 0 [] H1)(hl:∀ i ys H,i<=xs.L->Pv i ys H->na a xs)
  (hs:∀ i x ys H,xs[i]?=Z x->Pv i ys H->g x (LD n k7++σ) H λh H2=>h.drop n=σ/\tt h H2 λb H3=>if b=kf then f h H3 (λy eg=>Pv (i+1) (ys++[y]) eg) else Pv (i+1) ys H3) (hd:∀ ys H,Pv xs.L ys H->QQ ys H) (Q:∀ i ys H,Pv i ys H->ys.L<=i)
  : iT g tt f n σ (Itl K a) H1 QQ:=by
 erw[λi m ys H=>m=xs.L-i/\i<=xs.L/\Pv i ys H,⟨xs.L,by simp,Mh _,l⟩,3]
 rintro i m ys H ⟨rfl,B,p⟩;let q:=hl i ys H B p;let c:=Q i ys H p;erw[16]
 by_cases r:i<xs.L
 .refine .inr ⟨⟨xs,xs[i],q,by simp⟩,λM H2=>Pv (i+1) M H2,λM H2 t=>⟨xs.L-(i+1),∅,U,r,t⟩,λx eK y=>?_⟩
  let e y:=y;subst e;exact hs i x ys _ (y xs q) p
 .let e:i=xs.L:=by lia
  subst e;exact .inl ⟨⟨xs,q,Lq _⟩,hd ys H p⟩
def l8{lo:G}{k:R}{g:TG}{f:TE}(Pv:R->E V->Hp->Prop)(hz:k<=QG)(l:Pv 0 [] H1)
  (hs:∀ i ys H,i<k->Pv i ys H->g (.int (lo+i)) (LD n k7++σ) H λh H2=>h.drop n=σ/\tt h H2 λb H3=>if b=kf then f h H3 (λy eg=>Pv (i+1) (ys++[y]) eg) else Pv (i+1) ys H3) (hd:∀ ys H,Pv k ys H->QQ ys H) (Q:∀ i ys H,Pv i ys H->ys.L<=i)
  : iT g tt f n σ (Itr lo k) H1 QQ:=by
 erw[λi m ys H=>m=k-i/\i<=k/\Pv i ys H,⟨k,by simp,Mh _,l⟩,3]
 rintro i m ys H ⟨rfl,B,p⟩;let c:=Q i ys H p;erw[16]
 by_cases r:i<k
 .refine .inr ⟨r,λM H2=>Pv (i+1) M H2,λM H2 t=>⟨k-(i+1),∅,U,r,t⟩,λx eK y=>?_⟩
  let e y:=y;subst e y;exact hs i ys _ r p
 .let e:i=k:=by lia
  subst e;exact .inl ⟨Lq _,hd ys H p⟩
def gO{g:TG}{f:TE}(Pv:R->E V->Hp->Prop)(hz:xs.L<=QG)(l:Pv 0 [] H1)(hl:∀ i ys H,i<=xs.L->Pv i ys H->na a xs)
  (hs:∀ i x ys H T,xs[i]?=Z x->Pv i ys H->H T=k7->g (.ref T) (LD n k7++σ) (upd H T (.tup [.int (i:G),x])) λh H2=>h.drop n=σ/\tt h H2 λb H3=>if b=kf then f h H3 (λy eg=>Pv (i+1) (ys++[y]) eg) else Pv (i+1) ys H3) (hd:∀ ys H,Pv xs.L ys H->QQ ys H) (Q:∀ i ys H,Pv i ys H->ys.L<=i)
  : iT g tt f n σ (Ite K a) H1 QQ:=by
 erw[λi m ys H=>m=xs.L-i/\i<=xs.L/\Pv i ys H,⟨xs.L,by simp,Mh _,l⟩,3]
 rintro i m ys H ⟨rfl,B,p⟩;let q:=hl i ys H B p;let c:=Q i ys H p;erw[16]
 by_cases r:i<xs.L
 .refine .inr ⟨⟨xs,xs[i],q,by simp⟩,λM H2=>Pv (i+1) M H2,λM H2 t=>⟨xs.L-(i+1),∅,U,r,t⟩,λv eK y=>?_⟩
  let T x O rfl rfl y:=y;exact hs i x ys _ T (y xs q) p O
 .let e:i=xs.L:=by lia
  subst e;exact .inl ⟨⟨xs,q,Lq _⟩,hd ys H p⟩
theorem GZ(h:X.K=K):IxR X (rIxL K):=h▸DT
theorem KD(h:X.K=K):IxR X (rIxT K):=h▸IH
theorem eZ{es:E fm}{k:R}{t:TGs}(f:X.K=K)(T:X.calm=kf)(h:PGs X es t)(N:uP_ ((QR es X.i).L=n) uR_)(c:uP_ ((QR es X.i).findIdx? (·.1)=k7) uR_):PG X (.Tuple es k pos) (gTup K n t):=f▸qD T h N c
theorem sj(h:X.K=K):eO X (.type "list") (λxs H Q=>∃ p ys,xs=[.ref p]/\(na p ys∨SqT K H p ys)/\∀ l,H l=k7->Q (.ref l) (upd H l (.lst ys))):=h▸eJ
theorem yc{e:fm}{f:ff}{d:TE}(h:X.K=K)(eK:PE X e d)(M:attributeBase e f X.i (eval e X.i)=eval e X.i):PE X (.Attribute e f pos) (tFld K d f):=h▸bX eK M
inductive JK(x:L2.V)(vs:E V)(H:L2.Hp)(Q:L2.VK):Prop
 |mk (l xs k y:_) (_:x=.ref l)(_:vs=[.int k,y])(_:H l=Z (.lst xs))(_:0<=k)(_:k<=xs.L)(_:xs.L<QG)(_:Q .non (upd H l (.lst (xs.j k.U++y::xs.drop k.U))))
def qH:MtM X "list.insert" JK:=by
 intro B s O H x L v eg Q I c rv h;let l J k y rfl rfl m j eK o q:=h
 cases c
 let M b rfl A p:=rv.two;let t rfl:=A;let z g n r d e:=I.lstM m;let N:=rW;let a:¬ (!ii.List.listFitsIndex k)=kf:=by
  rw[fitsIndex_both ∅ ∅]
  exact LZ
 refine call_meets F.slot_list_insert ⟨_,e,U⟩ F.entry_list_insert (F.args_list_insert_3 _ _ _) (AutoListH.list_insert_list_int_val_1 l g.toArray n k t b a (by simp!)) ⟨e,?_⟩
 erw[.non,_,I.lset (its':=g.j k.U++b::g.drop k.U) m e ?_ ((r.j _).append (.cons p (r.drop _))) ?_,U,q]
 .dsimp only;rw[R6 ∅,Mn,Pd ∅]
  simp;exact NH (by simp)
 .grind
theorem mY:∀{ns:E G}{us:E eN},Vals (ns.h V.int) us->Rk us ns
 |[],_,.nil=>.nil
 |n::ns,_,.cons r x=>by
  let t rfl:=r;exact .cons n t (mY x)
def gu(T:X.calm=kf):eO X (.builtin "sum") (λxs H Q=>∃(p:e8)(ns:E G),xs=[.ref p]/\SqL X.K H p (ns.h V.int)/\Q (.int ns.sum) H):=by
 intro B s O H xs eg Q I r h;let p ns rfl y q:=h;let u rfl w:=i7 r
 cases w
 let g rv D A:=I.list y;let f:=mY rv;let M e:=f.allInts.items;let n:(numsOf g)=ns:=f.numsOf;let d:s.H.IsList p (intItems M):=by rw[← e];exact D.isList
 refine sum_intListG (I.ok.hd T) d λN l t' eK=>⟨.int ns.sum,H,I.kept (t':=l) eK,⟨t',?_⟩,q⟩;let L:numsOf (intItems M).n=ns:=by rw[← e];exact n
 rw[nums_intItems]at L;rw[preSum_eq,NH (by simp),← L]
theorem qj:∀{ps:E R},(∀ p∈ps,p<1000)->gi.weightAll ((ps.h λ(p:R)=>((p:R):G)).h gi.int)<=12*ps.L
 |[],_=>by simp[gi.weightAll]
 |p::ps,h=>by
  let O:=qj (ps:=ps) λx J=>h x (Lu _ J);let g:=h p (by simp)
  let r:gi.weight (.int (p:G))<=11:=by
   rw[gi.weight];split
   .exact Mh _
   .rename_i z;let c:p≠0:=λe=>z (by rw[e];rfl)
    let e:((p:G)).natAbs=p:=rfl;rw[e];let:=(Nat.log2_lt c).mpr (show p<2^10 by lia)
    lia
  rw[LX,LX,gi.weightAll,MG];lia
def GU(h:∀ p∈ps,p<1000)(hl:ps.L<=1000):gi.layable0 (.list ((ps.h λ(p:R)=>((p:R):G)).h gi.int))=kf:=by
 let Y:=PySem.W.shaped_ints (ps.h λ(p:R)=>((p:R):G));let L:=qj h;let f:gi.weight (.list ((ps.h λ(p:R)=>((p:R):G)).h gi.int))<=2^20:=by
  rw[gi.weight];ac_rfl
 unfold gi.layable0;unfold SeqAt.shaped at Y;rw[Y,Rl f];rfl
inductive rIndex(K:Lo)(x:L2.V)(vs:E V)(H:L2.Hp)(Q:L2.VK):Prop
 |mk (l:e8)(ps:E R)(k:R) (_:x=.ref l)(_:vs=[.int (k:G)])(_:na l (ps.h λ(p:R)=>V.int (p:G)))(_:(∀ p∈ps,p<1000))(_:ps.L<=1000)(_:k∈ps)(_:Q (.int ((ps.idxOf k:R):G)) H)
def G3{k:R}:(ps.h λ(p:R)=>((p:R):G)).idxOf (k:G)=ps.idxOf k:=by
 induction ps with
 |nil=>rfl
 |cons p ps O =>
  grind
def pN:MtM X "list.index" (rIndex X.K):=by
 intro B s O H x L v eg Q I c rv h;let l T k rfl rfl y m d eK q:=h
 cases c
 let u rfl w:=rv.one;let t rfl:=w;let e:(T.h λ(p:R)=>V.int (p:G))=(T.h λ(p:R)=>((p:R):G)).h V.int:=by rw[Nd];rfl
 rw[e]at y;let g r D A:=I.list y;refine index_list_ints D.isList (mY r) (GU m d) (LW.mpr ⟨k,eK,U⟩) ?_;rw[G3];erw[.int _,H,I.tok _,⟨_,U⟩,q]
theorem xy:∀{us:E eN}{ns:E G},Rk us ns->Vals (ns.h V.int) us
 |_,_,.nil=>.nil
 |_,_,.cons _ t r=>.cons ⟨t,U⟩ (xy r)
inductive C6(K:Lo)(xs:E V)(H:L2.Hp)(Q:L2.VK):Prop
 |mk (p:e8)(ns:E G) (_:xs=[.ref p])(_:na p (ns.h V.int))(_:ns.L<64)(_:∀(l:e8)(out:E G),H l=k7->out.Perm ns->out.y (·<=·)->Q (.ref l) (upd H l (.lst (out.h V.int))))
def zT:eO X (.builtin "sorted") (C6 X.K):=by
 intro B s O H J eg Q I r h;let p b rfl y a q:=h;let u rfl i:=i7 r
 cases i
 let g rv D A:=I.list y;let f:=mY rv;let d:=rv.L;rw[Lp]at d;refine sorted_ints D.isList f ∅ λout j n v c=>?_
 let e eK:=sortedAll_at s.H g out;erw[.ref (s.H.M.J+1),_,I.laid (t':=s.v) (λ_ _=>sortedAll_old) (NV _) (show bE X.e X.w _ _ _ (.lst (j.h V.int)) from⟨?_,out.n,e,xy n,?_⟩),U,q _ j (I.hok.fresh (NV _)) v c]
 .rw[Lp,v.length_eq];exact LN (av ∅)
 .exact eK
theorem wY(h:X.K=K):eO X (.builtin "sorted") (C6 K):=h▸zT
def zQ{lo c:G}{f:TE}(Pv:R->E V->Hp->Prop)(hz:n<=QG)(l:Pv 0 [] H1)
  (hs:∀ i ys H,i<n->Pv i ys H->f (Z (.int (lo+i*c))::σ) H λy H2=>Pv (i+1) (ys++[y]) H2) (hd:∀ ys H,ys.L=n->Pv n ys H->QQ ys H)
  : vm f σ (Itr3 lo c n) H1 QQ:=by
 erw[λi m ys H=>m=n-i/\i<=n/\ys.L=i/\Pv i ys H,⟨n,by simp,Mh _,U,l⟩,3]
 rintro i m ys H ⟨rfl,B,Q,p⟩;erw[16]
 by_cases r:i<n
 .refine .inr ⟨r,λy H2=>Pv (i+1) (ys++[y]) H2,λy H2 t=>⟨n-(i+1),∅,U,r,by simp[*],t⟩,λx eK y=>?_⟩
  let e y:=y;subst e y;exact hs i ys _ r p
 .let e:i=n:=by lia
  subst e;exact .inl ⟨Lq _,hd ys H Q p⟩
section
variable{X:Cx}{tg:fm}
def iRngL(d:TA):TI:=λO H ad=>d O H λL l=>∃(lo m c:G)(n:R),L=[.int lo,.int m,.int c]/\0<=lo/\lo<1000/\-1000<m/\m<2^61/\(0<c/\c<1000)/\QY lo m c=(n:G)/\ad (Itr3 lo c n) l
def FG{lo m c:G}(l:0<=lo)(Q:lo<1000)(Y : -1000<m)(h2:m<2^61)(f:0<c/\c<1000):ii.Range.small lo m c=kf:=by
 let f B:=f;let p:0<=QY lo m c/\QY lo m c<=2^61:=by
  unfold QY;rw[R5 f];by_cases h:lo<m
  .rw[R5 h];let k:0<=(m-lo-1)/c:=Int.ediv_nonneg ∅ ∅
   let L:(m-lo-1)/c<=(m-lo-1):=Int.ediv_le_self _ ∅
   lia
  .rw[R6 h];lia
 unfold ii.Range.small ii.Range.rangeFitsLong;simp only[gt_iff_lt,f,if_true];simp;lia
def Dg{a b c:fm}{u:TA}{p:Pos}(J:Gl X "range")(D:X.mg "range"=k7)(T:PA X [a,b,c] u)(hs:uP_ (QM [a,b,c] X.i=(kt,eval a X.i)::QM [b,c] X.i) uR_)(w:uP_ ((backTo pos (QM [b,c] X.i)).any (·.1)=kt) uR_):
  PI X tg (.Call (.Name "range" p) [a,b,c] [] pos) (iRngL u):=by
 intro B s O H ad I h;refine Call_ (kP I J D HG (QZ (thn (T pos B s O H _ I h) λg j ⟨i,l,d,A,k⟩=>?_) hs w));let lo m c n e v Q Y L f N q:=k;subst e
 cases A with
 |cons r x =>
  cases x with
  |cons eK x =>
   cases x with
   |cons aa x =>
    cases x
    let t rfl:=r;let t' rfl:=eK;let y rfl:=aa;refine call_range_3 (by let:=f.1;lia) ?_ (Or.inl (PyProof.noPylong_small (by let:=f.1;let:=f.2;lia)))
    refine wpAny_pyIter_range (IsRange.new ..) (FG v Q Y L f) ?_;let z:nv O l {j with heap:=j.H.o {cls:=.type "range",data:=.fields #[.int lo t,.int m t',.int c y]},toks:=j.v}:=d.kept λb o e=>QW _ e
    erw[(j.H.o {cls:=.type "range",data:=.fields #[.int lo t,.int m t',.int c y]}).M.J,[(j.H.o {cls:=.type "range",data:=.fields #[.int lo t,.int m t',.int c y]}).M.J],5,l,U,
     z.kept (t':=j.v) λb o e=>QW _ e,xA _ lo c n,3,λb M=>?_,q]
    .let C:lo+((0:R):G)*c=lo:=by simp
     let eg:((n:R):G)-((0:R):G)=QY lo m c:=by rw[N];simp
     show IsRangeIter _ _ (lo+((0:R):G)*c) ((n:G)-((0:R):G)) c;rw[C,eg];exact QX _ U
    .let e:b=(j.H.o {cls:=.type "range",data:=.fields #[.int lo t,.int m t',.int c y]}).M.J:=by simpa using M
     subst e;exact z.fpOk (Lq _) (z.hok.fresh (Lq _))
end
def wZ:QJ "min"=Z (.builtin "min"):=by rfl
def IU:QJ "max"=Z (.builtin "max"):=by rfl
theorem pM:∀{ns:E G}{us:E eN},Vals (ns.h V.int) us->Rk us ns
 |[],_,.nil=>.nil
 |n::ns,_,.cons r x=>by
  let t rfl:=r;exact .cons n t (pM x)
def nJ:QJ "sum"=Z (.builtin "sum"):=by rfl
theorem yesT{A B:Hp->Prop}(h:A H):tYes σ H λb H3=>if b=kf then A H3 else B H3 :=
 show(if kf=kf then A H else B H) from iteT (B:=B H) h
def bt_zip:QJ "zip"=Z (.type "zip"):=by rfl
def Itz(K:Lo)(a b:e8):It :=
 ⟨λi H=>∃ J O x y,na a J/\na b O/\J[i]?=Z x/\O[i]?=Z y,
  λi H v eK=>∃ T x y,H T=k7/\v=.ref T/\eK=upd H T (.tup [x,y])/\(∀ J,na a J->J[i]?=Z x)/\∀ O,na b O->O[i]?=Z y,
  λi H=>∃ J O,na a J/\na b O/\(J.L<=i∨O.L<=i)⟩
theorem Fx{es:E fm}{k:R}(a b z TI TO i1 i2:e8)(D:ZipApart z TI TO i1 i2 a b):Turn P w K (.Tuple es k pos) (Itz K a b) [z,TI,TO,i1,i2] z
  (λi h=>IsZip h z TI TO .none/\IsPair h TI (.ref i1) (.ref i2)/\(∃ u v,IsPair h TO u v)/\h.IsListIter i1 a i/\h.IsListIter i2 b i) where
 mem:=by simp
 obj:=λi h st c T=>by
  let kz kI{u v kO}{o1 f c1 d1}{o2 q2 c2 d2}:=st;simp only[Lz,Ny,or_false]at T;obtain rfl|rfl|rfl|rfl|rfl:=T
  .erw[_,kz,λv z=>by contradiction]
  .erw[_,kI,λv z=>by contradiction]
  .erw[_,kO,λv z=>by contradiction]
  .erw[o1,f,λv z=>by simp!]
  .erw[o2,q2,λv z=>by simp!]
 keep:=λi h h' st r=>by
  let kz kI{u v kO}k1 k2:=st;erw[r _ (by simp) _ kz,r _ (by simp) _ kI,⟨u,v,r _ (by simp) _ kO⟩,k1.at λo q=>r i1 (by simp) o q,k2.at λo q=>r i2 (by simp) o q]
 item:=by
  intro X hP hw hK T i B s O H eg I l st Y;subst hP hw hK;let j t x y C N J Q:=Y;let g rv p hz:=I.list C;let aa am p2 an:=I.list N;let u A ru:=rv.get J;let u2 aS aI:=am.get Q;let kz kI{o1 o2 kO}k1 k2:=st;refine wpAny_pyNext_zip_item D kz kI kO k1 k2 p.isList p2.isList (x:=u) (y:=u2) (by simpa using A) (by simpa using aS) λh' a1 a2 a3 a4 a5 a6 eK=>?_
  erw[57];refine wpAny_letOwnedTupleGo_zip a1 λL g1 ae=>?_;let ac:QL z h' L:=ae;let lz:z<s.H.M.J:=QH kz;let lI:TI<s.H.M.J:=QH kI;let lO:TO<s.H.M.J:=QH kO;let l1:i1<s.H.M.J:=by let _ q _:=k1;exact QH q
  let l2:i2<s.H.M.J:=by let _ q _:=k2;exact QH q
  let ab:H s.H.M.J=k7:=I.hok.fresh (Lq _);let I0:nv O (upd H s.H.M.J (.tup [x,y])) {s with heap:=s.H.o {cls:=.type "tuple",data:=.seq #[u,u2]},toks:=s.v} :=
   I.laid (t':=s.v) (λb u e=>QW _ e) (Lq _) ⟨by show 2<=QG;decide,[u,u2],.cons ru (.cons aI .nil),⟨_,QX _ U,U,_,U⟩⟩
  let ap:∀ c∈[z,TI,TO,i1,i2],c<s.H.M.J:=λc T=>by
   simp only[Lz,Ny,or_false]at T;obtain rfl|rfl|rfl|rfl|rfl:=T<;>assumption
  let n:∀ c∈[z,TI,TO,i1,i2],upd H s.H.M.J (.tup [x,y]) c=k7:=λc T=>by
   rw[ar (LQ (ap c T))];exact(l c T).1
  let I2:nv O (upd H s.H.M.J (.tup [x,y])) {s with heap:=L,toks:=s.v}:=Inv.turnedL (s:={s with heap:=s.H.o {cls:=.type "tuple",data:=.seq #[u,u2]},toks:=s.v}) (h':=L) I0 (t':=s.v) (fp:=[z,TI,TO,i1,i2]) (λc o T q=>by
   let n1:c≠z:=λe=>T (by simp[e])
   let n3:c≠TO:=λe=>T (by simp[e])
   let n4:c≠i1:=λe=>T (by simp[e])
   let n5:c≠i2:=λe=>T (by simp[e])
   refine(ac.2 c n1).Q ?_;rcases fc.get?_push_cases q with⟨z1,m⟩|q
   .simp!
   .exact eK c o n1 n3 n4 n5 q) λc T=>⟨n c T,(l c T).2⟩
  erw[.ref s.H.M.J,_,I2,U,⟨s.H.M.J,x,y,ab,U,U,λM h=>by rw[I.list_inj h C];exact J,λM h=>by rw[I.list_inj h N];exact Q⟩,3,n]
  erw[g1,(ac.2 TI D.TIz).Q (eK _ _ D.TIz D.TITO D.TIi1 D.TIi2 kI),⟨_,_,(ac.2 TO D.TOz).Q a2⟩,a3.at λo q=>(ac.2 i1 D.i1z).Q q,a4.at λo q=>(ac.2 i2 D.i2z).Q q]
 done:=by
  intro X hP hw hK T i B s O H eg I l st Y;subst hP hw hK;let j t C N J:=Y;let g rv p hz:=I.list C;let aa am p2 an:=I.list N;let kz kI{o1 o2 kO}k1 k2:=st;let d:=rv.L;let al:=am.L;refine wpAny_pyNext_zip_end (I.ok.hd T) D kz kI kO k1 k2 p.isList p2.isList ?_ λh' eb=>⟨U,Inv.turnedL I (t':=s.v) (λc o T e=>eb c o (λe=>T (by simp[e])) (λe=>T (by simp[e])) (λe=>T (by simp[e])) (λe=>T (by simp[e])) e) l⟩
  simp!
 self:=λ_ _ _ _ _ st h=>wpAny_pyIter_zip st.1 h
theorem dN(x y:R)(h:¬ x=y):@Ne e8 x y:=h
theorem Ce(n a b:R)(T:a<n)(M:b<n):ZipApart (n+4) (n+2) (n+3) n (n+1) a b :=
 ⟨dN _ _ ∅,dN _ _ ∅,dN _ _ ∅,dN _ _ ∅,dN _ _ ∅,dN _ _ ∅,dN _ _ ∅,dN _ _ ∅,dN _ _ ∅,
  dN _ _ ∅,dN _ _ ∅,dN _ _ ∅,dN _ _ ∅,dN _ _ ∅,dN _ _ ∅,dN _ _ ∅,dN _ _ ∅,dN _ _ ∅⟩
def iZip(K:Lo)(d:TA):TI:=λO H ad=>d O H λL l=>∃ a b,L=[.ref a,.ref b]/\(∃ J,SqL K l a J)/\(∃ t,SqL K l b t)/\ad (Itz K a b) l
def Df{M C:fm}{d:TA}{es:E fm}{k:R}{tp p:Pos}(Y:Gl X "zip")(D:X.mg "zip"=k7)(i:PA X [M,C] d)(hs:uP_ (QM [M,C] X.i=(kt,eval M X.i)::QM [C] X.i) uR_)(aa:uP_ ((backTo pos (QM [C] X.i)).any (·.1)=kt) uR_):
  PI X (.Tuple es k tp) (.Call (.Name "zip" p) [M,C] [] pos) (iZip X.K d):=by
 intro B s O H ad I h;refine Call_ (kP I Y D bt_zip (QZ (thn (i pos B s O H _ I h) λeg j ⟨L,l,n,A,f⟩=>?_) hs aa));let a b e{J y}{t N}q:=f;subst e;let u u2 rfl w al:=Ba A
 cases w
 cases al
 let g rv p o:=n.list y;let Q ac z ae:=n.list N;let la:a<j.H.M.J:=by let _ _ q _:=p;exact QH q
 let lb:b<j.H.M.J:=by let _ _ q _:=z;exact QH q
 refine call_zip_2 p.isList z.isList λm kz kI kO x r v eK=>?_;refine wpAny_pyIter_zip kz ?_
 erw[j.H.M.J+4,[j.H.M.J+4,j.H.M.J+2,j.H.M.J+3,j.H.M.J,j.H.M.J+1],5,l,U,n.kept (t':=j.v) eK,
  Fx a b (j.H.M.J+4) (j.H.M.J+2) (j.H.M.J+3) j.H.M.J (j.H.M.J+1) (Ce _ a b la lb),⟨kz,kI,⟨_,_,kO⟩,x,r⟩,λc T=>?_,q]
 let ab:j.H.M.J<=c:=by
  simp only[Lz,Ny,or_false]at T;obtain rfl|rfl|rfl|rfl|rfl:=T
  .exact Of _ _
  .exact Of _ _
  .exact Of _ _
  .exact Lq _
  .exact Of _ _
 exact n.fpOk ab (n.hok.fresh ab)
def wW{b:e8}{g:TG}{f:TE}(Pv:R->E V->Hp->Prop)(hz:xs.L<=QG)(eK:zs.L=xs.L)(l:Pv 0 [] H1)(hl:∀ i ys H,i<=xs.L->Pv i ys H->na a xs/\na b zs)
  (hs:∀ i x z ys H T,xs[i]?=Z x->zs[i]?=Z z->Pv i ys H->H T=k7->g (.ref T) (LD n k7++σ) (upd H T (.tup [x,z])) λh H2=>h.drop n=σ/\tt h H2 λb H3=>if b=kf then f h H3 (λy eg=>Pv (i+1) (ys++[y]) eg) else Pv (i+1) ys H3) (hd:∀ ys H,Pv xs.L ys H->QQ ys H) (Q:∀ i ys H,Pv i ys H->ys.L<=i)
  : iT g tt f n σ (Itz K a b) H1 QQ:=by
 erw[λi m ys H=>m=xs.L-i/\i<=xs.L/\Pv i ys H,⟨xs.L,by simp,Mh _,l⟩,3]
 rintro i m ys H ⟨rfl,B,p⟩;let q:=hl i ys H B p;let c:=Q i ys H p;erw[16]
 by_cases r:i<xs.L
 .let d:i<zs.L:=by lia
  refine .inr ⟨⟨xs,zs,xs[i],zs[i],q.1,q.2,by simp,by simp⟩,λzs H2=>Pv (i+1) zs H2,λzs H2 t=>⟨xs.L-(i+1),∅,U,r,t⟩,λv N y=>?_⟩
  let T x z O rfl rfl I D:=y;exact hs i x z ys _ T (I xs q.1) (D zs q.2) p O
 .let e:i=xs.L:=by lia
  subst e;exact .inl ⟨⟨xs,zs,q.1,q.2,.inl (Lq _)⟩,hd ys H p⟩
inductive rMinL(K:Lo)(xs:E V)(H:L2.Hp)(Q:L2.VK):Prop
 |mk (p:e8)(ns:E G) (_:xs=[.ref p])(_:na p (ns.h V.int))(_:0<ns.L)(_:∀ m:G,m∈ns->(∀ x∈ns,m<=x)->Q (.int m) H)
def E8(T:X.calm=kf):eO X (.builtin "min") (rMinL X.K):=by
 intro B s O H J eg Q I r h;let p b rfl y c q:=h;let u rfl w:=i7 r
 cases w
 let g rv D A:=I.list y;let f:=pM rv;let M e:=f.allInts.items;let d:s.H.IsList p (intItems M):=by rw[← e];exact D.isList
 let C:b=M.n.h (·.1):=by
  rw[← nums_intItems,← e];exact(show numsOf g.toArray.n=b from f.numsOf).Y
 subst C;rw[Lp,L9]at c;refine min_intList (I.ok.hd T) d c λv N l m eK=>?_;let t rfl:=intItems_at m;let Y L:=argBest_lt (numAt M) (M.J-1);erw[.int _,H,I.kept (t':=l) eK,⟨t,U⟩,q _ ?_ λa i=>?_]
 .rw[numAt_eq];exact Qo (by rw[Lp,L9];lia)
 .let j k rfl:=Qn i;rw[Lp,L9]at k;rw[← numAt_eq];exact L j ∅
def LsAt{α:Type}(ad:Hp->V->α->Prop)(H:Hp)(ys:E V)(xs:E α):Prop:=ys.L=xs.L/\∀(i:R)(x:α),xs[i]?=Z x->∃ y,ys[i]?=Z y/\ad H y x
theorem LsAt.nil{ad:Hp->V->α->Prop}:LsAt ad H [] []:=⟨U,λi x e=>by simp at e⟩
theorem LsAt.imp{ad o:Hp->V->α->Prop}{xs:E α}(h:LsAt ad H ys xs)(m:∀ y x,ad H y x->o H' y x):LsAt o H' ys xs:=⟨h.1,λi x e=>by
 let y a b:=h.2 i x e
 erw[y,a,m y x b]⟩
def LsAt.snoc{ad:Hp->V->α->Prop}{xs:E α}{x:α}(h:LsAt ad H ys xs)(r:ad H y x):LsAt ad H (ys++[y]) (xs++[x]):=by
 erw[by rw[Lx,Lx,h.1];rfl,λj k e=>?_]
 by_cases J:j<xs.L
 .rw[Ls J]at e;let p n I:=h.2 j k e;erw[p,by rw[Ls (by rw[h.1];exact J)];exact n,I]
 .rw[Lr ∅]at e
  let a:j=xs.L:=by
   let:=(Lm.mp e).1;rw[LR]at this;lia
  subst a;rw[Mf]at e
  cases e
  erw[y,by rw[← h.1,Lr (Lq _),Mf];rfl,r]
def LsAt.get{ad:Hp->V->α->Prop}{xs:E α}(h:LsAt ad H ys xs)(e:ys[i]?=Z y):∃ x,xs[i]?=Z x/\ad H y x:=by
 let B:i<xs.L:=by rw[← h.1];exact(Lm.mp e).1
 let z a b:=h.2 i _ (Ll B);rw[e]at a
 cases a
 erw[_,Ll B,b]
def op_neG(eK:X.A.units+64<cLine):OpR X (QO .NotEq) (λx y H Q=>∃ d1 t,RdD X.K H x d1/\RdD X.K H y t/\SeqAt.shaped d1=kf/\SeqAt.shaped t=kf/\Q (.bl (!gi.eqv d1 t)) H):=by
 intro B s O H x y v u Q I c D h;let d1 t eg p Y L q:=h;let as k:=eg.reads I v c;let bs g:=p.reads I u D;exact ne_dataH k g Y L eK ⟨.bl _,H,I,U,q⟩
theorem qT:∀(a b:E G),gi.eqvAll (a.h gi.int) (b.h gi.int)=decide (a=b)
 |[],[]=>by rfl
 |[],y::b=>by rfl
 |x::a,[]=>by rfl
 |x::a,y::b=>by
  rw[LX,LX];simp only[gi.eqvAll,gi.eqv,qT a b];by_cases h:x=y
  .simp!
  .simp[h]
def Hl(a b:E G):gi.eqv (.list (a.h gi.int)) (.list (b.h gi.int))=decide (a=b):=by
 rw[← qT];rfl
section
variable{X:Cx}{tg:fm}
end
def IY:QJ "all"=Z (.builtin "all"):=by decide
inductive rMaxL(K:Lo)(xs:E V)(H:L2.Hp)(Q:L2.VK):Prop
 |mk (p:e8)(ns:E G) (_:xs=[.ref p])(_:na p (ns.h V.int))(_:0<ns.L)(_:∀ m:G,m∈ns->(∀ x∈ns,x<=m)->Q (.int m) H)
def Fd(T:X.calm=kf):eO X (.builtin "max") (rMaxL X.K):=by
 intro B s O H J eg Q I r h;let p b rfl y c q:=h;let u rfl w:=i7 r
 cases w
 let g rv D A:=I.list y;let f:=pM rv;let M e:=f.allInts.items;let d:s.H.IsList p (intItems M):=by rw[← e];exact D.isList
 let C:b=M.n.h (·.1):=by
  rw[← nums_intItems,← e];exact(show numsOf g.toArray.n=b from f.numsOf).Y
 subst C;rw[Lp,L9]at c;refine max_intList (I.ok.hd T) d c λv N l m eK=>?_;let t rfl:=intItems_at m;let Y L:=argBest_gt (numAt M) (M.J-1);erw[.int _,H,I.kept (t':=l) eK,⟨t,U⟩,q _ ?_ λa i=>?_]
 .rw[numAt_eq];exact Qo (by rw[Lp,L9];lia)
 .let j k rfl:=Qn i;rw[Lp,L9]at k;rw[← numAt_eq];exact L j ∅
section
variable{prog:ge}{w:ih}{A:Around}{eg:eN->e9->Prop}{s:e9}{d:e8}
def Ent(h:fc)(d:e8)(es:j5 DictEntry)(ep:R):Prop:=∃ o,h.R d=Z o/\o.ExactDict/\o.data=.dict es ep
def Ent.ty{es:j5 DictEntry}(x:Ent s.H d es ep):s.TypeIs (.ref d) "dict":=by
 let o Y L _:=x;erw[o,Y,L.1]
theorem Hm(hd:(d == sysModules)=kt):MeetsIn prog w (ii.«dict.items» ⟨[.ref d],[]⟩) (λ_ ad s=>(∃ es ep,Ent s.H d es ep)/\ad (.ok (.ret (.ref s.H.M.J))) {s,s.H.o {cls:=.type "dict_items",data:=.fields #[.ref d]}}) :=
 .of_wp λA ad s ⟨⟨es,ep,D⟩,h⟩=>by
  unfold ii.«dict.items» ii.Dict.noArgs;refine QS (QS (wpAny_notOrdered_dict D.ty ?_));show wpAny _ _ (pure d) _ _ s;refine QV ?_;show wpAny _ _ (ii.Dict.showsAll d >>= _) _ _ s;unfold ii.Dict.showsAll;rw[R6 (by simp[hd])]
  exact QS (QV (QS (Ru (QV ⟨_,U,h⟩))))
def Hn{v:e8}{es:j5 DictEntry}(hv:s.H.IsItemsView v d)(p:Ent s.H d es ep)(g:Q (.ref s.H.M.J) {s,s.H.o {cls:=.type "dict_itemiterator",data:=.fields #[.none,.bool kt,.ref d,.int 0 0,.int es.J 0,.int ep 0,.none,.none]}}):
  li A (pyIter (.ref v)) Q eg s:=by
 let k Y L f:=id hv;let o C D M:=p;refine wpAny_pyIter_slot hv.typeIs F.slot_dict_items_iter (Rv F.slot_dict_items_iter hv.typeIs F.entry_dict_items_iter ?_ (F.args_dict_items_iter_1 _));show wpAny _ _ (ii.«dict_items.__iter__» _) _ _ s;unfold ii.«dict_items.__iter__» ii.Dict_items.dictOf ii.Dict_items.newIterator;refine QS (QV (QS (QS (wpAny_field Y f (x:=.ref d) U (QV (QS (QS (wpAny_dictEntries C M (QS (wpAny_dictEpoch C M ?_))))))))));simp -iota only[show Rw "dict_itemiterator"=kf by decide,if_true]
 refine Ru (QV ⟨_,U,"dict_itemiterator",_,⟨_,QX _ U,U⟩,F.slot_dict_itemiterator_next.Z,?_⟩)
  (by simp only[sizeOk,ii.Dict_items.ownedTupleFields,Mn,Lx,MG,NY,sizeLine_eq];lia)
 simpa[rawInt,ii.Dict_items.ownedTupleFields] using g
def ED{es:j5 DictEntry}{ok ov:eN}{Q:io eN->e9->Prop}(y:IsItemIter s.H it d i es.J ep ok ov)(p:Ent s.H d es ep)(l:A.handled=k7)(hI:∀ e,es[i]?=Z e->∀ h',IsItemIterOut h' it d (i+1) es.J ep e.key e.val s.H.M.J->h'.R s.H.M.J=Z {cls:=.type "tuple",data:=.seq #[e.key,e.val]}->(∀ b o,b≠it->s.H.R b=Z o->h'.R b=Z o)->Q (Z (.ref s.H.M.J)) {s,h'})(Y:es[i]?=k7->∀ h',fc.ExtBut it s.H h'->Q k7 {s,h'}):li A (pyNext (.ref it)) Q eg s:=by
 let o C D f:=p;let O:s.TypeIs (.ref it) "dict_itemiterator":=⟨_,y,U⟩;let own:Rw "dict_itemiterator"=kf:=by rfl
 unfold pyNext;refine QS (wpAny_attempt (Rx (name:=ff.ofString "__next__") O F.slot_dict_itemiterator_next (Rv F.slot_dict_itemiterator_next O F.entry_dict_itemiterator_next ?_ (F.args_dict_itemiterator_next_1 _))));refine QS (QV (QS (QS (QS (Ry O (QV ?_))))));refine QS (wpAny_fieldsOf y U ?_);simp -iota only[own,if_true];show wpAny _ _ (if(eN.ref d == eN.none)=kf then _ else _) _ _ _;rw[R6 (show ¬ ((eN.ref d == eN.none)=kf) from LZ)];refine QS (QV (QS (wpAny_dictEntries C f ?_)));rw[R6 (by simp)]
 refine QS (QV (QS (wpAny_dictEpoch C f ?_)));rw[R6 (by simp)]
 refine QV ?_;let n0:¬ ((i:G)<0):=by lia
 simp only[n0,if_false,Lv]
 cases eK:es[i]? with
 |none =>
  refine QS (QS (Ry O (QV ?_)));show wpAny _ _ (setField (.ref it) 2 .none >>= _) _ _ s;refine QS (wpAny_setField y U (by simp) ?_)
  show wpAny _ _ (newExc (.type "StopIteration") [] >>= _) _ _ _;refine QS ?_;simp only[newExc,newTuple];refine QS (Ru (QS (m:=firstArgMember _ _) (wpAny_of_eq (a:=eN.none) (by rfl) (Ru ?_ (by size_fits)))) (by size_fits))
  simp -iota only[raiseNew];refine QS (wpAny_handled ?_);rw[show A.in1.handled=k7 from l];refine QS (QV (wpAny_throw ?_));refine QS (Rq (T:="StopIteration") (b:=kf) ⟨_,QX _ U,U⟩ isSubtype_stop (QV ?_));exact Y eK _ (((Rz ..).X.o _).o _)
 |some e =>
  refine QS (QS (Ry O (QV ?_)));refine QS (RA O ?_);show wpAny _ _ (setField (.ref it) 3 (rawInt ((i:G)+1)) >>= _) _ _ s;refine QS (RB y (by simp) λB k N=>?_)
  let c1:((i+1:R):G)=(i:G)+1:=by lia
  let aa:IsItemIter B it d (i+1) es.J ep ok ov:=by
   unfold IsItemIter;rw[c1];simpa[rawInt] using k
  let lt:it<s.H.M.J:=QH y;let g:B.M.J=s.H.M.J:=N.1;let ab:e9.TypeIs {s,B} (.ref it) "dict_itemiterator":=⟨_,aa,U⟩;refine QS (QT (QS (RA ab (QS (RA ab ?_)))));show wpAny _ _ (RC (.ref it) 6 e.key e.val) _ _ {s,B};unfold RC ii.Dict_items.ownedTupleIsFree;refine QS (wpAny_newTuple ?_);let L:IsItemIter (B.o {cls:=.type "tuple",data:=.seq #[e.key,e.val]}) it d (i+1) es.J ep ok ov:=QW _ aa;let J:(B.o {cls:=.type "tuple",data:=.seq #[e.key,e.val]}).R s.H.M.J=Z {cls:=.type "tuple",data:=.seq #[e.key,e.val]}:=by rw[← g];exact QX _ U
  let j:∀ b o,b≠it->s.H.R b=Z o->(B.o {cls:=.type "tuple",data:=.seq #[e.key,e.val]}).R b=Z o:=λb o M q=>QW _ (N.X b o M q);rw[g];generalize B.o {cls:=.type "tuple",data:=.seq #[e.key,e.val]}=u at L J j;show wpAny _ _ (_ >>= _) _ _ {s,u};refine QS (QS (wpAny_field L U (x:=.none) U (QV ?_)));simp -iota only[if_true];refine QS (wpAny_field L U (x:=ok) U (QS (wpAny_field L U (x:=ov) U ?_)));refine QS (RB L (by simp) λI t v=>?_)
  replace t:IsItemIter I it d (i+1) es.J ep e.key ov:=t;refine QS (RB t (by simp) λg4 r c=>?_)
  replace r:IsItemIter g4 it d (i+1) es.J ep e.key e.val:=r;refine QS (RB r (by simp) λg5 n H=>?_)
  replace n:IsItemIterOut g5 it d (i+1) es.J ep e.key e.val s.H.M.J:=n;refine QS (RB n (by simp) λg6 z h=>?_)
  replace z:IsItemIterOut g6 it d (i+1) es.J ep e.key e.val s.H.M.J:=z;let up:∀ b o,b≠it->u.R b=Z o->g6.R b=Z o:=λb o M q=>h.X b o M (H.X b o M (c.X b o M (v.X b o M q)));exact QS (RD (QV (QV ⟨_,U,QV (hI e eK g6 z (up _ _ (MZ lt) J) λb o M q=>up b o M (j b o M q))⟩)))
end
def AL(v d:e8):HO:=.ext λh=>h.IsItemsView v d
def KvA(H:Hp)(u:HO)(i:R)(x y:V):Prop:=(∃ m k,u=.dK m/\m[i]?=Z (k,y)/\x=kV k)∨∃ m k t,u=.dT m/\m[i]?=Z (k,y)/\x=.ref t/\H t=Z (.tup (k.h kV))
def dlen:HO->R
 |.dK m=>m.L
 |.dT m=>m.L
 |_=>0
def Bt:HO->Prop
 |.dK _=>True
 |.dT _=>True
 |_=>False
theorem pL{α j:Type}{F:α->j->Prop}:∀{c:E α}{d:E j},Paired F c d->∀{i:R}{b:j},d[i]?=Z b->∃ a,c[i]?=Z a/\F a b:=by
 intro c d h;induction h with
 |nil=>intro i b e;simp at e
 |cons r t ih=>
  intro i b e;cases i with
  |zero=>cases e;exact⟨_,U,r⟩
  |succ i=>exact ih (i:=i) e
def EE{d:e8}{u:HO}(hd:Bt u)(x:bE P w H h d u):(d == sysModules)=kt/\∃ es ep,Ent h d es ep/\es.J=dlen u/\∀ i e,es[i]?=Z e->∃ x y,KvA H u i x y/\RelV x e.key/\RelV y e.val:=by
 cases u with
 |dK m =>
  let A lo M I o es ep Y L f s T p:=x;let g:m.L=M.L:=Paired.length I;let sz:es.J=M.L:=by rw[← T.L,L9]
  erw[lo,es,ep,⟨o,Y,L,f⟩,by rw[sz];exact g.Y,λi e eK=>?_]
  let B:i<M.L:=by
   let:i<es.J:=(OS.mp eK).1;lia
  let{k v}a:∃ q,M[i]?=Z q:=⟨_,Ll B⟩;let l aa:=T.R (e:=e) (by rw[MQ];exact eK) a
  let{c y}Q N D:=pL I a;let O:c=k:=N;subst O;erw[kV c,y,.inl ⟨m,c,U,Q,U⟩,3,by rw[aa];exact D]
  rcases bf (show rF c e.key=kf from l) with⟨j,t,C,eg⟩|⟨z,t,C,eg⟩
  .rw[C,eg];erw[t,U]
  .rw[C,eg];erw[t,U]
 |dT m =>
  let A lo b r o es ep Y L f s T:=x;let sz:es.J=b.L:=by rw[← L9,s,Lp]
  erw[lo,es,ep,⟨o,Y,L,f⟩,by rw[sz];exact r.L.Y,λi e eK=>?_]
  let C:es.n[i]?=Z e:=by rw[MQ];exact eK
  rw[s,LA]at C
  cases J:b[i]? with
  |none=>rw[J]at C;cases C
  |some q =>
   rw[J]at C
   cases C
   let{k y}Q N n D:=pL r J;erw[.ref q.2.1,y,.inr ⟨m,k,q.2.1,U,Q,U,n⟩,U,D]
 |_=>exact hd.elim
section
variable{X:Cx}{pins:E (e8×hr)}{σ:St}{H:Hp}{s:e9}{d:e8}{u:HO}{o:hr}
def Bt.notT(h:Bt u):(∀ xs,u≠.tup xs)/\(∀ o v,u≠.frz o v)/\(∀ ps,u≠.tbl ps)/\∀ a,u≠.own a:=by
 cases u<;>first|exact h.elim|erw[λ_=>by simp,λ_ _=>by simp,λ_=>by simp,λ_=>by simp]
theorem HOk.frz{P:ge}{w:ih}{h:fc}(x:HOk P w H h)(hd:H d=Z u)(eK:Bt u)(e:h.R d=Z o):HOk P w (upd H d (.frz o u)) h:=λb v q=>by
 let O D Q g:=eK.notT;let f:∀ c y,H c=Z (.own y)->upd H d (.frz o u) c=Z (.own y):=λc y r=>by rw[ar (Bk r hd λz=>g y z.Y)];exact r
 let a:∀ c J,H c=Z (.tup J)->upd H d (.frz o u) c=Z (.tup J):=λc J r=>by rw[ar (Bk r hd λz=>O J z.Y)];exact r
 by_cases M:b=d
 .subst M;rw[ag]at q
  cases q
  erw[e,(x b u hd).stay (λ_ _ _ r=>r) (λc r=>f c b r) a]
 .rw[ar M]at q;exact(x b v q).stay (λ_ _ _ r=>r) (λc r=>f c b r) a
def Inv.freeze(I:Inv X pins σ H s)(hd:H d=Z u)(eK:Bt u)(e:s.H.R d=Z o):Inv X pins σ (upd H d (.frz o u)) s:=by
 let O D Q g:=eK.notT;exact I.step (H':=upd H d (.frz o u)) (h':=s.H) (g':=s.gens) (d':=s.drawn) (t':=s.v) (ch:=[]) (λ_ z=>nomatch z) (λb _ _ _ _ q _=>q) (λb N _ _ _ q _=>⟨N.slots,q⟩)
  (λb _ _ _ n=>by rw[ar (aF hd n).Y];exact n) (λb N _ q=>⟨N,q⟩) (λb J r=>by rw[ar (Bk r hd λz=>O J z.Y)];exact r)
  (λb N v r=>by rw[ar (Bk r hd λz=>D N v z.Y)];exact r) (λb T r=>⟨#[],by rw[ar (Bk r hd λz=>Q T z.Y),r];simp⟩) (λ_ q=>q) (I.hok.frz hd eK e) I.bare
def GG:MtR X "dict.items" (λx xs H Q=>∃ d u,x=.ref d/\xs=[]/\H d=Z u/\Bt u/\∀ v,H v=k7->Q (.ref v) (upd H v (AL v d))):=by
 intro pins s σ H x xs v eg Q I c rv h;let d u rfl rfl hd eK q:=h
 cases c
 let f:=rv.zero;subst f;let lo D l p _:=EE eK (I.hok d _ hd);refine call_meetsIn Qy p.ty PySem.F.entry_dict_items (PySem.F.args_dict_items_1 _) (Hm lo) ⟨⟨D,l,p⟩,?_⟩;let m:(s.H.o {cls:=.type "dict_items",data:=.fields #[.ref d]}).IsItemsView s.H.M.J d:=⟨_,QX _ U,U,U⟩;erw[.ref s.H.M.J,_,I.laid (t':=s.v) (λb o e=>QW _ e) (Lq _) ?_,U,q _ (I.hok.fresh (Lq _))];erw[m,⟨_,QX _ U⟩,λY L x k=>let ⟨o,t,r⟩:=x;⟨o,k _ t,r⟩]
end
section
open PySem.W
end
section
open PySem.W
variable{prog:ge}{w:ih}{A:Around}{eg:eN->e9->Prop}{s:e9}
def PrV(h:fc)(v:eN):Prop:=∃ a o n x y i ty,v=.ref a/\h.R a=Z o/\o.cls=.type "tuple"/\o.data=.seq #[.int x i,.int y ty] n
def PrV.keep{v:eN}(p:PrV h v)(k:∀ b o,v=.ref b->h.R b=Z o->h'.R b=Z o):PrV h' v:=by
 let a o n x y i ty rfl Y r eK:=p;erw[a,o,n,x,y,i,ty,U,k _ _ U Y,r,eK]
theorem AD{M:Model}:∀{vs:E eN},(∀ v∈vs,PrV s.H v)->∃ fs,KatTups s.H vs fs/\fs.L=vs.L/\∀ v∈fs,Looks M s.H (typeOf v) (.type "int")
 |[],_=>⟨[],trivial,U,λv H=>nomatch H⟩
 |v::vs,h=>by
  let fs Y L f:=AD (M:=M) (vs:=vs) λu eK=>h u (Lu _ eK);let a o n x y i ty rfl N j d:=h v (Ly ..);erw[.int x i::fs,KatTups.cons N j d U Y,by simp[*],λu eK=>?_]
  obtain rfl|eK:=Lz.mp eK
  .exact .now
  .exact f u eK
end
theorem Aj:∀{ys:E V}{us:E eN},Vals ys us->∀ u∈us,∃ y∈ys,RelV y u
 |_,_,.nil,u,h=>nomatch h
 |_,_,.cons (a:=y) r t,u,h=>by
  obtain rfl|h:=Lz.mp h
  .erw[y,Ly ..,r]
  .let z A b:=Aj t u h;erw[z,Lu _ A,b]
theorem vi{ys:E V}{us:E eN}(r:Vals ys us):∀{out:E eN},(∀ u∈out,u∈us)->∃ zs,Vals zs out/\zs.L=out.L/\∀ z∈zs,z∈ys
 |[],_=>⟨[],.nil,U,λz h=>nomatch h⟩
 |u::out,h=>by
  let zs A j eK:=vi r (out:=out) λx J=>h x (Lu _ J);let y Q D:=Aj r u (h u (Ly ..))
  erw[y::zs,.cons D A,by simp[*],λz d=>by
   obtain rfl|d:=Lz.mp d
   .exact Q
   .exact eK z d]
inductive rAllB(K:Lo)(xs:E V)(H:L2.Hp)(Q:L2.VK):Prop
 |mk (p:e8)(bs:E i0) (_:xs=[.ref p])(_:na p (bs.h V.bl))(_:Q (.bl (bs.all id)) H)
def wX(T:X.calm=kf):eO X (.builtin "all") (rAllB X.K):=by
 intro B s O H J eg Q I r h;let p bs rfl y q:=h;let u rfl c:=i7 r
 cases c
 let g rv n d:=I.list y;let aa:=rv.L;rw[Lp]at aa;let a:p<s.H.M.J:=by let _ _ q _:=n;exact QH q
 refine call_all_walk (wpAny_pyIter_list n.isList ?_);erw[s.H.M.J,[s.H.M.J,p],[s.H.M.J],g.toArray.J,5,λi=>bs.f i kf,U,Walks.list (A:=X.A.in1) (I.ok.hd T) _ p (LQ a) g.toArray,⟨⟨_,QX _ U,U,U⟩,n.isList.o _⟩,λi v l Q' E' L Y=>?_,λN C eK=>?_]
 .let m:g[i]?=Z v:=by simpa using L
  let f:i<bs.L:=by let:=(Lm.mp m).1;lia
  let w k j:=rv.get (i:=i) (x:=.bl bs[i]) (by rw[LA,Ll f];rfl)
  rw[m]at k
  cases k
  cases j
  replace Y:Q' (bs.f i kf) l:=Y;rw[show bs.f i kf=bs[i] by rw[LB,Ll f];rfl]at Y
  exact QP Y
 .let t:((Mg g.toArray.J).all λi=>bs.f i kf)=bs.all id:=by
   rw[Mn,← aa,Oq,OD,OD];constructor
   .intro h b M;let i f rfl:=Mt M;let:=h i (Mz.mpr f);rw[LB,Ll f]at this;exact this
   .intro h i f;let z:=Mz.mp f;rw[LB,Ll z];exact h _ (MT z)
  rw[t];erw[.bl _,H,I.kept (t':=C) (λb o e=>eK b o (λD=>?_) (QW _ e)),U,q];rw[LY.mp D]at e;exact Nr _ (QH e)
section
variable{prog:ge}{w:ih}{K:Type} [DecidableEq K] {knd:KeyKind prog w K} {A:Around} {eg:eN->e9->Prop} {s:e9}
end
section
variable{X:Cx}{o e f:fm}{apos cpos:Pos}{td ty tx:TE}
end
def Itk(o:hr)(kvs:E (Key×V))(d:e8):It :=
 ⟨λi H=>H d=Z (.frz o (.dK kvs))/\i<kvs.L,λi H v eK=>∃ k y,kvs[i]?=Z (k,y)/\v=kV k/\eK=H,λi H=>H d=Z (.frz o (.dK kvs))/\kvs.L<=i⟩
def Ei{d:e8}{es:j5 DictEntry}(x:bE P w H h d (.frz o (.dK kvs)))(eK:o.data=.dict es ep):(d == sysModules)=kt/\∃ vs,KV kvs vs/\h.DictAt (bM P w) d vs ep:=by
 let B A lo vs eg j es' i Y L f r:=x;rw[B]at Y
 cases Y
 rw[eK]at f
 cases f
 erw[lo,vs,eg,o,es,B,L,eK,r]
theorem Cp{tg:fm}(o:hr)(kvs:E (Key×V))(d it:e8)(es:j5 DictEntry)(ep:R)(eK:o.data=.dict es ep):Turn P w K tg (Itk o kvs d) [it] it (λi h=>h.IsKeyIter it d i kvs.L ep) where
 mem:=by simp
 obj:=λi h st b M=>by
  let e:b=it:=by simpa using M
  subst e;let o e c d:=st;erw[o,e,λv z=>by simp!]
 keep:=λi h N st k=>by
  let o e r:=st;erw[o,k it (by simp) o e,r]
 item:=by
  intro X hP g hK T i B s O H eg I C st Y;subst hP g hK;let hd f:=Y;let lo L rk ab:=Ei (I.hok d _ hd) eK;let D:kvs.L=L.L:=Paired.length rk;let f0 u x f3 f4 f5:=C it (by simp)
  let{k v}m:∃ q,L[i]?=Z q:=⟨_,Ll ∅⟩
  let{k' y}a ek J:=pL rk m;let ac:k'=k:=ek;subst ac;refine wpAny_pyNext_dict_item (D▸st) ab m λA N l aa sb=>?_;let n:nv O H {s,N}:=I.turned (t':=s.v) (λb o M e=>(sb.2 b M).Q e) f0 u f3 f4 f5;let o2 e c dd:=id aa;erw[A,U,G6 (s:={s,N}) e c dd ∅ ⟨kV k',H,n,?_,⟨k',y,a,U,U⟩,D.Y▸aa,λb M=>(C b M).1⟩]
  rcases bf (show rF k' A=kf from l) with⟨j,t,rfl,rfl⟩|⟨z,t,rfl,rfl⟩
  .erw[t,U]
  .erw[t,U]
 done:=by
  intro X hP g hK T i B s O H eg I C st Y;subst hP g hK;let hd f:=Y;let lo L rk ab:=Ei (I.hok d _ hd) eK;let D:kvs.L=L.L:=Paired.length rk;let f0 u x f3 f4 f5:=C it (by simp)
  exact wpAny_pyNext_dict_end (I.ok.hd T) (D▸st) ab (MI ∅) λN eb=>⟨U,I.turned (t':=s.v) (λb o M e=>eb b o M e) f0 u f3 f4 f5⟩
 self:=λ_ _ s Q _ st h=>by
  let p:s.TypeIs (.ref it) "dict_keyiterator":=st.typeIs;refine wpAny_pyIter_slot p F.slot_dict_keyiterator_iter (Rv F.slot_dict_keyiterator_iter p F.entry_dict_keyiterator_iter ?_ (F.args_dict_keyiterator_iter_1 _));show wpAny _ _ (ret (.ref it)) _ _ s;exact QV ⟨_,U,"dict_keyiterator",_,p,F.slot_dict_keyiterator_next.Z,h⟩
def iKeys(f:TE):TI:=λO H ad=>f O H λx l=>∃ d m,x=.ref d/\l d=Z (.dK m)/\∀ o,ad (Itk o m d) (upd l d (.frz o (.dK m)))
def JR{e:fm}{f:TE}{tg:fm}(eK:PE X e f):PI X tg e (iKeys f):=by
 intro B s O H ad I h;refine thn (eK B s O H _ I h) λv j r=>?_;let x l n A k:=r;let d m rfl hd q:=k
 cases A
 let _ a N p sz _:=EE (u:=.dK m) True.intro (n.hok d _ hd);let o k g t:=id p;let z:=n.freeze hd True.intro k;let lo L eg i:=Ei (z.hok d _ ag) t;let D:m.L=L.L:=Paired.length eg;refine wpAny_pyIter_dict lo i ?_;erw[j.H.M.J,[j.H.M.J],5,upd l d (.frz o (.dK m)),U,z.kept (t':=j.v) λb u e=>QW _ e,Cp o m d _ a N t,⟨_,QX _ U,U,by rw[D];rfl⟩,λb M=>?_,q o]
 rw[LY.mp M];exact z.fpOk (Lq _) (z.hok.fresh (Lq _))
section
variable{prog:ge}{w:ih}{A:Around}{eg:eN->e9->Prop}{s:e9}{T:String}{r d:e8}{n:R}{P:R->eN->Prop}{OK:fc->Prop}
end
section
variable{prog:ge}{w:ih}{A:Around}{eg:eN->e9->Prop}{s:e9}
end
abbrev rX(p:Pos):Arguments:={posonlyargs:=[],args:=[{arg:="each",annotation:=k7,pos:=p}],vararg:=k7,kwonlyargs:=[],kw_defaults:=[],kwarg:=k7,defaults:=[]}
abbrev yt:hx:={kind:=.function,names:=[("each",.local),("told",.free)],isGenerator:=kt,isCoroutine:=kt,more:=[]}
abbrev Bs(p1 t q:Pos):fm:=.Subscript (.Name "told" p1) (.Name "each" t) q
section
variable{prog:ge}{w:ih}{A:Around}{eg:eN->e9->Prop}{s:e9}
def Kx{c' ct t:e8}{j:ff}{h p1 z q:Pos}{i v:eN}{its:j5 eN}{k:G}{tk:Tok}(p:A.depth<recursionLimit)(C:s.H.R f=Z (Pa "<lambda>" j (rX h) (Bs p1 z q) yt [("told",ct)] u c' i))(l:s.H.CodeRec (.ref c') j)(m:s.H.NoLimit)(T:s.H.IsCell ct (Z (.ref t)))(hl:s.H.IsList t its)(k0:0<=k)(r:k<2^63)(y:its[k.U]?=Z v)(g:∀ h' a,(∀ b o,s.H.R b=Z o->h'.R b=Z o)->Q v {s with heap:=h',toks:=a}):
  li A (call (.ref f) [.int k tk]) Q eg s:=by
 refine wpAny_call (PySem.W.kla_callFunE p C U U U U l ?_);let M:bindArgs (PySem.W.kla_fn "<lambda>" j (rX h) (Bs p1 z q) yt [("told",ct)] u (.ref c') i) ⟨[.int k tk],[]⟩=(pure [(("each" : ff),eN.int k tk)]:Sem (E (ff×eN))):=rfl;rw[M];refine QV (wpAny_newFunctionEnv (λx J=>?_) (λx J=>?_) (λY n D=>?_) U)
 .let B:x=(("each" : ff),NameKind.local)∨x=(("told" : ff),NameKind.free):=by simpa using J
  obtain rfl|rfl:=B<;>simp!
 .rw[LY.mp J];rfl
 let d:∀ b o,s.H.R b=Z o->Y.R b=Z o:=λb o e=>D.X b o (LQ (QH e)) (QW _ e);erw[m.keeps d,PySem.W.kla_codeExpr ?_];refine Subscript_ (wpAny_Name (wpAny_loadName_free (c:=ct) U U U (T.keeps d) ?_));refine wpAny_Name (wpAny_loadName_local U U n U ?_);exact item_listR (hl.at λo e=>d _ _ e) k0 r y (g _ _ d)
abbrev Kp(h h':fc):Prop:=∀ b o,h.R b=Z o->h'.R b=Z o
theorem Kp.but{g:fc}(k:Kp g h)(n:g.R I=k7)(m:∀ b o,b∉[I]->h.R b=Z o->h'.R b=Z o):Kp g h':=λb o e=>m b o (λz=>by simp!) (k b o e)
theorem Kp.same{g:fc}{S:e8}(k:Kp g h)(n:g.R S=k7)(m:QL S h h'):Kp g h':=λb o e=>(m.2 b (λz=>by simp!)).Q (k b o e)
def GH{J S:e8}{P:R->eN->Prop}{St:R->fc->Prop}{g:fc}(W:Walks prog w A.in1 J fp [J] n P St)(gJ:g.R J=k7)(gS:g.R S=k7)(am:S≠J)(ac:S∉fp)(turn:∀ i v,i<n->P i v->∀(h:fc)(tk:R)(Q:eN->e9->Prop)(eg:eN->e9->Prop),Kp g h->(∀ I t h' a,Kp h h'->Q (.int I t) {s with heap:=h',toks:=a})->li A.in1 (call (.ref q) [v]) Q eg {s with heap:=h,toks:=tk})(C:∀ i v h' a,i<n->P i v->Kp g h'->ad (.ok (.ret v)) {s with heap:=h',toks:=a}):
  ∀(r j i:R)(h:fc)(tk:R)(vb:eN)(l:G)(tb:Tok)(c:R),n-(j+1)=r->j+1<=n->Kp g h->h.R S=Z (RE "list" #[vb,.int l tb] c)->St (j+1) h->i<n->P i vb ->
   Q7 (model prog w) A (.builtin "min.loop" ⟨[.ref J,.ref q,.ref S],[]⟩) ad {s with heap:=h,toks:=tk}:=by
 let nm:(toString "min"++toString ".loop" : String) = "min.loop":=by rfl
 intro r;induction r with
 |zero =>
  intro j i h tk vb l tb c er k kg x st B D;let f:j+1=n:=by lia
  refine RI NG ?_;rw[RJ Mr _];refine QS (m:=seqItems? (.ref S)) (RK x U ?_);show wpAny _ A.in1 (tryCatch (pyNext (.ref J)) _ >>= _) _ _ _;refine QS (RL (W.done _ _ _ (by rw[← f];exact st) λh' a y=>?_))
  let ap:=kg.but gJ y;let p:=y S _ (by simpa using am) x
  let su:=Rz h' S (Rg λ_=>(#[]:j5 eN));refine QS (m:=RN S λ_=>#[]) (RO p U (QS (RD (QV ?_))));exact C i vb _ _ B D (ap.same gS su)
 |succ r O =>
  intro j i h tk vb l tb c er k kg x st B D;let lt:j+1<n:=by lia
  refine RI NG ?_;rw[RJ Mr _];refine QS (m:=seqItems? (.ref S)) (RK x U ?_);show wpAny _ A.in1 (tryCatch (pyNext (.ref J)) _ >>= _) _ _ _;refine QS (RL (W.item (j+1) _ _ _ lt st λv Y ae H ab N=>?_));let T:=kg.but gJ N;let eK:=N S _ (by simpa using am) x
  show wpAny _ A.in1 (tryCatch (holding [v] (call (.ref q) [v])) _ >>= _) _ _ _;refine QS (RL (QT (turn (j+1) v lt H Y ae _ _ T λI t L aI u=>?_)));let an:Kp g L:=λb o e=>u b o (T b o e);let aa:=u _ _ eK;let d:=W.frame _ _ L ab λb _ o e=>u b o e;show wpAny _ A.in1 (tryCatch (holding [v,.int I t] (richCompare .Lt (.int I t) (.int l tb) >>= _)) _ >>= _) _ _ _;refine QS (RL (QT (QS (CmpOf.ints_lt (prog:=prog) (w:=w) (A:=A.in1) (P:=λ(i:R) v=>∃ t,v=.int (if i=0 then I else l) t) (λi=>if i=0 then I else l) (λi v h=>h) 0 1 _ _ _ _ _ ⟨t,U⟩ ⟨tb,U⟩ ?_))));refine QS (QT (QP (QS (RD (QV ?_)))));by_cases cc:I<l
  .let su:=Rz L S (Rg λ_=>#[v,.int I t])
   let c2 al:∃ c2,(L.update S (Rg λ_=>#[v,.int I t])).R S=Z (RE "list" #[v,.int I t] c2):=⟨_,RF aa λ_=>#[v,.int I t]⟩;simp[cc];refine QS (RO aa U (QS (RD ?_)));refine QV ⟨RP Mr _,O (j+1) (j+1) _ _ v I t c2 ∅ lt (an.same gS su) al (W.frame _ _ _ d λb M o e=>(su.2 b (λz=>ac (z▸M))).Q e) lt H⟩
  .simp[cc];refine QS (RD (QV ?_));erw[RP Mr _,O (j+1) i _ _ vb l tb c ∅ lt an aa d B D]
def Kq{d:e8}{KK:Type}[DecidableEq KK]{knd:PySem.KeyKind prog w KK}{kvs:E (KK×eN)}(l:A.handled=k7)(hd:fc.DictAt knd s.H d kvs ep)(ds:(d == sysModules)=kt)(c:0<kvs.L)(turn:∀(i:R)(v:eN)(k:KK)(x:eN),kvs[i]?=Z (k,x)->knd.is k v=kf->∀(h:fc)(tk:R)(Q:eN->e9->Prop)(eg:eN->e9->Prop),Kp s.H h->(∀ g t h' a,Kp h h'->Q (.int g t) {s with heap:=h',toks:=a})->li A.in1 (call (.ref q) [v]) Q eg {s with heap:=h,toks:=tk})(T:∀(i:R)(v:eN)(k:KK)(x:eN)(h':fc)(a:R),kvs[i]?=Z (k,x)->knd.is k v=kf->Kp s.H h'->Q v {s with heap:=h',toks:=a}):
  li A (call (.builtin "min") [.ref d] [(ff.ofString "key",.ref q)]) Q eg s:=by
 let nm:(toString "min"++toString ".loop" : String) = "min.loop":=by rfl
 let I _ ap _:=id hd;let dl:d<s.H.M.J:=QH ap;refine kmk_tree PySem.F.kind_min PySem.F.plain_min PySem.F.entry_min (kmk_min_key _ _) ?_;show wpAny _ A.in1 (RQ "min" ["key","default"] 0 ⟨[],[(ff.ofString "key",.ref q)]⟩ >>= _) _ _ s;refine QS (wpAny_of_eq (show RQ "min" ["key","default"] 0 ⟨[],[(ff.ofString "key",.ref q)]⟩=pure [Z (.ref q),k7] from rfl) (QS (QV (QS (wpAny_pyIter_dict ds hd ?_)))));refine QS (RG ?_ (Mh _));rw[nm];let N ab:∃ N:hr,N={cls:=eN.type "dict_keyiterator",data:=Data.fields #[eN.ref d,eN.int 0 0,eN.int (kvs.L:G) 0,eN.int (ep:G) 0]}:=⟨_,U⟩;rw[← ab];let sz:(s.H.o N).M.J=s.H.M.J+1:=by rw[Q8]
 let al:(s.H.o N).M.J≠s.H.M.J:=by lia
 let aS:d≠s.H.M.J:=LQ dl;let J:∀ b,s.H.M.J<=b->s.H.R b=k7:=λb M=>QK M;let n:Kp s.H ((s.H.o N).o (RE "list" #[] 0)):=λb o e=>QW _ (QW _ e);let O:((s.H.o N).o (RE "list" #[] 0)).R (s.H.o N).M.J=Z (RE "list" #[] 0):=QX _ U;let hJ:((s.H.o N).o (RE "list" #[] 0)).R s.H.M.J=Z N:=QW _ (QX _ (by rw[ab];rfl))
 let W:=Walks.dictKeys (prog:=prog) (w:=w) (knd:=knd) (A:=A.in1) l s.H.M.J d aS kvs ep;let am:∀(i:R)(v:eN),i<kvs.L->(∃ k,∃ x,kvs[i]?=Z (k,x)/\knd.is k v=kf)->∀(h:fc)(tk:R)(Q:eN->e9->Prop)(eg:eN->e9->Prop),Kp s.H h->(∀ g t h' a,Kp h h'->Q (.int g t) {s with heap:=h',toks:=a})->li A.in1 (call (.ref q) [v]) Q eg {s with heap:=h,toks:=tk}:=λi v _ ⟨k,x,C,D⟩=>turn i v k x C D;refine QV ⟨RP Mr _,RI NG ?_⟩;rw[RJ Mr _];refine QS (m:=seqItems? (.ref (s.H.o N).M.J)) (RK O U ?_);show wpAny _ A.in1 (tryCatch (pyNext (.ref s.H.M.J)) _ >>= _) _ _ _;refine QS (RL (W.item 0 _ _ _ c ⟨⟨N,hJ,by rw[ab],by simp!⟩,hd.at' λo e=>n _ _ e⟩ λv Y ac H aa f=>?_))
 let u:=n.but (J _ (Lq _)) f;let p:=f _ _ (by simp) O
 show wpAny _ A.in1 (tryCatch (holding [v] (call (.ref q) [v])) _ >>= _) _ _ _;refine QS (RL (QT (am 0 v c H Y ac _ _ u λg t L aI j=>?_)));let an:Kp s.H L:=λb o e=>j b o (u b o e);let eK:=j _ _ p;let r:=W.frame _ _ L aa λb _ o e=>j b o e;let su:=Rz L (s.H.o N).M.J (Rg λ_=>#[v,.int g t]);let c2 ae:∃ c2,(L.update (s.H.o N).M.J (Rg λ_=>#[v,.int g t])).R (s.H.o N).M.J=Z (RE "list" #[v,.int g t] c2):=⟨_,RF eK λ_=>#[v,.int g t]⟩;let B:(s.H.o N).M.J∉[s.H.M.J,d]:=λz=>by
  obtain z|z:=Lz.mp z
  .exact al z
  .grind
 refine QS (m:=RN _ λ_=>#[v,.int g t]) (RO eK U ?_);rw[nm];refine QV ⟨RP Mr _,GH W (J _ (Lq _)) (J _ ∅) al B am (λi v h' a _ ⟨k,x,C,D⟩ y=>T i v k x h' a C D y) _ 0 0 _ _ v g t c2 U c (an.same (J _ ∅) su) ae (W.frame _ _ _ r λb M o e=>(su.2 b (λz=>B (z▸M))).Q e) c H⟩
end
section
variable{X:Cx}{pins:E (e8×hr)}{σ:St}{H:Hp}{s:e9}{h':fc}{T:e8}{ps more:j5 eN}{t':R}
def Inv.tab(I:Inv X pins σ H s)(e:H T=Z (.tbl ps))(J:∀ b o,b≠T->s.H.R b=Z o->h'.R b=Z o)(O:h'.R T=Z {cls:=.none,data:=.fields (ps++more)}):
  mi σ (upd H T (.tbl (ps++more))) {s with heap:=h',toks:=t'}:=by
 let ne:∀{b:e8}{o:io HO},H b=o->o≠Z (.tbl ps)->b≠T:=λq n z=>n (by rw[← q,z,e])
 refine I.un ⟨λb o g n _ _=>J b o (ne n (by simp)) g,λb o g n _ _=>⟨o.slots,J b o (ne n (by simp)) g⟩,λb o g n _=>?_,λb o g _=>?_,λb j q=>?_,λb o u q=>?_,λb p q=>?_⟩ λb u q=>?_
 .rw[ar (ne n (by simp))]
  exact n
 .by_cases z:b=T
  .rw[z];erw[_,O]
  .erw[o,J b o z g]
 .rw[ar (ne q (by simp))]
  exact q
 .rw[ar (ne q (by simp))]
  exact q
 .by_cases z:b=T
  .subst z;rw[e]at q
   cases q
   erw[more,ag]
  .erw[#[],by rw[ar z,q];simp]
 .by_cases z:b=T
  .subst z;rw[ag]at q
   cases q
   exact O
  .rw[ar z]at q;refine(I.hok b u q).stay (λc o d g=>J c o (λy=>?_) g) (λc g=>?_) λc o g=>?_
   .simp!
   .rw[ar (ne g (by simp))];exact g
   .rw[ar (ne g (by simp))];exact g
end
def codO(c:e8)(q:ff):HO:=.ext λh=>h.CodeRec (.ref c) q
def Tb(q:ff)(r:Pos)(T:e8)(H:Hp):Prop:=H T=Z (.tbl #[])∨∃ c,H T=Z (.tbl #[rawInt r.line,rawInt r.col,.ref c])/\H c=Z (codO c q)
def TbS(T:e8)(H H':Hp):Prop:=∀ b o,b≠T->H b=Z o->H' b=Z o
structure Lam(X:Cx)(c T ct:e8)(lq:ff):Prop where
 code:X.i.code=.ref c
 hd:NR X.base c T
 bm:∃ bm,∃ o,(X.mg "__builtins__"=Z (.ref bm)/\bm≠builtinsNs/\X.base.R bm=Z o/\o.cls=.type "module"/\o.dict=Z builtinsNs/\o.data=.plain)
 kind:X.i.kindOf "told"=Z .cell
 cl:closureFor yt X.i=pure [(("told" : ff),ct)]
 cell:X.i.cells.Z ("told" : ff)=Z ct
 q:X.i.qual++"<lambda>"=lq
theorem Kz{a:Type}:∀{kvs:E (a×V)}{vs:E (a×eN)},KV kvs vs->∀{i:R}{k:a}{y:eN},vs[i]?=Z (k,y)->∃ kv,kv∈kvs/\k=kv.1:=by
 intro kvs vs h;induction h with
 |nil=>intro i k y e;simp at e
 |cons h r ih=>
  intro i k y e;cases i with
  |zero=>cases e;exact⟨_,Ly ..,h.1.Y⟩
  |succ i=>let kv m N:=ih (i:=i) (show _=Z (k,y) from e);erw[kv,Lu _ m,N]
def tMinK(b:ff)(r:Pos)(T:e8)(it:R)(t:TA):TE:=λO H Q=>t O H λL l=>∃ d m a J,L=[.ref d]/\l d=Z (.dK m)/\m≠[]/\O[it]?=Z (Z (.ref a))/\l a=Z (.lst J)/\Tb b r T l /\
 (∀ f∈m,∃(k:R)(n:G),f.1=.inl (k:G)/\J[k]?=Z (.int n))/\∀ f∈m,∀ eK,TbS T l eK->Tb b r T eK->Q (kV f.1) eK
def JS{c T ct:e8}{lq:ff}{it:R}{t:TA}{np xp p0 p1 p2 p3 lp kp:Pos}(L:Lam X c T ct lq)(J:X.ex=[])(eg:X.calm=kf)(l:Room 0 X.A)(hN:X.N[it]?=Z ("told" : ff))(hv:Vis X.i.scope "told")(hg:Gl X "min")(hm:X.mg "min"=k7)(ha:PA X [.Name x xp] t):
  PE X (.Call (.Name "min" np) [.Name x xp] [⟨Z "key",.Lambda (rX p0) (Bs p1 p2 p3) yt lp,kp⟩] pos) (tMinK lq lp T it t):=by
 intro B s O H Q I h;refine Rc (kP I hg hm wZ ?_);refine callWith_kw (thn (ha pos B s O H _ I h) λus s1 ⟨vs,H1,I1,r1,q1⟩=>?_);let d kvs a xs rfl hd ab be g tb p q:=q1;let u rfl ru:=i7 r1
 cases ru
 refine kws_cons (PySem.W.kla_eval U ?_);rw[L.q];let bK:0<kvs.L:=PB.mpr ab;let go:∀(eK:Hp)(s2:e9)(f c':e8)(pm aI:eN),nv O eK s2->s2.H.R f=Z (Pa "<lambda>" lq (rX p0) (Bs p1 p2 p3) yt [("told",ct)] pm c' aI)->s2.H.CodeRec (.ref c') lq->eK d=Z (.dK kvs)->eK a=Z (.lst xs)->(∀ kv∈kvs,Q (kV kv.1) eK) ->
   lf (call (.builtin "min") [.ref d] [(ff.ofString "key",.ref f)]) (EP X B O Q) X.xe s2:=by
  intro eK s2 f c' pm aI I2 hf aS an aX q2;let _ ds vs a2 od D ep a4:=BM I2.hok an;let vl:=a2.L;refine Kq (knd:=bM X.e X.w) (kvs:=vs) (ep:=ep) (I2.ok.hd eg) ⟨od,D,a4⟩ ds ∅ ?_ ?_
  .intro i v k y C M h' tk Q' E' kk bg;let{k1 w1}m1 ek:=Kz a2 C;let j n ej hn:=p _ m1;let a1:k=.inl (j:G):=ek.Q ej;subst a1;let sh:∃ t,v=eN.int (j:G) t:=by
    rcases bf (show rF (.inl (j:G)) v=kf from M) with⟨i',t',z1,z2⟩|⟨_,_,z1,_⟩
    .cases z1;erw[t',z2]
    .cases z1
   let tv rfl:=sh;let hz its bJ rv bi:=I2.hok a _ aX;let wv bn bp:=rv.get hn;let tn rfl:=bp;let jl:j<xs.L:=(Lm.mp hn).1;let bN:=rW;let m a3 a5:=I2.loc;let u ru lk:=a5 it "told" (.ref a) hN be hv
   cases ru
   let am:s2.H.IsCell ct (Z (.ref a)):=by
    rcases lk with⟨kl,_⟩|⟨_,c2,ec,z⟩
    .exact R7 kl (by rw[L.kind];intro z;cases z)
    .rw[L.cell]at ec;cases ec;exact z
   refine Kx (A:=X.A.in1) (f:=f) (c':=c') (t:=a) (its:=its.toArray) (k:=(j:G)) ?_ (kk _ _ hf) (aS.keeps kk) (I2.nolimit.keeps kk) (am.keeps kk) ⟨_,kk _ _ bi,U,_,U⟩ ∅ ∅ (by rw[Lv];simpa using bn) λh3 bP k3=>bg _ _ _ _ k3
   let:=l.dp;show X.A.depth<recursionLimit;lia
  .intro i v k y h' tk C M kk;let kv m1 ek:=Kz a2 C;erw[kV k,eK,I2.kept kk,3,by rw[ek];exact q2 kv m1]
   rcases bf (show rF k v=kf from M) with⟨i',t',rfl,rfl⟩|⟨y',t',rfl,rfl⟩
   .erw[t',U]
   .erw[t',U]
 let a7:s1.H.BuiltinsAt X.mg T:=by
  let bm o b1 b2 b3 b4 b5 b6:=L.bm;let o1 ae bu g1 g2 _:=id I1.mod.glob;let hT:H1 T≠k7:=by
   obtain z|⟨_,z,_⟩:=tb<;>rw[z]<;>simp
  erw[bm,o,b1,b2,λz=>?_,λz=>?_,I1.bk _ _ b3,b4,b5,b6]
  .simp!
  .rw[z]at b3;exact hT (I1.bs _ _ b3).2
 let neT:QI≠T:=λz=>by
  let o1 ae bu g1 g2 _:=id I1.mod.glob;let:=(I1.bs _ _ g1).2;rw[z]at this;obtain y|⟨_,y,_⟩:=tb<;>rw[y]at this<;>contradiction
 let ba:=I1.mod.glob.keeps I1.bk;obtain hT|⟨c',hT,bb⟩:=tb
 .let gT:s1.H.R T=Z (Qp #[]):=I1.hok T _ hT
  refine PySem.W.kla_makeFunction (mg:=X.mg) L.cl I1.ok.glob ba L.code (L.hd.keeps I1.bk) gT trivial U neT a7 λc' aI h' tk bv a6 aa al ap=>kws_nil ?_;let cT:c'≠T:=λz=>by
   let:=QH gT;rw[← z]at this;exact R7 this (O8 a6)
  let I2:=I1.tab (more:=#[rawInt lp.line,rawInt lp.col,.ref c']) (t':=tk) hT (λb o n e=>bv b o n e) ∅
  let e0:(#[]:j5 eN)++#[rawInt lp.line,rawInt lp.col,.ref c']=#[rawInt lp.line,rawInt lp.col,.ref c']:=by simp
  rw[e0]at I2;let fr:s1.H.R c'=k7:=QK a6;let bB:H1 c'=k7:=I1.hok.none_of fr;let c3 oc bR t3 ec g1 g2 g3:=id al
  cases ec
  let I3:=I2.xtrack (a:=c') (o:=codO c' lq) (I1.xok J fr (by rw[ar cT];exact bB)) ⟨al,⟨oc,g1⟩,λY r ⟨c4,o4,v4,t4,z1,z2,z3,z4⟩ kk=>by cases z1;erw[_,o4,v4,t4,U,kk o4 z2,z3,z4]⟩
  let a0:Kp h' (h'.o (Pa "<lambda>" lq (rX p0) (Bs p1 p2 p3) yt [("told",ct)] ((X.mg "__name__").f .none) c' aI)):=λb o e=>QW _ e;let I4:=I3.kept (t':=tk) a0;let dT:d≠T:=λz=>by simp!
  let aT:a≠T:=λz=>by simp!
  let dc:d≠c':=λz=>by simp!
  let ac:a≠c':=λz=>by simp!
  let sm:TbS T H1 (upd (upd H1 T (.tbl #[rawInt lp.line,rawInt lp.col,.ref c'])) c' (codO c' lq)):=λb o n e=>by
   rw[ar (λz=>by simp!),ar n]
   exact e
  refine go _ _ h'.M.J c' _ _ I4 (QX _ U) (al.keeps a0) (sm _ _ dT hd) (sm _ _ aT g) λkv m=>q kv m _ sm (.inr ⟨c',by rw[ar (Ne.Y cT)];exact ag,ag⟩)
 .let gT:s1.H.R T=Z (Qp #[rawInt lp.line,rawInt lp.col,.ref c']):=I1.hok T _ hT
  let al _ _:=(show bE X.e X.w H1 s1.H c' (codO c' lq) from I1.hok c' _ bb);refine PySem.W.kla_makeFunctionHit (mg:=X.mg) (cv:=.ref c') L.cl I1.ok.glob ba L.code (L.hd.keeps I1.bk) gT trivial (by simp[codeAmong,rawInt]) a7 λaI h' tk kk sz=>kws_nil ?_
  let a0:Kp s1.H (h'.o (Pa "<lambda>" lq (rX p0) (Bs p1 p2 p3) yt [("told",ct)] ((X.mg "__name__").f .none) c' aI)):=λb o e=>QW _ (kk b o e);let I4:=I1.kept (t':=tk) a0;exact go _ _ h'.M.J c' _ _ I4 (QX _ U) (al.keeps a0) hd g λkv m=>q kv m _ (λb o _ e=>e) (.inr ⟨c',hT,bb⟩)
abbrev Bm(mg:ff->io eN)(h:fc):Prop:=∃ a,∃ o,(mg "__builtins__"=Z (.ref a)/\a≠builtinsNs/\h.R a=Z o/\o.cls=.type "module"/\o.dict=Z builtinsNs/\o.data=.plain)
def DN{mb:ff->io eN}{CX:CXT}{k:R}{c T:e8}(KX:K.In s.H)(J:s.H.Ns QI mg)(M:s.H.Ns builtinsNs mb)(a1:∀ x:ff,x≠"__name__"->mb x=QJ x)(al:s.H.NoLimit)(gens:s.gens=#[])(t:NR s.H c T)(I:s.H.R T=Z (Qp #[]))(nT:K.Z T=k7)(am:Bm mg s.H)(i:s.H.R a=Z {cls:=.type "list",data:=.seq vs.toArray})(hi:Rk vs ns)(hl:ns.L<=QG)(N:Room k callerA)(F:∀ base:fc,K.In base->base.Ns QI mg->NR base c T->Bm mg base->FnOk P w K mg base CX k p fd [x] sp)(bind:∀(s:e9)(u:eN),BindsTo s fd ⟨[u],[]⟩ [(x,u)])(ac:∀ H:Hp,H T=Z (.tbl #[])->na a (ns.h V.int)->sp [.ref a] H (λv _=>v=.bl kf) λ_ _ _=>False)(aI:∀ H e s',CX [] H s (λ_ _ _=>False) e s'->False):
  Q7 (model P w) callerA (.call (.ref p) ⟨[.ref a],[]⟩) (λr s'=>r=.ok (.ret (.bool kf))/\OldK s.H s'.H/\s'.os=s.os/\AllBare s'.gens) s:=by
 let rv:=vj hi;let aT:a≠T:=λz=>by lia
 let H eT eS aa only frz:∃ H:Hp,H T=Z (.tbl #[])/\na a (ns.h V.int)/\HOk P w H s.H/\(∀ b,H b≠k7->(b=T∨b=a)/\K.Z b=k7)/\(∀ b u,H b=Z u->b≠T->∃ o O,u=.frz o (.lst O)):=by
  cases eK:K.Z a with
  |some o =>
   let e:=KX a o eK;rw[i]at e
   cases e
   erw[upd (λ_=>k7) T (.tbl #[]),ag,.inr ⟨_,vs.toArray,_,eK,U,U,U,by rw[Mn,hi.L];exact hl,by simpa using rv⟩,λb u z=>?_,λb z=>?_,λb u z n=>?_]
   .by_cases y:b=T
    .subst y;rw[ag]at z;cases z;exact I
    .rw[ar y]at z;cases z
   .by_cases y:b=T
    .erw[.inl y,y▸nT]
    .rw[ar y]at z;exact R7 U z
   .rw[ar n]at z;cases z
  |none =>
   erw[upd (upd (λ_=>k7) a (.frz {cls:=.type "list",data:=.seq vs.toArray} (.lst (ns.h V.int)))) T (.tbl #[]),ag,.inl (.inr ⟨{cls:=.type "list",data:=.seq vs.toArray},by rw[ar aT];exact ag⟩),λb u z=>?_,λb z=>?_,λb u z n=>?_]
   .by_cases y:b=T
    .subst y;rw[ag]at z;cases z;exact I
    .rw[ar y]at z;by_cases j:b=a
     .subst j;rw[ag]at z;cases z;erw[i,by simp[*],vs,_,rv,i]
     .rw[ar j]at z;cases z
   .by_cases y:b=T
    .erw[.inl y,y▸nT]
    .rw[ar y]at z;by_cases j:b=a
     .erw[.inr j,j▸eK]
     .rw[ar j]at z;exact R7 U z
   .rw[ar n]at z;by_cases j:b=a
    .subst j;rw[ag]at z;cases z;erw[37]
    .rw[ar j]at z;cases z
 let aX:∀{b:e8}{o:hr},s.H.R b=Z o->o.cls≠.none->o.cls≠.type "list"->H b=k7:=λ{b o} e n1 n2=>by
  grind
 let a2:∀{b:e8}{o:hr}{D:j5 DictEntry}{l:R},s.H.R b=Z o->o.data=.dict D l->H b=k7:=λ{b o D l} e d=>by
  cases q:H b with
  |none=>rfl
  |some u =>
   rcases(only b (by rw[q];simp)).1 with z|z
   .rw[z,I]at e;lia
   .rw[z,i]at e;grind
 let an:∀{b:e8}{m:ff->io eN},s.H.Ns b m->(hidT s.H H).Ns b m:=λ{b m} ⟨o,D,l,e,d,r⟩=>⟨o,D,l,pO e (a2 e d),d,r⟩
 let kB:K.In (hidT s.H H):=λb o e=>pO (KX b o e) (by
  grind)
 let cB:NR (hidT s.H H) c T:=by
  let o v2 a0 tf aS tg a3 text tt C eg r:=t;erw[o,v2,a0,tf,aS,tg,a3,text,tt,pO C (aX C (by rw[eg];simp) (by lia)),eg,r]
 let bB:Bm mg (hidT s.H H):=by
  let bm o b1 b2 b3 b4 r:=am;erw[bm,o,b1,b2,pO b3 (aX b3 (by rw[b4];simp) (by lia)),b4,r]
 let md:Mod K mg (hidT s.H H):=⟨kB,an J,⟨mb,an M,a1⟩,let ⟨mc,Y,L⟩:=al;⟨mc,an Y,L⟩⟩;let e0:Env0 P w K mg (hidT s.H H) callerA [] s H:=⟨U,md,λb o e=>Kj e,P2 (Ec _ _),trivial,λb z=>R7 (show b∈([]:E e8) from z) (by simp),aa,.of_eq gens⟩
 refine Rb ((F _ kB (an J) cB bB).run callerA [] s H ⟨[.ref a],[]⟩ [.ref a] [.ref a] _ _ N e0 (bind s (.ref a)) (.cons U .nil) (ac H eT eS)) λr s' h=>?_
 cases r with
 |error e=>exact(aI H e s' h).elim
 |ok fl =>
  cases fl with
  |next=>exact False.elim h
  |brk=>exact False.elim h
  |cont=>exact False.elim h
  |ret u =>
   let v f os ae un ap Q q:=h;let q':v=.bl kf:=q;subst q';obtain rfl:u=eN.bool kf:=Q;let nil:∀ b:e8,b∉frs []:=λb z=>R7 (show b∈([]:E e8) from z) (by simp)
   let gT:∃ ab,s'.H.R T=Z {cls:=.none,data:=.fields (#[]++ab)}:=by
    let ab e:=un.tbls T _ eT;erw[ab,ap T _ e]
   let kp:∀ b o,b≠T->s.H.R b=Z o->s'.H.R b=Z o:=λb o n e=>by
    cases q:H b with
    |none=>exact un.keep b o e q (nil b) (by simp)
    |some u =>
     let ob O rfl:=frz b u q n;let A:=un.frzs b ob _ q;let B _:=aa b _ q;let g2 _:=ap b _ A;simp!
   erw[U,⟨λb o e=>?_,λb o e=>?_⟩,os,ae]
   .by_cases z:b=T
    .subst z;rw[I]at e
     cases e
     let ab g:=gT;exact .inr (.inl ⟨(t.tab I).isCodeTable,U,#[],ab,U,g⟩)
    .exact .inl (kp b o z e)
   .by_cases z:b=T
    .subst z;let ab g:=gT;erw[_,g]
    .erw[o,kp b o z e]
def walk_ofT{l:Qh}{k:R}{q:ge}{eg:E ff}{XP:(ff->io eN)->fc->Prop}{YP:ih->fc->Prop}{d df:DefRec}{K:Params->Lo}{CX:CXT}{sp:Lo->e8->Sp}{fn:ff}(O:l.most=some n)(ac:n<=QG)(ab:d.params.defaults=[])(N:Room k callerA)(hY:∀(w:ih)(h:fc),YP w h->(K w.params).In h)(r:(recsOf q).find? (λe=>e.name == fn)=some df)(F:∀(w:ih)(mg:ff->io eN)(j:e8)(h:fc),(K w.params).In h->h.Ns QI mg->mg d.name=some (.ref j)->∃ fd:fk,(∀(s:e9)(u:eN),BindsTo s fd ⟨[u],[]⟩ [(x,u)]) /\
   ∃ c T,Ob (K w.params) fn=Z (c,T)/\(K w.params).Z T=k7/\∀ base:fc,(K w.params).In base->base.Ns QI mg->NR base c T->Bm mg base->FnOk l.e w (K w.params) mg base CX k j fd [x] (sp (K w.params) T))(y:∀(K:Lo)(T:e8)(H:Hp)(a:e8)(ns:E G),ns.L<=n->H T=Z (.tbl #[])->na a (ns.h V.int)->sp K T [.ref a] H (λv _=>v=.bl kf) λ_ _ _=>False)(al:∀(H:Hp)(s:e9)(e:eN)(s':e9),CX [] H s (λ_ _ _=>False) e s'->False):
  PySem.W.WalkO q eg XP YP l.row.toRowW d [] (λf vs=>PySem.call f vs):=by
 refine Att.attach_call O ab λw am C mg mb j o D cd p a vs ns eK Y t hd z ae Q aa i J=>?_;let KX:=hY w _ Y;let fd M c T I nT hF:=F w mg j _ KX eK.T.g ae;let B m:=PySem.W.tab_of eK.T KX r I;exact DN KX eK.T.g eK.T.b eK.T.builtins eK.T.nolimit J B m nT eK.T.bmain Q aa (MB i ac) N hF M (λH A L=>y _ T H a ns i A L) λH e s'=>al H C e s'
def op_neE(eK:X.A.units+64<cLine):OpR X (QO .NotEq) (λx y H Q=>∃ a b kvs,x=.ref a/\y=.ref b/\H a=Z (.dK kvs)/\H b=Z (.dK [])/\Q (.bl (!kvs.isEmpty)) H):=by
 intro B s O H x y v u Q I c D h;let a b kvs rfl rfl T M q:=h
 cases c
 cases D
 let _ k L f n:=BM I.hok T;let _ t g d o:=BM I.hok M;let j:=f.L;let N:=d.L;let eg:g=[]:=OC N.Y;subst eg;refine PySem.W.keq_ne (r:=kf) k t n o ∅ (λe=>?_) ⟨.bl (!(L.L == 0&&kf)),H,I,U,?_⟩
 .let C:L=[]:=OC e
  subst C;exact .nil
 .cases kvs with
  |nil =>
   cases L with
   |nil=>exact q
   |cons p r=>cases j
  |cons p r =>
   cases L with
   |nil=>cases j
   |cons p r=>exact q
def lexB:E (G×G)->i0
 |[]=>kt
 | (x,y)::r=>if x=y then lexB r else decide (x<y)
section
variable{prog:ge}{w:ih}{A:Around}{eg:eN->e9->Prop}{s:e9}
def Ps:E (eN×eN)->E (G×G)->Prop
 |[],[]=>True
 | (u,v)::r,(x,y)::q=>(∃ t,u=.int x t)/\(∃ t,v=.int y t)/\Ps r q
 |_,_=>False
def Jr{b:e8}{oa:hr}{us vs:j5 eN}{ps:E (G×G)}{P:PySem.Fin->e9->Prop}(J:s.H.R a=Z oa)(k:oa.data=.seq us N)(M:s.H.R b=Z ob)(B:ob.cls=.type "tuple")(l:ob.data=.seq vs j)(g:Ps (us.n.zip vs.n) ps)(hl:us.J=vs.J)(h:P (.done (.ret (.bool (lexB ps)))) s):li A (ii.«tuple.__lt__» ⟨[.ref a,.ref b],[]⟩) P eg s:=by
 show wpAny _ _ (isInstance (.ref b) (.type "tuple") >>= _) _ _ s;refine QS (Rq (T:="tuple") ⟨ob,M,B⟩ isSubtype_tuple_tuple ?_);simp only[O7,Nf,if_false];refine QS (wpAny_tupleItemsOf J k (QS (wpAny_tupleItemsOf M l (QS ?_))));refine wpAny_forIn_list _ (λrest r m=>r.1=k7/\m=s/\∃ q,Ps rest q/\lexB q=lexB ps) _ ?_ ?_ _ _ ⟨U,U,ps,g,U⟩
 .rintro⟨u,v⟩ rest r m ⟨I,rfl,q,C,e⟩;match q,C with
  | (x,y)::q,⟨⟨t,Y⟩,⟨d,L⟩,n⟩ =>
   subst Y;subst L;refine QS (wpAny_eqBool_int ?_);by_cases c:x=y
   .let:(x == y)=kf:=by simp[c]
    rw[this];simp only[O7,Nf,if_false];refine QV ⟨U,U,q,n,?_⟩;rw[← e];show lexB q=if x=y then lexB q else decide (x<y);rw[R5 c]
   .let:(x == y)=kt:=by simp[c]
    rw[this];simp only[i0.not_false,if_true];let D:lexB ps=decide (x<y):=by
     rw[← e];show(if x=y then lexB q else decide (x<y))=_;rw[R6 c]
    rw[D]at h;refine QS (wpAny_rule (QS (CmpOf.ints_lt (prog:=prog) (w:=w) (A:=A) (P:=λ(i:R) v=>∃ t,v=.int (if i=0 then x else y) t) (λi=>if i=0 then x else y) (λi v h=>h) 0 1 _ _ _ _ _ ⟨t,U⟩ ⟨d,U⟩ ?_)));exact QS (QV (QV (QV h)))
 .rintro⟨o,p⟩ m ⟨I,rfl,q,C,e⟩;simp only at I;subst I;let H:q=[]:=by
   cases q with
   |nil=>rfl
   |cons z q=>exact C.elim
  subst H;let f:ii.Tuple.tupleCompareSizes CmpOp.Lt us.J vs.J=eN.bool (lexB ps):=by
   rw[← e,hl];show eN.bool (decide (vs.J<vs.J))=eN.bool kt;simp!
  show wpAny _ _ (ret (ii.Tuple.tupleCompareSizes CmpOp.Lt us.J vs.J)) _ _ _;rw[f];exact QV h
def tup_lt{b:e8}{oa:hr}{us vs:j5 eN}{ps:E (G×G)}(J:s.H.R a=Z oa)(ca:oa.cls=.type "tuple")(k:oa.data=.seq us N)(M:s.H.R b=Z ob)(B:ob.cls=.type "tuple")(t:ob.data=.seq vs i)(g:Ps (us.n.zip vs.n) ps)(hl:us.J=vs.J)(eK:A.units<cLine)(h:Q (.bool (lexB ps)) s):li A (richCompare .Lt (.ref a) (.ref b)) Q eg s:=by
 refine wpAny_richCompare_same_room (op:=.Lt) (T:="tuple") ⟨oa,J,ca⟩ ⟨ob,M,B⟩ PySem.F.slot_tuple_lt (Rv PySem.F.slot_tuple_lt ⟨oa,J,ca⟩ PySem.F.entry_tuple_lt ?_ (PySem.F.args_tuple_lt_2 _ _)) eK;exact Jr J k M B t g hl ⟨_,U,(λz=>by cases z),h⟩
def DG{J S:e8}{P:R->eN->Prop}{St:R->fc->Prop}{g:fc}(W:Walks prog w A.in1 J fp [J] n P St)(bt:R->R->i0)(gJ:g.R J=k7)(gS:g.R S=k7)(aa:S≠J)(l:S∉fp)(L:∀ i j u v,i<n->j<n->P i u->P j v->∀(h:fc)(tk:R)(Q:eN->e9->Prop)(eg:eN->e9->Prop),Kp g h->Q (.bool (bt i j)) {s with heap:=h,toks:=tk}->li A.in1 (richCompare .Lt u v) Q eg {s with heap:=h,toks:=tk})(C:∀ v h' a,P (argBest bt (n-1)) v->Kp g h'->ad (.ok (.ret v)) {s with heap:=h',toks:=a}):
  ∀(r j:R)(h:fc)(tk:R)(d:eN)(c:R),n-(j+1)=r->j+1<=n->Kp g h->h.R S=Z (RE "list" #[d,d] c)->St (j+1) h->P (argBest bt j) d->argBest bt j<n ->
   Q7 (model prog w) A (.builtin "min.loop" ⟨[.ref J,.none,.ref S],[]⟩) ad {s with heap:=h,toks:=tk}:=by
 intro r;induction r with
 |zero =>
  intro j h tk d c er k kg x st D M;let f:j+1=n:=by lia
  refine RI NG ?_;rw[RJ Mr _];refine QS (m:=seqItems? (.ref S)) (RK x U ?_);show wpAny _ A.in1 (tryCatch (pyNext (.ref J)) _ >>= _) _ _ _;refine QS (RL (W.done _ _ _ (by rw[← f];exact st) λh' a y=>?_))
  let ab:=kg.but gJ y;let B:=y S _ (by simpa using aa) x
  let t:=Rz h' S (Rg λ_=>(#[]:j5 eN));refine QS (m:=RN S λ_=>#[]) (RO B U (QS (RD (QV ?_))));exact C d _ _ (by rw[← f];exact D) (ab.same gS t)
 |succ r O =>
  intro j h tk d c er k kg x st D M;let lt:j+1<n:=by lia
  refine RI NG ?_;rw[RJ Mr _];refine QS (m:=seqItems? (.ref S)) (RK x U ?_);show wpAny _ A.in1 (tryCatch (pyNext (.ref J)) _ >>= _) _ _ _;refine QS (RL (W.item (j+1) _ _ _ lt st λv Y eK H q N=>?_));let T:=kg.but gJ N;let p:=N S _ (by simpa using aa) x
  show wpAny _ A.in1 (tryCatch (holding [v,v] (richCompare .Lt v d >>= _)) _ >>= _) _ _ _;refine QS (RL (QT (QS (L (j+1) (argBest bt j) v d lt M H D Y eK _ _ T ?_))));refine QS (QT (QP (QS (RD (QV ?_)))));let eA:argBest bt (j+1)=if bt (j+1) (argBest bt j)=kf then j+1 else argBest bt j:=rfl
  cases cc:bt (j+1) (argBest bt j) with
  |true =>
   let t:=Rz Y S (Rg λ_=>#[v,v]);let c2 I:∃ c2,(Y.update S (Rg λ_=>#[v,v])).R S=Z (RE "list" #[v,v] c2):=⟨_,RF p λ_=>#[v,v]⟩;simp;refine QS (RO p U (QS (RD ?_)));rw[R5 cc]at eA;refine QV ⟨RP Mr _,O (j+1) _ _ v c2 ∅ lt (T.same gS t) I (W.frame _ _ _ q λb M o e=>(t.2 b (λz=>l (z▸M))).Q e) (by rw[eA];exact H) (by rw[eA];exact lt)⟩
  |false =>
   simp;rw[R6 (by rw[cc];simp)]at eA
   refine QS (RD (QV ?_));erw[RP Mr _,O (j+1) _ _ d c ∅ lt T p q (by rw[eA];exact D) (by rw[eA];exact M)]
def GJ{l:e8}(bt:R->R->i0)(eK:A.handled=k7)(hl:s.H.IsList l vs.toArray)(c:0<vs.L)(D:∀(i j:R)(u v:eN),vs[i]?=Z u->vs[j]?=Z v->∀(h:fc)(tk:R)(Q:eN->e9->Prop)(eg:eN->e9->Prop),Kp s.H h->Q (.bool (bt i j)) {s with heap:=h,toks:=tk}->li A.in1 (richCompare .Lt u v) Q eg {s with heap:=h,toks:=tk})(C:∀ v h' a,vs[argBest bt (vs.L-1)]?=Z v->Kp s.H h'->Q v {s with heap:=h',toks:=a}):
  li A (call (.builtin "min") [.ref l]) Q eg s:=by
 let nm:(toString "min"++toString ".loop" : String) = "min.loop":=by decide
 let ol ab _:=id hl;let ll:l<s.H.M.J:=QH ab;refine kmk_tree PySem.F.kind_min PySem.F.plain_min PySem.F.entry_min (PySem.F.args_min1 _) ?_;show wpAny _ A.in1 (RQ "min" ["key","default"] 0 ⟨[],[]⟩ >>= _) _ _ s;refine QS (wpAny_of_eq (show RQ "min" ["key","default"] 0 ⟨[],[]⟩=pure [k7,k7] from rfl) (QS (QV (QS (wpAny_pyIter_list hl ?_)))));refine QS (RG ?_ (Mh _));rw[nm];let N g:∃ N:hr,N={cls:=eN.type "list_iterator",data:=Data.fields #[eN.ref l,eN.int 0 0]}:=⟨_,U⟩;rw[← g];let sz:(s.H.o N).M.J=s.H.M.J+1:=by rw[Q8]
 let r:(s.H.o N).M.J≠s.H.M.J:=by lia
 let n:l≠s.H.M.J:=LQ ll;let J:∀ b,s.H.M.J<=b->s.H.R b=k7:=λb M=>QK M;let d:Kp s.H ((s.H.o N).o (RE "list" #[] 0)):=λb o e=>QW _ (QW _ e);let x:((s.H.o N).o (RE "list" #[] 0)).R (s.H.o N).M.J=Z (RE "list" #[] 0):=QX _ U;let hJ:((s.H.o N).o (RE "list" #[] 0)).R s.H.M.J=Z N:=QW _ (QX _ (by rw[g];rfl))
 let W:=Walks.list (prog:=prog) (w:=w) (A:=A.in1) eK s.H.M.J l n vs.toArray;let ac:vs.toArray.J=vs.L:=Mn ..;rw[ac]at W;let aa:∀ i j u v,i<vs.L->j<vs.L->vs.toArray[i]?=Z u->vs.toArray[j]?=Z v->∀(h:fc)(tk:R)(Q:eN->e9->Prop)(eg:eN->e9->Prop),Kp s.H h->Q (.bool (bt i j)) {s with heap:=h,toks:=tk}->li A.in1 (richCompare .Lt u v) Q eg {s with heap:=h,toks:=tk}:=λi j u v _ _ Y L=>D i j u v (by simpa using Y) (by simpa using L)
 refine QV ⟨RP Mr _,RI NG ?_⟩;rw[RJ Mr _];refine QS (m:=seqItems? (.ref (s.H.o N).M.J)) (RK x U ?_);show wpAny _ A.in1 (tryCatch (pyNext (.ref s.H.M.J)) _ >>= _) _ _ _;refine QS (RL (W.item 0 _ _ _ c ⟨⟨N,hJ,by rw[g],by rw[g];rfl⟩,hl.at λo e=>d _ _ e⟩ λv Y k H q f=>?_))
 let T:=d.but (J _ (Lq _)) f;let p:=f _ _ (by simpa using r) x
 let t:=Rz Y (s.H.o N).M.J (Rg λ_=>#[v,v]);let c2 I:∃ c2,(Y.update (s.H.o N).M.J (Rg λ_=>#[v,v])).R (s.H.o N).M.J=Z (RE "list" #[v,v] c2):=⟨_,RF p λ_=>#[v,v]⟩;let B:(s.H.o N).M.J∉[s.H.M.J,l]:=λz=>by
  obtain z|z:=Lz.mp z
  .exact r z
  .let O:=LY.mp z
   exact R7 ll (by rw[← O,sz];exact O8 (NV _))
 refine QS (m:=RN _ λ_=>#[v,v]) (RO p U ?_);rw[nm];refine QV ⟨RP Mr _,DG W bt (J _ (Lq _)) (J _ ∅) r B aa (λv h' a e y=>C v h' a (by simpa using e) y) _ 0 _ _ v c2 U c (T.same (J _ ∅) t) I (W.frame _ _ _ q λb M o e=>(t.2 b (λz=>B (z▸M))).Q e) H c⟩
end
abbrev T3:=G×G×G
def TrA(H:Hp)(v:V)(t:T3):Prop:=∃ a,v=.ref a/\H a=Z (.tup [.int t.1,.int t.2.1,.int t.2.2])
def lt3(a b:T3):i0:=lexB [(a.1,b.1),(a.2.1,b.2.1),(a.2.2,b.2.2)]
def lt3_le{a b:T3}(h:lt3 a b=kf):a.1<=b.1:=by
 unfold lt3 lexB at h;by_cases c:a.1=b.1
 .lia
 .rw[R6 c]at h;let:=RS h;lia
def lt3_ge{a b:T3}(h:lt3 a b=kt):b.1<=a.1:=by
 unfold lt3 lexB at h;by_cases c:a.1=b.1
 .lia
 .rw[R6 c]at h;let:=of_decide_eq_false h;lia
theorem best3(W:R->T3):∀ k,argBest (λi j=>lt3 (W i) (W j)) k<=k/\∀ j,j<=k->(W (argBest (λi j=>lt3 (W i) (W j)) k)).1<=(W j).1
 |0=>by
  erw[Lq _,λj J=>?_];let e:j=0:=by lia
  rw[e];exact MD _
 |k+1=>by
  let Y L:=best3 W k;let e:argBest (λi j=>lt3 (W i) (W j)) (k+1)=if lt3 (W (k+1)) (W (argBest (λi j=>lt3 (W i) (W j)) k))=kf then k+1 else argBest (λi j=>lt3 (W i) (W j)) k:=rfl;rw[e]
  cases c:lt3 (W (k+1)) (W (argBest (λi j=>lt3 (W i) (W j)) k)) with
  |true =>
   rw[R5 U];let f:=lt3_le c;erw[Lq _,λj J=>?_];by_cases z:j=k+1
   .subst z;exact MD _
   .let:=L j ∅;lia
  |false =>
   rw[R6 LZ];let f:=lt3_ge c;erw[4,λj J=>?_]
   by_cases z:j=k+1
   .subst z;exact f
   .exact L j ∅
inductive rMin3X(K:Lo)(xs:E V)(H:L2.Hp)(Q:L2.VK):Prop
 |mk (p ys ws:_) (_:xs=[.ref p])(_:na p ys)(_:LsAt TrA H ys ws)(_:ws≠[])(_:∀(y:V),ys[argBest (λi j=>lt3 (ws.f i (0,0,0)) (ws.f j (0,0,0))) (ws.L-1)]?=Z y->Q y H)
def B6(T:X.calm=kf)(eK:X.A.units+64<cLine):eO X (.builtin "min") (rMin3X X.K):=by
 intro B s O H J D Q I r h;let p M c rfl hS hL aa q:=h;let u rfl rx:=i7 r
 cases rx
 let g rv pl _:=I.list hS;let yl:=hL.1;let il:=rv.L;let wp:0<c.L:=PB.mpr aa;let W eW Wi:∃ W:R->T3,W=(λi=>c.f i (0,0,0))/\∀ i t,c[i]?=Z t->W i=t:=⟨_,U,λi t e=>by show c.f i (0,0,0)=t;rw[LB,e];rfl⟩
 let q:∀ y,M[argBest (λi j=>lt3 (W i) (W j)) (c.L-1)]?=Z y->Q y H:=λy z=>q y (by rw[eW]at z;exact z)
 let look:∀(i:R)(v:eN),g[i]?=Z v->∃ a o y1 y2 y3 n,v=.ref a/\s.H.R a=Z o/\o.cls=.type "tuple"/\o.data=.seq #[y1,y2,y3] n/\(∃ t,y1=.int (W i).1 t)/\(∃ t,y2=.int (W i).2.1 t)/\(∃ t,y3=.int (W i).2.2 t):=λi v e=>by
  let f:i<M.L:=by rw[il];exact(Lm.mp e).1
  let t Y a ea l:=hL.get (Ll f);let v' ev ae:=rv.get (Ll f);rw[e]at ev
  cases ev
  rw[ea]at ae;obtain rfl:v=.ref a:=ae;let _ an rt o w ac n hd:=I.hok a _ l;rw[Wi i t Y];let y1 u1 rfl eg c1:=Vals.unc rt;let y2 u2 rfl r2 c2:=Vals.unc c1;let y3 u3 rfl r3 c3:=Vals.unc c2;cases c3
  erw[a,o,y1,y2,y3,n,U,w,ac,hd,eg,r2,r3]
 refine GJ (vs:=g) (λi j=>lt3 (W i) (W j)) (I.ok.hd T) pl.isList ∅ ?_ ?_
 .intro i j u v am ab h tk Q' E' d hQ;let al:X.A.in1.units<cLine:=by
   let e:X.A.in1.units<=X.A.units+64:=by simp[Around.in1]
   lia
  let a oa y1 y2 y3 n rfl ga ca da eg r2 r3:=look i u am;let b ob C x z3 m rfl gb cb db k L q3:=look j v ab;exact tup_lt (d _ _ ga) ca da (d _ _ gb) cb db (ps:=[((W i).1,(W j).1),((W i).2.1,(W j).2.1),((W i).2.2,(W j).2.2)]) ⟨eg,k,r2,L,r3,q3,trivial⟩ U al hQ
 .intro v N tk e d;let f:argBest (λi j=>lt3 (W i) (W j)) (g.L-1)<M.L:=by
   let:=(Lm.mp e).1;lia
  let v' ev ae:=rv.get (Ll f);rw[e]at ev
  cases ev
  erw[_,H,I.kept d,ae,q _ ?_];rw[show c.L-1=g.L-1 by lia]
  exact Ll f
inductive rMin3(K:Lo)(xs:E V)(H:L2.Hp)(Q:L2.VK):Prop
 |mk (p ys ws:_) (_:xs=[.ref p])(_:na p ys)(_:LsAt TrA H ys ws)(_:ws≠[])(_:∀(i:R)(y:V)(t:T3),ys[i]?=Z y->ws[i]?=Z t->(∀ t'∈ws,t.1<=t'.1)->Q y H)
def E9(T:X.calm=kf)(eK:X.A.units+64<cLine):eO X (.builtin "min") (rMin3 X.K):=by
 intro B s O H J eg Q I r h;let p M g rfl x m c q:=h;let wp:0<g.L:=PB.mpr c;refine B6 T eK B s O H _ eg Q I r ⟨p,M,g,U,x,m,c,λy a=>?_⟩;let b1 b2:=best3 (λi=>g.f i (0,0,0)) (g.L-1);let t n _:=m.get a;refine q _ _ t a n λd b=>?_;let j k f:=Mt b;let:=b2 j ∅
 rw[LB,LB,n,Ll k,f]at this;exact this
def HJ{xs:j5 R}(hs:xs.n.y (· < ·)):∀(l lo hi:R),hi-lo<=l->lo<=hi->hi<=xs.J->(∀ i,i<lo->xs.f i j<j)->(∀ i,hi<=i->i<xs.J->j<=xs.f i j) ->
  (∀ i,i<im.below.go xs j l lo hi->xs.f i j<j)/\(∀ i,im.below.go xs j l lo hi<=i->i<xs.J->j<=xs.f i j)/\im.below.go xs j l lo hi<=xs.J:=by
 let up:∀ a b,a<b->b<xs.J->xs.f a j<xs.f b j:=λa b m M=>by
  let T:a<xs.J:=NI m M;let:=MV.mp hs a b ∅ ∅ m
  simp!
 intro l;induction l with
 |zero =>
  intro lo hi Y L f B s;let:lo=hi:=by lia
  subst this;erw[B,s,f]
 |succ l O =>
  intro lo hi Y L f B s;unfold im.below.go;by_cases c:lo<hi
  .rw[R5 c];let eK:lo<=(lo+hi)/2:=by lia
   let n:(lo+hi)/2<hi:=by lia
   dsimp only;by_cases d:xs.f ((lo+hi)/2) j<j
   .rw[R5 d];refine O _ _ ∅ ∅ f (λi z=>?_) s
    by_cases e:i=(lo+hi)/2
    .rw[e];exact d
    .exact NI (up i _ ∅ ∅) d
   .rw[R6 d];refine O _ _ ∅ ∅ ∅ B λi z D=>?_
    by_cases e:i=(lo+hi)/2
    .rw[e];lia
    .let:=up _ i (show(lo+hi)/2<i by lia) D
     lia
  .rw[R6 c];let:lo=hi:=by lia
   subst this;erw[B,s,f]
theorem A6{xs:j5 R}(hs:xs.n.y (· < ·))(j:R):(∀ i,i<RT xs j->xs.f i j<j)/\(∀ i,RT xs j<=i->i<xs.J->j<=xs.f i j)/\RT xs j<=xs.J :=
 HJ hs xs.J 0 xs.J ∅ (Mh _) (Lq _) (λi h=>R7 h (MR _)) λi Y L=>R7 L ∅
def SetT(t:im):Prop:=t.place.n.y (· < ·)/\t.dummies=#[]
theorem SetT.fresh(a b:R)(g:i0):SetT (.fresh a b g):=⟨List.Pairwise.nil,U⟩
theorem SetT.standIn(t:im)(n:R):SetT (t.standIn n):=⟨by
 show(j5.range n).n.y (· < ·);rw[j5.toList_range]
 exact List.pairwise_lt_range,U⟩
def Ee(j:R):im.has #[] j=kt:=by
 rfl
def SetT.put{t:im}(h:SetT t)(J:t.slot j=.empty):SetT (t.put j).1:=by
 let p hd:=h;let b1 b2 b3:=A6 p j;let ne:t.place[RT t.place j]?≠Z j:=λz=>by
  unfold im.slot at J;simp!
 erw[15]
 .show(im.insertAt t.place (RT t.place j) j).n.y (· < ·);rw[im.toList_insertAt];let f:∀ a∈t.place.n.j (RT t.place j),a<j:=λa T=>by
   let i B:=Mp.mp T;let D:i<RT t.place j:=by
    let:=(Lm.mp B).1;rw[M9]at this;lia
   rw[List.getElem?_take,R5 D]at B;let:=b1 i D;rw[MQ]at B;rw[OR,B]at this;exact this
  let c:∀ b∈t.place.n.drop (RT t.place j),j<b:=λb M=>by
   let i B:=Mp.mp M;rw[PM,MQ]at B;let D:RT t.place j+i<t.place.J:=by
    let z _:=OS.mp B;exact z
   let Y:=b2 _ (Of _ i) D;rw[OR,B]at Y;let d:j<=b:=Y;obtain z|z:=Nat.lt_or_ge j b
   .exact z
   .let e:b=j:=by lia
    subst e;by_cases g:i=0
    .subst g;exact R7 B ne
    .let l:=b2 (RT t.place b) (Lq _) ∅
     let:=MV.mp p (RT t.place b) (RT t.place b+i) (by simp;lia) (by simpa using D) ∅
     let s u:=OS.mp B;let k:t.place.f (RT t.place b) b=t.place[RT t.place b]'∅:=by rw[OR,Nu];rfl
     rw[k]at l;simp only[j5.getElem_toList]at this;rw[u]at this;lia
  refine List.pairwise_append.mpr ⟨p.sublist (List.take_sublist _ _),NS.mpr ⟨c,p.sublist (List.drop_sublist _ _)⟩,λa T b M=>?_⟩;obtain z|z:=Lz.mp M
  .rw[z];exact f a T
  .exact NI (f a T) (c b z)
 .show(if im.has t.dummies j=kf then im.eraseAt t.dummies (RT t.dummies j) else t.dummies)=#[];rw[hd,Ee,R6 LZ]
def FX{t:im}{f:R->G}{h:G}(hd:t.dummies=#[]):∀(l:R)(p:im.Probe),p.dummy=k7->∀ j d,im.probe.go t f h l p=Z (.empty j d)->t.slot j=.empty/\d=k7:=by
 intro l;let u:∀ j,t.slot j≠.dummy:=λj z=>by
  unfold im.slot at z;rw[hd,Ee]at z;grind
 induction l with
 |zero=>intro p _ j d e;cases e
 |succ l O =>
  intro p g j d e;let a:(t.advance p).dummy=k7:=by
   unfold im.advance;split<;>exact g
  unfold im.probe.go at e;split at e
  .lia
  .simp!
  .split at e
   .cases e
   .exact O _ a j d e
def SetT.layNew{t:im}(h:SetT t)(es:j5 (G×eN))(l:G)(x:eN):SetT (layNew t es l x).2.1/\(layNew t es l x).2.1.led=t.led:=by
 unfold PySem.layNew;split
 .rename_i a b e;unfold im.freeSlot at e;split at e
  .rename_i j dm eg;let s u:=FX h.2 _ _ U j dm eg;subst u;let f:(j,kt)=(a,b):=Me e
   cases f
   dsimp only;unfold im.orStandIn;split
   .erw[h.put s,U]
   .erw[SetT.standIn _ _,U]
  .contradiction
 .erw[SetT.standIn _ _,U]
def yH(n:R)(g:R->io R):(((Mg n).filterMap λj=>(g j).h (j,·)).h (·.1)).y (· < ·):=by
 let:((Mg n).filterMap λj=>(g j).h (j,·)).h (·.1)=(Mg n).filter λj=>(g j).isSome:=by
  induction (Mg n) with
  |nil=>rfl
  |cons a l O =>
   cases e:g a with
   |none=>simp[e,O]
   |some b=>simp[e,O]
 rw[this];exact List.pairwise_lt_range.filter _
def SetT.relayAll(t:im)(es:j5 (G×eN))(a:R):SetT (relayAll t es a).2.1/\(relayAll t es a).2.1.led=t.led:=by
 unfold PySem.relayAll;split
 .rename_i d b e;dsimp only;split
  .unfold im.relaid im.laid at e
   cases w:im.layClean (im.sizeAbove a-1) (es.h (·.1)) with
   |none=>rw[w]at e;cases e
   |some c =>
    rw[w]at e
    cases e
    erw[⟨?_,U⟩,U];show(List.toArray _).n.y (· < ·);rw[List.toList_toArray];exact yH _ _
  .erw[SetT.standIn _ _,U]
 .erw[SetT.standIn _ _,U]
def qO(p:us.Perm vs):∀{ns:E G},Rk vs ns->∃ ms,Rk us ms/\ms.Perm ns:=by
 let go:∀{us vs:E eN},us.Perm vs->∀{ns:E G},Rk us ns->∃ ms,Rk vs ms/\ms.Perm ns:=by
  intro us vs p;induction p with
  |nil=>exact λh=>⟨_,h,.rfl⟩
  |cons x _ O =>
   intro ns h
   cases h with
   |cons n t h =>
    let ms Y L:=O h;erw[n::ms,.cons n t Y,L.cons n]
  |swap x y l =>
   intro ns h
   cases h with
   |cons n t h =>
    cases h with
    |cons k d h=>exact⟨k::n::_,.cons k d (.cons n t h),List.Perm.swap _ _ _⟩
  |trans _ _ a c =>
   intro ns h;let ms Y L:=a h;let b f B:=c Y;erw[b,f,B.Q L]
 exact λ{ns} h=>go p.Y h
def D1(h:Rk vs ns)(k:G)(t:Tok):Rk (vs++[.int k t]) (ns++[k]):=by
 induction h with
 |nil=>exact .cons k t .nil
 |cons n d _ O=>exact .cons n d O
def AM(h:Rk vs ns):(∀ v∈vs,∃ n t,v=.int n t/\n∈ns)/\∀ n∈ns,∃ t,eN.int n t∈vs:=by
 induction h with
 |nil=>simp
 |cons n t _ O =>
  erw[λv H=>?_,λm D=>?_]
  .obtain z|z:=Lz.mp H
   .erw[n,t,z,Ly ..]
   .let a b c d:=O.1 v z;erw[a,b,c,Lu _ d]
  .obtain z|z:=Lz.mp D
   .subst z;erw[t,Ly ..]
   .let b c:=O.2 m z;erw[b,Lu _ c]
def byT(w:ih):i0:=w.params.followText "set-order"
def SetG(P:ge)(w:ih)(h:fc)(a:e8)(l:E G):Prop:=∃ o v N t,h.R a=Z o/\o.ExactSet/\o.data=.set v N t/\ElemsOf (intKind P w) v.n/\(∃ b,Rk (v.n.h (·.2)) b/\b.Perm l)/\l.l/\v.J<scanBound/\t.fits v.J=kf/\SetT t/\t.led = !byT w
def SetG.keeps{l:E G}(g:SetG P w h a l)(k:∀ o,h.R a=Z o->h'.R a=Z o):SetG P w h' a l:=by
 let o v N t B u I f:=g;erw[o,v,N,t,k o B,u,I,f]
def addN(l:E G)(k:G):E G:=if k∈l then l else l++[k]
def Au{es es':j5 (G×eN)}{t t':im}{l:E G}(go:h.R a=Z o)(k:o.ExactSet)(T:o.data=.set es ep t)(x:ElemsOf (intKind P w) es'.n)(C:∃ ns,Rk (es'.n.h (·.2)) ns/\ns.Perm l)(nd:l.l)(sz:es'.J<scanBound)(f:t'.fits es'.J=kf)(tg:SetT t')(ld:t'.led = !byT w):
  SetG P w (h.update a (hr.putSet es' t')) a l/\∃ b,(h.update a (hr.putSet es' t')).R a=Z b/\b.ExactSet/\b.data=.set es' (ep+1) t':=by
 let Y:=Rh (hr.putSet es' t') go (by rw[putSet_of es' t' T];rfl)
 rw[putSet_of es' t' T]at Y;erw[⟨_,es',ep+1,t',Y,k,U,x,C,nd,sz,f,tg,ld⟩,_,Y,k,U]
section
variable{prog:ge}{w:ih}{A:Around}{eg:eN->e9->Prop}{s:e9}
def putInS{l:E G}{k:G}{tk:Tok}{Q:i0->e9->Prop}(g:SetG prog w s.H a l)(room:l.L+1<scanBound)(q:∀(b:i0)(h':fc),QL a s.H h'->SetG prog w h' a (addN l k)->Q b {s,h'}):li A (setAddHashed a (.int k tk) ((intKind prog w).hash k)) Q eg s:=by
 let o v ep t go gx gd el{ns ia pm}nd sz ft tg ld:=id g;let aX:(intKind prog w).is k (.int k tk)=kf:=intKind_is _ _ _ _;let len:v.J=l.L:=by
  let Y:∀{i:E eN}{ns:E G},Rk i ns->i.L=ns.L:=λh=>by
   induction h with
   |nil=>rfl
   |cons _ _ _ O=>simp[*]
  let:=Y ia;rw[Lp,L9,pm.length_eq]at this;exact this
 let gw:∀(b:i0){aa:e9}{Q':Unit->e9->Prop},Q' () aa->li A (match b with|true=>rule "set.scan.the-table-gave-way" | kt=>pure ()) Q' eg aa:=λb=>by
  intro J Q' y
  cases b
  .exact QV y
  .exact wpAny_rule y
 unfold setAddHashed setAddHashedIn;refine QT (QS (RU go gd ft ?_));dsimp only;rw[byScan_of (knd:=intKind prog w) U sz el];simp only[↓reduceIte];unfold setAddByScan;refine QS (QS (wpAny_rule (QS (wpAny_setScan_of (knd:=intKind prog w) aX go gd ft el ?_))))
 cases fr:List.findIdx? (λe=>(intKind prog w).is k e.2) v.n with
 |some j =>
  let jl jp _:=List.findIdx?_eq_some_iff_getElem.mp fr;let al:k∈l:=by
   let n t' C D:=(AM ia).1 _ (List.mem_map_of_mem (f:=(·.2)) (MT jl));let e3:(v.n[j]).2=.int n t':=C;rw[e3]at jp;let:k=n:=(intKind prog w).inj _ k n jp (intKind_is _ _ _ _);rw[this];exact pm.mem_iff.mp D
  refine QV (QV ?_);let e:addN l k=l:=R5 al;let:=q kt s.H (fc.SameBut.refl a s.H) (by rw[e];exact g)
  exact this
 |none =>
  let ap:k∉l:=λz=>by
   let t' m:=(AM ia).2 k (pm.mem_iff.mpr z);let e eK D:=LW.mp m;let:=List.findIdx?_eq_none_iff.mp fr e eK;rw[D,intKind_is]at this;lia
  let ea:addN l k=l++[k]:=R6 ap;let a0:(l++[k]).l:=LV.mpr ⟨nd,LF.mpr ⟨Ny,Nt⟩,λa T b M e=>ap (by rw[LY.mp M]at e;exact e▸T)⟩
  let I:=layNew_perm t v ((intKind prog w).hash k) (.int k tk);let H:=layNew_fits t v ((intKind prog w).hash k) (.int k tk);let p d:=tg.layNew v ((intKind prog w).hash k) (.int k tk);dsimp only;generalize layNew t v ((intKind prog w).hash k) (.int k tk)=N at I H p d ⊢;let ab t1 wd gv:=N;dsimp only at I H p d ⊢;rw[PX]at I;let a1:ElemsOf (intKind prog w) ab.n:=(el.o aX U).perm I;let a2:∃ ms,Rk (ab.n.h (·.2)) ms/\ms.Perm (l++[k]):=by
   let p2:=I.h (·.2);rw[LC]at p2;let ms Y L:=qO p2 (D1 ia k tk);erw[ms,Y,L.Q (pm.append_right _)]
  let aI:ab.J<scanBound:=by rw[← L9,I.length_eq,Lx,L9,len];exact room
  let ba:t1.led = !byT w:=d.Q ld;refine QS (gw _ ?_)
  let ae:∀ t2:im,t2.fits ab.J=kf->SetT t2->t2.led = !byT w->li A (do
    storeSet a ab t2
    if(!wd&&t2.tooFull)=kf then do
      (match(relayAll t2 ab (RV ab.J)).2.2 with|true=>rule "set.scan.the-table-gave-way" | kt=>pure ())
      storeSet a (relayAll t2 ab (RV ab.J)).1 (relayAll t2 ab (RV ab.J)).2.1
      pure (Z kf)
     else pure (Z kf)) (λr c=>∃ b:i0,r=Z b/\Q b c) eg s:=by
   intro t2 f2 g2 l2;let G1 o2 a3 bb a4:=Au (P:=prog) (w:=w) go gx gd a1 a2 a0 aI f2 g2 l2;let a5:=Rz s.H a (hr.putSet ab t2);refine QS (wpAny_storeSet_of go gd ?_ (fits_of_scanBound aI));split
   .let ac:=relayAll_perm t2 ab (RV ab.J)
    let aS:=relayAll_fits t2 ab (RV ab.J);let an am:=SetT.relayAll t2 ab (RV ab.J);generalize relayAll t2 ab (RV ab.J)=N2 at ac aS an am ⊢;let a6 t3 bg:=N2;dsimp only at ac aS an am ⊢;let be:∃ ms,Rk (a6.n.h (·.2)) ms/\ms.Perm (l++[k]):=by
     let m1 Y L:=a2;let ms u B:=qO (ac.h (·.2)) Y;erw[ms,u,B.Q L]
    let a7:a6.J<scanBound:=by rw[← L9,ac.length_eq,L9];exact aI
    refine QS (gw _ (QS (wpAny_storeSet_of a3 a4 ?_ (fits_of_scanBound a7))));let G2 _:=Au (P:=prog) (w:=w) a3 bb a4 (a1.perm ac) be a0 a7 aS an (am.Q l2);refine QV ⟨kf,U,?_⟩;exact q kf _ (a5.Q (Rz _ a _)) (by rw[ea];exact G2)
   .refine QV ⟨kf,U,?_⟩;exact q kf _ a5 (by rw[ea];exact G1)
  let all:=ae t1 H p ba
  let step:∀(r:io i0)(c:e9),(∃ b:i0,r=Z b/\Q b c)->li A (match r with
    |some aT=>pure aT
    |none=>setAddHashedIn a (eN.int k tk) ((intKind prog w).hash k) 99999) Q eg c:=λr c ⟨b,e,z⟩=>by
   subst e;exact QV z
  split
  .refine QS ?_;rw[hashByValue_scannable 8 (x:=eN.int k tk) U];refine QV ?_;exact QN all step λ_ _ z=>z
  .refine QS (QV ?_);exact QN all step λ_ _ z=>z
def A9(l:E G)(k:G):(addN l k).L<=l.L+1:=by
 unfold addN;split
 .lia
 .simp
def Fu{S:e8}{wr:E e8}{P:R->eN->Prop}{St:R->fc->Prop}(W:Walks prog w A.in1 I fp wr n P St)(x:S∉fp)(ns:E G)(eg:ns.L=n)(hv:∀ i v,P i v->∃ t,v=.int (ns.f i 0) t)(M:n+1<scanBound):
  ∀(r i:R)(h:fc)(tk:R)(l:E G),n-i=r->i<=n->St i h->SetG prog w h S l->l.L<=i ->
   (∀ h' a,(∀ b o,b≠S->b∉wr->h.R b=Z o->h'.R b=Z o)->SetG prog w h' S ((ns.drop i).foldl addN l)->ad (.ok (.ret .none)) {s with heap:=h',toks:=a}) ->
   Q7 (model prog w) A (.builtin "set.update.loop" ⟨[.ref S,.ref I],[]⟩) ad {s with heap:=h,toks:=tk}:=by
 let Q:S∉wr:=λz=>x (W.sub _ z);intro r;induction r with
 |zero =>
  intro i h tk l d B st g H C;let m:i=n:=by lia
  subst m;refine RI PyProof.Rows.F.entry_set_update_loop ?_;rw[RJ RW _];show wpAny _ A.in1 (pyNext (.ref I) >>= _) _ _ _;refine QS (W.done _ _ _ st λh' a y=>?_);show wpAny _ A.in1 (ret eN.none) _ _ _;refine QV (C h' a (λb o _ p e=>y b o p e) ?_);rw[List.drop_of_length_le ∅]
  exact g.keeps λo e=>y _ _ Q e
 |succ r O =>
  intro i h tk l d B st g H C;let D:i<n:=by lia
  refine RI PyProof.Rows.F.entry_set_update_loop ?_;rw[RJ RW _];show wpAny _ A.in1 (pyNext (.ref I) >>= _) _ _ _;refine QS (W.item i _ _ _ D st λv Y eK pv q N=>?_);let t rfl:=hv i v pv;let f:=g.keeps λo e=>N _ _ Q e;show wpAny _ A.in1 (holding [eN.int (ns.f i 0) t] (setAdd S (.int (ns.f i 0) t)) >>= _) _ _ _;refine QS (QT ?_);unfold setAdd;refine QT (QS ((intKind prog w).pyHash (k:=ns.f i 0) (intKind_is _ _ _ _) ?_));refine putInS (l:=l) f ∅ λb L c u=>?_
  let j:∀ b o,b≠S->Y.R b=Z o->L.R b=Z o:=λb o n e=>(c.2 b n).Q e;let J:ns.drop i=ns.f i 0::ns.drop (i+1):=by simp[*]
  refine QV ⟨RP RW _,O (i+1) _ _ (addN l (ns.f i 0)) ∅ D (W.frame _ _ _ q λb M o e=>j b o (λz=>x (z▸M)) e) u (by let:=A9 l (ns.f i 0);lia) λh' a y T=>?_⟩
  refine C h' a (λb o n p e=>y b o n p (j b o n (N b o p e))) ?_;rw[J,Qi];exact T
def yj(a:eN){Q₁:eN->e9->Prop}(h:Q₁ (.ref s.H.M.J) {s,s.H.o {cls:=.type "set",dict:=k7,data:=.set #[] 0 (.fresh 0 0 (!byT w))}}):
  Q7 (model prog w) A (.call (.builtin "set.__new__") ⟨[.type "set",a],[]⟩) (wants Q₁ eg) s:=by
 refine codeAny_of_tree ?_;show wpAny _ A.in1 (do checkBuiltinCall "set.__new__" ⟨[.type "set",a],[]⟩;again (.builtin "set.__new__" ⟨[.type "set",a],[]⟩)) _ _ s
 refine QS (wpAny_of_eq (PySem.F.newCall_set_1 a) (QV ⟨RP PySem.F.plain_set_new _,RI PySem.F.entry_set_new ?_⟩));rw[RJ PySem.F.plain_set_new _];unfold ii.«set.__new__» ii.Frozenset.newClass;let b:=PySem.sub_set_self;let g T n l os:=s;dsimp only;wp_walk;refine RY (QV ?_);dsimp only;simp only[newObj];exact QS (wpAny_alloc (QV (QV h)))
theorem fQ:∀{vs:E eN}{ns:E G},Rk vs ns->vs.L=ns.L/\∀(i:R)(v:eN),vs[i]?=Z v->∃ t,v=.int (ns.f i 0) t
 |_,_,.nil=>⟨U,λi v e=>by simp at e⟩
 |_,_,.cons n t r=>by
  let Y L:=fQ r;erw[by simp[*],λi v e=>?_]
  match i,e with
  |0,e=>cases e;erw[t,U]
  |i+1,e=>exact L i v e
abbrev newO(w:ih):hr:={cls:=.type "set",dict:=k7,data:=.set #[] 0 (.fresh 0 0 (!byT w))}
theorem newG(e:h.R a=Z (newO w)):SetG P w h a [] :=
 ⟨_,#[],0,_,e,⟨U,U,U⟩,U,λx J=>by simp at J,⟨[],.nil,.rfl⟩,Nt,∅,U,SetT.fresh _ _ _,U⟩
def xH{lst:e8}{its:j5 eN}(l:A.handled=k7)(hl:s.H.IsList lst its)(h:Rk its.n ns)(M:its.J+1<scanBound)(q:∀(h':fc)(tk:R),SetG prog w h' s.H.M.J (ns.foldl addN [])->(∀ b o,s.H.R b=Z o->h'.R b=Z o)->Q (.ref s.H.M.J) {s with heap:=h',toks:=tk}):
  li A (call (.type "set") [.ref lst]) Q eg s:=by
 let eK tl L:=PySem.F.called_set.mro;let al:=PySem.F.called_set.made;let ac:=PySem.F.called_set.sub;let D J:=fQ h;let aa:ns.L=its.J:=by simp!
 refine wpAny_call (codeAny_of_tree ?_);show wpAny _ _ (callAny (.type "set") _) _ _ _;refine QV ⟨Code.quiet_builtin _ ∅,RI PySem.F.entry_type_call ?_⟩
 rw[Around.under_plain (weight_type_call_type "set" [.ref lst] []) U];let f:=PySem.F.called_set.notType;let I:=PySem.F.called_set.canCreate;let j:=PySem.F.typeCall_set_1 (.ref lst);repeat (any_goals (first|assumption|wp_step))
 refine Rb (yj (.ref lst) (eg:=eg) (Q₁:=λt C=>t=.ref s.H.M.J/\C={s,s.H.o (newO w)}) ⟨U,U⟩) λr C N=>?_
 cases r with
 |error e=>exact N
 |ok B =>
  cases B with
  |next=>exact N.elim
  |brk=>exact N.elim
  |cont=>exact N.elim
  |ret t =>
   let rfl rfl:=N;let O:(s.H.o (newO w)).R s.H.M.J=Z (newO w):=QX _ U;let m:e9.TypeIs {s,s.H.o (newO w)} (.ref s.H.M.J) "set":=⟨_,O,U⟩;let g:=PySem.F.called_set.init.lookup;let x:=PySem.F.called_set.init.bind (.ref s.H.M.J);repeat (any_goals (first|assumption|wp_step))
   refine Rb (codeAny_call_builtin (R:=wants (λr k=>r=.none/\∃ h' tk,k={s with heap:=h',toks:=tk}/\SetG prog w h' s.H.M.J (ns.foldl addN [])/\∀ b o,s.H.R b=Z o->h'.R b=Z o) eg) PySem.F.called_set.init.plain PySem.F.entry_set_init (check_set_init_1 m ?_)) λae k n=>?_
   .let H go gc Y T:=hl;let c0 p ap d:=H;simp only at gc T;subst gc;subst T;let am:(s.H.o (newO w)).R lst=Z {cls:=.type "list",dict:=p,data:=.seq its Y,slots:=d}:=QW _ go;let f6:=PySem.F.sub_list_set;let f7:=PySem.F.sub_list_frozenset;let f8:(eN.type "list" == eN.type "dict")=kt:=by decide
    let u:(s.H.o (newO w)).IsList lst its:=⟨_,am,U,Y,U⟩;unfold ii.«set.__init__» noKeywords ii.Frozenset.updateFrom;generalize eP:pyIter=PI;wp_walk;subst eP;refine wpAny_pyIter_list u (QS (wpAny_runValue ?_));let lS:lst<s.H.M.J:=QH go;let nI:lst≠(s.H.o (newO w)).M.J:=by rw[Q8];exact LQ (Nj lS)
    let nS:s.H.M.J∉[(s.H.o (newO w)).M.J,lst]:=by
     rw[Q8];intro z;obtain z|z:=Lz.mp z
     .exact R7 z (LQ (Nl _))
     .rw[LY]at z;exact R7 z.Y (LQ lS)
    let an:A.in1.in1.in1.handled=k7:=by simp[l]
    refine Fu (s:=s) (Walks.list an _ lst nI its) nS ns aa (λi v pv=>J i v (by rw[MQ];exact pv)) M its.J 0 _ s.v [] ∅ (Mh _) ⟨⟨_,QX _ U,U,U⟩,u.o _⟩ (newG (QW _ O)) (Lq _) λh' a y gg=>?_
    refine QV ?_;show wpAny _ _ (ret eN.none) _ _ _;refine QV ⟨U,h',a,U,gg,λb o e=>?_⟩;let bl:=QH e;refine y b o (LQ bl) (λz=>?_) (QW _ (QW _ e));rw[LY,Q8]at z;exact R7 z (LQ (Nj bl))
   .cases ae with
    |error e=>exact n
    |ok ab =>
     cases ab with
     |next=>exact n.elim
     |brk=>exact n.elim
     |cont=>exact n.elim
     |ret r =>
      let rfl h' tk rfl g' c:=n;repeat (any_goals (first|assumption|wp_step))
      exact q _ _ g' c
end
def bt_set:QJ "set"=Z (.type "set"):=by rfl
theorem y9:entryFor table "set.__iter__"=Z ii.«frozenset.__iter__»:=entryFor_alias (id':="frozenset.__iter__") (by kernel_rfl) U ∅ (by kernel_rfl)
theorem dQ:Slot "set_iterator" "__next__" "set_iterator.__next__" :=
 Slot.of (owner:="set_iterator") (n:="__next__") (by rfl) (by rfl) (by rfl) ∅ (by first|exact .inl (by rfl)|exact .inr ∅) (by rfl)
theorem r8:entryFor table "set_iterator.__next__"=Z ii.«set_iterator.__next__»:=entryFor_of_tree (by kernel_rfl)
def ow_si:Manifest.owners.lookup (String.ofList ['r','o','t','a','r','e','t','i','_','t','e','s'].x)=Z Manifest.sig_set_iterator:=by kernel_rfl
def sG(a:eN):argsOk "set_iterator.__next__" ⟨[a],[]⟩:=by
 unfold argsOk;rw[signature?_of (id:="set_iterator.__next__") (n:=['_','_','t','x','e','n','_','_']) (o:=['r','o','t','a','r','e','t','i','_','t','e','s']) (by kernel_rfl) ow_si]
 kernel_rfl
theorem rQ:Slot "set_iterator" "__iter__" "set_iterator.__iter__" :=
 Slot.of (owner:="set_iterator") (n:="__iter__") (by rfl) (by rfl) (by rfl) (by rfl) (by first|exact .inl (by rfl)|exact .inr ∅) (by rfl)
theorem BJ:entryFor table "set_iterator.__iter__"=Z ii.«dict_keyiterator.__iter__»:=entryFor_alias (id':="dict_keyiterator.__iter__") (by kernel_rfl) U ∅ (by kernel_rfl)
def Cc(a:eN):argsOk "set_iterator.__iter__" ⟨[a],[]⟩:=by
 unfold argsOk;rw[signature?_of (id:="set_iterator.__iter__") (n:=['_','_','r','e','t','i','_','_']) (o:=['r','o','t','a','r','e','t','i','_','t','e','s']) (by kernel_rfl) ow_si]
 kernel_rfl
theorem y7{α:Type}:∀{l:E α}{i:R}(h:i<l.L),(l[i]::l.eraseIdx i).Perm l
 |x::l,0,_=>List.Perm.refl _
 |x::l,i+1,h=>by
  let O:=y7 (l:=l) (i:=i) (by simpa using h)
  show(l[i]'(by simpa using h)::x::l.eraseIdx i).Perm (x::l)
  exact(List.Perm.swap x _ _).Q (O.cons x)
theorem De{α:Type}(next:R->R):∀(l k:R)(left:E α)(out:j5 α),left.L=l->(pickOrder.go next l k left out).n.Perm (out.n++left)
 |0,k,left,out,h=>by
  let:left=[]:=Om.mp h;subst this;unfold pickOrder.go;rw[OP]
 |l+1,k,left,out,h=>by
  let d:next k%left.L<left.L:=OJ _ ∅
  unfold pickOrder.go;rw[Ll d];dsimp only;refine(De next l (k+1) _ _ (by rw[Qk d];lia)).Q ?_
  rw[PX,Oy];refine List.Perm.append_left _ ?_;exact y7 d
def vH(next:R->R)(xs:j5 α):(pickOrder next xs).n.Perm xs.n:=by
 let:=De next xs.J 0 xs.n #[] (by simp)
 assumption
section
variable{prog:ge}{w:ih}{A:Around}{eg:eN->e9->Prop}{s:e9}
theorem B3{a:Source}{Q:R->e9->Prop}(N:n≠0)(h:∀ i d,i<n->Q i {s with drawn:=d}):li A (choose a n) Q eg s:=λ_ _ _=>⟨N,h _ _ (OJ _ (Nat.pos_of_ne_zero N))⟩
theorem AW{α:Type}:∀(n:R)(xs:E α)(s:e9)(Q:E α->e9->Prop),xs.L=n->(∀ ys d,ys.Perm xs->Q ys {s with drawn:=d})->li A (drawOrder n xs) Q eg s
 |0,xs,s,Q,h,q=>by
  let:xs=[]:=Om.mp h;subst this;unfold drawOrder;exact QV (q [] s.drawn .rfl)
 |n+1,[],s,Q,h,q=>by cases h
 |n+1,x::xs,s,Q,h,q=>by
  unfold drawOrder;refine QS (B3 (by simp) λi d B=>?_)
  rw[Ll B];dsimp only;refine QS (AW n _ _ _ (by rw[Qk B];simp at h ⊢;lia) λys t p=>QV ?_)
  exact q _ t ((p.cons _).Q (y7 B))
end
def slA(t:im)(i:R):R:=if i=0 then 0 else t.place.f (i-1) 0+1
def ItAt(P:ge)(w:ih)(h:fc)(I a tp:e8)(ord:E G)(i:R):Prop:=∃ o v l t first L,h.R a=Z o/\o.ExactSet/\o.data=.set v l t/\t.fits v.J=kf/\SetT t/\t.led = !byT w /\
 h.R I=Z {cls:=.type "set_iterator",data:=.fields #[first,rawInt (i:G),.ref a,rawInt (v.J:G),rawInt (l:G)]}/\Rk L ord/\L.L=v.J /\
 ((byT w=kf/\(∃ z:R,first=rawInt (z:G))/\L=(pickOrder (w.params.setOrder a l) v).n.h (·.2)) ∨
  (byT w=kt/\(!t.plain&&decide (v.J > 1))=kt/\first=rawInt (slA t i:G)/\L=v.n.h (·.2)) ∨
  (byT w=kt/\∃(D:E R)(m:hr)(c:R),first=.ref tp/\tp≠I/\tp≠a/\h.R tp=Z m/\m.data=.seq (D.h λp:R=>rawInt (p:G)).toArray c/\D.L=v.J/\∀(j p:R),D[j]?=Z p->∃ x,v[p]?=Z x/\L[j]?=Z x.2))
section
variable{prog:ge}{w:ih}{A:Around}{eg:eN->e9->Prop}{s:e9}
def wy{es:j5 (G×eN)}{l:E G}(C:Rk (es.n.h (·.2)) ns)(M:ns.Perm l){ys:E (G×eN)}(p:ys.Perm es.n):∃ ms,Rk (ys.h (·.2)) ms/\ms.Perm l:=by
 let ms Y L:=qO (p.h (·.2)) C;erw[ms,Y,L.Q M]
def FP{l:E G}(g:SetG prog w s.H a l)(q:∀(I tp:e8)(h':fc)(d:_)(ord:E G),(∀ b o,s.H.R b=Z o->h'.R b=Z o)->s.H.M.J<=I->I<h'.M.J->s.H.M.J<=tp->tp<h'.M.J->ord.Perm l->ItAt prog w h' I a tp ord 0->Q (.ref I) {s with heap:=h',drawn:=d}):
  li A (pyIter (.ref a)) Q eg s:=by
 let o v N t go k T x{eK C M}u sz f tg ld:=id g;let m:s.TypeIs (.ref a) "set":=⟨o,go,k.1⟩;let al:a<s.H.M.J:=QH go;let aa:=(fQ C).1;let c:v.J<=QG:=LN (NI sz ∅)
 refine wpAny_pyIter_slot m PySem.F.slot_set_iter (Rv PySem.F.slot_set_iter m y9 ?_ (PySem.F.args_set_iter_1 _));unfold ii.«frozenset.__iter__» ii.Frozenset.slot0 slotArgs;simp -iota only[P9,O7,Nf,↓reduceIte,bind_assoc,NY,bne_self_eq_false];unfold ii.Frozenset.addrOf ii.Frozenset.sizeOf;refine QS (QV ?_);try dsimp only
 refine QS (QV (QS (QS (wpAny_setEntries_of go T f (QV ?_)))));unfold setDrawn setsByText;refine QS (QS (RU go T f ?_));dsimp only;refine QS (QS (RY (QV (QV ?_))));let n0:∀ I:e8,s.H.M.J<=I->a≠I:=λI hI z=>R7 al (by simp[*])
 split
 .rename_i ab;let D:(!byT w&&(!t.plain&&decide (v.J > 1)))=kf:=ab;let bt:byT w=kt:=by
   cases y:byT w with
   |false=>rfl
   |true=>rw[y]at D;cases D
  refine QS (AW v.J (Mg v.J) _ _ Na λO d p=>?_);let r:O.L=v.J:=by rw[p.length_eq,Na]
  refine QS (wpAny_newTuple ?_ (by simp[*]))
  unfold setEpoch;let B:(s.H.o {cls:=.type "tuple",data:=.seq (O.h λi:R=>rawInt (i:G)).toArray}).R a=Z o:=QW _ go;refine QS (QS (RU B T f (QV ?_)));unfold newFields;refine QS (Ru ?_ (by size_fits))
  let em:(Mg v.J).h (λj=>v.f j (0,eN.none))=v.n:=by
   refine Qa (by simp) λj Y L=>?_
   let J:j<v.J:=by lia
   simp[PY,J]
  let pv:(O.h λj=>v.f j (0,eN.none)).Perm v.n:=by
   rw[← em];exact p.h _
  let ms H i2:=wy C M pv;refine QV ⟨_,U,"set_iterator",_,⟨_,QX _ U,U⟩,dQ.Z,?_⟩;refine q _ s.H.M.J _ d ms (λb o e=>QW _ (QW _ e)) (by simp) (QH (QX _ U)) (Lq _) (by rw[Q8,Q8];exact Nj (Nl _)) i2 ?_
  erw[o,v,N,t,_,(O.h λj=>v.f j (0,eN.none)).h (·.2),QW _ B,k,T,f,tg,ld,QX _ U,H,by rw[Lp,Lp,r],.inr (.inr ⟨bt,O,_,_,U,?_,MZ al,QW _ (QX _ U),U,r,λj h J=>?_⟩)]
  .simp
  .let n:h<v.J:=Mz.mp (p.mem_iff.mp (Ln J))
   erw[v[h],Nu n,3];simp[*]
 .rename_i ab;let D:¬ (!byT w&&(!t.plain&&decide (v.J > 1)))=kf:=ab;refine QS (QV ?_);unfold setEpoch;refine QS (QS (RU go T f (QV ?_)));unfold newFields;refine QS (Ru ?_ (by size_fits))
  refine QV ⟨_,U,"set_iterator",_,⟨_,QX _ U,U⟩,dQ.Z,?_⟩
  cases bt:byT w with
  |true =>
   let ms H i2:=wy C M (vH (w.params.setOrder a N) v);refine q _ s.H.M.J _ s.drawn ms (λb o e=>QW _ e) (Lq _) (by simp) (Lq _) (by simp) i2 ?_
   erw[o,v,N,t,5,QW _ go,k,T,f,tg,ld,QX _ U,H,by rw[Lp,(vH _ _).length_eq,L9],.inl ⟨bt,⟨0,U⟩,U⟩]
  |false =>
   rw[bt]at D;let c2:(!t.plain&&decide (v.J > 1))=kt:=by
    cases y:(!t.plain&&decide (v.J > 1)) with
    |false=>rfl
    |true=>contradiction
   refine q _ s.H.M.J _ s.drawn eK (λb o e=>QW _ e) (Lq _) (by simp) (Lq _) (by simp) M ?_
   erw[o,v,N,t,5,QW _ go,k,T,f,tg,ld,QX _ U,C,by simp,.inr (.inl ⟨bt,c2,U,U⟩)]
def wD{t:im}(h:t.fits n=kf):t.place.J=n:=by
 unfold im.fits at h;rw[OE]at h;exact eq_of_beq h.1
def xk{t:im}(tg:SetT t)(hi:i<=t.place.J):RT t.place (slA t i)=i:=by
 let b1 b2 b3:=A6 tg.1 (slA t i);let up:∀ a b,a<b->b<t.place.J->t.place.f a (slA t i)<t.place.f b (slA t i):=λa b m M=>by
  let T:a<t.place.J:=NI m M;let:=MV.mp tg.1 a b ∅ ∅ m
  simp!
 let d:∀ k,i=k+1->slA t i=t.place.f k (slA t i)+1:=λk e=>by
  let eK:k<t.place.J:=by lia
  let C:slA t i=t.place.f k 0+1:=by
   unfold slA;rw[R6 ∅,e,PJ]
  let eg:t.place.f k 0=t.place.f k (slA t i):=by simp[PY,eK]
  rw[← eg];exact C
 generalize M:RT t.place (slA t i)=b at b1 b2 b3;obtain z|z|z:=Nat.lt_trichotomy b i
 .let k rfl:∃ k,i=k+1:=⟨i-1,∅⟩
  let Y:=b2 b (Lq _) ∅
  let L:=d k U;by_cases e:b=k
  .subst e;lia
  .let:=up b k ∅ ∅
   lia
 .exact z
 .let Y:=b1 i z
  cases i with
  |zero=>have e:slA t 0=0:=rfl;rw[e]at Y;lia
  |succ k =>
   let L:=d k U;let:=up k (k+1) ∅ ∅
   lia
theorem Av{Y h2:fc}(x:QL I h Y)(y:QL I Y h2):QL I h h2:=⟨y.1.Q x.1,λb M=>(y.2 b M).Q (x.2 b M)⟩
def KG{n:G}{Q:io eN->e9->Prop}(h:ItAt prog w s.H I a tp ord i)(N:ord[i]?=Z n)(aI:a≠I)(q:∀(t:Tok)(h':fc),ItAt prog w h' I a tp ord (i+1)->QL I s.H h'->Q (Z (.int n t)) {s,h'}):li A (pyNext (.ref I)) Q eg s:=by
 let o es l t first M go k T f tg ld O C y md:=h;let m:s.TypeIs (.ref I) "set_iterator":=⟨_,O,U⟩;unfold pyNext;refine QS (wpAny_attempt (Rx (name:=ff.ofString "__next__") m dQ (Rv dQ m r8 ?_ (sG _))));unfold ii.«set_iterator.__next__» slotArgs;simp -iota only[P9,O7,Nf,↓reduceIte,bind_assoc,NY,bne_self_eq_false];refine QS (QV ?_);try dsimp only
 refine QS (wpAny_fieldsOf O U ?_);dsimp only[rawInt];refine QS (wpAny_setEntries_of go T f ?_);rw[R6 (by simp)]
 let v:i<ord.L:=(Lm.mp N).1;let ol:=(fQ C).1;let ac:i<M.L:=by lia
 let tk H:∃ tk,M[i]?=Z (.int n tk):=by
  let tk e:=(fQ C).2 i _ (Ll ac);erw[tk,3];rw[Ll ac,e,LB,N];rfl
 let am:=wD f;let ci:((i:G)+1)=((i+1:R):G):=by lia
 rcases md with⟨bt,⟨z,rfl⟩,rfl⟩|⟨bt,dr,rfl,rfl⟩|⟨bt,D,ot,c,rfl,tI,d,gt,ab,al,p⟩
 .dsimp only[rawInt];unfold setNext setsByText setWalk setsByText;refine QS (QS (RU go T f ?_));dsimp only;refine QS (QS (RY (QV ?_)));let r:w.params.followText "set-order"=kf:=bt;rw[show(Setting.params ⟨(model prog w).e,(model prog w).w.params⟩).followText "set-order"=kf from r,R5 U,R6 (by simp)]
  refine QS (QS (RU go T f ?_));dsimp only;refine QS (QS (RY (QV ?_)));rw[show(Setting.params ⟨(model prog w).e,(model prog w).w.params⟩).followText "set-order"=kf from r,R5 U];refine QS (RY (QV (QV ?_)));let g:(pickOrder (w.params.setOrder a l) es)[i]?.map (·.2)=Z (.int n tk):=by rw[← MQ,← LA];exact H
  let x J b:=LL.mp g;rw[Lv,Lv,show(pickOrder ((Setting.params ⟨(model prog w).e,(model prog w).w.params⟩).setOrder a l) es)[i]?=Z x from J];dsimp only[io.map];refine QS (RB O (by simp) λY B j=>?_)
  refine QS (RB (s:={s,Y}) B (by simp) λL u eK=>?_)
  let sb:=Av j eK;rw[b];refine QV ⟨_,U,QV (q tk L ?_ sb)⟩;erw[o,es,l,t,5,(sb.2 a aI).Q go,k,T,f,tg,ld,u.Q ?_,C,y,.inl ⟨bt,⟨z,U⟩,U⟩];rw[ci];rfl
 .dsimp only[rawInt];unfold setNext setsByText;refine QS (QS (RU go T f ?_));dsimp only;refine QS (QS (RY (QV ?_)));let r:w.params.followText "set-order"=kt:=bt;rw[show(Setting.params ⟨(model prog w).e,(model prog w).w.params⟩).followText "set-order"=kt from r,R6 (by simp)]
  refine Rp (λc=>R7 (show(!t.plain&&decide (es.J > 1))=kf from c) (by rw[dr];simp)) λ_=>?_
  let aa:t.led=kf:=by rw[ld,bt];rfl
  refine QS ?_;show wpAny _ _ (if(!t.led&&!es.isEmpty)=kf then _ else _) _ _ _;rw[aa];refine QV (QV ?_);rw[Lv,xk tg ∅]
  let ie:i<es.J:=by lia
  let ip:i<t.place.J:=by lia
  let b:es[i].2=.int n tk:=by simp!
  rw[Nu ie,Nu ip];dsimp only;refine QS (RB O (by simp) λY B j=>?_)
  refine QS (RB (s:={s,Y}) B (by simp) λL u eK=>?_)
  let sb:=Av j eK;rw[b];refine QV ⟨_,U,QV (q tk L ?_ sb)⟩;erw[o,es,l,t,5,(sb.2 a aI).Q go,k,T,f,tg,ld,u.Q ?_,C,y,.inr (.inl ⟨bt,dr,U,U⟩)];let es:slA t (i+1)=t.place[i]+1:=by
   unfold slA;rw[R6 ∅,PJ]
   simp[PY,ip]
  rw[ci,es];rfl
 .dsimp only[rawInt];refine QS (RK gt ab ?_);dsimp only;let ip:i<D.L:=by lia
  let x J ae:=p i _ (Ll ip);let b:x.2=.int n tk:=Me (ae.Y.Q H);rw[Lv,List.getElem?_toArray,LA,Ll ip];dsimp only[io.map,rawInt];unfold setNextDrawn;refine QS (QS (RU go T f ?_));dsimp only;rw[Lv,Lv,R6 (by simp),J]
  refine QV ?_;refine QS (RB O (by simp) λY B j=>?_)
  rw[b];refine QV ⟨_,U,QV (q tk Y ?_ j)⟩;erw[o,es,l,t,_,M,(j.2 a aI).Q go,k,T,f,tg,ld,B.Q ?_,C,y,.inr (.inr ⟨bt,D,ot,c,U,tI,d,(j.2 tp tI).Q gt,ab,al,p⟩)];rw[ci];rfl
def xB{k:R}{Q:io eN->e9->Prop}{vs:j5 eN}(l:A.handled=k7)(O:s.H.R I=Z {cls:=.type "set_iterator",data:=.fields vs})(eK:k<vs.J)(q:∀(h':fc),fc.ExtBut I s.H h'->Q k7 {s,h'}):
  li A.in1 (setField (.ref I) k .none >>= λ_=>newExc (.type "StopIteration") [] >>= λe=>raiseNew e) (λ(C:Fin) s'=>∃ v,C=Fin.done (Flow.ret v)/\li A (pure (Z v)) Q eg s')
  (λe s'=>li A (do if ← isInstance e (.type "StopIteration") then pure k7 else throw e) Q eg s') s:=by
 refine QS (wpAny_setField O U eK ?_);refine QS ?_;simp only[newExc,newTuple];refine QS (Ru ?_ (by size_fits))
 refine QS (m:=firstArgMember _ _) (wpAny_of_eq (a:=eN.none) (by rfl) ?_)
 refine Ru ?_ (by size_fits)
 simp -iota only[raiseNew];refine QS (wpAny_handled ?_);rw[show A.in1.handled=k7 from l];refine QS (QV (wpAny_throw ?_));refine QS (Rq (T:="StopIteration") (b:=kf) ⟨_,QX _ U,U⟩ isSubtype_stop ?_);exact QV (q _ (((Rz ..).X.o _).o _))
def KH{Q:io eN->e9->Prop}(eK:A.handled=k7)(h:ItAt prog w s.H I a tp ord i)(N:i=ord.L)(u:a≠I)(q:∀(h':fc),fc.ExtBut I s.H h'->Q k7 {s,h'}):li A (pyNext (.ref I)) Q eg s:=by
 let o es l t first L go k T f tg ld O C y H:=h;let m:s.TypeIs (.ref I) "set_iterator":=⟨_,O,U⟩;unfold pyNext;refine QS (wpAny_attempt (Rx (name:=ff.ofString "__next__") m dQ (Rv dQ m r8 ?_ (sG _))));unfold ii.«set_iterator.__next__» slotArgs;simp -iota only[P9,O7,Nf,↓reduceIte,bind_assoc,NY,bne_self_eq_false];refine QS (QV ?_);try dsimp only
 refine QS (wpAny_fieldsOf O U ?_);dsimp only[rawInt];refine QS (wpAny_setEntries_of go T f ?_);rw[R6 (by simp)]
 let v:=(fQ C).1;let aa:i=L.L:=by lia
 let ac:=wD f;rcases H with⟨bt,⟨z,rfl⟩,rfl⟩|⟨bt,dr,rfl,rfl⟩|⟨bt,D,ot,c,rfl,tI,d,gt,n,ab,p⟩
 .dsimp only[rawInt];unfold setNext setsByText setWalk setsByText;refine QS (QS (RU go T f ?_));dsimp only;refine QS (QS (RY (QV ?_)));let r:w.params.followText "set-order"=kf:=bt;rw[show(Setting.params ⟨(model prog w).e,(model prog w).w.params⟩).followText "set-order"=kf from r,R5 U,R6 (by simp)]
  refine QS (QS (RU go T f ?_));dsimp only;refine QS (QS (RY (QV ?_)));rw[show(Setting.params ⟨(model prog w).e,(model prog w).w.params⟩).followText "set-order"=kf from r,R5 U];refine QS (RY (QV (QV ?_)));let J:(pickOrder (w.params.setOrder a l) es)[i]?=k7:=by simp!
  rw[Lv,Lv,show(pickOrder ((Setting.params ⟨(model prog w).e,(model prog w).w.params⟩).setOrder a l) es)[i]?=k7 from J];exact xB eK O (by simp) q
 .dsimp only[rawInt];unfold setNext setsByText;refine QS (QS (RU go T f ?_));dsimp only;refine QS (QS (RY (QV ?_)));let r:w.params.followText "set-order"=kt:=bt;rw[show(Setting.params ⟨(model prog w).e,(model prog w).w.params⟩).followText "set-order"=kt from r,R6 (by simp)]
  refine Rp (λc=>R7 (show(!t.plain&&decide (es.J > 1))=kf from c) (by rw[dr];simp)) λ_=>?_
  let g:t.led=kf:=by rw[ld,bt];rfl
  refine QS ?_;show wpAny _ _ (if(!t.led&&!es.isEmpty)=kf then _ else _) _ _ _;rw[g];refine QV (QV ?_);let ie:i=es.J:=by lia
  rw[Lv,xk tg ∅]
  rw[j5.getElem?_eq_none (by lia:es.J<=i),j5.getElem?_eq_none (by lia:t.place.J<=i)]
  exact xB eK O (by simp) q
 .dsimp only[rawInt];refine QS (RK gt n ?_);dsimp only;let ip:D.L<=i:=by lia
  rw[Lv,List.getElem?_toArray,LA,MI ip];dsimp only[io.map];refine QS (RB O (by simp) λY B j=>?_)
  exact xB (s:={s,Y}) eK B (by simp) λh' x=>q h' λb o M e=>x b o M ((j.2 b M).Q e)
def DW(x:ItAt prog w h I a tp ord i)(k:∀ b∈[I,a,tp],∀ o,h.R b=Z o->h'.R b=Z o):ItAt prog w h' I a tp ord i:=by
 let o v l t first L go j T f tg ld O C y H:=x;erw[o,v,l,t,first,L,k a (by simp) _ go,j,T,f,tg,ld,k I (by simp) _ O,C,y,3]
 obtain z|z|⟨bt,D,m,c,e,q,d,n,r,p,g⟩:=H
 .exact .inl z
 .exact .inr (.inl z)
 .exact .inr (.inr ⟨bt,D,m,c,e,q,d,k tp (by simp) _ n,r,p,g⟩)
theorem G0(m:A.handled=k7)(I a tp:e8)(u:a≠I)(ord:E G):Walks prog w A I [I,a,tp] [I] ord.L (λi v=>∃ t n,ord[i]?=Z n/\v=.int n t) (λi h=>ItAt prog w h I a tp ord i) where
 sub:=λb M=>by simp!
 frame:=λ_ _ _ st eK=>DW st eK
 item:=λi s Q eg B st g=>by
  refine KG st (Ll B) u λt N p j=>?_;exact g _ N s.v ⟨t,_,Ll B,U⟩ p λb o M e=>j.X b o (λh=>M (by simp[h])) e
 done:=λs Q eg st g=>KH m st U u λN c=>g N s.v λb o M e=>c b o (λh=>M (by simp[h])) e
 self:=λ_ s Q _ st h=>by
  let o D l t first L go k T f tg ld d C y H:=st;let O:s.TypeIs (.ref I) "set_iterator":=⟨_,d,U⟩;refine wpAny_pyIter_slot O rQ (Rv rQ O BJ ?_ (Cc _));show wpAny _ _ (ret (.ref I)) _ _ s;exact QV ⟨_,U,"set_iterator",_,O,dQ.Z,h⟩
def G4{r:e8}{Q:i0->e9->Prop}(O:s.TypeIs (.ref r) "set")(h:Q kt s):li A (Ro (.ref r)) Q eg s:=by
 unfold Ro;refine QS (Rm O PySem.F.slot_set_len.lookup ?_);generalize a:("set.__len__" : String)=c;wp_delta;rw[show splitId c=Z ("set","__len__") from by subst a;rfl]
 subst a;refine QS (Rq (T:="set") (b:=kf) O (by rfl) ?_)
 refine Rp (λm=>R7 m ∅) (λ_=>?_)
 refine Rp (λ_=>?_) (λm=>R7 (by rfl) m)
 refine QS (wpAny_typeOf O ?_);exact QV h
def SetG.len{l:E G}(g:SetG prog w h a l):l.L<scanBound:=by
 let o v N t go k T x{b C M}u sz f tg ld:=g;let:=(fQ C).1;rw[Lp,L9,M.length_eq]at this;lia
def SetG.typ{l:E G}(g:SetG prog w s.H a l):s.TypeIs (.ref a) "set":=by
 let o v N t go k r:=g;erw[o,go,k.1]
def SetG.lt{l:E G}(g:SetG prog w h a l):a<h.M.J:=by
 let o v N t go k r:=g;exact QH go
def zR{l:E G}{Q:E eN->e9->Prop}(hh:A.handled=k7)(g:SetG prog w s.H a l)(h:∀(h':fc)(tk:R)(d:Drawn)(y:j5 eN)(ord:E G),(∀ b o,s.H.R b=Z o->h'.R b=Z o)->s.H.M.J<h'.M.J->ord.Perm l->ItemsOf (λi v=>∃ t n,ord[i]?=Z n/\v=.int n t) y ord.L->Q y.n {s with heap:=h',toks:=tk,drawn:=d}):li A (collect (.ref a)) Q eg s:=by
 unfold collect;refine QS (wpAny_runValue (RI entry_proto_collect' ?_));show wpAny _ _ (do again (.builtin "list.__iadd__" ⟨[← newList [],.ref a],[]⟩)) _ _ s
 refine QS (RG (QV ⟨Code.quiet_builtin _ ∅,RI entry_list_iadd' ?_⟩))
 rw[RJ PySem.F.plain_list_iadd _];show wpAny _ A.in1 (RZ (.ref s.H.M.J) (.ref a) (.ref s.H.M.J)) _ _ {s,s.H.o (RE "list" #[] 0)};let B:SetG prog w (s.H.o (RE "list" #[] 0)) a l:=g.keeps λo e=>QW _ e;let aS:s.H.M.J≠a:=MZ g.lt;let x:(s.H.o (RE "list" #[] 0)).R s.H.M.J=Z {cls:=.type "list",data:=.seq #[] 0}:=QX _ U;unfold RZ;refine QS (wpAny_typeOf (T:="set") B.typ ?_);let Y:R0 (.ref s.H.M.J) (.ref a)=kt:=by simp[R0,aS]
 simp only[Y,show(eN.type "set" == eN.type "list")=kt by decide,show(eN.type "set" == eN.type "tuple")=kt by decide,QE,Nf,if_false]
 refine QS (FP B λI tp L d ord H lI sI lt st pm it=>?_);let q:(s.H.o (RE "list" #[] 0)).M.J=s.H.M.J+1:=Q8 ..;rw[q]at lI lt;let SI:s.H.M.J≠I:=LQ lI;let ST:s.H.M.J≠tp:=LQ lt;let aI:a≠I:=LQ (NI g.lt lI);let ap:s.H.M.J∉[I,a,tp]:=by simp[*]
 let N:ord.L<=QG:=by
  rw[pm.length_eq];exact LN (NI g.len ∅)
 let u:∀(f:fc)(am tk:R),ItAt prog w f I a tp ord 0->(∀ b o,b≠s.H.M.J->L.R b=Z o->f.R b=Z o) ->
   f.R s.H.M.J=Z {cls:=.type "list",data:=.seq #[] am}->Q7 (model prog w) A (.builtin "list.extend.loop" ⟨[.ref s.H.M.J,.ref I,.ref s.H.M.J],[]⟩) (λr m=>∃ h' tk d c j,r=.ok (.ret (.ref s.H.M.J))/\m={s with heap:=h',toks:=tk,drawn:=d}/\(∀ b o,s.H.R b=Z o->h'.R b=Z o)/\h'.R s.H.M.J=Z {cls:=.type "list",dict:=k7,data:=.seq c j,slots:=#[]}/\ItemsOf (λi v=>∃ t n,ord[i]?=Z n/\v=.int n t) c ord.L) {s with heap:=f,toks:=tk,drawn:=d}:=by
  intro f am tk ab eK ac;refine codeAny_extend_loopS (G0 (A:=A.in1) hh I a tp aI ord).toS N _ ap _ ord.L 0 _ #[] am U (Mh _) ab ac (ItemsOf.nil _) λm c j p al aa=>?_;rw[Moved.eq_with p];erw[m.H,m.v,d,c,j,10,λb o e=>p.H b o (λan=>?_) (eK b o (LQ (QH e)) (H b o (QW _ e))),al,aa];obtain O|an:=Lz.mp an
  .exact R7 (QH e) (by simp!)
  .exact R7 (QH e) (by rw[LY.mp an];exact O8 (LN lI))
 let k:∀(r:Result)(m:e9),(∃ h' tk d c j,r=.ok (.ret (.ref s.H.M.J))/\m={s with heap:=h',toks:=tk,drawn:=d}/\(∀ b o,s.H.R b=Z o->h'.R b=Z o)/\h'.R s.H.M.J=Z {cls:=.type "list",dict:=k7,data:=.seq c j,slots:=#[]}/\ItemsOf (λi v=>∃ t n,ord[i]?=Z n/\v=.int n t) c ord.L)->∃ v,r=.ok (.ret v)/\v=.ref s.H.M.J/\li A (do
   let o ← load s.H.M.J
   match o.data with
   |.seq J _=>pure J.n
   |_=>unsupported "internal:collect") Q eg m:=λr m ⟨h',tk,d,c,j,C,D,eK,x,aa⟩=>⟨_,C,U,by
  subst D;refine QS (wpAny_load x ?_)
  exact QV (h h' tk d c ord eK (QH x) pm aa)⟩
 let ac:=H _ _ x;let g2:SetG prog w L a l:=B.keeps λo e=>H _ _ e;refine QS (QT (G4 (s:={s with heap:=L,drawn:=d}) g2.typ ?_));refine Rp (λ_=>?_) (λ_=>QV ⟨RP Nq _,Rb (u _ 0 _ it (λb o _ e=>e) ac) λr aX q'=>?_⟩);rotate_left
 .let v C D z:=k _ _ q'
  cases C
  cases D
  exact z
 refine QS (wpAny_rule ?_);refine QS ?_;show wpAny _ _ (RN s.H.M.J (·.push .none) >>= λ_=>RN s.H.M.J (·.pop)) _ _ _;refine QS (RO ac U ?_);let ae:=Rh (Rg (·.push eN.none)) ac U;refine RO (hz:=by seq_fits) ae U ?_
 let aT:=Rh (Rg (·.pop)) ae U;let oth:∀ b o,b≠s.H.M.J->L.R b=Z o->((L.update s.H.M.J (Rg (·.push eN.none))).update s.H.M.J (Rg (·.pop))).R b=Z o:=λb o M e=>(Ri _ _ (Ne.Y M)).Q ((Ri _ _ (Ne.Y M)).Q e);refine QV ⟨RP Nq _,Rb (u _ _ _ (DW it λb M o e=>oth b o (λz=>ap (z▸M)) e) oth aT) λr aX q'=>?_⟩;let v C D z:=k _ _ q'
 cases C
 cases D
 exact z
end
section
variable{X:Cx}{pins:E (e8×hr)}{σ:E (io V)}{H:Hp}{s:e9}
theorem Inv.drew{d:Drawn}(I:Inv X pins σ H s):Inv X pins σ H {s with drawn:=d}:=⟨I.ok,I.os,I.bare,I.base,I.loc,I.cell,I.free,I.freeC,I.pin,I.hok,I.len⟩
def setO(P:ge)(w:ih)(a:e8)(l:E G):HO:=.ext λh=>SetG P w h a l
inductive rSetI(P:ge)(w:ih)(K:Lo)(xs:E V)(H:L2.Hp)(Q:L2.VK):Prop
 |mk (p:e8)(ns:E G) (_:xs=[.ref p])(_:na p (ns.h V.int))(_:ns.L+1<4096)(_:∀ a:e8,H a=k7->Q (.ref a) (upd H a (setO P w a (ns.foldl addN []))))
def E7(T:X.calm=kf)(e:X.e=P)(c:X.w=w)(m:X.K=K):eO X (.type "set") (rSetI P w K):=by
 subst e c m;intro pins s σ H J eg Q I r h;let p b rfl y n q:=h;let u rfl i:=i7 r
 cases i
 let a rv D A:=I.list y;let B:=mY rv;let d:=rv.L;rw[Lp]at d;refine xH (I.ok.hd T) D.isList B (by rw[Mn,← d];exact n) λN l g k=>?_
 erw[.ref s.H.M.J,_,I.laid (t':=l) k (Lq _) (show bE X.e X.w _ _ _ (setO X.e X.w s.H.M.J (b.foldl addN [])) from⟨g,?_,λY L f x=>f.keeps x⟩),U,q _ (I.hok.fresh (Lq _))];let o v j t f r:=g;erw[o,f]
def HL(ns:E G):∀(l:E G)(x:G),x∈ns.foldl addN l↔x∈l∨x∈ns:=by
 induction ns with
 |nil=>intro l x;simp
 |cons n ns O =>
  intro l x;rw[Qi,O,Lz];unfold addN;split
  .rename_i c;erw[λz=>z.elim .inl λy=>.inr (.inr y),λz=>z.elim .inl λy=>y.elim (λe=>.inl (e▸c)) .inr]
  .rw[LG,LY];lia
end
inductive rSortT(P:ge)(w:ih)(xs:E V)(H:L2.Hp)(Q:L2.VK):Prop
 |mk (a:e8)(ms:E G) (_:xs=[.ref a])(_:H a=Z (setO P w a ms))(_:ms.L<64)(_:∀(l:e8)(out:E G),H l=k7->(∀ x,x∈out↔x∈ms)->out.y (· < ·)->Q (.ref l) (upd H l (.lst (out.h V.int))))
def B4(T:X.calm=kf)(eP:X.e=P)(eW:X.w=w):eO X (.builtin "sorted") (rSortT P w):=by
 subst eP eW;intro B s O H J z Q I r h;let a ms rfl i al q:=h;let u rfl ru:=i7 r
 cases ru
 let g _ _:=(show bE X.e X.w H s.H a (setO X.e X.w a ms) from I.hok a _ i);let g:SetG X.e X.w s.H a ms:=g;let nd:ms.l:=let ⟨_,_,_,_,_,_,_,_,_,nd,_,_,_,_⟩:=g;nd;refine Calls.call_function_entry kind_sorted plain_sorted entry_sorted (args_sorted1 _) ?_;unfold ii.«sorted»;refine QS (m:=checkCount "sorted" 1 1 _) (QV ?_);refine QS (zR (I.ok.hd T) g λN tk d c aI l p pm ab=>?_);let f:Rk c.n aI:=by
  let all:∀(M:E eN)(ns:E G),M.L=ns.L->(∀(j:R) v,M[j]?=Z v->∃ t n,ns[j]?=Z n/\v=.int n t)->Rk M ns:=λM=>by
   induction M with
   |nil=>intro ns e _;rw[OC e.Y];exact .nil
   |cons v M A =>
    intro ns e k
    cases ns with
    |nil=>cases e
    |cons n ns =>
     let t m C eg:=k 0 v U
     cases C
     rw[eg];exact .cons _ _ (A ns (Nat.succ.inj e) λj v e=>k (j+1) v e)
  exact all _ _ (by rw[L9];exact ab.1) λj v e=>ab.2 j v (by simp!)
 let aa:c.n.L<=QG:=by
  rw[L9,ab.1,pm.length_eq];exact LN (NI g.len ∅)
 refine QS (RG ?_ aa);let ae:(N.o (RE "list" c.n.toArray 0)).R N.M.J=Z (RE "list" c.n.toArray 0):=QX _ U;show wpAny _ _ _ _ _ {s with heap:=N.o (RE "list" c.n.toArray 0),toks:=tk,drawn:=d};let an:∀(out:j5 eN)(b:e8)(o:hr),s.H.R b=Z o->(sortedHeap (N.o (RE "list" c.n.toArray 0)) N.M.J c.n out).R b=Z o:=λout b o e=>by
  let eg:=l b o e;rw[sortedHeap_old (LQ (QH eg)) (by rw[Q8];exact Nj (QH eg))]
  exact QW _ eg
 let ac:s.H.M.J<=N.M.J:=LN p;refine QS (QT (Rv slot_list_sort ⟨_,ae,U⟩ entry_list_sort (list_sort_tree ae f (by rw[L9,ab.1,pm.length_eq];exact al) λout am D a2 a3=>⟨_,U,?_⟩) (args_list_sort _)))
 let e eK:=sortedHeap_at (out:=out) ae;let ap:=a2.Q pm;refine QV ⟨_,U,?_⟩;erw[.ref N.M.J,_,(I.laid (t':=tk) (an out) ac (show bE X.e X.w _ _ _ (.lst (am.h V.int)) from⟨?_,out.n,e,xy D,?_⟩)).drew,U,q _ am (I.hok.fresh ac) (λx=>ap.mem_iff) ?_]
 .rw[Lp,ap.length_eq];exact LN (NI g.len ∅)
 .exact eK
 .exact(List.Pairwise.and a3 (ap.nodup_iff.mpr nd)).imp λ{x y} ⟨Y,L⟩=>by
   lia
end L2
namespace L2.C2
open PySem PySem.Spec PyProof.Rows
section
variable{prog:ge}{w:ih}{A:Around}{eg:eN->e9->Prop}{s:e9}{d:e8}
theorem xw{Q:io hr->e9->Prop}(h:Q (s.H.R a) s):li A (loadIfAlive a) Q eg s:=λb p c=>by
 show Sem.wp _ _ (.loadIfAlive a _) _ _ _ _;rw[Sem.wp_loadIfAlive];exact(QV (M:=model prog w) (A:=A) (E:=eg) h) b p c
def ItAt(h:fc)(it d:e8)(i n ep:R):Prop:=∃ eK Q g f,h.R it=Z {cls:=.type "dict_itemiterator",dict:=k7,data:=.fields #[eK,Q,.ref d,.int i 0,.int n 0,.int ep 0,g,f],slots:=#[]}/\((eK=.none/\Q=.bool kt)∨∃(a:e8)(o:hr),eK=rawInt a/\h.R a=Z o/\a≠it)
def ItAt.keep(x:ItAt h it d i n ep)(y:∀ o,h.R it=Z o->h'.R it=Z o)(k:∀ b o,b≠it->h.R b=Z o->∃ j,h'.R b=Z j):ItAt h' it d i n ep:=by
 let eK Q g f e c:=x;erw[eK,Q,g,f,y _ e,3];obtain c|⟨a,o,c1,c2,c3⟩:=c
 .exact .inl c
 .let j q:=k a o c3 c2;exact .inr ⟨a,j,c1,q,c3⟩
def DV{es:j5 DictEntry}{Q:io eN->e9->Prop}(y:ItAt s.H it d i es.J ep)(p:Ent s.H d es ep)(l:A.handled=k7)(hI:∀ e,es[i]?=Z e->∀ h',ItAt h' it d (i+1) es.J ep->h'.R s.H.M.J=Z {cls:=.type "tuple",data:=.seq #[e.key,e.val]}->(∀ b o,b≠it->s.H.R b=Z o->h'.R b=Z o)->Q (Z (.ref s.H.M.J)) {s,h'})(Y:es[i]?=k7->∀ h',fc.ExtBut it s.H h'->Q k7 {s,h'}):li A (pyNext (.ref it)) Q eg s:=by
 let h r ok ov y c:=y;rcases c with⟨rfl,rfl⟩|⟨a,oa,rfl,ae,ac⟩
 .refine ED (ok:=ok) (ov:=ov) y p l (λe eK h' k L t=>hI e eK h' ⟨_,_,_,_,k,.inr ⟨s.H.M.J,_,U,L,?_⟩⟩ L t) Y;exact MZ (QH y)
 let o C D f:=p;let O:s.TypeIs (.ref it) "dict_itemiterator":=⟨_,y,U⟩;let own:Rw "dict_itemiterator"=kf:=by rfl
 unfold pyNext;refine QS (wpAny_attempt (Rx (name:=ff.ofString "__next__") O F.slot_dict_itemiterator_next (Rv F.slot_dict_itemiterator_next O F.entry_dict_itemiterator_next ?_ (F.args_dict_itemiterator_next_1 _))));refine QS (QV (QS (QS (QS (Ry O (QV ?_))))));refine QS (wpAny_fieldsOf y U ?_);simp -iota only[own,if_true];show wpAny _ _ (if(eN.ref d == eN.none)=kf then _ else _) _ _ _;rw[R6 (show ¬ ((eN.ref d == eN.none)=kf) from LZ)];refine QS (QV (QS (wpAny_dictEntries C f ?_)));rw[R6 (by simp)]
 refine QS (QV (QS (wpAny_dictEpoch C f ?_)));rw[R6 (by simp)]
 refine QV ?_;let n0:¬ ((i:G)<0):=by lia
 simp only[n0,if_false,Lv]
 cases eK:es[i]? with
 |none =>
  refine QS (QS (Ry O (QV ?_)));show wpAny _ _ (setField (.ref it) 2 .none >>= _) _ _ s;refine QS (wpAny_setField y U (by simp) ?_)
  show wpAny _ _ (newExc (.type "StopIteration") [] >>= _) _ _ _;refine QS ?_;simp only[newExc,newTuple];refine QS (Ru (QS (m:=firstArgMember _ _) (wpAny_of_eq (a:=eN.none) (by rfl) (Ru ?_ (by size_fits)))) (by size_fits))
  simp -iota only[raiseNew];refine QS (wpAny_handled ?_);rw[show A.in1.handled=k7 from l];refine QS (QV (wpAny_throw ?_));refine QS (Rq (T:="StopIteration") (b:=kf) ⟨_,QX _ U,U⟩ isSubtype_stop (QV ?_));exact Y eK _ (((Rz ..).X.o _).o _)
 |some e =>
  refine QS (QS (Ry O (QV ?_)));refine QS (RA O ?_);show wpAny _ _ (setField (.ref it) 3 (rawInt ((i:G)+1)) >>= _) _ _ s;refine QS (RB y (by simp) λB k N=>?_)
  let c1:((i+1:R):G)=(i:G)+1:=by lia
  let aa:B.R it=Z {cls:=.type "dict_itemiterator",dict:=k7,data:=.fields #[rawInt a,r,.ref d,.int ((i+1:R):G) 0,.int es.J 0,.int ep 0,ok,ov],slots:=#[]}:=by assumption
  let lt:it<s.H.M.J:=QH y;let g:B.M.J=s.H.M.J:=N.1;let ab:e9.TypeIs {s,B} (.ref it) "dict_itemiterator":=⟨_,aa,U⟩;refine QS (QT (QS (RA ab (QS (RA ab ?_)))));show wpAny _ _ (RC (.ref it) 6 e.key e.val) _ _ {s,B};unfold RC ii.Dict_items.ownedTupleIsFree;refine QS (wpAny_newTuple ?_);let L:(B.o {cls:=.type "tuple",data:=.seq #[e.key,e.val]}).R it=Z {cls:=.type "dict_itemiterator",dict:=k7,data:=.fields #[rawInt a,r,.ref d,.int ((i+1:R):G) 0,.int es.J 0,.int ep 0,ok,ov],slots:=#[]}:=QW _ aa;let J:(B.o {cls:=.type "tuple",data:=.seq #[e.key,e.val]}).R s.H.M.J=Z {cls:=.type "tuple",data:=.seq #[e.key,e.val]}:=by rw[← g];exact QX _ U
  let j:∀ b o,b≠it->s.H.R b=Z o->(B.o {cls:=.type "tuple",data:=.seq #[e.key,e.val]}).R b=Z o:=λb o M q=>QW _ (N.X b o M q);rw[g];generalize B.o {cls:=.type "tuple",data:=.seq #[e.key,e.val]}=u at L J j;show wpAny _ _ (_ >>= _) _ _ {s,u};let z:u.R ((a:G).U)=Z oa:=by rw[Lv];exact j a oa ac ae
  refine QS (QS (wpAny_field L U (x:=rawInt a) U ?_));show wpAny _ _ (loadIfAlive ((a:G).U) >>= _) _ _ {s,u};refine QS (xw ?_);show wpAny _ _ (if((u.R ((a:G).U)).isNone)=kf then _ else _) _ _ _;rw[z,R6 (show ¬ (Z oa).isNone=kf from LZ)];let n:∀ I,I.R it=Z {cls:=.type "dict_itemiterator",dict:=k7,data:=.fields #[rawInt a,.bool kf,.ref d,.int ((i+1:R):G) 0,.int es.J 0,.int ep 0,ok,ov],slots:=#[]}->(∀ b o,b≠it->u.R b=Z o->I.R b=Z o)->Q (Z (.ref s.H.M.J)) {s,I}:=λI t v =>
   hI e eK I ⟨_,_,_,_,t,.inr ⟨a,oa,U,v a oa ac (j a oa ac ae),ac⟩⟩ (v _ _ (MZ lt) J) λb o M q=>v b o M (j b o M q)
  refine QS (wpAny_field L U (x:=r) U ?_);by_cases H:r=.bool kf
  .rw[R6 (by rw[H];decide)]
   refine QV ?_;subst H;exact QV (QV ⟨_,U,QV (n u L λb o _ q=>q)⟩)
  .rw[R5 (by simpa using H)]
   refine QS (RB L (by simp) λI t v=>?_)
   exact QV (QV (QV ⟨_,U,QV (n I t λb o M q=>v.X b o M q)⟩))
def HQ(h₀ h:fc)(es:j5 DictEntry)(y:j5 eN)(i:R):Prop:=y.J=i/\∀(j:R)(v:eN),y[j]?=Z v->∃(t:e8)(e:DictEntry),v=.ref t/\es[j]?=Z e/\h₀.M.J<=t/\h.R t=Z {cls:=.type "tuple",data:=.seq #[e.key,e.val]}
def nK(y:j5 eN):Prop:=y.n.l
def Ex{S:e8}{es:j5 DictEntry}{res:eN}{h₀:fc}(m:A.handled=k7)(N:es.J<=QG)(aI:S≠it)(am:S≠d)(aT:d≠it):
  ∀(k i:R)(s:e9)(y:j5 eN)(c:R),es.J-i=k->i<=es.J->ItAt s.H it d i es.J ep->Ent s.H d es ep->s.H.R S=Z {cls:=.type "list",dict:=k7,data:=.seq y c,slots:=#[]}->HQ h₀ s.H es y i->nK y->h₀.M.J<=s.H.M.J ->
  (∀ h' h c',(∀ b o,b≠S->b≠it->s.H.R b=Z o->h'.R b=Z o)->h'.R S=Z {cls:=.type "list",dict:=k7,data:=.seq h c',slots:=#[]}->HQ h₀ h' es h es.J->nK h->ad (.ok (.ret res)) {s,h'}) ->
  Q7 (model prog w) A (.builtin "list.extend.loop" ⟨[.ref S,.ref it,res],[]⟩) ad s:=by
 intro k;induction k with
 |zero =>
  intro i s y c l B ac D x p al aa eg;let Y:i=es.J:=by lia
  subst Y;refine RI F.entry_extend_loop ?_;rw[RJ F.plain_extend_loop _];show wpAny _ A.in1 (pyNext (.ref it) >>= _) _ _ s;refine QS (DV ac D m (λe eK=>?_) λ_ h' q=>?_)
  .simp!
  .refine QV (eg h' y c (λb o _ M e=>q b o M e) (q S _ aI x) ⟨p.1,λj v J=>?_⟩ al);let t e n I a3 a4:=p.2 j v J;erw[t,e,n,I,a3,q t _ (λz=>?_) a4];let _ _ _ _ u _:=ac;rw[z,u]at a4;lia
 |succ k O =>
  intro i s y c l B ac D x p al aa eg;refine RI F.entry_extend_loop ?_;rw[RJ F.plain_extend_loop _];show wpAny _ A.in1 (pyNext (.ref it) >>= _) _ _ s;refine QS (DV ac D m (λe eK h' f g r=>?_) λeK=>R7 eK (by simp!))
  let ae:=r S _ aI x;let lt:it<s.H.M.J:=by let _ _ _ _ z _:=ac;exact QH z
  let aS:=QH x;show wpAny _ A.in1 (RN S (·.push (.ref s.H.M.J)) >>= _) _ _ _;refine QS ?_;let an:∀ b,b≠S->∀ o,h'.R b=Z o->(h'.update S (Rg (·.push (.ref s.H.M.J)))).R b=Z o:=λb M o e=>(Ri _ _ (Ne.Y M)).Q e;let C:∀(L:fc),(∀ b o,b≠S->h'.R b=Z o->L.R b=Z o)->HQ h₀ L es (y.o (.ref s.H.M.J)) (i+1):=λL H=>by
   erw[by rw[j5.size_push,p.1],λj v J=>?_]
   rw[j5.getElem?_push]at J;split at J
   .rename_i ej
    cases J
    rw[p.1]at ej;subst ej;erw[s.H.M.J,e,U,eK,aa,H _ _ (MZ aS) g]
   .let t Q n I a3 a4:=p.2 j v J;let ti:t≠it:=λz=>by
     let _ _ _ _ u _:=ac;lia
    erw[t,Q,n,I,a3,H t _ (λz=>?_) (r t _ ti a4)];rw[z,x]at a4;lia
  let ap:nK (y.o (.ref s.H.M.J)):=by
   unfold nK;rw[PX];refine LV.mpr ⟨al,by simp,λa T b M e=>?_⟩
   rw[LY.mp M]at e;subst e;let j J:=Mx T;let t Q n _ _ a4:=p.2 j _ (by rw[← MQ];exact J)
   cases n
   exact Nr _ (QH a4)
  refine RO ae U (QV ⟨RP F.plain_extend_loop _,O (i+1) _ (y.o (.ref s.H.M.J)) _ ∅ ∅ ?_ ?_ (Rh _ ae U) (C _ λb o M e=>an b M o e) ap ?_ λaX h c' m1 m2 m3 m4=>?_⟩)
   (by rw[p.1];lia) (by show(y.o _).J<=QG+1;rw[j5.size_push,p.1];lia)
  .exact f.keep (λo e=>an it (Ne.Y aI) o e) λb o _ e=>by
    by_cases z:b=S
    .rw[z];erw[_,Rh _ ae U]
    .erw[o,an b z o e]
  .let o n I a3:=D;erw[o,an d (Ne.Y am) o (r d o aT n),I,a3]
  .show h₀.M.J<=(h'.update _ _).M.J;rw[RH];exact MB aa (LN (QH g))
  .exact eg aX h c' (λb o M ab e=>m1 b o M ab (an b M o (r b o ab e))) m2 m3 m4
def Bu{r:e8}{Q:i0->e9->Prop}(O:s.TypeIs (.ref r) "dict_items")(h:Q kt s):li A (Ro (.ref r)) Q eg s:=by
 unfold Ro;refine QS (Rm O PySem.F.slot_dict_items_len.lookup ?_);generalize a:("dict_items.__len__" : String)=c;wp_delta;rw[show splitId c=Z ("dict_items","__len__") from by subst a;rfl]
 subst a;refine QS (Rq (T:="dict_items") (b:=kf) O (by rfl) ?_)
 refine Rp (λm=>R7 m ∅) (λ_=>?_)
 refine Rp (λ_=>?_) (λm=>R7 (by rfl) m)
 refine QS (wpAny_typeOf O ?_);exact QV h
def BI{S r:e8}{es:j5 DictEntry}{res:eN}(eK:A.handled=k7)(hv:s.H.IsItemsView r d)(D:Ent s.H d es ep)(a:es.J<=QG)(ae:S≠r)(Q:S≠d)(x:s.H.R S=Z {cls:=.type "list",dict:=k7,data:=.seq #[] N,slots:=#[]})(eg:∀ h' c c',(∀ b o,b≠S->s.H.R b=Z o->h'.R b=Z o)->h'.R S=Z {cls:=.type "list",dict:=k7,data:=.seq c c',slots:=#[]}->HQ s.H h' es c es.J->nK c->ad (.ok (.ret res)) {s,h'}):
  li A.in1 (RZ (.ref S) (.ref r) res)
   (λC s'=>match C with | .done f=>ad (.ok f) s' | .again c'=>c'.quiet=kf/\Q7 (model prog w) A c' ad s') (λe s'=>ad (.error e) s') s:=by
 let J ab al ac:=id hv;let i I H aa:=id D;let dl:d<s.H.M.J:=QH I;let an:S≠s.H.M.J:=LQ (QH x);let u:∀(g:fc)(q l:R),ItAt g s.H.M.J d 0 es.J ep->(∀ b o,b≠S->s.H.R b=Z o->g.R b=Z o)->s.H.M.J<=g.M.J ->
   g.R S=Z {cls:=.type "list",dict:=k7,data:=.seq #[] q,slots:=#[]}->l=s.v->Q7 (model prog w) A (.builtin "list.extend.loop" ⟨[.ref S,.ref s.H.M.J,res],[]⟩) ad {s with heap:=g,toks:=l}:=λg q l k L t O m=>by
  subst m;refine Ex (h₀:=s.H) eK a an Q (LQ dl) es.J 0 _ #[] q (Nat.sub_zero _) (Mh _) k ⟨i,L d i (Ne.Y Q) I,H,aa⟩ O ⟨U,λj v e=>by simp at e⟩ (by unfold nK;simp) t λh' c c' y n m3 m4=>?_
  exact eg h' c c' (λb o M e=>y b o M (LQ (QH e)) (L b o M e)) n m3 m4
 unfold RZ;refine QS (wpAny_typeOf (T:="dict_items") hv.typeIs ?_);let Y:R0 (.ref S) (.ref r)=kt:=by simp[R0,ae]
 let nl:(eN.type "dict_items" == eN.type "list")=kt:=by rfl
 let nt:(eN.type "dict_items" == eN.type "tuple")=kt:=by assumption
 simp only[Y,nl,nt,QE,Nf,if_false];refine QS (Hn hv D ?_);let h:=QW {cls:=.type "dict_itemiterator",data:=.fields #[.none,.bool kt,.ref d,.int 0 0,.int es.J 0,.int ep 0,.none,.none]} x;let am:ItAt (s.H.o {cls:=.type "dict_itemiterator",data:=.fields #[.none,.bool kt,.ref d,.int 0 0,.int es.J 0,.int ep 0,.none,.none]}) s.H.M.J d 0 es.J ep :=
  ⟨_,_,_,_,QX _ U,.inl ⟨U,U⟩⟩
 let old:∀ b o,s.H.R b=Z o->(s.H.o {cls:=.type "dict_itemiterator",data:=.fields #[.none,.bool kt,.ref d,.int 0 0,.int es.J 0,.int ep 0,.none,.none]}).R b=Z o:=λb o e=>QW _ e;let big:s.H.M.J<=(s.H.o {cls:=.type "dict_itemiterator",data:=.fields #[.none,.bool kt,.ref d,.int 0 0,.int es.J 0,.int ep 0,.none,.none]}).M.J:=by simp
 let ap:(⟨s.H.o {cls:=.type "dict_itemiterator",data:=.fields #[.none,.bool kt,.ref d,.int 0 0,.int es.J 0,.int ep 0,.none,.none]},s.gens,s.drawn,s.v,s.os⟩:e9).TypeIs (.ref r) "dict_items":=⟨J,old _ _ ab,al⟩;generalize s.H.o {cls:=.type "dict_itemiterator",data:=.fields #[.none,.bool kt,.ref d,.int 0 0,.int es.J 0,.int ep 0,.none,.none]}=g0 at h am old big ap;refine QS (QT (Bu ap ?_));refine Rp (λ_=>?_) (λ_=>QV ⟨RP Nq _,u g0 _ s.v am (λb o _ e=>old b o e) big h U⟩);refine QS (wpAny_rule ?_);refine QS ?_;show wpAny _ _ (RN S (·.push .none) >>= λ_=>RN S (·.pop)) _ _ _;refine QS (RO h U ?_);let p:=Rh (Rg (·.push eN.none)) h U;refine RO (hz:=by seq_fits) p U ?_
 let B:=Rh (Rg (·.pop)) p U;let ne:∀ b,b≠S->∀ o,g0.R b=Z o->((g0.update S (Rg (·.push eN.none))).update S (Rg (·.pop))).R b=Z o:=λb M o e=>(Ri _ _ (Ne.Y M)).Q ((Ri _ _ (Ne.Y M)).Q e);refine QV ⟨RP Nq _,u _ _ s.v (am.keep (λo e=>ne _ (Ne.Y an) o e) λb o _ e=>?_) (λb o M e=>ne b M o (old b o e)) (by rw[RH,RH];exact big) B U⟩
 by_cases z:b=S
 .rw[z];erw[_,B]
 .erw[o,ne b z o e]
end
end L2.C2
namespace L2
open PySem PySem.Spec PyProof.Rows
section
open PySem.W
variable{f:R->G}{n:R}
def QOk{α:Type}(f:R->G)(n:R):KasT α->(α->Prop)->Prop
 |.ret a,P=>P a
 |.ask i j k,P=>i<n/\j<n/\∀ b:i0,(b=kf->f i<=f j)->(b=kt->f j<=f i)->QOk f n (k b) P
theorem QOk.bind{α j:Type}{g:α->KasT j}{P:j->Prop}:∀{t:KasT α},QOk f n t (λa=>QOk f n (g a) P)->QOk f n (t.bind g) P
 |.ret _,h=>h
 |.ask _ _ _,h=>⟨h.1,h.2.1,λb x y=>QOk.bind (h.2.2 b x y)⟩
theorem QOk.imp{α:Type}{P c:α->Prop}(g:∀ a,P a->c a):∀{t:KasT α},QOk f n t P->QOk f n t c
 |.ret _,h=>g _ h
 |.ask _ _ _,h=>⟨h.1,h.2.1,λb x y=>QOk.imp g (h.2.2 b x y)⟩
theorem QOk.wp{α:Type}{P:α->Prop}{s:e9}{D:R->R->(i0->e9->Prop)->e9->Prop}{Q:α->e9->Prop}(T:∀ i j C,i<n->j<n->(∀ b:i0,(b=kf->f i<=f j)->(b=kt->f j<=f i)->C b s)->D i j C s)(O:∀ a,P a->Q a s):∀{t:KasT α},QOk f n t P->t.kasWp D Q s
 |.ret _,h=>O _ h
 |.ask i j k,h=>T i j _ h.1 h.2.1 λb x y=>QOk.wp T O (h.2.2 b x y)
def Pmn(n:R)(p:j5 R):Prop:=p.Perm (Mg n).toArray
def Pmn.size{p:j5 R}(h:Pmn n p):p.J=n:=by rw[j5.Perm.size_eq h];simp
def Pmn.lt{p:j5 R}(h:Pmn n p)(hi:i<n):p.f i 0<n:=by
 let:p.f i 0=p[i]'(by rw[h.J];exact hi):=by simp[PY,h.J,hi]
 rw[this];let:=(Qm.mp h).mem_iff.mp (j5.getElem_mem_toList (by rw[h.J];exact hi))
 simp!
def kyA(f:R->G)(p:j5 R)(i:R):G:=f (p.f i 0)
def vZ{p q:j5 R}(h:p[i]?=q[j]?):kyA f p i=kyA f q j:=by
 unfold kyA;simp[*]
def Sin(f:R->G)(p:j5 R)(m:R):Prop:=∀ i j,i<=j->j<m->kyA f p i<=kyA f p j
def Nin(f:R->G)(p:j5 R)(m:R):Prop:=∀ i j,i<=j->j<m->kyA f p j<=kyA f p i
theorem Sin.up{p:j5 R}(h:Sin f p m)(c:kyA f p (m-1)<=kyA f p m):Sin f p (m+1):=λi j Y L=>by
 by_cases z:j<m
 .exact h i j Y z
 .let e:j=m:=by lia
  by_cases y:i=j
  .rw[y];exact MD _
  .let:=h i (m-1) ∅ ∅
   rw[e];lia
theorem Nin.up{p:j5 R}(h:Nin f p m)(c:kyA f p m<=kyA f p (m-1)):Nin f p (m+1):=λi j Y L=>by
 by_cases z:j<m
 .exact h i j Y z
 .let e:j=m:=by lia
  by_cases y:i=j
  .rw[y];exact MD _
  .let:=h i (m-1) ∅ ∅
   rw[e];lia
def vY{p:j5 R}(J:j<=p.J)(k:R):kyA f (kas_rev p i j) k=if i<=k/\k<j then kyA f p (i+j-1-k) else kyA f p k:=by
 let e:=getElem?_mirror_all (i:=i) J k;split
 .rw[R5 (by assumption)]at e;exact vZ e
 .rw[R6 (by assumption)]at e;exact vZ e
theorem Pmn.rev{p:j5 R}(h:Pmn n p)(i j:R):Pmn n (kas_rev p i j):=j5.Perm.trans (mirror_perm _ _ _ _) h
theorem JO{p:j5 R}(h:Pmn n p):∀ g m,1<=m->m+g<=n->Sin f p m->QOk f n (kas_asc p g m) λr=>m<=r/\r<=m+g/\Sin f p r/\(r<m+g->kyA f p r<=kyA f p (r-1))
 |0,m,_,_,s=>⟨Lq _,Lq _,s,λz=>R7 z (Nr _)⟩
 |g+1,m,eK,k,s=>⟨h.lt ∅,h.lt ∅,λb x y=>by
  cases b with
  |true=>exact⟨Lq _,Of ..,s,λ_=>x U⟩
  |false=>exact(JO h g (m+1) ∅ ∅ (s.up (y U))).imp λr z=>⟨∅,∅,z.2.2.1,λw=>z.2.2.2 ∅⟩⟩
def Rnq(f:R->G)(p:j5 R)(m q:R):Prop:=∀ i,m-(q+1)<=i->i<m->kyA f p i=kyA f p (m-1)
def Rnq.rev{p:j5 R}{q:R}(h:Rnq f p m q)(D:m<=p.J)(k:R):kyA f (kas_rev p (m-(q+1)) m) k=kyA f p k:=by
 rw[vY D];split
 .rw[h k ∅ ∅,h _ ∅ ∅]
 .rfl
structure Dsq(f:R->G)(n m:R)(r:j5 R×R×R):Prop where
 p:Pmn n r.1
 a:m<=r.2.1
 b:r.2.1<=n
 s:Nin f r.1 r.2.1
 q:Rnq f r.1 r.2.1 r.2.2
theorem AA:∀ g p m q,1<=m->m+g<=n->Pmn n p->Nin f p m->Rnq f p m q->QOk f n (kas_desc g p m q) (Dsq f n m)
 |0,p,m,q,_,k,h,s,e=>⟨h,Lq _,k,s,e⟩
 |g+1,p,m,q,eK,k,h,s,e=>⟨h.lt ∅,h.lt ∅,λb x y=>by
  let up:∀{r},Dsq f n (m+1) r->Dsq f n m r:=λz=>⟨z.p,by let:=z.a;lia,z.b,z.s,z.q⟩
  cases b with
  |true =>
   let one:∀ A:j5 R,Rnq f A (m+1) 0:=λA i Y L=>by grind
   show QOk f n (if q > 0 then _ else _) _;split
   .refine(AA g _ (m+1) 0 ∅ ∅ (h.rev _ _) ?_ (one _)).imp λr=>up
    let l:=e.rev (by rw[h.J];lia)
    let o:=s.up (x U);exact λi j Y L=>by rw[l,l];exact o i j Y L
   .exact(AA g p (m+1) 0 ∅ ∅ h (s.up (x U)) (one _)).imp λr=>up
  |false=>exact⟨h.lt ∅,h.lt ∅,λd u v=>by
    cases d with
    |true=>exact⟨h,Lq _,by grind,s,e⟩
    |false =>
     refine(AA g p (m+1) (q+1) ∅ ∅ h (s.up (v U)) λi Y L=>?_).imp λr=>up
     let C:kyA f p (m-1)=kyA f p m:=OQ (y U) (v U);by_cases c:i=m
     .simp!
     .rw[e i ∅ ∅];exact C⟩⟩
structure Cnq(f:R->G)(n:R)(r:R×j5 R):Prop where
 p:Pmn n r.2
 a:1<=r.1
 b:r.1<=n
 s:Sin f r.2 r.1
def Iq{p:j5 R}(h:Pmn n p)(eK:1<=m)(k:m<=n)(s:Nin f p m):QOk f n (kas_tail3 m n p) (Cnq f n):=by
 refine QOk.bind ((JO (h.rev 0 m) (n-m) m eK ∅ λi j Y L=>?_).imp λr z=>⟨h.rev 0 m,by lia,∅,z.2.2.1⟩)
 rw[vY (by rw[h.J];exact k),vY (by rw[h.J];exact k),R5 ∅,R5 ∅]
 exact s _ _ ∅ ∅
def Ir{p:j5 R}(h:Pmn n p)(k:m<n)(s:Nin f p (m+1)):QOk f n (kas_descPart m n p) (Cnq f n):=by
 refine QOk.bind ((AA (n-(m+1)) p (m+1) 0 ∅ ∅ h s λi Y L=>by grind).imp λr z=>?_)
 let b d a M l:=z;show QOk f n (if r.2.2 > 0 then _ else _) _;split
 .refine Iq (b.rev _ _) ∅ a λi j Y L=>?_
  rw[l.rev (by rw[b.J];exact a),l.rev (by rw[b.J];exact a)]
  exact M i j Y L
 .exact Iq b ∅ a M
def JN{p:j5 R}(N:2<=n)(h:Pmn n p):QOk f n (kas_count n p) (Cnq f n):=by
 refine QOk.bind ((JO h (n-1) 1 (Lq _) ∅ λi j Y L=>by simp!).imp λm z=>?_)
 let d a M g:=z;show QOk f n (if(m == n)=kf then _ else if m > 1 then _ else _) _;split
 .erw[h,d,by lia,M]
 .rename_i c;let k:m<n:=by lia
  let c0:=g ∅
  split
  .erw[h.lt ∅,h.lt ∅,λb x y=>?_]
   cases b with
   |true=>exact⟨h,d,by show m<=n;lia,M⟩
   |false =>
    let e:∀ i,i<m->kyA f p i=kyA f p 0:=λi B=>OQ (P5 (M i (m-1) ∅ ∅) (y U)) (M 0 i (Mh _) B)
    refine Ir (h.rev 0 m) k λi j Y L=>?_;rw[vY (by rw[h.J];lia),vY (by rw[h.J];lia)]
    by_cases c1:j<m
    .rw[R5 ∅,R5 ∅,e (0+m-1-j) ∅,e (0+m-1-i) ∅];exact MD _
    .grind
  .let e:m=1:=by lia
   subst e;exact Ir h k λi j Y L=>by
    rcases(show i=j∨(i=0/\j=1) by lia)with z|⟨z,y⟩
    .rw[z];exact MD _
    .rw[z,y];exact c0
theorem xU{p:j5 R}{k:R}(h:Pmn n p)(c:k<n)(s:Sin f p k):∀ g l r,l<=r->r<=k->r-l<=g->(∀ i,i<l->kyA f p i<=kyA f p k)->(∀ i,r<=i->i<k->kyA f p k<=kyA f p i) ->
  QOk f n (kas_place p k g l r) λl=>l<=k/\(∀ i,i<l->kyA f p i<=kyA f p k)/\∀ i,l<=i->i<k->kyA f p k<=kyA f p i
 |0,l,r,Y,L,A,lo,B=>⟨∅,lo,λi a b=>B i ∅ b⟩
 |g+1,l,r,Y,L,A,lo,B=>by
  show QOk f n (if l ≥ r then _ else _) _;split
  .erw[4,lo,λi a b=>B i ∅ b]
  .erw[h.lt c,h.lt ∅,λb x y=>?_]
   cases b with
   |true=>exact xU h c s g _ _ ∅ ∅ ∅ lo λi a b=>P5 (x U) (s _ _ a b)
   |false=>exact xU h c s g _ _ ∅ ∅ ∅ (λi a=>P5 (s i ((l+r)/2) ∅ ∅) (y U)) B
theorem q_bin:∀ g p k,Pmn n p->k+g=n->Sin f p k->QOk f n (kas_bin g p k) λr=>Pmn n r/\Sin f r n
 |0,p,k,h,e,s=>⟨h,by rw[← e];exact s⟩
 |g+1,p,k,h,e,s=>QOk.bind ((xU h ∅ s k 0 k (Mh _) (Lq _) ∅ (λi z=>R7 z (MR _)) λi a b=>R7 a ∅).imp λl z=>by
  refine q_bin g _ (k+1) (j5.Perm.trans (bubble_perm _ _ _) h) ∅ ?_
  let v lo B:=z;let I:∀ i,kyA f (bubble p k (k-l)) i=if i=l then kyA f p k else if l<i/\i<=k then kyA f p (i-1) else kyA f p i:=λi=>by
   let e:=getElem?_bubble (show k<p.J by rw[h.J];lia) (k-l) ∅ i
   rw[show k-(k-l)=l by lia]at e
   by_cases c:i=l
   .rw[R5 c]at e ⊢;exact vZ e
   .rw[R6 c]at e ⊢;by_cases d:l<i/\i<=k
    .rw[R5 d]at e ⊢;exact vZ e
    .rw[R6 d]at e ⊢;exact vZ e
  intro i j Y L;rw[I,I];repeat' split
  all_goals first
   | (lia)
   |exact MD _
   |exact lo _ ∅
   |grind
   |exact s _ _ ∅ ∅)
def q_sort(f:R->G)(N:2<=n):QOk f n (kas_sort n) λp=>Pmn n p/\Sin f p n:=by
 refine QOk.bind ((JN N (j5.Perm.refl _)).imp λr z=>?_);let b d a M:=z;show QOk f n (if r.1<n then _ else _) _;split
 .rw[show max r.1 1=r.1 by lia]
  exact q_bin _ _ _ b ∅ M
 .erw[b,by rw[show n=r.1 by lia];exact M]
end
section
open PySem.W
variable{prog:ge}{w:ih}{A:Around}{eg:eN->e9->Prop}{s:e9}
def prOf(h:fc):eN->G×G
 |.ref a=>match h.R a with
  |some o=>match o.data with
   |.seq J _=>match(J[0]? : io eN),(J[1]? : io eN) with
    |some (.int x _),Z (.int y _)=>(x,y)
    |_,_=>(0,0)
   |_=>(0,0)
  |none=>(0,0)
 |_=>(0,0)
def xW{x y:G}{i ty:Tok}(Y:h.R a=Z o)(f:o.data=.seq #[.int x i,.int y ty] n):prOf h (.ref a)=(x,y):=by
 unfold prOf;simp only[Y,f];rfl
def fiV(h:fc)(v:eN):G:=(prOf h v).1
def AV{x y:G}{i ty:Tok}(Y:h.R a=Z o)(f:o.data=.seq #[.int x i,.int y ty] n):fiV h (.ref a)=x:=by
 unfold fiV;rw[xW Y f]
def prv_lo{v:eN}{b:i0}{Q:i0->e9->Prop}(eK:PrV s.H u)(hv:PrV s.H v)(M:b=kf)(h:∀ c:i0,(c=kf->fiV s.H u<=fiV s.H v)->(c=kt->fiV s.H v<=fiV s.H u)->Q c s):li A (keyLt' (tuples' b) u v) Q eg s:=by
 let a o n x y i ty rfl Y L f:=eK;let m l k H g p q rfl N j d:=hv;subst M;rw[AV Y f,AV N d]at h;refine kat_lt Y f N d (kat_cons (wpAny_eqBool_int (kat_go (λe=>?_) λe=>kat_no (oneLt_int (h _ (λz=>Int.le_of_lt (RS z)) λz=>Int.not_lt.mp (of_decide_eq_false z))))));let J:x=H:=by simpa using e
 let C:∀ c,Q c s:=λc=>h c (λ_=>by rw[J];exact MD _) λ_=>by rw[J];exact MD _
 exact kat_yes (kat_cons (wpAny_eqBool_int (kat_go (λ_=>kat_yes (kat_nil (C _))) λ_=>kat_no (kat_one _ _ (PyProof.Rows.lt_int (show PySem.W.BoolBack Q (.bool _) s from C _))))))
def AU{v:eN}(p:PrV h v)(k:∀ b o,v=.ref b->h.R b=Z o->h'.R b=Z o):fiV h' v=fiV h v:=by
 let a o n x y i ty rfl Y _ f:=p;rw[AV Y f,AV (k _ _ U Y) f]
def xF{P:PySem.Fin->e9->Prop}(t:s.H.R a=Z (RE "list" vs.toArray n))(g:∀ v∈vs,PrV s.H v)(ae:vs.L<64)(h:∀ out:E eN,out.Perm vs->out.y (λu v=>fiV s.H u<=fiV s.H v)->P (.done (.ret .none)) {s,sortedHeap s.H a vs out.toArray}):li A (ii.«list.sort» ⟨[.ref a],[]⟩) P eg s:=by
 let line:vs.L<=QG:=by rw[sizeLine_eq];lia
 let I aI:∃ I,(s.H.update a (Rg λ_=>(#[]:j5 eN))).R a=Z (RE "list" #[] I):=⟨_,RF t λ_=>#[]⟩;let am:(((s.H.update a (Rg λ_=>(#[]:j5 eN))).o (RE "tuple" vs.toArray 0)).o (RE "list" #[] 0)).R a=Z (RE "list" #[] I):=QW _ (QW _ aI);let an:∀ v∈vs,∀ b o,v=.ref b->s.H.R b=Z o->(((s.H.update a (Rg λ_=>(#[]:j5 eN))).o (RE "tuple" vs.toArray 0)).o (RE "list" #[] 0)).R b=Z o:=λv H b o eb e=>by
  refine QW _ (QW _ ?_);let nb:b≠a:=λz=>by
   let a' o' n' x y tx ty rfl k1 q _:=g v H;lia
  rw[fc.get?_update_ne _ _ _ _ nb];exact e
 let al:=λv H=>(g v H).keep (an v H);let ap:=λv H=>AU (g v H) (an v H);clear an;rw[list_sort_plain];refine QS (listItems_at t U (QS (listUpdate_at t U (QS (seqEpoch_at aI U (QS (wpAny_newTuple (QS (RG (QT ?_) (Mh _))) line)))) ∅ (Mh _))))
 show li A _ P eg {s,((s.H.update a (Rg λ_=>(#[]:j5 eN))).o (RE "tuple" vs.toArray 0)).o (RE "list" #[] 0)};let k:∀ out:E eN,sortedHeap s.H a vs out.toArray=(((s.H.update a (Rg λ_=>(#[]:j5 eN))).o (RE "tuple" vs.toArray 0)).o (RE "list" #[] 0)).update a (Rg λ_=>out.toArray):=λ_=>rfl;generalize ((s.H.update a (Rg λ_=>(#[]:j5 eN))).o (RE "tuple" vs.toArray 0)).o (RE "list" #[] 0)=h6 at am al k ap;dsimp only;by_cases L:vs.toArray.J<2
 .rw[R5 L,R5 L];refine QS (QV ?_);rw[StateT.run_pure];refine QS (QV (QS (seqEpoch_at am U ?_)));dsimp only;let eo:(arrOf (SortSt.mk' general' (vs.toArray.zip vs.toArray) #[] 7 k7)).h (·.2)=vs.toArray:=by
   show(vs.toArray.zip vs.toArray).h (·.2)=vs.toArray;apply j5.ext
   .simp
   .intro i Y L;simp
  rw[eo];refine QS (listUpdate_at am U ?_ (Mh _) (by rw[Mn];exact PU line))
  simp only[bne_self_eq_false,Nf,if_false];refine QV ?_;rw[Mn]at L;let:=h vs (List.Perm.refl _) (MV.mpr λi j B J aS=>by lia)
  rw[k]at this;exact this
 .rw[R6 L,R6 L];rw[Mn]at L;let fs r N f3:=AD (s:={s,h6}) (M:=model prog w) al;refine QS (kat_kind r ∅ f3 ∅ ?_)
  let aT:(eN.type "int" != eN.type "tuple")=kf:=by rfl
  let aa:∀ i,i<vs.L->vs.f i eN.none∈vs:=λi B=>by simp[*]
  refine QS (QN (kat_run (ks:=vs) (vs:=vs) (Q:=λac l=>l={s,h6}/\failedOf ac=k7/\∃ p:j5 R,(Pmn vs.L p/\Sin (λi=>fiV h6 (vs.f i eN.none)) p vs.L)/\arrOf ac=p.h (kas_item (vs.toArray.zip vs.toArray))) (G:=λp l=>l={s,h6}/\Pmn vs.L p/\Sin (λi=>fiV h6 (vs.f i eN.none)) p vs.L) U ∅ ae (λp ac l D d a3 a4=>⟨a4.1,a3,p,a4.2,d⟩) (QOk.wp (f:=λi=>fiV h6 (vs.f i eN.none)) (λi j C B J hC=>?_) (λp O=>⟨U,O⟩) (q_sort _ ∅))) ?_ λ_ _ e=>e)
  .exact prv_lo (al _ (aa i B)) (al _ (aa j J)) aT hC
  rintro⟨⟨⟩,ac⟩ l ⟨rfl,T,p,⟨ab,m⟩,a0⟩;dsimp only;let aX:=kat_snds (ks:=vs) (vs:=vs) U a0;rw[aX];let pm:(p.n.h λi=>vs.f i eN.none).Perm vs:=by
   let z:=(Qm.mp ab).h λi=>vs.f i eN.none
   rwa[show(Mg vs.L).toArray.n.h (λi=>vs.f i eN.none)=vs from PV λi=>by
    show((Mg vs.L).h _)[i]?=_;rw[LA];by_cases c:i<vs.L
    .simp[*]
    .simp[*]]at z
  refine QS (seqEpoch_at am U (QS (listUpdate_at am U ?_ (Mh _) (by rw[Mn,pm.length_eq];exact PU line))))
  rw[T];simp only[bne_self_eq_false,Nf,if_false];refine QV ?_
  let:=h _ pm (Ox.mpr (MV.mpr λi j B J aS=>by
   rw[L9,ab.J]at B J;let z:fiV h6 _<=fiV h6 _:=m i j (LN aS) J;let ei:∀ i (B:i<p.n.L),p.f i 0=p.n[i]:=λi B=>by
    rw[L9]at B;simp[PY,B]
   rw[ap _ (aa _ (ab.lt B)),ap _ (aa _ (ab.lt J)),ei,ei]at z
   exact z))
  rw[k]at this;exact this
def sV{l:e8}(hl:s.H.IsList l vs.toArray)(g:∀ v∈vs,PrV s.H v)(a:vs.L<64)(h:∀ out:E eN,out.Perm vs->out.y (λu v=>fiV s.H u<=fiV s.H v)->Q (.ref (s.H.M.J+1)) {s,sortedAll s.H vs out.toArray}):li A (call (.builtin "sorted") [.ref l]) Q eg s:=by
 refine Calls.call_function_entry kind_sorted plain_sorted entry_sorted (args_sorted1 _) ?_;unfold ii.«sorted»;refine QS (m:=checkCount "sorted" 1 1 _) (QV ?_);refine QS (collect_list hl ?_ (by rw[sizeLine_eq];lia))
 refine QS (RG ?_ (by rw[sizeLine_eq];lia))
 let t:((s.H.o (RE "list" #[] 0)).update s.H.M.J (Rg (·++vs.toArray))).M.J=s.H.M.J+1:=by simp
 let Y:(((s.H.o (RE "list" #[] 0)).update s.H.M.J (Rg (·++vs.toArray))).o (RE "list" vs.toArray 0)).R (s.H.M.J+1)=Z (RE "list" vs.toArray 0):=by rw[← t];exact QX _ U
 show wpAny _ _ _ _ _ {s,((s.H.o (RE "list" #[] 0)).update s.H.M.J (Rg (·++vs.toArray))).o (RE "list" vs.toArray 0)};rw[t];let d:∀(b:e8)(o:hr),s.H.R b=Z o->(((s.H.o (RE "list" #[] 0)).update s.H.M.J (Rg (·++vs.toArray))).o (RE "list" vs.toArray 0)).R b=Z o:=λb o q=>by
  let r:b<s.H.M.J:=QH q;rw[fc.get?_push_ne _ _ _ (by rw[t];exact LQ (Nj r)),fc.get?_update_ne _ _ _ _ (LQ r),fc.get?_push_ne _ _ _ (LQ r)]
  exact q
 refine QS (QT (Rv slot_list_sort ⟨_,Y,U⟩ entry_list_sort (xF Y (λv H=>(g v H).keep λb o _ q=>d b o q) a λout n I=>⟨_,U,?_⟩) (args_list_sort _)));let c:=λv H=>AU (g v H) λb o _ q=>d b o q;exact QV ⟨_,U,h out n (List.Pairwise.imp_of_mem (λ{u v} eK H q=>by rw[← c u (n.mem_iff.mp eK),← c v (n.mem_iff.mp H)];exact q) I)⟩
end
def PAt(H:Hp)(ys:E V)(ps:E (G×G)):Prop:=ys.L=ps.L/\∀(i:R)(p:G×G),ps[i]?=Z p->∃ t,ys[i]?=Z (.ref t)/\H t=Z (.tup [.int p.1,.int p.2])
theorem PAt.mono{ps:E (G×G)}(h:PAt H ys ps)(s:∀ b o,H b=Z o->H' b=Z o):PAt H' ys ps:=⟨h.1,λi p e=>by
 let t a b:=h.2 i p e
 erw[t,a,s _ _ b]⟩
theorem PAt.nil(H:Hp):PAt H [] []:=⟨U,λi p e=>by simp at e⟩
theorem PAt.app{ps qs:E (G×G)}(h:PAt H ys ps)(g:PAt H zs qs):PAt H (ys++zs) (ps++qs):=⟨by rw[Lx,Lx,h.1,g.1],λi p e=>by
 by_cases c:i<ps.L
 .rw[Ls c]at e;let t a b:=h.2 i p e;erw[t,by rw[Ls (by grind)];exact a,b]
 .rw[Lr ∅]at e
  let t a b:=g.2 _ p e
  erw[t,by rw[Lr (by let:=h.1;lia),h.1];exact a,b]⟩
theorem PAt.one{t:e8}{p:G×G}(h:H t=Z (.tup [.int p.1,.int p.2])):PAt H [.ref t] [p]:=⟨U,λi q e=>by
 match i,e with
 |0,e=>cases e;erw[t,U,h]⟩
theorem PAt.rev{ps:E (G×G)}(h:PAt H ys ps):PAt H ys.x ps.x:=⟨by rw[ON,ON,h.1],λi p e=>by
 let B:=(Lm.mp e).1;rw[ON]at B;rw[Ph B]at e;let t a b:=h.2 _ p e
 erw[t,by rw[Ph (by rw[h.1];exact B),h.1];exact a,b]⟩
inductive rSortQ(K:Lo)(xs:E V)(H:L2.Hp)(Q:L2.VK):Prop
 |mk (p:e8)(ys:E V)(ps:E (G×G)) (_:xs=[.ref p])(_:na p ys)(_:PAt H ys ps)(_:ys.L<64)(_:∀(l:e8)(out:E V)(ps':E (G×G)),H l=k7->ps'.Perm ps->ps'.y (λa b=>a.1<=b.1)->PAt H out ps'->Q (.ref l) (upd H l (.lst out)))
def B5:eO X (.builtin "sorted") (rSortQ X.K):=by
 intro B s O H J eg Q I r h;let p t ps rfl C hL ae q:=h;let u rfl ru:=i7 r
 cases ru
 let g rv pl c:=I.list C;let d:=rv.L;let aa:∀(i:R)(v:eN),g[i]?=Z v->∃(a:e8)(o:hr)(n:R)(tx ty:Tok)(r:G×G),v=.ref a/\ps[i]?=Z r/\t[i]?=Z (.ref a)/\H a=Z (.tup [.int r.1,.int r.2])/\s.H.R a=Z o/\o.cls=.type "tuple"/\o.data=.seq #[.int r.1 tx,.int r.2 ty] n:=λi v m=>by
  let f:i<g.L:=(Lm.mp m).1;let am N:∃ r,ps[i]?=Z r:=⟨_,Ll (by let:=hL.1;lia)⟩
  let a ya T:=hL.2 i am N;let v' ab rel:=rv.get ya;rw[m]at ab
  cases ab
  cases (show v=eN.ref a from rel)
  let _ ac x ob b1 b2 nb b3:=(show bE X.e X.w H s.H a (.tup [.int am.1,.int am.2]) from I.hok a _ T);let u1 u2 rfl{t1 rfl}{t2 rfl}:=Ba x;erw[a,ob,nb,t1,t2,am,U,N,ya,T,b1,b2,b3]
 let al:∀ v∈g,∃ i,g[i]?=Z v:=λv m=>Mx m;let aI:∀ v∈g,PrV s.H v:=λv m=>by
  let i f:=al v m;let a o n tx ty r rfl N _ _ Y L A:=aa i v f;erw[a,o,n,r.1,r.2,tx,ty,U,Y,L,A]
 let an:∀(i:R)(v:eN)(r:G×G),g[i]?=Z v->ps[i]?=Z r->prOf s.H v=r:=λi v r m N=>by
  let a o n tx ty r' rfl D _ _ Y L A:=aa i v m;rw[N]at D
  cases D
  exact xW Y A
 refine sV pl.isList aI ∅ λout pm up=>?_
 let ap:g.h (prOf s.H)=ps:=by
  refine PV λi=>?_;rw[LA];by_cases f:i<g.L
  .let r N:∃ r,ps[i]?=Z r:=⟨_,Ll (by let:=hL.1;lia)⟩
   rw[N,Ll f];show Z _=_;rw[an i _ r (Ll f) N]
  .rw[MI ∅,MI (by let:=hL.1;lia)]
   rfl
 let M r3 l3 m3:=vi rv (out:=out) λv m=>pm.mem_iff.mp m;let e eK:=sortedAll_at s.H g out.toArray
 let LO:PAt H M (out.h (prOf s.H)):=⟨by rw[l3,Lp],λi r N=>by
  rw[LA]at N;let v m rfl:=LL.mp N;let j k:=al v (pm.mem_iff.mp (Ln m));let a o n tx ty r' rfl D _ T Y L A:=aa j v k;let y l:∃ y,M[i]?=Z y:=⟨_,Ll (by rw[l3];exact(Lm.mp m).1)⟩
  let v' ab rel:=r3.get l;rw[m]at ab
  cases ab
  erw[a,3,by rw[xW Y A];exact T]
  rw[l]
  cases y with
  |ref b=>cases (show eN.ref a=eN.ref b from rel);rfl
  |int _=>obtain⟨_,z⟩:=rel;cases z
  |str _=>obtain⟨_,z⟩:=rel;cases z
  |byt _=>obtain⟨_,z⟩:=rel;cases z
  |flt _=>obtain⟨_,z⟩:=rel;cases z
  |non=>cases rel
  |bl _=>cases rel
  |ty _=>cases rel⟩
 let pr:(out.h (prOf s.H)).Perm ps:=by
  let:=pm.h (prOf s.H);rwa[ap]at this
 let pw:(out.h (prOf s.H)).y (λa b=>a.1<=b.1):=Ox.mpr up;erw[.ref (s.H.M.J+1),_,I.laid (t':=s.v) (λ_ _=>sortedAll_old) (NV _) (show bE X.e X.w _ _ _ (.lst M) from⟨?_,out,e,r3,eK⟩),U,q _ M _ (I.hok.fresh (NV _)) pr pw LO];let:=pm.length_eq;exact LN (av ∅)
end L2
namespace L2.C2
open PySem PySem.Spec PyProof.Rows
section
variable{prog:ge}{w:ih}{A:Around}{eg:eN->e9->Prop}{s:e9}{d:e8}
def list_itemsT{r:e8}{es:j5 DictEntry}(l:A.handled=k7)(hv:s.H.IsItemsView r d)(D:Ent s.H d es ep)(N:es.J<=QG)(g:∀ h' c c',(∀ b o,s.H.R b=Z o->h'.R b=Z o)->h'.R s.H.M.J=Z {cls:=.type "list",dict:=k7,data:=.seq c c',slots:=#[]}->(c.J=es.J/\∀(j:R)(v:eN),c[j]?=Z v->∃(t:e8)(e:DictEntry),v=.ref t/\es[j]?=Z e/\s.H.M.J<t/\h'.R t=Z {cls:=.type "tuple",data:=.seq #[e.key,e.val]})->c.n.l->Q (.ref s.H.M.J) {s,h'}):
  li A (call (.type "list") [.ref r]) Q eg s:=by
 let k u L y:=id hv;let i I H m:=id D;refine callType_codes (Q₁:=λf C=>f=.ref s.H.M.J/\C={s,s.H.o {cls:=.type "list",data:=.seq #[]}}) PySem.F.called_list (Qx _) Qz
  (code_list_new _ ⟨U,U⟩) λf C a=>?_
 let rfl rfl:=a;let x:(s.H.o {cls:=.type "list",data:=.seq #[]}).R s.H.M.J=Z {cls:=.type "list",data:=.seq #[]}:=QX _ U;let z:s.H.M.J≠r:=MZ (QH u);let h:s.H.M.J≠d:=MZ (QH I);erw[⟨_,x,U⟩,Qs _ _,3];show wpAny _ _ (do let old ← R4 (.ref s.H.M.J);ii.List.listUpdate (.ref s.H.M.J) (λ_=>#[]);letGo old.n.x;RZ (.ref s.H.M.J) (.ref r) .none) _ _ _
 refine QS ?_;unfold R4;refine QS (RK x U (QV ?_));show wpAny _ _ (RN s.H.M.J (λ_=>#[]) >>= λ_=>letGo (#[]:j5 eN).n.x >>= λ_=>RZ (.ref s.H.M.J) (.ref r) .none) _ _ _;refine QS (RO x U ?_);let p:=Rh (Rg (λ_=>(#[]:j5 eN))) x U;let oth:∀ b o,s.H.R b=Z o->((s.H.o {cls:=.type "list",data:=.seq #[]}).update s.H.M.J (Rg (λ_=>(#[]:j5 eN)))).R b=Z o :=
  λb o e=>(Ri _ _ (MZ (QH e))).Q (QW _ e)
 refine QS (RD ?_);refine BI (A:=A.in1) l ⟨k,oth _ _ u,L,y⟩ ⟨i,oth _ _ I,H,m⟩ N z h p λh' c c' eK B n T=>?_
 erw[U,g h' c c' (λb o e=>eK b o (LQ (QH e)) (oth b o e)) B ⟨n.1,λj v hv=>by
  let t e J q x3 M:=n.2 j v hv;erw[t,e,J,q,3,M];rw[RH,size_push']at x3
  exact x3⟩ T]
end
end L2.C2
namespace L2.AT
open PySem PySem.Spec PyProof.Rows
section
variable{X:Cx}{pins:E (e8×hr)}{σ:St}{H H':Hp}{s:e9}{h':fc}
def Inv.many(I:Inv X pins σ H s)(k:∀ b o,s.H.R b=Z o->h'.R b=Z o)(N:∀ b,b<s.H.M.J->H' b=H b)(new:∀ b u,s.H.M.J<=b->H' b=Z u->bE X.e X.w H' h' b u):Inv X pins σ H' {s with heap:=h',toks:=t'}:=by
 let up:∀ b u,H b=Z u->H' b=Z u:=λb u e=>by rw[N b (I.hok.lt e)];exact e
 refine I.un ⟨λb o e n _ _=>k b o e,λb o e n _ _=>⟨o.slots,k b o e⟩,λb o e n _=>by rw[N b (QH e)];exact n,λb o e _=>⟨o,k b o e⟩,λb J e=>up b _ e,λb o u e=>up b _ e,λb T e=>⟨#[],by rw[up b _ e];simp⟩⟩ λb u e=>?_
 by_cases z:b<s.H.M.J
 .rw[N b z]at e;exact(I.hok b u e).stay (λc v _ q=>k c v q) (λc q=>up c _ q) λc J q=>up c _ q
 .exact new b u (OB z) e
def GP{l:E (e8×α)}{x:α}(nd:(l.h (·.1)).l)(h:(a,x)∈l):l.Z a=Z x:=by
 induction l with
 |nil=>cases h
 |cons p r O =>
  rw[LX,LF]at nd;obtain e|h:=Lz.mp h
  .subst e;simp[O6]
  .let ne:(a == p.1)=kt:=beq_eq_false_iff_ne.mpr λz=>nd.1 (z▸LW.mpr ⟨_,h,U⟩)
   simp only[O6,ne];exact O nd.2 h
def DJ{l:E (e8×α)}{x:α}(h:l.Z a=Z x):(a,x)∈l:=by
 induction l with
 |nil=>cases h
 |cons p r O =>
  simp only[O6]at h;split at h
  .rename_i e
   cases h
   let:=beq_iff_eq.mp e;rw[this];exact Ly
  .exact Lu _ (O h)
def adr:eN->e8
 |.ref a=>a
 |_=>0
end
end L2.AT
namespace L2
open PySem PySem.Spec PyProof.Rows AT
inductive rListT(xs:E V)(H:L2.Hp)(Q:L2.VK):Prop
 |mk (v d:e8)(kvs:E (Key×V))(ps:E (G×G)) (_:xs=[.ref v])(_:H v=Z (AL v d))(_:H d=Z (.dK kvs))(_:kvs=ps.h (λe=>(Sum.inl e.1,V.int e.2)))(_:∀(l:e8)(out:E V)(H':Hp),(∀ b u,H b=Z u->H' b=Z u)->H l=k7->H' l=Z (.lst out)->out.L=ps.L->(∀(i:R)(e:G×G),ps[i]?=Z e->∃ t,out[i]?=Z (.ref t)/\H' t=Z (.tup [.int e.1,.int e.2]))->Q (.ref l) H')
def B7(T:X.calm=kf):eO X (.type "list") rListT:=by
 intro B s O H n us Q I r h;let v d p ps rfl y hd ek q:=h;let u rfl ru:=i7 r
 cases ru
 let vw _ _:=(show bE X.e X.w H s.H v (AL v d) from I.hok v _ y);let _ D ep ap aI aX:=EE (P:=X.e) (w:=X.w) (H:=H) (h:=s.H) (d:=d) (u:=.dK p) True.intro (I.hok d _ hd);let hz _:=(show bE X.e X.w H s.H d (.dK p) from I.hok d _ hd);let aS:D.J=ps.L:=by
  rw[aI];show p.L=_;rw[ek,Lp]
 let kl:p.L=ps.L:=by rw[ek,Lp]
 let a0:∀(j:R)(e:DictEntry),D[j]?=Z e->∃ x tx ty,ps[j]?=Z x/\e.key=.int x.1 tx/\e.val=.int x.2 ty:=λj e eK=>by
  let a b c1 c2 c3:=aX j e eK;rcases c1 with⟨aa,k,C,eg,e3⟩|⟨_,_,_,C,_⟩
  .cases C;rw[ek,LA]at eg;let x J e4:=LL.mp eg
   cases e4
   subst e3;let tx e5:=(show ∃ t,e.key=eN.int x.1 t from c2);let ty e6:=(show ∃ t,e.val=eN.int x.2 t from c3);erw[x,tx,ty,J,e5,e6]
  .cases C
 refine C2.list_itemsT (I.ok.hd T) vw ap (by rw[aI];exact hz) λg ab c o hS am ac=>?_
 let tk:∀ w∈ab.n,∃(j:R)(t:e8)(x:G×G)(tx ty:Tok),ab.n[j]?=Z w/\w=.ref t/\ps[j]?=Z x/\s.H.M.J<t/\g.R t=Z {cls:=.type "tuple",data:=.seq #[.int x.1 tx,.int x.2 ty]}:=λw hw=>by
  let j hj:=Mx hw;let t e a1 a2 a3 a4:=am.2 j w (by rw[← MQ];exact hj)
  let x tx ty b1 b2 b3:=a0 j e a2;rw[b2,b3]at a4;erw[j,t,x,tx,ty,hj,a1,b1,a3,a4]
 let al:ab.n.L=ps.L:=by rw[L9,am.1,aS]
 let an:(ab.n.h adr).h eN.ref=ab.n:=by
  rw[Nd];refine(M7 (g:=id) λw hw=>?_).Q (List.map_id _);let _ t _ _ _ _ a2 _:=tk w hw;rw[a2];rfl
 let a6:(ab.n.h adr).l:=by
  rw[← an]at ac;exact(Ox.mp ac).imp λh e=>h (by rw[e])
 let zk:((ab.n.h adr).zip ps).h (·.1)=ab.n.h adr:=List.map_fst_zip (by rw[Lp,al];exact Lq _)
 let N ae:∃ N:Hp,N=λb=>if b=s.H.M.J then Z (.lst ((ab.n.h adr).h V.ref)) else match((ab.n.h adr).zip ps).Z b with|some e=>Z (.tup [.int e.1,.int e.2])|none=>H b:=⟨_,U⟩
 let low:∀ b,b<s.H.M.J->N b=H b:=λb M=>by
  rw[ae];show(if b=s.H.M.J then _ else _)=_;rw[R6 (LQ M)]
  cases z:((ab.n.h adr).zip ps).Z b with
  |none=>rfl
  |some e =>
   let m:=DJ z;let w hw ew:=LW.mp (Pe m).1;let _ t _ _ _ _ a2 _ a4 _:=tk w hw;subst a2;let:t=b:=ew;subst this;exact R7 M (O8 (LN a4))
 let aT:∀(i:R)(e:G×G),ps[i]?=Z e->∃ t tx ty,ab.n[i]?=Z (.ref t)/\s.H.M.J<t/\N t=Z (.tup [.int e.1,.int e.2])/\g.R t=Z {cls:=.type "tuple",data:=.seq #[.int e.1 tx,.int e.2 ty]}:=λi e eK=>by
  let f:i<ab.n.L:=by rw[al];exact(Lm.mp eK).1
  let j t x tx ty a1 a2 a3 a4 a5:=tk _ (MT f);let ej:i=j:=(List.getElem?_inj f ac).mp ((Ll f).Q a1.Y);subst ej;rw[eK]at a3
  cases a3
  rw[a2]at a1;erw[t,tx,ty,a1,a4,3,a5];rw[ae];show(if t=s.H.M.J then _ else _)=_;rw[R6 (MZ a4),GP (by rw[zk];exact a6) (x:=e) (Ln (i:=i) (by rw[OX];erw[by rw[LA,a1];rfl,eK]))]
 let I2:nv O N {s,g}:=by
  refine Inv.many (t':=s.v) I o low λb u M hu=>?_;by_cases zb:b=s.H.M.J
  .subst zb;let eg:N s.H.M.J=Z (.lst ((ab.n.h adr).h V.ref)):=by rw[ae];exact R5 U
   rw[eg]at hu
   cases hu
   erw[by rw[Lp,Lp,al,← kl];exact hz,ab.n,c,15]
   .let:∀ l:E e8,Vals (l.h V.ref) (l.h eN.ref):=λl=>by
     induction l with
     |nil=>exact .nil
     |cons a l A=>exact .cons U A
    let z:=this (ab.n.h adr);rw[an]at z;exact z
   .exact hS
  .let eg:N b=(match((ab.n.h adr).zip ps).Z b with|some e=>Z (.tup [.int e.1,.int e.2])|none=>H b):=by rw[ae];exact R6 zb
   rw[eg]at hu
   cases z:((ab.n.h adr).zip ps).Z b with
   |none =>
    rw[z]at hu;let:=I.hok.lt (show H b=Z u from hu);exact R7 M (Nat.not_le_of_lt this)
   |some e =>
    rw[z]at hu
    cases hu
    let m:=DJ z;let i f:=Mx m;let Y L:=OX.mp f;rw[LA]at Y;let t tx ty b1 b2 b3 b4:=aT i e L;rw[b1]at Y
    cases Y
    erw[(by decide:(2:R)<=QG),[.int e.1 tx,.int e.2 ty],.cons ⟨tx,U⟩ (.cons ⟨ty,U⟩ .nil),_,b4,38]
 erw[.ref s.H.M.J,N,I2,U,q s.H.M.J _ N (λb u e=>by rw[low b (I.hok.lt e)];exact e) (I.hok.fresh (Lq _)) (by rw[ae];exact R5 U) (by rw[Lp,Lp,al]) λi e eK=>?_]
 let t _ _ b1 _ b2 _:=aT i e eK;erw[t,by rw[LA,LA,b1];rfl,b2]
end L2
namespace L2
open PySem PySem.Spec PyProof.Rows
inductive rMaxT(K:Lo)(xs:E V)(H:L2.Hp)(Q:L2.VK):Prop
 |mk (p:e8)(ns:E G) (_:xs=[.ref p])(_:SqT K H p (ns.h V.int))(_:0<ns.L)(_:∀ m:G,m∈ns->(∀ x∈ns,x<=m)->Q (.int m) H)
def Fc(T:X.calm=kf):eO X (.builtin "max") (rMaxT X.K):=by
 intro B s O H J eg Q I r h;let p ns rfl y z q:=h;let u rfl ru:=i7 r
 cases ru
 let g rv pl d:=I.tuple y;let f:=pM rv;let x e:=f.allInts.items;let o w aa n hd:=pl;rw[e]at hd;let c:s.H.IsTuple p (intItems x):=⟨o,w,aa,n,hd⟩;let C:ns=x.n.h (·.1):=by
  rw[← nums_intItems,← e];exact(show numsOf g.toArray.n=ns from f.numsOf).Y
 subst C;rw[Lp,L9]at z;let lt:p<s.H.M.J:=QH w;refine call_max_walk (wpAny_pyIter_tuple c ?_);erw[38229,Walks.tuple (A:=X.A.in1) (I.ok.hd T) _ p (LQ lt) (intItems x),⟨⟨_,QX _ U,U,U⟩,⟨o,QW _ w,aa,n,hd⟩⟩,λb M=>?_,by simpa[intItems] using z,CmpOf.ints_gt (numAt x) (λ_ _=>intItems_at),λv N tk hP eK=>?_]
 .show b<(s.H.o _).M.J;rw[Q8];simp only[Lz,Ny,or_false]at M;obtain rfl|rfl:=M
  .exact Nl _
  .exact Nj lt
 .let m:(intItems x)[argBest (λi j=>decide (numAt x i > numAt x j)) (x.J-1)]?=Z v:=by simpa[intItems] using hP
  let t rfl:=intItems_at m;let Y L:=argBest_gt (numAt x) (x.J-1);erw[.int _,H,I.kept (t':=tk) λb o e=>eK b o (λD=>?_) (QW _ e),⟨t,U⟩,q _ ?_ λa l=>?_]
  .simp only[Lz,Ny,or_false]at D;exact R7 (D▸QH e) (Nr _)
  .rw[numAt_eq];exact Qo (by rw[Lp,L9];lia)
  .let j k rfl:=Qn l;rw[Lp,L9]at k;rw[← numAt_eq];exact L j ∅
theorem Ca(h:X.K=K)(T:X.calm=kf):eO X (.builtin "max") (rMaxT K):=h▸Fc T
end L2
namespace L2
open PySem PySem.Spec PyProof.Rows PySem.Calls Builtin Builtin.ObjectAttr Builtin.Getset_descriptor
def rC(x D:e8)(h:fc):Prop:=∃ o,h.R x=Z o/\o.cls=.ref D
def rC.type{x D:e8}(M:Model)(I:rC x D h):O4 M h (typeOf (.ref x)) (.ref D):=by
 let o a b:=I;exact b▸(PySem.W.Looks.ld a).andThen .now
structure ErC(K:Lo)(D:e8):Prop where
 ga:LS K (.ref D) "__getattribute__"=Z (Z (.builtin "BaseException.__getattribute__"))
 gt:LS K (.ref D) "__getattr__"=Z k7
 hb:Nz K D (.type "BaseException")=Z kf
 hd:NB K D=kf
 ha:LS K (.ref D) "__class__"=Z (Z (.builtin "object.__class__"))
 hn:PN K (.builtin "object.__class__") "__get__"=Z (Z (.builtin "getset_descriptor.__get__"))
 tk:Qf K (.builtin "object.__class__")=Z kf
 hm:Nz K D (.type "object")=Z kf
section
variable{prog:ge}{w:ih}{A:Around}{eg:eN->e9->Prop}{s:e9}{K:Lo}{x D:e8}
def KA{M:Model}(X:K.In h)(e:ErC K D):O4 M h (find (.ref x) (.ref D) "__class__") (.bind (.builtin "getset_descriptor.__get__") (.builtin "object.__class__")):=by
 let O:=OF (M:=M) X e.ha;let L2:=PySem.W.looks_specialIn (M:=M) X e.hn;let b:=PySem.W.looks_takesIn (M:=M) X e.tk;refine O.andThen (L2.andThen ?_);exact(show O4 M h (dataDescriptor? (Z (.builtin "object.__class__")) (Z (.builtin "getset_descriptor.__get__"))) (Z (.builtin "getset_descriptor.__get__",.builtin "object.__class__")) from b.andThen .now).andThen (PySem.W.Looks.tag .now)
def kd_get{ad:Except eN Flow->e9->Prop}{tp:eN}(X:K.In s.H)(I:rC x D s.H)(e:ErC K D)(h:ad (.ok (.ret (.ref D))) s):Q7 (model prog w) A (.call (.builtin "getset_descriptor.__get__") ⟨[.builtin "object.__class__",.ref x,tp],[]⟩) ad s:=by
 let l g J t os:=s;let c:=I.type (model prog w);let O:=Py (M:=model prog w) X e.hm;refine codeAny_call_builtin PySem.W.KF.slot_gs.plain PySem.W.KF.entry_gs (PySem.W.KF.slot_gs.check _ _ _ _ _ _ _ _ PySem.W.KF.type_class (PySem.W.KF.args_gs _ _ _) ?_);unfold ii.«getset_descriptor.__get__» descrGet;rw[PySem.W.dga_obj];refine QS (QV ?_);unfold descrGetter descrCheckInstance descrNameAndClass isInstance;simp only[PySem.W.KF.owner_class];repeat lk
 erw[Code.quiet_builtin _ ∅,RI PySem.W.KF.entry_class ?_]
 unfold ii.«object.__class__» shownTypeOf;repeat lk
 exact h
def GX{M:Model}{Q:Unit->e9->Prop}(X:K.In s.H)(I:rC x D s.H)(e:ErC K D)(y:Q () s):wpAny M A (checkBuiltinCall "BaseException.__getattribute__" ⟨[.ref x,u],[]⟩) Q eg s:=by
 let l g d t os:=s;let eK:builtinKind "BaseException.__getattribute__"=Z .slot:=by decide
 let a:splitId "BaseException.__getattribute__"=Z ("BaseException","__getattribute__"):=by decide
 let T:=F.args_bexc_ga (.ref x) u;let c:=I.type M;let O:=Py (M:=M) X e.hb;let b:O4 M l (isInstance (.ref x) (.type "BaseException")) kf:=c.andThen O;simp only[checkBuiltinCall,eK,a];refine QS (b.at ?_);repeat (first|assumption|wp_step)
def GV{tk:Tok}{Q:Fin->e9->Prop}(X:K.In s.H)(I:rC x D s.H)(e:ErC K D)(h:Q (.done (.ret (.ref D))) s):li A (ii.«object.__getattribute__» ⟨[.ref x,.str "__class__" tk],[]⟩) Q eg s:=by
 let l g d t os:=s;let c:=I.type (model prog w);let L2:=KA (x:=x) (M:=model prog w) X e;unfold ii.«object.__getattribute__»;repeat (first|assumption|with_reducible refine c.at ?_|with_reducible refine L2.at ?_|with_reducible refine wpAny_call (kd_get (K:=K) X I e ?_)|wp_step)
def GW{Q:io eN->e9->Prop}(X:K.In s.H)(I:rC x D s.H)(e:ErC K D)(h:Q (Z (.ref D)) {s with toks:=s.v+1}):li A (getAttr? (.ref x) "__class__") Q eg s:=by
 let l g d t os:=s;let c:=I.type (model prog w);let O:=OF (M:=model prog w) X e.ga;let b:=OF (M:=model prog w) X e.gt;let j:=F.excAttr_ValueError.ga.bind (.ref x);unfold getAttr? getAttrBy? getAttrBy;refine QS (wpAny_mkText (QS (wpAny_attempt (QT (QS (c.at (QS (O.at ?_))))))));show wpAny _ _ (getAttrByItsOwn _ _ _ _ _ _) _ _ _;unfold getAttrByItsOwn;refine QS (show wpAny _ _ (typeLookup _ _) _ _ _ from b.at ?_);refine QS (wpAny_attempt (QT ?_));show wpAny _ _ (boundAndCalled _ _ _) _ _ _;unfold boundAndCalled;rw[j];refine QS (QV ?_);refine wpAny_call (codeAny_call_builtin F.excAttr_ValueError.ga.plain F.entry_bexc_ga (GX (s:=⟨l,g,d,t+1,os⟩) X I e (GV (s:=⟨l,g,d,t+1,os⟩) X I e ?_)));exact QN (PySem.W.handed_on U (Q:=λv m=>v=.ref D/\m=⟨l,g,d,t+1,os⟩) ⟨U,U⟩) (λv a H=>by let rfl rfl:=H;exact QV h) (λ_ _ z=>z)
theorem AK(e:ErC K D):PySem.W.KitX K (.ref x) (.ref D) (rC x D) where
 ty:=λM _ _ I=>I.type M
 it:=λ_ _ X _=>by
  let c f _:=P6 e.hd;unfold Qw at f;split at f
  .rename_i T v i w t;intro j a H m k q;unfold isType loadHead;exact QS (wpAny_loadPart (k _ _ (X _ _ t)) (QV q))
  .cases f
 ne:=λh tp r g n d X b=>by
  let c f _:=P6 e.hd;refine i0.eq_false_iff.mpr λq=>?_;let e:D=tp:=eN.ref.inj (beq_iff_eq.mp q);subst e;unfold Qw at f;split at f
  .rename_i T v i w t;let z:=(X _ _ t).Y.Q b
   cases z
  .cases f
 ca:=λX I k=>GW X I e k
end
end L2
namespace L2
open PySem PySem.Spec PyProof.Rows
structure DK(h h':fc):Prop where
 le:h.M.J<=h'.M.J
 d:∀(e:e8)(o':hr),e<h.M.J->h'.R e=Z o'->∃ o,h.R e=Z o/\o'.dict=o.dict
theorem DK.rfl'(h:fc):DK h h:=⟨Lq _,λ_ j _ q=>⟨j,q,U⟩⟩
theorem DK.trans{a b c:fc}(x:DK a b)(y:DK b c):DK a c:=⟨MB x.le y.le,λe j eK q=>by
 let g k d1:=y.d e j (Mb eK x.le) q;let o H p:=x.d e g eK k
 erw[o,H,d1.Q p]⟩
def DK.upd{f:hr->hr}(T:(h.R a).isSome)(C:∀ o,(f o).dict=o.dict):DK h (h.update a f):=by
 erw[P2 (RH ..).Y,λe j eK q=>?_];by_cases z:a=e
 .subst z;let o H:=O1.mp T;let k _:=fc.get?_some_iff.mp q;let L _:=fc.get?_some_iff.mp H;erw[o,H,3]
  cases h
  simp only[fc.update,j5.getElem?_modify,if_true]at k;simp only at L;rw[L]at k
  cases k
  exact C o
 .rw[Ri _ _ z]at q;erw[j,q,U]
def DK.psh(h:fc)(o:hr):DK h (h.o o):=by
 erw[by rw[Q8];exact NV _,λe j eK q=>?_]
 rw[fc.get?_push_ne _ _ _ (LQ eK)]at q;erw[j,q,U]
def aU{α:Type}:Sem α->Prop
 |.pure _=>True
 |.raise _=>True
 |.unsupported _=>True
 |.finish _=>True
 |.rule _ k=>aU (k ())
 |.at _ k=>aU (k ())
 |.load _ _ k=>∀ o,aU (k o)
 |.update _ _ f k=>(∀ o,(f o).dict=o.dict)/\aU (k ())
 |.alloc _ k=>∀ a,aU (k a)
 |.loadIfAlive _ k=>∀ o,aU (k o)
 |.point _ k=>aU (k ())
 |.register _ _=>True
 |.fresh k=>∀ t,aU (k t)
 |.ask k=>∀ t,aU (k t)
 |.choose _ _ k=>∀ t,aU (k t)
 |.os _ _ k=>∀ t,aU (k t)
 |.call _ _ _ _ _=>False
 |.handled _ k=>∀ t,aU (k t)
 |.newGen _ k=>∀ t,aU (k t)
 |.genState _ k=>∀ t,aU (k t)
 |.resume _ _ _ _=>False
 |.yield _ _ _ _=>True
 |.stack k=>∀ t,aU (k t)
 |.fork _ _=>True
 |.thread k=>∀ t,aU (k t)
 |.await _ _ _ _ _=>True
def aU.bind{α j:Type}{m:Sem α}{f:α->Sem j}(D:aU m)(C:∀ a,aU (f a)):aU (m >>= f):=by
 show aU (m.bind f);induction m with
 |pure a=>exact C a
 |raise e=>exact True.intro
 |unsupported w=>exact True.intro
 |finish e=>exact True.intro
 |rule t k O=>exact O () D
 | «at» p k O=>exact O () D
 |load a p k O=>exact λo=>O o (D o)
 |update a p g k O=>exact⟨D.1,O () D.2⟩
 |alloc o k O=>exact λa=>O a (D a)
 |loadIfAlive a k O=>exact λo=>O o (D o)
 |point l k O=>exact O () D
 |register a k O=>exact True.intro
 |fresh k O=>exact λo=>O o (D o)
 |ask k O=>exact λo=>O o (D o)
 |choose s n k O=>exact λo=>O o (D o)
 |os q l k O=>exact λo=>O o (D o)
 |call c h g l k O=>exact D.elim
 |handled o k O=>exact λo=>O o (D o)
 |newGen c k O=>exact λo=>O o (D o)
 |genState g k O=>exact λo=>O o (D o)
 |resume g r l k O=>exact D.elim
 |yield v g l k O=>exact True.intro
 |stack k O=>exact λo=>O o (D o)
 |fork c k O=>exact True.intro
 |thread k O=>exact λo=>O o (D o)
 |await a t d l k O=>exact True.intro
def Ho{M:Model}{b:PySem.Ctx}(m:Sem α)(D:aU m)(Q:α->Pos->e9->Prop)(eg:eN->Pos->e9->Prop)(p:Pos)(s:e9)(h:Sem.wp M b m Q eg p s):
  Sem.wp M b m (λa A s'=>Q a A s'/\DK s.H s'.H) (λe A s'=>eg e A s'/\DK s.H s'.H) p s:=by
 let go:∀{m:Sem α}{p:Pos}{s s1:e9},DK s.H s1.H->Sem.wp M b m (λa A s'=>Q a A s'/\DK s1.H s'.H) (λe A s'=>eg e A s'/\DK s1.H s'.H) p s1->Sem.wp M b m (λa A s'=>Q a A s'/\DK s.H s'.H) (λe A s'=>eg e A s'/\DK s.H s'.H) p s1 :=
  λ{m p s s1} d z=>Sem.wp_mono M b m (λa A s' q=>⟨q.1,d.Q q.2⟩) (λa A s' q=>⟨q.1,d.Q q.2⟩) p s1 z
 induction m generalizing p s with
 |pure a=>rw[Sem.wp]at h ⊢;erw[h,DK.rfl' _]
 |raise e=>rw[Sem.wp]at h ⊢;erw[h,DK.rfl' _]
 |unsupported w=>rw[Sem.wp]at h;exact h.elim
 |finish e=>rw[Sem.wp]at h;exact h.elim
 |rule t k O=>rw[Sem.wp]at h ⊢;exact O () D p s h
 | «at» A k O=>rw[Sem.wp]at h ⊢;exact O () D A s h
 |load a pt k O=>rw[Sem.wp]at h ⊢;let o e h:=h;erw[o,e,O o (D o) p s h]
 |update a pt g k O=>rw[Sem.wp]at h ⊢;erw[h.1,go (DK.upd h.1 D.1) (O () D.2 p _ h.2)]
 |alloc o k O=>rw[Sem.wp]at h ⊢;exact go (DK.psh _ _) (O _ (D _) p _ h)
 |loadIfAlive a k O=>rw[Sem.wp]at h ⊢;exact O _ (D _) p s h
 |point l k O=>rw[Sem.wp]at h ⊢;exact O () D p s h
 |register a k O=>rw[Sem.wp]at h;exact h.elim
 |fresh k O=>rw[Sem.wp]at h ⊢;exact O _ (D _) p _ h
 |ask k O=>rw[Sem.wp]at h ⊢;exact O _ (D _) p s h
 |choose f n k O=>rw[Sem.wp]at h ⊢;erw[h.1,O _ (D _) p _ h.2]
 |os q l k O=>rw[Sem.wp]at h ⊢;exact O _ (D _) p _ h
 |call c eK g l k O=>exact D.elim
 |handled o k O=>rw[Sem.wp]at h ⊢;exact O _ (D _) p s h
 |newGen c k O=>rw[Sem.wp]at h ⊢;exact O _ (D _) p _ h
 |genState g k O=>rw[Sem.wp]at h ⊢;let o e h:=h;erw[o,e,O _ (D _) p s h]
 |resume g r l k O=>exact D.elim
 |yield v g l k O=>rw[Sem.wp]at h;exact h.elim
 |stack k O=>rw[Sem.wp]at h ⊢;exact O _ (D _) p s h
 |fork c k O=>rw[Sem.wp]at h;exact h.elim
 |thread k O=>rw[Sem.wp]at h ⊢;exact O _ (D _) p s h
 |await a t d l k O=>rw[Sem.wp]at h;exact h.elim
theorem pB{M:Model}{m:Sem α}(D:aU m){Q:α->e9->Prop}(h:wpAny M A m Q eg s):wpAny M A m (λa s'=>Q a s'/\DK s.H s'.H) (λe s'=>eg e s'/\DK s.H s'.H) s :=
 λb p c=>Ho m D _ _ p s (h b p c)
theorem bh(a:α):aU (pure a:Sem α):=True.intro
theorem wJ(w:String):aU (PySem.unsupported w:Sem α):=True.intro
def dI{c:Prop}[Decidable c]{a b:Sem α}(T:aU a)(M:aU b):aU (if c then a else b):=by split<;>assumption
theorem oo(a:e8):aU (load a):=λ_=>True.intro
theorem l4:aU stack:=λ_=>True.intro
def rJ(v:eN):aU (fieldsOf v):=by
 unfold fieldsOf
 cases v with
 |ref a =>
  refine aU.bind (oo a) λo=>?_
  cases o.data<;>exact True.intro
 |_=>exact True.intro
def iN(v:eN)(i:R):aU (field v i):=by
 unfold field;refine aU.bind (rJ v) λL=>?_
 cases L[i]?<;>exact True.intro
def gF(v:eN)(i:R)(x:eN):aU (setField v i x):=by
 unfold setField
 cases v with
 |ref a =>
  show aU (updateField a i x);unfold updateField;refine aU.bind (oo a) λo=>?_
  cases o.data with
  |fields L =>
   refine dI ?_ (wJ _);erw[λo=>?_,True.intro];unfold hr.mapFields;split<;>rfl
  |_=>exact True.intro
 |_=>exact True.intro
def fT(e:eN)(f:io e8):aU (setFlight e f):=by
 unfold setFlight;refine aU.bind (iN e 1) λr=>?_;exact dI (gF _ _ _) (bh _)
theorem qU:∀ l:E gI,aU (readyFrames l)
 |[]=>True.intro
 |h::u=>by
  unfold readyFrames
  cases h.frame with
  |none=>exact True.intro
  |some f =>
   refine aU.bind (oo f) λo=>?_;refine dI (bh _) ?_;refine aU.bind ?_ λi=>aU.bind ?_ λb=>aU.bind ⟨λo=>rfl,True.intro⟩ λ_=>qU u
   .unfold behindIsImport;refine dI (bh _) (dI (bh _) (aU.bind (iN _ _) λ_=>bh _))
   .unfold keptBack
    cases u with
    |nil=>exact dI (bh _) (aU.bind (by unfold underTheClaimsCaller;exact aU.bind l4 λ_=>bh _) λ_=>bh _)
    |cons c r=>exact bh _
def uJ(env:gI):aU (Qu env):=by
 unfold Qu frameObject frameEnvs;refine aU.bind (aU.bind l4 λ_=>bh _) λl=>aU.bind ?_ λo=>?_
 .cases (l.dropWhile λx=>x.frame != env.frame) with
  |nil=>exact bh _
  |cons e r=>exact aU.bind (qU _) λ_=>bh _
 .cases o<;>exact True.intro
def ze(f:e8)(b:i0):aU (entryPlaceOf f b):=by
 unfold entryPlaceOf;refine aU.bind l4 λa=>?_;split<;>exact True.intro
def jI(e:eN)(env:gI):aU (noteFrame e env):=by
 unfold noteFrame
 cases env.frame with
 |none=>exact True.intro
 |some f =>
  refine aU.bind (iN _ _) λc=>?_
  let n:aU (do
    let a ← Qu env
    let D ← entryPlaceOf f (c != .none)
    let b ← EntryCells.newEntry c a .none (rawInt f) .none D
    setField e 1 b):=by
   refine aU.bind (uJ env) λa=>aU.bind (ze _ _) λD=>aU.bind ?_ λb=>gF _ _ _;unfold EntryCells.newEntry newFields newObj;dsimp only;let g:∀ d:Data,aU (newObjAsIs (.type "traceback") d):=λd=>aU.bind (λ_=>True.intro) λ_=>bh _;exact dI (aU.bind (wJ _) λ_=>g _) (g _)
  refine dI (aU.bind (iN _ _) λz=>dI (bh _) (aU.bind (gF _ _ _) λ_=>n)) n
theorem uI(env:gI)(e:eN):aU (leaving env e):=aU.bind (jI e env) λ_=>fT e k7
def Xd(h:fc)(x:e8)(d:io e8):Prop:=∃ g,h.R x=Z g/\g.dict=d
def Xd.dk{x:e8}{d:io e8}(z:Xd h x d)(k:DK h h')(ex:∃ o,h'.R x=Z o):Xd h' x d:=by
 let g e hd:=z;let j J:=ex;let o eg t:=k.d x j (QH e) J;rw[e]at eg
 cases eg
 erw[j,J,t.Q hd]
def Trc.there{x T:e8}{C:eN}(t:Trc h x C T):∃ o,h.R x=Z o:=by
 let g _ _ _ _ eK _:=t;erw[g,eK]
def CXd(P:ge)(w:ih):CXT:=λu H s eg e m=>∃(x:e8)(C:eN)(T:e8)(eK:Hp)(d:io e8),e=.ref x/\m.os=s.os/\AllBare m.gens/\Un (frs u) [] H eK s.H m.H/\HOk P w eK m.H /\
 s.H.R x=k7/\s.H.R T=k7/\eK x=k7/\eK T=k7/\Trc m.H x C T/\Xd m.H x d/\eg C d eK
abbrev WKD:=eN->io e8->St->Hp->Prop
def WshD(X:Cx)(W:WKD):Prop:=∀(B:E (e8×hr))(O:St)(H:Hp)(s:e9)(x:e8)(C:eN)(d:io e8),nv O H s->XA X B H s x C->Xd s.H x d->W C d O H->X.xe (.ref x) s
theorem Cm{N:E ff}{j:ff}{s₀:e9}{H₀:Hp}{eg:XK}:
  WshD (cxOf (CXd P w) P w K mg base N j scope f u A outer s₀ H₀ eg) (λC d _ H=>eg C d H):=λB O H s x C d I xa z Y=>by
 show wpAny (model P w) (A.deeper (envOfC j scope s₀.H.M.J f u)) (leaving (envOfC j scope s₀.H.M.J f u) (.ref x)) _ _ s;refine QN (pB (uI _ _) (Inv.leave (Q:=λ_ l=>∃ m T,l={s,m}/\Inv (cxOf (CXd P w) P w K mg base N j scope f u A outer s₀ H₀ eg) B O H {s,m}/\XOk (cxOf (CXd P w) P w K mg base N j scope f u A outer s₀ H₀ eg) B H x/\XOk (cxOf (CXd P w) P w K mg base N j scope f u A outer s₀ H₀ eg) B H T/\Trc m x C T) (eg:=λ_ _=>False) I U U U xa λm T D r a n=>⟨m,T,U,D,r,a,n⟩)) ?_ (λ_ _ q=>q.1.elim);rintro _ l ⟨⟨m,T,rfl,D,r,a,n⟩,dk⟩;erw[x,C,T,H,d,U,D.os,D.bare,D.base,D.hok,r.old,a.old,r.trk,a.trk,n,z.dk dk n.there,Y]
structure CalD(P:ge)(w:ih)(K:Lo)(mg:ff->io eN)(base:fc)(k:R)(x:ff)(ps:E ff)(sp:Sp)(f:e8)(fd:fk):Prop where
 ok:FnOk P w K mg base (CXd P w) k f fd ps sp
 bn:fu K fd ps []
 mg:mg x=Z (.ref f)
 kp:Mu K (.ref f)=kf
def Fun.okD{j:ff}{st:fo}{N ps:E ff}{k:R}(F:Fun K x j st f fd)(S:az N ps (aq st))(len:∀ vs H Q eg,sp vs H Q eg->vs.L=ps.L)(b:∀(B:eN)(A:Around)(outer:E gI)(s:e9)(H:Hp)(vs:E V)(Q:VK)(eg:XK),Room k (A.deeper (envOfC j (aq st) s.H.M.J f B))->sp vs H Q eg ->
   let X:=(cxOf (CXd P w) P w K mg base N j (aq st) f B A outer s H eg);let D:Ends:={nx:=λ_ H'=>Q .non H',rt:=Q};∃ t,PSs X (cG st) t/\t D (rE N vs) H):FnOk P w K mg base (CXd P w) (k+1) f fd ps sp:=by
 let g i kV p M m B l d rfl v z:=F.ex;exact KN v z S len λA outer s H vs Q eg I y=>b B A outer s H vs Q eg I y
section
variable{X:Cx}{k:R}{f C:e8}{fd:fk}{ps:E ff}{sp:Sp}{dvs:E V}{ds:E eN}{W:WKD}{x m:ff}{p pos apos:Pos}{e o:fm}{es:E fm}{ta:TE}{t:TA}
def WshD.of{v:eN}(g:WshD X W)(J:X.ex=[])(I:Inv X O σ H s)(h:CXd X.e X.w X.stack H s (λC d H'=>W C d σ H') v s'):X.xe v s':=by
 let x C T H' d rfl os a un A c e i f n z q:=h;let D:Inv X O σ H' s':=I.call' os un A a λb z=>R7 z (by simp)
 exact g O σ H' s' x C d D ⟨I.xok J c i,.inr ⟨T,I.xok J e f,n⟩⟩ z q
def JJ{Q:VK}{vs:E V}(F:FnOk X.e X.w X.K X.mg X.base (CXd X.e X.w) k f fd ps sp)(N:Room k X.A)(M:fu X.K fd ps ds)(hd:Vals dvs ds)(g:WshD X W)(J:X.ex=[])(I:Inv X O σ H s)(r:Vals vs us)(h:sp (vs++dvs) H Q (λC d H'=>W C d σ H')):lf (call (.ref f) us) (EP X O σ Q) X.xe s:=by
 let p:Vals (vs++dvs) (us++ds):=r.append hd;let D:(us++ds).L=ps.L:=by rw[← p.L];exact F.len _ _ _ _ h
 refine wpAny_call (Rb (F.run X.A X.stack s H ⟨us,[]⟩ (us++ds) (vs++dvs) Q _ N I.env0 (M s us I.kIn D) p h) λr m y=>?_)
 cases r with
 |error e=>exact g.of J I y
 |ok B =>
  cases B with
  |ret u=>exact I.after y
  |next=>exact False.elim y
  |brk=>exact False.elim y
  |cont=>exact False.elim y
def HZ(sp:Sp)(dvs:E V)(W:WKD)(t:TA):TE:=λO H Q=>t O H λL l=>sp (L++dvs) l Q λC d eK=>W C d O eK
def F5(F:FnOk X.e X.w X.K X.mg X.base (CXd X.e X.w) k f fd ps sp)(N:Room k X.A)(Y:Gl X x)(D:X.mg x=Z (.ref f))(o:Mu X.K (.ref f)=kf)(M:fu X.K fd ps ds)(hd:Vals dvs ds)(g:WshD X W)(J:X.ex=[])(T:PA X (e::es) t)(u:uP_ ((x == ("__debug__" : ff))=kt) uD_)(eK:uP_ (QM (e::es) X.i=(kt,eval e X.i)::QM es X.i) uR_)(b:uP_ ((backTo pos (QM es X.i)).any (·.1)=kt) uR_):
  PE X (.Call (.Name x p) (e::es) [] pos) (HZ sp dvs W t):=by
 intro B s O H Q I h;refine Rc (lR I Y D ?_ u);refine Oh (h₀:=X.base) I.ok.mod.kin o (thn (T pos B s O H _ I h) λeg j ⟨L,l,n,r,q⟩=>⟨n.kIn,?_⟩) eK b;exact JJ F N M hd g J n r q
end
def Jx(C:e8)(W:WKD)(t:TA):TS:=λ_ O H=>t O H λL l=>L.L<=QG/\W (.ref C) k7 O l
def C8{e:fm}{es:E fm}{t:TA}{W:WKD}{np k:Pos}(f:ExC X.K C)(p:X.mg x=Z (.ref C))(Y:Gl X x)(g:WshD X W)(J:X.ex=[])(d:X.calm=kf)(i:PA X (e::es) t)(eK:uP_ (QM (e::es) X.i=(kt,eval e X.i)::QM es X.i) uR_)(b:uP_ ((backTo k (QM es X.i)).any (·.1)=kt) uR_)(u:uP_ ((x == ("__debug__" : ff))=kt) uD_):
  PS X (.Raise (Z (.Call (.Name x np) (e::es) [] k)) k7 pos) (Jx C W t):=by
 intro B s O H D I h;let tl N nm M bs hdct sn sub ab col dd k0 k1 k2 k3 k5 mN hC w v T _:=Ey f I.ok.mod.kin;let ac:(backTo k (QM (e::es) X.i)).any (·.1)=kt:=by
  rw[eK];show(kt||(backTo k (QM es X.i)).any (·.1))=kt
  rw[b];rfl
 refine wpAny_Raise_call_subT (C:=C) (nm:=nm) (q:=M) (N:=N) (bs:=bs) (bm:=tl) (hdct:=hdct) (sn:=sn) (sub:=sub) (ab:=ab) (col:=col) (dd:=dd) (k0:=k0) (k1:=k1) (k2:=k2) (k3:=k3) (k5:=k5) Qj (mN:=mN) (T.hasType Qj.hasBase) (I.ok.hd d) ac v (lR I Y p ⟨U,?_⟩ u);let z:=i k B s O H _ I h;rw[eK]at z ⊢;refine Calls.evalArgs_plain (QN z (λeg o zz=>?_) λ_ _ y=>y);let L l a r A q:=zz;erw[U,by rw[← r.L];exact A,a.bk _ _ hC,w.keeps a.bk,T.keeps a.bk,λm Q aa=>?_]
 let j n _ _:=aa.there;let c:nv O l {o,m}:=a.kept (t':=o.v) aa.keeps;exact g B O l _ Q (.ref C) k7 c ⟨a.xok J aa.new (a.hok.none_of aa.new),.inl ⟨_,_,_,n,U,U,U,U⟩⟩ ⟨_,n,U⟩ q
def WshTD(X:Cx)(W:WKD):Prop:=∀(B:E (e8×hr))(O:St)(H:Hp)(s:e9)(x T:e8)(C:eN)(d:io e8),nv O H s->XOk X B H x->XOk X B H T->Trc s.H x C T->Xd s.H x d->W C d O H->X.xe (.ref x) s
section
variable{X:Cx}{k:R}{f:e8}{fd:fk}{ps:E ff}{sp:Sp}{dvs:E V}{ds:E eN}{W:WKD}{x:ff}{p pos:Pos}{e:fm}{es:E fm}{t:TA}
def Dj(F:FnOk X.e X.w X.K X.mg X.base (CXd X.e X.w) k f fd ps sp)(N:Room k X.A)(Y:Gl X x)(g:X.mg x=Z (.ref f))(o:Mu X.K (.ref f)=kf)(M:fu X.K fd ps ds)(hd:Vals dvs ds)(c:WshTD X W)(J:X.ex=[])(i:PA X (e::es) t)(ab:uP_ ((x == ("__debug__" : ff))=kt) uD_)(eK:uP_ (QM (e::es) X.i=(kt,eval e X.i)::QM es X.i) uR_)(aa:uP_ ((backTo pos (QM es X.i)).any (·.1)=kt) uR_):
  PE X (.Call (.Name x p) (e::es) [] pos) (HZ sp dvs W t):=by
 intro B s O H Q I h;refine Rc (lR I Y g ?_ ab);refine Oh (h₀:=X.base) I.ok.mod.kin o (thn (i pos B s O H _ I h) λeg j ⟨L,l,n,r,q⟩=>⟨n.kIn,?_⟩) eK aa;let v:Vals (L++dvs) (eg++ds):=r.append hd;let D:(eg++ds).L=ps.L:=by rw[← v.L];exact F.len _ _ _ _ q
 refine wpAny_call (Rb (F.run X.A X.stack j l ⟨eg,[]⟩ (eg++ds) (L++dvs) Q _ N n.env0 (M j eg n.kIn D) v q) λr m y=>?_)
 cases r with
 |error e =>
  let x C T a d rfl os ae un ac nx nT tx tT tr z q':=y;let I':nv O a m:=n.call' os un ac ae λb z=>R7 z (by simp)
  exact c B O a m x T C d I' (n.xok J nx tx) (n.xok J nT tT) tr z q'
 |ok fl =>
  cases fl with
  |ret u=>exact n.after y
  |next=>exact False.elim y
  |brk=>exact False.elim y
  |cont=>exact False.elim y
end
section
variable{M:Model}{A:Around}{eg:eN->e9->Prop}{h:fc}{g:j5 GenState}{d:Drawn}{t:R}{os:OsState}
def KU{D:e8}{p q:ff}{r j:E eN}{c:i0}{s:E ff}{k:E eN}{u:i0}{n:io i0}{o:io e8}{w l m z eK:io eN}{B:String}{x:e8}{Q:i0->e9->Prop}(T:h.R D=Z (excClassObj p q D a r j c s k u n o w l m z eK B))(e:h.R x=Z ob)(b:ob.cls=.ref C)(f:(eN.ref D::j).contains (.type "BaseException")=kf)(v:O4 M h (isSubtype (.ref C) (.ref D)) kf)(y:Q kf ⟨h,g,d,t,os⟩):wpAny M A (excMatches (.ref x) (.ref D)) Q eg ⟨h,g,d,t,os⟩:=by
 let i:=tc_notTuple;unfold excMatches;repeat (first|(with_reducible refine wpAny_loadPart_at e ?_;rw[b])|with_reducible refine wpAny_loadPart_at T ?_|(with_reducible refine wpAny_isSubtype_exc T ?_;rw[f])|with_reducible refine v.at ?_|wp_step)
 exact y
end
def excD(x C:e8)(d:io e8):HO:=.ext λh=>∃ o,h.R x=Z o/\o.cls=.ref C/\o.dict=d/\Qq o=kf
def Jw(ie:R)(Cs:e8->Prop)(tb:WKD->TS)(ts:TS):TS:=λe O H=>tb (λC d y l=>∃ c,C=.ref c/\Cs c/\∀ x,l x=k7->ts {nx:=λh Y=>e.nx (h.set ie k7) Y,rt:=λ_ _=>False} (y.set ie (Z (.ref x))) (upd l x (excD x c d))) e O H
def C7{ab:E fo}{b0:fo}{aT:E fo}{dn en:ff}{np a3:Pos}{D:e8}{ie:R}{Cs:e8->Prop}{tb:WKD->TS}{ts:TS}(k:X.ex=[])(ac:X.stack=X.i::X.outer)(an:X.i.frame=Z X.i.locals)(hN:X.N.l)(hi:X.N[ie]?=Z en)(hl:X.i.kindOf en=Z .local)(bv:Gl X dn)(bB:X.mg dn=Z (.ref D))(eD:ExC X.K D)(a7:∀ c,Cs c->Nz X.K c (.ref D)=Z kf)(M:∀ B XE W,WshTD (X.tried B XE) W->PSs (X.tried B XE) ab (tb W))(hs:∀ v,PSs (X.marked v) (b0::aT) ts)(ae:uP_ ((dn == ("__debug__" : ff))=kt) uD_):
  PS X (.Try ab [.ExceptHandler (Z (.Name dn np)) (Z en) (b0::aT) a3] [] [] pos) (Jw ie Cs tb ts):=by
 intro B s O H Ds I h;refine wpAny_Try_except ?_;refine QN (M B (λe aa=>lf (noteFrame e X.i) (λ_ am=>lf (setFlight e k7) (λ_ al=>lf (handleBy e X.i [.ExceptHandler (Z (.Name dn np)) (Z en) (b0::aT) a3]) (SP X B Ds) X.xe al) X.xe am) X.xe aa) _ ?_ [] s O H Ds I.tried h) (λf s1 q=>?_) λ_ _ z=>z
 .intro bJ aS l s1 x T C d i xx xT tr zd hw;let c rfl t bK:=hw;let I2:nv aS l s1:=i.untried;let x2:XOk X B l x:=xx.untried;let T2:XOk X B l T:=xT.untried;let a2:X.A.frames=Z (X.i::X.outer):=by rw[← ac];exact I2.ok.frames
  let bg:∀{h:fc}{T:e8},nv aS l {s1,h}->Trc h x (.ref c) T->∃ a0,fc.FlyingW (hidX X h [x,T]) (X.i::X.outer) x (.ref c) a0 h:=λ{h T} J tr=>by
   let oe j a0 oT ts eK ap h0 hd Y a1 hT aX g:=tr;erw[a0,Eb _ _,mZ (by simp),ac▸J.hidF [x,T],⟨oe,j,T,oT,ts,eK,⟨ap,h0⟩,hd,Y,mZ (by simp),a1,hT,aX,g⟩]
  let two:∀{T:e8},XOk X B l T->∀ b∈[x,T],XOk X B l b:=λ{T} hT b M=>by
   obtain e|M:=Lz.mp M
   .rw[e];exact x2
   .let e:b=T:=by simpa using M
    rw[e];exact hT
  let a0 fl:=bg (h:=s1.H) I2 tr;refine QN (pB (jI _ _) (wpAny_looks_onW (Q:=λ_ s'=>∃ h4,s'={s1,h4}/\fc.HeldW (hidX X s1.H [x,T]) (X.i::X.outer) x (.ref c) a0 X.i.locals h4/\s1.H.UpToSlots h4) (E:=λ_ _=>False) a2 an fl λh4 a b=>⟨h4,U,a,b⟩)) ?_ (λ_ _ q=>q.1.elim);rintro _ s4 ⟨⟨h4,rfl,ba,bN⟩,bP⟩;refine QN (pB (fT _ _) (wpAny_landsW (Q:=λ_ s'=>∃ h5,s'={s1,h5}/\fc.FlyingW (hidX X s1.H [x,T]) (X.i::X.outer) x (.ref c) a0 h5/\h4.UpToSlots h5) (E:=λ_ _=>False) ba λh5 a b=>⟨h5,U,a,b⟩)) ?_ (λ_ _ q=>q.1.elim);rintro _ s5 ⟨⟨h5,rfl,bi,bR⟩,bU⟩;let I5 T5 b6 bb:=I2.left k (two T2) bi.1 bi.2.2.2 (bN.Q bR);let z5:Xd h5 x d:=zd.dk (DK.Q (b:=h4) bP bU) bb.there;refine wpAny_handleBy_cons (codeAny_handlers_test (Calls.Name_function_global I5.ok.kind bv (Calls.loadGlobal_global (by rw[I5.ok.glob];exact I5.mod.glob.keeps I5.bk) bB ?_) ae)) (by intro q;cases q)
  let _ _ _ _ _ _ _ _ _ _ _ _ _ _ _ _ _ hD _ _ TD _:=Ey eD I5.kIn;let a6:=TD.hasType (X:="BaseException") (b:=kf) U;let ob _ _ _ _ a4 ap _:=id bb;refine KU hD a4 ap (by rw[List.contains_cons,a6,i0.or_true]) (Py I5.kIn (a7 c t)) ?_
  refine codeAny_handlers_suite_as ?_;let a5 bm:=bg I5 bb;refine QN (pB (fT _ _) (lands_againW (Q:=λ_ s'=>∃ h6,s'={s1,h6}/\fc.FlyingW (hidX X h5 [x,T5]) (X.i::X.outer) x (.ref c) a5 h6/\h5.UpToSlots h6) (E:=λ_ _=>False) (s:={s1,h5}) bm λh6 a b=>⟨h6,U,a,b⟩)) ?_ (λ_ _ q=>q.1.elim);rintro _ s6 ⟨⟨h6,rfl,bn,b8⟩,ca⟩;let I6 T6 ch bp:=I5.left k (two b6) bn.1 bn.2.2.2 b8;let z6:Xd h6 x d:=z5.dk ca bp.there;let oe ci _ _ _ eK bu _ aI _:=id bp;let cb:Qq oe=kf:=by unfold Qq;rw[aI]
  let cc:oe.dict=d:=by
   let o2 r d2:=z6;rw[eK]at r
   cases r
   exact d2
  let I7:=I6.xtrack (o:=excD x c d) x2 ⟨⟨oe,eK,bu,cc,cb⟩,⟨oe,eK⟩,λY L ⟨o,z1,z2,z3,z4⟩ y=>⟨o,y o z1,z2,z3,z4⟩⟩;refine mv I7 hN hi (.inl hl) (v:=.ref x) U (λs8 I8=>?_) (.inr hl);refine QN (hs (.ref x) B s8 _ _ _ (I8.marked _) (bK x x2.trk)) (λf s9 q9=>?_) λ_ _ z=>z.elim
  cases f with
  |next =>
   let cd H9 I9 q9:=q9;let be:nv cd H9 s9:=Inv.unmarked (hd:=I2.ok.hd) (fr:=I2.ok.frames) I9;let m p:=be.loc;refine wpAny_nameGoes_keeps hl p.1 (by rw[be.ok.kind];rfl) λh' v n ce=>?_
   erw[5,be.gone hN hi p n ce,q9]
  |brk=>obtain⟨_,_,_,z⟩:=q9;exact z.elim
  |cont=>obtain⟨_,_,_,z⟩:=q9;exact z.elim
  |ret u=>obtain⟨_,_,_,_,_,z⟩:=q9;exact z.elim
 .let q':=SP.untried q
  cases f with
  |next=>exact wpAny_execs_nil q'
  |brk=>exact q'
  |cont=>exact q'
  |ret u=>exact q'
end L2
namespace L2
open PySem PySem.Spec PyProof.Rows PySem.Calls Builtin Builtin.ObjectAttr
section
variable{prog:ge}{w:ih}{A:Around}{eg:eN->e9->Prop}{h:fc}{g:j5 GenState}{d:Drawn}{t:R}{os:OsState}
variable{nm q:ff}{C N:e8}{bs bm bmB:E eN}{hdct:i0}{sn:E ff}{sub:E eN}{ab:i0}{col:io i0}{dd:io e8}{k0 k1 k2 k3 k5:io eN}{B newId initId:String}
end
section
variable{prog:ge}{w:ih}{A:Around}{eg:eN->e9->Prop}{s:e9}{K:Lo}{x C fI:e8}{name:ff}{v:eN}
end
section
variable{X:Cx}{pins:E (e8×hr)}{σ:St}{H:Hp}{s:e9}{A:Around}{eg:eN->e9->Prop}{a C fI:e8}{f:ff}
end
section
variable{prog:ge}{w:ih}{A:Around}{eg:eN->e9->Prop}{s:e9}{env:gI}
variable{nm q:ff}{C N:e8}{bs bm bmB:E eN}{hdct:i0}{sn:E ff}{sub:E eN}{ab:i0}{col:io i0}{dd:io e8}{k0 k1 k2 k3 k5:io eN}{B newId initId:String}
end
def Fe:eO X (.builtin "isinstance") (λxs H Q=>∃ x c j d b,xs=[.ref x,.ref d]/\H x=Z (excD x c j)/\ErC X.K c/\M8 X.K (.ref c) (.ref d)=Z b/\Q (.bl b) H):=by
 intro B s O H xs eg Q I r h;let x c j d b rfl J i N q:=h;let m T rfl A p:=Ba r
 cases A
 cases p
 let{o v t _}_ _:=(show bE X.e X.w H s.H x (excD x c j) from I.hok x _ J);exact MY (AK i) I.kIn ⟨o,v,t⟩ N (λz=>nomatch z) λl=>⟨.bl b,H,I.tok l,U,q⟩
def B8:eO X (.builtin "isinstance") (λxs H Q=>∃ x c j T b,xs=[.ref x,.ty T]/\H x=Z (excD x c j)/\ErC X.K c/\M8 X.K (.ref c) (.type T)=Z b/\Q (.bl b) H):=by
 intro B s O H xs eg Q I r h;let x c j T b rfl J i N q:=h;let m L rfl A p:=Ba r
 cases A
 cases p
 let{o v t _}_ _:=(show bE X.e X.w H s.H x (excD x c j) from I.hok x _ J);exact MY (AK i) I.kIn ⟨o,v,t⟩ N (λz=>nomatch z) λl=>⟨.bl b,H,I.tok l,U,q⟩
end L2
namespace L2
open PySem PySem.Spec PyProof.Rows
def vm.g{f:TE}{J:It}(h:vm f σ J H1 QQ):iT (qQ 0) tYes f 1 σ J H1 QQ:=by
 let W u st:=h;erw[W,u,λi m O H w=>?_];let l h:=st i m O H w;erw[l,h.imp id λ⟨go,N,k,h⟩=>⟨go,λM Y=>∃ y,M=O++[y]/\N y Y,λM Y ⟨y,e,n⟩=>e▸k y Y n,λx eK r=>⟨U,yesT ?_⟩⟩]
 let e:(λy eg=>∃ s,O++[y]=O++[s]/\N s eg)=N:=funext λy=>funext λeg=>propext ⟨λ⟨s,e,n⟩=>by
  let:y=s:=by simpa using e
  rw[this];exact n,λn=>⟨y,U,n⟩⟩
 rw[e];exact h x eK r
theorem bq{f:TE}(Pv:R->E V->Hp->Prop)(hz:xs.L<=QG)(l:Pv 0 [] H1)(hl:∀ i ys H,i<=xs.L->Pv i ys H->na a xs)(hs:∀ i x ys H,xs[i]?=Z x->Pv i ys H->f (Z x::σ) H λy H2=>Pv (i+1) (ys++[y]) H2)(hd:∀ ys H,ys.L=xs.L->Pv xs.L ys H->QQ ys H):iT (qQ 0) tYes f 1 σ (Itl K a) H1 QQ:=(E4 Pv hz l hl hs hd).g
theorem cH{lo:G}{f:TE}(Pv:R->E V->Hp->Prop)(hz:n<=QG)(l:Pv 0 [] H1)(hs:∀ i ys H,i<n->Pv i ys H->f (Z (.int (lo+i))::σ) H λy H2=>Pv (i+1) (ys++[y]) H2)(hd:∀ ys H,ys.L=n->Pv n ys H->QQ ys H):iT (qQ 0) tYes f 1 σ (Itr lo n) H1 QQ:=(BZ Pv hz l hs hd).g
theorem wV{lo c:G}{f:TE}(Pv:R->E V->Hp->Prop)(hz:n<=QG)(l:Pv 0 [] H1)(hs:∀ i ys H,i<n->Pv i ys H->f (Z (.int (lo+i*c))::σ) H λy H2=>Pv (i+1) (ys++[y]) H2)(hd:∀ ys H,ys.L=n->Pv n ys H->QQ ys H):iT (qQ 0) tYes f 1 σ (Itr3 lo c n) H1 QQ:=(zQ Pv hz l hs hd).g
section
variable{X:Cx}{scope:hx}{fr:E (ff×R)}{xs:E ff}{elt iter tg:fm}{ifs:E fm}{pos:Pos}{tt:TT}{tgt:TG}{wi:TI}{te:TE}
end
section
variable{prog:ge}{w:ih}{A:Around}{eg:eN->e9->Prop}{s:e9}
def DM{Pv:R->eN->Prop}{Sq:R->fc->Prop}{T:String}(W:Walks prog w A.in1.in1 I fp [I] n Pv Sq)(N:n<=QG)(st:Sq 0 s.H)(q:I∈fp)(aa:∀ b∈fp,b<s.H.M.J)(O:∀ h,Sq 0 h->∃ o,h.R I=Z o/\o.cls=.type T)(y:(eN.type T == eN.type "list")=kt)(t2:(eN.type T == eN.type "tuple")=kt)(hint:∀(h:fc)(z:i0->e9->Prop)(H:eN->e9->Prop),Sq 0 h->(∀ tk,z kt {s with heap:=h,toks:=tk})->li A.in1.in1 (Ro (.ref I)) z H {s,h})(g:∀ h' tk c c',(∀ b o,b≠I->s.H.R b=Z o->h'.R b=Z o)->h'.R s.H.M.J=Z {cls:=.type "list",dict:=k7,data:=.seq c c',slots:=#[]}->ItemsOf Pv c n->Q (.ref s.H.M.J) {s with heap:=h',toks:=tk}):
  li A (call (.type "list") [.ref I]) Q eg s:=by
 refine callType_codes (Q₁:=λt C=>t=.ref s.H.M.J/\C={s,s.H.o {cls:=.type "list",data:=.seq #[]}}) PySem.F.called_list (Qx _) Qz
  (code_list_new _ ⟨U,U⟩) λt C a=>?_
 let rfl rfl:=a;let x:(s.H.o {cls:=.type "list",data:=.seq #[]}).R s.H.M.J=Z {cls:=.type "list",data:=.seq #[]}:=QX _ U;let l:s.H.M.J∉fp:=λD=>Nr _ (aa _ D);erw[⟨_,x,U⟩,Qs _ _,3];show wpAny _ _ (R4 (.ref s.H.M.J) >>= λold=>ii.List.listUpdate (.ref s.H.M.J) (λ_=>#[]) >>= λ_=>letGo old.n.x >>= λ_=>RZ (.ref s.H.M.J) (.ref I) .none) _ _ _;refine QS ?_;unfold R4;refine QS (RK x U (QV ?_));show wpAny _ _ (RN s.H.M.J (λ_=>#[]) >>= λ_=>letGo (#[]:j5 eN).n.x >>= λ_=>RZ (.ref s.H.M.J) (.ref I) .none) _ _ _;refine QS (RO x U ?_);let i:=Rh (Rg (λ_=>(#[]:j5 eN))) x U;let oth:∀ b o,s.H.R b=Z o->((s.H.o {cls:=.type "list",data:=.seq #[]}).update s.H.M.J (Rg (λ_=>(#[]:j5 eN)))).R b=Z o:=λb o e=>(Ri _ _ (MZ (QH e))).Q (QW _ e);refine QS (RD ?_);generalize ((s.H.o {cls:=.type "list",data:=.seq #[]}).update s.H.M.J (Rg (λ_=>(#[]:j5 eN))))=L at i oth;let d:=W.frame 0 s.H L st λb _ o e=>oth b o e;let u:∀(h:fc)(c1 tk:R),(∀ b o,s.H.R b=Z o->h.R b=Z o)->h.R s.H.M.J=Z {cls:=.type "list",data:=.seq #[] c1}->Q7 (model prog w) A.in1 (.builtin "list.extend.loop" ⟨[.ref s.H.M.J,.ref I,.none],[]⟩) (wants (λr k=>r=eN.none/\Q (.ref s.H.M.J) k) eg) {s with heap:=h,toks:=tk}:=by
  intro h c1 tk eK f;refine codeAny_extend_loopS W.toS N s.H.M.J l .none n 0 _ #[] c1 U (Mh _) (W.frame 0 s.H h st λb _ o e=>eK b o e) f (ItemsOf.nil _) λm c c' D B p=>?_;rw[Moved.eq_with D];erw[U,g m.H m.v c c' (λb o M e=>D.H b o (λj=>?_) (eK b o e)) B p];obtain J|j:=Lz.mp j
  .exact LQ (QH e) J
  .exact M (LY.mp j)
 unfold RZ;refine QS (wpAny_typeOf (T:=T) (O _ d) ?_);let Y:R0 (.ref s.H.M.J) (.ref I)=kt:=by
  let:s.H.M.J≠I:=λe=>l (e▸q);simp[R0,this]
 simp only[Y,y,t2,QE,Nf,if_false];refine QS (W.self 0 _ _ _ d (QS (QT (hint _ _ _ d λtk=>?_))));refine Rp (λ_=>?_) (λ_=>QV ⟨RP Nq _,u _ _ _ oth i⟩);refine QS (wpAny_rule (QS ?_));show wpAny _ _ (RN s.H.M.J (·.push .none) >>= λ_=>RN s.H.M.J (·.pop)) _ _ _;refine QS (RO i U ?_);let v:=Rh (Rg (·.push eN.none)) i U;refine RO (hz:=by seq_fits) v U ?_
 let ab:=Rh (Rg (·.pop)) v U;exact QV ⟨RP Nq _,u _ _ _ (λb o e=>(Ri _ _ (MZ (QH e))).Q ((Ri _ _ (MZ (QH e))).Q (oth b o e))) ab⟩
end
def Jn{y:j5 eN}(rv:Vals ys its)(h:ItemsOf (λi v=>its.toArray[its.toArray.J-1-i]?=Z v) y its.toArray.J):Vals ys.x y.n:=by
 let e:y.n=its.x:=by
  apply PV;intro i;by_cases B:i<its.L
  .let p:i<y.J:=by rw[h.1];simpa using B
   let q:=h.2 i y[i] (Nu p);rw[MQ,Nu p,Ph B,← q];simp
  .rw[MI (by rw[L9,h.1];simpa using B),MI (by simp!)]
 rw[e];exact rv.x
def vJ{e:fm}{te:TE}{p p2 ac:Pos}(d:X.calm=kf)(J:Gl X "list")(D:X.mg "list"=k7)(ae:Gl X "reversed")(al:X.mg "reversed"=k7)(eK:PE X e te)(Y:uP_ (QM [.Call (.Name "reversed" p2) [e] [] ac] X.i=[(kt,eval (.Call (.Name "reversed" p2) [e] [] ac) X.i)]) uR_)(h2:uP_ (QM [e] X.i=(kt,eval e X.i)::QM [] X.i) uR_):
  PE X (.Call (.Name "list" p) [.Call (.Name "reversed" p2) [e] [] ac] [] pos) (λσ H Q=>te σ H λx H1=>∃ l ys,x=.ref l/\SqL X.K H1 l ys/\∀ q,H1 q=k7->Q (.ref q) (upd H1 q (.lst ys.x))):=by
 intro B s σ H Q I h;refine Rc (kP I J D iQ ?_);refine QZ ?_ Y U;rw[Y];refine Ra ?_;refine Rc (kP I ae al zW ?_);refine QZ ?_ h2 U;rw[h2];refine Ra (thn (eK B s σ H _ I h) λu j ⟨x,H1,i,eg,f⟩=>?_);let l ys rfl y q:=f
 cases eg
 refine Q9 ?_;let g rv pl v:=i.list y;let N:g.toArray.J=ys.L:=by rw[Mn,rv.L]
 refine call_reversed_list pl.isList ?_;refine Q9 ?_;let r:l<j.H.M.J:=by
  let o n C _:=pl;exact QH C
 let a:nv σ H1 {j,j.H.o (revObj l ((g.toArray.J:G)-1))}:=i.kept (t':=j.v) λb o e=>QW _ e;let ab:(j.H.o (revObj l ((g.toArray.J:G)-1))).IsRevIter j.H.M.J l ((g.toArray.J:G)-1):=⟨_,QX _ U,U,U⟩;refine DM (T:="list_reverseiterator") (Walks.listRev (A:=X.A.in1.in1) (I.ok.hd d) j.H.M.J l (LQ r) g.toArray) (by rw[N];exact v) ⟨Mh _,by simpa using ab,pl.isList.o _⟩ (by simp) (λb M=>?fp) (λh z=>let ⟨o,w,d,_⟩:=z.2.1;⟨o,w,d⟩) ∅ ∅ (λh Q' E' z k=>G5 z.2.1.typeIs (k j.v)) λm tk c t L O aa=>?_
 case fp =>
  rw[Q8];obtain e|e:=Lz.mp M
  .rw[e];exact Nl _
  .rw[LY.mp e];exact Nj r
 let f0 f1 f2 f3 f4 f5:=i.fpOk (H':=H1) (Lq _) (i.hok.fresh (Lq _));let I3:nv σ H1 {j with heap:=m,toks:=tk}:=a.turned (t':=tk) (λb o M e=>L b o M e) f0 f1 f3 f4 f5;let fS:=a.fpOk (H':=H1) (Lq _) (a.hok.fresh (Lq _));let I4:=I3.track (o:=.lst ys.x) fS ⟨by rw[ON];exact v,c.n,t,Jn rv aa,by rw[j5.toArray_toList];exact O⟩
 erw[.ref _,_,I4,U,q _ fS.1]
section
variable{X:Cx}{k n:R}{f:e8}{fd:fk}{ps:E ff}{sp:Sp}{x:ff}{p pos:Pos}{e:fm}{es:E fm}{t:TA}
theorem Cal.c(eK:Cal X.e X.w X.K X.mg X.base k x ps sp f fd)(N:Room n X.A)(T:PA X (e::es) t)(Y:uP_ (Gl X x) uR_)(hl:k<=n:=by first|decide|lia)(u:uP_ ((x == ("__debug__" : ff))=kt) uD_)(L:uP_ (QM (e::es) X.i=(kt,eval e X.i)::QM es X.i) uR_)(b:uP_ ((backTo pos (QM es X.i)).any (·.1)=kt) uR_):PE X (.Call (.Name x p) (e::es) [] pos) (FC sp [] E0 t) :=
 JT eK.ok (N.mono hl) Y eK.mg eK.kp eK.bn .nil mT T u L b
theorem Cal.d(eK:Cal X.e X.w X.K X.mg X.base k x ps sp f fd)(N:Room n X.A)(Y:uP_ (Gl X x) uR_)(hl:k<=n:=by first|decide|lia)(u:uP_ ((x == ("__debug__" : ff))=kt) uD_):PE X (.Call (.Name x p) [] [] pos) (FC sp [] E0 tNil) :=
 F6 eK.ok (N.mono hl) Y eK.mg eK.kp eK.bn .nil mT u
end
section
variable{X:Cx}{a b:fm}{ta tb:TE}{pos:Pos}
theorem a8(T:PE X a ta)(M:PE X b tb)(hs:rB b:=by exact λ_ _=>rfl):PE X (.Subscript a b pos) (tOp (rIxL X.K) ta tb):=F0 DT T M hs
theorem aG(T:PE X a ta)(M:PE X b tb)(hs:rB b:=by exact λ_ _=>rfl):PE X (.Subscript a b pos) (tOp (rIxT X.K) ta tb):=F0 IH T M hs
theorem vK(K:Lo)(T:PE X a ta)(M:PE X b tb)(hs:rB b:=by exact λ_ _=>rfl)(h:uP_ (X.K=K) uR_):PE X (.Subscript a b pos) (tOp (rIxL K) ta tb):=F0 (GZ h) T M hs
theorem iZ(K:Lo)(T:PE X a ta)(M:PE X b tb)(hs:rB b:=by exact λ_ _=>rfl)(h:uP_ (X.K=K) uR_):PE X (.Subscript a b pos) (tOp (rIxT K) ta tb):=F0 (KD h) T M hs
theorem aA(i:R){e:fm}{f:TE}{a:Pos}(w:X.N.l)(eK:PE X e f)(hi:uP_ (X.N[i]?=Z x) uR_)(J:Loc X.i.scope x:=by first|exact .inl rfl|exact .inr U)(hs:uP_ (swapsWith e (Z (.Name x a)) pos.line X.i=pure kt) uR_)(C:X.fn x=kf∨X.i.scope.names.Z x=Z .local:=by first|exact .inl rfl|exact .inr rfl|assumption):
  PS X (.Assign [.Name x a] e pos) (tAsg f (qQ i)):=ps_set w hi J eK hs C
theorem bW(i:R)(w:X.N.l)(hi:uP_ (X.N[i]?=Z x) uR_)(J:Loc X.i.scope x:=by first|exact .inl rfl|exact .inr U)(C:X.fn x=kf∨X.i.scope.names.Z x=Z .local:=by first|exact .inl rfl|exact .inr rfl|assumption):PG X (.Name x pos) (qQ i):=bc w hi J C
end
def AllL{α:Type}(Q:α->Prop):E α->Prop
 |[]=>True
 |x::r=>Q x/\AllL Q r
theorem AllL.mem{α:Type}{Q:α->Prop}:∀{l:E α},AllL Q l->∀ x∈l,Q x
 |_::_,h,_,.head _=>h.1
 |_::_,h,_,.tail _ m=>AllL.mem h.2 _ m
section
variable{X:Cx}{scope:hx}{elt iter tg:fm}{ifs:E fm}{pos:Pos}{tt:TT}{tgt:TG}{wi:TI}{te:TE}
theorem pA.au{xs:E ff}(clos:uP_ (closureFor scope X.i=pure (clOf X.i fr)) uR_)(cell:uP_ (∀ y∈scope.names,y.2≠.cell) uD_)(kind:uP_ (scope.kind=.function) uR_)(names:uP_ (∀ y∈scope.names,y.2=.local->scope.names.Z y.1=Z .local) uD_)(slot:AllL (λp=>X.N[p.2]?=Z p.1/\X.i.kindOf p.1=Z .cell) fr:=by repeat (first|exact True.intro|erw[⟨rfl,rfl⟩,3]))(B:uP_ (∀ z∈scope.names,z.2=.free->z.1∈fr.h (·.1)) uD_)(frk:AllL (λp=>(relabel scope X.i).names.Z p.1=Z .cell) fr:=by repeat (first|exact True.intro|erw[rfl,3])):pA X scope fr xs :=
 .of clos cell kind names slot.mem B frk.mem
theorem dj(fr:E (ff×R))(xs:E ff)(hi:PI X tg iter wi)(v:∀ C ex s H,PG (cxG X scope fr xs C ex s H) tg tgt)(n:∀ C ex s H,PTs (cxG X scope fr xs C ex s H) ifs tt)(eK:∀ C ex s H,PE (cxG X scope fr xs C ex s H) elt te)(T:uP_ (X.calm=kf) uR_)(O:pA X scope fr xs:=by exact .au)(hs:∀ x,Q0 iter X.i x=pure x:=by intro _;rfl):PE X (.ListComp elt [⟨tg,iter,ifs,0⟩] scope pos) (HY wi tgt tt te xs.L fr) :=
 F4 T O hi v n eK hs
theorem oU(i:R)(fr:E (ff×R))(xs:E ff){y:ff}{b a:Pos}(w:X.N.l)(hi:PI X tg iter wi)(v:∀ C ex s H,PG (cxG X scope fr xs C ex s H) tg tgt)(n:∀ C ex s H,PTs (cxG X scope fr xs C ex s H) ifs tt)(eK:∀ C ex s H,PE (cxG X scope fr xs C ex s H) elt te)(T:uP_ (X.calm=kf) uR_)(z:uP_ (X.N[i]?=Z y) uR_)(Q:uP_ (X.i.scope.names.Z y=Z .local) uR_)(O:pA X scope fr xs:=by exact .au)(c:uP_ (swapsWith (.ListComp elt [⟨tg,iter,ifs,0⟩] scope pos) (Z (.Name y b)) a.line X.i=pure kf) uR_)(hs:∀ x,Q0 iter X.i x=pure x:=by intro _;rfl):
  PS X (.Assign [.Name y b] (.ListComp elt [⟨tg,iter,ifs,0⟩] scope pos) a) (vo i wi tgt tt te xs.L fr) :=
 xV T w z Q O hi v n eK c hs
theorem pg_c{xs:E ff}(w:uP_ ((xs++fr.h (·.1)).l) uD_)(l:uP_ ((xs++fr.h (·.1))[0]?=Z x) uR_)(J:∀ C ex s H,Loc (cxG X scope fr xs C ex s H).i.scope x:=by exact λ_ _ _ _=>.inl U)(T:∀ C ex s H,(cxG X scope fr xs C ex s H).fn x=kf∨(cxG X scope fr xs C ex s H).i.scope.names.Z x=Z .local:=by exact λ_ _ _ _=>.inr U):
  ∀ C ex s H,PG (cxG X scope fr xs C ex s H) (.Name x pos) (qQ 0):=λC ex s H=>bc (X:=cxG X scope fr xs C ex s H) w l (J C ex s H) (T C ex s H)
theorem pt_c{xs:E ff}:∀ C ex s H,PTs (cxG X scope fr xs C ex s H) [] tYes:=λ_ _ _ _=>JQ
end
end L2
namespace K1
def go(n:R):R:=if h:n=0 then 0 else n%2+go (n/2)
termination_by n
decreasing_by lia
def go_zero:go 0=0:=by rw[go];simp
def go_eq(n:R):go n=n%2+go (n/2):=by
 by_cases h:n=0
 .subst h;rw[go_zero]
 .rw[go,dif_neg h]
end K1
local macro_rules|`(#[$xs,*])=>do `(⟨$[$(←hA (xs.getElems.map λe=>e.raw))],*⟩)
namespace K2
def S:E R->R
 |[]=>0
 |p::r=>2^p+S r
def Li{p:R}(h:n.O p=kt)(i:R):(n+2^p).O i=(n.O i||decide (i=p)):=by
 let e:n+2^p=n|||2^p:=by
  let A:n&&&2^p=0:=by
   apply Ml;intro j;rw[NL,LU,Nh];by_cases J:p=j
   .subst J;simp[h]
   .simp[J]
  let q:∀ m k:R,(m|||k)+(m&&&k)=m+k:=by
   intro m;induction m using Pc with
   |ind m O =>
    intro n;by_cases l:m=0
    .simp[*]
    .let a:=O (m/2) ∅ (n/2)
     rw[← Nat.or_div_two,← Nat.and_div_two]at a;let g:=@Nat.or_mod_two_eq_one m n;let D:=@Nat.and_mod_two_eq_one m n;lia
  let:=q n (2^p);rw[A]at this;lia
 rw[e,MJ,LU];congr 1;exact decide_eq_decide.mpr #[λh=>h.Y,λh=>h.Y]
theorem S_bit:∀{D:E R},D.l->∀ i,(S D).O i=decide (i∈D)
 |[],_,i=>by simp[S]
 |p::r,u,i=>by
  let ⟨Y,L⟩:=LF.mp u;let g:(S r).O p=kt:=by rw[S_bit L];exact QF Y
  let e:S (p::r)=S r+2^p:=P4 _ _;rw[e,Li g,S_bit L];grind
def bitsF(k n:R):E R:=if h:n=0 then[] else(if n%2=1 then[k] else[])++bitsF (k+1) (n/2)
termination_by n
decreasing_by lia
def bitsF_zero(k:R):bitsF k 0=[]:=by rw[bitsF];simp
def bitsF_odd{k:R}(h:n%2=1):bitsF k n=k::bitsF (k+1) (n/2):=by
 rw[bitsF,dif_neg ∅,R5 h];rfl
def bitsF_even{k:R}(l:n≠0)(h:¬ n%2=1):bitsF k n=bitsF (k+1) (n/2):=by
 rw[bitsF,dif_neg l,R6 h];rfl
theorem vc:∀(f n k:R),n<=f->∀ p∈bitsF k n,k<=p
 |0,n,k,h=>by
  let z:n=0:=by lia
  subst z;rw[bitsF_zero];simp
 |f+1,n,k,h=>by
  intro p g;by_cases z:n=0
  .subst z;rw[bitsF_zero]at g;cases g
  .by_cases o:n%2=1
   .rw[bitsF_odd o]at g;obtain e|g:=Lz.mp g
    .lia
    .let:=vc f (n/2) (k+1) ∅ p g;lia
   .rw[bitsF_even z o]at g;let:=vc f (n/2) (k+1) ∅ p g;lia
theorem bitsF_sorted:∀(f n k:R),n<=f->(bitsF k n).y (· < ·)
 |0,n,k,h=>by
  let z:n=0:=by lia
  subst z;rw[bitsF_zero];simp
 |f+1,n,k,h=>by
  by_cases z:n=0
  .subst z;rw[bitsF_zero];simp
  .by_cases o:n%2=1
   .rw[bitsF_odd o];exact List.Pairwise.cons (λp g=>vc f (n/2) (k+1) ∅ p g) (bitsF_sorted f (n/2) (k+1) ∅)
   .rw[bitsF_even z o];exact bitsF_sorted f (n/2) (k+1) ∅
theorem bitsF_sum:∀(f n k:R),n<=f->S (bitsF k n)=n*2^k
 |0,n,k,h=>by
  let z:n=0:=by lia
  subst z;rw[bitsF_zero];simp[S]
 |f+1,n,k,h=>by
  by_cases z:n=0
  .subst z;rw[bitsF_zero];simp[S]
  .let O:=bitsF_sum f (n/2) (k+1) ∅
   let e:n/2*2^(k+1)=(2*(n/2))*2^k:=by rw[Nat.pow_succ,Nat.mul_comm (2^k) 2,← Nat.mul_assoc,Nat.mul_comm (n/2) 2]
   by_cases o:n%2=1
   .rw[bitsF_odd o];show 2^k+S (bitsF (k+1) (n/2))=_;rw[O,e];let:n=2*(n/2)+1:=by lia
    let eg:n*2^k=(2*(n/2)+1)*2^k:=by rw[← this]
    rw[eg,Nat.add_mul,Nat.one_mul];lia
   .rw[bitsF_even z o,O,e];let:n=2*(n/2):=by lia
    let eg:n*2^k=(2*(n/2))*2^k:=by rw[← this]
    rw[eg]
theorem bitsF_lt:∀(m n k:R),n<2^m->∀ p∈bitsF k n,p<k+m
 |0,n,k,h=>by
  let z:n=0:=by lia
  subst z;rw[bitsF_zero];intro p g;cases g
 |m+1,n,k,h=>by
  intro p g;let L:n/2<2^m:=by rw[Nat.pow_succ]at h;lia
  by_cases z:n=0
  .subst z;rw[bitsF_zero]at g;cases g
  .by_cases o:n%2=1
   .rw[bitsF_odd o]at g;obtain e|g:=Lz.mp g
    .lia
    .let:=bitsF_lt m (n/2) (k+1) L p g;lia
   .rw[bitsF_even z o]at g;let:=bitsF_lt m (n/2) (k+1) L p g;lia
theorem bitsF_len:∀(m n k:R),n<2^m->(bitsF k n).L<=m
 |0,n,k,h=>by
  let z:n=0:=by lia
  subst z;rw[bitsF_zero];exact Lq _
 |m+1,n,k,h=>by
  let L:n/2<2^m:=by rw[Nat.pow_succ]at h;lia
  by_cases z:n=0
  .subst z;rw[bitsF_zero];exact Mh _
  .by_cases o:n%2=1
   .rw[bitsF_odd o];let:=bitsF_len m (n/2) (k+1) L;simp[*]
   .rw[bitsF_even z o];let:=bitsF_len m (n/2) (k+1) L;lia
theorem nodup_of_lt(h:l.y (· < ·)):l.l:=h.imp λh=>LQ h
end K2
namespace KF
open PySem L2
def top(i:R):fo:=PySem.Challenge.pw_spinfloor_k33_whole_least_laying.main.body.getD i (.Pass #[00,00,00,00])
abbrev mJ:fo:=top 16
abbrev pK:fo:=top 18
abbrev j4:fo:=top 19
abbrev jh:fo:=top 20
abbrev pG:fo:=top 21
abbrev tE:fo:=top 22
abbrev Ax:fo:=top 11
abbrev Aw:fo:=top 12
abbrev FU:fo:=top 13
abbrev mK:fo:=top 14
abbrev eh:fo:=top 26
abbrev g8:fo:=top 27
abbrev cg:fo:=top 28
abbrev g7:fo:=top 29
abbrev pH:fo:=top 30
abbrev mI:fo:=top 31
abbrev mL:fo:=top 32
abbrev mM:fo:=top 40
abbrev pI:fo:=top 41
abbrev tL:fo:=top 42
abbrev jZ:fo:=top 25
abbrev tK:fo:=top 34
abbrev pJ:fo:=top 35
abbrev gZ:fo:=top 36
abbrev mO:fo:=top 37
abbrev j6:fo:=top 38
abbrev Lk:=R×R×G
def bey(l:Lk)(r:R):R:=if r=l.1 then l.2.1 else l.1
def o7(l:Lk)(r:R):Prop:=r=l.1∨r=l.2.1
def ve{l:Lk}{r:R}(h:o7 l r):o7 l (bey l r):=by
 unfold bey;split
 .exact .inr U
 .exact .inl U
def rq{l:Lk}{r:R}(h:o7 l r):bey l (bey l r)=r:=by
 unfold bey;by_cases c:r=l.1
 .simp!
 .rw[R6 c,R5 U];obtain h|h:=h
  .contradiction
  .exact h.Y
def bey_lt{l:Lk}{r:R}(Y:l.1<n)(h2:l.2.1<n):bey l r<n:=by
 unfold bey;split<;>assumption
inductive Up(ls:E Lk)(vv:E (io R))(s:R):R->R->Prop where
 |root:Up ls vv s 0 s
 |step {j r k:R} {l:Lk} (hv:vv[r]?=Z (Z k)) (hl:ls[k]?=Z l) (h:Up ls vv s j (bey l r)):Up ls vv s (j+1) r
theorem Up.uniq{ls:E Lk}{b:E (io R)}{s:R}(l:b[s]?=Z k7):∀{j i r:R},Up ls b s j r->Up ls b s i r->j=i:=by
 intro j i r h;induction h generalizing i with
 |root=>
  intro k;cases k with
  |root=>rfl
  |step H _ _=>rw[l]at H;cases H
 |step H d h ih=>
  intro k;cases k with
  |root=>rw[l]at H;cases H
  |step a w N=>rw[H]at a;cases a;rw[d]at w;cases w;rw[ih N]
def Up.lt{ls:E Lk}{s r:R}(l:Y[s]?=Z k7)(h:Up ls Y s j r):r<Y.L:=by
 cases h with
 |root=>exact(Lm.mp l).1
 |step H _ _=>exact(Lm.mp H).1
theorem Up.chain{ls:E Lk}{b:E (io R)}{s:R}(l:b[s]?=Z k7):∀{j r:R},Up ls b s j r->∃ c:E R,c.L=j+1/\c.l/\∀ x∈c,x<b.L/\∃ i,i<=j/\Up ls b s i x
 |_,_,.root=>#[[s],U,LF.mpr #[(by simp),Nt],λx J=>by rw[LY.mp J];erw[Up.lt (ls:=ls) l .root,00,Lq _,.root]]
 |j+1,r,.step H d h=>by
  let c f u T:=Up.chain l h;let e:Up ls b s (j+1) r:=.step H d h;erw[r::c,by simp[*],LF.mpr #[λN=>?_,u],λx J=>?_]
  .let _ i B eK:=T r N;let:=Up.uniq l e eK;lia
  .obtain rfl|J:=Lz.mp J
   .erw[Up.lt l e,j+1,Lq _,e]
   .let a i B eK:=T x J;erw[a,i,4,eK]
theorem mV:∀(n:R)(c:E R),c.l->(∀ x∈c,x<n)->c.L<=n
 |0,c,_,h=>by
  cases c with
  |nil=>exact Lq _
  |cons x r=>exact R7 (h x (Ly ..)) (MR _)
 |n+1,c,u,h=>by
  let Y:=mV n (c.erase n) (u.erase _) λx J=>by
   let D:=Pg J;let:=h x D;grind
  grind
def Up.short{ls:E Lk}{s r:R}(l:Y[s]?=Z k7)(h:Up ls Y s j r):j+1<=Y.L:=by
 let c f u T:=Up.chain l h;rw[← f];exact mV _ c u λx J=>(T x J).1
def cOf(o:io G):R:=if o.isSome then 1 else 0
def cnt(T:E (io G)):R:=(T.h cOf).sum
def vOf(B:R)(o:io G):R:=match o with|none=>B|some x=>x.U
def wgt(B:R)(T:E (io G)):R:=(T.h (vOf B)).sum
theorem sO{α:Type}(f:α->R):∀(l:E α)(i:R)(x y:α),l[i]?=Z x->((l.set i y).h f).sum+f x=(l.h f).sum+f y
 |a::l,0,x,y,e=>by
  cases e
  grind
 |a::l,i+1,x,y,e=>by
  let:=sO f l i x y e;grind
 |[],i,x,y,e=>by contradiction
theorem IS:∀(T:E (io G)){i:R},T[i]?=Z k7->cnt T+1<=T.L
 |[],i,e=>by contradiction
 |a::T,0,e=>by
  cases e
  let:∀ T:E (io G),cnt T<=T.L:=λT=>by
   induction T with
   |nil=>exact Lq _
   |cons b T O =>
    let C:cnt (b::T)=cOf b+cnt T:=by rfl
    let eg:cOf b<=1:=by unfold cOf;grind
    grind
  let C:cnt (k7::T)=cOf k7+cnt T:=by rfl
  let eg:cOf k7=0:=rfl;simp[*]
 |a::T,i+1,e=>by
  let O:=IS T (i:=i) e;let C:cnt (a::T)=cOf a+cnt T:=by rfl
  let eg:cOf a<=1:=by unfold cOf;split<;>lia
  grind
structure FI(n:R)(ls:E Lk)(s:R)(M:R)(T:E (io G))(vv:E (io R))(W:E R)(ex:R->R->Prop):Prop where
 w0:∀ l∈ls,0<=l.2.2/\l.2.2<=(M:G)
 tl:T.L=n
 vl:vv.L=n
 st:T[s]?=Z (Z 0)
 vs:vv[s]?=Z k7
 nn:∀(r:R)(x:G),T[r]?=Z (Z x)->0<=x
 bd:∀(r:R)(x:G),T[r]?=Z (Z x)->x+(M:G)<=(cnt T:G)*(M:G)
 pr:∀(r k:R),vv[r]?=Z (Z k)->∃(l:Lk)(x y:G),ls[k]?=Z l/\o7 l r/\T[r]?=Z (Z x)/\T[bey l r]?=Z (Z y)/\y+l.2.2<=x
 up:∀(r:R)(x:G),T[r]?=Z (Z x)->∃ j,Up ls vv s j r
 rl:∀(r:R)(x:G)(i:R)(l:Lk),T[r]?=Z (Z x)->r∉W->ls[i]?=Z l->o7 l r->ex r i∨∃ y:G,T[bey l r]?=Z (Z y)/\y<=x+l.2.2
 wk:∀ r∈W,∃ x:G,T[r]?=Z (Z x)
def As{l:E α}{x:α}(hi:i<l.L):(l.set i x)[j]?=if i=j then Z x else l[j]?:=by
 rw[MH];simp[*]
def FI.mend{ls:E Lk}{s:R}{W':E R}(I:FI n ls s M T Y W ex){k:R}{l:Lk}{x:G}{o:io G}(hl:ls[k]?=Z l)(D:o7 l m)(J:T[m]?=Z (Z x))(t:T[bey l m]?=Z o)(a:∀ y,o=Z y->x+l.2.2<y)(hW:∀ r,r∈W'↔r∈W∨r=bey l m)(ab:∀ r i,ex r i->ex' r i∨(r=m/\i=k)):
  FI n ls s M (T.set (bey l m) (Z (x+l.2.2))) (Y.set (bey l m) (Z k)) W' ex':=by
 let v hM:=I.w0 l (Ln hl);let tt:bey l m<T.L:=(Lm.mp t).1;let tl:=I.tl;let vl:=I.vl;let x0:=I.nn m x J;let g:bey l m≠s:=λe=>by
  rw[e,I.st]at t;grind
 let nm:bey l m≠m:=λe=>by
  rw[e,J]at t
  cases t
  let:=a x U;lia
 let gT:∀ r:R,(T.set (bey l m) (Z (x+l.2.2)))[r]?=if bey l m=r then Z (Z (x+l.2.2)) else T[r]?:=λr=>As tt;let gV:∀ r:R,(Y.set (bey l m) (Z k))[r]?=if bey l m=r then Z (Z k) else Y[r]?:=λr=>As ∅
 let low:∀(r:R)(y:G),T[r]?=Z (Z y)->∃ z:G,(T.set (bey l m) (Z (x+l.2.2)))[r]?=Z (Z z)/\z<=y:=λr y e=>by
  rw[gT];by_cases c:bey l m=r
  .rw[R5 c];rw[← c,t]at e
   cases e
   erw[9,Int.le_of_lt (a y U)]
  .rw[R6 c];erw[y,e,MD _]
 let keep:∀{j r:R},Up ls Y s j r->∀ y,T[r]?=Z (Z y)->(∀ z,o=Z z->y<z)->Up ls (Y.set (bey l m) (Z k)) s j r:=by
  intro j r h;induction h with
  |root=>intro _ _ _;exact .root
  | @step j r k' l' H w h O =>
   intro y Q d;let ne:bey l m≠r:=λe=>by
    rw[e,Q]at t
    cases t
    exact R7 (d y U) (Int.lt_irrefl _)
   let l2 q b C eg p e4 e5:=I.pr r k' H;rw[w]at C;cases C;rw[Q]at p;cases p;let w0:=(I.w0 l' (Ln w)).1;refine .step (by simp[*]) w (O b e4 λz ac=>?_)
   let:=d z ac;lia
 let jm um:=I.up m x J;let al:=keep um x J λz d=>by grind
 let ut:Up ls (Y.set (bey l m) (Z k)) s (jm+1) (bey l m):=.step (by simp[*]) hl (by rw[rq D];exact al)
 let all:∀{j r:R},Up ls Y s j r->∃ i,Up ls (Y.set (bey l m) (Z k)) s i r:=by
  intro j r h;induction h with
  |root=>exact#[00,.root]
  | @step j r k' l' H w h O =>
   by_cases c:bey l m=r
   .rw[← c];erw[_,ut]
   .let i B:=O;erw[i+1,.step (by simp[*]) w B]
 let cs:=sO cOf T (bey l m) o (Z (x+l.2.2)) t;let c1:cOf (Z (x+l.2.2))=1:=rfl;let cc:cnt (T.set (bey l m) (Z (x+l.2.2)))+cOf o=cnt T+1:=by assumption
 let ae:cnt T<=cnt (T.set (bey l m) (Z (x+l.2.2))):=by
  let:cOf o<=1:=by unfold cOf;lia
  lia
 let mul_le:(cnt T:G)*(M:G)<=(cnt (T.set (bey l m) (Z (x+l.2.2))):G)*(M:G):=Int.mul_le_mul_of_nonneg_right ∅ ∅
 let bm:=I.bd m x J;erw[I.w0,by simp[*],by simp[*],by rw[gT,R6 g];exact I.st,by rw[gV,R6 g];exact I.vs,λr y e=>?_,λr y e=>?_,λr k' e=>?_,λr y e=>?_,λr y i l' e N w aa=>?_,λr N=>?_]
 .rw[gT]at e;by_cases c:bey l m=r
  .rw[R5 c]at e;grind
  .rw[R6 c]at e;exact I.nn r y e
 .rw[gT]at e;by_cases c:bey l m=r
  .rw[R5 c]at e;cases e
   cases o with
   |none =>
    let C:cnt (T.set (bey l m) (Z (x+l.2.2)))=cnt T+1:=by assumption
    rw[C];grind
   |some z =>
    let:=a z U;let:=I.bd (bey l m) z t;lia
  .rw[R6 c]at e;let:=I.bd r y e;lia
 .rw[gV]at e;by_cases c:bey l m=r
  .rw[R5 c]at e;cases e;erw[l,x+l.2.2,x,hl,c▸ve D,by rw[gT,R5 c],3,MD _]
   rw[← c,rq D,gT,R6 nm];exact J
  .rw[R6 c]at e;let l2 q b C eg p e4 e5:=I.pr r k' e;let z e6 e7:=low _ _ e4;erw[l2,q,z,C,eg,by simp[*],e6,4]
 .rw[gT]at e;by_cases c:bey l m=r
  .rw[← c];erw[_,ut]
  .rw[R6 c]at e;let j u:=I.up r y e;exact all u
 .let nr:r∉W/\r≠bey l m:=#[λz=>N ((hW r).mpr (.inl z)),λz=>N ((hW r).mpr (.inr z))]
  rw[gT,R6 (Ne.Y nr.2)]at e;obtain h|⟨z,A,L⟩:=I.rl r y i l' e nr.1 w aa
  .obtain h|⟨A,L⟩:=ab r i h
   .exact .inl h
   .simp!
  .let z' f eK:=low _ _ A;exact .inr #[z',f,4]
 .rcases(hW r).mp N with h|h
  .let y e:=I.wk r h;let z f _:=low _ _ e;erw[z,f]
  .rw[h];erw[_,by rw[gT,R5 U]]
theorem FI.leave{ls:E Lk}{s:R}(I:FI n ls s M T Y W ex){k:R}{l:Lk}{x y:G}(hl:ls[k]?=Z l)(J:T[m]?=Z (Z x))(Q:T[bey l m]?=Z (Z y))(b:y<=x+l.2.2)(c:∀ r i,ex r i->ex' r i∨(r=m/\i=k)):FI n ls s M T Y W ex' :=
 #[I.w0,I.tl,I.vl,I.st,I.vs,I.nn,I.bd,I.pr,I.up,λr z i t e N w a=>by
  obtain h|h:=I.rl r z i t e N w a
  .obtain h|⟨A,L⟩:=c r i h
   .exact .inl h
   .simp!
  .exact .inr h,I.wk]
def Ft{ls:E Lk}{s:R}(I:FI n ls s M T Y W ex){t:R}{x w:G}{o:io G}(u:0<=w)(a:w<=(M:G))(J:T[m]?=Z (Z x))(i:T[t]?=Z o)(r:∀ y,o=Z y->x+w<y):
  wgt (n*M+1) (T.set t (Z (x+w)))+1<=wgt (n*M+1) T:=by
 let e:=sO (vOf (n*M+1)) T t o (Z (x+w)) i;let p:=I.nn m x J;let b:=I.bd m x J;let C:vOf (n*M+1) (Z (x+w))=(x+w).U:=rfl;unfold wgt;rw[C]at e
 cases o with
 |none =>
  let f:=IS T i;let eg:vOf (n*M+1) k7=n*M+1:=rfl;rw[eg]at e;let A:cnt T*M<=n*M:=Pj M (by rw[I.tl]at f;lia)
  let L:x+(M:G)<=((n*M:R):G):=by grind
  lia
 |some z =>
  let:=r z U;let eg:vOf (n*M+1) (Z z)=z.U:=rfl;grind
def FI.first{ls:E Lk}{s:R}(u:∀ l∈ls,0<=l.2.2/\l.2.2<=(M:G))(hs:s<n):FI n ls s M ((LD n k7).set s (Z 0)) (LD n k7) [s] (λ_ _=>False):=by
 let m:∀ r:R,((LD n (k7:io G)).set s (Z 0))[r]?=if s=r then Z (Z 0) else(LD n k7)[r]?:=λr=>As (by simp[*])
 let d:∀{b:Type}(r:R)(x:b),(LD n (k7:io b))[r]?≠Z (Z x):=λr x e=>by
  let:=Ln e;simp!
 let one:∀(r:R)(x:G),((LD n (k7:io G)).set s (Z 0))[r]?=Z (Z x)->r=s/\x=0:=λr x e=>by
  rw[m]at e;by_cases c:s=r
  .simp!
  .rw[R6 c]at e;exact R7 e (d r x)
 erw[u,by rw[Nk,OA],OA,by rw[m,R5 U],by rw[Nb,R5 hs],λr x e=>?_,λr x e=>?_,λr k e=>R7 e (d r k),λr x e=>?_,λr x i l e N=>?_,λr N=>?_]
 .rw[(one r x e).2];exact MD _
 .rw[(one r x e).2];let a:=sO cOf (LD n (k7:io G)) s k7 (Z 0) (by rw[Nb,R5 hs])
  let c1:cOf (Z 0)=1:=rfl;let c0:cOf k7=0:=rfl;let:1<=cnt ((LD n (k7:io G)).set s (Z 0)):=by unfold cnt;lia
  let L:1*M<=cnt ((LD n (k7:io G)).set s (Z 0))*M:=Pj M this;let f:((1*M:R):G)<=((cnt ((LD n (k7:io G)).set s (Z 0))*M:R):G):=by exact_mod_cast L
  push_cast at f;lia
 .rw[(one r x e).1];erw[00,.root]
 .rw[(one r x e).1]at N;exact R7 (LY.mpr U) N
 .rw[LY.mp N];erw[00,by rw[m,R5 U]]
theorem FI.take{ls:E Lk}{s:R}{W':E R}(I:FI n ls s M T Y W (λ_ _=>False))(b:∀ r,r∈W'↔r∈W/\r≠m):FI n ls s M T Y W' (λr _=>r=m) :=
 #[I.w0,I.tl,I.vl,I.st,I.vs,I.nn,I.bd,I.pr,I.up,λr x i l e N d a=>by
  by_cases c:r=m
  .exact .inl c
  .rcases I.rl r x i l e (λz=>N ((b r).mpr ⟨z,c⟩)) d a with h|h
   .exact h.elim
   .exact .inr h,λr N=>I.wk r ((b r).mp N).1]
theorem FI.exw{ls:E Lk}{s:R}(I:FI n ls s M T Y W ex)(h:∀ r i l,ls[i]?=Z l->o7 l r->ex r i->ex' r i):FI n ls s M T Y W ex' :=
 #[I.w0,I.tl,I.vl,I.st,I.vs,I.nn,I.bd,I.pr,I.up,λr x i l e N d a=>by
  obtain z|z:=I.rl r x i l e N d a
  .exact .inl (h r i l d a z)
  .exact .inr z,I.wk]
theorem ak(h:H p=k7)(o:HO):mu (upd H p o):=λb u q=>by rw[ar (aF q h)];exact q
theorem aJ{l:e8}(h:mu H2)(hl:H l=k7)(o:HO):mu (upd H2 l o):=λb u q=>by rw[ar (aF q hl)];exact h b u q
def fK(s:mu H')(h:H' p=k7):H p=k7:=by
 cases y:H p with
 |none=>rfl
 |some o=>rw[s _ _ y]at h;cases h
def iV(p:R):V:=.int (p:G)
theorem at0{x:V}:atI [x,y] 0=Z x:=rfl
theorem at1{x:V}:atI [x,y] 1=Z y:=rfl
theorem a30{x:V}:atI [x,y,z] 0=Z x:=rfl
theorem a31{x:V}:atI [x,y,z] 1=Z y:=rfl
theorem a32{x:V}:atI [x,y,z] 2=Z z:=rfl
def LkAt(H:Hp)(v:V)(l:Lk):Prop:=∃ t,v=.ref t/\H t=Z (.tup [.int (l.1:G),.int (l.2.1:G),.int l.2.2])
def LnAt(H:Hp)(v:V)(ls:E Lk):Prop:=∃ a O,v=.ref a/\H a=Z (.lst O)/\LsAt LkAt H O ls
def LkAt.mono{p:Lk}(h:LkAt H v p)(s:mu H'):LkAt H' v p:=by
 let t e z:=h;erw[t,e,s _ _ z]
def LnAt.mono{H H':Hp}{v:V}{r:E Lk}(h:LnAt H v r)(s:mu H'):LnAt H' v r:=by
 let a O e z l:=h;erw[a,O,e,s _ _ z,l.imp λ_ _ q=>q.mono s]
def MM:R:=10^31
structure Lok(n:R)(ls:E Lk):Prop where
 n1:n<=40
 l9:ls.L<=60
 sm:∀ l∈ls,l.1<n/\l.2.1<n
 w0:∀ l∈ls,0<=l.2.2/\l.2.2<=(MM:G)
def bF(S:e8->Prop)(H:Hp)(xs:E V)(ts:mo):Prop:=xs.L=ts.L/\∀(i:R)(l:E R),ts[i]?=Z l->∃ p,xs[i]?=Z (.ref p)/\¬ S p/\H p=Z (.lst (l.h iV))
theorem bF.mono{S:e8->Prop}(h:bF S H xs ts)(s:∀ b u,¬ S b->H b=Z u->H' b=Z u):bF S H' xs ts:=#[h.1,λi e q=>by
 let p a n b:=h.2 i e q
 erw[p,a,n,s _ _ n b]]
def bF.snoc{S:e8->Prop}(h:bF S H xs ts)(n:¬ S q)(e:H q=Z (.lst (l.h iV))):bF S H (xs++[.ref q]) (ts++[l]):=by
 erw[by rw[Lx,Lx,h.1];rfl,λj k f=>?_]
 by_cases J:j<ts.L
 .rw[Ls J]at f;let p D I c:=h.2 j k f;erw[p,by rw[Ls (by rw[h.1];exact J)];exact D,I,c]
 .rw[Lr (OB J)]at f;let a:j=ts.L:=by
   let:=(Lm.mp f).1;rw[LR]at this;lia
  subst a;rw[Mf]at f
  cases f
  erw[q,by rw[← h.1,Lr (Lq _),Mf];rfl,n,e]
def Dist(xs:E V):Prop:=∀(i j:R)(p:e8),xs[i]?=Z (.ref p)->xs[j]?=Z (.ref p)->i=j
def bF.set{S:e8->Prop}(h:bF S H xs ts)(D:Dist xs)(e:xs[i]?=Z (.ref p)):bF S (upd H p (.lst (l'.h iV))) xs (ts.set i l'):=by
 erw[by rw[Nk];exact h.1,λj l z=>?_]
 let B:i<ts.L:=by rw[← h.1];exact(Lm.mp e).1
 rw[MH]at z;by_cases J:i=j
 .subst J;rw[R5 U,R5 B]at z
  cases z
  let A n I c:=h.2 i _ (Ll B);rw[e]at n
  cases n
  erw[p,e,I,ag]
 .rw[R6 J]at z;let A n I c:=h.2 j l z;erw[A,n,I,by rw[ar (λy=>by rw[y]at n;exact J (D i j p e n))];exact c]
def nz{S:e8->Prop}(h:bF S H xs ts)(D:Dist xs)(y:H q=k7):Dist (xs++[.ref q]):=by
 let old:∀ i p,xs[i]?=Z (V.ref p)->p≠q:=λi p e z=>by
  let B:i<ts.L:=by rw[← h.1];exact(Lm.mp e).1
  let A n _ a:=h.2 i _ (Ll B);simp!
 let g:∀ i p,(xs++[V.ref q])[i]?=Z (V.ref p)->(xs[i]?=Z (V.ref p))∨(i=xs.L/\p=q):=λi p e=>by
  by_cases c:i<xs.L
  .rw[Ls c]at e;exact .inl e
  .rw[Lr (OB c)]at e;let L:=(Lm.mp e).1;rw[LR]at L;let f:i-xs.L=0:=by lia
   rw[f]at e;grind
 intro i j p C eg;obtain Y|⟨Y,d⟩:=g i p C
 .obtain L|⟨L,b⟩:=g j p eg
  .exact D i j p Y L
  .exact R7 b (old i p Y)
 .grind
structure AtM(n c:R)(rows:mo)(mem:R->R->Prop):Prop where
 len:rows.L=n
 mm:∀(r:R)(row:E R),rows[r]?=Z row->∀ j,j∈row↔mem r j
 few:∀ row∈rows,row.L<=c
def AtM.put{c:R}{rows:mo}{mem:R->R->Prop}(h:AtM n c rows mem){a:R}(hl:rows[a]?=Z l):AtM n (c+1) (rows.set a (l++[i])) (λr j=>mem r j∨(r=a/\j=i)):=by
 let T:=(Lm.mp hl).1;erw[by rw[Nk];exact h.len,λr b e j=>?_,λb N=>?_]
 .rw[As T]at e;by_cases z:a=r
  .rw[R5 z]at e
   cases e
   subst z;rw[LG,LY,h.mm a l hl j];lia
  .rw[R6 z]at e;rw[h.mm r b e j];erw[.inl,λy=>y.elim id λy=>R7 y.1.Y z]
 .obtain y|y:=OW N
  .let:=h.few b y;lia
  .let:=h.few l (Ln hl)
   simp[*]
def memL(ls:E Lk)(r j:R):Prop:=∃ l,ls[j]?=Z l/\o7 l r
structure Txt(mg:ff->io eN):Prop where
 n_len:mg "len"=k7
 n_int:mg "int"=k7
 n_bool:mg "bool"=k7
 n_list:mg "list"=k7
 n_tuple:mg "tuple"=k7
 n_range:mg "range"=k7
 n_min:mg "min"=k7
 n_abs:mg "abs"=k7
 n_enumerate:mg "enumerate"=k7
 n_isinstance:mg "isinstance"=k7
inductive JE
 |mk (v:V)(l:Lk)(r:R) (_:vs=[v,.int (r:G)])(_:LkAt H v l)(_:Q (.int ((bey l r:R):G)) H)
inductive spAt
 |mk (v:V)(n:R)(ls:E Lk) (_:vs=[.int (n:G),v])(_:LnAt H v ls)(_:Lok n ls)(_:∀(p:e8)(ys:E V)(rows:mo) H',mu H'->H p=k7->H' p=Z (.lst ys)->bF (λq=>q=p∨H q≠k7) H' ys rows->AtM n 120 rows (memL ls)->Q (.ref p) H')
def C0:az ["link","room"] ["link","room"] (aq pK):=by ac_nf
def ok_bey(F:Fun K "beyond" "beyond" pK f fd):k9 1 f fd ["link","room"] JE:=by
 refine F.ok C0 (by walk_at "l") λB A u s H L Q eg N h=>?_
 let v l r rfl{t rfl n}q:=h;intro I o;erw[_,(ao (aD (j8 (aC cR (pv 1) (aG (pv 0) ai) (aE _)) (aG (pv 0) ai) (aG (pv 0) ai)))),3];erw[153,t,_,00,41,SqT.of n,a30,230];refine ite2 (λc=>?_) (λc=>?_)
 .let D:r=l.1:=by lia
  let e:bey l r=l.2.1:=by unfold bey;rw[R5 D]
  rw[e]at q;erw[9,t,_,01,41,SqT.of n,a31,q]
 .let D:¬ r=l.1:=λz=>c (Rl (congrArg V.int ∅))
  let e:bey l r=l.1:=by unfold bey;rw[R6 D]
  rw[e]at q;erw[9,t,_,00,41,SqT.of n,a30,q]
def gU:az ["many","links","at","number","link"] ["many","links"] (aq j4):=by ac_nf
def ok_at(F:Fun K "links_at" "links_at" j4 f fd)(T:Txt mg):k9 1 f fd ["many","links"] spAt:=by
 refine F.ok gU (by walk_at "l") λk A M s H q Q eg N h=>?_
 let v n ls rfl{a xs rfl hA hL}ok I:=h;let n1:=ok.n1;let l9:=ok.l9;let xl:=hL.1
 intro Xc Dc;erw[_,(ah (oU 2 [] ["room"] gU.nd (aO U T.n_range (af (pv 0) aj)) pg_c pt_c (λC ex s H=>(dB aj)))
   (ah (mj (g9 U T.n_enumerate (af (pv 1) aj)) (qD U (aH (bW 3 gU.nd) (aH (bW 4 gU.nd) b7))) (ah (aW (eG LH Md Mc a9 (a8 (pv 2) (aG (pv 4) ai)) (af (pv 3) aj)))
   (ao (aW (eG LH Md Mc a9 (a8 (pv 2) (aG (pv 4) ai)) (af (pv 3) aj))))))
   (ao (aD (pv 2))))),3]
 erw[5273,cH (n:=(n:G).U) (λi t eK=>mu eK/\bF (λp=>H p≠k7) eK t (LD i [])/\Dist t) (by rw[Lv];exact LN (av ∅)) #[λ_ _ e=>e,#[U,λi l e=>by simp at e],λi j p e=>by contradiction] ?_ ?_]
 .rintro i t eK B ⟨o,rx,D⟩;erw[(by simp),λl d=>?_]
  let m:=ak d (.lst []);erw[o.Q m,3,nz rx D d];rw[Od];exact(rx.mono λb u _ z=>m _ _ z).snoc (λz=>z (fK o d)) ag
 rintro t eK aI ⟨o,rx,D⟩ pn ac;rw[Lv]at rx;let m:=ak ac (.lst t);let bg:H pn=k7:=fK o ac
 let bn:bF (λp=>p=pn∨H p≠k7) (upd eK pn (.lst t)) t (LD n []):=#[rx.1,λi l z=>by
  let p a1 a2 a3:=rx.2 i l z;let n2:p≠pn:=aF a3 ac
  erw[p,a1,by rintro(y|y);exact n2 y;exact a2 y,m _ _ a3]]
 let m0:AtM n 0 (LD n []) (memL (ls.j 0)):=#[OA,λr aS e j=>by
  let:=(List.mem_replicate.mp (Ln e)).2;subst this
  erw[(λz=>nomatch z),λ⟨l,z,_⟩=>by contradiction],λaS N=>by simp!]
 erw[9,a,U,#[_,SqL.of ((o.Q m) _ _ hA)],pY (K:=K) (xs:=xs) (λi O H5=>∃ v4 v5 rows,O=[Z (.int (n:G)),Z (.ref a),Z (.ref pn),v4,v5]/\mu H5/\H5 pn=Z (.lst t)/\bF (λp=>p=pn∨H p≠k7) H5 t rows/\AtM n (2*i) rows (memL (ls.j i)))
  #[149,o.Q m,ag,bn,m0] (λi O H5 _ ab=>by let _ _ _ _ z _:=ab;exact SqL.of (z _ _ hA)) ?_ ?_]
 .rintro i x O H5 T2 J ⟨v4,v5,rows,rfl,s5,a0,an,am⟩ aa;let l d p rfl g:=hL.get J;let b1 b2:=ok.sm l (Ln d);let sT:=ak aa (.tup [.int (i:G),.ref p]);let s6:=s5.Q sT;let bm:=s6 _ _ g;let bi:=am.len;let bK:i<ls.L:=(Lm.mp d).1;let r1 ae:∃ r,rows[l.1]?=Z r:=#[_,Ll ∅]
  let a4:bF (λp=>p=pn∨H p≠k7) (upd H5 T2 (.tup [.int (i:G),.ref p])) t rows:=an.mono λb u _ z=>sT _ _ z;let p1 y1 y2 y3:=a4.2 _ _ ae;let aT:∀{p:e8},¬ (p=pn∨H p≠k7)->H p=k7/\p≠pn:=λ{p} n=>by
   simp!
  let al bp:=aT y2;let f1:=am.few r1 (Ln ae);let a7:=sT _ _ a0;erw[T2,9,SqT.of ag,238998];erw[153,p,_,00,41,SqT.of bm,a30,pn,t,165,SqL.of a7,aB y1,.inl #[6,SqL.of y3],9,p1,165,y3,av (by rw[Lp];lia),3]
  let aX:(r1.h iV)++[V.int (i:G)]=(r1++[i]).h iV:=by rw[LC];rfl
  rw[aX];let bb:=a4.set D y1 (l':=r1++[i]);let bJ:=am.put (i:=i) ae;let s7:mu (upd (upd H5 T2 (.tup [.int (i:G),.ref p])) p1 (.lst ((r1++[i]).h iV))):=aJ s6 al _;let bu:=s7 _ _ g;let ba:(upd (upd H5 T2 (.tup [.int (i:G),.ref p])) p1 (.lst ((r1++[i]).h iV))) pn=Z (.lst t):=by rw[ar bp.Y];exact a7
  let r2 a5:∃ r,(rows.set l.1 (r1++[i]))[l.2.1]?=Z r:=#[_,Ll (by simp[*])]
  let p2 z1 z2 z3:=bb.2 _ _ a5;let ap bv:=aT z2;let f2:=bJ.few r2 (Ln a5);erw[153,p,_,01,41,SqT.of bu,a31,pn,t,165,SqL.of ba,aB z1,.inl #[6,SqL.of z3],9,p2,165,z3,av (by grind),3]
  let a6:(r2.h iV)++[V.int (i:G)]=(r2++[i]).h iV:=by rw[LC];rfl
  rw[a6];let bB:=bJ.put (i:=i) a5;erw[5,(rows.set l.1 (r1++[i])).set l.2.1 (r2++[i]),U,aJ s7 ap _,by rw[ar bv.Y];exact ba,bb.set D z1,bB.len,λr aS e j=>?_,λaS N=>?_]
  .rw[bB.mm r aS e j];unfold memL;rw[LK,d];let be:(ls.j i).L=i:=by rw[M9];lia
   constructor
   .rintro((⟨l',Y,L⟩|⟨Y,L⟩)|⟨Y,L⟩)
    .erw[l',by rw[Ls (Lm.mp Y).1];exact Y,L]
    .subst L;erw[l,by rw[Lr ∅,be,Mf];rfl,.inl Y]
    .subst L;erw[l,by rw[Lr ∅,be,Mf];rfl,.inr Y]
   .rintro⟨l',Y,L⟩;by_cases c:j<i
    .rw[Ls ∅]at Y
     exact .inl (.inl #[l',Y,L])
    .rw[Lr ∅]at Y
     let h3:=(Lm.mp Y).1;let h4:j=i:=by
      let:(io.toList (Z l)).L=1:=rfl;lia
     subst h4;rw[be,Mf]at Y
     cases Y
     obtain L|L:=L
     .exact .inl (.inr #[L,U])
     .exact .inr #[L,U]
  .let:=bB.few aS N;lia
 .rintro O H5 ⟨v4,v5,rows,rfl,s5,a0,an,am⟩;rw[xl,LP]at am;erw[9,I pn t rows H5 s5 bg a0 an #[am.len,am.mm,λaS N=>by let:=am.few aS N;lia]]
inductive oA
 |mk (n:G) (_:vs=[.int n])(_:0<=n)(_:n<1208925819614629174706176)(_:∀ r H',mu H'->H r=k7->H' r=Z (.lst ((K2.bitsF 0 n.U).h iV))->Q (.ref r) H')
def nO:az ["mask","numbers","number","rest"] ["mask"] (aq Ax):=by ac_nf
def ok_bits(F:Fun K "bits" "bits" Ax f fd):k9 1 f fd ["mask"] oA:=by
 refine F.ok nO (by walk_at "l") λt A I s H L Q eg N h=>?_
 let n rfl m Y k:=h
 intro C J;erw[_,(ah (aA 1 nO.nd (dB aj))
   (ah (aA 2 nO.nd ai)
   (ah (aA 3 nO.nd (pv 0))
   (ah (fB PassesOwn.never (aC ye (pv 3) ai (aE _)) (ah (bH (aC cR (aw bG (pv 3) ai) ai (aE _)) (ao (aW (eG LH Md Mc a9 (pv 1) (af (pv 2) aj)))) aM)
   (ah (aA 3 nO.nd (aw fe (pv 3) ai))
   (ao (aA 2 nO.nd (aw cA (pv 2) ai))))))
   (ao (aD (pv 1))))))),3]
 erw[(by show 0<=QG;decide),λl d=>?_]
 let ac:(2:R)^80=1208925819614629174706176:=by decide
 let x:(K2.bitsF 0 n.U).L<=80:=K2.bitsF_len 80 n.U 0 ∅
 erw[9,fY (λO u=>∃(kn rn:R)(aa:E R),O=[Z (.int n),Z (.ref l),Z (.int (kn:G)),Z (.int (rn:G))]/\u l=Z (.lst (aa.h iV))/\aa++K2.bitsF kn rn=K2.bitsF 0 n.U/\mu u)
  (λO _=>match O with | [_,_,_,Z (.int r)]=>r.U|_=>0) #[00,n.U,[],3,ag,U,ak d _] ?_ ?_]
 .let e:((n.U:R):G)=n:=by lia
  rw[e];rfl
 .rintro O u ⟨kn,rn,aa,rfl,g,M,p⟩;erw[236121];refine ite2 (λc=>?_) (λc=>?_)
  .let T:(0:G)<(rn:G):=RS c
   let eK:((rn:G)/2)=((rn/2:R):G):=by lia
   let ab:aa.L<=80:=by
    let:=congrArg List.length M;rw[Lx]at this;lia
   walk_at "rd";refine ite2 (λo=>?_) (λo=>?_)
   .let o':(rn:G)%2=1:=V.int.inj (RS o)
    erw[9,.inl #[6,SqL.of g],9,l,165,g,av (by rw[Lp];lia),3]
    walk_at "rd";erw[#[kn+1,rn/2,aa++[kn],255],3]
    .show[Z (V.int n),Z (V.ref l),Z (V.int ((kn:G)+1)),Z (V.int ((rn:G)/2))]=_;rw[eK];rfl
    .rw[ag,LC];rfl
    .rw[Oy,← M];let z:=K2.bitsF_odd (k:=kn) (n:=rn) ∅
     rw[z];rfl
    .exact aJ p d _
    .show((rn:G)/2).U<((rn:R):G).U;lia
   .let o':¬ (rn:G)%2=1:=λz=>o (Rl (congrArg V.int z))
    walk_at "rd";erw[#[kn+1,rn/2,aa,3,g,3,p],3]
    .show[Z (V.int n),Z (V.ref l),Z (V.int ((kn:G)+1)),Z (V.int ((rn:G)/2))]=_;rw[eK];rfl
    .rw[← M,K2.bitsF_even (k:=kn) (n:=rn) ∅ ∅]
    .show((rn:G)/2).U<((rn:R):G).U;lia
  .let T:¬ (0:G)<(rn:G):=λz=>c (Rl z)
   let z:rn=0:=by lia
   subst z;rw[K2.bitsF_zero,OP]at M;erw[57];exact k l u p d (by rw[g,M])
 .rintro O u Q1 Q2 B ⟨v,e,i,j,a,b,y,D,q⟩;erw[v,e,i,j,a,b,y,D,B _ _ q]
def flat(PL:E (R×R)):E R:=PL.flatMap λp=>[p.1,p.2]
def cst(d:R->R->G)(PL:E (R×R)):G:=(PL.h λp=>d p.1 p.2).sum
def Cs(d:R->R->G)(S:E R)(c:G):Prop:=∃ k,(flat k).Perm S/\cst d k=c
structure Met(n:R)(d:R->R->G):Prop where
 sy:∀ a b,d a b=d b a
 nn:∀ a b,0<=d a b
 tr:∀ a b c,a<n->b<n->c<n->d a c<=d a b+d b c
theorem flat_cons(p:R×R)(PL:E (R×R)):flat (p::PL)=p.1::p.2::flat PL:=rfl
def kK(d:R->R->G)(p:R×R)(PL:E (R×R)):cst d (p::PL)=d p.1 p.2+cst d PL:=by rfl
def Cs.perm{d:R->R->G}{S:E R}{c:G}(h:Cs d S c)(p:S.Perm l):Cs d l c:=by
 let k Y L:=h;erw[k,Y.Q p,L]
theorem part0{d:R->R->G}(sy:∀ a b,d a b=d b a){a:R}:∀{PL:E (R×R)},a∈flat PL->∃ e f,(flat PL).Perm (a::e::flat f)/\cst d PL=d a e+cst d f
 |[],h=>nomatch h
 | (x,y)::PL,h=>by
  rw[flat_cons]at h;by_cases c1:a=x
  .subst c1;erw[y,PL,.refl _,kK ..]
  by_cases c2:a=y
  .subst c2;erw[x,PL,.swap _ _ _,by rw[kK];simp[*]]
  let N:a∈flat PL:=by simp!
  let e f p i:=part0 sy N;erw[e,(x,y)::f,3,by rw[kK,kK,i];lia]
  rw[flat_cons,flat_cons];let v:(x::y::flat PL).Perm (x::y::a::e::flat f):=(p.cons y).cons x;refine v.Q ?_;let k:([x,y]++([a,e]++flat f)).Perm ([a,e]++([x,y]++flat f)):=by
   rw[← Oy,← Oy];exact(List.perm_append_comm).append_right _
  exact k
def Cs.part{d:R->R->G}(sy:∀ a b,d a b=d b a){S:E R}{c:G}{a:R}(h:Cs d S c)(T:a∈S):∃ e ad c0,S.Perm (a::e::ad)/\Cs d ad c0/\c=d a e+c0:=by
 let k p i:=h;let e f A g:=part0 sy (p.mem_iff.mpr T);erw[e,flat f,cst d f,p.Y.Q A,#[f,.refl _,U],by rw[← i,g]]
def Cs.add{d:R->R->G}{ad:E R}{c0:G}(a e:R)(h:Cs d ad c0):Cs d (a::e::ad) (d a e+c0):=by
 let k p i:=h;erw[(a,e)::k,by rw[flat_cons];exact(p.cons e).cons a,by rw[kK,i]]
def tog(S:E R)(a:R):E R:=if a∈S then S.erase a else a::S
def tog_nd{S:E R}(h:S.l)(a:R):(tog S a).l:=by
 unfold tog;split
 .exact h.erase _
 .exact LF.mpr #[by assumption,h]
def pF{S:E R}(p:S.Perm l)(a:R):(tog S a).Perm (tog l a):=by
 unfold tog;by_cases c:a∈S
 .rw[R5 c,R5 (p.mem_iff.mp c)];exact p.erase a
 .rw[R6 c,R6 (λz=>c (p.mem_iff.mpr z))];exact p.cons a
def Js{S:E R}(h:S.l)(a:R):(tog (tog S a) a).Perm S:=by
 by_cases c:a∈S
 .let e:tog S a=S.erase a:=by unfold tog;rw[R5 c]
  let n:a∉S.erase a:=h.not_mem_erase;let eg:tog (S.erase a) a=a::S.erase a:=by unfold tog;rw[R6 n]
  rw[e,eg];exact(OG c).Y
 .let e:tog S a=a::S:=by unfold tog;rw[R6 c]
  let eg:tog (a::S) a=S:=by unfold tog;simp
  rw[e,eg]
def Kr{S:E R}(h:S.l){a x:R}:x∈tog S a↔(x∈S/\x≠a)∨(x=a/\a∉S):=by
 unfold tog;by_cases c:a∈S
 .rw[R5 c,h.mem_erase_iff];erw[λz=>.inl #[z.2,z.1],λz=>z.elim (λy=>#[y.2,y.1]) λy=>R7 c y.2]
 .rw[R6 c,Lz];constructor
  .rintro(z|z)
   .exact .inr #[z,c]
   .exact .inl #[z,λy=>c (y▸z)]
  .rintro(z|z)
   .exact .inr z.1
   .exact .inl z.1
def Cs.two{d:R->R->G}(M:Met n d){S:E R}{c:G}(nd:S.l)(lt:∀ x∈S,x<n)(h:Cs d S c){a b:R}(T:a<n)(g:b<n):∃ c',Cs d (tog (tog S a) b) c'/\c'<=c+d a b:=by
 let r:=M.nn a b;by_cases D:a=b
 .subst D;erw[c,h.perm (Js nd a).Y,4]
 by_cases m:a∈S
 .let e ad c0 p l i:=h.part M.sy m;let o:tog S a=S.erase a:=by unfold tog;rw[R5 m]
  let v:(S.erase a).Perm (e::ad):=by
   let:=p.erase a;rw[NJ]at this;exact this
  let k:e<n:=lt e (p.mem_iff.mpr (Lu _ (Ly ..)));rw[o];by_cases B:b∈S.erase a
  .let A:tog (S.erase a) b=(S.erase a).erase b:=by unfold tog;rw[R5 B]
   rw[A];by_cases w:e=b
   .subst w;let t:=v.erase e;rw[NJ]at t;erw[c0,l.perm t.Y,3];lia
   .let C:b∈ad:=by
     rcases Lz.mp (v.mem_iff.mp B)with z|z
     .exact R7 z.Y w
     .exact z
    let f R2 c1 q Y eg:=l.part M.sy C;let flt:f<n:=lt f (p.mem_iff.mpr (Lu _ (Lu _ (q.mem_iff.mpr (Lu _ (Ly ..))))));let t:((S.erase a).erase b).Perm (e::f::R2):=by
     let s:(S.erase a).Perm (b::e::f::R2):=v.Q ((q.cons e).Q (.swap _ _ _));let u:=s.erase b;rw[NJ]at u;exact u
    erw[d e f+c1,(Y.add e f).perm t.Y,3];let y:=M.tr e a f k T flt;let J:=M.tr a b f T g flt;let j:=M.sy e a;lia
  .let A:tog (S.erase a) b=b::S.erase a:=by unfold tog;rw[R6 B]
   rw[A];erw[d b e+c0,(l.add b e).perm (v.Y.cons b),3];let y:=M.tr b a e g T k;let j:=M.sy b a;lia
 .let o:tog S a=a::S:=by unfold tog;rw[R6 m]
  rw[o];by_cases B:b∈S
  .let A:tog (a::S) b=a::S.erase b:=by
    unfold tog;simp[*]
   rw[A];let e ad c0 p l i:=h.part M.sy B;let v:(S.erase b).Perm (e::ad):=by
    let:=p.erase b;rw[NJ]at this;exact this
   let k:e<n:=lt e (p.mem_iff.mpr (Lu _ (Ly ..)));erw[d a e+c0,(l.add a e).perm (v.Y.cons a),3];let y:=M.tr a b e T g k;lia
  .let A:tog (a::S) b=b::a::S:=by
    unfold tog;rw[R6 (λz=>by simp!)]
   rw[A];erw[d b a+c,h.add b a,3];let:=M.sy b a;lia
end KF
variable{ls:E KF.Lk}
namespace KF
open PySem L2
def lpF:Pos:=#[070,032,070,055]
def Fun.okT{j:ff}{st:fo}{c TT:e8}{N ps:E ff}{k:R}(F:Fun K x j st f fd)(S:az N ps (aq st))(n:Ob K x=some (c,TT))(a:Mj K QI x=some (some (.ref f)))(len:∀ vs H Q eg,sp vs H Q eg->vs.L=ps.L)(b:∀(A:Around)(outer:E gI)(s:e9)(H:Hp)(vs:E V)(Q:VK)(eg:XK),Room k (A.deeper (PyProof.Rows.envOfC j (aq st) s.H.M.J f (.ref c)))->sp vs H Q eg ->
   let X:=(cxOf CX0 P w K mg base N j (aq st) f (.ref c) A outer s H eg).nox;let D:Ends:={nx:=λ_ H'=>Q .non H',rt:=Q};∃ t,PSs X (cG st) t/\t D (rE N vs) H):k9 (k+1) f fd ps sp:=by
 let g i kV p M m B l d rfl v z:=F.ex;let e:B=.ref c:=by
  unfold Ob at n;rw[a]at n;simp only[v]at n
  cases B<;>first|(contradiction)|skip
  simp only at n;split at n
  .split at n
   .simp!
   .contradiction
  .cases n
 subst e;refine KN v z S len λA outer s H vs Q eg I y=>?_;let t h q:=b A outer s H vs Q eg I y;erw[t,h.nox,q]
def oV:io G->V|none=>.non|some x=>.int x
def oN:io R->V|none=>.non|some k=>.int (k:G)
def kw(r:R):Key×V:=(Sum.inl (r:G),.bl kf)
def lqF:ff:=("fares" : ff)++".<locals>."++"<lambda>"
def sF(d va wd TT p:e8):Prop:=p=TT∨p=d∨p=va∨p=wd
def KpS(S:e8->Prop)(H H':Hp):Prop:=∀ b o,¬ S b->H b=Z o->H' b=Z o
theorem KpS.upd{S:e8->Prop}(a:KpS S H H1)(g:S p)(o:HO):KpS S H (L2.upd H1 p o):=λc u n h=>by
 rw[ar (λz=>n (by rw[z];exact g))]
 exact a c u n h
inductive spFares(TT:e8)
 |mk (v:V)(n s:R)(ls:E Lk) (_:vs=[.int (n:G),v,.int (s:G)])(_:LnAt H v ls)(_:Lok n ls)(_:s<n)(_:Tb lqF lpF TT H)(_:∀(t ta va:e8)(TL:E (io G))(VL:E (io R)) H',TbS TT H H'->Tb lqF lpF TT H'->H ta=k7->H va=k7->H' t=Z (.tup [.ref ta,.ref va])->H' ta=Z (.lst (TL.h oV))->H' va=Z (.lst (VL.h oN))->FI n ls s MM TL VL [] (λ_ _=>False)->Q (.ref t) H')
structure FH(ta va wd TT:e8)(n s:R)(ls:E Lk)(H1:Hp)(TL:E (io G))(VL:E (io R))(W:E R)(ex:R->R->Prop)(H:Hp):Prop where
 kp:KpS (sF ta va wd TT) H1 H
 ht:H ta=Z (.lst (TL.h oV))
 hv:H va=Z (.lst (VL.h oN))
 hw:H wd=Z (.dK (W.h kw))
 tb:Tb lqF lpF TT H
 fi:FI n ls s MM TL VL W ex
 nd:W.l
def vW(n:R)(v:V):R:=match v with | .int x=>x.U|_=>n*MM+1
def mesH(n:R)(d wd:e8)(H:Hp):R:=match H d,H wd with
 |some (.lst J),Z (.dK m)=>(J.h (vW n)).sum*(n+1)+m.L
 |_,_=>0
def FH.mes{TT:e8}{s:R}(h:FH a va wd TT n s ls H1 T Y W ex H):mesH n a wd H=wgt (n*MM+1) T*(n+1)+W.L:=by
 unfold mesH wgt;rw[h.ht,h.hw];let e:(T.h oV).h (vW n)=T.h (vOf (n*MM+1)):=by
  rw[Nd];refine M7 λo _=>?_
  cases o<;>rfl
 simp[*]
theorem FH.wlen{TT:e8}{s:R}(h:FH a va wd TT n s ls H1 T Y W ex H):W.L<=n :=
 mV n W h.nd λx J=>by
  let y Q:=h.fi.wk x J;let:=(Lm.mp Q).1;rw[h.fi.tl]at this;exact this
def IE{r s:R}(h:(kw r).1=(kw s).1):r=s:=by
 let:(r:G)=(s:G):=by injection h
 lia
theorem Cn{r:R}:∀{W:E R},r∈W->valV (W.h kw) (.inl (r:G))=Z (.bl kf)
 |w::W,h=>by
  rw[LX];by_cases c:(kw w).1=Sum.inl (r:G)
  .rw[bz c];rfl
  .rw[bA c];refine Cn ?_;obtain h|h:=Lz.mp h
   .exact R7 (by rw[h];rfl) c
   .exact h
theorem no_kw{r:R}:∀{W:E R},r∉W->valV (W.h kw) (.inl (r:G))=k7
 |[],_=>rfl
 |w::W,h=>by
  rw[LX,bA (λc=>h (by rw[IE (r:=w) (s:=r) c];exact Ly ..))]
  exact no_kw λz=>h (Lu _ z)
theorem zf(r:R):∀ W:E R,o9 (W.h kw) (.inl (r:G))=(W.filter (λx=>decide (x≠r))).h kw
 |[]=>rfl
 |w::W=>by
  rw[LX];by_cases c:w=r
  .rw[EF (by rw[c];rfl),zf r W,Oo (by simpa using c)]
  .rw[EG (k:=Sum.inl (r:G)) (λz=>c (IE (r:=w) (s:=r) z)),zf r W,NP (by simp!),LX]
def put_kw{t:R}(nd:W.l):∃ W':E R,putK (W.h kw) (.inl (t:G)) (.bl kf)=W'.h kw/\W'.l/\∀ r,r∈W'↔r∈W∨r=t:=by
 by_cases c:t∈W
 .erw[W,3,nd,λr=>#[.inl,λz=>z.elim id λz=>z▸c]];unfold putK;rw[gQ,Cn c,io.isSome_some,R5 U];rw[Nd];refine M7 λx _=>?_;show(if(kw x).1=Sum.inl (t:G) then((kw x).1,V.bl kf) else kw x)=kw x;split<;>rfl
 .erw[W++[t],by rw[tQ _ (no_kw c),LC];rfl,yk nd c,λr=>by simp]
structure Sg(la aa ta va wd TT:e8)(n s:R)(ls:E Lk)(xs ys:E V)(rows:mo)(H1:Hp):Prop where
 hA:H1 la=Z (.lst xs)
 hL:LsAt LkAt H1 xs ls
 ok:Lok n ls
 hR:H1 aa=Z (.lst ys)
 rx:bF (sF ta va wd TT) H1 ys rows
 am:AtM n 120 rows (memL ls)
 nla:¬ sF ta va wd TT la
 naa:¬ sF ta va wd TT aa
 tt:∀ t o,H1 t=Z (.tup o)->¬ sF ta va wd TT t
 ntv:ta≠va
 ntw:ta≠wd
 nvw:va≠wd
 nTt:ta≠TT
 nTv:va≠TT
 nTw:wd≠TT
def qk{q:ff}{r:Pos}{TT:e8}(h:Tb q r TT H)(k:∀ b,(b=TT∨∃ c,H b=Z (codO c q))->H' b=H b):Tb q r TT H':=by
 obtain h|⟨c,Y,L⟩:=h
 .exact .inl ((k TT (.inl U)).Q h)
 .exact .inr #[c,(k TT (.inl U)).Q Y,(k c (.inr #[c,L])).Q L]
def FH.new{TT:e8}{s:R}(h:FH a va wd TT n s ls H1 T Y W ex H)(g:H p=k7)(o:HO):FH a va wd TT n s ls H1 T Y W ex (upd H p o):=by
 let sm:=ak g o;erw[λb u l e=>sm _ _ (h.kp b u l e),sm _ _ h.ht,sm _ _ h.hv,sm _ _ h.hw,qk h.tb λb M=>ar λz=>?_,h.fi,h.nd];subst z;obtain M|⟨c,M⟩:=M
 .subst M;obtain y|⟨_,y,_⟩:=h.tb<;>rw[g]at y<;>cases y
 .simp!
theorem FH.tab{TT:e8}{s:R}(h:FH a va wd TT n s ls H1 T Y W ex H)(d:a≠TT)(f:va≠TT)(c:wd≠TT)(sm:TbS TT H H')(tb:Tb lqF lpF TT H'):FH a va wd TT n s ls H1 T Y W ex H' :=
 #[λb u l e=>sm _ _ (λz=>l (.inl z)) (h.kp b u l e),sm _ _ d h.ht,sm _ _ f h.hv,sm _ _ c h.hw,tb,h.fi,h.nd]
def FrI(c e d va wd TT:e8)(n s:R)(ls:E Lk)(H1:Hp)(σ:St)(H:Hp):Prop:=∃(h k q b:io V)(o:E (io G))(a:E (io R))(W:E R),
 σ=[Z (.int (n:G)),Z (.ref c),Z (.int (s:G)),Z (.ref e),Z (.ref d),Z (.ref va),Z (.ref wd),h,k,q,b]/\FH d va wd TT n s ls H1 o a W (λ_ _=>False) H
def InI(c e d va wd TT:e8)(n s:R)(ls:E Lk)(row:E R)(m u h:R)(H1:Hp)(i:R)(σ:St)(H:Hp):Prop:=∃(k q b:io V)(o:E (io G))(a:E (io R))(W:E R),
 σ=[Z (.int (n:G)),Z (.ref c),Z (.int (s:G)),Z (.ref e),Z (.ref d),Z (.ref va),Z (.ref wd),Z (.int (m:G)),k,q,b]/\FH d va wd TT n s ls H1 o a W (λr j=>r=m/\j∉row.j i) H/\(∃ x,o[m]?=Z (Z x)) /\
 ((wgt (n*MM+1) o=u/\W.L<h)∨wgt (n*MM+1) o<u)
inductive restF(la TT:e8)(n s:R)(ls:E Lk)(D:L2.Ends)(σ:L2.St)(H:L2.Hp):Prop
 |mk (aa ta va wd:e8)(xs ys:E V)(rows:mo)(H1:Hp)(v8 v9 v10:io V)(TL:E (io G))(VL:E (io R))(W:E R)(m l0:R) (_:Sg la aa ta va wd TT n s ls xs ys rows H1)(_:σ=[Z (.int (n:G)),Z (.ref la),Z (.int (s:G)),Z (.ref aa),Z (.ref ta),Z (.ref va),Z (.ref wd),Z (.int (m:G)),v8,v9,v10])(_:FH ta va wd TT n s ls H1 TL VL W (λr _=>r=m) H)(_:(∃ x,TL[m]?=Z (Z x)))(_:W.L<l0)(_:∀ σ' H',FrI la aa ta va wd TT n s ls H1 σ' H'->mesH n ta wd H'<wgt (n*MM+1) TL*(n+1)+l0->D.nx σ' H')
inductive restM(la TT:e8)(n s:R)(ls:E Lk)(D:L2.Ends)(σ:L2.St)(H:L2.Hp):Prop
 |mk (aa ta va wd:e8)(xs ys:E V)(rows:mo)(H1:Hp)(TL:E (io G))(VL:E (io R))(W:E R)(m w0 l0 i k:R)(row:E R)(l:Lk)(x:G)(o:io G) (_:Sg la aa ta va wd TT n s ls xs ys rows H1)(_:σ=[Z (.int (n:G)),Z (.ref la),Z (.int (s:G)),Z (.ref aa),Z (.ref ta),Z (.ref va),Z (.ref wd),Z (.int (m:G)),Z (.int (k:G)),Z (.int ((bey l m:R):G)),Z (.int (x+l.2.2))])(_:FH ta va wd TT n s ls H1 TL VL W (λr j=>r=m/\j∉row.j i) H)(_:ls[k]?=Z l)(_:o7 l m)(_:TL[m]?=Z (Z x))(_:TL[bey l m]?=Z o)(_:(∀ y,o=Z y->x+l.2.2<y))(_:row[i]?=Z k)(_:((wgt (n*MM+1) TL=w0/\W.L<l0)∨wgt (n*MM+1) TL<w0))(_:∀ σ' H',InI la aa ta va wd TT n s ls row m w0 l0 H1 (i+1) σ' H'->D.nx σ' H')
theorem Ez{row:E R}{k:R}(eK:row[i]?=Z k):∀ r j,(r=m/\j∉row.j i)->(r=m/\j∉row.j (i+1))∨(r=m/\j=k):=λr j ⟨Y,L⟩=>by
 by_cases c:j=k
 .exact .inr #[Y,c]
 .refine .inl #[Y,λz=>?_];rw[LK,eK]at z;simp!
def yi{r:R}{o:io G}(h:T[r]?=Z o):(T.h oV)[r]?=Z (oV o):=by simp[*]
def fA:az ["many","links","start","at","told","via","waiting","room","number","there","fare"] ["many","links","start"] (aq jh):=by ac_nf
def ok_fares{c TT:e8}{a7:fk}(F:Fun K "fares" "fares" jh f fd)(T:Txt mg)(ht:Ob K "fares"=Z (c,TT))(hn:Mj K QI "fares"=Z (Z (.ref f)))(a0:NR base c TT)(b6:Bm mg base)(bg:lc 1 "links_at" ["many","links"] spAt f1 eK)(a5:lc 1 "beyond" ["link","room"] JE f2 a7):k9 2 f fd ["many","links","start"] (spFares TT):=by
 refine Fun.okT F fA ht hn (λvs H Q eg h=>?_) (λA u s H vs Q eg I h=>?_)
 .let v n aS ls rfl _:=h;rfl
 let v n aS ls rfl{la xs rfl hA hL}ok hs ba kk:=h;let hu:=uz I;let a4:=I.units;let n1:=ok.n1;let l9:=ok.l9;let LM:∀ N,Lam (cxOf CX0 P w K mg base N "fares" (aq jh) f (.ref c) A u s H eg).nox c TT (s.H.M.J+1) lqF:=λN=>#[U,a0,b6,170]
 intro Xc Dc;erw[_,(ah (aA 3 fA.nd (bg.c I (af (pv 0) (af (pv 1) aj))))
   (ah (aA 4 fA.nd (dj [] ["room"] (aO U T.n_range (af (pv 0) aj)) pg_c pt_c (λC ex s H=>qE)))
   (ah (oU 5 [] ["room"] fA.nd (aO U T.n_range (af (pv 0) aj)) pg_c pt_c (λC ex s H=>qE))
   (ah (vF ai (vI (pv 4) (pv 2) mB))
   (ah (aA 6 fA.nd (yd (tS (pv 2) gH xX) U U (λz=>by cases z) ∅))
   (ah (fB PassesOwn.never (aC (op_neE a4) (pv 6) mR (aE _)) (ah (aA 7 fA.nd (JS (it:=4) (LM _) U U (I.mono ∅) U (Or.inr (Or.inl U)) U T.n_min (af (pv 6) aj)))
   (ah (aW (F1 (pv 6) (pv 7) #[170]))
   (n8 (t2:=restF la TT n aS ls) (ao (mj (aN (a8 (pv 3) (pv 7))) (bW 8 fA.nd) (ah (aA 9 fA.nd (a5.c I (af (a8 (pv 1) (pv 8)) (af (pv 7) aj))))
   (ah (aA 10 fA.nd (aw cA (a8 (pv 4) (pv 7)) (aG (a8 (pv 1) (pv 8)) ai)))
   (ao (bH (PW.pt (jj (aC op_isN (a8 (pv 4) (pv 9)) qE (aE _)) (gG (aC qG (pv 10) (a8 (pv 4) (pv 9)) (aE _))))) (n8 (t2:=restM la TT n aS ls) (ah (vF (pv 10) (vI (pv 4) (pv 9) mB))
   (ah (vF (pv 8) (vI (pv 5) (pv 9) mB))
   (ao (lF hu (pv 6) (pv 9) gH U)))) (λD0 S0 H0 h0=>?restm)) aM)))))) (λD0 S0 H0 h0=>?restf)))))
   (ao (aD (cj (af (pv 4) (af (pv 5) aj))))))))))),3]
 case restm =>
  let aa ta va wd xs ys rows H1 TL VL W m w0 l0 i k row l x o sg rfl fh D hm J ho ac L bR kn:=h0;let tl:=fh.fi.tl;let vl:=fh.fi.vl;let tt:bey l m<n:=by rw[← tl];exact(Lm.mp ho).1
  let cl:=(fh.fi.w0 l (Ln D));let bU:=sg.ntv;let bi:=sg.ntw;let bv:=sg.nvw;let bN:=sg.nTt;let bP:=sg.nTv;let bu:=sg.nTw;erw[2457,ta,5,bey l m,10,fh.ht,qM (by simp[*]),3]
  erw[2457,va,5,bey l m,10,by rw[ar (Ne.Y bU)];exact fh.hv,qM (by simp[*]),3]
  let cs:(upd (upd H0 ta (.lst ((TL.h oV).set (bey l m) (.int (x+l.2.2))))) va (.lst ((VL.h oN).set (bey l m) (.int (k:G))))) wd=Z (.dK (W.h kw)):=by rw[ar (Ne.Y bv),ar (Ne.Y bi)];exact fh.hw
  let wl:=fh.wlen;erw[153,wd,9,DPut.k (k:=.inl ((bey l m:R):G)) (v:=.bl kf) cs (by rw[Lp];exact av ∅),3]
  let W' eW b8 mW:=put_kw (t:=bey l m) fh.nd;rw[eW];let j:(TL.h oV).set (bey l m) (.int (x+l.2.2))=(TL.set (bey l m) (Z (x+l.2.2))).h oV:=by rw[List.map_set];rfl
  let e2:(VL.h oN).set (bey l m) (.int (k:G))=(VL.set (bey l m) (Z k)).h oN:=by rw[List.map_set];rfl
  rw[j,e2];let ct:=fh.fi.mend (W':=W') D hm J ho ac mW (Ez L);let cw:=Ft fh.fi cl.1 cl.2 J ho ac;let nm:bey l m≠m:=λe=>by
   rw[e,J]at ho
   cases ho
   lia
  refine kn _ _ #[341,W',U,#[((fh.kp.upd (.inr (.inl U)) _).upd (.inr (.inr (.inl U))) _).upd (.inr (.inr (.inr U))) _,15,ag,3,ct,b8],#[x,by simp[*]],.inr (by grind)]
  .rw[ar bi,ar bU];exact ag
  .rw[ar bv];exact ag
  .refine qk fh.tb λb M=>?_;rw[ar (λz=>?_),ar (λz=>?_),ar (λz=>?_)]
   .obtain M|⟨c',M⟩:=M
    .exact bN (z▸M)
    .rw[z,fh.ht]at M;cases M
   .obtain M|⟨c',M⟩:=M
    .exact bP (z▸M)
    .rw[z,fh.hv]at M;cases M
   .obtain M|⟨c',M⟩:=M
    .exact bu (z▸M)
    .rw[z,fh.hw]at M;cases M
 case restf =>
  let aa ta va wd xs ys rows H1 v8 v9 ap TL VL W m l0 sg rfl fh{x J}ch kn:=h0;let mn:m<n:=by rw[← fh.fi.tl];exact(Lm.mp J).1
  let rl:=sg.am.len;let row a1:∃ row,rows[m]?=Z row:=#[_,Ll ∅]
  let pr r1 r2 r3:=sg.rx.2 _ _ a1;let hR:=fh.kp _ _ sg.naa sg.hR;let cu:=fh.kp _ _ r2 r3;let ae:=sg.am.few row (Ln a1);erw[153,aa,661,SqL.of hR,aB r1,pr,U,#[_,SqL.of cu],bO (K:=K) (xs:=row.h iV) (InI la aa ta va wd TT n aS ls row m (wgt (n*MM+1) TL) l0 H1) #[21,TL,VL,W,U,#[fh.kp,fh.ht,fh.hv,fh.hw,fh.tb,fh.fi.exw λr i l _ _ z=>#[z,by simp],fh.nd],#[x,J],.inl #[U,ch]] (λi O H2 _ z=>?_) ?_ ?_]
  .let _ _ _ _ _ _ _ f2 _:=z;exact SqL.of (f2.kp _ _ r2 r3)
  .rintro i y O H2 hy ⟨v8,v9,ap,bm,b0,W2,rfl,f2,⟨x2,bn⟩,bR⟩;rw[LA]at hy;let k L rfl:=LL.mp hy;let l D aT:=(sg.am.mm m row a1 k).mp (Ln L);let lv cb bb:=sg.hL.2 k l D;let lt rfl cc:=bb;let cd:=f2.kp _ _ (sg.tt _ _ cc) cc;let co:=f2.kp _ _ sg.nla sg.hA;let b1 b2:=sg.ok.sm l (Ln D);let tt:bey l m<n:=bey_lt b1 b2;let cy:=f2.fi.tl;let o ho:∃ o,bm[bey l m]?=Z o:=#[_,Ll ∅]
   erw[153,la,661,SqL.of co,aB cb,9,.ref lt,l,m,U,#[lt,U,cd],3];erw[153,ta,661,SqL.of f2.ht,aB (yi bn),153,la,661,SqL.of co,aB cb,lt,_,02,41,SqT.of cd,a32,933];erw[153,ta,661,SqL.of f2.ht,aB (yi ho),230]
   cases o with
   |none =>
    refine iteT (iteT ?_);erw[aa,ta,va,wd,xs,ys,rows,H1,bm,b0,W2,m,wgt (n*MM+1) TL,l0,i,k,row,l,x2,k7,sg,U,f2,D,aT,bn,ho,(λy e=>nomatch e),L,bR,λal H' z=>z]
   |some y0 =>
    refine iteF ?_;erw[2457,ta,661,SqL.of f2.ht,aB (yi ho),14757];refine ite2 (λc=>?_) (λc=>?_)
    .let c':x2+l.2.2<y0:=RS c
     erw[aa,ta,va,wd,xs,ys,rows,H1,bm,b0,W2,m,wgt (n*MM+1) TL,l0,i,k,row,l,x2,Z y0,sg,U,f2,D,aT,bn,ho,(λy e=>by simp!),L,bR,λal H' z=>z]
    .let c':¬ x2+l.2.2<y0:=λz=>c (Rl z)
     erw[21,bm,b0,W2,U,#[f2.kp,f2.ht,f2.hv,f2.hw,f2.tb,f2.fi.leave D bn ho ∅ (Ez L),f2.nd],#[x2,bn],bR]
  .rintro O H2 ⟨v8,v9,ap,bm,b0,W2,rfl,f2,_,bR⟩
   let an:FH ta va wd TT n aS ls H1 bm b0 W2 (λ_ _=>False) H2:=#[f2.kp,f2.ht,f2.hv,f2.hw,f2.tb,f2.fi.exw λr i l D aT ⟨z1,z2⟩=>by
    subst z1;rw[Lp,LP]at z2
    exact z2 ((sg.am.mm r row a1 i).mpr #[l,D,aT]),f2.nd]
   refine kn _ _ #[85,bm,b0,W2,U,an] ?_;rw[an.mes];let wl:=an.wlen;rcases bR with⟨d1,d2⟩|d
   .simp!
   .let Y:(wgt (n*MM+1) bm+1)*(n+1)<=wgt (n*MM+1) TL*(n+1):=Pj _ d
    lia
 erw[153,.ref la,n,ls,U,#[la,xs,U,hA,hL],ok,λaa ys rows Ha sa cp cv rx am=>?_];erw[5273,cH (n:=(n:G).U) (λi zs H2=>H2=Ha/\zs=LD i V.non) (by rw[Lv];exact LN (av ∅)) #[10] ?_ ?_]
 .rintro i zs H2 B ⟨rfl,rfl⟩;erw[U,by rw[Od]]
 rintro zs H2 _ ⟨rfl,rfl⟩ ta aX;rw[Lv];let z1:=ak aX (.lst (LD n V.non));erw[5273,cH (n:=(n:G).U) (λi zs H3=>H3=upd H2 ta (.lst (LD n V.non))/\zs=LD i V.non) (by rw[Lv];exact LN (av ∅)) #[10] ?_ ?_]
 .rintro i zs H3 B ⟨rfl,rfl⟩;erw[U,by rw[Od]]
 rintro zs H3 _ ⟨rfl,rfl⟩ va a2;rw[Lv];let bU:ta≠va:=λz=>by rw[← z,ag]at a2;contradiction
 let z2:=ak a2 (.lst (LD n V.non));erw[153,ta,5,aS,10,by rw[ar bU];exact ag,qM (by simp[*]),3]
 intro wd ci;erw[9,ag,[kw aS],U,(by show 1<=15;decide),3]
 let bi:ta≠wd:=λz=>by rw[← z,ag]at ci;contradiction
 let ca:H2 va=k7:=fK z1 a2;let ce:(upd (upd H2 ta (.lst (LD n V.non))) va (.lst (LD n V.non))) wd=k7:=by rw[ar (Ne.Y bi)]at ci;exact ci
 let bv:va≠wd:=λz=>by rw[← z,ag]at ce;contradiction
 let bK:H2 wd=k7:=fK (z1.Q z2) ce;let cq:H TT≠k7:=by obtain y|⟨_,y,_⟩:=ba<;>rw[y]<;>simp
 let aI:H2 TT≠k7:=by
  cases y:H TT with
  |none=>contradiction
  |some o=>rw[sa _ _ y];simp
 let bN:ta≠TT:=λz=>aI (z▸aX);let bP:va≠TT:=λz=>aI (z▸ca);let bu:wd≠TT:=λz=>aI (z▸bK);let be:Same H2 (upd (upd (upd (upd (upd H2 ta (.lst (LD n V.non))) va (.lst (LD n V.non))) ta (.lst ((LD n V.non).set aS (.int 0)))) wd (.dK [])) wd (.dK (gK [] [kw aS]))):=aJ (aJ (aJ (z1.Q z2) aX _) bK _) bK _;let eT:((LD n V.non).set aS (.int 0))=((LD n (k7:io G)).set aS (Z 0)).h oV:=by rw[List.map_set,List.map_replicate];rfl
 let eV:(LD n V.non)=(LD n (k7:io R)).h oN:=by rw[List.map_replicate];rfl
 let g1:(upd (upd (upd (upd (upd H2 ta (.lst (LD n V.non))) va (.lst (LD n V.non))) ta (.lst ((LD n V.non).set aS (.int 0)))) wd (.dK [])) wd (.dK (gK [] [kw aS]))) ta=Z (.lst (((LD n (k7:io G)).set aS (Z 0)).h oV)):=by
  rw[ar bi,ar bi,← eT];exact ag
 let g2:(upd (upd (upd (upd (upd H2 ta (.lst (LD n V.non))) va (.lst (LD n V.non))) ta (.lst ((LD n V.non).set aS (.int 0)))) wd (.dK [])) wd (.dK (gK [] [kw aS]))) va=Z (.lst ((LD n (k7:io R)).h oN)):=by
  rw[ar bv,ar bv,ar (Ne.Y bU),← eV];exact ag
 let g3:(upd (upd (upd (upd (upd H2 ta (.lst (LD n V.non))) va (.lst (LD n V.non))) ta (.lst ((LD n V.non).set aS (.int 0)))) wd (.dK [])) wd (.dK (gK [] [kw aS]))) wd=Z (.dK ([aS].h kw)):=ag;generalize (upd (upd (upd (upd (upd H2 ta (.lst (LD n V.non))) va (.lst (LD n V.non))) ta (.lst ((LD n V.non).set aS (.int 0)))) wd (.dK [])) wd (.dK (gK [] [kw aS])))=H1 at be g1 g2 g3;let sH:mu H1:=sa.Q be;let nS:∀ b,H2 b≠k7->b≠TT->¬ sF ta va wd TT b:=λb M nT z=>by
  obtain z|z|z|z:=z
  .exact nT z
  .exact M (z▸aX)
  .exact M (z▸ca)
  .exact M (z▸bK)
 let sg:Sg la aa ta va wd TT n aS ls xs ys rows H1:=#[sH _ _ hA,hL.imp λ_ _ q=>q.mono sH,ok,be _ _ cv,#[rx.1,λi l e=>by
   let p p1 p2 p3:=rx.2 i l e;erw[p,p1,nS p (by grind) (λz=>p2 (.inr (z▸cq))),be _ _ p3]],am,nS la (by rw[sa _ _ hA];simp) (λz=>by obtain y|⟨_,y,_⟩:=ba<;>rw[← z,hA]at y<;>cases y),nS aa (by simp!) (λz=>cq (z▸cp)),(λt o e z=>by
   obtain z|z|z|z:=z
   .rw[z]at e;obtain y|⟨_,y,_⟩:=ba<;>rw[sH _ _ y]at e<;>cases e
   .rw[z,g1]at e;cases e
   .simp!
   .rw[z,g3]at e;cases e),bU,bi,bv,bN,bP,bu]
 let bB:Tb lqF lpF TT H1:=by
  obtain y|⟨c',y1,y2⟩:=ba
  .exact .inl (sH _ _ y)
  .exact .inr #[c',sH _ _ y1,sH _ _ y2]
 refine fY (FrI la aa ta va wd TT n aS ls H1) (λ_ H'=>mesH n ta wd H') #[1365,[aS],U,#[λ_ _ _ e=>e,g1,g2,g3,bB,FI.first ok.w0 hs,LF.mpr #[(by simp),Nt]]] ?_ ?_
 .rintro O H3 ⟨v7,v8,v9,ap,TL,VL,W,rfl,fh⟩;erw[9,λp g=>?_];let bJ:=fh.new g (.dK []);erw[wd,p,W.h kw,10,bJ.hw,ag,57];refine ite2 (λc=>?_) (λc=>?_)
  .let ne:W.h kw≠[]:=λz=>by simp!
   erw[9,wd,W.h kw,ta,9,bJ.hw,ne,U,bJ.ht,bJ.tb,λkv ck=>?_,λkv ck H4 bp a6=>?_]
   .let r I rfl:=LW.mp ck;let x J:=bJ.fi.wk r I;erw[r,x,U,yi J]
   let r I rfl:=LW.mp ck;let a3:=bJ.tab bN bP bu bp a6;let x J:=a3.fi.wk r I;erw[9,wd,U,.inl #[_,.inl a3.hw],9,W.h kw,.inl (r:G),.bl kf,a3.hw,U,Cn I,3];rw[zf];let mW:∀ y,y∈W.filter (λx=>decide (x≠r))↔y∈W/\y≠r:=λy=>by simp
   let lW:(W.filter (λx=>decide (x≠r))).L<W.L:=by simp[*]
   erw[aa,ta,va,wd,xs,ys,rows,H1,21,TL,VL,_,r,W.L,sg,U,#[a3.kp.upd (.inr (.inr (.inr U))) _,by rw[ar bi];exact a3.ht,by rw[ar bv];exact a3.hv,ag,qk a3.tb λb M=>ar λz=>?_,a3.fi.j mW,a3.nd.filter _],#[x,J],lW,λal H' y1 y2=>#[y1,by rw[fh.mes];exact y2]]
   obtain M|⟨c',M⟩:=M
   .exact bu (z▸M)
   .rw[z,a3.hw]at M;cases M
  .let e0:W=[]:=by simp!
   subst e0;erw[153,(by show 2<=QG;decide),λt ht=>?_]
   let a3:=bJ.new ht (.tup [.ref ta,.ref va]);refine kk t ta va TL VL _ (λb o nb e=>?_) a3.tb (fK sa aX) (fK sa ca) ag a3.ht a3.hv a3.fi;exact a3.kp _ _ (nS b (by rw[sa _ _ e];simp) nb) (sH _ _ e)
 .rintro O H4 Q1 Q2 B ⟨v1,j,h⟩;erw[v1,j,λp g=>?_];let a b ab q1 q2 q3 q4 c' q5 q6:=h p g;erw[a,b,ab,q1,q2,q3,q4,c',q5,B _ _ q6]
def andN(a b:R):Q4 (a:G) (b:G)=((a&&&b:R):G):=by
 rfl
def shlN(p:R):(1:G)*2^((p:R):G).U=((2^p:R):G):=by
 simp
def xa(m n:R):(m^^^n)+2*(m&&&n)=m+n:=by
 let h:=PyProof.Rows.nat_or_add_and m n;let L:(m|||n)=(m^^^n)+(m&&&n):=by
  let e:(m^^^n)+(m&&&n)=(m^^^n)|||(m&&&n):=by
   let q:=PyProof.Rows.nat_or_add_and (m^^^n) (m&&&n);let z:(m^^^n)&&&(m&&&n)=0:=by
    apply Ml;intro i;simp only[NL,My,Nh]
    cases m.O i<;>cases n.O i<;>rfl
   lia
  rw[e];apply Ml;intro i;simp only[NL,My,MJ]
  cases m.O i<;>cases n.O i<;>rfl
 lia
def xorN(a b:R):Q6 (a:G) (b:G)=((a^^^b:R):G):=by
 rw[PyProof.Rows.bitXor_and,andN];let q:=xa a b;lia
def bl(c:R):E R:=K2.bitsF 0 c
theorem Fh(c:R):(bl c).y (· < ·):=K2.bitsF_sorted c c 0 (Lq _)
theorem bl_nd(c:R):(bl c).l:=K2.nodup_of_lt (Fh c)
def mem_bl{c x:R}:x∈bl c↔c.O x=kf:=by
 let e:K2.S (K2.bitsF 0 c)=c:=by
  let:=K2.bitsF_sum c c 0 (Lq _);rw[this,Nat.pow_zero,Nat.mul_one]
 let b:=K2.S_bit (bl_nd c) x;unfold bl at b ⊢;simp!
def pq{c x:R}(h:c<2^m)(J:x∈bl c):x<m:=by
 let:=K2.bitsF_lt m c 0 h x J;lia
theorem u6:bl 0=[]:=K2.bitsF_zero 0
def cut2(c f t:R):R:=c^^^2^f^^^2^t
def uT{c f t:R}(C:f∈bl c)(Y:t∈bl c)(n:f≠t)(x:R):x∈bl (cut2 c f t)↔x∈bl c/\x≠f/\x≠t:=by
 rw[mem_bl]at C Y;rw[mem_bl,mem_bl];unfold cut2;rw[My,My,LU,LU];by_cases c1:x=f
 .subst c1;rw[C];simp[Ne.Y n]
 .by_cases c2:x=t
  .subst c2;simp!
  .let a:¬ f=x:=λz=>c1 z.Y
   lia
def EZ{c f t:R}{rest:E R}(e:bl c=f::rest)(n:t∈rest):(bl (cut2 c f t)).Perm (rest.erase t):=by
 let u:=bl_nd c;rw[e]at u;let O D:=LF.mp u;let B:f≠t:=λz=>O (z▸n);refine(MF (bl_nd _) (D.erase _)).mpr λx=>?_;rw[uT (by rw[e];exact Ly ..) (by simp[*]) B,e,D.mem_erase_iff,Lz]
 constructor
 .rintro⟨Y|Y,L,A⟩
  .contradiction
  .erw[A,Y]
 .rintro⟨Y,L⟩;erw[.inr L,λz=>O (z▸L),Y]
theorem K7{c f t:R}(h:c<2^m)(C:f<m)(n:t<m):cut2 c f t<2^m :=
 MX (MX h (Mv ∅ C)) (Mv ∅ n)
def Opt(D:R->R->G)(l:E R)(t:G):Prop:=Cs D l t/\∀ c,Cs D l c->t<=c
theorem Opt.perm{D:R->R->G}{l l':E R}{t:G}(h:Opt D l t)(p:l.Perm l'):Opt D l' t:=#[h.1.perm p,λc z=>h.2 c (z.perm p.Y)]
def Opt.nil{D:R->R->G}:Opt D [] 0:=by
 erw[#[[],.refl _,U],λc h=>?_];let k p e:=h
 cases k with
 |nil=>rw[← e];exact MD _
 |cons q r=>have:=p.length_eq;contradiction
def Opt.step{D:R->R->G}(sy:∀ a b,D a b=D b a){f j:R}{rest:E R}{h:G}(l:j∈rest)(k:Opt D (rest.erase j) h)(A:∀ t∈rest,∃ tr,Opt D (rest.erase t) tr/\D f j+h<=D f t+tr):Opt D (f::rest) (D f j+h):=by
 erw[(k.1.add f j).perm ((OG l).Y.cons f),λc T=>?_];let e ad c0 p eg i:=T.part sy (Ly ..);let v:rest.Perm (e::ad):=p.cons_inv;let d:e∈rest:=v.mem_iff.mpr (Ly ..);let z:ad.Perm (rest.erase e):=by
  let:=(v.erase e).Y;rw[NJ]at this;exact this
 let tr g L:=A e d;let Y:=g.2 c0 (eg.perm z);lia
def BtAt(H:Hp)(v:V)(D:R->R->G)(m:R):Prop:=∃ a O,v=.ref a/\H a=Z (.lst O)/\∀ i,i<m->∃ p J,O[i]?=Z (.ref p)/\H p=Z (.lst J)/\∀ k,k<m->J[k]?=Z (.int (D i k))
def ox(H:Hp)(v:V)(t:G):Prop:=∃ a y z,v=.ref a/\H a=Z (.tup [.int t,y,z])
def Ent(H:Hp)(D:R->R->G)(m:R)(kvs:E (Key×V))(c:R)(v:V):Prop:=c<2^m/\((c=0/\ox H v 0)∨∃(t:G)(f g:R)(a:e8)(q:V)(n:G),v=.ref a/\H a=Z (.tup [.int t,.int (f:G),.int (g:G)])/\f∈bl c/\g∈bl c/\f≠g/\valV kvs (.inl ((cut2 c f g:R):G))=Z q/\ox H q n/\t=D f g+n/\Opt D (bl c) t)
structure TI(H:Hp)(D:R->R->G)(m:R)(kvs:E (Key×V)):Prop where
 en:∀ k v,valV kvs k=Z v->∃ c:R,k=.inl (c:G)/\Ent H D m kvs c v
 z:∃ v,valV kvs (.inl ((0:R):G))=Z v
 nd:(kvs.h (·.1)).l
def Grw(kvs b:E (Key×V))(n:R):Prop:=(∀ k v,valV kvs k=Z v->valV b k=Z v)/\∀ c:R,valV kvs (.inl (c:G))=k7->valV b (.inl (c:G))≠k7->(bl c).L<=n
def Tps(H H':Hp):Prop:=∀ a J,H a=Z (.tup J)->H' a=Z (.tup J)
def ox.mono{t:G}(h:ox H v t)(s:Tps H H'):ox H' v t:=by
 let a y z e q:=h;erw[a,y,z,e,s _ _ q]
def Ent.cost{c:R}(h:Ent H D m kvs c v):∃ t,ox H v t/\Opt D (bl c) t:=by
 obtain⟨_,⟨rfl,h⟩|⟨t,f,g,a,q,n,C,eg,_,_,_,_,_,_,r⟩⟩:=h
 .erw[00,h,by rw[u6];exact Opt.nil]
 .erw[t,#[a,5,C,eg],r]
def Ent.mono{H H':Hp}{D:R->R->G}{m c:R}{kvs b:E (Key×V)}{v:V}(h:Ent H D m kvs c v)(s:Tps H H')(g:∀ k v,valV kvs k=Z v->valV b k=Z v):Ent H' D m b c v:=by
 obtain⟨l,⟨e,h⟩|⟨t,f,j,a,q,n,C,eg,M,p,i,d,o,u,r⟩⟩:=h
 .erw[l,.inl #[e,h.mono s]]
 .erw[l,.inr #[t,f,j,a,q,n,C,s _ _ eg,M,p,i,g _ _ d,o.mono s,u,r]]
theorem TI.mono{H H':Hp}{D:R->R->G}{m:R}{kvs:E (Key×V)}(h:TI H D m kvs)(s:Tps H H'):TI H' D m kvs:=#[λk v e=>by
 let T C eg:=h.en k v e
 erw[T,C,eg.mono s λ_ _ z=>z],h.z,h.nd]
def TrA.mono{t:T3}(h:TrA H v t)(s:Tps H H'):TrA H' v t:=by
 let a e q:=h;erw[a,e,s _ _ q]
theorem TbS.tps(s:TbS tb H H')(n:H tb=Z (.dK kvs)):Tps H H':=λa J q=>s _ _ (λw=>by simp!) q
def BtAt.mono(h:BtAt H v D m)(n:H tb=Z (.dK kvs))(s:TbS tb H H'):BtAt H' v D m:=by
 let a O e q r:=h;erw[a,O,e,s _ _ (λw=>by simp!) q,λi B=>?_]
 let p J A o g:=r i B;erw[p,J,A,s _ _ (λw=>by simp!) o,g]
theorem vQ{α j:Type}{f:α->j}:∀{l:E α},l.l->(∀ a∈l,∀ b∈l,f a=f b->a=b)->(l.h f).l
 |[],_,_=>Nt
 |x::l,u,h=>by
  let O D:=LF.mp u;rw[LX];refine LF.mpr #[λz=>?_,vQ D λa T b M=>h a (Lu _ T) b (Lu _ M)];let y Q e:=LW.mp z;exact O (h x (Ly ..) y (Lu _ Q) e.Y▸Q)
def TI.len(h:TI H D m kvs)(p:m<=14):kvs.L<QG:=by
 let u:∀ k∈kvs.h (·.1),∃ c:R,k=Sum.inl (c:G)/\c<2^m:=λk eK=>by
  cases y:valV kvs k with
  |none=>exact R7 eK (Ak y)
  |some v =>
   let c e q:=h.en k v y;erw[c,e,q.1]
 let j:((kvs.h (·.1)).h λk:Key=>match k with | .inl i=>i.U | .inr _=>0).l:=by
  refine vQ h.nd λa l b M e=>?_;let c1 rfl _:=u a l;let c2 rfl _:=u b M;let O:c1=c2:=by simpa using e
  rw[O]
 let C:=mV (2^m) _ j λx J=>by
  let k eK rfl:=LW.mp J;let c rfl T:=u k eK;assumption
 rw[Lp,Lp]at C;let:2^m<=2^14:=Mw ∅ p
 let d:(2:R)^14=16384:=by rfl
 let:=PySem.sizeLine_eq;lia
inductive restR(tb:e8)(bv:V)(c m:R)(D:R->R->G)(kvs:E (Key×V))(H0:Hp)(Q:VK)(D0:L2.Ends)(σ:L2.St)(H:L2.Hp):Prop
 |mk (v4 v5 v6 v7 v8:io V)(kvs':E (Key×V))(v:V) (_:σ=[Z bv,Z (.int (c:G)),Z (.ref tb),v4,v5,v6,v7,v8])(_:TbS tb H0 H)(_:H tb=Z (.dK kvs'))(_:TI H D m kvs')(_:Grw kvs kvs' (bl c).L)(_:valV kvs' (.inl (c:G))=Z v)(_:∀ x H',Q x H'->D0.rt x H')
def LpI(e:V)(tb r wa:e8)(c f m:R)(D:R->R->G)(kvs:E (Key×V))(rest:E R)(Hb:Hp)(i:R)(σ:St)(H:Hp):Prop:=∃(h k:io V)(a:E (Key×V))(g:E T3)(O:E V),σ=[Z e,Z (.int (c:G)),Z (.ref tb),Z (.ref r),Z (.int (f:G)),Z (.ref wa),h,k]/\(∀ b o,b≠tb->b≠wa->Hb b=Z o->H b=Z o)/\H tb=Z (.dK a)/\TI H D m a/\Grw kvs a (rest.L-1)/\H wa=Z (.lst O)/\LsAt TrA H O g/\g.L=i /\
 ∀(d t:R),(rest.j i)[d]?=Z t->∃(n:G)(q:V),g[d]?=Z (D f t+n,(f:G),(t:G))/\Opt D (rest.erase t) n/\valV a (.inl ((cut2 c f t:R):G))=Z q/\ox H q n
inductive spLaid(D:R->R->G)(m j:R)
 |mk (bv:V)(tb:e8)(c:R)(kvs:E (Key×V)) (_:vs=[bv,.int (c:G),.ref tb])(_:BtAt H bv D m)(_:H tb=Z (.dK kvs))(_:TI H D m kvs)(_:c<2^m)(_:m<=14)(_:(bl c).L<2*j)(_:(bl c).L%2=0)(_:∀ v t kvs' H',TbS tb H H'->H' tb=Z (.dK kvs')->TI H' D m kvs'->Grw kvs kvs' (bl c).L->valV kvs' (.inl (c:G))=Z v->ox H' v t->Opt D (bl c) t->Q v H')
def bx:az ["between","chosen","table","numbers","first","ways","mate","rest"] ["between","chosen","table"] (aq cg):=by ac_nf
def Gx(sy:∀ a b,D a b=D b a)(F:Fun K "laid_in_pairs" "laid_in_pairs" cg f fd)(T:Txt mg)(ae:lc 1 "bits" ["mask"] oA f1 eK)(ac:lc (j+2) "laid_in_pairs" ["between","chosen","table"] (spLaid D m j) f fd):k9 (j+3) f fd ["between","chosen","table"] (spLaid D m (j+1)):=by
 refine F.ok bx (by walk_at "l") λaa A M s H vs Q eg N h=>?_
 let bv tb c kvs rfl hB hT ti d bK len ev kk:=h;let hu:=uz N;let aX:=N.units
 intro Xc Dc;erw[_,(ah (bH (AB (mS hu (pv 1) (pv 2))) (ah (aA 3 bx.nd (ae.c N (af (pv 1) aj)))
   (ah (aA 4 bx.nd (a8 (pv 3) ai))
   (ah (aA 5 bx.nd (dB aj))
   (ah (mj (aN (mP qm (pv 3) (qB ai) qC)) (bW 6 bx.nd) (ah (aA 7 bx.nd (aw c9 (aw c9 (pv 1) (aw b9 ai (pv 4))) (aw b9 ai (pv 6))))
   (ao (aW (eG LH Md Mc a9 (pv 5) (af (cj (af (aw cA (a8 (a8 (pv 0) (pv 4)) (pv 6)) (aG (ac.c N (af (pv 0) (af (pv 7) (af (pv 2) aj)))) ai)) (af (pv 4) (af (pv 6) aj)))) aj))))))
   (ao (lF hu (pv 2) (pv 1) (ay (E9 U aX) (by rfl) T.n_min wZ (af (pv 5) aj)) U)))))) aM)
   (n8 (t2:=restR tb bv c m D kvs H Q) (ao (aD (ib hu (pv 2) (pv 1) (λ_ _=>rfl)))) (λD0 S0 H0 h0=>?restr))),3]
 case restr =>
  let v4 v5 v6 v7 v8 ab v rfl sT bb be gr hv kq:=h0;let c' e en:=be.en _ v hv;let ec:c'=c:=by
   let:((c:R):G)=(c':G):=by injection e
   lia
  subst ec;let t Y L:=en.cost;erw[153,tb,v,U,by let:=DGet.k (k:=.inl ((c':R):G)) bb;rw[hv]at this;exact this,3]
  exact kq _ _ (kk v t ab H0 sT bb be gr hv Y L)
 erw[153,tb,9,DGet.k (k:=.inl ((c:R):G)) hT,57]
 cases hv:valV kvs (.inl ((c:R):G)) with
 |some v =>
  exact iteF #[341,kvs,v,U,(λ_ _ _ e=>e),hT,ti,#[λ_ _ z=>z,λc' z1 z2=>R7 z1 z2],hv,λ_ _ z=>z]
 |none =>
  refine iteT ?_;let c0:c≠0:=λz=>by
   subst z;let v0 bg:=ti.z;rw[hv]at bg;contradiction
  let f rest bB:∃ f rest,bl c=f::rest:=by
   cases q:bl c with
   |cons f rest=>exact#[f,rest,U]
   |nil =>
    refine R7 (Ml λi=>?_) c0;rw[Nh]
    cases z:c.O i with
    |false=>rfl
    |true =>
     let:=mem_bl.mpr z;simp!
  let nd:=bl_nd c;rw[bB]at nd;let nf bi:=LF.mp nd;let a5:(bl c).L=rest.L+1:=by simp[*]
  let flt:f<m:=pq d (by grind)
  let cC:∀ t∈rest,t<m:=λt I=>pq d (by simp[*])
  let rm:rest.L+1<=m:=by
   rw[← a5];exact mV m _ (bl_nd c) λx J=>pq d J
  let da:c<16384:=by
   let:2^m<=2^14:=Mw ∅ bK
   let cy:(2:R)^14=16384:=by rfl
   lia
  erw[9,(c:G),82,λr H1 B a4 aS=>?_]
  let cD:(K2.bitsF 0 ((c:R):G).U).h iV=iV f::rest.h iV:=by
   rw[Lv];show(bl c).h iV=_;simp[*]
  rw[cD]at aS;erw[9,r,_,00,41,SqL.of aS,(show atI (iV f::rest.h iV) ((0:R):G)=Z (iV f) from aB U),3];erw[(by simp),λwa b6=>?_]
  let s2:=ak b6 (.lst []);erw[153,r,9,SqL.of (s2 _ _ aS),λsl bN=>?_];let b8:cutV (iV f::rest.h iV) (Z 1) k7=rest.h iV:=by
   let C:HT.sIx (iV f::rest.h iV).L 0 (Z ((1:R):G))=1:=by rfl
   unfold cutV;rw[show(Z (1:G))=Z ((1:R):G) from rfl,C,HT.sIx_none,List.drop_succ_cons,List.drop_zero,MG];exact NH ∅
  rw[b8];let s3:=ak bN (.lst (rest.h iV));let ap:mu (upd (upd H1 wa (.lst [])) sl (.lst (rest.h iV))):=B.Q (s2.Q s3);let ca:wa≠sl:=λz=>by rw[← z,ag]at bN;contradiction
  let g1:(upd (upd H1 wa (.lst [])) sl (.lst (rest.h iV))) wa=Z (.lst []):=by rw[ar ca];exact ag
  let g2:=ag (H:=upd H1 wa (.lst [])) (a:=sl) (o:=.lst (rest.h iV));let db:H wa=k7:=fK B b6;generalize (upd (upd H1 wa (.lst [])) sl (.lst (rest.h iV)))=Hb at ap g1 g2;let cE:=ap _ _ hT;let cb:wa≠tb:=λz=>by simp!
  let cd:sl≠tb:=λz=>by simp!
  let cF:TbS tb H Hb:=λb o _ e=>ap _ _ e;let cK:TI Hb D m kvs:=ti.mono λa xs q=>ap _ _ q;let dc:BtAt Hb bv D m:=hB.mono hT cF;erw[sl,U,#[_,SqL.of g2],bO (K:=K) (xs:=rest.h iV) (LpI bv tb r wa c f m D kvs rest Hb) #[5,kvs,[],[],U,λ_ _ _ _ e=>e,cE,cK,#[λ_ _ z=>z,λc' z1 z2=>R7 z1 z2],g1,LsAt.nil,U,λa0 t e=>by simp at e] (λi O u _ an=>by let _ _ _ _ _ _ z _:=an;exact SqL.of (z _ _ cd (Ne.Y ca) g2)) ?_ ?_]
  .rintro i x O u J ⟨v7,v8,al,ws,g,rfl,k2,am,bm,bn,a6,hL,wl,done⟩;rw[LA]at J;let t I rfl:=LL.mp J;let tm:=Ln I;let tl:=cC t tm;let ce:f≠t:=λz=>nf (z▸tm);let cp:=EZ bB tm;let cl:(bl (cut2 c f t)).L+1=rest.L:=by
    rw[cp.length_eq,Qt tm];let:=Nm tm;lia
   erw[42393,#[by lia,by lia,by decide],678309,#[by grind,by show(t:G)<=1000000;lia,by decide],933]
   let ec:Q6 (Q6 (c:G) (1*2^((f:R):G).U)) (1*2^((t:R):G).U)=((cut2 c f t:R):G):=by rw[shlN,shlN,xorN,xorN];rfl
   simp only[ec];let yl:=hL.1;let upL:∀ b zs,H b=Z (.lst zs)->u b=Z (.lst zs):=λb zs q=>k2 b _ (λz=>by simp!) (λz=>by simp!) (ap _ _ q)
   let ba zs rfl ch rr:=id hB
   let cL:BtAt u (.ref ba) D m:=#[ba,zs,U,upL _ _ ch,λi' aI=>by
    let p xs r1 r2 r3:=rr i' aI
    erw[p,xs,r1,upL _ _ r2,r3]]
   let p xs r1 r2 r3:=rr f flt;erw[9,.inl #[6,SqL.of a6],153,ba,661,SqL.of (upL _ _ ch),aB r1,9,p,661,SqL.of (upL _ _ r2),aB (r3 t tl),2457,.ref ba,tb,cut2 c f t,al,U,cL,am,bm,K7 d flt tl,bK,20,λv tr co H3 bP cM cO bR bu cq cP=>?_]
   let va y z rfl aT:=id cq;erw[va,_,00,41,SqT.of aT,a30,39333,(by show 3<=QG;decide),λt3 a2=>?_]
   let s4:=ak a2 (.tup [.int (D f t+tr),.int (f:G),.int (t:G)]);let cs:H3 wa=Z (.lst g):=bP _ _ cb a6;let dd:i<rest.L:=(Lm.mp I).1;erw[wa,g,41,s4 _ _ cs,av ∅,3]
   let ct:Tps u H3:=TbS.tps bP am;let bp:Tps H3 (upd (upd H3 t3 (.tup [.int (D f t+tr),.int (f:G),.int (t:G)])) wa (.lst (g++[.ref t3]))):=λa xs q=>by
    rw[ar (λz=>by simp!)]
    exact s4 _ _ q
   let bJ:Tps u (upd (upd H3 t3 (.tup [.int (D f t+tr),.int (f:G),.int (t:G)])) wa (.lst (g++[.ref t3]))):=λa xs q=>bp _ _ (ct _ _ q);let cQ:t3≠wa:=λz=>by simp!
   erw[5,co,ws++[(D f t+tr,(f:G),(t:G))],g++[.ref t3],U,λb o n1 n2 e=>?_,3,cO.mono bp,#[λk v z=>bR.1 _ _ (bn.1 _ _ z),λc' y1 y2=>?_],ag,3,by simp[*],λa0 t' e=>?_]
   .rw[ar n2];exact s4 _ _ (bP _ _ n1 (k2 b o n1 n2 e))
   .rw[ar (Ne.Y cb)];exact s4 _ _ cM
   .cases q2:valV al (.inl (c':G)) with
    |none=>have:=bR.2 c' q2 y2;lia
    |some v'=>exact bn.2 c' y1 (by rw[q2];simp)
   .exact(hL.imp λ_ _ q=>TrA.mono q bJ).snoc #[t3,U,by rw[ar cQ];exact ag]
   .let a3:(rest.j i).L=i:=by grind
    rw[LK,I]at e;by_cases ci:a0<i
    .rw[Ls ∅]at e
     let bU vr d1 d2 d3 d4:=done a0 t' e;erw[bU,vr,by grind,d2,bR.1 _ _ d3,d4.mono bJ]
    .rw[Lr ∅]at e
     let h5:=(Lm.mp e).1;let h6:a0=i:=by grind
     subst h6;rw[a3,Mf]at e
     cases e
     erw[tr,.ref va,by simp[*],cP.perm cp,bu,cq.mono bp]
  .rintro O u ⟨v7,v8,al,ws,g,rfl,k2,am,bm,bn,a6,hL,wl,done⟩;rw[Lp]at wl done;rw[LP]at done;let rp:1<=rest.L:=by lia
   let cT:ws≠[]:=λz=>by grind
   erw[9,wa,g,ws,U,SqL.of a6,hL,cT,λa0 y t3 hy a2 cu=>?_];let il:a0<rest.L:=by rw[← wl];exact(Lm.mp a2).1
   let t et:∃ t,rest[a0]?=Z t:=#[_,Ll il];let tm:=Ln et;let tr vr d1 d2 d3 d4:=done a0 t et;rw[a2]at d1
   cases d1
   let w' cv a rfl ha:=hL.get hy;rw[a2]at cv
   cases cv
   let ce:f≠t:=λz=>nf (z▸tm);let fb:f∈bl c:=by rw[bB];exact Ly ..
   let cW:t∈bl c:=by simp[*]
   let c6:Opt D (bl c) (D f t+tr):=by
    rw[bB];refine Opt.step sy tm d2 λt' a1=>?_;let k l ek:=Mt a1;let bU df b0 c7 _ _:=done k t' (by simp[*])
    erw[bU,c7,cu _ (Ln b0)]
   let cw:valV al (.inl ((c:R):G))=k7:=by
    cases q2:valV al (.inl ((c:R):G)) with
    |none=>rfl
    |some v'=>have:=bn.2 c hv (by rw[q2];simp);lia
   let cne:((cut2 c f t:R):G)≠(c:G):=λz=>by
    simp!
   let a7:∀ k v,valV al k=Z v->valV (putK al (.inl ((c:R):G)) (.ref a)) k=Z v:=λk v e=>by
    rw[fZ,R6 (λz=>by simp!)]
    exact e
   erw[153,tb,9,DPut.k (k:=.inl ((c:R):G)) (v:=.ref a) am (bm.len bK),3];let tp:Tps u (upd u tb (.dK (putK al (.inl ((c:R):G)) (.ref a)))):=λb xs q=>by
    rw[ar (λz=>by simp!)]
    exact q
   erw[341,putK al (.inl ((c:R):G)) (.ref a),.ref a,U,λb o n1 e=>?_,ag,#[λk v e=>?_,3,Ko _ bm.nd cw],#[λk v e=>a7 _ _ (bn.1 _ _ e),λc' y1 y2=>?_],by rw[fZ,R5 U],λ_ _ z=>z]
   .rw[ar n1];exact k2 b o n1 (λz=>by simp!) (ap _ _ e)
   .rw[fZ]at e;by_cases ck:k=.inl ((c:R):G)
    .rw[R5 ck]at e
     cases e
     erw[c,ck,d,.inr #[D f t+tr,f,t,a,vr,tr,U,tp _ _ ha,fb,cW,ce,a7 _ _ d3,d4.mono tp,U,c6]]
    .rw[R6 ck]at e;let c' C n:=bm.en k v e;erw[c',C,n.mono tp a7]
   .let v0 bg:=bm.z;erw[v0,a7 _ _ bg]
   .by_cases cc:c'=c
    .rw[cc];exact Lq _
    .rw[fZ,R6 (λz=>cc (by grind))]at y2
     let:=bn.2 c' y1 y2;lia
theorem ok_laid{f f1:e8}{fd i:fk}{D:R->R->G}{m:R}(sy:∀ a b,D a b=D b a) (F:Fun K "laid_in_pairs" "laid_in_pairs" cg f fd) (T:Txt mg) (d:lc 1 "bits" ["mask"] oA f1 i) (k:fu K fd ["between","chosen","table"] []) (p:mg "laid_in_pairs"=Z (.ref f)) (n:Mu K (.ref f)=kf):∀ j,k9 (j+2) f fd ["between","chosen","table"] (spLaid D m j)
 |0=>#[λL H Q eg h=>by
   let e r c o _ _ _ _ _ _ z _:=h;lia,λA u s H v g L Q eg _ _ _ _ h=>by
   let e r c o _ _ _ _ _ _ z _:=h
   lia]
 |j+1=>Gx sy F T d #[ok_laid sy F T d k p n j,k,p,n]
def GC{r:R}{o:io R}(h:Y[r]?=Z o):(Y.h oN)[r]?=Z (oN o):=by simp[*]
def FI.even{s:R}(I:FI n ls s M T Y [] (λ_ _=>False)){r k:R}(h:Y[r]?=Z (Z k)):∃(l:Lk)(x y:G),ls[k]?=Z l/\o7 l r/\T[r]?=Z (Z x)/\T[bey l r]?=Z (Z y)/\y+l.2.2=x:=by
 let l x y C eg f p i:=I.pr r k h;rcases I.rl (bey l r) y k l p (by simp) C (ve eg)with N|⟨H,N,J⟩
 .exact N.elim
 .rw[rq eg,f]at N;cases N;erw[l,x,y,C,eg,f,p,4]
inductive Pth(ls:E Lk)(vv:E (io R))(s:R):R->E R->Prop where
 |root:Pth ls vv s s []
 |step {r k:R} {l:Lk} {ks:E R} (hv:vv[r]?=Z (Z k)) (hl:ls[k]?=Z l) (h:Pth ls vv s (bey l r) ks):Pth ls vv s r (k::ks)
def Up.path{s r:R}(h:Up ls Y s j r):∃ ks,Pth ls Y s r ks/\ks.L=j:=by
 induction h with
 |root=>exact#[[],.root,U]
 |step H d _ O =>
  let ks p e:=O;erw[_::ks,.step H d p,by simp[*]]
def Pth.up{s r:R}(h:Pth ls Y s r ks):Up ls Y s ks.L r:=by
 induction h with
 |root=>exact .root
 |step H d _ O=>exact .step H d O
def lkA(ls:E Lk)(k:R):Lk:=ls.f k (0,0,0)
def lkA_is{k:R}{l:Lk}(h:ls[k]?=Z l):lkA ls k=l:=by unfold lkA;simp[*]
def endX(l:Lk):R:=2^l.1^^^2^l.2.1
def oddE(ls:E Lk)(u:R):R->R
 |0=>0
 |i+1=>if u.O i=kf then oddE ls u i^^^endX (lkA ls i) else oddE ls u i
def cstU(ls:E Lk)(u:R):R->G
 |0=>0
 |i+1=>if u.O i=kf then cstU ls u i+(lkA ls i).2.2 else cstU ls u i
def nN(x a:R):(bl (x^^^2^a)).Perm (tog (bl x) a):=by
 refine(MF (bl_nd _) (tog_nd (bl_nd x) a)).mpr λy=>?_;rw[Kr (bl_nd x),mem_bl,My,LU,mem_bl,mem_bl];by_cases c:y=a
 .subst c;simp!
 .let D:¬ a=y:=λz=>c z.Y
  simp!
theorem low_join{n:R}{d:R->R->G}(M:Met n d){ls:E Lk}(u:R)(hl:∀ l∈ls,l.1<n/\l.2.1<n/\d l.1 l.2.1<=l.2.2):∀ i,i<=ls.L->oddE ls u i<2^n/\∃ c,Cs d (bl (oddE ls u i)) c/\c<=cstU ls u i
 |0,_=>#[Ng n,00,by show Cs d (bl 0) 0;rw[u6];exact Opt.nil.1,MD _]
 |i+1,h=>by
  let Y c L f:=low_join M u hl i ∅
  unfold oddE cstU;by_cases b:u.O i=kf
  .rw[R5 b,R5 b];let l e:∃ l,ls[i]?=Z l:=#[_,Ll ∅]
   let j C q:=hl l (Ln e);rw[lkA_is e];let T:oddE ls u i^^^endX l=oddE ls u i^^^2^l.1^^^2^l.2.1:=by unfold endX;rw[MC]
   rw[T];erw[MX (MX Y (Mv ∅ j)) (Mv ∅ C),3]
   let D B o:=L.two M (bl_nd _) (λx J=>pq Y J) j C;erw[D,B.perm ?_,4]
   exact((nN _ _).Q (pF (nN _ _) _)).Y
  .rw[R6 b,R6 b];erw[Y,c,L,f]
theorem mU(ls:E Lk)(u v:R):∀ i,oddE ls (u^^^v) i=oddE ls u i^^^oddE ls v i
 |0=>(NO 0).Y
 |i+1=>by
  unfold oddE;rw[mU ls u v i,My];let M:∀ a b e:R,(a^^^e)^^^(b^^^e)=a^^^b:=λa b e=>by rw[OU b e,← MC,MC a e e,NO,OT]
  cases u.O i<;>cases v.O i<;>simp
  .rw[MC]
  .rw[MC,MC,OU (oddE ls v i)]
  .exact(M _ _ _).Y
theorem nB(ls:E Lk)(hw:∀ l∈ls,0<=l.2.2)(u v:R):∀ i,i<=ls.L->cstU ls (u^^^v) i<=cstU ls u i+cstU ls v i
 |0,_=>MD _
 |i+1,h=>by
  let O:=nB ls hw u v i ∅
  let l e:∃ l,ls[i]?=Z l:=#[_,Ll ∅]
  let a:=hw l (Ln e);unfold cstU;rw[My,lkA_is e];grind
inductive Wk(ls:E Lk):R->R->G->Prop where
 |nil (a:R):Wk ls a a 0
 |step {a b i:R} {x:G} {l:Lk} (h:Wk ls a b x) (hl:ls[i]?=Z l) (he:o7 l b):Wk ls a (bey l b) (x+l.2.2)
def Wk.trans{a b c:R}{x y:G}(h:Wk ls a b x)(g:Wk ls b c y):Wk ls a c (x+y):=by
 induction g with
 |nil=>rw[Int.add_zero];exact h
 |step _ d eK O =>
  rw[← Int.add_assoc];exact .step O d eK
def Wk.link{a:R}{l:Lk}(hl:ls[i]?=Z l)(eK:o7 l a):Wk ls a (bey l a) l.2.2:=by
 let:=Wk.step (.nil a) hl eK;rw[MP]at this;exact this
def Wk.rev{a b:R}{x:G}(h:Wk ls a b x):Wk ls b a x:=by
 induction h with
 |nil=>exact .nil _
 | @step b i x l h d eK O =>
  let g:=Wk.link d (ve eK);rw[rq eK]at g;rw[Int.add_comm];exact g.Q O
def Wk.nn(hw:∀ l∈ls,0<=l.2.2){a b:R}{x:G}(h:Wk ls a b x):0<=x:=by
 induction h with
 |nil=>exact MD _
 |step _ d _ O=>have:=hw _ (Ln d);lia
def Wk.rel{s:R}(I:FI n ls s M T Y [] (λ_ _=>False)){a b:R}{x:G}(h:Wk ls a b x):∀ y,T[a]?=Z (Z y)->∃ z,T[b]?=Z (Z z)/\z<=y+x:=by
 induction h with
 |nil=>intro y Q;erw[y,Q,4]
 | @step b i x l h d eK O =>
  intro y Q;let z A L:=O y Q;obtain q|⟨c,f,B⟩:=I.rl b z i l A (by simp) d eK
  .exact q.elim
  .erw[c,f,4]
def Up.wk{s:R}(I:FI n ls s M T Y [] (λ_ _=>False)){r:R}(h:Up ls Y s j r):∀ x,T[r]?=Z (Z x)->Wk ls s r x:=by
 induction h with
 |root=>intro x J;rw[I.st]at J;cases J;exact .nil _
 | @step j r k l H d h O =>
  intro x J;let t a y C eg f p i:=I.even H;rw[d]at C;cases C;rw[J]at f;cases f;let g:=Wk.step (O y p) d (ve eg);rw[rq eg,i]at g;exact g
def GQ{P:R->Prop}(h:∃ n,P n):∃ n,P n/\∀ m,P m->n<=m:=by
 let n N:=h;induction n using Pc with
 |ind n O =>
  by_cases c:∃ m,m<n/\P m
  .let m Y L:=c;exact O m Y L
  .erw[n,N,λm D=>OB λz=>c #[m,z,D]]
open Classical in
noncomputable def farD (ls:E Lk) (a b:R):G:=if h:∃ x:R,Wk ls a b (x:G) then((Classical.choose (GQ h):R):G) else 0
def iM(hw:∀ l∈ls,0<=l.2.2){a b:R}{x:G}(h:Wk ls a b x):Wk ls a b (farD ls a b)/\∀ y,Wk ls a b y->farD ls a b<=y:=by
 let p:=h.nn hw;let T:∃ x:R,Wk ls a b (x:G):=#[x.U,by rw[ND p];exact h]
 let e:farD ls a b=((Classical.choose (GQ T):R):G):=by unfold farD;rw[dif_pos T]
 let c1 c2:=Classical.choose_spec (GQ T);rw[e];erw[c1,λy Q=>?_];let f:=Q.nn hw;let:=c2 y.U (by rw[ND f];exact Q)
 lia
def Ej(ls:E Lk)(a b:R):farD ls a b=farD ls b a:=by
 let e:∀ x:R,Wk ls a b (x:G)=Wk ls b a (x:G):=λx=>propext #[Wk.rev,Wk.rev];let eg:(λx:R=>Wk ls a b (x:G))=λx:R=>Wk ls b a (x:G):=funext e;unfold farD;by_cases h:∃ x:R,Wk ls a b (x:G)
 .simp!
 .simp!
def Conn(n:R)(ls:E Lk):Prop:=∀ b,b<n->∃ x,Wk ls 0 b x
def Conn.two(h:Conn n ls){a b:R}(T:a<n)(M:b<n):∃ x,Wk ls a b x:=by
 let x J:=h a T;let y Q:=h b M;erw[_,J.rev.Q Q]
theorem far_met(hw:∀ l∈ls,0<=l.2.2)(T:Conn n ls):Met n (farD ls) where
 sy:=Ej ls
 nn:=λa b=>by
  unfold farD;split
  .lia
  .exact MD _
 tr:=λa b c i M d=>by
  let x J:=T.two i M;let y Q:=T.two M d;exact(iM hw (J.Q Q)).2 _ ((iM hw J).1.Q (iM hw Q).1)
def far_link(hw:∀ l∈ls,0<=l.2.2){l:Lk}(hl:l∈ls):farD ls l.1 l.2.1<=l.2.2:=by
 let i B e:=Mt hl;let g:=Wk.link (ls:=ls) (i:=i) (l:=l) (a:=l.1) (by simp[*]) (.inl U)
 let b1:bey l l.1=l.2.1:=by unfold bey;rw[R5 U]
 rw[b1]at g;exact(iM hw g).2 _ g
def FI.is{s:R}(I:FI n ls s M T Y [] (λ_ _=>False))(t:Conn n ls)(hs:s<n){r:R}(N:r<n):T[r]?=Z (Z (farD ls s r)):=by
 let p:∀ l∈ls,0<=l.2.2:=λl d=>(I.w0 l d).1;let x J:=t.two hs N;let z A L:=J.rel I 0 I.st;let j u:=I.up r z A;let b:=u.wk I z A;let Q a:=iM p J;let c f B:=Q.rel I 0 I.st;rw[A]at f;cases f;let:=a z b;grind
def ik(ks:E R):R:=ks.foldl (λm k=>m|||2^k) 0
def jz(ks:E R)(i:R):(ik ks).O i=decide (i∈ks):=by
 let d:∀(ks:E R)(m:R),(ks.foldl (λm k=>m|||2^k) m).O i=(m.O i||decide (i∈ks)):=by
  intro ks;induction ks with
  |nil=>intro m;simp
  |cons k ks O =>
   intro m;rw[Qi,O,MJ,LU];by_cases c:k=i
   .subst c;simp
   .let D:¬ i=k:=λz=>c z.Y
    simp[c,D]
 unfold ik;rw[d];simp
theorem uc(ls:E Lk)(k:R):∀ i,oddE ls (2^k) i=if k<i then endX (lkA ls k) else 0
 |0=>by rfl
 |i+1=>by
  unfold oddE;rw[uc ls k i,LU];by_cases c:k=i
  .subst c;simp
  .lia
theorem uX(ls:E Lk)(k:R):∀ i,cstU ls (2^k) i=if k<i then(lkA ls k).2.2 else 0
 |0=>by rw[R6 (MR _)];rfl
 |i+1=>by
  unfold cstU;rw[uX ls k i,LU];by_cases c:k=i
  .simp!
  .rw[R6 (by simpa using c)]
   by_cases d:k<i
   .rw[R5 d,R5 ∅]
   .rw[R6 d,R6 ∅]
theorem jo(ls:E Lk):∀ i,oddE ls 0 i=0
 |0=>rfl
 |i+1=>by unfold oddE;rw[Nh,R6 LZ];exact jo ls i
theorem jJ(ls:E Lk):∀ i,cstU ls 0 i=0
 |0=>rfl
 |i+1=>by unfold cstU;rw[Nh,R6 LZ];exact jJ ls i
def Pth.node{s r:R}(h:Pth ls Y s r ks):∀ k∈ks,∃ q j,Y[q]?=Z (Z k)/\Up ls Y s j q/\j<=ks.L:=by
 induction h with
 |root=>intro k eK;cases eK
 | @step r k l ks H d h O =>
  intro c eK;obtain rfl|eK:=Lz.mp eK
  .erw[r,_,H,.step H d h.up,Lq _]
  .let q j A L f:=O c eK;erw[q,j,A,L,by rw[MG];lia]
def Pth.join{s:R}(I:FI n ls s M T Y [] (λ_ _=>False)){r:R}(h:Pth ls Y s r ks):
  (∀ k∈ks,k<ls.L)/\oddE ls (ik ks) ls.L=2^s^^^2^r/\∀ x,T[r]?=Z (Z x)->cstU ls (ik ks) ls.L<=x:=by
 induction h with
 |root =>
  erw[(λk eK=>nomatch eK),3,λx J=>?_]
  .show oddE ls 0 ls.L=_;rw[jo,NO]
  .rw[I.st]at J;cases J;show cstU ls 0 ls.L<=0;rw[jJ];exact MD _
 | @step r k l ks H d h O =>
  let v A L:=O;let l' x y C eg f e4 e5:=I.even H;rw[d]at C;cases C;let m:k<ls.L:=(Lm.mp d).1;let me:Up ls Y s (ks.L+1) r:=.step H d h.up;let nk:k∉ks:=λz=>by
   let q j B o p:=h.node k z;let N _ _ Q a _:=I.pr q k B;rw[d]at Q;cases Q;let qr:q≠r:=λw=>by
    subst w;let:=Up.uniq I.vs me o;lia
   let t:bey l q=r:=by
    unfold bey;obtain g|g:=a<;>obtain u|u:=eg
    .exact R7 (g.Q u.Y) qr
    .rw[R5 g];exact u.Y
    .simp!
    .exact R7 (g.Q u.Y) qr
   let:Up ls Y s (ks.L+1+1) q:=.step B d (by rw[t];exact me)
   let:=Up.uniq I.vs this o;lia
  let em:ik (k::ks)=ik ks^^^2^k:=Ml λi=>by
   rw[jz,My,jz,LU];by_cases c:i=k
   .simp[*]
   .let D:¬ k=i:=λz=>c z.Y
    simp[c,D]
  rw[em];erw[λe eK=>?_,3,λx' b=>?_]
  .obtain rfl|eK:=Lz.mp eK
   .exact m
   .exact v e eK
  .rw[mU,A,uc,R5 m,lkA_is d];let ee:endX l=2^bey l r^^^2^r:=by
    unfold endX bey;obtain z|z:=eg
    .rw[R5 z,z,OU]
    .simp!
   rw[ee,← MC,MC (2^s),NO,OT]
  .rw[b]at f;cases f;let B:=nB ls (λl d=>(I.w0 l d).1) (ik ks) (2^k) ls.L (Lq _);let o:=L y e4;rw[uX,R5 m,lkA_is d]at B;lia
def y8(l:Lk):R:=2^l.1|||2^l.2.1
def one1(m:R)(l:Lk):R:=if m&&&y8 l=0 then m else m|||y8 l
def dq(ls:E Lk)(m:R):R:=ls.foldl one1 m
inductive Run(ls:E Lk):R->R->R->Prop where
 |stop {m:R}:Run ls m m m
 |go {m a r:R} (h:m≠a) (n:Run ls (dq ls m) m r):Run ls m a r
def Dt(m:R)(l:Lk):m<=one1 m l:=by
 unfold one1;split
 .exact Lq _
 .exact Nat.left_le_or
def Dr{l:Lk}(h:m<2^n)(Y:l.1<n)(h2:l.2.1<n):one1 m l<2^n:=by
 unfold one1 y8;split
 .exact h
 .exact PR h (PR (Mv ∅ Y) (Mv ∅ h2))
def vL{l:Lk}(h:ls[i]?=Z l):dq (ls.j (i+1)) m=one1 (dq (ls.j i) m) l:=by
 unfold dq;rw[LK,h,O3];rfl
def orN(a b:R):Q5 (a:G) (b:G)=((a|||b:R):G):=by
 rw[PyProof.Rows.bitOr_and,andN];let q:=PyProof.Rows.nat_or_add_and a b;lia
def endsV(l:Lk):Q5 (1*2^((l.1:R):G).U) (1*2^((l.2.1:R):G).U)=((y8 l:R):G):=by rw[shlN,shlN,orN];rfl
def PaAt(H:Hp)(v:V)(l:Lk):Prop:=∃ t,v=.ref t/\H t=Z (.tup [.int (l.1:G),.int (l.2.1:G)])
theorem nA(a b:G):decide (V.int a=V.int b)=decide (a=b):=decide_eq_decide.mpr #[V.int.inj,congrArg V.int]
inductive spReach
 |mk (a:e8)(ys:E V)(n:R)(ls:E Lk) (_:vs=[.int 0,.ref a])(_:H a=Z (.lst ys))(_:LsAt PaAt H ys ls)(_:Lok n ls)(_:1<=n)(_:∀ r:R,Run ls 1 0 r->Q (.int (r:G)) H)
inductive spWhl
 |mk (v:V)(n:R)(ls:E Lk) (_:vs=[.int (n:G),v])(_:LnAt H v ls)(_:Lok n ls)(_:1<=n)(_:∀(r:R) H',Run ls 1 0 r->mu H'->Q (.bl (decide ((r:G)=1*2^((n:R):G).U-1))) H')
structure TxtR(mg:ff->io eN):Prop where
 n_list:mg "list"=k7
 n_reversed:mg "reversed"=k7
def cU:az ["start","pairs","mask","ahead","one","two","ends"] ["start","pairs"] (aq mJ):=by ac_nf
def mRz(n:R)(σ:St):R:=match σ with | [_,_,Z (.int M),Z (.int a),_,_,_]=>2*((2^n:R)-M).U+(if M=a then 0 else 1)|_=>0
def ok_reached(F:Fun K "reached" "reached" mJ f fd):k9 1 f fd ["start","pairs"] spReach:=by
 refine F.ok cU (by walk_at "l") λk A u s H L Q eg I h=>?_
 let a t n eK rfl hA hL ok n1 j:=h;let ab:=ok.n1
 intro Xc Dc;erw[_,(ah (aA 2 cU.nd (aw b9 ai (pv 0)))
   (ah (aA 3 cU.nd ai)
   (ah (fB PassesOwn.never (aC i4 (pv 2) (pv 3) (aE _)) (ah (aA 3 cU.nd (pv 2))
   (ao (mj (aN (pv 1)) (qD U (aH (bW 4 cU.nd) (aH (bW 5 cU.nd) b7))) (ah (aA 6 cU.nd (aw Dq (aw b9 ai (pv 4)) (aw b9 ai (pv 5))))
   (ao (bH (aC i4 (aw fN (pv 2) (pv 6)) ai (aE _)) (ao (aA 2 cU.nd (aw Dq (pv 2) (pv 6)))) aM)))))))
   (ao (aD (pv 2)))))),3]
 erw[2649,#[by decide,4,by decide],3]
 refine fY (λO Y=>∃(M Ah:R),∃ v4 v5 v6,Y=H/\O=[Z (.int 0),Z (.ref a),Z (.int (M:G)),Z (.int (Ah:G)),v4,v5,v6]/\M<2^n/\∀ r,Run eK M Ah r->Run eK 1 0 r)
  (λO _=>mRz n O) #[01,00,661,Nat.one_lt_two_pow ∅,λr z=>z] ?_ ?_
 .rintro O Y ⟨M,Ah,v4,v5,v6,rfl,rfl,hM,run⟩;erw[59033];by_cases T:M=Ah
  .subst T;refine wx U ?_;erw[9,j M (run M .stop)]
  refine ite2 (λc=>?_) (λc=>R7 (by rw[nA,QF (λz=>T ∅)];rfl) c)
  erw[57];erw[9,a,U,#[_,SqL.of hA],bO (K:=K) (xs:=t) (λi O q=>∃ v4 v5 v6,q=Y/\O=[Z (.int 0),Z (.ref a),Z (.int ((dq (eK.j i) M:R):G)),Z (.int (M:G)),v4,v5,v6]/\dq (eK.j i) M<2^n/\M<=dq (eK.j i) M) #[661,hM,Lq _] (λi O q _ aa=>by let _ _ _ z _:=aa;rw[z];exact SqL.of hA) ?_ ?_]
  .rintro i x O q J ⟨v4,v5,v6,rfl,rfl,ae,al⟩;let l d p rfl g:=hL.get J;let b1 b2:=ok.sm l (Ln d);erw[p,9,SqT.of g,238998];erw[2649,#[20,by decide],2649,#[20,by decide],933]
   simp only[endsV];erw[15115673];let o:=vL (m:=M) d;let ac:=Dr ae b1 b2;let am:=Dt (dq (eK.j i) M) l;simp only[andN];by_cases z:dq (eK.j i) M&&&y8 l=0
   .refine wx (by rw[z];rfl) ?_
    let e:one1 (dq (eK.j i) M) l=dq (eK.j i) M:=by unfold one1;rw[R5 z]
    erw[149,by rw[o,e];rfl,by rw[o];exact ac,by rw[o];lia]
   .refine ite2 (λ_=>?_) (λc=>R7 (by rw[nA,QF (λy=>z ∅)];rfl) c)
    let e:one1 (dq (eK.j i) M) l=dq (eK.j i) M|||y8 l:=by unfold one1;rw[R6 z]
    erw[239001];simp only[orN];erw[149,by rw[o,e];rfl,by rw[o];exact ac,by rw[o];lia]
  .rintro O q ⟨v4,v5,v6,rfl,rfl,ae,al⟩;rw[hL.1,LP]at ae al ⊢;erw[#[_,M,661,ae,λr z=>run r (.go T z)],3];show 2*(((2^n:R):G)-((dq eK M:R):G)).U+(if((dq eK M:R):G)=(M:G) then 0 else 1)<2*(((2^n:R):G)-(M:G)).U+(if(M:G)=(Ah:G) then 0 else 1);rw[R6 (show ¬ (M:G)=(Ah:G) from λz=>T ∅)]
   generalize (2^n:R)=N at hM ae;split<;>lia
 .rintro O v Q1 Q2 B ⟨v1,C,v2,D,e3,b,e4,q'⟩;erw[v1,C,v2,D,e3,b,e4,B _ _ q']
def FQ:az ["many","links"] ["many","links"] (aq tE):=by ac_nf
def ok_whl(F:Fun K "whole" "whole" tE f fd)(ab:lc 1 "reached" ["start","pairs"] spReach f1 eK):k9 2 f fd ["many","links"] spWhl:=by
 refine F.ok FQ (by walk_at "l") λB A u s H L Q eg N h=>?_
 let v n k rfl{a xs rfl hA hL}ok O y:=h;let ac:=ok.n1;let l9:=ok.l9;let xl:=hL.1;intro j q;erw[_,(ao (aD (cm cR (ab.c N (af ai (af (dj [] ["link"] (aN (pv 1)) pg_c pt_c (λC b s H=>(cj (af (iZ K (pv 0) ai) (af (iZ K (pv 0) ai) aj))))) aj))) (aw iW (aw b9 ai (pv 0)) ai) (aE _)))),3];erw[9,a,U,#[_,SqL.of hA],bq (K:=K) (xs:=xs) (λi M Y=>mu Y/\LsAt PaAt Y M (k.j i)) (LN (av ∅)) #[λ_ _ e=>e,LsAt.nil] (λi M Y _ z=>SqL.of (z.1 _ _ hA)) ?_ ?_]
 .rintro i x M Y J ⟨o,hZ⟩;let l d p rfl g:=hL.get J;let aa:=o _ _ g;erw[9,p,_,00,41,SqT.of aa,a30,9,p,_,01,41,SqT.of aa,a31,(by show 2<=QG;decide),λt I=>?_]
  let m:=ak I (.tup [.int (l.1:G),.int (l.2.1:G)]);erw[o.Q m,3];rw[LK,d];exact(hZ.imp λ_ _ ⟨t,e,z⟩=>#[t,e,m _ _ z]).snoc #[t,U,ag]
 rintro M Y _ ⟨o,hZ⟩ D T;rw[xl,LP]at hZ;let m:=ak T (.lst M);erw[D,M,n,k,U,ag,hZ.imp λ_ _ ⟨t,e,z⟩=>#[t,e,m _ _ z],ok,O,λr run=>?_];erw[2649,#[20,by decide],3749]
 rw[nA];exact y r _ run (o.Q m)
structure TxtM(mg:ff->io eN):Prop where
 most:∃ t,mg "MOST_MARKS"=Z (.int 14 t)
def Fw{p q:R}:(M&&&(2^p|||2^q)=0↔M.O p=kt/\M.O q=kt)/\(M|||(2^p|||2^q)=M->M.O p=kf/\M.O q=kf):=by
 let b1:∀ i,(2^p|||2^q).O i=(decide (p=i)||decide (q=i)):=λi=>by rw[MJ,LU,LU]
 erw[#[λh=>?_,λ⟨Y,L⟩=>?_],λh=>?_]
 .let Y:=congrArg (λz=>Ow z p) h
  let L:=congrArg (λz=>Ow z q) h;simp only[NL,b1,Nh]at Y L;constructor
  .simpa using Y
  .simpa using L
 .refine Ml λi=>?_;rw[NL,b1,Nh];lia
 .let Y:=congrArg (λz=>Ow z p) h
  grind
def Eh(h:M<2^m)(k:∀ p,p<m->M.O p=kf):M=2^m-1:=by
 refine Ml λi=>?_;rw[OM];by_cases z:i<m
 .simp[*]
 .rw[QF z];exact Ou (Mb h (Mw ∅ ∅))
def t5{n:G}(Y:Gl X x)(D:∃ t,X.mg x=Z (.int n t))(hd:uP_ ((x == ("__debug__" : ff))=kt) uD_):PE X (.Name x pos) (tC (.int n)):=by
 let t h:=D;exact Di Y h #[t,U] hd
theorem oH:∀ i,m<=dq (ls.j i) m/\dq (ls.j i) m<=dq ls m:=λi=>by
 let w:∀(l:E Lk)(m:R),m<=dq l m:=λl=>by
  induction l with
  |nil=>intro m;exact Lq _
  |cons x l O=>intro m;exact MB (Dt m x) (O _)
 erw[w _ _,3];let e:dq ls m=dq (ls.drop i) (dq (ls.j i) m):=by
  unfold dq;rw[← O3,NW]
 simp[*]
def zS{r:R}(h:dq ls r=r){l:Lk}(hl:l∈ls):r.O l.1=r.O l.2.1:=by
 let i B e:=Mt hl;let z:ls[i]?=Z l:=by simp[*]
 let y:=oH (ls:=ls) (m:=r) i;let J:=oH (ls:=ls) (m:=r) (i+1);let C:dq (ls.j i) r=r:=by lia
 let eg:dq (ls.j (i+1)) r=r:=by lia
 rw[vL z,C]at eg;let b1 b2:=Fw (M:=r) (p:=l.1) (q:=l.2.1);unfold one1 y8 at eg;split at eg
 .simp!
 .let s u:=b2 eg;simp!
def Run.shut{a r:R}(h:Run ls m a r)(hl:∀ l∈ls,l.1<n/\l.2.1<n):(m=a->dq ls m=m)->m<2^n->dq ls r=r/\r<2^n/\(m.O 0=kf->r.O 0=kf):=by
 induction h with
 |stop=>intro Y L;erw[Y U,L,id]
 | @go m a r h c O =>
  intro _ L;let lt:∀(k:E Lk),(∀ l∈k,l.1<n/\l.2.1<n)->∀ m,m<2^n->dq k m<2^n:=λk=>by
   induction k with
   |nil=>intro _ m D;exact D
   |cons x k b =>
    intro eK m D;let b1 b2:=eK x (Ly ..);exact b (λl hl=>eK l (Lu _ hl)) _ (Dr D b1 b2)
  let bit:∀(k:E Lk)(m:R),m.O 0=kf->(dq k m).O 0=kf:=λk=>by
   induction k with
   |nil=>intro m D;exact D
   |cons x k b =>
    intro m D;refine b _ ?_;unfold one1;split
    .exact D
    .rw[MJ,D];rfl
  let B u I:=O (λe=>by rw[e];exact e) (lt ls hl m L)
  erw[B,u,λz=>I (bit ls m z)]
def run_full{r:R}(h:Run ls 1 0 r)(hl:∀ l∈ls,l.1<n/\l.2.1<n)(n1:1<=n)(T:Conn n ls):r=2^n-1:=by
 let B u I:=h.shut hl (λz=>by cases z) (Nat.one_lt_two_pow ∅)
 refine Eh u λp g=>?_;let x J:=T p g;let d:∀{a b:R}{x:G},Wk ls a b x->r.O a=r.O b:=λh=>by
  induction h with
  |nil=>rfl
  | @step b i x l N w eK O =>
   rw[O];let f:=zS B (Ln w);unfold bey;obtain z|z:=eK
   .rw[R5 z,z];exact f
   .simp!
 rw[← d J];exact I ∅
inductive spOnes
 |mk (n:R) (_:vs=[.int (n:G)])(_:n<2^40)(_:∀ H',mu H'->Q (.int (((bl n).L:R):G)) H')
inductive JC
 |mk (n:R) (_:vs=[.int (n:G)])(_:n<2^40)(_:∀ H',mu H'->Q (.int (((bl n).L:R)%2:G)) H')
def oz(K:Lo):Sp:=λL H Q _=>∃(a:e8),∃(x:E R),(L=[.ref a]/\na a (x.h iV)/\(∀ k∈x,k<80)/\Q (.int ((ik x:R):G)) H)
inductive JB
 |mk (v:V)(n mk:R)(ls:E Lk) (_:vs=[.int (n:G),v,.int (mk:G)])(_:LnAt H v ls)(_:Lok n ls)(_:1<=n)(_:Conn n ls)(_:mk<2^n)(_:(bl mk).L%2=0)(_:(bl mk).L<=14)(_:∀ H',mu H'->Q .non H')
def JI:az ["mask"] ["mask"] (aq Aw):=by ac_nf
def ok_ones(F:Fun K "ones" "ones" Aw f fd)(T:Txt mg)(d:lc 1 "bits" ["mask"] oA f1 eK):k9 2 f fd ["mask"] spOnes:=by
 refine F.ok JI (by walk_at "l") λB A u s H L Q eg N h=>?_
 let n rfl a y:=h;let e:(2:R)^40=1099511627776:=by rfl
 intro I o;erw[_,(ao (aD (ay ax (by rfl) T.n_len aZ (af (d.c N (af (pv 0) aj)) aj)))),3]
 erw[5273,λr l j _ b=>?_]
 erw[r,9,.inl (SqL.of b),3];rw[Lp,Lv];exact y _ j
def sc_odd:az ["mask"] ["mask"] (aq FU):=by ac_nf
def ok_odd(F:Fun K "odd" "odd" FU f fd)(g:lc 2 "ones" ["mask"] spOnes f1 eK):k9 3 f fd ["mask"] JC:=by
 refine F.ok sc_odd (by walk_at "l") λB A u s H L Q eg N h=>?_
 let n rfl a y:=h;intro I o;erw[_,(ao (aD (aw bG (g.c N (af (pv 0) aj)) ai))),3];erw[9,n,U,a,λl j=>#[165,(by show(0:G)<2;decide),y _ j]]
def jW:az ["places","mask","place"] ["places"] (aq mK):=by ac_nf
def ok_mask(F:Fun K "mask_of" "mask_of" mK f fd):k9 1 f fd ["places"] (oz K):=by
 refine F.ok jW (by walk_at "l") λB A u s H L Q eg N h=>?_
 let a b rfl M d q:=h
 intro I o;erw[_,(ah (aA 1 jW.nd ai)
   (ah (mj (aN (pv 0)) (bW 2 jW.nd) (ao (aA 1 jW.nd (aw Dq (pv 1) (aw b9 ai (pv 2))))))
   (ao (aD (pv 1))))),3]
 erw[9,a,U,#[_,M],bO (K:=K) (xs:=b.h iV) (λi O Y=>∃ T,O=[Z (.ref a),Z (.int ((ik (b.j i):R):G)),T]/\Y=H) #[41] (λi O Y _ ⟨_,_,z⟩=>by rw[z];exact M) ?_ ?_]
 .rintro i x O Y J ⟨T,rfl,rfl⟩;rw[LA]at J;let k eK rfl:=LL.mp J;let c:=d k (Ln eK);erw[42393,#[by lia,by lia,by decide],933]
  let e:Q5 ((ik (b.j i):R):G) (1*2^((k:R):G).U)=((ik (b.j (i+1)):R):G):=by
   rw[shlN,orN];unfold ik;rw[LK,eK,O3];rfl
  simp only[e];erw[41]
 .rintro O Y ⟨T,rfl,rfl⟩;rw[Lp,LP];erw[9,q]
def qp:az ["many","links","marks"] ["many","links","marks"] (aq eh):=by ac_nf
def ok_ref{D J:fk}(F:Fun K "refuse_marks" "refuse_marks" eh f fd)(T:TxtM mg)(aa:lc 3 "odd" ["mask"] JC f1 eK)(ab:lc 2 "whole" ["many","links"] spWhl f2 D)(g:lc 2 "ones" ["mask"] spOnes a J):k9 4 f fd ["many","links","marks"] JB:=by
 refine F.ok qp (by walk_at "l") λB A u s H L Q eg N h=>?_
 let v n mk k rfl hV ok O d p i I y:=h;let x:=ok.n1;let M:mk<2^40:=Mb p (Mw ∅ x)
 let tM b:=T.most
 intro e C;erw[_,(ah (bH (aC cR (aa.c N (af (pv 2) aj)) ai (aE _)) (ao dA) aM)
   (ah (bH (gj (dM (ab.c N (af (pv 0) (af (pv 1) aj))))) (ao dA) aM)
   (ao (bH (aC ye (g.c N (af (pv 2) aj)) (t5 U T.most) (aE _)) (ao dA) aM)))),3]
 erw[9,mk,U,M,λl j=>?_];erw[38,ite2 (λz=>R7 (V.int.inj (RS z)) ∅) (λ_=>?_)]
 erw[153,v,n,k,U,hV.mono j,ok,O,λr Y run o=>?_];let er:=run_full run ok.sm O d
 let t:decide ((r:G)=1*2^((n:R):G).U-1)=kf:=Rl (by
  rw[shlN,er];let:=Ng n
  lia)
 rw[t];erw[9,iteF ?_];erw[9,mk,U,M,λq m=>?_];erw[2469,ite2 (λz=>R7 (RS z) (by grind)) (λ_=>?_)]
 exact y _ (j.Q (o.Q m))
inductive spRow
 |mk (v:V)(va:e8)(r s:R)(ls:E Lk)(VL:E (io R))(ks:E R) (_:vs=[v,.ref va,.int (r:G)])(_:LnAt H v ls)(_:H va=Z (.lst (VL.h oN)))(_:VL[s]?=Z k7)(_:Pth ls VL s r ks)(_:ks.L<=40)(_:∀ q H',mu H'->H' q=Z (.lst (ks.x.h iV))->Q (.ref q) H')
def mC:az ["links","via","room","back","here"] ["links","via","room"] (aq pG):=by ac_nf
def ok_row(F:Fun K "row_to" "row_to" pG f fd)(T:TxtR mg)(al:lc 1 "beyond" ["link","room"] JE f1 eK):k9 2 f fd ["links","via","room"] spRow:=by
 refine F.ok mC (by walk_at "l") λb A u s H L Q eg N h=>?_
 let v va r s0 n VL x rfl{a J rfl hA hL}ae an hP a1 I:=h
 intro Xc Dc;erw[_,(ah (aA 3 mC.nd (dB aj))
   (ah (aA 4 mC.nd (pv 2))
   (ah (fB PassesOwn.never (aC JV (a8 (pv 1) (pv 4)) qE (aE _)) (ah (aW (eG LH Md Mc a9 (pv 3) (af (a8 (pv 1) (pv 4)) aj)))
   (ao (aA 4 mC.nd (al.c N (af (a8 (pv 0) (a8 (pv 1) (pv 4))) (af (pv 4) aj)))))))
   (ao (aD (vJ U U T.n_list U T.n_reversed (pv 3))))))),3]
 erw[(by simp),λl d=>?_]
 let lv:l≠va:=λz=>by simp!
 erw[9,fY (λO Y=>∃(ap:R)(ac rest:E R),O=[Z (.ref a),Z (.ref va),Z (.int (r:G)),Z (.ref l),Z (.int (ap:G))]/\Y l=Z (.lst (ac.h iV))/\ac++rest=x/\Pth n VL s0 ap rest/\mu Y)
  (λ_ Y=>match Y l with|some (.lst M)=>100-M.L|_=>0) #[r,[],x,U,ag,U,hP,ak d _] ?_ ?_]
 .rintro O Y ⟨ap,ac,rest,rfl,g,aX,t,o⟩;let ab:ac.L+rest.L<=40:=by
   let:=congrArg List.length aX;rw[Lx]at this;lia
  let aS:=o _ _ ae
  cases t with
  |root =>
   erw[153,va,661,SqL.of aS,aB (GC an),38,iteF ?_];rw[OP]at aX;subst aX;erw[9,l,9,SqL.of g,λq y=>?_];refine I q _ (o.Q (ak y _)) ?_;rw[ag,List.map_reverse]
  | @step _ k lk a0 m am aI =>
   let a2 aT lt rfl aa:=hL.2 k lk am;erw[153,va,661,SqL.of aS,aB (GC m),38,iteT ?_];rw[MG]at ab;erw[9,.inl #[6,SqL.of g],153,va,661,SqL.of aS,aB (GC m),l,165,g,av (by rw[Lp];lia),3]
   let C:=aJ o d (.lst (ac.h iV++[.int (k:G)]));erw[2457,va,661,SqL.of (C _ _ ae),aB (GC m),a,661,SqL.of (C _ _ hA),aB aT,9,.ref lt,lk,ap,U,#[lt,U,C _ _ aa],3];erw[#[bey lk ap,ac++[k],a0,62,aI,C],3]
   .rw[ag,LC];rfl
   .rw[Oy];exact aX
   .rw[g];show(match(upd Y l (.lst (ac.h iV++[.int (k:G)]))) l with|some (.lst M)=>100-M.L|_=>0)<100-(ac.h iV).L
    rw[ag];show 100-(ac.h iV++[V.int (k:G)]).L<100-(ac.h iV).L;rw[Lx,Lp,LR];lia
 .rintro O Y Q1 Q2 B ⟨v',e,i,j,a',b',D,d',f',g',p,i',j',k',l',q⟩;erw[v',e,i,j,a',b',D,d',f',g',p,i',j',k',l',B _ _ q]
def RM(rho:R->R)(c:R):R->R
 |0=>0
 |i+1=>if c.O i=kf then RM rho c i^^^2^rho i else RM rho c i
theorem Fm(rho:R->R)(u v:R):∀ i,RM rho (u^^^v) i=RM rho u i^^^RM rho v i
 |0=>(NO 0).Y
 |i+1=>by
  unfold RM;rw[Fm rho u v i,My];let M:∀ a b e:R,(a^^^e)^^^(b^^^e)=a^^^b:=λa b e=>by rw[OU b e,← MC,MC a e e,NO,OT]
  cases u.O i<;>cases v.O i<;>simp
  .rw[MC]
  .rw[MC,MC,OU (RM rho v i)]
  .exact(M _ _ _).Y
theorem Fn(rho:R->R)(k:R):∀ i,RM rho (2^k) i=if k<i then 2^rho k else 0
 |0=>by rfl
 |i+1=>by
  unfold RM;rw[Fn rho k i,LU];by_cases c:k=i
  .simp[*]
  .rw[R6 (by simpa using c)]
   lia
theorem Fl(rho:R->R):∀ i,RM rho 0 i=0
 |0=>rfl
 |i+1=>by unfold RM;rw[Nh,R6 LZ];exact Fl rho i
theorem Fo{l:E R}(nd:l.l)(x:R):∀ i,i<=l.L->(RM (λi=>l.f i 0) (2^l.L-1) i).O x=decide (x∈l.j i)
 |0,_=>by rw[List.take_zero];show(0:R).O x=_;simp
 |i+1,h=>by
  unfold RM;rw[R5 (by rw[OM];exact Rl ∅),My,Fo nd x i ∅,LU]
  let e:l[i]?=Z l[i]:=Ll ∅
  let b:l.f i 0=l[i]:=by rw[LB,e];rfl
  rw[b];let g:l[i]∉l.j i:=λz=>by
   let k eK N:=Mt z;rw[M9]at eK;rw[List.getElem_take]at N;let:=(List.getElem_inj nd).mp N;lia
  let a:x∈l.j (i+1)↔(x∈l.j i∨x=l[i]):=by
   rw[LK,e];exact LG.Q (or_congr Iff.rfl LY)
  by_cases c:x=l[i]
  .rw[QF (λz=>g (c▸z)),Rl c.Y,Rl (a.mpr (.inr c))];rfl
  .rw[QF (show ¬ l[i]=x from λz=>c z.Y),MA];exact decide_eq_decide.mpr #[λh=>a.mpr (.inl h),λh=>(a.mp h).resolve_right c]
theorem RM_all(mk:R):RM (λi=>(bl mk).f i 0) (2^(bl mk).L-1) (bl mk).L=mk:=Ml λx=>by
 rw[Fo (bl_nd mk) x _ (Lq _),LP]
 cases z:mk.O x with
 |true=>exact Rl (mem_bl.mpr z)
 |false=>exact QF λy=>by rw[mem_bl,z]at y;cases y
def E1{c f g:R}(C:f∈bl c)(Y:g∈bl c)(n:f≠g):cut2 c f g<c:=by
 let sub:cut2 c f g&&&c=cut2 c f g:=Ml λi=>by
  rw[NL]
  cases z:(cut2 c f g).O i with
  |false=>rfl
  |true =>
   let:=(uT C Y n i).mp (mem_bl.mpr z);rw[mem_bl.mp this.1];rfl
 let w:cut2 c f g<=c:=by rw[← sub];exact Nat.and_le_right
 let ne:cut2 c f g≠c:=λz=>by
  let:=(uT C Y n f).mp (by rw[z];exact C)
  exact this.2.1 U
 lia
def Cs.map{d:R->R->G}{rho:R->R}{l:E R}{c:G}(h:Cs (λi j=>d (rho i) (rho j)) l c):Cs d (l.h rho) c:=by
 let k p e:=h;erw[k.h λq=>(rho q.1,rho q.2),15]
 .let a:∀ k:E (R×R),flat (k.h λq=>(rho q.1,rho q.2))=(flat k).h rho:=λk=>by
   induction k with
   |nil=>rfl
   |cons q r O=>rw[LX,flat_cons,flat_cons,O,LX,LX]
  rw[a];exact p.h rho
 .rw[← e];unfold cst;rw[Nd];rfl
def Cs.back{d:R->R->G}{rho ix:R->R}{c:G}(hi:∀ i∈l,ix (rho i)=i)(h:Cs d (l.h rho) c):Cs (λi j=>d (rho i) (rho j)) l c:=by
 let PL p e:=h;let mem:∀ x∈flat PL,rho (ix x)=x:=λx J=>by
  let i z rfl:=LW.mp (p.mem_iff.mp J);rw[hi i z]
 erw[PL.h λq=>(ix q.1,ix q.2),15]
 .let a:∀ PL:E (R×R),flat (PL.h λq=>(ix q.1,ix q.2))=(flat PL).h ix:=λPL=>by
   induction PL with
   |nil=>rfl
   |cons q r O=>rw[LX,flat_cons,flat_cons,O,LX,LX]
  rw[a];refine(p.h ix).Q ?_;rw[Nd];let:l.h (ix∘rho)=l:=by
   conv=>rhs;rw[← List.map_id l]
   exact M7 λi z=>hi i z
  rw[this]
 .rw[← e];unfold cst;rw[Nd];refine congrArg List.sum (M7 λq y=>?_);let eK:q.1∈flat PL:=by
   unfold flat;exact List.mem_flatMap.mpr #[q,y,Ly ..]
  let n:q.2∈flat PL:=by
   unfold flat;exact List.mem_flatMap.mpr #[q,y,Lu _ (Ly ..)]
  simp[*]
def u9(m:R):(bl (2^m-1)).Perm (Mg m):=by
 refine(MF (bl_nd _) (List.nodup_range)).mpr λx=>?_;rw[mem_bl,OM,Mz,decide_eq_true_iff]
def Opt.rooms{d:R->R->G}(nd:l.l){t:G}(h:Opt (λi j=>d (l.f i 0) (l.f j 0)) (bl (2^l.L-1)) t):Opt d l t:=by
 let N:=h.perm (u9 l.L);let em:(Mg l.L).h (λi=>l.f i 0)=l:=by
  refine Qa (by rw[Lp,Na]) λi Y L=>?_
  rw[List.getElem_map,List.getElem_range,LB,Ll L];rfl
 let ix:∀ i∈Mg l.L,l.idxOf (l.f i 0)=i:=λi B=>by
  simp!
 erw[3,λc T=>N.2 c (Cs.back (rho:=λi=>l.f i 0) (ix:=λx=>l.idxOf x) ix (by rw[em];exact T))]
 let:=Cs.h (rho:=λi=>l.f i 0) N.1;rw[em]at this;exact this
inductive sU
 |mk (ta r:e8)(xs vals:E V)(ks:E R) (_:vs=[.ref ta,.ref r])(_:H ta=Z (.lst xs))(_:H r=Z (.lst (ks.h iV)))(_:vals.L=ks.L)(_:ks.L<=900)(_:(∀(i k:R),ks[i]?=Z k->∃ y,xs[k]?=Z y/\vals[i]?=Z y))(_:∀ q H',mu H'->H q=k7->H' q=Z (.lst vals)->Q (.ref q) H')
def xC:Sp:=λL H Q _=>L=[]/\∀ p t eK,mu eK->H p=k7->eK p=Z (.dK [(.inl ((0:R):G),.ref t)])->eK t=Z (.tup [.int 0,.non,.non])->Q (.ref p) eK
def vD:az ["entries","numbers"] ["entries","numbers"] (aq g8):=by ac_nf
def ok_chosen(F:Fun K "chosen_of" "chosen_of" g8 f fd):k9 1 f fd ["entries","numbers"] sU:=by
 refine F.ok vD (by walk_at "l") λB A M s H j Q eg N h=>?_
 let a r xs g b rfl c D e l m d:=h;intro I o;erw[_,(ao (aD (dj [("entries",0)] ["number"] (aN (pv 1)) pg_c pt_c (λC T s H=>(vK K (pv 1) (pv 0)))))),3];erw[9,r,U,#[_,SqL.of D],bq (K:=K) (xs:=b.h iV) (λi t u=>u=H/\t=g.j i) (LN (av (by grind))) #[10] (λi t u _ z=>by rw[z.1];exact SqL.of D) ?_ ?_]
 .rintro i x t u J ⟨rfl,rfl⟩;rw[LA]at J;let k eK rfl:=LL.mp J;let y Y L:=m i k eK;erw[153,a,661,SqL.of c,aB Y,14];rw[LK,L];rfl
 rintro t u _ ⟨rfl,rfl⟩ q O;rw[Lp,← e,LP];exact d q _ (ak O _) O ag
def vz:az [] [] (aq g7):=by ac_nf
def ok_table(F:Fun K "new_table" "new_table" g7 f fd):k9 1 f fd [] xC:=by
 refine F.ok vz (λL H Q eg h=>?_) (λB A u s H L Q eg N h=>?_)
 .rw[h.1];rfl
 let rfl y:=h;intro I o;erw[_,(ao (aD (yd (tS ai (cj (af ai (af qE (af qE aj)))) xX) U U (λz=>by cases z) ∅))),3]
 intro p g;erw[(by show 3<=QG;decide),λt n=>?_]
 let q:=ak g (.dK []);let a:=ak n (.tup [.int 0,.non,.non]);let pt:p≠t:=λz=>by rw[← z,ag]at n;cases n
 erw[by rw[ar pt];exact ag,[(.inl ((0:R):G),.ref t)],U,(by show 1<=15;decide),3]
 refine y p t _ (aJ (q.Q a) g _) g ag ?_;rw[ar (Ne.Y pt)];exact ag
def FdAt(n:R)(ls:E Lk)(H:Hp)(v:V)(s:R):Prop:=∃ t d b o a,v=.ref t/\H t=Z (.tup [.ref d,.ref b])/\H d=Z (.lst (o.h oV))/\H b=Z (.lst (a.h oN))/\FI n ls s MM o a [] (λ_ _=>False)
def tb_same{q:ff}{r:Pos}{TT:e8}(h:Tb q r TT H)(s:mu H'):Tb q r TT H':=by
 obtain y|⟨D,I,j⟩:=h
 .exact .inl (s _ _ y)
 .exact .inr #[D,s _ _ I,s _ _ j]
theorem tb_ne{q:ff}{r:Pos}{TT:e8}(h:Tb q r TT H){b:e8}{o:HO}(e:H b=Z o)(n:∀ ps,o≠.tbl ps):b≠TT:=λz=>by
 rw[z]at e;obtain y|⟨_,y,_⟩:=h<;>rw[y]at e<;>cases e<;>exact n _ U
def SmT(H H':Hp):Prop:=∀ b o,(∀ T,o≠.tbl T)->H b=Z o->H' b=Z o
theorem SmT.trans(a:SmT H H1)(b:SmT H1 H2):SmT H H2:=λc o n e=>b c o n (a c o n e)
theorem SmT.of(s:mu H'):SmT H H':=λc o _ e=>s c o e
theorem TbS.smT{q:ff}{r:Pos}{TT:e8}(s:TbS TT H H')(h:Tb q r TT H):SmT H H':=λb o n e=>s b o (tb_ne h e n) e
theorem SmT.lst{H H':Hp}(s:SmT H H'){b:e8}{xs:E V}(e:H b=Z (.lst xs)):H' b=Z (.lst xs):=s _ _ (λT z=>by cases z) e
theorem SmT.tup{H H':Hp}(s:SmT H H'){b:e8}{xs:E V}(e:H b=Z (.tup xs)):H' b=Z (.tup xs):=s _ _ (λT z=>by cases z) e
def FdAt.mono{s:R}(h:FdAt n ls H v s)(sm:SmT H H'):FdAt n ls H' v s:=by
 let t d b o a e Y L f B:=h;erw[t,d,b,o,a,e,sm.tup Y,sm.lst L,sm.lst f,B]
def LnAt.smT{r:E Lk}(h:LnAt H v r)(s:SmT H H'):LnAt H' v r:=by
 let a O e z l:=h;erw[a,O,e,s.lst z,l.imp λ_ _ ⟨t,e,q⟩=>#[t,e,s.tup q]]
def LT(H H':Hp):Prop:=(∀ b J,H b=Z (.lst J)->H' b=Z (.lst J))/\∀ b J,H b=Z (.tup J)->H' b=Z (.tup J)
theorem LT.same(s:mu H'):LT H H':=#[λ_ _ e=>s _ _ e,λ_ _ e=>s _ _ e]
theorem LT.tbS(s:TbS tb H H')(h:H tb=Z (.dK kvs)):LT H H':=#[λb J e=>s _ _ (λz=>by simp!) e,λb J e=>s _ _ (λz=>by simp!) e]
def FdAt.lt{s:R}(h:FdAt n ls H v s)(sm:LT H H'):FdAt n ls H' v s:=by
 let t d b o a e Y L f B:=h;erw[t,d,b,o,a,e,sm.2 _ _ Y,sm.1 _ _ L,sm.1 _ _ f,B]
def ox.uniq{t t':G}(h:ox H v t)(h':ox H v t'):t=t':=by
 let a y z e q:=h;let m s c J Y:=h';lia
theorem GK(h:∀ k∈ks,k<N):ik ks<2^N:=MU _ λi B=>by
 rw[jz];exact QF λz=>by let:=h i z;lia
theorem DH(ks:E R):ik ks.x=ik ks:=Ml λi=>by
 rw[jz,jz];simp
def PrI(v:V)(n mk m N:R)(ls:E Lk)(r j e tb:e8)(kvs:E (Key×V))(t:G)(H8:Hp)(σ:St)(H:Hp):Prop:=∃(c u:R)(b a:io V)(w:V)(f:G),σ=[Z (.int (n:G)),Z v,Z (.int (mk:G)),Z (.ref r),Z (.ref j),Z (.ref e),Z (.ref tb),Z (.int (c:G)),Z (.int t),Z (.int (u:G)),b,a]/\Same H8 H/\valV kvs (.inl (c:G))=Z w/\ox H8 w f/\u<2^N/\oddE ls u N=mk^^^RM (λi=>(bl mk).f i 0) c m/\cstU ls u N<=t-f
inductive spPaired(TT:e8)
 |mk (v:V)(n mk:R)(ls:E Lk) (_:vs=[.int (n:G),v,.int (mk:G)])(_:LnAt H v ls)(_:Lok n ls)(_:1<=n)(_:Conn n ls)(_:mk<2^n)(_:(bl mk).L%2=0)(_:(bl mk).L<=14)(_:Tb lqF lpF TT H)(_:∀(t:e8)(cost:G)(u:R) H',SmT H H'->Tb lqF lpF TT H'->H' t=Z (.tup [.int cost,.int (u:G)])->u<2^ls.L->oddE ls u ls.L=mk->Opt (farD ls) (bl mk) cost->cstU ls u ls.L<=cost->Q (.ref t) H')
def RwA(ls:E Lk)(mk:R)(H:Hp)(v:V)(s:R):Prop:=∃ p,v=V.ref p/\H p=Z (.lst ((bl mk).h λx=>V.int (farD ls s x)))
noncomputable def dR (ls:E Lk) (mk:R) (i j:R):G:=farD ls ((bl mk).f i 0) ((bl mk).f j 0)
def bT:az ["many","links","marks","rooms","found","between","table","left","cost","used","first","mate"] ["many","links","marks"] (aq pH):=by ac_nf
def mPz(σ:St):R:=match σ with | [_,_,_,_,_,_,_,Z (.int c),_,_,_,_]=>c.U|_=>0
def ok_paired{TT f4 f5 f6 f7 f8:e8}{be bK cd cF cK dn cL:fk}(F:Fun K "paired" "paired" pH f fd)(T:Txt mg)(aT:lc 4 "refuse_marks" ["many","links","marks"] JB f1 eK)(an:lc 1 "bits" ["mask"] oA f2 be)(bg:lc 2 "fares" ["many","links","start"] (spFares TT) I bK)(a0:lc 1 "chosen_of" ["entries","numbers"] sU f4 cd)(a1:lc 1 "new_table" [] xC f5 cF)(GL:∀(D:R->R->G)(m:R),(∀ a b,D a b=D b a)->lc 10 "laid_in_pairs" ["between","chosen","table"] (spLaid D m 8) f6 cK)(am:lc 1 "mask_of" ["places"] (oz K) f7 dn)(ck:lc 2 "row_to" ["links","via","room"] spRow f8 cL):k9 11 f fd ["many","links","marks"] (spPaired TT):=by
 refine F.ok bT (by walk_at "l") λab A aa s H vs Q eg N h=>?_
 let v n mk ls rfl hV ok n1 hc a2 ev ac bB kk:=h;let hu:=uz N;let a6:=ok.n1;let dp:=ok.l9;let al:=GL (dR ls mk) (bl mk).L (λa b=>Ej _ _ _);let bN:mk<1099511627776:=by
  let Y:2^n<=2^40:=Mw ∅ a6
  let cy:(2:R)^40=1099511627776:=by rfl
  lia
 let bi:∀ x∈bl mk,x<n:=λx J=>pq a2 J
 intro Xc Dc;erw[_,(ah (aW (aT.c N (af (pv 0) (af (pv 1) (af (pv 2) aj)))))
   (ah (aA 3 bT.nd (an.c N (af (pv 2) aj)))
   (ah (oU 4 [("many",0),("links",1)] ["room"] bT.nd (aN (pv 3)) pg_c pt_c (λC ex s H=>(bg.c N (af (pv 1) (af (pv 2) (af (pv 0) aj))))))
   (ah (oU 5 [("rooms",3)] ["told","via"] bT.nd (aN (pv 4)) (λC ex s H=>(eZ (n:=2) (K:=K) U U (aH (bc (i:=0) (show(["told","via","rooms"]:E ff).l from by decide) U (Or.inl U)) (aH (bc (i:=1) (show(["told","via","rooms"]:E ff).l from by decide) U (Or.inl U)) b7)))) pt_c (λC ex s H=>(a0.c N (af (pv 0) (af (pv 2) aj)))))
   (ah (aA 6 bT.nd (a1.d N))
   (ah (aA 7 bT.nd (aw iW (aw b9 ai (ay ax (by rfl) T.n_len aZ (af (pv 3) aj))) ai))
   (ah (aA 8 bT.nd (aG (al.c N (af (pv 5) (af (pv 7) (af (pv 6) aj)))) ai))
   (ah (aA 9 bT.nd ai)
   (ah (fB PassesOwn.never (aC i4 (pv 7) ai (aE _)) (ah (aA 10 bT.nd (aG (ib hu (pv 6) (pv 7) (λ_ _=>rfl)) ai))
   (ah (aA 11 bT.nd (aG (ib hu (pv 6) (pv 7) (λ_ _=>rfl)) ai))
   (ah (aA 9 bT.nd (aw c9 (pv 9) (am.c N (af (ck.c N (af (pv 1) (af (aG (a8 (pv 4) (pv 10)) ai) (af (a8 (pv 3) (pv 11)) aj)))) aj))))
   (ao (aA 7 bT.nd (aw c9 (aw c9 (pv 7) (aw b9 ai (pv 10))) (aw b9 ai (pv 11)))))))))
   (ao (aD (cj (af (pv 8) (af (pv 9) aj)))))))))))))),3]
 erw[2457,v,n,mk,ls,U,hV,ok,n1,hc,a2,ev,ac,λH1 s1=>?_];erw[9,(mk:G),82,λr H2 s2 cc bu=>?_]
 rw[Lv]at bu;let aS:=s1.Q s2;let cl:=tb_same bB aS;let bm:H2 r=Z (.lst ((bl mk).h iV)):=bu;let a7:((bl mk).h iV).L=(bl mk).L:=Lp ..;erw[9,r,U,#[_,SqL.of bm],cN (K:=K) (xs:=(bl mk).h iV) (λi zs H3=>SmT H2 H3/\Tb lqF lpF TT H3/\LsAt (FdAt n ls) H3 zs ((bl mk).j i)) (LN (av ∅)) #[λ_ _ _ e=>e,cl,LsAt.nil] (λi zs H3 _ z=>SqL.of (z.1.lst bm)) ?_ ?_ ?_]
 .rintro i x zs H3 J ⟨bP,bR,hZ⟩;rw[LA]at J;let k hk rfl:=LL.mp J;erw[U,yesT #[2457,v,n,k,ls,U,LnAt.smT (hV.mono aS) bP,ok,bi k (Ln hk),bR,λt ta va TL VL H4 b6 a5 _ _ ht aX a3 fi=>?_]];let b8:=TbS.smT b6 bR;erw[bP.Q b8,a5,3];rw[LK,hk];exact(hZ.imp λ_ _ q=>q.mono b8).snoc #[t,ta,va,TL,VL,U,ht,aX,a3,fi]
 .rintro zs H3 ⟨bP,bR,hZ⟩ fa ca;rw[a7,LP]at hZ;let z4:=ak ca (.lst zs);let bn:SmT H2 (upd H3 fa (.lst zs)):=bP.Q (.of z4);let a5:=tb_same bR z4;let bU:LsAt (FdAt n ls) (upd H3 fa (.lst zs)) zs (bl mk):=hZ.imp λ_ _ q=>q.mono (.of z4);let a4:(upd H3 fa (.lst zs)) fa=Z (.lst zs):=ag;generalize upd H3 fa (.lst zs)=H4 at bn a5 bU a4;let zl:=bU.1;let cb:=bn.lst bm;erw[9,fa,U,#[_,SqL.of a4],cN (K:=K) (xs:=zs) (λi ws H5=>Same H4 H5/\LsAt (RwA ls mk) H5 ws ((bl mk).j i)) (LN (av ∅)) #[λ_ _ e=>e,LsAt.nil] (λi ws H5 _ z=>SqL.of (z.1 _ _ a4)) ?_ ?_ ?_]
  .rintro i x ws H5 J ⟨s5,hW⟩;let s0 bJ t ta va TL VL rfl ht aX a3 fi:=bU.get J;let co:=bi s0 (Ln bJ);erw[t,9,SqT.of (s5 _ _ ht),173462,yesT #[153,ta,r,_,(bl mk).h λx=>V.int (farD ls s0 x),bl mk,U,s5 _ _ aX,s5 _ _ cb,Lp ..,4,λj k hk=>?_,λq H6 s6 dr hq=>?_]]
   .erw[.int (farD ls s0 k),3,by simp[*]]
    exact yi (fi.is hc co (bi k (Ln hk)))
   .erw[s5.Q s6,3];rw[LK,bJ];exact(hW.imp λ_ _ ⟨p,e,z⟩=>#[p,e,s6 _ _ z]).snoc #[q,U,hq]
  .rintro ws H5 ⟨s5,hW⟩ bv cM;rw[zl,LP]at hW;let z6:=ak cM (.lst ws);erw[U,λtb t0 H7 s7 cp bb b0=>?_];let bp:Same H4 H7:=s5.Q (z6.Q s7);let cO:LsAt (RwA ls mk) H7 ws (bl mk):=hW.imp λ_ _ ⟨p,e,z⟩=>#[p,e,s7 _ _ (z6 _ _ z)];let cq:H7 bv=Z (.lst ws):=s7 _ _ ag;let ap:∀ i,i<(bl mk).L->(bl mk)[i]?=Z ((bl mk).f i 0):=λi B=>by simp[*]
   let bt:BtAt H7 (.ref bv) (dR ls mk) (bl mk).L:=#[bv,ws,U,cq,λi B=>by
    let y hy p rfl hp:=cO.2 i _ (ap i B)
    erw[p,_,hy,hp,λk hk=>by rw[LA,ap k hk];rfl]]
   let ti:TI H7 (dR ls mk) (bl mk).L [(.inl ((0:R):G),.ref t0)]:=#[(λk w e=>by
    by_cases c:(Sum.inl ((0:R):G):Key)=k
    .rw[bz c]at e
     cases e
     erw[00,c.Y,Ng _,.inl #[U,t0,37,b0]]
    .rw[bA c]at e
     cases e),#[_,bz U],LF.mpr #[(by simp),Nt]]
   let cs:=bp _ _ cb;let ba:=tb_same a5 bp;let eL:(1:G)*2^((((bl mk).h iV).L:R):G).U-1=((2^(bl mk).L-1:R):G):=by
    rw[a7,shlN];let:=Ng (bl mk).L;lia
   erw[9,r,9,.inl (SqL.of cs),165,#[4,by grind,by decide],933]
   simp only[eL];let cP:(bl (2^(bl mk).L-1)).L=(bl mk).L:=by rw[(u9 _).length_eq,Na]
   erw[2457,.ref bv,tb,2^(bl mk).L-1,9,bt,bb,ti,by let:=Ng (bl mk).L;lia,ac,by grind,by rw[cP];exact ev,λw t ae H8 sT ce ch gr hv cv op=>?_]
   let ct:=LT.tbS sT bb;let va y z rfl a3:=id cv;erw[va,_,00,41,SqT.of a3,a30,3];let c7:Opt (farD ls) (bl mk) t:=Opt.rooms (bl_nd mk) op;let ds:Tb lqF lpF TT H8:=qk ba λb M=>by
    let hs:∃ o,H7 b=Z o/\b≠tb:=by
     obtain rfl|⟨c',M⟩:=M
     .obtain q|⟨_,q,_⟩:=ba
      .erw[_,q,λz=>by simp!]
      .erw[_,q,λz=>by simp!]
     .erw[_,M,λz=>by rw[z,bb]at M;cases M]
    let o Y L:=hs;rw[Y];exact sT _ _ L Y
   let cD:SmT H H8:=λb o no e=>by
    let e4:=bn b o no (aS _ _ e);let e7:=bp _ _ e4;refine sT _ _ (λz=>?_) e7;subst z;let:=fK (s5.Q z6) cp;simp!
   let dt:LsAt (FdAt n ls) H8 zs (bl mk):=bU.imp λ_ _ q=>(q.lt (LT.same bp)).lt ct;let da:=ct.1 _ _ (bp _ _ a4);let du:=ct.1 _ _ cs;let dv:LnAt H8 v ls:=(LnAt.smT hV cD);refine fY (PrI v n mk (bl mk).L ls.L ls r fa bv tb ae t H8) (λO _=>mPz O) #[2^(bl mk).L-1,00,21,t,U,λ_ _ e=>e,hv,cv,Ng _,by rw[jo,RM_all,NO],by rw[jJ];lia] ?_ ?_
   .rintro O H9 ⟨c,u,aI,ci,w,tc,rfl,s9,hw,cw,db,ou,cu⟩;let c' cE dc en:=ch.en _ _ hw;let dx:c'=c:=by
     let:(c:G)=(c':G):=by injection cE
     lia
    subst dx;erw[3689];by_cases c0:c'=0
    .subst c0;refine wx U ?_;let dG:tc=0:=by
      rcases en with⟨_,q⟩|⟨_,f,_,_,_,_,_,_,q,_⟩
      .exact cw.uniq q
      .rw[u6]at q;cases q
     erw[153,(by show 2<=QG;decide),λt9 cC=>?_]
     let z9:=ak cC (.tup [.int t,.int (u:G)]);refine kk t9 t u _ (cD.Q (.of (s9.Q z9))) (tb_same ds (s9.Q z9)) ag db ?_ c7 ∅
     rw[ou,Fl,OT]
    .refine ite2 (λ_=>?_) (λz=>R7 (by rw[QF (λy=>c0 (by let:=V.int.inj y;lia))];rfl) z)
     let tt f g a vr tr rfl ha hf hg fg dy dz dH _:∃(t:G)(f g:R)(a:e8)(vr:V)(tr:G),w=.ref a/\H8 a=Z (.tup [.int t,.int (f:G),.int (g:G)])/\f∈bl c'/\g∈bl c'/\f≠g/\valV ae (.inl ((cut2 c' f g:R):G))=Z vr/\ox H8 vr tr/\t=dR ls mk f g+tr/\Opt (dR ls mk) (bl c') t:=by
      rcases en with⟨q,_⟩|q
      .exact R7 q c0
      .exact q
     let dV:tc=tt:=cw.uniq #[a,37,ha];let flt:=pq dc hf;let cQ:=pq dc hg;let cT:=s9 _ _ ce;let dd:=s9 _ _ ha;let dg:DGet H9 tb (.int (c':G)) (Z (.ref a)):=by let:=DGet.k (k:=.inl ((c':R):G)) cT;rw[hw]at this;exact this
     erw[153,tb,9,dg,a,_,01,41,SqT.of dd,a31,3];erw[153,tb,9,dg,a,_,02,41,SqT.of dd,a32,3];let y hy tF dW dC TL VL rfl dE dF df fi:=dt.2 f _ (ap f flt);let gl:=bi _ (Ln (ap g cQ));let fl:=bi _ (Ln (ap f flt));let xg:=fi.is hc fl gl;let j up:=fi.up _ _ xg;let ks dh kl:=up.path;let sh:=up.short fi.vs;let vl:=fi.vl;let j1 j2 j3:=dh.join fi;let dX:=j3 _ xg;erw[39321,fa,661,SqL.of (s9 _ _ da),aB hy,tF,_,01,41,SqT.of (s9 _ _ dE),at1,153,r,661,SqL.of (s9 _ _ du),aB (show((bl mk).h iV)[g]?=Z (V.int (((bl mk).f g 0:R):G)) by rw[LA,ap g cQ];rfl),v,dC,(bl mk).f g 0,(bl mk).f f 0,ls,VL,ks,U,dv.mono s9,s9 _ _ df,fi.vs,dh,4,λq cW c6 hq=>?_]
     erw[q,ks.x,U,SqL.of hq,λk hk=>by let:=j1 k (List.mem_reverse.mp hk);lia,933]
     let ex:Q6 (u:G) ((ik ks.x:R):G)=((u^^^ik ks:R):G):=by rw[DH,xorN]
     simp only[ex];erw[42393,#[20,by decide],678309,#[20,by decide],933]
     let ec:Q6 (Q6 (c':G) (1*2^((f:R):G).U)) (1*2^((g:R):G).U)=((cut2 c' f g:R):G):=by rw[shlN,shlN,xorN,xorN];rfl
     simp only[ec];let cx:=nB ls (λl hl=>(ok.w0 l hl).1) u (ik ks) ls.L (Lq _);erw[#[cut2 c' f g,u^^^ik ks,Z (.int (f:G)),Z (.int (g:G)),vr,tr,U,s9.Q c6,dy,dz,MX db (GK j1),15],3]
     .rw[mU,ou,j2];unfold cut2;rw[Fm,Fm,Fn,Fn,R5 flt,R5 cQ,MC,MC]
     .let ed:dR ls mk f g=farD ls ((bl mk).f f 0) ((bl mk).f g 0):=rfl
      lia
     .show((cut2 c' f g:R):G).U<((c':R):G).U;let:=E1 hf hg fg;lia
   .rintro O H9 Q1 Q2 B ⟨v1,e1,e2,b,e3,q⟩;erw[v1,e1,e2,b,e3,B _ _ q]
  .rintro i ws H5 ⟨_,hW⟩;rw[hW.1,M9];lia
 .rintro i zs H3 ⟨_,_,hZ⟩;rw[hZ.1,M9];lia
def bsum(m:R):R->G
 |0=>0
 |i+1=>bsum m i+(if m.O i=kf then 1 else 0)
theorem zX(m:R):∀ i,bsum m i=((((Mg i).filter λj=>m.O j).L:R):G)
 |0=>rfl
 |i+1=>by
  unfold bsum;rw[zX m i,NM,Nw,Lx];by_cases c:m.O i=kf
  .simp[*]
  .rw[R6 c,Oo c];rfl
def Le(h:m<2^n):bsum m n=(((bl m).L:R):G):=by
 rw[zX];let p:((Mg n).filter λj=>m.O j).Perm (bl m):=(MF (List.nodup_range.filter _) (bl_nd m)).mpr λx=>by
  rw[Nv,Mz,mem_bl];erw[λz=>z.2,λz=>#[pq h (mem_bl.mpr z),z]]
 rw[p.length_eq]
def AJ(ok:Lok n ls)(T:Conn n ls){u:R}{cost:G}(t:Opt (farD ls) (bl mk) cost)(e:oddE ls u ls.L=mk):cost<=cstU ls u ls.L:=by
 let p:∀ l∈ls,0<=l.2.2:=λl d=>(ok.w0 l d).1;let _ c Y L:=low_join (far_met p T) u (λl d=>#[(ok.sm l d).1,(ok.sm l d).2,far_link p d]) ls.L (Lq _);rw[e]at Y;let:=t.2 c Y;lia
def Opt.turn{d:R->R->G}(M:Met n d)(z:∀ a,d a a=0){S:E R}(nd:S.l)(lt:∀ s∈S,s<n){x:R}(J:x<n){ad:R->G}(eg:∀ s∈S,Opt d (S.erase s) (ad s)){m:G}(D:∃ s∈S,m=d s x+ad s)(hl:∀ s∈S,m<=d s x+ad s):Opt d (tog S x) m:=by
 let f l O:=D;unfold tog;by_cases c:x∈S
 .rw[R5 c];let Y:=hl x c;rw[z x]at Y;let T B u:=(eg f l).1.two M (nd.erase _) (λy Q=>lt y (Pg Q)) (lt f l) J;let b:f∉S.erase f:=List.Nodup.not_mem_erase nd;let C:tog (S.erase f) f=f::S.erase f:=by unfold tog;rw[R6 b]
  let v:(tog (tog (S.erase f) f) x).Perm (S.erase x):=by
   rw[C];let:=pF (OG l).Y x;refine this.Q ?_;unfold tog;rw[R5 c]
  let L:=(eg x c).2 _ (B.perm v);let:m=ad x:=by lia
  rw[this];exact eg x c
 .rw[R6 c];let e:m=d x f+ad f:=by rw[O,M.sy x f]
  rw[e];refine Opt.step M.sy l (eg f l) λt I=>#[ad t,eg t I,3];let:=hl t I;rw[← e,M.sy x t];exact this
def Hd(hw:∀ l∈ls,0<=l.2.2)(a:R):farD ls a a=0:=by
 let Y:=(iM hw (Wk.nil (ls:=ls) a)).2 0 (.nil a);let L:0<=farD ls a a:=by
  unfold farD;split
  .lia
  .exact MD _
 lia
theorem Opt.map{d:R->R->G}{rho ix:R->R}{L:E R}{t:G}(hi:∀ i∈L,ix (rho i)=i)(h:Opt (λi j=>d (rho i) (rho j)) L t):Opt d (L.h rho) t :=
 #[Cs.h h.1,λc T=>h.2 c (Cs.back hi T)]
def Opt.but{d:R->R->G}(nd:l.l){k:R}(eK:k<l.L){t:G}(h:Opt (λi j=>d (l.f i 0) (l.f j 0)) (bl ((2^l.L-1)^^^2^k)) t):Opt d (l.erase (l.f k 0)) t:=by
 let em:(Mg l.L).h (λi=>l.f i 0)=l:=by
  refine Qa (by rw[Lp,Na]) λi Y L=>?_
  rw[List.getElem_map,List.getElem_range,LB,Ll L];rfl
 let ix:∀ i∈Mg l.L,l.idxOf (l.f i 0)=i:=λi B=>by
  simp!
 let v:(bl ((2^l.L-1)^^^2^k)).Perm ((Mg l.L).erase k):=by
  refine(nN _ _).Q ((pF (u9 _) k).Q ?_);unfold tog;rw[R5 (Mz.mpr eK)]
 let L:=(h.perm v).h (rho:=λi=>l.f i 0) (ix:=λx=>l.idxOf x) λi B=>ix i (Pg B);refine L.perm ?_;let z:=(OG (Mz.mpr eK)).h (λi=>l.f i 0);rw[em,LX]at z;let q:=z.erase (l.f k 0);rw[NJ]at q;exact q.Y
def Lb{k:R}(eK:k<m):(bl ((2^m-1)^^^2^k)).L=m-1:=by
 let v:(bl ((2^m-1)^^^2^k)).Perm ((Mg m).erase k):=by
  refine(nN _ _).Q ((pF (u9 _) k).Q ?_);unfold tog;simp[*]
 rw[v.length_eq,List.length_erase,R5 (Mz.mpr eK),Na]
def XL(l:E R):R:=l.foldr (λs m=>2^s^^^m) 0
theorem Jb:∀{l:E R},l.l->∀ x,(XL l).O x=decide (x∈l)
 |[],_,x=>by rw[show XL []=0 from rfl,Nh];simp
 |s::l,u,x=>by
  let Y L:=LF.mp u;show(2^s^^^XL l).O x=_;rw[My,LU,Jb L x];by_cases c:s=x
  .subst c;simp[Y]
  .let D:¬ x=s:=λz=>c z.Y
   simp[c,D]
theorem XL_bl(m:R):XL (bl m)=m:=Ml λx=>by
 rw[Jb (bl_nd m)]
 cases h:m.O x with
 |true=>exact Rl (mem_bl.mpr h)
 |false=>exact QF λz=>by rw[mem_bl.mp z]at h;cases h
def Fz(ok:Lok n ls)(T:Conn n ls)(nd:l.l)(lt:∀ s∈l,s<n){a:E G}(q:∀ k,k<l.L->Opt (λi j=>farD ls (l.f i 0) (l.f j 0)) (bl ((2^l.L-1)^^^2^k)) (a.f k 0)){x:R}(J:x<n){m:G}(Y:m∈(Mg l.L).h λk=>farD ls (l.f k 0) x+a.f k 0)(h2:∀ y∈(Mg l.L).h λk=>farD ls (l.f k 0) x+a.f k 0,m<=y):Opt (farD ls) (tog l x) m:=by
 let r:∀ l∈ls,0<=l.2.2:=λl d=>(ok.w0 l d).1;let I:∀ s∈l,l.idxOf s<l.L/\l.f (l.idxOf s) 0=s:=λs p=>by
  let h:=OO p;simp[*]
 let b:∀ k,k<l.L->l.f k 0∈l:=λk eK=>by
  simp[*]
 refine Opt.turn (far_met r T) (Hd r) nd lt J (ad:=λs=>a.f (l.idxOf s) 0) (λs p=>?_) ?_ (λs p=>?_)
 .let B u:=I s p;let:=Opt.but nd B (q _ B);rw[u]at this;exact this
 .let k eK e:=LW.mp Y;let c:=Mz.mp eK;erw[l.f k 0,b k c,3];simp!
 .let B u:=I s p;let:=h2 _ (LW.mpr #[l.idxOf s,Mz.mpr B,U]);rw[u]at this;exact this
structure TxtZ(mg:ff->io eN):Prop extends Txt mg where
 n_zip:mg "zip"=k7
def aQ(mk:R):R:=(bl mk).f 0 0
def tP(h:mk<2^n)(n1:1<=n):aQ mk<n:=by
 unfold aQ;rw[LB]
 cases e:(bl mk)[0]? with
 |none=>exact n1
 |some x=>exact pq h (Ln e)
def C5(h:mk<2^n)(n1:1<=n)(i:(bl mk).L%2=0)(I:(bl mk).L<=14):(mk^^^2^aQ mk)<2^n/\(bl (mk^^^2^aQ mk)).L<=14/\(bl (mk^^^2^aQ mk)).L%2=1/\1<=(bl (mk^^^2^aQ mk)).L:=by
 let d:=tP h n1;erw[MX h (Mv ∅ d),3]
 let e:=(nN mk (aQ mk)).length_eq;rw[e];unfold tog;by_cases c:aQ mk∈bl mk
 .rw[R5 c,List.length_erase,R5 c];grind
 .rw[R6 c,MG];let O:(bl mk).L=0:=by
   cases z:bl mk with
   |nil=>rfl
   |cons x r =>
    refine R7 ?_ c;unfold aQ;rw[z];exact Ly ..
  lia
def TdAt(n:R)(ls:E Lk)(H:Hp)(v:V)(s:R):Prop:=∃ d o a,v=.ref d/\H d=Z (.lst (o.h oV))/\FI n ls s MM o a [] (λ_ _=>False)
def TdAt.lt{s:R}(h:TdAt n ls H v s)(k:∀ b xs,H b=Z (.lst xs)->H' b=Z (.lst xs)):TdAt n ls H' v s:=by
 let d o a e Y L:=h;erw[d,o,a,e,k _ _ Y,L]
theorem HV{TT:e8}(h:Tb lqF lpF TT H)(a:H tb=Z (.dK kvs))(i:TbS tb H H'):Tb lqF lpF TT H':=qk h λb M=>by
 let p:∃ o,H b=Z o/\b≠tb:=by
  obtain rfl|⟨D,M⟩:=M
  .obtain q|⟨_,q,_⟩:=h
   .erw[_,q,λz=>by simp!]
   .erw[_,q,λz=>by simp!]
  .erw[_,M,λz=>by rw[z,a]at M;cases M]
 let o Y L:=p;rw[Y];exact i _ _ L Y
noncomputable def dO (ls:E Lk) (l:E R) (i j:R):G:=farD ls (l.f i 0) (l.f j 0)
def RwO(ls:E Lk)(l:E R)(H:Hp)(v:V)(s:R):Prop:=∃ p,v=V.ref p/\H p=Z (.lst (l.h λx=>V.int (farD ls s x)))
inductive Cw
 |mk (mk:R) (_:vs=[.int (mk:G)])(_:mk<1099511627776)(_:∀ H',mu H'->Q (.int ((aQ mk:R):G)) H')
inductive spHts(TT:e8)
 |mk (v:V)(n mk:R)(ls:E Lk) (_:vs=[.int (n:G),v,.int (mk:G)])(_:LnAt H v ls)(_:Lok n ls)(_:1<=n)(_:Conn n ls)(_:mk<2^n)(_:(bl mk).L%2=0)(_:(bl mk).L<=14)(_:Tb lqF lpF TT H)(_:∀(p:e8)(cs:E G) H',SmT H H'->Tb lqF lpF TT H'->H' p=Z (.lst (cs.h λc=>V.int (cs.f (aQ mk) 0-c)))->cs.L=n->(∀ x,x<n->Opt (farD ls) (bl (mk^^^2^aQ mk^^^2^x)) (cs.f x 0))->Q (.ref p) H')
def Be:az ["marks"] ["marks"] (aq mI):=by ac_nf
def ok_root(F:Fun K "root_of" "root_of" mI f fd)(d:lc 1 "bits" ["mask"] oA f1 eK):k9 2 f fd ["marks"] Cw:=by
 refine F.ok Be (by walk_at "l") λB A u s H M Q eg N h=>?_
 let mk rfl a y:=h;intro I o;erw[_,(ao (aD (j8 (aC i4 (pv 0) ai (aE _)) (a8 (d.c N (af (pv 0) aj)) ai) ai))),3];erw[3689];by_cases c0:mk=0
 .subst c0;refine wx U ?_;let e:aQ 0=0:=by unfold aQ;rw[u6];rfl
  let:=y H λ_ _ e=>e;rw[e]at this;exact this
 .refine ite2 (λ_=>?_) (λz=>R7 (by simp!) z)
  erw[9,(mk:G),82,λr l k _ b=>?_]
  rw[Lv]at b;let x J:∃ x,(bl mk)[0]?=Z x:=by
   cases z:(bl mk)[0]? with
   |some x=>exact#[x,U]
   |none =>
    let:bl mk=[]:=by simp!
    let L:=XL_bl mk;rw[this]at L;exact R7 L.Y c0
  let e:aQ mk=x:=by unfold aQ;rw[LB,J];rfl
  let i:atI ((bl mk).h iV) 0=Z (iV x):=aB (j:=0) (by simp[*])
  let:=y l k;rw[e]at this;erw[r,661,SqL.of b,i,this]
def bZ:az ["many","links","marks","root","others","found","between","table","everyone","rests","costs","room"] ["many","links","marks"] (aq mL):=by ac_nf
def ok_hts{TT f4 f5 f6 f8:e8}{bb bK ce cM cO cP:fk}(F:Fun K "heights" "heights" mL f fd)(T:TxtZ mg)(aI:lc 4 "refuse_marks" ["many","links","marks"] JB f1 eK)(al:lc 1 "bits" ["mask"] oA f2 bb)(be:lc 2 "fares" ["many","links","start"] (spFares TT) I bK)(aT:lc 1 "chosen_of" ["entries","numbers"] sU f4 ce)(aX:lc 1 "new_table" [] xC f5 cM)(GL:∀(D:R->R->G)(m:R),(∀ a b,D a b=D b a)->lc 10 "laid_in_pairs" ["between","chosen","table"] (spLaid D m 8) f6 cO)(a3:lc 2 "root_of" ["marks"] Cw f8 cP):k9 11 f fd ["many","links","marks"] (spHts TT):=by
 refine F.ok bZ (by walk_at "l") λaa A M s H vs Q eg N h=>?_
 let v n mk ls rfl hV ok n1 L a0 ev ab bu kk:=h;let hu:=uz N;let a5:=ok.n1;let dr:=ok.l9;let l el:∃ l,l=bl (mk^^^2^aQ mk):=#[9];let ob c7 o2 o1:=C5 a0 n1 ev ab;rw[← el]at c7 o2 o1;let nd:l.l:=by rw[el];exact bl_nd _
 let bg:∀ x∈l,x<n:=λx J=>by rw[el]at J;exact pq ob J
 let ae:=GL (dO ls l) l.L (λa b=>Ej _ _ _);let cF:(2:R)^40=1099511627776:=by decide
 let Y:2^n<=2^40:=Mw ∅ a5
 let bN:mk<1099511627776:=by lia
 let rn:=tP a0 n1
 intro Xc Dc;erw[_,(ah (aW (aI.c N (af (pv 0) (af (pv 1) (af (pv 2) aj)))))
   (ah (aA 3 bZ.nd (a3.c N (af (pv 2) aj)))
   (ah (aA 4 bZ.nd (al.c N (af (aw c9 (pv 2) (aw b9 ai (pv 3))) aj)))
   (ah (oU 5 [("many",0),("links",1)] ["room"] bZ.nd (aN (pv 4)) pg_c pt_c (λC ex s H=>(iZ K (be.c N (af (pv 1) (af (pv 2) (af (pv 0) aj)))) ai)))
   (ah (aA 6 bZ.nd (dj [("others",4)] ["told"] (aN (pv 5)) pg_c pt_c (λC ex s H=>(aT.c N (af (pv 0) (af (pv 1) aj))))))
   (ah (aA 7 bZ.nd (aX.d N))
   (ah (aA 8 bZ.nd (aw iW (aw b9 ai (ay ax (by rfl) T.n_len aZ (af (pv 4) aj))) ai))
   (ah (oU 9 [("table",7),("everyone",8),("between",6)] ["number"] bZ.nd (aO U T.n_range (af (ay ax (by rfl) T.n_len aZ (af (pv 4) aj)) aj)) pg_c pt_c (λC ex s H=>(iZ K (ae.c N (af (pv 3) (af (aw c9 (pv 2) (aw b9 ai (pv 0))) (af (pv 1) aj)))) ai)))
   (ah (aA 10 bZ.nd (dB aj))
   (ah (mj (aO U T.n_range (af (pv 0) aj)) (bW 11 bZ.nd) (ao (aW (eG LH Md Mc a9 (pv 10) (af (ay (E8 U) (by rfl) T.n_min wZ (af (dj [("room",11)] ["told","rest"] (Df U T.n_zip (af (pv 5) (af (pv 9) aj))) (λC ex s H=>(eZ (n:=2) (K:=K) U U (aH (bc (i:=0) (show(["told","rest","room"]:E ff).l from by decide) U (Or.inl U)) (aH (bc (i:=1) (show(["told","rest","room"]:E ff).l from by decide) U (Or.inl U)) b7)))) pt_c (λC ex s H=>(aw cA (vK K (pv 0) (pv 2)) (pv 1)))) aj)) aj)))))
   (ao (aD (dj [("root",3),("costs",10)] ["cost"] (aN (pv 10)) pg_c pt_c (λC ex s H=>(aw iW (vK K (pv 2) (pv 1)) (pv 0)))))))))))))))),3]
 erw[2457,v,n,mk,ls,U,hV,ok,n1,L,a0,ev,ab,λH1 s1=>?_];erw[9,mk,U,bN,λdC dt=>?_];let ex:Q6 (mk:G) (1*2^((aQ mk:R):G).U)=((mk^^^2^aQ mk:R):G):=by rw[shlN,xorN]
 erw[42393,#[20,by decide],933]
 simp only[ex];erw[((mk^^^2^aQ mk:R):G),82,λr u s2 cd bp=>?_]
 rw[Lv]at bp;let bi:u r=Z (.lst (l.h iV)):=by rw[el];exact bp
 let ap:=s1.Q (dt.Q s2);let co:=tb_same bu ap;let a6:(l.h iV).L=l.L:=Lp ..;erw[9,r,U,#[_,SqL.of bi],cN (K:=K) (xs:=l.h iV) (λi zs H3=>SmT u H3/\Tb lqF lpF TT H3/\LsAt (TdAt n ls) H3 zs (l.j i)) (LN (av ∅)) #[λ_ _ _ e=>e,co,LsAt.nil] (λi zs H3 _ z=>SqL.of (z.1.lst bi)) ?_ ?_ ?_]
 .rintro i x zs H3 J ⟨bP,bR,hZ⟩;rw[LA]at J;let k hk rfl:=LL.mp J;erw[U,yesT #[2457,v,n,k,ls,U,LnAt.smT (hV.mono ap) bP,ok,bg k (Ln hk),bR,λt ta va TL VL H4 b6 a4 _ _ ht aS a1 fi=>?_]];let b8:=TbS.smT b6 bR;erw[t,_,00,41,SqT.of ht,at0,bP.Q b8,a4,3];rw[LK,hk];exact(hZ.imp λ_ _ q=>q.lt λ_ _ e=>b8.lst e).snoc #[ta,TL,VL,U,aS,fi]
 .rintro zs H3 ⟨bP,bR,hZ⟩ fa cb;rw[a6,LP]at hZ;let z4:=ak cb (.lst zs);let bm:SmT u (upd H3 fa (.lst zs)):=bP.Q (.of z4);let a4:=tb_same bR z4;let bU:LsAt (TdAt n ls) (upd H3 fa (.lst zs)) zs l:=hZ.imp λ_ _ q=>q.lt λ_ _ e=>z4 _ _ e;let a2:(upd H3 fa (.lst zs)) fa=Z (.lst zs):=ag;generalize upd H3 fa (.lst zs)=H4 at bm a4 bU a2;let zl:=bU.1;let cc:=bm.lst bi;let am:∀ i,i<l.L->l[i]?=Z (l.f i 0):=λi B=>by rw[LB,Ll B];rfl
  erw[9,fa,U,#[_,SqL.of a2],bq (K:=K) (xs:=zs) (λi ws H5=>Same H4 H5/\LsAt (RwO ls l) H5 ws (l.j i)) (LN (av ∅)) #[λ_ _ e=>e,LsAt.nil] (λi ws H5 _ z=>SqL.of (z.1 _ _ a2)) ?_ ?_]
  .rintro i x ws H5 J ⟨s5,hW⟩;let s0 bB ta TL VL rfl aS fi:=bU.get J;let cp:=bg s0 (Ln bB);erw[153,ta,r,_,l.h λx=>V.int (farD ls s0 x),l,U,s5 _ _ aS,s5 _ _ cc,Lp ..,4,λj k hk=>?_,λq H6 s6 ds hq=>?_]
   .erw[.int (farD ls s0 k),3,by rw[LA,hk];rfl]
    exact yi (fi.is L cp (bg k (Ln hk)))
   .erw[s5.Q s6,3];rw[LK,bB];exact(hW.imp λ_ _ ⟨p,e,z⟩=>#[p,e,s6 _ _ z]).snoc #[q,U,hq]
  .rintro ws H5 _ ⟨s5,hW⟩ bv cQ;rw[zl,LP]at hW;let z6:=ak cQ (.lst ws);erw[U,λtb t0 H7 s7 cq ba b0=>?_];let bn:Same H4 H7:=s5.Q (z6.Q s7);let cT:LsAt (RwO ls l) H7 ws l:=hW.imp λ_ _ ⟨p,e,z⟩=>#[p,e,s7 _ _ (z6 _ _ z)];let ct:H7 bv=Z (.lst ws):=s7 _ _ ag
   let bt:BtAt H7 (.ref bv) (dO ls l) l.L:=#[bv,ws,U,ct,λi B=>by
    let y hy p rfl g:=cT.2 i _ (am i B)
    erw[p,_,hy,g,λk hk=>by rw[LA,am k hk];rfl]]
   let ti:TI H7 (dO ls l) l.L [(.inl ((0:R):G),.ref t0)]:=#[(λk w e=>by
    by_cases c:(Sum.inl ((0:R):G):Key)=k
    .rw[bz c]at e
     cases e
     erw[00,c.Y,Ng _,.inl #[U,t0,37,b0]]
    .rw[bA c]at e
     cases e),#[_,bz U],LF.mpr #[(by simp),Nt]]
   let cu:=bn _ _ cc;let a7:=tb_same a4 bn;let eL:(1:G)*2^(((l.h iV).L:R):G).U-1=((2^l.L-1:R):G):=by
    rw[a6,shlN];let:=Ng l.L;lia
   erw[9,r,9,.inl (SqL.of cu),165,#[4,by rw[a6];lia,by decide],933]
   simp only[eL];erw[9,r,9,.inl (SqL.of cu),329,l8 (k:=(l.h iV).L) (λi ys H9=>∃(an:E (Key×V))(js:E G),TbS tb H7 H9/\H9 tb=Z (.dK an)/\TI H9 (dO ls l) l.L an/\ys=js.h V.int/\js.L=i/\∀ k,k<i->Opt (dO ls l) (bl ((2^l.L-1)^^^2^k)) (js.f k 0)) (LN (av ∅)) #[_,[],λ_ _ _ e=>e,ba,ti,10,λk hk=>R7 hk (MR _)] ?_ ?_ ?_]
   .rintro i ys H9 B ⟨an,js,sT,cK,da,rfl,jl,hO⟩;rw[a6]at B;let e0:(0:G)+(i:G)=(i:G):=MP _;rw[e0];let du:Q6 ((2^l.L-1:R):G) (1*2^((i:R):G).U)=(((2^l.L-1)^^^2^i:R):G):=by rw[shlN,xorN]
    erw[U,yesT #[678297,#[20,by decide],933]]
    simp only[du];let db:=Lb B;let p2:=Ng l.L;erw[9,.ref bv,tb,(2^l.L-1)^^^2^i,an,U,bt.mono ba sT,cK,da,MX ∅ (Mv ∅ B),c7,by rw[db];lia,by rw[db];lia,λw t ac H8 dv ch ci gr hv cv op=>?_]
    let va y z rfl a1:=id cv;erw[va,_,00,41,SqT.of a1,a30,ac,js++[t],λb o n e=>dv b o n (sT b o n e),ch,ci,by rw[LC];rfl,by rw[Lx,jl];rfl,λk hk=>?_]
    by_cases c:k=i
    .subst c;rw[LB,Lr ∅,jl,Mf]
     exact op
    .let:=hO k ∅
     rw[LB]at this ⊢;rw[Ls ∅]
     exact this
   .rintro ys H9 ⟨an,js,sT,cK,da,rfl,jl,hO⟩ ra cW;rw[a6]at jl hO;let cL:=LT.tbS sT ba;let dx:=HV a7 ba sT;let zA:=ak cW (.lst (js.h V.int));let cw:upd H9 ra (.lst (js.h V.int)) ra=Z (.lst (js.h V.int)):=ag
    let cy:SmT H (upd H9 ra (.lst (js.h V.int))):=(show SmT H H9 from λb o no e=>by
     let e4:=bm b o no (ap _ _ e);refine sT _ _ (λz=>?_) (bn _ _ e4);subst z
     rw[fK (s5.Q z6) cq]at e4;cases e4).Q (.of zA)
    let dc:=tb_same dx zA;let cC:upd H9 ra (.lst (js.h V.int)) fa=Z (.lst zs):=zA _ _ (cL.1 _ _ (bn _ _ a2));let dd:LsAt (TdAt n ls) (upd H9 ra (.lst (js.h V.int))) zs l:=bU.imp λ_ _ q=>q.lt λ_ _ e=>zA _ _ (cL.1 _ _ (bn _ _ e));generalize upd H9 ra (.lst (js.h V.int))=HA at cw cy dc cC dd;erw[(by show 0<=QG;decide),λca df=>?_]
    let zB:=ak df (.lst []);erw[5273,bY (n:=n) (λi O H3=>∃(ck:io V)(cs:E G),O=[Z (.int (n:G)),Z v,Z (.int (mk:G)),Z (.int ((aQ mk:R):G)),Z (.ref r),Z (.ref fa),Z (.ref bv),Z (.ref tb),Z (.int ((2^l.L-1:R):G)),Z (.ref ra),Z (.ref ca),ck]/\Same HA H3/\H3 ca=Z (.lst (cs.h V.int))/\cs.L=i/\∀ x,x<i->Opt (farD ls) (tog l x) (cs.f x 0)) #[_,[],U,zB,ag,U,λx J=>R7 J (MR _)] ?_ ?_]
    .rintro i O H3 B ⟨ck,cs,rfl,s3,bJ,cl,c6⟩;let e0:(0:G)+(i:G)=(i:G):=MP _;rw[e0];erw[9,.inl #[6,SqL.of bJ],153,fa,ra,U,#[_,SqL.of (s3 _ _ cC)],#[_,SqL.of (s3 _ _ cw)],wW (K:=K) (xs:=zs) (zs:=js.h V.int) (λj ys H5=>Same H3 H5/\ys=((Mg j).h λk=>farD ls (l.f k 0) i+js.f k 0).h V.int) (LN (av ∅)) (by rw[Lp];lia) #[λ_ _ e=>e,U] (λj ys H5 _ z=>#[SqL.of (z.1 _ _ (s3 _ _ cC)),SqL.of (z.1 _ _ (s3 _ _ cw))]) ?_ ?_ ?_]
     .rintro j x z ys H5 T5 J hz ⟨cD,rfl⟩ dy;let s0 bB ta TL VL rfl aS fi:=dd.get J;let cp:=bg s0 (Ln bB);let dg:j<js.L:=by
       let:=(Lm.mp hz).1;rw[Lp]at this;exact this
      let ez:z=.int (js.f j 0):=by
       rw[LA,Ll dg]at hz
       cases hz
       rw[LB,Ll dg];rfl
      subst ez;let dz:s0=l.f j 0:=by rw[LB,bB];rfl
      let s6:=ak dy (.tup [.ref ta,.int (js.f j 0)]);erw[T5,9,SqT.of ag,173462,yesT #[153,ta,661,SqL.of (s6 _ _ (cD _ _ (s3 _ _ aS))),aB (yi (fi.is L cp B)),2649,cD.Q s6,3]];rw[NM,LC,LC,dz];rfl
     .rintro ys H5 ⟨cD,rfl⟩ q hq;let zq:=ak hq (.lst (((Mg zs.L).h λk=>farD ls (l.f k 0) i+js.f k 0).h V.int));erw[q,9,SqL.of ag,by rw[Lp,Na,zl];lia,λm dh cE=>?_]
      rw[zl]at dh cE;let om:=Fz ok L nd bg hO B dh cE;let dn:=zq _ _ (cD _ _ bJ);erw[ca,165,dn,av (by rw[Lp];lia),3]
      erw[_,cs++[m],U,aJ (s3.Q (cD.Q zq)) df _,by rw[ag,LC];rfl,by rw[Lx,cl];rfl,λx J=>?_]
      by_cases c:x=i
      .subst c;rw[LB,Lr ∅,cl,Mf]
       exact om
      .let:=c6 x ∅
       rw[LB]at this ⊢;rw[Ls ∅]
       exact this
     .rintro j ys H5 ⟨_,rfl⟩;rw[Lp,Lp,Na];exact Lq _
    .rintro O H3 ⟨ck,cs,rfl,s3,bJ,cl,c6⟩;let dp:∀ k,k<n->(cs.h V.int)[k]?=Z (.int (cs.f k 0)):=λk hk=>by rw[LA,LB,Ll ∅];rfl
     erw[9,ca,U,#[_,SqL.of bJ],cN (K:=K) (xs:=cs.h V.int) (λi zs H4=>H4=H3/\zs=(cs.j i).h λc=>V.int (cs.f (aQ mk) 0-c)) (LN (av (by rw[Lp];lia))) #[10] (λi zs H4 _ z=>by rw[z.1];exact SqL.of bJ) ?_ ?_ ?_]
     .rintro i x zs H4 J ⟨rfl,rfl⟩;rw[LA]at J;let k hk rfl:=LL.mp J;erw[U,yesT #[153,ca,661,SqL.of bJ,aB (dp _ rn),59993]];rw[LK,hk,LC];rfl
     .rintro zs H4 ⟨rfl,rfl⟩ p g;rw[Lp,LP];let zp:=ak g (.lst (cs.h λc=>V.int (cs.f (aQ mk) 0-c)));refine kk p cs _ (cy.Q (.of (s3.Q zp))) (tb_same dc (s3.Q zp)) ag cl λx J=>?_;refine(c6 x J).perm ?_;rw[el];exact(nN _ _).Y
     .rintro i zs H4 ⟨_,rfl⟩;grind
   .rintro i ys H9 ⟨an,js,_,_,_,rfl,jl,_⟩;rw[Lp,jl];exact Lq _
 .rintro i zs H3 ⟨_,_,hZ⟩;rw[hZ.1,M9];lia
end KF
namespace HM
def par(f:R->i0):R->i0
 |0=>kt
 |i+1=>par f i ^^ f i
def csw(w:R->R)(F:R->i0):R->R
 |0=>0
 |i+1=>csw w F i+cond (F i) (w i) 0
def tg(F P:R->i0):R->i0:=λi=>F i ^^ P i
def one(e:R):R->i0:=λi=>i == e
theorem ic(f g:R->i0):∀ n,par (λi=>f i ^^ g i) n=(par f n ^^ par g n)
 |0=>rfl
 |n+1=>by
  show(par (λi=>f i ^^ g i) n ^^ (f n ^^ g n))=((par f n ^^ f n) ^^ (par g n ^^ g n));rw[ic f g n]
  cases par f n<;>cases par g n<;>cases f n<;>cases g n<;>rfl
theorem par_congr{f g:R->i0}:∀{n:R},(∀ i,i<n->f i=g i)->par f n=par g n
 |0,_=>rfl
 |n+1,h=>by
  show(par f n ^^ f n)=(par g n ^^ g n);rw[par_congr λi B=>h i ∅,h n ∅]
theorem qF{f:R->i0}:∀{n:R},(∀ i,i<n->f i=kt)->par f n=kt
 |0,_=>rfl
 |n+1,h=>by
  show(par f n ^^ f n)=kt;rw[qF λi B=>h i ∅,h n ∅]
  rfl
def par_some{f:R->i0}(h:par f n=kf):∃ i,i<n/\f i=kf:=by
 by_cases c:∃ i,i<n/\f i=kf
 .exact c
 .rw[qF λi B=>by simp!]at h
  cases h
theorem lG{f:R->i0}{e:R}:∀{n:R},(∀ i,i<n->i≠e->f i=kt)->par f n=(decide (e<n)&&f e)
 |0,_=>by simp[par]
 |n+1,h=>by
  show(par f n ^^ f n)=_;rw[lG (e:=e) λi B=>h i ∅]
  by_cases c:n=e
  .subst c;simp
  .rw[h n ∅ c]
   let:decide (e<n+1)=decide (e<n):=decide_eq_decide.mpr ∅
   rw[this,MA]
def Iz(S:R->i0){c:R}(h:c<n):par (λv=>S v&&(c == v)) n=S c:=by
 rw[lG (e:=c) λi _ B=>by rw[show(c == i)=kt from beq_eq_false_iff_ne.mpr (Ne.Y B),Oe],Rl h]
 simp
theorem csw_congr{w v:R->R}{F eK:R->i0}:∀{n:R},(∀ i,i<n->cond (F i) (w i) 0=cond (eK i) (v i) 0)->csw w F n=csw v eK n
 |0,_=>rfl
 |n+1,h=>by
  show csw w F n+_=csw v eK n+_;rw[csw_congr λi B=>h i ∅,h n ∅]
theorem csw_le{w v:R->R}{F eK:R->i0}:∀{n:R},(∀ i,i<n->cond (F i) (w i) 0<=cond (eK i) (v i) 0)->csw w F n<=csw v eK n
 |0,_=>Lq _
 |n+1,h=>by
  let a:=csw_le (n:=n) λi B=>h i ∅
  let b:=h n ∅
  show csw w F n+_<=csw v eK n+_;lia
theorem csw_add(w v:R->R)(F:R->i0):∀ n,csw (λi=>w i+v i) F n=csw w F n+csw v F n
 |0=>rfl
 |n+1=>by
  show csw (λi=>w i+v i) F n+_=_;rw[csw_add w v F n];show _=(csw w F n+cond (F n) (w n) 0)+(csw v F n+cond (F n) (v n) 0);grind
theorem qf{w:R->R}{wz:R->i0}(h:∀ i,i<n->wz i=kf->w i=0):csw w (tg F wz) n=csw w F n:=csw_congr λi B=>by
 unfold tg
 cases z:wz i with
 |false=>rw[MA]
 |true=>rw[h i B z];cases F i<;>rfl
theorem r9{w:R->R}{F:R->i0}{e:R}:∀{n:R},e<n->F e=kt->csw w (tg F (one e)) n=csw w F n+w e
 |n+1,h,f=>by
  show csw w (tg F (one e)) n+cond (F n ^^ (n == e)) (w n) 0=csw w F n+cond (F n) (w n) 0+w e;by_cases c:n=e
  .subst c;rw[f,csw_congr (eK:=F) (v:=w) λi B=>by show cond (F i ^^ (i == n)) _ _=_;rw[show(i == n)=kt from beq_eq_false_iff_ne.mpr ∅,MA]]
   simp
  .rw[r9 (n:=n) ∅ f,show(n == e)=kt from beq_eq_false_iff_ne.mpr c,MA]
   lia
theorem tg_tg(F P:R->i0):tg (tg F P) P=F:=funext λi=>by unfold tg;simp
def iO{w:R->R}{e:R}(h:e<n)(f:F e=kf):csw w (tg F (one e)) n+w e=csw w F n:=by
 let:=r9 (w:=w) (F:=tg F (one e)) h (by unfold tg one;simp!)
 rw[tg_tg]at this;exact this.Y
theorem zP{w:R->R}{J K P:R->i0}:∀{n:R},(∀ i,i<n->P i=kf->(J i ^^ K i)=kf)->csw w (tg J P) n+csw w (tg K P) n=csw w J n+csw w K n
 |0,_=>rfl
 |n+1,h=>by
  let O:=zP (w:=w) (J:=J) (K:=K) (P:=P) (n:=n) λi B=>h i ∅
  let N:=h n ∅
  show csw w (tg J P) n+cond (J n ^^ P n) (w n) 0+(csw w (tg K P) n+cond (K n ^^ P n) (w n) 0)=csw w J n+cond (J n) (w n) 0+(csw w K n+cond (K n) (w n) 0);lia
theorem csw_pos{w:R->R}{F:R->i0}{e:R}:∀{n:R},e<n->F e=kf->w e<=csw w F n
 |n+1,h,f=>by
  show w e<=csw w F n+cond (F n) (w n) 0;by_cases c:n=e
  .simp!
  .let:=csw_pos (w:=w) (F:=F) (n:=n) ∅ f
   lia
theorem K9{w:R->R}:∀{n:R},csw w F n=0->∀ i,i<n->F i=kf->w i=0:=λ{n} h i B f=>by
 let:=csw_pos (w:=w) B f;lia
section
variable{N n:R}{a b:R->R}
def bd(N:R)(a b:R->R)(F:R->i0)(v:R):i0:=par (λi=>F i&&((a i == v) ^^ (b i == v))) N
def eM(F P:R->i0)(v:R):bd N a b (tg F P) v=(bd N a b F v ^^ bd N a b P v):=by
 unfold bd;rw[← ic];refine par_congr λi _=>?_;unfold tg
 cases F i<;>cases P i<;>simp
def jQ{e:R}(h:e<N)(v:R):bd N a b (one e) v=((a e == v) ^^ (b e == v)):=by
 unfold bd;rw[lG (e:=e) λi _ B=>by unfold one;simp!,Rl h]
 unfold one;simp
theorem Lf(v:R):bd N a b (λ_=>kt) v=kt:=qF λi _=>rfl
theorem cut(S F:R->i0):∀{N:R},(∀ i,i<N->a i<n/\b i<n)->par (λi=>F i&&(S (a i) ^^ S (b i))) N=par (λv=>S v&&bd N a b F v) n
 |0,_=>(qF λi _=>by show(S i&&kt)=kt;simp!).Y
 |N+1,h=>by
  show(par (λi=>F i&&(S (a i) ^^ S (b i))) N ^^ (F N&&(S (a N) ^^ S (b N))))=_;rw[cut S F λi B=>h i ∅]
  let e:par (λv=>S v&&(F N&&((a N == v) ^^ (b N == v)))) n=(F N&&(S (a N) ^^ S (b N))):=by
   cases F N with
   |false=>exact qF λ_ _=>by simp
   |true =>
    let Y L:=h N ∅
    rw[Mq,← Iz S Y,← Iz S L,← ic];refine par_congr λi _=>?_
    cases S i<;>simp
  rw[← e,← ic];refine par_congr λv _=>?_;show _=(S v&&(bd N a b F v ^^ (F N&&((a N == v) ^^ (b N == v)))))
  cases S v<;>simp
def exits(D:R->i0):∀(c:R)(F:R->i0)(r:R),csw (λ_=>1) F N<=c->D r=kt->(∀ v,D v=kt->bd N a b F v=(r == v)) ->
  ∃(e:R)(P:R->i0)(y x:R),e<N/\F e=kf/\P e=kt/\(∀ i,P i=kf->i<N/\F i=kf/\D (a i)=kt/\D (b i)=kt)/\D y=kt/\D x=kf/\(∀ v,((a e == v) ^^ (b e == v))=((y == v) ^^ (x == v)))/\(a e=y∨b e=y)/\(D (a e) ^^ D (b e))=kf/\∀ v,bd N a b P v=((r == v) ^^ (y == v)):=by
 intro c;induction c with
 |zero =>
  intro F r T I M;let h:=M r I;rw[beq_self_eq_true]at h;let i B Y:=par_some h;rw[OE]at Y;exact R7 (K9 (w:=λ_=>1) (Nat.le_zero.mp T) i B Y.1) ∅
 |succ c O =>
  intro F r T I M;let h:=M r I;rw[beq_self_eq_true]at h;let i B Y:=par_some h;rw[OE]at Y;let f L:=Y;let z o d hd:∃ z,z≠r/\(∀ v,((a i == v) ^^ (b i == v))=((r == v) ^^ (z == v)))/\((a i=r/\b i=z)∨(a i=z/\b i=r)):=by
   by_cases c1:a i=r
   .erw[b i,λz=>?_,λv=>by rw[c1],.inl #[c1,U]]
    simp!
   .let c2:b i=r:=by grind
    erw[a i,c1,λv=>by rw[c2,Oc],.inr #[U,c2]]
  cases Q:D z with
  |true =>
   erw[i,λ_=>kt,r,z,B,f,U,(λ_ J=>Qd J),I,Q,d,hd.elim (λh=>.inl h.1) (λh=>.inr h.2),3,λv=>by rw[Lf,OI]]
   rcases hd with⟨C,eg⟩|⟨C,eg⟩<;>rw[C,eg,I,Q]<;>rfl
  |false =>
   let cF:=iO (w:=λ_=>1) B f;let e P y x Y L A s k l eK t n m:=O (tg F (one i)) z ∅ Q λv H=>by
    rw[eM,jQ B,d,M v H,← OY,OI,Pt]
   let ne:e≠i:=λz=>by rw[z]at L;unfold tg one at L;simp!
   let Pi:P i=kt:=by
    cases p:P i with
    |false=>rfl
    |true=>have:=(s i p).2.1;unfold tg one at this;rw[f]at this;simp at this
   erw[e,tg P (one i),y,x,Y,15,λj J=>?_,k,l,eK,t,n,λv=>?_]
   .unfold tg one at L;rw[show(e == i)=kt from beq_eq_false_iff_ne.mpr ne,MA]at L;exact L
   .unfold tg one;rw[show(e == i)=kt from beq_eq_false_iff_ne.mpr ne,MA];exact A
   .by_cases c1:j=i
    .subst c1;erw[B,f,3];rcases hd with⟨C,eg⟩|⟨C,eg⟩<;>rw[C,eg]<;>erw[by assumption,by assumption]
    .unfold tg one at J;rw[show(j == i)=kt from beq_eq_false_iff_ne.mpr c1,MA]at J;let g u q:=s j J;unfold tg one at u;rw[show(j == i)=kt from beq_eq_false_iff_ne.mpr c1,MA]at u;erw[g,u,q]
   .rw[eM,jQ B,d,m]
    cases (r == v)<;>cases (z == v)<;>cases (y == v)<;>rfl
end
section
variable{N n:R}{a b:R->R}{O D:R->i0}{l m:R->R}{M0:R}
structure Cfg(N n:R)(a b:R->R)(O:R->i0)(l m:R->R):Prop where
 ends:∀ i,i<N->a i<n/\b i<n
 mn:∀ v,v<n->∃ F,(∀ x,bd N a b F x=(O x ^^ (v == x)))/\csw l F N=m v
 lo:∀ v F,v<n->(∀ x,bd N a b F x=(O x ^^ (v == x)))->m v<=csw l F N
 pr:∀ i,i<N->(l i+m (a i)+m (b i))%2=0
structure Top(N n:R)(a b:R->R)(l m:R->R)(D:R->i0)(M0:R):Prop where
 ne:∃ x,D x=kf
 lt:∀ x,D x=kf->x<n
 tp:∀ x,D x=kf->m x=M0
 low:∀ v,v<n->M0<=m v
 cr:∀ i,i<N->(D (a i) ^^ D (b i))=kf->1<=l i
 zc:∀ x y,D x=kf->D y=kf->∃ wz:R->i0,(∀ i,wz i=kf->i<N/\D (a i)=kf/\D (b i)=kf/\l i=0)/\∀ v,bd N a b wz v=((x == v) ^^ (y == v))
def sM(h:(D (a i) ^^ D (b i))=kf):∃ y x,D y=kt/\D x=kf/\(∀ v,((a i == v) ^^ (b i == v))=((y == v) ^^ (x == v)))/\(a i=y∨b i=y):=by
 cases Y:D (a i) with
 |true =>
  let L:D (b i)=kt:=by rw[Y]at h;simpa using h
  erw[b i,a i,L,Y,λv=>Oc ..,.inr U]
 |false =>
  let L:D (b i)=kf:=by rw[Y]at h;simpa using h
  erw[a i,b i,Y,L,λv=>rfl,.inl U]
def x3(o p q:i0):((o ^^ p) ^^ (p ^^ q))=(o ^^ q):=by simp
def Cfg.out(C:Cfg N n a b O l m){y:R}(hi:i<N)(h:a i=y∨b i=y):y<n:=by
 let Y L:=C.ends i hi;lia
def Cfg.uniq(C:Cfg N n a b O l m)(T:Top N n a b l m D M0){v:R}(hv:v<n)(M:∀ x,bd N a b J x=(O x ^^ (v == x)))(eg:csw l J N=m v):
  (D v=kt->∃ e,e<N/\J e=kf/\(D (a e) ^^ D (b e))=kf)/\(D v=kf->∀ f,f<N->J f=kf->(D (a f) ^^ D (b f))=kf->False) /\
  ∀ f g,f<N->g<N->J f=kf->J g=kf->(D (a f) ^^ D (b f))=kf->(D (a g) ^^ D (b g))=kf->f=g:=by
 let al:D v=kf->∀ f,f<N->J f=kf->(D (a f) ^^ D (b f))=kf->False:=λdv f H jf xf=>by
  let y x dy o d Q:=sM xf;let wz s u:=T.zc v x dv o;let c1:=iO (w:=l) H jf;let c2:=qf (w:=l) (F:=tg J (one f)) (wz:=wz) (n:=N) λi _ B=>(s i B).2.2.2;let yn:=C.out H Q;let:=C.lo y (tg (tg J (one f)) wz) yn λw=>by
   rw[eM,eM,jQ H,d,M,u]
   cases (O w)<;>cases (v == w)<;>cases (y == w)<;>cases (x == w)<;>rfl
  let I:=T.tp v dv;let r:=T.low y yn;let q:=T.cr f H xf;lia
 cases dv:D v with
 |true =>
  erw[λz=>(by cases z),λ_=>al dv,λf g H _ jf _ xf _=>(al dv f H jf xf).elim]
 |false =>
  let t dt:=T.ne;let K kb kc:=C.mn t (T.lt t dt);rw[T.tp t dt]at kc;let e P y x Y L A eK h5 h6 h7 h8 h9 ae:=exits (N:=N) (a:=a) (b:=b) D _ (tg J K) v (Lq _) dv λw k=>by
   rw[eM,M,kb,show(t == w)=kt from beq_eq_false_iff_ne.mpr λz=>by simp!]
   cases (O w)<;>cases (v == w)<;>rfl
  let yn:=C.out Y h8;let sub:∀ i,i<N->tg P (one e) i=kf->(J i ^^ K i)=kf:=λi _ B=>by
   by_cases c:i=e
   .rw[c];exact L
   .unfold tg one at B;rw[show(i == e)=kt from beq_eq_false_iff_ne.mpr c,MA]at B;exact(eK i B).2.1
  let j:=zP (w:=l) sub;let wz s u:=T.zc t x dt h6;let bP:∀ w,bd N a b (tg P (one e)) w=((v == w) ^^ (x == w)):=λw=>by
   rw[eM,jQ Y,h7,ae];simp!
  let l1:=C.lo x (tg J (tg P (one e))) (T.lt x h6) λw=>by rw[eM,M,bP,x3]
  rw[T.tp x h6]at l1;let c2:=qf (w:=l) (F:=tg K (tg P (one e))) (wz:=wz) (n:=N) λi _ B=>(s i B).2.2.2;let l2:=C.lo v (tg (tg K (tg P (one e))) wz) hv λw=>by
   rw[eM,eM,kb,bP,u]
   cases (O w)<;>cases (v == w)<;>cases (t == w)<;>cases (x == w)<;>rfl
  let le:=T.cr e Y h9;let low:=T.low y yn;let Je:J e=kf:=by
   cases je:J e with
   |true=>rfl
   |false =>
    let q:csw l (tg J (tg P (one e))) N=csw l (tg (tg J P) (one e)) N:=csw_congr λi _=>by unfold tg;rw[OY]
    let c3:=r9 (w:=l) (F:=tg J P) Y (by unfold tg;rw[je,A];rfl)
    let l3:=C.lo y (tg J P) yn λw=>by rw[eM,M,ae,x3]
    lia
  let ue:∀ f,f<N->J f=kf->(D (a f) ^^ D (b f))=kf->f=e:=λf H jf xf=>by
   by_cases c:f=e
   .exact c
   exfalso;let y' x' aI ab aa ac:=sM xf;let Pf:P f=kt:=by
    cases p:P f with
    |false=>rfl
    |true=>simp!
   let Z' an ap:=T.zc x x' h6 ab;let c3:=iO (w:=l) (F:=tg J (tg P (one e))) H (by unfold tg one;simp!)
   let c4:=qf (w:=l) (F:=tg (tg J (tg P (one e))) (one f)) (wz:=Z') (n:=N) λi _ B=>(an i B).2.2.2;let am:=C.out H ac;let l3:=C.lo y' (tg (tg (tg J (tg P (one e))) (one f)) Z') am λw=>by
    rw[eM,eM,eM,M,bP,jQ H,aa,ap]
    cases (O w)<;>cases (v == w)<;>cases (y' == w)<;>cases (x == w)<;>cases (x' == w)<;>rfl
   let:=T.low y' am;let:=T.cr f H xf;lia
  erw[λ_=>#[e,Y,Je,h9],λz=>(by cases z),λf g H h jf jg xf xg=>(ue f H jf xf).Q (ue g h jg xg).Y]
def Cfg.ring(C:Cfg N n a b O l m){ad:R->i0}(h:∀ x,bd N a b ad x=kt):csw l ad N%2=0:=by
 let e:∀ k,k<=N->csw l ad k%2=cond (par (λi=>ad i&&((m (a i)%2 == 1) ^^ (m (b i)%2 == 1))) k) 1 0:=by
  intro k;induction k with
  |zero=>intro _;rfl
  |succ k A =>
   intro eK;let H:=A ∅
   let p:=C.pr k ∅
   show(csw l ad k+cond (ad k) (l k) 0)%2=cond (par (λi=>ad i&&((m (a i)%2 == 1) ^^ (m (b i)%2 == 1))) k ^^ (ad k&&((m (a k)%2 == 1) ^^ (m (b k)%2 == 1)))) 1 0;let d1:m (a k)%2=0∨m (a k)%2=1:=by lia
   let t:m (b k)%2=0∨m (b k)%2=1:=by lia
   cases ad k<;>cases g:par (λi=>ad i&&((m (a i)%2 == 1) ^^ (m (b i)%2 == 1))) k<;>rw[g]at H<;>obtain d1|d1:=d1<;>obtain t|t:=t<;>rw[d1,t]<;>simp at H ⊢<;>lia
 rw[e N (Lq _),cut (λv=>m v%2 == 1) ad C.ends,qF λv _=>by rw[h v,Oe]]
 rfl
theorem E2{l:R->R}{F eK:R->i0}:∀ n,(csw l (tg F eK) n+csw l F n+csw l eK n)%2=0
 |0=>rfl
 |n+1=>by
  let:=E2 (l:=l) (F:=F) (eK:=eK) n;show(csw l (tg F eK) n+cond (F n ^^ eK n) (l n) 0+(csw l F n+cond (F n) (l n) 0)+(csw l eK n+cond (eK n) (l n) 0))%2=0
  cases F n<;>cases eK n<;>simp<;>lia
def chi(D:R->i0)(a b:R->R)(i:R):R:=cond (D (a i) ^^ D (b i)) 1 0
def rho(D J:R->i0)(a b:R->R)(i:R):R:=cond (D (a i) ^^ D (b i)) (cond (J i) 0 1) 0
def Cfg.low2(C:Cfg N n a b O l m)(T:Top N n a b l m D M0){v:R}(hv:v<n)(M:∀ x,bd N a b J x=(O x ^^ (v == x)))(d:csw l J N=m v):
  ∀(q:R)(K:R->i0),csw (rho D J a b) K N<=q->(∀ x,bd N a b K x=(O x ^^ (v == x)))->m v+csw (chi D a b) K N<=csw l K N+csw (chi D a b) J N:=by
 intro q;induction q using Pc with
 |ind q A =>
 intro K y kb;let kl:=C.lo v K hv kb;by_cases c:∃ f,f<N/\K f=kf/\(D (a f) ^^ D (b f))=kf/\J f=kt
 .let Q ac k1 ae j1:=c;let y1 k aI aS ab aT:=sM ae;let I P e g Y L o eg h5 h6 h7 h8 h9 aa:=exits (N:=N) (a:=a) (b:=b) D _ (tg (tg K J) (one Q)) y1 (Lq _) aI λw r=>by
   rw[eM,eM,jQ ac,ab,kb,M,show(k == w)=kt from beq_eq_false_iff_ne.mpr λz=>by simp!]
   simp!
  let al:I≠Q:=λz=>by rw[z]at L;unfold tg one at L;simp!
  let F2:(K I ^^ J I)=kf:=by
   unfold tg one at L;rw[show(I == Q)=kt from beq_eq_false_iff_ne.mpr al,MA]at L;exact L
  let P1:P Q=kt:=by
   cases p:P Q with
   |false=>rfl
   |true=>simp!
  let wz s u:=T.zc k g aS h6;let Z1:∀ f,(D (a f) ^^ D (b f))=kf->wz f=kt:=λf xf=>by
   cases p:wz f with
   |false=>rfl
   |true=>simp!
  let ad hR:∃ ad,ad=tg (tg P (one Q)) (one I):=#[9];let ap:∀ i,i<N->ad i=kf->(J i ^^ K i)=kf:=λi _ B=>by
   rw[Oc];by_cases c1:i=Q
   .simp!
   by_cases c2:i=I
   .rw[c2];exact F2
   rw[hR]at B;unfold tg one at B;rw[show(i == Q)=kt from beq_eq_false_iff_ne.mpr c1,show(i == I)=kt from beq_eq_false_iff_ne.mpr c2,MA,MA]at B;let:=(eg i B).2.1;unfold tg one at this;rw[show(i == Q)=kt from beq_eq_false_iff_ne.mpr c1,MA]at this;exact this
  let sm:=zP (w:=l) ap;let zl:∀{F:R->i0},csw l (tg F wz) N=csw l F N:=qf λi _ B=>(s i B).2.2.2;let bR:∀ w,bd N a b ad w=((k == w) ^^ (g == w)):=λw=>by
   rw[hR,eM,eM,jQ ac,jQ Y,ab,h7,aa]
   cases (y1 == w)<;>cases (e == w)<;>cases (k == w)<;>cases (g == w)<;>rfl
  let bJ:∀ w,bd N a b (tg (tg J ad) wz) w=(O w ^^ (v == w)):=λw=>by
   rw[eM,eM,M,bR,u];simp!
  let bK:∀ w,bd N a b (tg (tg K ad) wz) w=(O w ^^ (v == w)):=λw=>by
   rw[eM,eM,kb,bR,u];simp!
  let lJ:=C.lo v _ hv bJ;rw[zl]at lJ;let am:∀{w:R->R}{F:R->i0},(∀ i,(D (a i) ^^ D (b i))=kt->w i=0)->csw w (tg (tg F ad) wz) N=csw w (tg (tg F (one Q)) (one I)) N:=λ{w F} j=>csw_congr λi B=>by
   cases xi:(D (a i) ^^ D (b i)) with
   |false=>rw[j i xi];simp!
   |true =>
    let Pi:P i=kt:=by
     cases p:P i with
     |false=>rfl
     |true=>simp!
    let:tg (tg F ad) wz i=tg (tg F (one Q)) (one I) i:=by
     rw[hR];unfold tg;rw[Z1 i xi,Pi];simp
    rw[this]
  let x0:∀ i,(D (a i) ^^ D (b i))=kt->chi D a b i=0:=λi h=>by unfold chi;rw[h];rfl
  let q0:∀ i,(D (a i) ^^ D (b i))=kt->rho D J a b i=0:=λi h=>by unfold rho;rw[h];rfl
  let xa:chi D a b Q=1:=by unfold chi;rw[ae];rfl
  let xb:chi D a b I=1:=by unfold chi;rw[h9];rfl
  let an:tg K (one Q) I=K I:=by unfold tg one;rw[show(I == Q)=kt from beq_eq_false_iff_ne.mpr al,MA]
  let o1:=iO (w:=chi D a b) ac k1;let o2:=iO (w:=rho D J a b) ac k1;let w1:rho D J a b Q=1:=by unfold rho;rw[ae,j1];rfl
  rw[w1]at o2;rw[xa]at o1;let cK:=am (F:=K) x0;let cQ:=am (F:=K) q0;let zK:=zl (F:=tg K ad)
  cases j2:J I with
  |true =>
   let H:K I=kt:=by rw[j2]at F2;simpa using F2
   let p1:=r9 (w:=chi D a b) (F:=tg K (one Q)) Y (by rw[an];exact H)
   let t:=r9 (w:=rho D J a b) (F:=tg K (one Q)) Y (by rw[an];exact H)
   let w2:rho D J a b I=0:=by unfold rho;rw[j2];simp!
   grind
  |false =>
   let H:K I=kf:=by rw[j2]at F2;simpa using F2
   let p1:=iO (w:=chi D a b) (F:=tg K (one Q)) Y (by rw[an];exact H)
   let t:=iO (w:=rho D J a b) (F:=tg K (one Q)) Y (by rw[an];exact H)
   let J1:tg (tg J ad) wz Q=kf:=by
    rw[hR];unfold tg one;rw[Z1 Q ae,j1,P1,show(Q == I)=kt from beq_eq_false_iff_ne.mpr (Ne.Y al)];simp
   let J2:tg (tg J ad) wz I=kf:=by
    rw[hR];unfold tg one;rw[Z1 I h9,j2,o,show(I == Q)=kt from beq_eq_false_iff_ne.mpr al];simp
   let aX:csw l (tg J ad) N≠m v:=λz=>al ((C.uniq T hv bJ (by rw[zl];exact z)).2.2 I Q Y ac J2 J1 h9 ae)
   let rg:=C.ring (ad:=tg ad wz) λw=>by rw[eM,bR,u,OI]
   rw[zl]at rg;let pa:=E2 (l:=l) (F:=J) (eK:=ad) N;grind
 .let:csw (chi D a b) K N<=csw (chi D a b) J N:=csw_le λi B=>by
   cases ki:K i with
   |false=>exact Mh _
   |true =>
    cases xi:(D (a i) ^^ D (b i)) with
    |false=>unfold chi;rw[xi];cases J i<;>exact Lq _
    |true =>
     cases ji:J i with
     |true=>exact Lq _
     |false=>exact R7 #[i,B,ki,xi,ji] c
  lia
theorem qg{w:R->R}{F:R->i0}:∀{n:R},(∀ i,i<n->F i=kf->w i=0)->csw w F n=0
 |0,_=>rfl
 |n+1,h=>by
  show csw w F n+cond (F n) (w n) 0=0;rw[qg λi B=>h i ∅]
  cases f:F n with
  |false=>rfl
  |true=>rw[Oz];exact h n ∅ f
def Cfg.one_out(C:Cfg N n a b O l m)(T:Top N n a b l m D M0){v:R}(hv:v<n)(M:∀ x,bd N a b J x=(O x ^^ (v == x)))(d:csw l J N=m v):csw (chi D a b) J N=cond (D v) 0 1:=by
 let Y L f:=C.uniq T hv M d;let p:∀{i:R},¬ (D (a i) ^^ D (b i))=kf->chi D a b i=0:=λ{i} h=>by unfold chi;rw[i0.not_eq_true _ |>.mp h];rfl
 cases j:D v with
 |true=>exact qg λi B g=>p (L j i B g)
 |false =>
  let e eK k q:=Y j;let o:=iO (w:=chi D a b) eK k;let z:csw (chi D a b) (tg J (one e)) N=0:=qg λi B g=>p λA=>by
   by_cases c:i=e
   .rw[c]at g;unfold tg one at g;simp!
   .unfold tg one at g;rw[show(i == e)=kt from beq_eq_false_iff_ne.mpr c,MA]at g;exact c (f i e B eK g k A q)
  let r:chi D a b e=1:=by unfold chi;rw[q];rfl
  rw[z,r]at o;exact o.Y
def Cfg.odd(C:Cfg N n a b O l m)(T:Top N n a b l m D M0){v:R}(hv:v<n)(j:D v=kt):par (λx=>D x&&(O x ^^ (v == x))) n=kf:=by
 let J M d:=C.mn v hv;let Y _ f:=C.uniq T hv M d;let e eK k q:=Y j;let c:=cut (n:=n) D J C.ends;let c2:par (λx=>D x&&bd N a b J x) n=par (λx=>D x&&(O x ^^ (v == x))) n:=par_congr λx _=>by rw[M]
 rw[← c2,← c,lG (e:=e) λi B ne=>?_,Rl eK,k,q]
 .rfl
 .cases g:J i with
  |false=>rfl
  |true =>
   cases A:(D (a i) ^^ D (b i)) with
   |false=>rfl
   |true=>exact R7 (f i e B eK g k A q) ne
def Cfg.step(C:Cfg N n a b O l m)(T:Top N n a b l m D M0):Cfg N n a b O (λi=>l i-chi D a b i) (λv=>m v-cond (D v) 0 1)/\∀ v,v<n->D v=kt->1<=m v:=by
 let w:∀ i,i<N->chi D a b i<=l i:=λi B=>by
  unfold chi
  cases x:(D (a i) ^^ D (b i)) with
  |false=>exact Mh _
  |true=>exact T.cr i B x
 let f:∀ F,csw l F N=csw (λi=>l i-chi D a b i) F N+csw (chi D a b) F N:=λF=>by
  rw[← csw_add];exact csw_congr λi B=>by rw[Nat.sub_add_cancel (w i B)]
 let eK:∀ v,v<n->D v=kt->1<=m v:=λv H j=>by
  let J M d:=C.mn v H;let:=C.one_out T H M d;grind
 erw[#[C.ends,λv H=>?_,λv F H q=>?_,λi B=>?_],eK]
 .let J M d:=C.mn v H;erw[J,M,3];let:=C.one_out T H M d;let s:=f J;rw[this,d]at s;lia
 .let J M d:=C.mn v H;let o:=C.one_out T H M d;let:=C.low2 T H M d _ F (Lq _) q;let s:=f F;grind
 .let p:=C.pr i B
  let e:=w i B;let g A:=C.ends i B;let c:=eK (a i) g;let r:=eK (b i) A;show(l i-chi D a b i+(m (a i)-cond (D (a i)) 0 1)+(m (b i)-cond (D (b i)) 0 1))%2=0;unfold chi at e ⊢
  cases k:D (a i)<;>cases t:D (b i)<;>rw[k,t]at e<;>simp at e ⊢<;>(try have:=c k)<;>(try have:=r t)<;>lia
def cn:E (R->i0)->R->R
 |[],_=>0
 |D::e,v=>cond (D v) 0 1+cn e v
def cx(a b:R->R):E (R->i0)->R->R
 |[],_=>0
 |D::e,i=>chi D a b i+cx a b e i
def nK(D eg:R->i0):Prop:=∀ x,D x=kf->eg x=kf->False
structure Pce(N n:R)(a b:R->R)(l m:R->R)(D:R->i0)(M0:R):Prop where
 ne:∃ x,D x=kf
 lt:∀ x,D x=kf->x<n
 tp:∀ x,D x=kf->m x=M0
 zc:∀ x y,D x=kf->D y=kf->∃ wz:R->i0,(∀ i,wz i=kf->i<N/\D (a i)=kf/\D (b i)=kf/\l i=0)/\∀ v,bd N a b wz v=((x == v) ^^ (y == v))
def IT{eg:R->i0}(Y:D (a i)=kf)(h2:D (b i)=kf)(h:nK D eg):chi eg a b i=0:=by
 unfold chi;let C:eg (a i)=kt:=by cases z:eg (a i)with|false=>rfl|true=>exact(h _ Y z).elim
 let f:eg (b i)=kt:=by cases z:eg (b i)with|false=>rfl|true=>exact(h _ h2 z).elim
 rw[C,f];rfl
theorem Cfg.many:∀(Ds:E (R->i0)){l m:R->R}{M0:R},Cfg N n a b O l m->(∀ D∈Ds,Pce N n a b l m D M0)->(∀ v,v<n->M0<=m v)->(∀ D∈Ds,∀ i,i<N->(D (a i) ^^ D (b i))=kf->cx a b Ds i<=l i)->Ds.y nK ->
  Cfg N n a b O (λi=>l i-cx a b Ds i) (λv=>m v-cn Ds v)/\(∀ v,v<n->cn Ds v<=m v)/\∀ D∈Ds,∀ v,v<n->D v=kt->par (λx=>D x&&(O x ^^ (v == x))) n=kf
 |[],l,m,M0,C,_,_,_,_=>#[by simpa only[cx,cn,Nat.sub_zero] using C,λv _=>Mh _,λD h=>by cases h]
 |D::Ds,l,m,M0,C,g,low,cr,c=>by
  let d M:=NS.mp c;let pD:=g D (Ly ..)
  let T:Top N n a b l m D M0:=#[pD.ne,pD.lt,pD.tp,low,λi B x=>by
   let:=cr D (Ly ..) i B x;let r:chi D a b i=1:=by unfold chi;rw[x];rfl
   let:cx a b (D::Ds) i=chi D a b i+cx a b Ds i:=rfl
   lia,pD.zc]
  let C1 eK:=C.step T;let aa:∀ eg∈Ds,Pce N n a b (λi=>l i-chi D a b i) (λv=>m v-cond (D v) 0 1) eg (M0-1):=λeg Y=>by
   let pE:=g eg (Lu _ Y);erw[pE.ne,pE.lt,λx J=>?_,λx y J Q=>?_]
   .show m x-cond (D x) 0 1=M0-1;let:D x=kt:=by cases z:D x with|false=>rfl|true=>exact(d eg Y x z J).elim
    rw[this,pE.tp x J];rfl
   .let wz s u:=pE.zc x y J Q;erw[wz,λi B=>?_,u];let k L t e:=s i B;simp!
  let ab:∀ v,v<n->M0-1<=m v-cond (D v) 0 1:=λv H=>by
   let:=low v H
   cases D v<;>simp<;>lia
  let ac:∀ eg∈Ds,∀ i,i<N->(eg (a i) ^^ eg (b i))=kf->cx a b Ds i<=l i-chi D a b i:=λeg Y i B A=>by
   let:=cr eg (Lu _ Y) i B A;let:cx a b (D::Ds) i=chi D a b i+cx a b Ds i:=rfl;lia
  let w o q:=Cfg.many Ds C1 aa ab ac M;erw[3,λv H=>?_,λeg Y v H j=>?_]
  .let I:(λi=>l i-cx a b (D::Ds) i)=λi=>l i-chi D a b i-cx a b Ds i:=funext λi=>Pq ..
   let f:(λv=>m v-cn (D::Ds) v)=λv=>m v-cond (D v) 0 1-cn Ds v:=funext λv=>Pq ..;rw[I,f];exact w
  .let:=o v H
   let p:=eK v H;show cond (D v) 0 1+cn Ds v<=m v
   cases j:D v with
   |true=>simp!
   |false=>rw[j]at this;let:=p j;simp at *;lia
  .obtain h|h:=Lz.mp Y
   .rw[h]at j ⊢;exact C.odd T H j
   .exact q eg h v H j
theorem HE:∀{Ds:E (R->i0)}{v:R},(∀ D∈Ds,D v=kt)->cn Ds v=Ds.L
 |[],_,_=>rfl
 |D::Ds,v,h=>by
  show cond (D v) 0 1+cn Ds v=_;rw[h D (Ly ..),HE λeg Y=>h eg (Lu _ Y),MG];grind
theorem HF:∀{Ds:E (R->i0)}{v:R},Ds.y nK->D∈Ds->D v=kf->cn Ds v+1=Ds.L
 |eg::Ds,v,p,h,j=>by
  let d M:=NS.mp p;show cond (eg v) 0 1+cn Ds v+1=_;rw[MG];obtain h|h:=Lz.mp h
  .rw[← h,j,HE λF c=>by cases z:F v with|false=>rfl|true=>exact(d F c v (by rw[← h];exact j) z).elim]
   simp
  .let e:eg v=kt:=by cases z:eg v with|false=>rfl|true=>exact(d D h v z j).elim
   let:=HF M h j;lia
theorem cx_in:∀{Ds:E (R->i0)}{i:R},Ds.y nK->D∈Ds->D (a i)=kf->D (b i)=kf->cx a b Ds i=0
 |eg::Ds,i,p,h,k,t=>by
  let d M:=NS.mp p;show chi eg a b i+cx a b Ds i=0;obtain h|h:=Lz.mp h
  .let e:∀ f:E (R->i0),(∀ F∈f,nK D F)->cx a b f i=0:=λf=>by
    induction f with
    |nil=>intro _;rfl
    |cons F f O=>intro c;show chi F a b i+cx a b f i=0;rw[IT k t (c F (Ly ..)),O λeK g=>c eK (Lu _ g)]
   rw[e Ds λF c=>by rw[h];exact d F c]
   unfold chi;rw[← h,k,t];rfl
  .rw[IT k t λx J B=>d D h x B J,cx_in M h k t]
theorem Cfg.down(Ds:E (R->i0))(p:Ds.y nK):∀(t:R){l m:R->R}{M0:R},Cfg N n a b O l m->(∀ D∈Ds,Pce N n a b l m D M0)->(∀ v,v<n->(∃ D∈Ds,D v=kf)∨M0+t<=m v)->(∀ i,i<N->t*cx a b Ds i<=l i) ->
  Cfg N n a b O (λi=>l i-t*cx a b Ds i) (λv=>m v-t*cn Ds v)/\(∀ v,v<n->t*cn Ds v<=m v)/\(0<t->∀ D∈Ds,∀ v,v<n->D v=kt->par (λx=>D x&&(O x ^^ (v == x))) n=kf)
 |0,l,m,M0,C,_,_,_=>#[by simpa only[Nat.zero_mul,Nat.sub_zero] using C,λv _=>by rw[Nat.zero_mul];exact Mh _,λh=>by lia]
 |t+1,l,m,M0,C,g,low,cr=>by
  let sm:∀ k:R,(t+1)*k=t*k+k:=λk=>Nat.succ_mul t k
  let C1 Y L:=C.many Ds g (λv H=>by
   rcases low v H with⟨D,T,j⟩|h
   .exact P2 ((g D T).tp v j).Y
   .lia) (λD T i B x=>by let:=cr i B;lia) p
  let M:∀ D∈Ds,Pce N n a b (λi=>l i-cx a b Ds i) (λv=>m v-cn Ds v) D (M0+1-Ds.L):=λD T=>by
   let A:=g D T;erw[A.ne,A.lt,λx J=>?_,λx y J Q=>?_]
   .let:=HF p T J
    let:=A.tp x J;let:=Y x (A.lt x J);grind
   .let wz s u:=A.zc x y J Q;erw[wz,λi B=>?_,u];let f d r e:=s i B;simp!
  let eK:Ds.L<=M0+1:=by
   by_cases c:Ds=[]
   .simp[*]
   .let D T:=List.exists_mem_of_ne_nil _ c;let x J:=(g D T).ne;let:=HF p T J;let:=(g D T).tp x J;let:=Y x ((g D T).lt x J);lia
  let aa:∀ v,v<n->(∃ D∈Ds,D v=kf)∨M0+1-Ds.L+t<=m v-cn Ds v:=λv H=>by
   by_cases c:∃ D∈Ds,D v=kf
   .exact .inl c
   .let h:M0+(t+1)<=m v:=(low v H).elim (λz=>R7 z c) id
    let:=HE (Ds:=Ds) (v:=v) λD T=>by simp!
    let:=Y v H;lia
  let ab:∀ i,i<N->t*cx a b Ds i<=l i-cx a b Ds i:=λi B=>by
   let:=cr i B;lia
  let w o q:=Cfg.down Ds p t C1 M aa ab;erw[3,λv H=>?_,λ_=>L]
  .let I:(λi=>l i-(t+1)*cx a b Ds i)=λi=>l i-cx a b Ds i-t*cx a b Ds i:=funext λi=>by rw[sm,P4,Pq]
   let eg:(λv=>m v-(t+1)*cn Ds v)=λv=>m v-cn Ds v-t*cn Ds v:=funext λv=>by rw[sm,P4,Pq]
   rw[I,eg];exact w
  .let:=o v H
   grind
end
section
variable{N n:R}{a b:R->R}{O:R->i0}{len h:R->G}{pc:R->R}{L:G}{l m:R->R}
def dm(M:R):R->i0:=λx=>M.O x
def ZC(N:R)(a b:R->R)(pc l:R->R)(M x y:R):Prop:=∃ wz:R->i0,(∀ i,wz i=kf->i<N/\pc (a i)=M/\pc (b i)=M/\l i=0)/\∀ v,bd N a b wz v=((x == v) ^^ (y == v))
theorem ZC.refl(M x:R):ZC N a b pc l M x x:=#[λ_=>kt,λ_ h=>Qd h,λv=>by rw[Lf,OI]]
def ZC.symm{x y:R}(h:ZC N a b pc l M x y):ZC N a b pc l M y x:=by
 let wz s u:=h;erw[wz,s,λv=>by rw[u,Oc]]
def ZC.trans{x y z:R}(h:ZC N a b pc l M x y)(g:ZC N a b pc l M y z):ZC N a b pc l M x z:=by
 let wz s u:=h;let Y I D:=g;erw[tg wz Y,λi B=>?_,λv=>by rw[eM,u,D,x3]]
 unfold tg at B
 cases c:wz i with
 |true=>exact s i c
 |false=>rw[c,Pt]at B;exact I i B
def ZC.imp{e:R->R}{x y:R}(h:ZC N a b pc l M x y)(d:∀ i,i<N->a i<n/\b i<n)(k:∀ v,v<n->pc v=M->e v=j):ZC N a b e l j x y:=by
 let wz s u:=h;erw[wz,λi B=>?_,u];let J o m c:=s i B;erw[J,k _ (d i J).1 o,k _ (d i J).2 m,c]
structure Run(N n:R)(a b:R->R)(O:R->i0)(len h:R->G)(pc:R->R)(L:G)(l m:R->R):Prop where
 C:Cfg N n a b O l m
 cc:∃ c:G,∀ v,v<n->(2*h v<=L->(m v:G)=c-2*h v)/\(L<=2*h v->(m v:G)=c-L)
 pa:∀ v,v<n->pc v≠0->(pc v).O v=kf
 pb:∀ v x,v<n->(pc v).O x=kf->x<n/\pc x=pc v
 dr:∀ v,v<n->pc v≠0->L<=2*h v
 we:∀ v,v<n->pc v=0->2*h v<=L
 zc:∀ x y,x<n->y<n->pc x≠0->pc y=pc x->ZC N a b pc l (pc x) x y
 fl:∀ i,i<N->(pc (a i)=0->pc (b i)=0->(l i:G)=2*len i)/\(pc (a i)≠0->pc (b i)=0->(l i:G)+(2*h (a i)-L)=2*len i)/\(pc (a i)=0->pc (b i)≠0->(l i:G)+(2*h (b i)-L)=2*len i)/\(pc (a i)≠0->pc (b i)≠0->pc (a i)≠pc (b i)->(l i:G)+(2*h (a i)-L)+(2*h (b i)-L)=2*len i)
def bit0{v:R}:Ow 0 v≠kf:=by simp
theorem IM{i:R}:∀{Ds:E (R->i0)},(∀ D∈Ds,D (a i)=kf->D (b i)=kf->False)->cx a b Ds i+cn Ds (a i)+cn Ds (b i)=2*Ds.L
 |[],_=>rfl
 |D::Ds,h=>by
  let O:=IM (i:=i) λeg Y=>h eg (Lu _ Y);let hd:=h D (Ly ..);show chi D a b i+cx a b Ds i+(cond (D (a i)) 0 1+cn Ds (a i))+(cond (D (b i)) 0 1+cn Ds (b i))=_;rw[MG];unfold chi;grind
def Run.down(ad:Run N n a b O len h pc L l m)(lip:∀ i,i<N->h (a i)-h (b i)<=len i/\h (b i)-h (a i)<=len i){Ms:E R}(hM:∀ M,M∈Ms↔M≠0/\∃ v,v<n/\pc v=M)(nd:Ms.l)(ne:∃ v,v<n/\pc v≠0){t:R}(hw:∀ v,v<n->pc v=0->2*h v<=L-t)(hl:∀ i,i<N->pc (a i)≠0->pc (b i)≠0->pc (a i)≠pc (b i)->h (a i)+h (b i)-len i<=L-t):
  ∃ l' m',Run N n a b O len h pc (L-t) l' m'/\(∀ v,v<n->m v=m' v+t*cn (Ms.h dm) v)/\(∀ i,i<N->l i=l' i+t*cx a b (Ms.h dm) i)/\(0<t->∀ M∈Ms,∀ v,v<n->M.O v=kt->par (λx=>M.O x&&(O x ^^ (v == x))) n=kf):=by
 let c T:=ad.cc;let aa:∀{M x:R},M∈Ms->M.O x=kf->x<n/\pc x=M:=λ{M x} Y o=>by
  let _ v H e:=(hM M).mp Y;rw[← e]at o ⊢;exact ad.pb v x H o
 let ap:(Ms.h dm).y nK:=Ox.mpr (nd.imp_of_mem λ{M M'} Y o ne x d1 d2=>ne ((aa Y d1).2.Y.Q (aa o d2).2));let mem:∀ v,v<n->pc v≠0->dm (pc v)∈Ms.h dm:=λv H z=>LW.mpr #[_,(hM _).mpr #[z,v,H,U],U];let cD:∀ v,v<n->pc v≠0->cn (Ms.h dm) v+1=(Ms.h dm).L:=λv H z=>HF ap (mem v H z) (ad.pa v H z);let cW:∀ v,pc v=0->cn (Ms.h dm) v=(Ms.h dm).L:=λv z=>HE λD hD=>by
  let M Y rfl:=LW.mp hD
  cases q:dm M v with
  |false=>rfl
  |true=>exact R7 (z▸(aa Y q).2).Y ((hM M).mp Y).1
 let xS:∀ i,i<N->pc (a i)≠0->pc (b i)=pc (a i)->cx a b (Ms.h dm) i=0:=λi B z e=>by
  let ea eb:=ad.C.ends i B;exact cx_in ap (mem _ ea z) (ad.pa _ ea z) (by rw[← e];exact ad.pa _ eb (by rw[e];exact z))
 let xO:∀ i,i<N->(pc (a i)=pc (b i)->pc (a i)=0)->cx a b (Ms.h dm) i+cn (Ms.h dm) (a i)+cn (Ms.h dm) (b i)=2*(Ms.h dm).L:=λi B z=>IM λD hD d1 d2=>by
  let M Y rfl:=LW.mp hD;let I:=(aa Y d1).2;let eg:=(aa Y d2).2;exact((hM M).mp Y).1 (I.Y.Q (z (I.Q eg.Y)))
 let v0 ab z0:=ne;let c0:=(T v0 ab).2 (ad.dr v0 ab z0);let M0 am:∃ M0:R,(M0:G)=c-L:=#[m v0,c0];let tl:∀ i,i<N->t*cx a b (Ms.h dm) i<=l i:=λi B=>by
  let f1 f2 f3 f4:=ad.fl i B;let ea eb:=ad.C.ends i B;let al:=lip i B;by_cases za:pc (a i)=0<;>by_cases zb:pc (b i)=0
  .let:=xO i B λ_=>za
   let:=cW _ za;let:=cW _ zb;lia
  .let:=xO i B λ_=>za
   let:=cW _ za;let:=cD _ eb zb;grind
  .let:=xO i B λe=>e.Q zb
   let:=cD _ ea za;let:=cW _ zb;let:=f2 za zb;let:=hw _ eb zb;grind
  .by_cases e:pc (a i)=pc (b i)
   .simp[*]
   .grind
 let f g2 g3:=ad.C.down (Ms.h dm) ap t (M0:=M0) (λD hD=>by
  let M Y rfl:=LW.mp hD;let z v H e:=(hM M).mp Y;let ac:∀ x,dm M x=kf->x<n/\pc x=M/\pc x≠0:=λx J=>#[(aa Y J).1,(aa Y J).2,by rw[(aa Y J).2];exact z]
  erw[#[v,by show M.O v=kf;rw[← e];exact ad.pa v H (by rw[e];exact z)],λx J=>(ac x J).1,λx J=>?_,λx y J Q=>?_]
  .let k g q3:=ac x J;let:=(T x k).2 (ad.dr x k q3);lia
  .let k g q3:=ac x J;let A r2 r3:=ac y Q;let wz s u:=ad.zc x y k A q3 (r2.Q g.Y);erw[wz,λi B=>?_,u];let j eK r s4:=s i B;let ea eb:=ad.C.ends i j;erw[j,15,s4]
   .show M.O (a i)=kf;rw[← g,← eK];exact ad.pa _ ea (by rw[eK];exact q3)
   .show M.O (b i)=kf;rw[← g,← r];exact ad.pa _ eb (by rw[r];exact q3)) (λv H=>by
  by_cases z:pc v=0
  .let:=(T v H).1 (ad.we v H z)
   let:=hw v H z;exact .inr ∅
  .exact .inl #[_,mem v H z,ad.pa v H z]) tl
 erw[5,#[f,#[c-t*(Ms.h dm).L,λv H=>?_],ad.pa,ad.pb,λv H z=>?_,hw,λx y J Q z e=>?_,λi B=>?_],λv H=>?_,λi B=>?_,λp M Y v H dv=>g3 p (dm M) (LW.mpr #[M,Y,U]) v H dv]
 .let le:=g2 v H
  let ae:=T v H;let em:(((m v-t*cn (Ms.h dm) v:R):R):G)=(m v:G)-((t*cn (Ms.h dm) v:R):G):=by lia
  rw[em];by_cases z:pc v=0
  .let e:=cW v z
   let w:=hw v H z;rw[e];let:=ae.1 (ad.we v H z);push_cast;lia
  .let e:=cD v H z
   let d:=ad.dr v H z;let:=ae.2 d;let eg:(t:G)*((Ms.h dm).L:G)=(t:G)*(cn (Ms.h dm) v:G)+t:=by
    rw[← e];push_cast;rfl
   rw[eg];push_cast;lia
 .let:=ad.dr v H z
  lia
 .let wz s u:=ad.zc x y J Q z e;erw[wz,λi B=>?_,u];simp[*]
 .let le:=tl i B
  let f1 f2 f3 f4:=ad.fl i B;let ea eb:=ad.C.ends i B;let em:(((l i-t*cx a b (Ms.h dm) i:R):R):G)=(l i:G)-((t*cx a b (Ms.h dm) i:R):G):=by lia
  show((pc (a i)=0->pc (b i)=0->(((l i-t*cx a b (Ms.h dm) i:R):R):G)=2*len i)/\(pc (a i)≠0->pc (b i)=0->(((l i-t*cx a b (Ms.h dm) i:R):R):G)+(2*h (a i)-(L-t))=2*len i)/\(pc (a i)=0->pc (b i)≠0->(((l i-t*cx a b (Ms.h dm) i:R):R):G)+(2*h (b i)-(L-t))=2*len i)/\(pc (a i)≠0->pc (b i)≠0->pc (a i)≠pc (b i)->(((l i-t*cx a b (Ms.h dm) i:R):R):G)+(2*h (a i)-(L-t))+(2*h (b i)-(L-t))=2*len i));rw[em];erw[λza zb=>?_,λza zb=>?_,λza zb=>?_,λza zb e=>?_]
  .let:=xO i B λ_=>za
   let:=cW _ za;let:=cW _ zb;let:=f1 za zb;rw[show cx a b (Ms.h dm) i=0 by lia]
   lia
  .let:=xO i B λe=>e.Q zb
   let:=cD _ ea za;let:=cW _ zb;let:=f2 za zb;rw[show cx a b (Ms.h dm) i=1 by lia]
   lia
  .let:=xO i B λ_=>za
   let:=cW _ za;let:=cD _ eb zb;let:=f3 za zb;rw[show cx a b (Ms.h dm) i=1 by lia]
   lia
  .let:=xO i B λy=>R7 y e
   let:=cD _ ea za;let:=cD _ eb zb;let:=f4 za zb e;rw[show cx a b (Ms.h dm) i=2 by lia]
   lia
 .simp[*]
 .simp[*]
def jn2(pc:R->R)(P v:R):R:=if P.O v=kf then P else pc v
def Run.join(ad:Run N n a b O len h pc L l m){u w P:R}(eK:u<n)(hw:w<n)(lu:L<=2*h u)(lw:L<=2*h w)(hz:u=w∨∃ i,i<N/\a i=u/\b i=w/\h u+h w-len i=L)(s:P=2^u|||2^w|||pc u|||pc w):Run N n a b O len h (jn2 pc P) L l m/\(jn2 pc P u=P/\jn2 pc P w=P/\P≠0)/\(∀ v,P.O v=kf->v<n)/\∀ x v,x<n->v<n->pc v≠0->pc x=pc v->jn2 pc P x=jn2 pc P v/\jn2 pc P v≠0:=by
 let bP:∀ v,P.O v=kf↔(v=u∨v=w∨(pc u).O v=kf∨(pc w).O v=kf):=λv=>by
  rw[s,MJ,MJ,MJ,LU,LU,NF,NF,NF,decide_eq_true_iff,decide_eq_true_iff];constructor
  .rintro(((h|h)|h)|h)
   .exact .inl h.Y
   .exact .inr (.inl h.Y)
   .exact .inr (.inr (.inl h))
   .exact .inr (.inr (.inr h))
  .rintro(h|h|h|h)
   .exact .inl (.inl (.inl h.Y))
   .exact .inl (.inl (.inr h.Y))
   .exact .inl (.inr h)
   .exact .inr h
 let Pu:P.O u=kf:=(bP u).mpr (.inl U);let Pw:P.O w=kf:=(bP w).mpr (.inr (.inl U));let P0:P≠0:=λz=>by rw[z]at Pu;exact bit0 Pu
 let inP:∀ v,P.O v=kf->v<n/\(v=u∨v=w∨(pc v=pc u/\pc v≠0)∨(pc v=pc w/\pc v≠0)):=λv H=>by
  rcases(bP v).mp H with h|h|h|h
  .erw[4,.inl h]
  .erw[4,.inr (.inl h)]
  .let k f:=ad.pb u v eK h;erw[k,.inr (.inr (.inl #[f,λz=>by rw[← f,z]at h;exact bit0 h]))]
  .let k f:=ad.pb w v hw h;erw[k,.inr (.inr (.inr #[f,λz=>by rw[← f,z]at h;exact bit0 h]))]
 let same:∀ x v,v<n->x<n->pc v≠0->pc x=pc v->P.O x=kf->P.O v=kf:=λx v H J z e g=>by
  let pv:=ad.pa v H z;rcases(inP x g).2 with h|h|h|h
  .rw[h]at e;exact(bP v).mpr (.inr (.inr (.inl (by rw[e];exact pv))))
  .rw[h]at e;exact(bP v).mpr (.inr (.inr (.inr (by rw[e];exact pv))))
  .exact(bP v).mpr (.inr (.inr (.inl (by rw[← h.1,e];exact pv))))
  .exact(bP v).mpr (.inr (.inr (.inr (by rw[← h.1,e];exact pv))))
 let jP:∀{v},P.O v=kf->jn2 pc P v=P:=λh=>R5 h;let jN:∀{v},¬ P.O v=kf->jn2 pc P v=pc v:=λh=>R6 h;let aa:∀ v,v<n->jn2 pc P v≠0->L<=2*h v:=λv H z=>by
  by_cases c:P.O v=kf
  .rcases(inP v c).2 with h|h|h|h
   .rw[h];exact lu
   .rw[h];exact lw
   .exact ad.dr v H h.2
   .exact ad.dr v H h.2
  .rw[jN c]at z;exact ad.dr v H z
 let up:∀ v,pc v≠0->jn2 pc P v≠0:=λv z=>by
  by_cases c:P.O v=kf
  .rw[jP c];exact P0
  .rw[jN c];exact z
 let jS:∀ x v,x<n->v<n->pc v≠0->pc x=pc v->jn2 pc P x=jn2 pc P v:=λx v J H z e=>by
  by_cases c:P.O x=kf
  .rw[jP c,jP (same x v H J z e c)]
  .rw[jN c,jN λD=>c (same v x J H (by rw[e];exact z) e.Y D),e]
 erw[#[ad.C,ad.cc,λv H z=>?_,λv x H J=>?_,aa,λv H z=>?_,λx y J Q z e=>?_,λi B=>?_],#[jP Pu,jP Pw,P0],λv H=>(inP v H).1,λx v J H z e=>#[jS x v J H z e,up v z]]
 .by_cases c:P.O v=kf
  .rw[jP c];exact c
  .rw[jN c]at z ⊢;exact ad.pa v H z
 .by_cases c:P.O v=kf
  .rw[jP c]at J ⊢;erw[(inP x J).1,jP J]
  .rw[jN c]at J ⊢;let k f:=ad.pb v x H J;let z:pc v≠0:=λz=>by rw[z]at J;exact bit0 J
   erw[k,3];rw[jN λD=>c (same x v H k z f D)];exact f
 .by_cases c:P.O v=kf
  .rw[jP c]at z;exact R7 z P0
  .rw[jN c]at z;exact ad.we v H z
 .skip
  let old:∀ x y,x<n->y<n->pc x≠0->pc y=pc x->ZC N a b (jn2 pc P) l (jn2 pc P x) x y:=λx y J Q z e=>(ad.zc x y J Q z e).imp ad.C.ends λv vn H=>jS v x vn J z H;let wu:ZC N a b (jn2 pc P) l P w u:=by
   obtain rfl|⟨i,B,o,A,d⟩:=hz
   .exact .refl _ _
   .by_cases c:pc u=pc w/\pc w≠0
    .let:=old w u hw eK c.2 c.1
     rw[jP Pw]at this;exact this
    .let r t f3 f4:=ad.fl i B;rw[o,A]at r t f3 f4;let l0:l i=0:=by
      by_cases zu:pc u=0<;>by_cases zw:pc w=0
      .let:=r zu zw
       let:=ad.we u eK zu;let:=ad.we w hw zw;lia
      .let:=f3 zu zw
       let:=ad.we u eK zu;lia
      .let:=t zu zw
       let:=ad.we w hw zw;lia
      .let:=f4 zu zw λe=>c #[e,zw]
       lia
     refine ZC.Y #[one i,λj Y=>?_,λv=>by rw[jQ B,o,A]]
     rw[eq_of_beq Y];erw[B,by rw[o];exact jP Pu,by rw[A];exact jP Pw,l0]
  let ab:∀ x,P.O x=kf->ZC N a b (jn2 pc P) l P x u:=λx J=>by
   let xn q:=inP x J;obtain rfl|rfl|⟨I,eg⟩|⟨I,eg⟩:=q
   .exact .refl _ _
   .exact wu
   .let:=old x u xn eK eg I.Y
    rw[jP J]at this;exact this
   .let:=old x w xn hw eg I.Y
    rw[jP J]at this;exact this.Q wu
  by_cases c:P.O x=kf
  .rw[jP c]at e z ⊢;let cy:P.O y=kf:=by
    by_cases cy:P.O y=kf
    .exact cy
    .rw[jN cy]at e;let:=ad.pa y Q (by rw[e];exact z)
     rw[e]at this;exact this
   exact(ab x c).Q (ab y cy).Y
  .let T:=jN c
   rw[T]at e z;let cy:¬ P.O y=kf:=λcy=>by
    rw[jP cy]at e;let:=ad.pa x J z;rw[← e]at this;exact c this
   rw[jN cy]at e;exact old x y J Q z e
 .let r t f3 f4:=ad.fl i B;let o A:=ad.C.ends i B;let wa:=ad.we (a i) o;let wb:=ad.we (b i) A;let da:=aa (a i) o;let db:=aa (b i) A;let ua:=up (a i);let ub:=up (b i);let js:=jS (a i) (b i) o A;by_cases za:pc (a i)=0<;>by_cases zb:pc (b i)=0
  .let I:=r za zb
   let eg:=wa za;let M:=wb zb;erw[λ_ _=>I,λp _=>?_,λ_ p=>?_,λp q _=>?_]
   .let:=da p;lia
   .let:=db p;lia
   .let:=da p;let:=db q;lia
  .let I:=f3 za zb
   let eg:=wa za;erw[λ_ p=>R7 p (ub zb),λ_ p=>R7 p (ub zb),λ_ _=>I,λp q _=>?_];let:=da p;lia
  .let I:=t za zb
   let eg:=wb zb;erw[λp _=>R7 p (ua za),λ_ _=>I,λp _=>R7 p (ua za),λp q _=>?_];let:=db q;lia
  .erw[λp _=>R7 p (ua za),λ_ p=>R7 p (ub zb),λp _=>R7 p (ua za),λ_ _ ne=>f4 za zb λe=>ne (js zb e)]
def Run.end(ad:Run N n a b O len h pc L l m)(all:∀ v,v<n->pc v≠0)(whole:∀ i,i<N->pc (b i)=pc (a i)){v:R}(hv:v<n):m v=0:=by
 let F q j:=ad.C.mn v hv;let d:∀ k,k<=N->∃ wz:R->i0,(∀ i,wz i=kf->i<N/\l i=0)/\∀ x,bd N a b wz x=bd N a b (λi=>F i&&decide (i<k)) x:=by
  intro k;induction k with
  |zero=>exact λ_=>#[λ_=>kt,λ_ h=>Qd h,λx=>by rw[Lf];exact(qF λi _=>by simp).Y]
  |succ k A =>
   intro eK;let wz s u:=A ∅
   cases e:F k with
   |false =>
    erw[wz,s,λx=>?_];rw[u];refine par_congr λi _=>?_;show((F i&&decide (i<k))&&_)=((F i&&decide (i<k+1))&&_);by_cases c:i=k
    .rw[c,e];rfl
    .rw[show decide (i<k+1)=decide (i<k) from decide_eq_decide.mpr ∅]
   |true =>
    let g t:=ad.C.ends k ∅
    let Y I D:=ad.zc (a k) (b k) g t (all _ g) (whole k ∅)
    erw[tg wz Y,λi B=>?_,λx=>?_]
    .unfold tg at B
     cases c:wz i with
     |true=>exact s i c
     |false=>rw[c,Pt]at B;erw[(I i B).1,(I i B).2.2.2]
    .rw[eM,u,D,← jQ (N:=N) (a:=a) (b:=b) (show k<N by lia),← eM]
     refine par_congr λi _=>?_;show(((F i&&decide (i<k)) ^^ (i == k))&&_)=((F i&&decide (i<k+1))&&_);by_cases c:i=k
     .rw[c,e];simp
     .rw[show decide (i<k+1)=decide (i<k) from decide_eq_decide.mpr ∅,show(i == k)=kt from beq_eq_false_iff_ne.mpr c,MA]
 let wz s u:=d N (Lq _);let:=ad.C.lo v wz hv λx=>by
  rw[u,← q];refine par_congr λi B=>?_;show((F i&&decide (i<N))&&_)=_;simp!
 rw[qg λi _ f=>(s i f).2]at this;lia
end
def Cfg.lip{a b:R->R}{l m:R->R}(C:Cfg N n a b J l m)(hi:i<N):m (b i)<=m (a i)+l i/\m (a i)<=m (b i)+l i:=by
 let g A:=C.ends i hi;let one:∀ x y,x<n->y<n->(∀ v,((a i == v) ^^ (b i == v))=((x == v) ^^ (y == v)))->m y<=m x+l i:=λx y k Q e=>by
  let F q j:=C.mn x k;let:=C.lo y (tg F (one i)) Q λv=>by rw[eM,q,jQ hi,e,x3]
  cases f:F i with
  |false=>rw[r9 hi f]at this;lia
  |true=>have:=iO (w:=l) hi f;lia
 erw[one _ _ g A λv=>rfl,one _ _ A g λv=>Oc ..]
end HM
namespace KF
open PySem L2
def aL(ls:E Lk)(i:R):R:=(lkA ls i).1
def bL(ls:E Lk)(i:R):R:=(lkA ls i).2.1
def nL(ls:E Lk)(i:R):G:=(lkA ls i).2.2
def dL(ls:E Lk)(i:R):R:=(2*nL ls i).U
def KZ(l:Lk)(v:R):(endX l).O v=((l.1 == v) ^^ (l.2.1 == v)):=by
 unfold endX;rw[My,LU,LU];rfl
theorem A7(ls:E Lk)(u v:R):∀ i,HM.bd i (aL ls) (bL ls) (λj=>u.O j) v=(oddE ls u i).O v
 |0=>by show kt=Ow 0 v;simp
 |i+1=>by
  show(HM.bd i (aL ls) (bL ls) (λj=>u.O j) v ^^ (u.O i&&((aL ls i == v) ^^ (bL ls i == v))))=_;rw[A7 ls u v i];show _=(if u.O i=kf then oddE ls u i^^^endX (lkA ls i) else oddE ls u i).O v
  cases b:u.O i with
  |false=>simp
  |true =>
   rw[R5 U,My,KZ];rfl
theorem qY{ls:E Lk}(hw:∀ l∈ls,0<=l.2.2)(u:R):∀ i,i<=ls.L->((HM.csw (dL ls) (λj=>u.O j) i:R):G)=2*cstU ls u i
 |0,_=>rfl
 |i+1,h=>by
  let O:=qY hw u i ∅
  let l e:∃ l,ls[i]?=Z l:=#[_,Ll ∅]
  let a:=hw l (Ln e);show((HM.csw (dL ls) (λj=>u.O j) i+cond (u.O i) (dL ls i) 0:R):G)=_;unfold cstU dL nL;rw[lkA_is e]
  cases u.O i with
  |false=>assumption
  |true =>
   simp only[if_true,cond_true];let:HM.csw (dL ls) (λj=>u.O j) i=HM.csw (λi=>(2*(lkA ls i).2.2).U) (λj=>u.O j) i:=rfl;lia
def mkF(F:R->i0):R->R
 |0=>0
 |i+1=>mkF F i|||cond (F i) (2^i) 0
theorem DF(F:R->i0)(j:R):∀ i,(mkF F i).O j=(decide (j<i)&&F j)
 |0=>by show Ow 0 j=_;simp
 |i+1=>by
  show(mkF F i|||cond (F i) (2^i) 0).O j=_
  rw[MJ,DF F j i];by_cases c:j=i
  .subst c
   cases f:F j<;>simp
  .let D:¬ i=j:=λz=>c z.Y
   let e:decide (j<i+1)=decide (j<i):=decide_eq_decide.mpr ∅
   rw[e]
   cases F i<;>simp[D]
def xorL(l:E R):R:=l.foldr (λs m=>2^s^^^m) 0
def Ck(p:l.Perm l'):xorL l=xorL l':=by
 induction p with
 |nil=>rfl
 |cons x _ O=>show 2^x^^^xorL _=2^x^^^xorL _;rw[O]
 |swap x y l=>show 2^y^^^(2^x^^^xorL l)=2^x^^^(2^y^^^xorL l);grind
 |trans _ _ Y L=>exact Y.Q L
theorem Ag:∀{l:E R},l.l->∀ i,(xorL l).O i=decide (i∈l)
 |[],_,i=>by show Ow 0 i=_;simp
 |x::l,h,i=>by
  let Y L:=LF.mp h;show(2^x^^^xorL l).O i=_;rw[My,LU,Ag L i];by_cases c:x=i
  .subst c;simp[Y]
  .let D:¬ i=x:=λz=>c z.Y
   simp[c,D]
theorem Jm(X:R):xorL (bl X)=X:=Ml λi=>by
 rw[Ag (bl_nd X) i]
 cases z:X.O i with
 |true=>exact Rl (mem_bl.mpr z)
 |false=>exact QF λy=>by rw[mem_bl.mp y]at z;cases z
def Wk.set(hw:∀ l∈ls,0<=l.2.2){a b:R}{x:G}(h:Wk ls a b x):∃ u,oddE ls u ls.L=2^a^^^2^b/\cstU ls u ls.L<=x:=by
 induction h with
 |nil=>exact#[00,by rw[jo,NO],by rw[jJ];exact MD _]
 | @step b i x l h d eK O =>
  let u Y L:=O;let D:i<ls.L:=(Lm.mp d).1;erw[u^^^2^i,15]
  .rw[mU,Y,uc,R5 D,lkA_is d];let Q:endX l=2^b^^^2^bey l b:=by
    unfold endX bey;obtain z|z:=eK
    .rw[R5 z,z]
    .by_cases w:b=l.1
     .rw[R5 w,w]
     .rw[R6 w,z,OU]
   rw[Q,← MC,MC (2^a),NO,OT]
  .let g:=nB ls hw u (2^i) ls.L (Lq _)
   rw[uX,R5 D,lkA_is d]at g;lia
def Cs.set{n:R}{ls:E Lk}(hw:∀ l∈ls,0<=l.2.2)(T:Conn n ls){X:R}{c:G}(b:X<2^n)(h:Cs (farD ls) (bl X) c):∃ u,oddE ls u ls.L=X/\cstU ls u ls.L<=c:=by
 let PL p e:=h;let A:∀ PL:E (R×R),(∀ s∈flat PL,s<n)->∃ u,oddE ls u ls.L=xorL (flat PL)/\cstU ls u ls.L<=cst (farD ls) PL:=by
  intro PL;induction PL with
  |nil=>exact λ_=>#[00,by rw[jo];rfl,by rw[jJ];exact MD _]
  |cons q PL O =>
   intro m;rw[flat_cons]at m;let u Y L:=O λs a=>m s (Lu _ (Lu _ a));let x J:=T.two (m q.1 (Ly ..)) (m q.2 (Lu _ (Ly ..)));let v B o:=Wk.set hw (iM hw J).1;erw[v^^^u,15]
   .rw[mU,B,Y,flat_cons,MC];rfl
   .let g:=nB ls hw v u ls.L (Lq _)
    rw[kK];lia
 let u Y L:=A PL λs m=>pq b (p.mem_iff.mp m);erw[u,by rw[Y,Ck p,Jm],4]
def cfg0(ok:Lok n ls)(T:Conn n ls){m0:R}(D:m0<2^n){c:R->G}(t:∀ x,x<n->Opt (farD ls) (bl (m0^^^2^x)) (c x)):
  HM.Cfg ls.L n (aL ls) (bL ls) (λx=>m0.O x) (dL ls) (λv=>(2*c v).U)/\∀ v,v<n->0<=c v:=by
 let p:∀ l∈ls,0<=l.2.2:=λl d=>(ok.w0 l d).1;let e:∀ v x:R,(m0^^^2^v).O x=(m0.O x ^^ (v == x)):=λv x=>by rw[My,LU];rfl
 let lt:∀ v,v<n->m0^^^2^v<2^n:=λv H=>MX D (Mv ∅ H)
 let I:∀ v,v<n->∃ u,oddE ls u ls.L=m0^^^2^v/\cstU ls u ls.L=c v:=λv H=>by
  let u Y L:=Cs.set p T (lt v H) (t v H).1;erw[u,Y,OQ L (AJ ok T (t v H) Y)]
 erw[#[λi B=>?_,λv H=>?_,λv F H M=>?_,λi _=>by simp only[dL];lia],λv H=>?_]
 .let:=ok.sm ls[i] (MT B)
  unfold aL bL;rw[lkA_is (Ll B)];exact this
 .let u Y L:=I v H;erw[λj=>u.O j,λx=>by rw[A7,Y,e],3]
  let:=qY p u ls.L (Lq _);lia
 .let u eK:∃ u,u=mkF F ls.L:=#[9];let a:∀ j,j<ls.L->u.O j=F j:=λj J=>by rw[eK,DF,Rl J,Mq]
  let C:∀ x,HM.bd ls.L (aL ls) (bL ls) (λj=>u.O j) x=HM.bd ls.L (aL ls) (bL ls) F x:=λx=>HM.par_congr λi B=>by show(u.O i&&_)=_;rw[a i B]
  let eg:HM.csw (dL ls) (λj=>u.O j) ls.L=HM.csw (dL ls) F ls.L:=HM.csw_congr λi B=>by show cond (u.O i) _ _=_;rw[a i B]
  let b:oddE ls u ls.L=m0^^^2^v:=Ml λx=>by rw[← A7,C,M,e]
  let:=AJ ok T (t v H) b;let g:=qY p u ls.L (Lq _);lia
 .let u _ L:=I v H;let g:=qY p u ls.L (Lq _);lia
def upK(kv:E (R×R))(M t:R):E (R×R):=if(kv.any λe=>decide (e.1=M))=kf then kv.h (λe=>if e.1=M then(e.1,e.2+t) else e) else kv++[(M,t)]
def wsum(g:R->R)(kv:E (R×R)):R:=(kv.h λe=>e.2*g e.1).sum
def Aa:(kv.any λe=>decide (e.1=M))=kf↔M∈kv.h (·.1):=by
 rw[Qc,LW];grind
def Fv(kv:E (R×R))(M t:R):(upK kv M t).h (·.1)=if M∈kv.h (·.1) then kv.h (·.1) else kv.h (·.1)++[M]:=by
 unfold upK;by_cases c:M∈kv.h (·.1)
 .rw[R5 (Aa.mpr c),R5 c,Nd];refine M7 λe _=>?_;show(if e.1=M then(e.1,e.2+t) else e).1=e.1;split<;>rfl
 .rw[R6 λz=>c (Aa.mp z),R6 c,LC];rfl
def HS{t:R}(h:(kv.h (·.1)).l):((upK kv M t).h (·.1)).l:=by
 rw[Fv];split
 .exact h
 .rename_i c;exact LV.mpr #[h,by simp,λx J y Q e=>c (by rw[LY]at Q;rw[← Q,← e];exact J)]
theorem Jo(g:R->R){t:R}:∀{kv:E (R×R)},(kv.h (·.1)).l->wsum g (upK kv M t)=wsum g kv+t*g M:=λ{kv} h=>by
 unfold upK;split
 .rename_i c;let u:∀ kv:E (R×R),(kv.h (·.1)).l->wsum g (kv.h λe=>if e.1=M then(e.1,e.2+t) else e)=wsum g kv+(if M∈kv.h (·.1) then t*g M else 0):=by
   intro kv;induction kv with
   |nil=>intro _;rfl
   |cons e kv O =>
    intro N;rw[LX]at N;let Y L:=LF.mp N;let:=O L;let j:∀(x:R×R)(l:E (R×R)),wsum g (x::l)=x.2*g x.1+wsum g l:=λx l=>by unfold wsum;rfl
    rw[LX,j,j,this];by_cases c:e.1=M
    .rw[R5 c,R6 (λz=>Y (by rw[c];exact z)),R5 (by rw[LX,c];exact Ly ..)]
     grind
    .rw[R6 c];grind
  rw[u kv h,R5 (Aa.mp c)]
 .unfold wsum;rw[LC,NX];simp
def Jp{t:R}(h:e∈upK kv M t):(∃ p,(e.1,p)∈kv/\p<=e.2)∨(e.1=M/\e.2=t):=by
 unfold upK at h;split at h
 .let x J rfl:=LW.mp h;split
  .exact .inl #[x.2,J,by lia]
  .exact .inl #[x.2,J,Lq _]
 .obtain h|h:=LG.mp h
  .exact .inl #[e.2,h,Lq _]
  .rw[LY.mp h];exact .inr #[10]
def inP(r t y:R):i0:=decide (0<t)&&decide (y≠0)&&not (y.O r)
def oj(r t:R)(kv:E (R×R))(hs:E R):E (R×R):=hs.foldl (λkv y=>if inP r t y=kf then upK kv y t else kv) kv
theorem pZ{r t:R}:∀{hs:E R}{kv:E (R×R)},(kv.h (·.1)).l->((oj r t kv hs).h (·.1)).l
 |[],_,h=>h
 |y::hs,kv,h=>by
  show((oj r t (if inP r t y=kf then upK kv y t else kv) hs).h (·.1)).l;split
  .exact pZ (HS h)
  .exact pZ h
theorem nu(g:R->R){r t:R}:∀{hs:E R}{kv:E (R×R)},(kv.h (·.1)).l->wsum g (oj r t kv hs)=wsum g kv+t*(hs.h λy=>if inP r t y=kf then g y else 0).sum
 |[],_,_=>by rfl
 |y::hs,kv,h=>by
  show wsum g (oj r t (if inP r t y=kf then upK kv y t else kv) hs)=_;rw[LX,Ol,Nat.mul_add];split
  .rw[nu g (HS h),Jo g h];lia
  .rw[nu g h,Nat.mul_zero];lia
theorem gM{r t:R}:∀{hs:E R}{kv:E (R×R)}{e:R×R},e∈oj r t kv hs->(∃ p,(e.1,p)∈kv/\p<=e.2)∨(e.1∈hs/\inP r t e.1=kf/\t<=e.2)
 |[],_,e,h=>.inl #[e.2,h,Lq _]
 |y::hs,kv,e,h=>by
  let N:e∈oj r t (if inP r t y=kf then upK kv y t else kv) hs:=h;by_cases c:inP r t y=kf
  .rw[R5 c]at N;rcases gM N with⟨p,Y,L⟩|⟨Y,L,f⟩
   .rcases Jp Y with⟨A,f,B⟩|⟨f,B⟩
    .exact .inl #[A,f,4]
    .simp!
   .exact .inr #[Lu _ Y,L,f]
  .rw[R6 c]at N;obtain h|⟨Y,L,f⟩:=gM N
   .exact .inl h
   .exact .inr #[Lu _ Y,L,f]
def evs(n:R)(ls:E Lk)(h:R->G):E (G×G):=(Mg n).h (λv=>(2*h v,((2^v:R):G)))++ls.h λl=>(h l.1+h l.2.1-l.2.2,((2^l.1|||2^l.2.1:R):G))
def pcs(ps:E R)(v:R):R:=ps.f v 0
def Sm(ps:E R)(D:R):Prop:=∀ x y,D.O x=kf->D.O y=kf->pcs ps x=pcs ps y/\pcs ps x≠0
def nest(A B:R):Prop:=A&&&B=0∨A&&&B=A∨A&&&B=B
structure HI(n:R)(ls:E Lk)(mk:R)(h:R->G)(row:E (G×G))(m0 j:R)(L:G)(ps:E R)(l m:R->R)(kv:E (R×R)):Prop where
 pl:ps.L=n
 pb:∀ x∈ps,x<2^n
 ad:HM.Run ls.L n (aL ls) (bL ls) (λx=>(mk^^^2^aQ mk).O x) (nL ls) h (pcs ps) L l m
 dn:∀ i e,i<j->row[i]?=Z e->Sm ps e.2.U
 s1:wsum (λ_=>1) kv+m (aQ mk)=m0
 s2:∀ i,i<ls.L->wsum (λM=>HM.chi (HM.dm M) (aL ls) (bL ls) i) kv+l i<=dL ls i
 nd:(kv.h (·.1)).l
 ke:∀ e∈kv,1<=e.2/\1<=e.1/\e.1<2^n/\HM.par (λx=>e.1.O x&&mk.O x) n=kf/\Sm ps e.1
 ne:∀ e∈kv,∀ e'∈kv,nest e.1 e'.1
def EB{h:R->G}(ok:Lok n ls)(lip:∀ i,i<ls.L->h (aL ls i)-h (bL ls i)<=nL ls i/\h (bL ls i)-h (aL ls i)<=nL ls i){e:G×G}(eK:e∈evs n ls h):
  ∃ u w,u<n/\w<n/\e.2.U=2^u|||2^w/\e.2=((2^u|||2^w:R):G)/\e.1<=2*h u/\e.1<=2*h w/\(u=w∨∃ i,i<ls.L/\aL ls i=u/\bL ls i=w/\h u+h w-nL ls i=e.1):=by
 obtain eK|eK:=LG.mp eK
 .let v H rfl:=LW.mp eK;let a:=Mz.mp H;let O:(2^v|||2^v:R)=2^v:=Nat.or_self _
  erw[v,v,a,a,by rw[O,Lv],by rw[O],MD _,MD _,.inl U]
 .let l d rfl:=LW.mp eK;let i B e:=Mt d;let m:=lkA_is (ls:=ls) (k:=i) (l:=l) (by simp[*])
  let sm:=ok.sm l d;let r:=lip i B;unfold aL bL nL at r;rw[m]at r;erw[l.1,l.2.1,sm.1,sm.2,Lv _,62,.inr #[i,B,by unfold aL;rw[m],by unfold bL;rw[m],by unfold nL;rw[m]]]
  .lia
  .lia
def eX{u w v:R}:(2^u|||2^w).O v=kf↔v=u∨v=w:=by
 rw[MJ,LU,LU,NF,decide_eq_true_iff,decide_eq_true_iff];erw[λh=>h.imp Eq.Y Eq.Y,λh=>h.imp Eq.Y Eq.Y]
def DB{A B:R}(h:nest A B):nest B A:=by
 unfold nest at *;rw[Nat.and_comm];obtain h|h|h:=h
 .exact .inl h
 .exact .inr (.inr h)
 .exact .inr (.inl h)
def HI.join{n:R}{ls:E Lk}{mk:R}{h:R->G}{row:E (G×G)}{m0 j:R}{L:G}{ps:E R}{l m:R->R}{kv:E (R×R)}(I:HI n ls mk h row m0 j L ps l m kv)(ok:Lok n ls)(lip:∀ i,i<ls.L->h (aL ls i)-h (bL ls i)<=nL ls i/\h (bL ls i)-h (aL ls i)<=nL ls i){e:G×G}(eK:row[j]?=Z e)(ac:e∈evs n ls h)(eL:e.1=L){P:R}{qs:E R}(s:∀ v,P.O v=kf↔(e.2.U.O v=kf∨∃ k,e.2.U.O k=kf/\(pcs ps k).O v=kf))(ql:qs.L=n)(C:∀ v,v<n->pcs qs v=HM.jn2 (pcs ps) P v):
  HI n ls mk h row m0 (j+1) L qs l m kv/\∃ v,v<n/\pcs qs v≠0:=by
 let u w M p eg _ lu lw A:=EB ok lip ac;rw[eL]at lu lw A;let eP:P=2^u|||2^w|||pcs ps u|||pcs ps w:=Ml λv=>by
  let tb:(2^u|||2^w|||pcs ps u|||pcs ps w).O v=(((2^u|||2^w).O v||(pcs ps u).O v)||(pcs ps w).O v):=by rw[MJ,MJ]
  rw[Oq,s,eg,tb,NF,NF];constructor
  .rintro(h|⟨k,Y,o⟩)
   .exact .inl (.inl h)
   .obtain rfl|rfl:=eX.mp Y
    .exact .inl (.inr o)
    .exact .inr o
  .rintro((h|h)|h)
   .exact .inl h
   .exact .inr #[u,eX.mpr (.inl U),h]
   .exact .inr #[w,eX.mpr (.inr U),h]
 let R2{ju jw P0}Pn js:=I.ad.join M p lu lw A eP;let off:∀ v,¬ v<n->pcs qs v=0/\pcs ps v=0:=λv H=>by
  unfold pcs;rw[LB,LB,MI ∅,MI (by let:=I.pl;lia)]
  erw[10]
 let eq:pcs qs=HM.jn2 (pcs ps) P:=funext λv=>by
  by_cases c:v<n
  .exact C v c
  .let:=off v c
   rw[this.1];unfold HM.jn2;rw[R6 λz=>c (Pn v z),this.2]
 let sm:∀ D,Sm ps D->Sm qs D:=λD T x y J Q=>by
  let d1 t:=T x y J Q;let xn:x<n:=Decidable.byContradiction λz=>t (off x z).2;let yn:y<n:=Decidable.byContradiction λz=>t (d1.Q (off y z).2);rw[eq];let f g:=js x y xn yn (λz=>t (d1.Q z)) d1;erw[f,by rw[f];exact g]
 erw[#[ql,λx J=>?_,by rw[eq];exact R2,λi O B a=>?_,I.s1,I.s2,I.nd,λO aa=>?_,I.ne],u,M,by rw[eq,ju];exact P0]
 .let v H rfl:=Mt J;let q:qs[v]=pcs qs v:=by unfold pcs;rw[LB,Ll H];rfl
  rw[q];refine MU _ λi B=>?_
  cases z:(pcs qs v).O i with
  |false=>rfl
  |true =>
   rw[eq]at z;let:=(R2.pb v i ∅ z).1
   lia
 .by_cases c:i=j
  .subst c;rw[eK]at a
   cases a
   rw[eg];intro x y J Q;rw[eq];let b:HM.jn2 (pcs ps) P x=P:=by obtain rfl|rfl:=eX.mp J<;>assumption
   let ab:HM.jn2 (pcs ps) P y=P:=by obtain rfl|rfl:=eX.mp Q<;>assumption
   rw[b,ab];erw[U,P0]
  .exact sm _ (I.dn i O ∅ a)
 .let N r d k4 k5:=I.ke O aa;erw[N,r,d,k4,sm _ k5]
def Dk{r:R}(h:HM.par (λx=>M.O x&&((mk^^^2^r).O x ^^ (r == x))) n=kf):HM.par (λx=>M.O x&&mk.O x) n=kf:=by
 rw[← h];refine HM.par_congr λx _=>?_;rw[My,LU];show _=(M.O x&&((mk.O x ^^ decide (r=x)) ^^ decide (r=x)));simp!
theorem Ie{r t:R}(n:0<t):∀ hs:E R,(hs.h λy=>if inP r t y=kf then 1 else 0).sum=HM.cn ((hs.filter λy=>decide (y≠0)).h HM.dm) r
 |[]=>rfl
 |y::hs=>by
  rw[LX,Ol,Ie n hs,Og];unfold inP;rw[Rl n];by_cases c:y=0
  .simp[c]
  .rw[Rl c,R5 U,LX];show _=cond (HM.dm y r) 0 1+_;unfold HM.dm
   cases y.O r<;>simp
theorem Ic{r t i:R}{a b:R->R}:∀ hs:E R,(hs.h λy=>if inP r t y=kf then HM.chi (HM.dm y) a b i else 0).sum<=HM.cx a b ((hs.filter λy=>decide (y≠0)).h HM.dm) i
 |[]=>Lq _
 |y::hs=>by
  let O:=Ic (r:=r) (t:=t) (i:=i) (a:=a) (b:=b) hs;rw[LX,Ol,Og];by_cases c:y=0
  .let:inP r t y=kt:=by unfold inP;simp[c]
   rw[this,R6 (by simp),R6 (by simp[c])]
   lia
  .rw[Rl c,R5 U,LX];show _<=HM.chi (HM.dm y) a b i+_;split<;>lia
section
variable{n:R}{ls:E Lk}{mk:R}{h:R->G}{row:E (G×G)}{m0 j:R}{L:G}{ps qs:E R}{l m:R->R}{kv:E (R×R)}
theorem yZ{v:R}(hv:v<n):(2*h v,((2^v:R):G))∈evs n ls h:=Mi _ (LW.mpr #[v,Mz.mpr hv,U])
theorem EC(hi:i<ls.L):(h (aL ls i)+h (bL ls i)-nL ls i,((2^aL ls i|||2^bL ls i:R):G))∈evs n ls h:=Ma _ (LW.mpr #[ls[i],MT hi,by
 unfold aL bL nL
 rw[lkA_is (Ll hi)]])
def KW(D:row.Perm (evs n ls h))(k:row.y λa b=>b.1<=a.1){J:G×G}(f:row[j]?=Z J){e:G×G}(eK:e∈evs n ls h):(∃ i,i<j/\row[i]?=Z e)∨e.1<=J.1:=by
 let i B:=Mx (D.mem_iff.mpr eK);by_cases c:i<j
 .exact .inl #[i,c,B]
 .by_cases d:i=j
  .simp!
  .let H z:=Lm.mp B;let l m:=Lm.mp f;let:=MV.mp k j i l H ∅
   simp!
def HI.down(I:HI n ls mk h row m0 (j+1) L qs l m kv)(lip:∀ i,i<ls.L->h (aL ls i)-h (bL ls i)<=nL ls i/\h (bL ls i)-h (aL ls i)<=nL ls i)(ne:∃ v,v<n/\pcs qs v≠0)(rp:row.Perm (evs n ls h))(al:row.y λa b=>b.1<=a.1){e':G×G}(ac:row[j+1]?=Z e')(hL:e'.1<=L){hs:E R}(aI:hs.l)(A:∀ y,y∈hs↔y∈qs)(rn:aQ mk<n):∃ l' m',HI n ls mk h row m0 (j+1) e'.1 qs l' m' (oj (aQ mk) (L-e'.1).U kv hs):=by
 let t g:∃ t:R,(L-e'.1).U=t:=#[9];let eL:L-(t:G)=e'.1:=by lia
 rw[g];let mq:∀ M,M∈qs↔∃ v,v<n/\pcs qs v=M:=λM=>by
  constructor
  .intro Y;let v H e:=Mt Y;erw[v,by let:=I.pl;lia,by unfold pcs;simp[*]]
  .rintro⟨v,H,e⟩;let ab:v<qs.L:=by let:=I.pl;lia
   unfold pcs at e;rw[LB,Ll ab]at e;rw[← e];exact MT ab
 let Ms ap:∃ Ms,Ms=hs.filter λy=>decide (y≠0):=#[9];let hM:∀ M,M∈Ms↔M≠0/\∃ v,v<n/\pcs qs v=M:=λM=>by
  rw[ap,Nv,A,mq,decide_eq_true_iff];exact And.comm
 let l' m' R' em el od:=I.ad.down (t:=t) lip hM (by rw[ap];exact List.Nodup.sublist List.filter_sublist aI) ne (λv H z=>by
  rw[eL];rcases KW rp al ac (yZ H) with⟨i,B,N⟩|Y
  .let s:=I.dn i _ B N
   rw[Lv]at s;let b:(2^v).O v=kf:=by simp
   exact R7 z (s v v b b).2
  .exact Y) (λi B za zb ne=>by
  rw[eL];rcases KW rp al ac (EC B) with⟨k,d,N⟩|Y
  .let s:=I.dn k _ d N
   rw[Lv]at s;exact R7 (s (aL ls i) (bL ls i) (eX.mpr (.inl U)) (eX.mpr (.inr U))).1 ne
  .exact Y)
 rw[eL]at R';let pk:∀{M:R},M∈hs->M≠0->Sm qs M/\∀ x,M.O x=kf↔pcs qs x=M:=λ{M} Y o=>by
  let v H e:=(mq M).mp ((A M).mp Y);let aa:∀ x,M.O x=kf->pcs qs x=M:=λx J=>by
   let:=(I.ad.pb v x H (by rw[e];exact J)).2
   rw[this,e]
  erw[λx y J Q=>#[(aa x J).Q (aa y Q).Y,by rw[aa x J];exact o],λx=>#[aa x,λT=>?_]]
  let xn:x<n:=Decidable.byContradiction λz=>o (by
   rw[← T];unfold pcs;rw[LB,MI (by let:=I.pl;lia)]
   rfl)
  let:=I.ad.pa x xn (by rw[T];exact o)
  rw[T]at this;exact this
 let ae:∀{D M:R},Sm qs D->M∈hs->M≠0->nest D M:=λ{D M} hD Y o=>by
  let _ mb:=pk Y o;by_cases c:∃ x,D.O x=kf/\M.O x=kf
  .let x d1 d2:=c;refine .inr (.inl (Ml λy=>?_));rw[NL]
   cases dy:D.O y with
   |false=>rfl
   |true =>
    let:=(hD y x dy d1).1;rw[(mb y).mpr (this.Q ((mb x).mp d2))];rfl
  .refine .inl (Ml λy=>?_);grind
 let am:∀{y:R},inP (aQ mk) t y=kf->0<t/\y≠0/\y.O (aQ mk)=kt:=λ{y} Y=>by
  unfold inP at Y;simp!
 erw[l',m',I.pl,I.pb,R',I.dn,3,λi B=>?_,pZ I.nd,λe eK=>?_,λe eK eg an=>?_]
 .rw[nu _ I.nd];let f:=I.s1;let C:=em (aQ mk) rn;by_cases c:0<t
  .rw[Ie c,← ap];lia
  .let t0:t=0:=by lia
   simp!
 .rw[nu _ I.nd];let q:=I.s2 i B;let C:=el i B;let:=Nat.mul_le_mul_left t (Ic (r:=aQ mk) (t:=t) (i:=i) (a:=aL ls) (b:=bL ls) hs);lia
 .rcases gM eK with⟨p,Y,o⟩|⟨Y,o,u⟩
  .let k1 k2 k3 k4 k5:=I.ke _ Y;erw[by lia,k2,k3,k4,k5]
  .let i1 i2 i3:=am o;let O:=(A _).mp Y;erw[20,I.pb _ O,Dk (od i1 _ ((hM _).mpr #[i2,(mq _).mp O]) _ rn i3),(pk Y i2).1]
 .rcases gM eK with⟨p,Y,_⟩|⟨Y,o,_⟩
  .rcases gM an with⟨p2,w,_⟩|⟨w,g2,_⟩
   .exact I.ne (e.1,p) Y (eg.1,p2) w
   .exact ae (I.ke _ Y).2.2.2.2 w (am g2).2.1
  .rcases gM an with⟨p2,w,_⟩|⟨w,g2,_⟩
   .exact DB (ae (I.ke _ w).2.2.2.2 Y (am o).2.1)
   .exact ae (pk Y (am o).2.1).1 w (am g2).2.1
def HI.end(I:HI n ls mk h row m0 j L ps l m kv)(ok:Lok n ls)(lip:∀ i,i<ls.L->h (aL ls i)-h (bL ls i)<=nL ls i/\h (bL ls i)-h (aL ls i)<=nL ls i)(D:row.Perm (evs n ls h)){e:G×G}(eK:row[j]?=Z e)(c:e.1=L)(J:row.L=j+1)(q:aQ mk<n):m (aQ mk)=0:=by
 let a:e∈evs n ls h:=D.mem_iff.mp (Ln eK);let u w M p eg _:=EB ok lip a
 let z _:=I.join ok lip eK a c (P:=2^u|||2^w|||pcs ps u|||pcs ps w) (qs:=(Mg n).h λv=>HM.jn2 (pcs ps) (2^u|||2^w|||pcs ps u|||pcs ps w) v) (λv=>by
  let r:(2^u|||2^w|||pcs ps u|||pcs ps w).O v=(((2^u|||2^w).O v||(pcs ps u).O v)||(pcs ps w).O v):=by rw[MJ,MJ]
  rw[r,eg,NF,NF];constructor
  .rintro((h|h)|h)
   .exact .inl h
   .exact .inr #[u,eX.mpr (.inl U),h]
   .exact .inr #[w,eX.mpr (.inr U),h]
  .rintro(h|⟨k,Y,o⟩)
   .exact .inl (.inl h)
   .obtain rfl|rfl:=eX.mp Y
    .exact .inl (.inr o)
    .exact .inr o) (by simp) (λv H=>by
  show((Mg n).h _).f v 0=_
  simp[*])
 let all:∀ e,e∈evs n ls h->Sm _ e.2.U:=λe eK=>by
  let i B:=Mx (D.mem_iff.mpr eK);exact z.dn i e (by let:=(Lm.mp B).1;lia) B
 refine z.ad.end (λv H=>?_) (λi B=>?_) q
 .let s:=all _ (yZ H)
  rw[Lv]at s;let b:(2^v).O v=kf:=by simp
  exact(s v v b b).2
 .let s:=all _ (EC B)
  rw[Lv]at s;exact(s (bL ls i) (aL ls i) (eX.mpr (.inr U)) (eX.mpr (.inl U))).1
end
structure Hls(n:R)(ls:E Lk)(mk:R)(cost:G)(kv:E (R×R)):Prop where
 ke:∀ e∈kv,1<=e.2/\1<=e.1/\e.1<2^n/\HM.par (λx=>e.1.O x&&mk.O x) n=kf
 nd:(kv.h (·.1)).l
 ne:∀ e∈kv,∀ e'∈kv,nest e.1 e'.1
 pd:∀ i,i<ls.L->((wsum (λM=>HM.chi (HM.dm M) (aL ls) (bL ls) i) kv:R):G)<=2*nL ls i
 sm:((wsum (λ_=>1) kv:R):G)=2*cost
def HI.first(ok:Lok n ls)(T:Conn n ls)(p:mk<2^n)(q:aQ mk<n){c:R->G}(t:∀ x,x<n->Opt (farD ls) (bl (mk^^^2^aQ mk^^^2^x)) (c x)){row:E (G×G)}(D:row.Perm (evs n ls λv=>c (aQ mk)-c v))(k:row.y λa b=>b.1<=a.1){e:G×G}(eK:row[0]?=Z e):
  HI n ls mk (λv=>c (aQ mk)-c v) row (2*c (aQ mk)).U 0 e.1 (LD n 0) (dL ls) (λv=>(2*c v).U) []/\(∀ i,i<ls.L->(c (aQ mk)-c (aL ls i))-(c (aQ mk)-c (bL ls i))<=nL ls i/\(c (aQ mk)-c (bL ls i))-(c (aQ mk)-c (aL ls i))<=nL ls i)/\0<=c (aQ mk):=by
 let C c0:=cfg0 ok T (m0:=mk^^^2^aQ mk) (MX p (Mv ∅ q)) t
 let z:∀ v,pcs (LD n 0) v=0:=λv=>by
  unfold pcs;rw[LB,Nb];split<;>rfl
 let u:∀ i,i<ls.L->0<=nL ls i:=λi B=>by
  unfold nL;rw[lkA_is (Ll B)];exact(ok.w0 _ (MT B)).1
 let top:∀ v,v<n->2*(c (aQ mk)-c v)<=e.1:=λv H=>by
  rcases KW D k eK (yZ (ls:=ls) (h:=λv=>c (aQ mk)-c v) H) with⟨i,B,_⟩|h
  .lia
  .exact h
 let cr:=c0 _ q;erw[#[OA,λx J=>by rw[List.eq_of_mem_replicate J];exact Ng n,#[C,#[2*c (aQ mk),λv H=>?_],λv _ y=>R7 (z v) y,λv x _ y=>by rw[z]at y;exact R7 y HM.bit0,λv _ y=>R7 (z v) y,λv H _=>top v H,λx y _ _ w=>R7 (z x) w,λi B=>?_],λi e B=>R7 B (MR _),by show 0+_=_;rw[Oz],λi _=>by show 0+_<=_;rw[Oz];exact Lq _,Nt,λe eK=>(nomatch eK),λe eK=>(nomatch eK)],λi B=>?_,cr]
 .let:=top v H
  let:=c0 v H;lia
 .let:=u i B
  rw[z,z];let I:((dL ls i:R):G)=2*nL ls i:=by unfold dL;lia
  erw[λ_ _=>I,λy=>R7 U y,λ_ y=>R7 U y,λy=>R7 U y]
 .let r:=C.lip B
  let g A:=C.ends i B;let:=c0 _ g;let:=c0 _ A;let:=u i B;let I:((dL ls i:R):G)=2*nL ls i:=by unfold dL;lia
  let j:(2*c (bL ls i)).U<=(2*c (aL ls i)).U+dL ls i:=r.1;let N:(2*c (aL ls i)).U<=(2*c (bL ls i)).U+dL ls i:=r.2;lia
def HI.hls{h:R->G}{row:E (G×G)}{L:G}{l m:R->R}{c:G}(I:HI n ls mk h row (2*c).U j L ps l m kv)(c0:0<=c)(ok:Lok n ls)(z:m (aQ mk)=0):Hls n ls mk c kv:=by
 erw[λe eK=>?_,I.nd,I.ne,λi B=>?_,3]
 .let N H v p _:=I.ke e eK;erw[N,H,v,p]
 .let o:=I.s2 i B
  let u:0<=nL ls i:=by
   unfold nL;rw[lkA_is (Ll B)];exact(ok.w0 _ (MT B)).1
  let C:((dL ls i:R):G)=2*nL ls i:=by unfold dL;lia
  lia
 .let J:=I.s1
  rw[z]at J;lia
def sk(u i:R):(Q4 ((u:G)/2^((i:R):G).U) 1=1)↔u.O i=kf:=by
 let C:(u:G)/2^((i:R):G).U=((u/2^i:R):G):=by rfl
 let eg:Q4 ((u/2^i:R):G) 1=((u/2^i&&&1:R):G):=andN _ 1;rw[C,eg,Nat.and_one_is_mod,Ot,decide_eq_true_iff];lia
def Hc{b:e8}{g:TG}{tb:TS}{D:Ends}(n:R)(Pv:R->St->Hp->Prop)(l:Pv 0 σ H)(Y:n<=xs.L)(f:zs.L=n)(hl:∀ i σ H,i<=n->Pv i σ H->na a xs/\na b zs)(hs:∀ i x z σ H T,xs[i]?=Z x->zs[i]?=Z z->Pv i σ H->H T=k7->g (.ref T) σ (upd H T (.tup [x,z])) λh H2=>tb (D.lop (Pv (i+1))) h H2)(hd:∀ σ H,Pv n σ H->D.nx σ H):
  ∃ W:R->R->St->Hp->Prop,(∃ m,W 0 m σ H)/\∀ i m σ H,W i m σ H ->
   ((Itz K a b).stop i H/\D.nx σ H)∨((Itz K a b).go i H/\∃ N:St->Hp->Prop,(∀ σ' H',N σ' H'->∃ C,C<m/\W (i+1) C σ' H')/\∀ x H',(Itz K a b).yld i H x H'->g x σ H' λh H2=>tb (D.lop (N)) h H2):=by
 erw[λi m σ H=>m=n-i/\i<=n/\Pv i σ H,#[n,by simp,Mh _,l],3]
 rintro i m σ H ⟨rfl,B,p⟩;let k t:=hl i σ H B p;by_cases r:i<n
 .let j:i<xs.L:=by lia
  let q:i<zs.L:=by lia
  refine .inr #[#[xs,zs,xs[i],zs[i],k,t,by simp,by simp],Pv (i+1),λσ' H' A=>#[n-(i+1),12,r,A],λv H' y=>?_]
  let T x z O rfl rfl I w:=y;exact hs i x z σ _ T (I xs k) (w zs t) p O
 .let e:i=n:=by lia
  subst e;exact .inl #[#[xs,zs,k,t,.inr ∅],hd σ H p]
def Hz(xs:E V):cutV xs (Z 1) k7=xs.drop 1:=by
 unfold cutV;let q:=HT.sIx_nat xs.L 0 1;rw[show((1:R):G)=(1:G) from rfl]at q;rw[q,HT.sIx_none];rw[NH (by simp)]
 by_cases h:1<=xs.L
 .rw[Pd h]
 .simp!
theorem FT(s:mu H2){l:e8}(hl:H l=k7)(o:HO):mu (upd H2 l o):=λb u e=>by
 rw[ar (λz=>by simp!)]
 exact s _ _ e
theorem IC{α:Type} [DecidableEq α]:∀{l ps:E α},l.l->(∀ x∈l,x∈ps)->l.L<=ps.L
 |[],_,_,_=>Mh _
 |x::l,ps,h,k=>by
  let Y L:=LF.mp h;let m:=k x (Ly ..);let:=IC (l:=l) (ps:=ps.erase x) L λy Q=>(List.mem_erase_of_ne (λ(e:y=x)=>Y (by rw[← e];exact Q))).mpr (k y (Lu _ Q))
  rw[Qt m]at this;let p:=Nm m;rw[MG];lia
structure TxtH(mg:ff->io eN):Prop extends TxtZ mg where
 n_reversed:mg "reversed"=k7
 n_sorted:mg "sorted"=k7
 n_set:mg "set"=k7
structure Drw(n:R)(ls:E Lk)(h:R->G)(row:E (G×G)):Prop where
 rp:row.Perm (evs n ls h)
 srt:row.y λa b=>b.1<=a.1
inductive spDry
 |mk (v:V)(ta:e8)(n:R)(ls:E Lk)(tops:E G) (_:vs=[v,.ref ta])(_:LnAt H v ls)(_:Lok n ls)(_:H ta=Z (.lst (tops.h V.int)))(_:tops.L=n)(_:n+ls.L<64)(_:∀(q:e8)(out:E V)(row:E (G×G)) H',mu H'->H' q=Z (.lst out)->PAt H' out row->Drw n ls (λv=>tops.f v 0) row->Q (.ref q) H')
inductive Im
 |mk (p:e8)(n rm:R)(ps:E R) (_:vs=[.ref p,.int (rm:G)])(_:H p=Z (.lst (ps.h iV)))(_:ps.L=n)(_:(∀ x∈ps,x<2^n))(_:rm<2^n)(_:n<=40)(_:∀(q:e8)(qs:E R)(P:R) H',mu H'->H' q=Z (.lst (qs.h iV))->qs.L=n->(∀ v,P.O v=kf↔(rm.O v=kf∨∃ k,rm.O k=kf/\(pcs ps k).O v=kf))->(∀ v,v<n->pcs qs v=HM.jn2 (pcs ps) P v)->Q (.ref q) H')
def toK(kv:E (R×R)):E (Key×V):=kv.h λe=>(Sum.inl (e.1:G),V.int (e.2:G))
inductive spHills(TT:e8)
 |mk (v:V)(n mk:R)(ls:E Lk) (_:vs=[.int (n:G),v,.int (mk:G)])(_:LnAt H v ls)(_:Lok n ls)(_:1<=n)(_:Conn n ls)(_:mk<2^n)(_:(bl mk).L%2=0)(_:(bl mk).L<=14)(_:n+ls.L<64)(_:Tb lqF lpF TT H)(_:∀(p:e8)(ys:E V)(kv:E (R×R))(cost:G) H',SmT H H'->Tb lqF lpF TT H'->H' p=Z (.lst ys)->PAt H' ys (kv.h λe=>((e.1:G),(e.2:G)))->kv.L<=3000->Opt (farD ls) (bl mk) cost->Hls n ls mk cost kv->Q (.ref p) H')
def rR:az ["links","tops","found"] ["links","tops"] (aq mM):=by ac_nf
def ok_dry(F:Fun K "dryings" "dryings" mM f fd)(T:TxtH mg):k9 1 f fd ["links","tops"] spDry:=by
 refine F.ok rR (by walk_at "l") λb A u s H L Q eg N h=>?_
 let v ta n ls ae rfl hV ok al tl aa a:=h;let ap:=ok.n1;let am:=N.units;let la O rfl a4 hL:=id hV
 intro Xc Dc;erw[_,(ah (oU 2 [] ["room","top"] rR.nd (g9 U T.n_enumerate (af (pv 1) aj)) (λC ex s H=>(eZ (n:=2) (K:=K) U U (aH (bc (i:=0) (show(["room","top"]:E ff).l from by decide) U (Or.inl U)) (aH (bc (i:=1) (show(["room","top"]:E ff).l from by decide) U (Or.inl U)) b7)))) pt_c (λC ex s H=>(cj (af (aw cz ai (pv 1)) (af (aw b9 ai (pv 0)) aj)))))
   (ah (aW (eG LH PySem.F.slot_list_extend PySem.F.type_list_extend DD (pv 2) (af (dj [("tops",1)] ["one","two","length"] (aN (pv 0)) (λC ex s H=>(eZ (n:=3) (K:=K) U U (aH (bc (i:=0) (show(["one","two","length","tops"]:E ff).l from by decide) U (Or.inl U)) (aH (bc (i:=1) (show(["one","two","length","tops"]:E ff).l from by decide) U (Or.inl U)) (aH (bc (i:=2) (show(["one","two","length","tops"]:E ff).l from by decide) U (Or.inl U)) b7))))) pt_c (λC ex s H=>(cj (af (aw iW (aw cA (vK K (pv 3) (pv 0)) (vK K (pv 3) (pv 1))) (pv 2)) (af (aw Dq (aw b9 ai (pv 0)) (aw b9 ai (pv 1))) aj))))) aj)))
   (ao (aD (vJ U U T.n_list U T.n_reversed (ay B5 (by rfl) T.n_sorted rj (af (pv 2) aj))))))),3]
 let a5:(ae.h V.int).L=n:=by simp[*]
 erw[9,ta,U,#[_,SqL.of al],gO (K:=K) (xs:=ae.h V.int) (λi M Y=>mu Y/\PAt Y M ((Mg i).h λv=>(2*ae.f v 0,((2^v:R):G)))) (LN (av ∅)) #[λ_ _ e=>e,PAt.nil _] (λi M Y _ z=>SqL.of (z.1 _ _ al)) ?_ ?_ (λi M Y z=>by let:=z.2.1;simp[*])]
 .rintro i x M Y T2 J ⟨o,hZ⟩ ac;let B:i<n:=by rw[← a5];exact(Lm.mp J).1
  let sT:=ak ac (.tup [.int (i:G),x]);rw[LA]at J;let tp a0 rfl:=LL.mp J;erw[T2,9,SqT.of ag,173462,yesT ?_];erw[2649,.inl #[by decide,by decide],2649,#[20,by decide],(by show 2<=QG;decide),λt7 aI=>?_]
  let s7:=sT.Q (ak aI (.tup [.int (2*tp),.int (1*2^((i:R):G).U)]));erw[o.Q s7,3];rw[NM,LC];refine(hZ.mono s7).app (PAt.one ?_);let et:ae.f i 0=tp:=by rw[LB,a0];rfl
  show _=Z (HO.tup [.int (2*ae.f i 0),.int ((2^i:R):G)]);rw[et,← shlN i];exact ag
 rintro M Y ⟨o,hZ⟩ fa aS;rw[a5]at hZ;let ba:H fa=k7:=fK o aS;let z3:=ak aS (.lst M);let m:=o.Q z3;let a3:=hZ.mono z3;let an:(upd Y fa (.lst M)) fa=Z (.lst M):=ag;generalize upd Y fa (.lst M)=H3 at m a3 an;let a6:LsAt LkAt H3 O ls:=hL.imp λ_ _ y=>y.mono m;let yl:=a6.1;erw[9,.inl #[6,SqL.of an],9,la,U,#[_,SqL.of (m _ _ a4)],cN (K:=K) (xs:=O) (λi c H4=>Same H3 H4/\PAt H4 c ((ls.j i).h λl=>(ae.f l.1 0+ae.f l.2.1 0-l.2.2,((2^l.1|||2^l.2.1:R):G)))) (LN (av ∅)) #[λ_ _ e=>e,PAt.nil _] (λi c H4 _ z=>SqL.of (z.1 _ _ (m _ _ a4))) ?_ ?_ (λi c H4 z=>by let:=z.2.1;grind)]
 .rintro i x c H4 J ⟨s4,hW⟩;let l d t rfl I:=a6.get J;let l1 l2:=ok.sm l (Ln d);let ab:∀ k,k<n->(ae.h V.int)[k]?=Z (.int (ae.f k 0)):=λk eK=>by
   simp[*]
  let aX:=s4 _ _ (m _ _ al);erw[t,9,SqT.of (s4 _ _ I),11101590,yesT ?_];erw[153,ta,661,SqL.of aX,aB (ab _ l1),153,ta,661,SqL.of aX,aB (ab _ l2),3824037];erw[2649,#[20,by decide],2649,#[20,by decide],165,(by show 2<=QG;decide),λt7 aI=>?_]
  let ex:Q5 (1*2^((l.1:R):G).U) (1*2^((l.2.1:R):G).U)=((2^l.1|||2^l.2.1:R):G):=by rw[shlN,shlN,orN]
  let s7:=ak aI (.tup [.int (ae.f l.1 0+ae.f l.2.1 0-l.2.2),.int (Q5 (1*2^((l.1:R):G).U) (1*2^((l.2.1:R):G).U))]);erw[s4.Q s7,3];rw[LK,d,io.toList_some,LC];refine(hW.mono s7).app (PAt.one ?_);show _=Z (HO.tup [.int (ae.f l.1 0+ae.f l.2.1 0-l.2.2),.int ((2^l.1|||2^l.2.1:R):G)])
  rw[← ex];exact ag
 rintro c H4 ⟨s4,hW⟩ D hD;rw[yl,LP]at hW;let zl:M.L=n:=by let:=a3.1;rw[Lp,Na]at this;exact this
 let wl:c.L=ls.L:=by let:=hW.1;rw[Lp]at this;exact this
 let sD:=ak hD (.lst c);let fD:fa≠D:=λz=>by rw[← z,s4 _ _ an]at hD;cases hD
 let aT:=s4.Q sD;erw[fa,D,M,c,10,aT _ _ an,ag,LN (av ∅),3]
 let s6:mu (upd (upd H4 D (.lst c)) fa (.lst (M++c))):=FT (m.Q aT) ba _;let j:PAt (upd (upd H4 D (.lst c)) fa (.lst (M++c))) (M++c) (evs n ls λv=>ae.f v 0):=by
  let g:=(a3.mono aT).app (hW.mono sD)
  erw[g.1,λi p e=>by
   let t a1 a2:=g.2 i p e
   erw[t,a1,by rw[ar (λz=>by rw[z,aT _ _ an]at a2;cases a2)];exact a2]]
 let a7:(upd (upd H4 D (.lst c)) fa (.lst (M++c))) fa=Z (.lst (M++c)):=ag;generalize upd (upd H4 D (.lst c)) fa (.lst (M++c))=H6 at s6 j a7;let be:(M++c).L=n+ls.L:=by simp[*]
 erw[9,fa,M++c,9,SqL.of a7,j,4,λl out bb d pm pw pa=>?_]
 let s7:=ak d (.lst out);erw[l,out,U,SqL.of ag,λq r=>?_];let s8:=ak r (.lst out.x);refine a q out.x bb.x _ (s6.Q (s7.Q s8)) ag (pa.rev.mono (s7.Q s8)) #[(List.reverse_perm _).Q pm,List.pairwise_reverse.mpr pw]
def mG:az ["pieces","rooms","piece","room"] ["pieces","rooms"] (aq pI):=by ac_nf
def ok_join(F:Fun K "joined" "joined" pI f fd)(T:Txt mg)(aa:lc 1 "bits" ["mask"] oA f1 eK):k9 2 f fd ["pieces","rooms"] Im:=by
 refine F.ok mG (by walk_at "l") λa A I s H q Q eg N h=>?_
 let p n rm ps rfl g pl pb rb an kk:=h;let ap:(2:R)^40=1099511627776:=by rfl
 let Y:2^n<=2^40:=Mw ∅ an
 intro Xc Dc;erw[_,(ah (aA 2 mG.nd (pv 1))
   (ah (mj (aN (aa.c N (af (pv 1) aj))) (bW 3 mG.nd) (ao (aA 2 mG.nd (aw Dq (pv 2) (a8 (pv 0) (pv 3))))))
   (ao (aD (dj [("piece",2)] ["room","before"] (g9 U T.n_enumerate (af (pv 0) aj)) (λC ex s H=>(eZ (n:=2) (K:=K) U U (aH (bc (i:=0) (show(["room","before","piece"]:E ff).l from by decide) U (Or.inl U)) (aH (bc (i:=1) (show(["room","before","piece"]:E ff).l from by decide) U (Or.inl U)) b7)))) pt_c (λC ex s H=>(j8 (aC cR (aw fN (aw de (pv 2) (pv 0)) ai) ai (aE _)) (pv 2) (pv 1)))))))),3]
 erw[153,(rm:G),82,λr l j _ al=>?_]
 rw[Lv]at al;let aS:l r=Z (.lst ((bl rm).h iV)):=al;let am:=j _ _ g;let ab:∀ k,k<n->(ps.h iV)[k]?=Z (iV (ps.f k 0))/\ps.f k 0<2^n:=λk o=>by
  simp[*]
 erw[r,U,#[_,SqL.of aS],bO (K:=K) (xs:=(bl rm).h iV) (λi O u=>∃(v3:io V)(pc:R),O=[Z (.ref p),Z (.int (rm:G)),Z (.int (pc:G)),v3]/\u=l/\∀ v,pc.O v=kf↔(rm.O v=kf∨∃ k,k∈(bl rm).j i/\(pcs ps k).O v=kf)) #[_,rm,10,λv=>#[.inl,λz=>z.elim id λ⟨k,o,_⟩=>by simp at o]] (λi O u _ ae=>by let _ _ _ z _:=ae;rw[z];exact SqL.of aS) ?_ ?_]
 .rintro i x O u J ⟨v3,pc,rfl,rfl,aI⟩;rw[LA]at J;let k o rfl:=LL.mp J;let kn:=pq rb (Ln o);let a1 a2:=ab k kn;let ex:Q5 (pc:G) ((ps.f k 0:R):G)=((pc|||ps.f k 0:R):G):=orN _ _
  erw[2457,p,661,SqL.of am,aB a1,933];simp only[ex];erw[165,λv=>?_];rw[MJ,NF,aI,LK,o];constructor
  .rintro((z|⟨k',Y,L⟩)|z)
   .exact .inl z
   .exact .inr #[k',Mi _ Y,L]
   .exact .inr #[k,Ma _ (by simp),z]
  .rintro(z|⟨k',Y,L⟩)
   .exact .inl (.inl z)
   .obtain Y|Y:=LG.mp Y
    .exact .inl (.inr #[k',Y,L])
    .let:k'=k:=by simpa using Y
     rw[this]at L;exact .inr L
 rintro O u ⟨v3,pc,rfl,rfl,aI⟩;rw[Lp,LP]at aI;let a0:∀ v,pc.O v=kf↔(rm.O v=kf∨∃ k,rm.O k=kf/\(pcs ps k).O v=kf):=λv=>by
  rw[aI v];exact or_congr Iff.rfl #[λ⟨k,Y,L⟩=>#[k,mem_bl.mp Y,L],λ⟨k,Y,L⟩=>#[k,mem_bl.mpr Y,L]]
 let aT:(ps.h iV).L=n:=by simp[*]
 erw[9,p,U,#[_,SqL.of am],gO (K:=K) (xs:=ps.h iV) (λi t H3=>Same u H3/\∃ qs:E R,t=qs.h iV/\qs.L=i/\∀ v,v<i->pcs qs v=HM.jn2 (pcs ps) pc v) (LN (av ∅)) #[λ_ _ e=>e,[],10,λv m=>R7 m (MR _)] (λi t H3 _ z=>SqL.of (z.1 _ _ am)) ?_ ?_ (λi t H3 ae=>by let _ qs e ql _:=ae;simp[*])]
 .rintro i x t H3 T2 J ⟨s3,qs,rfl,ql,qb⟩ ac;let B:i<n:=by rw[← aT];exact(Lm.mp J).1
  let sT:=ak ac (.tup [.int (i:G),x]);rw[LA]at J;let b M rfl:=LL.mp J;let bb:=pb b (Ln M)
  let step:∀ y:R,y=HM.jn2 (pcs ps) pc i->∃ aX:E R,qs.h iV++[iV y]=aX.h iV/\aX.L=i+1/\∀ v,v<i+1->pcs aX v=HM.jn2 (pcs ps) pc v:=λy d=>#[qs++[y],by rw[LC];rfl,by rw[Lx,ql];rfl,λv m=>by
   unfold pcs;rw[LB];by_cases c:v<i
   .rw[Ls ∅,← LB]
    exact qb v c
   .let:v=qs.L:=by lia
    rw[this,Lr (Lq _),Mf,ql]
    exact d]
  let eb:pcs ps i=b:=by unfold pcs;rw[LB,M];rfl
  erw[T2,9,SqT.of ag,173462,yesT ?_];erw[42393,(show(0:G)<=(i:G) by lia),9893,ite2 (λc=>?_) (λc=>?_)]
  .let c':pc.O i=kf:=(sk pc i).mp (V.int.inj (RS c))
   erw[9,s3.Q sT,step pc (by unfold HM.jn2;rw[R5 c'])]
  .let c':¬ pc.O i=kf:=λz=>c (Rl (congrArg V.int ((sk pc i).mpr z)))
   erw[9,s3.Q sT,step b (by unfold HM.jn2;rw[R6 c',eb])]
 rintro t H3 ⟨s3,qs,rfl,ql,qb⟩ D hD;exact kk D qs pc _ (j.Q (s3.Q (ak hD _))) ag (by rw[ql,aT]) a0 λv m=>qb v (by rw[aT];exact m)
def bit01(u i:R):Q4 ((u:G)/2^((i:R):G).U) 1=0∨Q4 ((u:G)/2^((i:R):G).U) 1=1:=by
 let C:(u:G)/2^((i:R):G).U=((u/2^i:R):G):=by rfl
 let eg:Q4 ((u/2^i:R):G) 1=((u/2^i&&&1:R):G):=andN _ 1;grind
def EA(ok:Lok n ls){h h':R->G}(e:∀ v,v<n->h v=h' v):evs n ls h=evs n ls h':=by
 unfold evs;congr 1
 .simp!
 .exact M7 λl d=>by rw[e _ (ok.sm l d).1,e _ (ok.sm l d).2]
def oldP(kv:E (R×R))(M:R):R:=((kv.find? λe=>decide (e.1=M)).h (·.2)).f 0
def Jv(kv:E (R×R))(M:R):(valV (toK kv) (.inl (M:G))).f (.int 0)=V.int ((oldP kv M:R):G):=by
 unfold valV toK oldP;rw[List.find?_map];let:((λkv:Key×V=>decide (kv.1=Sum.inl (M:G)))∘λe:R×R=>((Sum.inl (e.1:G):Key),V.int (e.2:G)))=λe=>decide (e.1=M):=funext λe=>by
  show decide (Sum.inl (e.1:G)=(Sum.inl (M:G):Key))=_;exact decide_eq_decide.mpr #[λz=>OH (Sum.inl.inj z),λz=>by rw[z]]
 rw[this]
 cases kv.find? λe=>decide (e.1=M)<;>rfl
theorem Du{M:R}:∀{kv:E (R×R)},(kv.h (·.1)).l->∀ e∈kv,e.1=M->oldP kv M=e.2
 |x::kv,h,e,eK,em=>by
  rw[LX]at h;let Y L:=LF.mp h;unfold oldP;rw[Oa];by_cases c:x.1=M
  .rw[Rl c];obtain rfl|eK:=Lz.mp eK
   .rfl
   .exact R7 (LW.mpr #[e,eK,em.Q c.Y]) Y
  .rw[QF c];obtain rfl|eK:=Lz.mp eK
   .exact R7 em c
   .exact Du L e eK em
def Jt{t:R}(nd:(kv.h (·.1)).l):putK (toK kv) (.inl (M:G)) (V.int (((oldP kv M:R):G)+(t:G)))=toK (upK kv M t):=by
 let any:((toK kv).any λe=>decide (e.1=Sum.inl (M:G)))=kv.any λe=>decide (e.1=M):=by
  unfold toK;rw[List.any_map];congr 1;funext e;show decide (Sum.inl (e.1:G)=(Sum.inl (M:G):Key))=_;exact decide_eq_decide.mpr #[λz=>OH (Sum.inl.inj z),λz=>by rw[z]]
 unfold putK upK;rw[any];split
 .unfold toK;rw[Nd,Nd];refine M7 λe eK=>?_;show(if(Sum.inl (e.1:G):Key)=Sum.inl (M:G) then _ else _)=((Sum.inl (((if e.1=M then(e.1,e.2+t) else e).1:R):G):Key),V.int (((if e.1=M then(e.1,e.2+t) else e).2:R):G));by_cases c:e.1=M
  .rw[R5 (by rw[c]),R5 c,Du nd e eK c]
   rfl
  .rw[R6 (show ¬ (Sum.inl (e.1:G):Key)=Sum.inl (M:G) from λz=>c (OH (Sum.inl.inj z))),R6 c]
 .rename_i c;let k:oldP kv M=0:=by
   unfold oldP;rw[List.find?_eq_none.mpr λe eK z=>c (Qc.mpr #[e,eK,z])];rfl
  rw[k];unfold toK;simp
def Bw{r t:R}{hs:E R}{y:R}(h:hs[j]?=Z y):oj r t kv (hs.j (j+1))=if inP r t y=kf then upK (oj r t kv (hs.j j)) y t else oj r t kv (hs.j j):=by
 unfold oj;rw[LK,h,io.toList_some,O3];rfl
theorem Ju(kv:E (R×R)):(toK kv).L=kv.L:=Lp ..
def Jq(kv:E (R×R))(M t:R):(upK kv M t).L<=kv.L+1:=by
 unfold upK;split
 .simp
 .simp
theorem xr:∀(ns l:E G),(ns.foldl addN l).L<=l.L+ns.L
 |[],_=>Lq _
 |k::ns,l=>by
  let:=xr ns (addN l k);let:=A9 l k;grind
def dZ:az ["many","links","marks","row","root","pieces","prices","drying","lower","levels","piece"] ["many","links","marks"] (aq tL):=by ac_nf
def ok_hills{TT f3 f4:e8}{a2 ba be:fk}(F:Fun K "hills" "hills" tL f fd)(T:TxtH mg)(bi:lc 11 "heights" ["many","links","marks"] (spHts TT) f1 eK)(bm:lc 1 "dryings" ["links","tops"] spDry f2 a2)(aT:lc 2 "root_of" ["marks"] Cw f3 ba)(bu:lc 2 "joined" ["pieces","rooms"] Im f4 be):k9 12 f fd ["many","links","marks"] (spHills TT):=by
 refine F.ok dZ (by walk_at "l") λab A aa s H vs Q eg N h=>?_
 let v n mk ls rfl hV ok n1 hc ap ev fw ac a4 kk:=h;let hu:=uz N;let a0:=ok.n1;let b6:(2:R)^40=1099511627776:=by rfl
 let Y:2^n<=2^40:=Mw ∅ a0
 let rn:=tP ap n1
 intro Xc Dc;erw[_,(ah (aA 3 dZ.nd (bm.c N (af (pv 1) (af (bi.c N (af (pv 0) (af (pv 1) (af (pv 2) aj)))) aj))))
   (ah (aA 4 dZ.nd (aT.c N (af (pv 2) aj)))
   (ah (oU 5 [] ["room"] dZ.nd (aO U T.n_range (af (pv 0) aj)) pg_c pt_c (λC ex s H=>ai))
   (ah (aA 6 dZ.nd mR)
   (ah (mj (Df U T.n_zip (af (pv 3) (af (mP qm (pv 3) (qB ai) qC) aj))) (qD U (aH (bW 7 dZ.nd) (aH (bW 8 dZ.nd) b7))) (ah (aA 5 dZ.nd (bu.c N (af (pv 5) (af (aG (pv 7) ai) aj))))
   (ah (aA 9 dZ.nd (aw iW (aG (pv 7) ai) (aG (pv 8) ai)))
   (ao (mj (aN (ay (B4 U U U) (by rfl) T.n_sorted rj (af (dD (E7 U U U U) (by rfl) T.n_set bt_set (af (pv 5) aj)) aj))) (bW 10 dZ.nd) (ao (bH (PW.pt (Iu (aC ye (pv 9) ai (aE _)) (Iu (aC i4 (pv 10) ai (aE _)) (JP (aC cR (aw fN (aw de (pv 10) (pv 4)) ai) ai (aE _)))))) (ao (lF hu (pv 6) (pv 10) (aw cA (F3 hu (pv 6) (pv 10) ai #[170]) (pv 9)) U)) aM)))))))
   (ao (aD (dD (B7 U) (by rfl) T.n_list iQ (af (Iy O5 Qy PySem.F.type_dict_items GG (pv 6)) aj))))))))),3]
 erw[39321,v,n,mk,ls,U,hV,ok,n1,hc,ap,ev,fw,a4,λp cs H1 a7 bb hp cl cE=>?_];erw[v,p,n,ls,cs.h λc=>cs.f (aQ mk) 0-c,U,hV.smT a7,ok,by rw[hp,Nd];rfl,by rw[Lp,cl],ac,λq out row H2 s2 hq a6 cw=>?_]
 let aS:Drw n ls (λv=>cs.f (aQ mk) 0-cs.f v 0) row:=#[by
  rw[EA ok (h':=λv=>(cs.h λc=>cs.f (aQ mk) 0-c).f v 0) λv hv=>?_]
  .exact cw.rp
  .simp[*],cw.srt]
 clear cw;let rl:row.L=n+ls.L:=by
  rw[aS.rp.length_eq];unfold evs;rw[Lx,Lp,Lp,Na]
 let ol:out.L=row.L:=a6.1;let e0 cF:∃ e0,row[0]?=Z e0:=#[_,Ll ∅]
 let I0 lip c0:=HI.first ok hc ap rn cE aS.rp aS.srt cF;let oc:Opt (farD ls) (bl mk) (cs.f (aQ mk) 0):=by
  let:=cE _ rn;rw[MC,NO,OT]at this;exact this
 generalize a5:cs.f (aQ mk) 0=cr at I0 lip c0 oc aS;generalize db:(λv=>cr-cs.f v 0)=hv at I0 lip aS;let bn:∀ i,i<ls.L->hv (aL ls i)-hv (bL ls i)<=nL ls i/\hv (bL ls i)-hv (aL ls i)<=nL ls i:=by rw[← db];exact lip
 erw[9,mk,18,λH3 s3=>?_]
 erw[153,(by lia),(by ac_rfl),cH (n:=n) (λi zs H4=>H4=H3/\zs=(LD i 0).h iV) (LN (av (by lia))) #[10] ?_ ?_]
 .rintro i zs H4 B ⟨rfl,rfl⟩;erw[14];rw[Od,LC];rfl
 rintro zs H4 _ ⟨rfl,rfl⟩ pp dc;let s5:=ak dc (.lst ((LD n 0).h iV));refine λd hd=>?_;let sd:=ak hd (.dK []);let b8:Same H2 (upd (upd H4 pp (.lst ((LD n 0).h iV))) d (.dK [])):=s3.Q (s5.Q sd);let an:=b8 _ _ hq;let ce:=sd _ _ (show upd H4 pp (.lst ((LD n 0).h iV)) pp=_ from ag);let bN:H2 d=k7:=fK (s3.Q s5) hd;let gd:(upd (upd H4 pp (.lst ((LD n 0).h iV))) d (.dK [])) d=Z (.dK []):=ag;let ch:=a6.mono b8;generalize upd (upd H4 pp (.lst ((LD n 0).h iV))) d (.dK [])=H6 at b8 an ce gd ch;erw[2457,q,9,SqL.of an,λq7 a3=>?_];rw[Hz];let s7:=ak a3 (.lst (out.drop 1));let dd:q7≠d:=λz=>by rw[z,gd]at a3;cases a3
 let bP:(upd H6 q7 (.lst (out.drop 1))) q7=Z (.lst (out.drop 1)):=ag;let ca:=s7 _ _ gd;let bv:=b8.Q s7;let ci:=s7 _ _ ce;let df:q≠d:=λz=>by rw[z,gd]at an;cases an
 let ck:=ch.mono s7;let bR:=s7 _ _ an;generalize upd H6 q7 (.lst (out.drop 1))=H7 at s7 bP ca bv ci ck bR;let dl:(out.drop 1).L=out.L-1:=P8 ..;let cK:∀{H9:Hp}{i:R}{e:G×G},TbS d H7 H9->row[i]?=Z e->∃ t,out[i]?=Z (.ref t)/\H9 t=Z (.tup [.int e.1,.int e.2]):=λ{H9 i e} sT J=>by
  let t z1 z2:=ck.2 i e J;erw[t,z1,sT _ _ (λy=>by rw[y,ca]at z2;cases z2) z2]
 let bp:∀{i:R}{e:G×G},row[i]?=Z e->row.f i (0,0)=e:=λ{i e} h=>by rw[LB,h];rfl
 erw[q,q7,U,#[_,SqL.of bR],#[_,SqL.of bP],Hc (K:=K) (xs:=out) (zs:=out.drop 1) (out.L-1) (λi O H9=>∃(v7 v8 v9 ae:io V)(pa:e8)(ps:E R)(kv:E (R×R))(l m:R->R),O=[Z (.int (n:G)),Z v,Z (.int (mk:G)),Z (.ref q),Z (.int ((aQ mk:R):G)),Z (.ref pa),Z (.ref d),v7,v8,v9,ae]/\TbS d H7 H9/\H9 d=Z (.dK (toK kv))/\kv.L<=40*i/\H9 pa=Z (.lst (ps.h iV))/\HI n ls mk hv row (2*cr).U i (row.f i (0,0)).1 ps l m kv)
  #[85,pp,LD n 0,[],37,λ_ _ _ e=>e,ca,Lq _,ci,by rw[bp cF];exact I0] (Nat.sub_le _ _) dl (λi O H9 _ al=>by let _ _ _ _ _ _ _ _ _ _ sT _:=al;erw[SqL.of (sT _ _ df bR),SqL.of (sT _ _ dd bP)]) ?_ ?_]
 .rintro i x z O H9 T9 J hz ⟨v7,v8,v9,ae,pa,ps,kv,lq,m,rfl,sT,bU,kl,cL,I⟩ cu;let B:i<out.L-1:=by rw[← dl];exact(Lm.mp hz).1
  let e M:∃ e,row[i]?=Z e:=#[_,Ll ∅]
  let e' aX:∃ e,row[i+1]?=Z e:=#[_,Ll ∅]
  let tx am cM:=cK sT M;let tz cq dg:=cK sT aX;rw[J]at am
  cases am
  rw[PM,P4,cq]at hz
  cases hz
  rw[bp M]at I;let bg:e∈evs n ls hv:=aS.rp.mem_iff.mp (Ln M);let u w' dh dn e2 e3 _:=EB ok bn bg;let dp:e.2.U<2^n:=by
   rw[e2];exact PR (Mv ∅ dh) (Mv ∅ dn)
  let e4:V.int e.2=V.int ((e.2.U:R):G):=by rw[e2,e3]
  let dr:e'.1<=e.1:=by
   let i1 i2:=Lm.mp M;let j1 j2:=Lm.mp aX;let:=MV.mp aS.srt i (i+1) i1 j1 ∅
   rw[i2,j2]at this;exact this
  let s9:=ak cu (.tup [.ref tx,.ref tz]);erw[T9,9,SqT.of ag,238998];erw[153,tx,_,01,41,SqT.of (s9 _ _ cM),at1,pa,n,e.2.U,ps,by rw[← e4];rfl,s9 _ _ cL,I.pl,I.pb,dp,a0,λqa qs PP HA sA cb ql ds b0=>?_]
  let I2 dt:=I.join ok bn M bg U ds ql b0;let cc:=s9.Q sA;erw[9,tx,_,00,41,SqT.of (cc _ _ cM),at0,9,tz,_,00,41,SqT.of (cc _ _ dg),at0,933];let en:qs.h iV=(qs.h λx:R=>(x:G)).h V.int:=by rw[Nd];rfl
  let nl:(qs.h λx:R=>(x:G)).L=n:=by rw[Lp,ql]
  erw[9,qa,qs.h λx:R=>(x:G),U,SqL.of (by rw[cb,en]),4,λa ha=>?_]
  let cy:HA d=Z (.dK (toK kv)):=cc _ _ bU;let cC:((qs.h λx:R=>(x:G)).foldl addN []).L<64:=by
   let:=xr (qs.h λx:R=>(x:G)) [];rw[NY]at this;lia
  erw[a,9,ag,cC,λl hs D mem pw=>?_];let ld:l≠d:=λy=>by
   subst y;let L:=(ak ha (setO P w a ((qs.h λx:R=>(x:G)).foldl addN []))) _ _ cy
   cases (D.Y.Q L)
  let qd:qa≠d:=λy=>by
   rw[y,cy]at cb;cases cb
  let co:∀ x,x∈hs↔x∈qs.h λx:R=>(x:G):=λx=>by
   rw[mem x,HL];erw[λh=>h.elim (λh=>(nomatch h)) id,.inr]
  let hn du:∃ hn:E R,hn=hs.h Int.toNat:=#[9];let cD:hs=hn.h λx:R=>(x:G):=by
   rw[du,Nd];refine((M7 (g:=id) λx J=>?_).Q (List.map_id _)).Y;let y _ rfl:=LW.mp ((co x).mp J);rfl
  let cO:hn.l:=by
   rw[cD]at pw;exact(Ox.mp pw).imp λh e=>by rw[e]at h;lia
  let cP:∀ y,y∈hn↔y∈qs:=λy=>by
   let:=co (y:G);rw[cD,LW,LW]at this;constructor
   .intro h;let x Y L:=this.mp #[y,h,U];rw[← OH L];exact Y
   .intro h;let x Y L:=this.mpr #[y,h,U];rw[← OH L];exact Y
  let ct:hn.L<=n:=by
   let:=IC (l:=hn) (ps:=qs) cO λx J=>(cP x).mp J;lia
  let t ht:∃ t:R,(e.1-e'.1).U=t:=#[9];let et:e.1-e'.1=(t:G):=by lia
  let dv:(hs.h V.int)=hn.h iV:=by rw[cD,Nd];rfl
  rw[dv];erw[l,U,#[_,SqL.of ag],bO (K:=K) (xs:=hn.h iV) (λj O HX=>∃(ae:io V)(aI:E (R×R)),O=[Z (.int (n:G)),Z v,Z (.int (mk:G)),Z (.ref q),Z (.int ((aQ mk:R):G)),Z (.ref qa),Z (.ref d),Z (.ref tx),Z (.ref tz),Z (.int (e.1-e'.1)),ae]/\TbS d HA HX/\HX l=Z (.lst (hn.h iV))/\HX d=Z (.dK (toK aI))/\aI=oj (aQ mk) t kv (hn.j j)/\aI.L<=40*i+j) #[_,kv,U,λb o _ e=>((ak ha _).Q (ak D _)) _ _ e,ag,((ak ha _).Q (ak D _)) _ _ cy,U,kl] (λj O HX _ al=>by let _ _ _ _ z _:=al;exact SqL.of z) ?_ ?_]
  .rintro j y O HX hy ⟨ae,aI,rfl,sX,cQ,bB,bJ,cT⟩;let hj:j<hn.L:=by
    let:=(Lm.mp hy).1;rw[Lp]at this;exact this
   rw[LA]at hy;let yv dx rfl:=LL.mp hy;let cW:=Bw (r:=aQ mk) (t:=t) (kv:=kv) dx;let no:inP (aQ mk) t yv=kt->∃(ae:io V)(aI:E (R×R)),[Z (V.int (n:G)),Z v,Z (.int (mk:G)),Z (.ref q),Z (.int ((aQ mk:R):G)),Z (.ref qa),Z (.ref d),Z (.ref tx),Z (.ref tz),Z (.int (e.1-e'.1)),Z (iV yv)]=[Z (.int (n:G)),Z v,Z (.int (mk:G)),Z (.ref q),Z (.int ((aQ mk:R):G)),Z (.ref qa),Z (.ref d),Z (.ref tx),Z (.ref tz),Z (.int (e.1-e'.1)),ae]/\TbS d HA HX/\HX l=Z (.lst (hn.h iV))/\HX d=Z (.dK (toK aI))/\aI=oj (aQ mk) t kv (hn.j (j+1))/\aI.L<=40*i+(j+1):=λz=>#[_,aI,U,sX,cQ,bB,by rw[cW,z,R6 (by simp)];exact bJ,4]
   erw[39513,ite2 (λc1=>?_) (λc1=>no ?_)];rotate_left
   .unfold inP;rw[QF (λz=>c1 (Rl (by show(0:G)<e.1-e'.1;lia)))]
    rfl
   let da:(0:G)<e.1-e'.1:=RS c1;erw[617,ite2 (λc2=>?_) (λc2=>no ?_)];rotate_left
   .let:yv=0:=Decidable.byContradiction λz=>c2 (by
     rw[QF (show ¬ iV yv=V.int 0 from λy=>z (OH (V.int.inj y)))]
     rfl)
    unfold inP;rw[this];simp
   let dy:yv≠0:=λz=>by
    rw[z]at c2;exact R7 c2 (by rw[Rl (show iV 0=V.int 0 from rfl)];decide)
   erw[42393,(show(0:G)<=((aQ mk:R):G) by lia),9893,ite2 (λc3=>?_) (λc3=>no ?_)]
   rotate_left
   .cases z:yv.O (aQ mk) with
    |true=>unfold inP;rw[z];simp
    |false =>
     exfalso;refine c3 (Rl (congrArg V.int ?_));let h0:=(sk yv (aQ mk));rw[z]at h0;let Y:=bit01 yv (aQ mk);obtain Y|Y:=Y
     .exact Y
     .exact R7 (h0.mp Y) (by simp)
   let dz:yv.O (aQ mk)=kt:=by
    cases z:yv.O (aQ mk) with
    |false=>rfl
    |true =>
     let h0:=(sk yv (aQ mk)).mpr z;let Y:Q4 ((yv:G)/2^((aQ mk:R):G).U) 1=0:=V.int.inj (RS c3);rw[h0]at Y
     cases Y
   let cd:inP (aQ mk) t yv=kf:=by
    unfold inP;rw[Rl (show 0<t by lia),Rl dy,dz]
    rfl
   let big:(toK aI).L<QG:=by
    rw[Ju];let:aI.L<3000:=by lia
    exact NI this ∅
   let cp:=Jv aI yv;let bK:(aI.h (·.1)).l:=by rw[bJ];exact pZ I2.nd
   erw[9,d,U,.inl #[_,.inl bB],25,DGet.k (k:=.inl (yv:G)) bB,89,cp,614,d,9,DPut.k (k:=.inl (yv:G)) bB big,3];rw[et,Jt bK];erw[_,upK aI yv t,U,(λb o nb e=>by rw[ar nb];exact sX b o nb e),by rw[ar ld];exact cQ,ag,by rw[cW,cd,R5 U,bJ],3]
   let:=Jq aI yv t;lia
  .rintro O HX ⟨ae,aI,rfl,sX,_,bB,bJ,cT⟩;rw[Lp]at cT;rw[Lp,LP]at bJ;let l' m' I3:=I2.down bn dt aS.rp aS.srt aX dr cO cP rn;rw[ht,← bJ]at I3;erw[85,qa,qs,aI,l',m',U,λb o nb e=>sX b o nb (cc _ _ (sT b o nb e)),bB,4,sX _ _ qd cb,by rw[bp aX];exact I3]
 .rintro O H9 ⟨v7,v8,v9,ae,pa,ps,kv,lq,m,rfl,sT,bU,kl,cL,I⟩;let e M:∃ e,row[out.L-1]?=Z e:=#[_,Ll ∅]
  rw[bp M]at I;let m0:=I.end ok bn aS.rp M U ∅ rn
  let hH:=I.hls c0 ok m0;erw[9,.inr (.inr (.inl #[U,.inl #[_,bU]])),d,41,bU,True.intro,λvw dC=>?_];let sv:=ak dC (AL vw d);erw[vw,d,toK kv,kv.h (λe=>((e.1:G),(e.2:G))),U,ag,sv _ _ bU,by unfold toK;rw[Nd];rfl,λl ys cv c6 D c7 yl dE=>?_]
  let a1:Tb lqF lpF TT H7:=tb_same (tb_same bb s2) bv;refine kk l ys kv cr cv (λb o no e=>?_) (tb_same (HV a1 ca sT) (sv.Q c6)) c7 #[yl,dE] ∅ oc hH
  let e2:=s2 _ _ (a7 b o no e);exact c6 _ _ (sv _ _ (sT b o (λz=>by rw[z,bN]at e2;cases e2) (bv _ _ e2)))
def chN(a b M:R):R:=cond (M.O a ^^ M.O b) 1 0
def pdN(kv:E (R×R))(l:Lk):R:=wsum (chN l.1 l.2.1) kv
def tgB(ls:E Lk)(kv:E (R×R))(k:R):i0:=decide (((pdN kv (lkA ls k):R):G)=2*(lkA ls k).2.2)
def crN(ls:E Lk)(ww:R->i0)(N M:R):R:=HM.csw (λi=>chN (aL ls i) (bL ls i) M) ww N
structure Kpt(ls:E Lk)(kv:E (R×R))(ww:R->i0)(N:R):Prop where
 tg:∀ k,k<N->ww k=kf->tgB ls kv k=kf
 cr:∀ e∈kv,crN ls ww N e.1=1
theorem E3(t:R)(w:R->R)(ww:R->i0):∀ n,HM.csw (λi=>t*w i) ww n=t*HM.csw w ww n
 |0=>rfl
 |n+1=>by
  show HM.csw (λi=>t*w i) ww n+cond (ww n) (t*w n) 0=t*(HM.csw w ww n+cond (ww n) (w n) 0);rw[E3 t w ww n,Nat.mul_add]
  cases ww n<;>rfl
theorem IQ(ls:E Lk)(ww:R->i0)(N:R):∀ kv:E (R×R),HM.csw (λi=>pdN kv (lkA ls i)) ww N=wsum (crN ls ww N) kv
 |[]=>by
  let:∀ n,HM.csw (λ_=>0) ww n=0:=λn=>by
   induction n with
   |zero=>rfl
   |succ n O=>show HM.csw (λ_=>0) ww n+cond (ww n) 0 0=0;simp!
  exact this N
 |e::kv=>by
  show HM.csw (λi=>e.2*chN (aL ls i) (bL ls i) e.1+pdN kv (lkA ls i)) ww N=e.2*crN ls ww N e.1+wsum (crN ls ww N) kv;rw[HM.csw_add,E3,IQ ls ww N kv];rfl
def csw_eq{w v:R->R}{ww:R->i0}(h:∀ i,i<n->w i<=v i)(e:HM.csw w ww n=HM.csw v ww n):∀ i,i<n->ww i=kf->w i=v i:=by
 induction n with
 |zero=>exact λi B=>R7 B (MR _)
 |succ n O =>
  intro i B u;let a:=HM.csw_le (w:=w) (v:=v) (F:=ww) (eK:=ww) (n:=n) λj J=>by cases ww j<;>simp[h j ∅]
  let b:cond (ww n) (w n) 0<=cond (ww n) (v n) 0:=by cases ww n<;>simp[h n ∅]
  let e:HM.csw w ww n+cond (ww n) (w n) 0=HM.csw v ww n+cond (ww n) (v n) 0:=e;by_cases c:i=n
  .lia
  .exact O (λj J=>h j ∅) ∅ i ∅ u
theorem Ai{g:R->R}:∀{kv:E (R×R)},(∀ e∈kv,1<=e.2/\1<=g e.1)->wsum (λ_=>1) kv<=wsum g kv/\(wsum g kv=wsum (λ_=>1) kv->∀ e∈kv,g e.1=1)
 |[],_=>#[Lq _,λ_ e eK=>nomatch eK]
 |x::kv,h=>by
  let a b:=Ai (g:=g) (kv:=kv) λe eK=>h e (Lu _ eK);let r q:=h x (Ly ..);let j:x.2*1<=x.2*g x.1:=Nat.mul_le_mul_left _ q;let C:wsum g (x::kv)=x.2*g x.1+wsum g kv:=rfl;let eg:wsum (λ_=>1) (x::kv)=x.2*1+wsum (λ_=>1) kv:=rfl;erw[4,λz e eK=>?_]
  obtain rfl|eK:=Lz.mp eK
  .exact Nat.eq_of_mul_eq_mul_left (show 0<e.2 by lia) ∅
  .grind
def Hls.kept{u:R}{c:G}(h:Hls n ls mk c kv)(ok:Lok n ls)(M:oddE ls u ls.L=mk):c<=cstU ls u ls.L/\(Kpt ls kv (λi=>u.O i) ls.L↔cstU ls u ls.L=c):=by
 let T:=IQ ls (λi=>u.O i) ls.L kv;let t:=qY (λl d=>(ok.w0 l d).1) u ls.L (Lq _);let I:∀ i,i<ls.L->0<=nL ls i/\aL ls i<n/\bL ls i<n:=λi B=>by
  let e:=Ll B;unfold nL aL bL;rw[lkA_is e];erw[(ok.w0 _ (Ln e)).1,ok.sm _ (Ln e)]
 let D:∀ i,i<ls.L->pdN kv (lkA ls i)<=dL ls i:=λi B=>by
  let a:((pdN kv (lkA ls i):R):G)<=2*nL ls i:=h.pd i B;let:=(I i B).1;unfold dL;lia
 let H:=HM.csw_le (w:=λi=>pdN kv (lkA ls i)) (v:=dL ls) (F:=λi=>u.O i) (eK:=λi=>u.O i) (n:=ls.L) λj J=>by cases u.O j<;>simp[D j J]
 let cr:∀ e∈kv,1<=e.2/\1<=crN ls (λi=>u.O i) ls.L e.1:=λe L=>by
  let f _ _ p:=h.ke e L;let q:=HM.cut (n:=n) (a:=aL ls) (b:=bL ls) (λx=>e.1.O x) (λi=>u.O i) (N:=ls.L) λi B=>(I i B).2;simp only[A7,M]at q;let i B z:=HM.par_some (q.Q p);let s A:=i0.and_eq_true_iff.mp z;let:=HM.csw_pos (w:=λi=>chN (aL ls i) (bL ls i) e.1) (F:=λi=>u.O i) B s;let C:chN (aL ls i) (bL ls i) e.1=1:=by unfold chN;rw[A];rfl
  simp only[C]at this;erw[f,this]
 let y m:=Ai cr;let sm:=h.sm;erw[4,λk=>?_,λz=>#[λk o g=>Rl ?_,m ∅]]
 .let q:HM.csw (λi=>pdN kv (lkA ls i)) (λi=>u.O i) ls.L=HM.csw (dL ls) (λi=>u.O i) ls.L:=HM.csw_congr λi B=>by
   cases b:u.O i with
   |false=>rfl
   |true =>
    let:=RS (k.tg i B b);show pdN kv (lkA ls i)=dL ls i;unfold dL nL;lia
  let r:wsum (crN ls (λi=>u.O i) ls.L) kv=wsum (λ_=>1) kv:=congrArg List.sum (M7 λe L=>by rw[k.cr e L])
  lia
 .let q:HM.csw (λi=>pdN kv (lkA ls i)) (λi=>u.O i) ls.L=HM.csw (dL ls) (λi=>u.O i) ls.L:=by lia
  let:=csw_eq D q k o g;rw[this];let:=(I k o).1;unfold dL nL at *;lia
abbrev Pr:=G×G
def bt(u:G)(i:R):i0:=decide (Q4 (u/2^((i:R):G).U) 1=1)
def stepE(e:G)(l:Lk):G:=Q6 (Q6 e (1*2^((l.1:R):G).U)) (1*2^((l.2.1:R):G).U)
def uH(u:G)(ls:E Lk):R->G
 |0=>0
 |i+1=>if bt u i=kf then stepE (uH u ls i) (lkA ls i) else uH u ls i
def uY(u:G)(ls:E Lk):R->G
 |0=>0
 |i+1=>if bt u i=kf then uY u ls i+(lkA ls i).2.2 else uY u ls i
def jB(ls:E Lk)(m:R)(u:G):i0:=decide (u/2^((ls.L:R):G).U=0)&&decide (uH u ls ls.L=(m:G))
def cB(n m:R)(p:Pr):i0:=decide (0<=p.1)&&(decide (p.1/2^((n:R):G).U=0)&&(decide ((bl (p.1.U&&&m)).L%2=1)&&decide (1<=p.2)))
def pT(a b:R)(p:Pr):i0:=decide (Q4 (Q6 (p.1/2^((a:R):G).U) (p.1/2^((b:R):G).U)) 1=1)
def paidF(r:E Pr)(a b:R):G:=((r.filter (pT a b)).h (·.2)).sum
def lB(r:E Pr)(l:Lk):i0:=decide (paidF r l.1 l.2.1<=2*l.2.2)
def exB(n m:R)(ls:E Lk)(u:G)(r:E Pr):i0:=jB ls m u&&(r.all (cB n m)&&(ls.all (lB r)&&decide ((r.h (·.2)).sum=2*uY u ls ls.L)))
def PrAt(H:Hp)(v:V)(p:Pr):Prop:=∃ t,v=.ref t/\H t=Z (.tup [.int p.1,.int p.2])
def PpAt(H:Hp)(v:V)(r:E Pr):Prop:=∃ a O,v=.ref a/\H a=Z (.lst O)/\LsAt PrAt H O r
def PrAt.mono{p:Pr}(h:PrAt H v p)(s:mu H'):PrAt H' v p:=by
 let t e z:=h;erw[t,e,s _ _ z]
def PpAt.mono{H H':Hp}{v:V}{r:E Pr}(h:PpAt H v r)(s:mu H'):PpAt H' v r:=by
 let a O e z l:=h;erw[a,O,e,s _ _ z,l.imp λ_ _ q=>q.mono s]
theorem big3{k:R}(h:k<=3000):k<=QG:=MB h ∅
structure TxtE(mg:ff->io eN):Prop extends TxtH mg where
 n_sum:mg "sum"=k7
 n_all:mg "all"=k7
 n_max:mg "max"=k7
inductive CJ
 |mk (v:V)(u:G)(ls:E Lk)(n:R) (_:vs=[v,.int u])(_:LnAt H v ls)(_:Lok n ls)(_:∀ H',mu H'->Q (.int (uH u ls ls.L)) H')
inductive CH
 |mk (v:V)(m:R)(u:G)(ls:E Lk)(n:R) (_:vs=[v,.int (m:G),.int u])(_:LnAt H v ls)(_:Lok n ls)(_:∀ H',mu H'->Q (.bl (jB ls m u)) H')
inductive Aq
 |mk (n m:R)(p:Pr) (_:vs=[.int (n:G),.int (m:G),.int p.1,.int p.2])(_:n<=40)(_:∀ H',mu H'->Q (.bl (cB n m p)) H')
inductive Ij
 |mk (v pv:V)(l:Lk)(r:E Pr) (_:vs=[v,pv])(_:LkAt H v l)(_:PpAt H pv r)(_:r.L<=3000)(_:∀ H',mu H'->Q (.int (paidF r l.1 l.2.1)) H')
inductive CK
 |mk (v:V)(u:G)(ls:E Lk) (_:vs=[v,.int u])(_:LnAt H v ls)(_:ls.L<=60)(_:∀ H',mu H'->Q (.int (uY u ls ls.L)) H')
inductive spExam
 |mk (n m:R)(lv pv:V)(u:G)(ls:E Lk)(r:E Pr) (_:vs=[.int (n:G),lv,.int (m:G),.int u,pv])(_:LnAt H lv ls)(_:PpAt H pv r)(_:Lok n ls)(_:r.L<=3000)(_:∀ H',mu H'->Q (.bl (exB n m ls u r)) H')
def fJ:az ["links","used","rooms","number","link"] ["links","used"] (aq jZ):=by ac_nf
def ok_endsX(F:Fun K "odd_ends" "odd_ends" jZ f fd)(T:TxtE mg):k9 1 f fd ["links","used"] CJ:=by
 refine F.ok fJ (by walk_at "l") λB A M s H L Q eg N h=>?_
 let v u eK n rfl{a t rfl q k}ok y:=h;let b:=ok.n1
 intro j C;erw[_,(ah (aA 2 fJ.nd ai)
   (ah (mj (g9 U T.n_enumerate (af (pv 0) aj)) (qD U (aH (bW 3 fJ.nd) (aH (bW 4 fJ.nd) b7))) (ao (bH (aC cR (aw fN (aw de (pv 1) (pv 3)) ai) ai (aE _)) (ao (aA 2 fJ.nd (aw c9 (aw c9 (pv 2) (aw b9 ai (aG (pv 4) ai))) (aw b9 ai (aG (pv 4) ai))))) aM)))
   (ao (aD (pv 2))))),3]
 erw[9,a,U,#[_,SqL.of q],pY (K:=K) (xs:=t) (λi O Y=>∃ v3 r,O=[Z (.ref a),Z (.int u),Z (.int (uH u eK i)),v3,r]/\mu Y) #[37,λ_ _ e=>e] (λi O Y _ z=>?_) ?_ ?_]
 .let _ _ _ o:=z;exact SqL.of (o _ _ q)
 .rintro i x O Y T2 J ⟨v3,r,rfl,o⟩ I;let l d p rfl g:=k.get J;let b1 b2:=ok.sm l (Ln d);let m:mu (upd Y T2 (.tup [.int (i:G),.ref p])):=o.Q (ak I _);erw[T2,9,SqT.of ag,238998];erw[42393,(show(0:G)<=(i:G) by lia),59045]
  refine ite2 (λc=>?_) (λc=>?_)
  .let D:bt u i=kf:=Rl (V.int.inj (RS c))
   erw[153,p,_,00,41,SqT.of (m _ _ g),a30,165,#[20,by decide],2469,p,_,01,41,SqT.of (m _ _ g),a31,165,#[20,by decide],933]
   erw[Z (.int (i:G)),Z (.ref p),3,m];rw[uH,R5 D,lkA_is d];rfl
  .let D:¬ bt u i=kf:=λz=>c (Rl (congrArg V.int (RS z)))
   erw[Z (.int (i:G)),Z (.ref p),3,m];rw[uH,R6 D];rfl
 .rintro O Y ⟨v3,r,rfl,o⟩;erw[57];rw[k.1];exact y Y o
def FR:az ["links","marks","used"] ["links","marks","used"] (aq tK):=by ac_nf
def ok_joins(F:Fun K "joins" "joins" tK f fd)(T:TxtE mg)(b:lc 1 "odd_ends" ["links","used"] CJ f1 eK):k9 2 f fd ["links","marks","used"] CH:=by
 refine F.ok FR (by walk_at "l") λB A M s H L Q eg N h=>?_
 let v m u k n rfl d ok y:=h;let a O rfl q g:=id d;intro I o;erw[_,(ao (aD (oG (cm cR (aw de (pv 2) (ay ax (by rfl) T.n_len aZ (af (pv 0) aj))) ai (aE _)) (rT (cm cR (b.c N (af (pv 0) (af (pv 2) aj))) (pv 1) (aE _)))))),3]
 let C:=nA (u/2^((O.L:R):G).U) 0;rw[g.1]at C;erw[153,a,9,.inl (SqL.of q),165,(show(0:G)<=((O.L:R):G) by lia),230]
 rw[g.1];refine ite2 (λc=>?_) (λc=>?_)
 .let D:=V.int.inj (RS c)
  erw[153,.ref a,u,k,n,U,d,ok,λl j=>#[233]];let:=y l j;unfold jB at this;rw[Rl D,Mq]at this;rw[nA];exact this
 .let D:¬ u/2^((k.L:R):G).U=0:=λz=>c (Rl (congrArg V.int z))
  let:=y H (λ_ _ e=>e);unfold jB at this;rw[QF D,MO]at this;exact this
def CZ:az ["many","marks","rooms","price"] ["many","marks","rooms","price"] (aq pJ):=by ac_nf
def ok_counts(F:Fun K "counts" "counts" pJ f fd)(k:lc 3 "odd" ["mask"] JC f1 eK):k9 4 f fd ["many","marks","rooms","price"] Aq:=by
 refine F.ok CZ (by walk_at "l") λB A u s H M Q eg N h=>?_
 let n m p rfl a r:=h;let x y:=p;intro I C;erw[_,(ao (aD (oG (cm F7 (pv 2) ai (aE _)) (oG (cm cR (aw de (pv 2) (pv 0)) ai (aE _)) (oG (cm cR (k.c N (af (aw fN (pv 2) (pv 1)) aj)) ai (aE _)) (rT (cm F7 (pv 3) ai (aE _)))))))),3];erw[236121];refine ite2 (λc=>?_) (λc=>?_)
 .let D:0<=x:=RS c
  erw[42393,(show(0:G)<=(n:G) by lia),230]
  refine ite2 (λd=>?_) (λd=>?_)
  .let v:x/2^((n:R):G).U=0:=V.int.inj (RS d)
   let b rfl:∃ b:R,x=(b:G):=#[x.U,4]
   let g:Q4 (b:G) (m:G)=((b&&&m:R):G):=by rfl
   let lt:b&&&m<2^40:=by
    let Y:b&&&m<=b:=Nat.and_le_left;let L:b<2^n:=by
     rw[Lv]at v;let t:b/2^n=0:=by lia
     let i:0<2^n:=Nat.pow_pos ∅
     obtain h|h:=Nat.div_eq_zero_iff.mp t
     .lia
     .exact h
    let o:2^n<=2^40:=Mw ∅ a
    lia
   erw[42393,b&&&m,by rfl,lt,λl j=>#[230]]
   refine ite2 (λe=>?_) (λe=>?_)
   .let J:(bl (b&&&m)).L%2=1:=by lia
    erw[14937];let:=r l j;unfold cB at this;rw[Rl D,Rl v,Lv,Rl J,Mq,Mq,Mq]at this;exact this
   .let J:¬ (bl (b&&&m)).L%2=1:=λz=>e (Rl (congrArg V.int ∅))
    let:=r l j;unfold cB at this;rw[Rl D,Rl v,Lv,QF J,Mq,Mq,MO]at this;exact this
  .let v:¬ x/2^((n:R):G).U=0:=λz=>d (Rl (congrArg V.int z))
   let:=r H (λ_ _ e=>e);unfold cB at this;rw[Rl D,QF v,Mq,MO]at this;exact this
 .let D:¬ 0<=x:=λz=>c (Rl z)
  let:=r H (λ_ _ e=>e);unfold cB at this;rw[QF D,MO]at this;exact this
def vy:az ["link","paper"] ["link","paper"] (aq gZ):=by ac_nf
def ok_paid(F:Fun K "paid_over" "paid_over" gZ f fd)(T:TxtE mg):k9 1 f fd ["link","paper"] Ij:=by
 refine F.ok vy (by walk_at "l") λB A u s H L Q eg N h=>?_
 let v pv l r rfl{t rfl I}{a O rfl eK m}aa d:=h;let yl:=m.1;intro e o;erw[_,(ao (aD (ay (gu U) (by rfl) T.n_sum nJ (af (dj [("link",0)] ["rooms","price"] (aN (pv 1)) (λC b s H=>(eZ (n:=2) (K:=K) U U (aH (bc (i:=0) (show(["rooms","price","link"]:E ff).l from by decide) U (Or.inl U)) (aH (bc (i:=1) (show(["rooms","price","link"]:E ff).l from by decide) U (Or.inl U)) b7)))) (λC b s H=>(jn (aC cR (aw fN (aw c9 (aw de (pv 0) (iZ K (pv 2) ai)) (aw de (pv 0) (iZ K (pv 2) ai))) ai) ai (aE _)))) (λC b s H=>(pv 1))) aj)))),3]
 erw[9,a,U,#[_,SqL.of eK],cN (K:=K) (xs:=O) (λi M Y=>Y=H/\M=(((r.j i).filter (pT l.1 l.2.1)).h (·.2)).h V.int) (big3 ∅) #[10] (λi M Y _ z=>by rw[z.1];exact SqL.of eK) ?_ ?_ ?_]
 .rintro i x M Y J ⟨rfl,rfl⟩;let p g q rfl y:=m.get J;let et:r.j (i+1)=r.j i++[p]:=by rw[LK,g];rfl
  erw[q,9,SqT.of y,959894];erw[153,t,_,00,41,SqT.of I,a30,165,(show(0:G)<=(l.1:G) by lia),153,t,_,01,41,SqT.of I,a31,165,(show(0:G)<=(l.2.1:G) by lia),15115685]
  rw[et,Nw];refine ite2 (λc=>?_) (λc=>?_)
  .let j:pT l.1 l.2.1 p=kf:=Rl (V.int.inj (RS c))
   erw[233];rw[NP j,LC,LC];rfl
  .let j:¬ pT l.1 l.2.1 p=kf:=λz=>c (Rl (congrArg V.int (RS z)))
   simp[*]
 .rintro M Y ⟨rfl,rfl⟩ D k;rw[yl,LP];erw[D,9,SqL.of ag,d _ (ak k _)]
 .grind
def Bg:az ["links","used"] ["links","used"] (aq mO):=by ac_nf
def ok_costO(F:Fun K "cost_of" "cost_of" mO f fd)(T:TxtE mg):k9 1 f fd ["links","used"] CK:=by
 refine F.ok Bg (by walk_at "l") λB A M s H L Q eg N h=>?_
 let v u eK rfl{a O rfl hA hL}ab r:=h;let yl:=hL.1;intro I Dc;erw[_,(ao (aD (ay (gu U) (by rfl) T.n_sum nJ (af (dj [("used",1)] ["number","link"] (g9 U T.n_enumerate (af (pv 0) aj)) (λC b s H=>(eZ (n:=2) (K:=K) U U (aH (bc (i:=0) (show(["number","link","used"]:E ff).l from by decide) U (Or.inl U)) (aH (bc (i:=1) (show(["number","link","used"]:E ff).l from by decide) U (Or.inl U)) b7)))) (λC b s H=>(jn (aC cR (aw fN (aw de (pv 2) (pv 0)) ai) ai (aE _)))) (λC b s H=>(iZ K (pv 1) ai))) aj)))),3]
 erw[9,a,U,#[_,SqL.of hA],gO (K:=K) (xs:=O) (λi t Y=>mu Y/\∃ g:E G,t=g.h V.int/\(g.sum=uY u eK i/\g.L<=i)) (big3 ∅) #[λ_ _ e=>e,[],10,Lq _] (λi t Y _ z=>SqL.of (z.1 _ _ hA)) ?_ ?_ ?_]
 .rintro i x t Y T2 J ⟨o,g,rfl,p,d⟩ aa;let l ac q rfl y:=hL.get J;let m:=o.Q (ak aa (.tup [.int (i:G),.ref q]));erw[T2,9,SqT.of ag,959894];erw[42393,(show(0:G)<=(i:G) by lia),59045]
  refine ite2 (λc=>?_) (λc=>?_)
  .let j:bt u i=kf:=Rl (V.int.inj (RS c))
   erw[9,q,_,02,41,SqT.of (m _ _ y),a32,m,g++[l.2.2],by rw[LC];rfl,3,by simp[*]]
   rw[NX,p,uY,R5 j,lkA_is ac,Ol,List.sum_nil,Int.add_zero]
  .let j:¬ bt u i=kf:=λz=>c (Rl (congrArg V.int (RS z)))
   erw[m,g,78]
   rw[p,uY,R6 j]
 .rintro t Y ⟨o,g,rfl,p,d⟩ D k;rw[yl]at p;erw[D,g,U,SqL.of ag,3];rw[p];exact r _ (o.Q (ak k _))
 .simp!
def xM:az ["many","links","marks","used","paper"] ["many","links","marks","used","paper"] (aq j6):=by ac_nf
def ok_exam{f4:e8}{aa ac al:fk}(F:Fun K "examined" "examined" j6 f fd)(T:TxtE mg)(aI:lc 2 "joins" ["links","marks","used"] CH f1 eK)(ap:lc 4 "counts" ["many","marks","rooms","price"] Aq f2 aa)(ae:lc 1 "paid_over" ["link","paper"] Ij I ac)(am:lc 1 "cost_of" ["links","used"] CK f4 al):k9 5 f fd ["many","links","marks","used","paper"] spExam:=by
 refine F.ok xM (by walk_at "l") λv A M s H e Q eg N h=>?_
 let n m lv pv u ls r rfl aT a0 ok aS kk:=h;let n1:=ok.n1;let l9:=ok.l9;let a O rfl hA hL:=id aT;let b t rfl hB hM:=id a0;let yl:=hL.1;let zl:=hM.1
 intro Xc Dc;erw[_,(ah (bH (gj (dM (aI.c N (af (pv 1) (af (pv 2) (af (pv 3) aj)))))) (ao (aD gH)) aM)
   (ah (bH (gj (dM (ay (wX U) (by rfl) T.n_all IY (af (dj [("marks",2),("many",0)] ["rooms","price"] (aN (pv 4)) (λC ex s H=>(eZ (n:=2) (K:=K) U U (aH (bc (i:=0) (show(["rooms","price","marks","many"]:E ff).l from by decide) U (Or.inl U)) (aH (bc (i:=1) (show(["rooms","price","marks","many"]:E ff).l from by decide) U (Or.inl U)) b7)))) pt_c (λC ex s H=>(ap.c N (af (pv 3) (af (pv 2) (af (pv 0) (af (pv 1) aj))))))) aj)))) (ao (aD gH)) aM)
   (ah (bH (gj (dM (ay (wX U) (by rfl) T.n_all IY (af (dj [("paper",4)] ["link"] (aN (pv 1)) pg_c pt_c (λC ex s H=>(cm op_le (ae.c N (af (pv 0) (af (pv 1) aj))) (aw cz ai (iZ K (pv 0) ai)) (aE _)))) aj)))) (ao (aD gH)) aM)
   (ao (aD (cm cR (ay (gu U) (by rfl) T.n_sum nJ (af (dj [] ["rooms","price"] (aN (pv 4)) (λC ex s H=>(eZ (n:=2) (K:=K) U U (aH (bc (i:=0) (show(["rooms","price"]:E ff).l from by decide) U (Or.inl U)) (aH (bc (i:=1) (show(["rooms","price"]:E ff).l from by decide) U (Or.inl U)) b7)))) pt_c (λC ex s H=>(pv 1))) aj)) (aw cz ai (am.c N (af (pv 1) (af (pv 3) aj)))) (aE _))))))),3]
 erw[2457,.ref a,m,u,ls,n,U,aT,ok,λL k=>?_];erw[57]
 cases j:jB ls m u with
 |false =>
  refine iteT ?_;let:=kk L k;unfold exB at this;rw[j,MO]at this;exact this
 |true =>
  refine iteF ?_;erw[9,b,U,#[_,SqL.of (k _ _ hB)],cN (K:=K) (xs:=t) (λi ws Y=>mu Y/\ws=((r.j i).h (cB n m)).h V.bl) (big3 ∅) #[k,U] (λi ws Y _ z=>SqL.of (z.1 _ _ hB)) ?_ ?_ ?_]
  .rintro i x ws Y J ⟨o,rfl⟩;let p g q rfl y:=hM.get J;erw[q,9,SqT.of (o _ _ y),173462,yesT #[39321,n,m,p,U,n1,λH3 s3=>#[o.Q s3,3]]];rw[LK,g,LC,LC];rfl
  .rintro ws Y ⟨o,rfl⟩ D hD;rw[zl,LP];let sD:=o.Q (ak hD (.lst ((r.h (cB n m)).h V.bl)));erw[D,r.h (cB n m),U,SqL.of ag,57];generalize upd Y D (.lst ((r.h (cB n m)).h V.bl))=H3 at sD;let ea:(r.h (cB n m)).all id=r.all (cB n m):=by simp
   rw[ea]
   cases c:r.all (cB n m) with
   |false =>
    refine iteT ?_;let:=kk H3 sD;unfold exB at this;rw[j,c,Mq,MO]at this;exact this
   |true =>
    refine iteF ?_;erw[9,a,U,#[_,SqL.of (sD _ _ hA)],bq (K:=K) (xs:=O) (λi ws H4=>mu H4/\ws=((ls.j i).h (lB r)).h V.bl) (big3 ∅) #[sD,U] (λi ws H4 _ z=>SqL.of (z.1 _ _ hA)) ?_ ?_]
    .rintro i x ws H4 J ⟨s4,rfl⟩;let l B ab:=hL.get J;erw[153,x,.ref b,l,r,U,ab.mono s4,a0.mono s4,aS,λH5 s5=>?_];let q rfl y:=ab.mono (s4.Q s5);erw[9,q,_,02,41,SqT.of y,a32,165,.inl #[by decide,by decide],165,s4.Q s5,3]
     rw[LK,B,LC,LC];rfl
    rintro ws H4 _ ⟨s4,rfl⟩ D4 a1;rw[yl,LP];let an:=s4.Q (ak a1 (.lst ((ls.h (lB r)).h V.bl)));erw[D4,ls.h (lB r),U,SqL.of ag,57];generalize upd H4 D4 (.lst ((ls.h (lB r)).h V.bl))=H5 at an;let a2:(ls.h (lB r)).all id=ls.all (lB r):=by simp
    rw[a2]
    cases d:ls.all (lB r) with
    |false =>
     refine iteT ?_;let:=kk H5 an;unfold exB at this;rw[j,c,d,Mq,Mq,MO]at this;exact this
    |true =>
     refine iteF ?_;erw[9,b,U,#[_,SqL.of (an _ _ hB)],cN (K:=K) (xs:=t) (λi ws H6=>H6=H5/\ws=((r.j i).h (·.2)).h V.int) (big3 ∅) #[10] (λi ws H6 _ z=>by rw[z.1];exact SqL.of (an _ _ hB)) ?_ ?_ ?_]
     .rintro i x ws H6 J ⟨rfl,rfl⟩;let p g q rfl y:=hM.get J;erw[q,9,SqT.of (an _ _ y),173462,yesT #[233]];rw[LK,g,LC,LC];rfl
     .rintro ws H6 ⟨rfl,rfl⟩ D6 aX;rw[zl,LP];let s6:=ak aX (.lst ((r.h (·.2)).h V.int));erw[D6,r.h (·.2),U,SqL.of ag,153,.ref a,u,ls,U,aT.mono (an.Q s6),4,λH7 s7=>#[165,.inl #[by decide,by decide],14]]
      let:=kk H7 (an.Q (s6.Q s7));unfold exB at this;rw[j,c,d,Mq,Mq,Mq,← nA]at this;exact this
     .grind
  .grind
theorem Dn(f:R->i0):∀ n,HM.par f n=decide (((Mg n).filter f).L%2=1)
 |0=>rfl
 |n+1=>by
  show(HM.par f n ^^ f n)=_;rw[Dn f n,NM,Nw,Lx,Og,List.filter_nil]
  cases f n with
  |false=>simp
  |true =>
   rw[R5 U,LR];lia
def JU(b:M<2^n):HM.par (λx=>M.O x&&m.O x) n=decide ((bl (M&&&m)).L%2=1):=by
 let lt:M&&&m<2^n:=PH Nat.and_le_left b;let e:(λx=>M.O x&&m.O x)=λx=>(M&&&m).O x:=funext λx=>(NL ..).Y;rw[e,Dn];let Y:=zX (M&&&m) n;rw[Le lt]at Y;rw[show((Mg n).filter λx=>(M&&&m).O x).L=(bl (M&&&m)).L by lia]
abbrev rK(kv:E (R×R)):E Pr:=kv.h λe=>((e.1:G),(e.2:G))
theorem pat_ls{r:E Pr}(h:PAt H ys r):LsAt PrAt H ys r:=#[h.1,λi x e=>by
 let t a b:=h.2 i x e
 erw[_,a,t,U,b]]
def div_bit(M a:R):(M:G)/2^((a:R):G).U=((M/2^a:R):G):=by
 rfl
def pT_bit(M p a b:R):pT a b ((M:G),(p:G))=(M.O a ^^ M.O b):=by
 unfold pT;show decide (Q4 (Q6 ((M:G)/2^((a:R):G).U) ((M:G)/2^((b:R):G).U)) 1=1)=_;rw[div_bit,div_bit];let C:Q6 ((M/2^a:R):G) ((M/2^b:R):G)=((M/2^a^^^M/2^b:R):G):=xorN _ _;let eg:Q4 ((M/2^a^^^M/2^b:R):G) 1=((((M/2^a)^^^(M/2^b))&&&1:R):G):=andN _ 1;rw[C,eg];let f:(M.O a ^^ M.O b)=(((M/2^a)^^^(M/2^b)).O 0):=by
  rw[My,QB,QB,Oz,Oz]
 rw[f,Nat.testBit_zero,Nat.and_one_is_mod];exact decide_eq_decide.mpr #[λz=>by lia,λz=>by lia]
theorem Dp(a b:R):∀ kv:E (R×R),paidF (rK kv) a b=((wsum (λM=>cond (M.O a ^^ M.O b) 1 0) kv:R):G)
 |[]=>rfl
 |e::kv=>by
  let O:=Dp a b kv;let j:wsum (λM=>cond (M.O a ^^ M.O b) 1 0) (e::kv)=e.2*cond (e.1.O a ^^ e.1.O b) 1 0+wsum (λM=>cond (M.O a ^^ M.O b) 1 0) kv:=by rfl
  rw[j];unfold paidF at O ⊢;rw[show rK (e::kv)=((e.1:G),(e.2:G))::rK kv from rfl,Og,pT_bit]
  cases (e.1.O a ^^ e.1.O b) with
  |false=>simp!
  |true =>
   simp[*]
theorem Ib:∀ kv:E (R×R),((rK kv).h (·.2)).sum=((wsum (λ_=>1) kv:R):G)
 |[]=>rfl
 |e::kv=>by
  let O:=Ib kv;let j:wsum (λ_=>1) (e::kv)=e.2*1+wsum (λ_=>1) kv:=by rfl
  rw[j,show rK (e::kv)=((e.1:G),(e.2:G))::rK kv from rfl,LX,Ol,O];lia
def IX(u i:R):bt (u:G) i=u.O i:=by
 unfold bt
 cases h:u.O i with
 |true=>exact Rl ((sk u i).mpr h)
 |false=>exact QF λz=>by rw[(sk u i).mp z]at h;cases h
theorem ends_is(ls:E Lk)(u:R):∀ i,uH (u:G) ls i=((oddE ls u i:R):G)
 |0=>rfl
 |i+1=>by
  rw[uH,IX,ends_is ls u i];show _=(((if u.O i=kf then oddE ls u i^^^endX (lkA ls i) else oddE ls u i):R):G);split
  .unfold stepE endX;rw[shlN,shlN,xorN,xorN,MC]
  .rfl
theorem cost_is(ls:E Lk)(u:R):∀ i,uY (u:G) ls i=cstU ls u i
 |0=>rfl
 |i+1=>by
  rw[uY,IX,cost_is ls u i];rfl
def Hls.due{cost:G}(h:Hls n ls mk cost kv):(rK kv).all (cB n mk)=kf/\ls.all (lB (rK kv))=kf/\((rK kv).h (·.2)).sum=2*cost:=by
 erw[OD.mpr λp g=>?_,OD.mpr λl d=>?_,3]
 .let e eK rfl:=LW.mp g;let N j v c:=h.ke e eK;rw[JU v]at c;unfold cB;show(decide ((0:G)<=(e.1:G))&&(decide ((e.1:G)/2^((n:R):G).U=0)&&(decide ((bl ((e.1:G).U&&&mk)).L%2=1)&&decide ((1:G)<=(e.2:G)))))=kf;rw[div_bit,P7 v,Lv,c,Rl (show(0:G)<=(e.1:G) by lia),Rl (show(1:G)<=(e.2:G) by lia)]
  rfl
 .let i B e:=Mt d;let m:=lkA_is (ls:=ls) (k:=i) (l:=l) (by simp[*])
  let:=h.pd i B;unfold lB;refine Rl ?_;rw[Dp];unfold nL at this;rw[m]at this;let eg:(λM=>HM.chi (HM.dm M) (aL ls) (bL ls) i)=λM:R=>cond (M.O l.1 ^^ M.O l.2.1) 1 0:=funext λM=>by
   unfold HM.chi HM.dm aL bL;rw[m]
  rw[eg]at this;exact this
 .rw[Ib];exact h.sm
end KF
namespace L2
theorem len_0{l:E α}(h:l.L=0):l=[]:=Om.mp h
def Br{l:E α}(h:l.L=n+1):∃ x r,l=x::r/\r.L=n:=by
 cases l with
 |nil=>cases h
 |cons x r=>exact#[x,r,U,Nat.succ.inj h]
def Kv{l:E α}(h:l.L=1):∃ a,l=[a]:=by
 let a r rfl e:=Br h;erw[a,by rw[len_0 e]]
def Ku{l:E α}(h:l.L=2):∃ a b,l=[a,b]:=by
 let a r rfl e:=Br h;let b rfl:=Kv e;erw[a,b,U]
def len_3{l:E α}(h:l.L=3):∃ a b c,l=[a,b,c]:=by
 let a r rfl e:=Br h;let b c rfl:=Ku e;erw[a,b,c,U]
def Kt{l:E α}(h:l.L=4):∃ a b c d,l=[a,b,c,d]:=by
 let a r rfl e:=Br h;let b c d rfl:=len_3 e;erw[a,b,c,d,U]
def len_5{l:E α}(h:l.L=5):∃ a b c d e,l=[a,b,c,d,e]:=by
 let a r rfl z:=Br h;let b c d e rfl:=Kt z;erw[a,b,c,d,e,U]
def len_6{l:E α}(h:l.L=6):∃ a b c d e f,l=[a,b,c,d,e,f]:=by
 let a r rfl z:=Br h;let b c d e f rfl:=len_5 z;erw[a,b,c,d,e,f,U]
end L2
namespace K8
theorem sub_le:∀{a b:E R},a.l->(∀ x∈a,x∈b)->a.L<=b.L
 |[],_,_,_=>Mh _
 |x::a,b,u,h=>by
  let eg D:=LF.mp u;let J:=h x (by simp)
  let O:=sub_le (a:=a) (b:=b.erase x) D λy Q=>(List.mem_erase_of_ne (λe:y=x=>eg (e▸Q))).mpr (h y (Lu _ Q));grind
def dP{a:E R}(nd:a.l)(h:∀ x∈a,x<N):a.L<=N:=by
 let:=sub_le (b:=Mg N) nd λx J=>Mz.mpr (h x J);rwa[Na]at this
def AI(nd:l.l){x:R}(hi:l[i]?=Z x)(J:l[j]?=Z x):i=j:=by
 let p:=MV.mp nd;let Y C:=Lm.mp hi;let L eg:=Lm.mp J;obtain z|z|z:=Nat.lt_trichotomy i j
 .exact R7 (C.Q eg.Y) (p i j Y L z)
 .exact z
 .exact R7 (eg.Q C.Y) (p j i L Y z)
abbrev En:=E (R×R)
structure bS(m:R)(es:En)(ts:mo):Prop where
 len:ts.L=m
 ends:∀ e∈es,e.1<m/\e.2<m/\e.1≠e.2
 nd:∀(p:R)(l:E R),ts[p]?=Z l->l.l
 mem:∀(p:R)(l:E R),ts[p]?=Z l->∀ t,t∈l↔∃ e,es[t]?=Z e/\(e.1=p∨e.2=p)
theorem Fy(m:R):bS m [] (LD m []) where
 len:=by simp
 ends:=λe h=>by cases h
 nd:=λp l h=>by
  rw[Nb]at h;simp!
 mem:=λp l h t=>by
  rw[Nb]at h;simp!
def ins(l:E R)(k x:R):E R:=l.j k++x::l.drop k
def yA{k x y:R}:y∈ins l k x↔y=x∨y∈l:=by
 unfold ins;rw[LG,Lz];let:=NW k l;constructor
 .rintro(h|h|h)
  .exact .inr (Pk h)
  .exact .inl h
  .exact .inr (Pm h)
 .rintro(h|h)
  .exact .inr (.inl h)
  .rw[← this]at h;obtain z|z:=LG.mp h
   .exact .inl z
   .exact .inr (.inr z)
def D5{k x:R}(nd:l.l)(h:x∉l):(ins l k x).l:=by
 unfold ins;let e:=NW k l;rw[← e]at nd;let a b c:=LV.mp nd;refine LV.mpr #[a,LF.mpr #[λz=>h (Pm z),b],λy Q z A=>?_];obtain q|q:=Lz.mp A
 .intro w;exact h (by rw[← q,← w];exact Pk Q)
 .exact c y Q z q
def bS.put{es:En}{one two k:R}(w:bS m es ts)(Y:one<m)(h2:two<m)(N:one≠two)(e1:ts[one]?=Z l)(eg:ts[two]?=Z l'):
  bS m (es++[(one,two)]) ((ts.set one (ins l k es.L)).set two (ins l' j es.L)):=by
 let old:∀{p l},ts[p]?=Z l->es.L∉l:=λ{p l} e z=>by
  let x J _:=(w.mem p l e es.L).mp z;simp!
 let get:∀ p q,((ts.set one (ins l k es.L)).set two (ins l' j es.L))[p]?=Z q->(p=two/\q=ins l' j es.L)∨(p=one/\p≠two/\q=ins l k es.L)∨(p≠one/\p≠two/\ts[p]?=Z q):=λp q e=>by
  let L:two<(ts.set one (ins l k es.L)).L:=by rw[Nk,w.len];exact h2
  let b:one<ts.L:=by rw[w.len];exact Y
  rw[MH]at e;by_cases z:two=p
  .rw[R5 z,R5 L]at e;exact .inl #[z.Y,(Me e).Y]
  .rw[R6 z,MH]at e;by_cases y:one=p
   .simp!
   .rw[R6 y]at e;exact .inr (.inr #[Ne.Y y,Ne.Y z,e])
 let a:∀ t x,(es++[(one,two)])[t]?=Z x↔(es[t]?=Z x)∨(t=es.L/\x=(one,two)):=λt x=>by
  by_cases z:t<es.L
  .rw[Ls z];constructor
   .exact .inl
   .lia
  .rw[Lr ∅]
   constructor
   .intro y;grind
   .grind
 erw[by rw[Nk,Nk];exact w.len,λe eK=>?_,λp q e=>?_,λp q e t=>?_]
 .obtain z|z:=LG.mp eK
  .exact w.ends e z
  .simp!
 .rcases get p q e with⟨_,rfl⟩|⟨_,_,rfl⟩|⟨_,_,y⟩
  .exact D5 (w.nd two l' eg) (old eg)
  .exact D5 (w.nd one l e1) (old e1)
  .exact w.nd p q y
 .rcases get p q e with⟨rfl,rfl⟩|⟨rfl,c,rfl⟩|⟨O,D,y⟩
  .rw[yA,w.mem p l' eg t];constructor
   .rintro(z|⟨x,J,g⟩)
    .erw[(one,p),(a _ _).mpr (.inr #[z,U]),.inr U]
    .erw[x,(a _ _).mpr (.inl J),g]
   .rintro⟨x,J,g⟩;rcases(a _ _).mp J with z|⟨z,_⟩
    .exact .inr #[x,z,g]
    .exact .inl z
  .rw[yA,w.mem p l e1 t];constructor
   .rintro(z|⟨x,J,g⟩)
    .erw[(p,two),(a _ _).mpr (.inr #[z,U]),.inl U]
    .erw[x,(a _ _).mpr (.inl J),g]
   .rintro⟨x,J,g⟩;rcases(a _ _).mp J with z|⟨z,_⟩
    .exact .inr #[x,z,g]
    .exact .inl z
  .rw[w.mem p q y t];constructor
   .rintro⟨x,J,g⟩;erw[x,(a _ _).mpr (.inl J),g]
   .rintro⟨x,J,g⟩;rcases(a _ _).mp J with z|⟨z,rfl⟩
    .erw[x,z,g]
    .obtain g|g:=g
     .exact R7 g.Y O
     .exact R7 g.Y D
def hd(es:En)(d:R):R:=match es[d/2]? with|some e=>if d%2=0 then e.2 else e.1|none=>0
def tl(es:En)(d:R):R:=match es[d/2]? with|some e=>if d%2=0 then e.1 else e.2|none=>0
def leave(es:En)(t p:R):R:=match es[t]? with|some e=>if e.1=p then 2*t else 2*t+1|none=>0
def nxt(l:E R)(t:R):R:=(l[(l.idxOf t+1)%l.L]?).f 0
def fol(es:En)(ts:mo)(d:R):R:=leave es (nxt ((ts[hd es d]?).f []) (d/2)) (hd es d)
section
variable{m:R}{es:En}{ts:E (E R)}
def yB{t:R}(h:t∈l):l[l.idxOf t]?=Z t:=by
 let d:=O2.mpr h;simp[*]
def ig{t:R}(h:t∈l):l[(l.idxOf t+1)%l.L]?=Z (nxt l t):=by
 let d:0<l.L:=Nm h;let:=OJ (l.idxOf t+1) d;unfold nxt;simp[*]
def bS.at(w:bS m es ts){d:R}(h:d<2*es.L):∃ e l,es[d/2]?=Z e/\hd es d=(if d%2=0 then e.2 else e.1)/\tl es d=(if d%2=0 then e.1 else e.2)/\hd es d<m/\ts[hd es d]?=Z l/\d/2∈l:=by
 let D:d/2<es.L:=by lia
 let C:es[d/2]?=Z es[d/2]:=Ll D;let q:=w.ends _ (Ln C);generalize es[d/2]=e at C q;let Y:hd es d=(if d%2=0 then e.2 else e.1):=by unfold hd;rw[C]
 let L:tl es d=(if d%2=0 then e.1 else e.2):=by unfold tl;rw[C]
 let f:hd es d<m:=by lia
 let B:ts[hd es d]?=Z (ts[hd es d]'(by rw[w.len];exact f)):=Ll _
 erw[e,_,C,Y,L,f,B,(w.mem _ _ B _).mpr #[e,C,3]];rw[Y];split
 .exact .inr U
 .exact .inl U
def bS.foll(w:bS m es ts){d:R}(h:d<2*es.L):∃ l e,ts[hd es d]?=Z l/\d/2∈l/\es[nxt l (d/2)]?=Z e/\(e.1=hd es d∨e.2=hd es d)/\e.1≠e.2/\fol es ts d=(if e.1=hd es d then 2*nxt l (d/2) else 2*nxt l (d/2)+1)/\fol es ts d<2*es.L/\fol es ts d/2=nxt l (d/2)/\tl es (fol es ts d)=hd es d:=by
 let O l Y L f B s j:=w.at h;let N:=ig j;let e eK g:=(w.mem _ _ s _).mp (Ln N);let r:=(Lm.mp eK).1;let c:=(w.ends e (Ln eK)).2.2;let C:fol es ts d=(if e.1=hd es d then 2*nxt l (d/2) else 2*nxt l (d/2)+1):=by
  unfold fol;rw[s];show leave es (nxt l (d/2)) (hd es d)=_;unfold leave;rw[eK]
 erw[l,e,s,j,eK,g,c,C,63]
 .grind
 .lia
 .rw[C];by_cases z:e.1=hd es d
  .let n:2*nxt l (d/2)/2=nxt l (d/2):=by lia
   let I:2*nxt l (d/2)%2=0:=by lia
   rw[R5 z];unfold tl;simp!
  .let n:(2*nxt l (d/2)+1)/2=nxt l (d/2):=by lia
   let I:¬ (2*nxt l (d/2)+1)%2=0:=by lia
   rw[R6 z];unfold tl;rw[n,eK];lia
def bS.inj(w:bS m es ts){a b:R}(T:a<2*es.L)(M:b<2*es.L)(h:fol es ts a=fol es ts b):a=b:=by
 let l e v t _ _ _ _ _ q g:=w.foll T;let d O k L _ _ _ _ _ N r:=w.foll M;let eK:hd es a=hd es b:=by rw[← g,← r,h]
 rw[eK,k]at v
 cases v
 let J:nxt l (a/2)=nxt l (b/2):=by rw[← q,← N,h]
 let B:=ig t;let i:=ig L;rw[J]at B;let D:=AI (w.nd _ _ k) B i;let H:=O2.mpr t;let z:=O2.mpr L;let Y:l.idxOf (a/2)=l.idxOf (b/2):=by
  generalize l.idxOf (a/2)=x at *;generalize l.idxOf (b/2)=y at *;by_cases s:x+1=l.L
  .by_cases u:y+1=l.L
   .lia
   .rw[s,PZ,Ni ∅]at D;lia
  .by_cases u:y+1=l.L
   .rw[u,PZ,Ni ∅]at D;lia
   .rw[Ni ∅,Ni ∅]at D;lia
 let n:a/2=b/2:=by
  let I:=yB t;let f:=yB L;rw[Y,f]at I;exact(Me I).Y
 let C _ A p _ _ _ _:=w.at T;let eg _ j o _ _ _ _:=w.at M;rw[n,j]at A;let Q:eg=C:=Me A;rw[Q]at j o;let c:=(w.ends C (Ln j)).2.2;rw[p,o]at eK;lia
end
structure Fp(f:R->R)(N:R):Prop where
 lt:∀ d,d<N->f d<N
 inj:∀ a b,a<N->b<N->f a=f b->a=b
structure Path(f:R->R)(N first:R)(r:E R):Prop where
 hd:r[0]?=Z first
 lt:∀ d∈r,d<N
 nd:r.l
 nx:∀ i x y,r[i]?=Z x->r[i+1]?=Z y->y=f x
theorem AF{f:R->R}{d:R}(h:d<N):Path f N d [d] where
 hd:=rfl
 lt:=λx J=>by simp!
 nd:=by simp
 nx:=λi x y Y L=>by
  contradiction
theorem Path.snoc{f:R->R}{d x:R}{r:E R}(p:Fp f N)(h:Path f N d (r++[x]))(O:f x≠d):Path f N d (r++[x]++[f x]) where
 hd:=by rw[Ls (by simp)];exact h.hd
 lt:=λy Q=>by
  obtain z|z:=LG.mp Q
  .exact h.lt y z
  .let:y=f x:=by simpa using z
   rw[this];exact p.lt x (h.lt x (by simp))
 nd:=by
  refine LV.mpr #[h.nd,by simp,λa T b M e=>?_]
  let A:b=f x:=by simpa using M
  subst A;let i B:=Mp.mp T;rw[e]at B;let c:=(Lm.mp B).1;rw[Lx,LR]at c
  cases i with
  |zero =>
   rw[h.hd]at B;exact O (Me B).Y
  |succ i =>
   let g:(r++[x])[i]?=Z ((r++[x])[i]'(by grind)):=Ll _
   let:=h.nx i _ _ g B;let n:=h.lt _ (Ln g);let l:=h.lt x (by simp)
   let eg:=p.inj _ _ l n this;rw[← eg]at g;let k:(r++[x])[r.L]?=Z x:=by rw[Lr (Lq _),Mf];rfl
   let:=AI h.nd g k;lia
 nx:=λi a b Y L=>by
  let j:=(Lm.mp L).1;rw[Lx,Lx,LR,LR]at j;rw[Ls (by simp!)]at Y
  by_cases z:i+1<(r++[x]).L
  .rw[Ls z]at L;exact h.nx i a b Y L
  .rw[Lx,LR]at z;let m:i=r.L:=by lia
   simp!
structure Ring(f:R->R)(N:R)(r:E R):Prop where
 lt:∀ d∈r,d<N
 nd:r.l
 ne:0<r.L
 nx:∀ i x,r[i]?=Z x->r[(i+1)%r.L]?=Z (f x)
theorem Path.ring{f:R->R}{d x:R}{r:E R}(p:Fp f N)(h:Path f N d (r++[x]))(eK:f x=d):Ring f N (r++[x]) where
 lt:=h.lt
 nd:=h.nd
 ne:=by simp
 nx:=λi y Q=>by
  let D:=(Lm.mp Q).1;by_cases z:i+1=(r++[x]).L
  .rw[z,PZ];let:i=r.L:=by simp!
   subst this;rw[Lr (Lq _),Mf]at Q;let:x=y:=Me Q;subst this;rw[eK];exact h.hd
  .let C:i+1<(r++[x]).L:=by lia
   rw[Ni C];let g:=Ll C;rw[g,h.nx i _ _ Q g]
def Ring.back{f:R->R}{a:R}{r:E R}(p:Fp f N)(h:Ring f N r)(T:a<N)(C:f a∈r):a∈r:=by
 let i B:=Mp.mp C;let d:=(Lm.mp B).1;let u:∃ j,j<r.L/\(j+1)%r.L=i:=by
  cases i with
  |zero=>exact#[r.L-1,4,by let:=h.ne;rw[show r.L-1+1=r.L by lia,PZ]]
  |succ i=>exact#[i,4,Ni d]
 let j J b:=u;let g:=Ll J;let q:=h.nx j _ g;rw[b,B]at q;let c:=h.lt _ (Ln g);let:=p.inj _ _ T c (Me q);simp[*]
structure bw(f:R->R)(N i:R)(rs:mo):Prop where
 ring:∀ r∈rs,Ring f N r
 hdl:∀ r∈rs,∀ h,r[0]?=Z h->h<i/\∀ d∈r,h<=d
 asc:∀(a b:R)(r r':E R)(h h':R),a<b->rs[a]?=Z r->rs[b]?=Z r'->r[0]?=Z h->r'[0]?=Z h'->h<h'
 nd:rs.flatten.l
 all:∀ d,d<i->d∈rs.flatten
theorem rS(f:R->R)(N:R):bw f N 0 [] where
 ring:=λr h=>by cases h
 hdl:=λr h=>by cases h
 asc:=λa b r eK h m _ e=>by cases e
 nd:=by simp
 all:=λd h=>by lia
theorem bw.skip{f:R->R}(w:bw f N i rs)(h:i∈rs.flatten):bw f N (i+1) rs where
 ring:=w.ring
 hdl:=λr I x J=>#[by let:=(w.hdl r I x J).1;lia,(w.hdl r I x J).2]
 asc:=w.asc
 nd:=w.nd
 all:=λd hd=>by
  by_cases z:d=i
  .rw[z];exact h
  .exact w.all d ∅
def bw.put{f:R->R}{r:E R}(p:Fp f N)(w:bw f N i rs)(h:i∉rs.flatten)(hi:i<N)(I:Ring f N r)(c:Path f N i r):bw f N (i+1) (rs++[r]):=by
 let j:∀(k x:R),r[k]?=Z x->x∉rs.flatten:=λk=>by
  induction k with
  |zero =>
   intro x J;rw[c.hd]at J;grind
  |succ k O =>
   intro x J z;let D:=(Lm.mp J).1;let g:=Ll (show k<r.L by lia)
   let e:=c.nx k _ _ g J;let q y l:=Mo.mp z;rw[e]at l;exact O _ g (Mo.mpr #[q,y,(w.ring q y).back p (I.lt _ (Ln g)) l])
 let GQ:∀ d∈r,i<=d:=λd hd=>by
  let k eK:=Mp.mp hd;by_cases z:i<=d
  .exact z
  .exact R7 (w.all d ∅) (j k d eK)
 erw[λq y=>?_,λq y x J=>?_,λa b q Y x H m T M J B=>?_,3,λd hd=>?_]
 .obtain z|z:=LG.mp y
  .exact w.ring q z
  .let:q=r:=by simpa using z
   rw[this];exact I
 .obtain z|z:=LG.mp y
  .let:=w.hdl q z x J
   grind
  .let e:q=r:=by simpa using z
   subst e;rw[c.hd]at J;simp!
 .let bl:=(Lm.mp M).1
  rw[Lx,LR]at bl;rw[Ls ∅]at T
  by_cases z:b<rs.L
  .rw[Ls z]at M;exact w.asc a b q Y x H m T M J B
  .let A:b=rs.L:=by lia
   subst A;rw[Lr (Lq _),Mf]at M;let e:r=Y:=Me M;subst e;rw[c.hd]at B
   cases B
   exact(w.hdl q (Ln T) x J).1
 .rw[MN];let e : [r].flatten=r:=by simp
  rw[e];refine LV.mpr #[w.nd,I.nd,λa T b M e=>?_];let k eK:=Mp.mp M;exact j k b eK (e▸T)
 .rw[MN,LG];by_cases z:d=i
  .right;rw[z];simp;exact Ln c.hd
  .exact .inl (w.all d ∅)
def lZ(nd:rs.flatten.l){a b:R}{r:E R}{d:R}(T:rs[a]?=Z r)(M:rs[b]?=Z r')(Y:d∈r)(h2:d∈r'):a=b:=by
 induction rs generalizing a b with
 |nil=>cases T
 |cons q rs O =>
  rw[ME]at nd;let _ D Q:=LV.mp nd
  cases a with
  |zero =>
   cases b with
   |zero=>rfl
   |succ b =>
    let e:q=r:=Me T;subst e;exact R7 U (Q d Y d (Mo.mpr #[r',Ln M,h2]))
  |succ a =>
   cases b with
   |zero =>
    let e:q=r':=Me M;subst e;exact R7 U (Q d h2 d (Mo.mpr #[r,Ln T,Y]))
   |succ b=>exact congrArg Nat.succ (O D T M)
def chain(f:R->R):R->E R->R->Prop
 |x,[],z=>f x=z
 |x,y::l,z=>f x=y/\chain f y l z
theorem iP{f:R->R}:∀{x:R}{l:E R}{y:R}{k:E R}{z:R},chain f x (l++y::k) z↔chain f x l y/\chain f y k z
 |x,[],y,k,z=>Iff.rfl
 |x,a::l,y,k,z=>by
  show(f x=a/\chain f a (l++y::k) z)↔(f x=a/\chain f a l y)/\chain f y k z;rw[iP,and_assoc]
theorem nC{f g:R->R}:∀{x y:R}{l:E R}{z:R},chain f x l z->g y=f x->(∀ t∈l,g t=f t)->chain g y l z
 |x,y,[],z,h,e,_=>e.Q h
 |x,y,a::l,z,h,e,k=>#[e.Q h.1,nC h.2 (k a (Ly ..)) λt n=>k t (Lu _ n)]
theorem qZ{f g F:R->R}:∀{x:R}{l:E R}{z:R},chain f x l z->(∀ t∈x::l,g (F t)=F (f t))->chain g (F x) (l.h F) (F z)
 |x,[],z,h,k=>by
  show g (F x)=F z;rw[k x (Ly ..),show f x=z from h]
 |x,a::l,z,h,k=>#[by rw[k x (Ly ..),h.1],qZ h.2 λt n=>k t (Lu _ n)]
theorem q8{f:R->R}{S:R->Prop}:∀{x:R}{l:E R}{z:R},chain f x l z->(∀ t∈x::l,S t->S (f t))->S x->S z/\∀ t∈l,S t
 |x,[],z,h,k,s=>#[by let:=k x (Ly ..) s;rwa[show f x=z from h]at this,λt n=>nomatch n]
 |x,a::l,z,h,k,s=>by
  let j:S a:=by let:=k x (Ly ..) s;rwa[h.1]at this
  let Y L:=q8 h.2 (λt n=>k t (Lu _ n)) j;simp!
structure CR(f:R->R)(N:R)(r:E R):Prop where
 ch:∃ x l,r=x::l/\chain f x l x
 lt:∀ d∈r,d<N
 nd:r.l
def CR.closed{f:R->R}{r:E R}(h:CR f N r):∀ d∈r,f d∈r:=by
 let x l rfl c:=h.ch;intro d hd;obtain y|y:=Lz.mp hd
 .subst y
  cases l with
  |nil=>rw[show f d=d from c];lia
  |cons a l=>rw[c.1];simp
 .let A B rfl:=OV y;let c2:=(iP.mp c).2
  cases B with
  |nil=>rw[show f d=x from c2];exact Ly ..
  |cons a B=>rw[c2.1];simp
def CR.sub{f:R->R}{r:E R}{S:R->Prop}(h:CR f N r)(k:∀ t∈r,S t->S (f t)){d:R}(hd:d∈r)(s:S d):∀ t∈r,S t:=by
 let x l rfl c:=h.ch;let a:S x->∀ t∈x::l,S t:=λeg t n=>by
  obtain y|y:=Lz.mp n
  .rw[y];exact eg
  .exact(q8 c k eg).2 t y
 obtain y|y:=Lz.mp hd
 .exact a (y▸s)
 .let A B rfl:=OV y;let c2:=(iP.mp c).2;exact a (q8 c2 (λt n=>k t (by simp[*])) s).1
theorem CR.same{f:R->R}{r:E R}(h:CR f N r)(h':CR f N r'){d:R}(Y:d∈r)(h2:d∈r'):∀ t∈r,t∈r':=h.sub (S:=λt=>t∈r') (λt _=>h'.closed t) Y h2
def CR.ne{f:R->R}{r:E R}(h:CR f N r):∃ d,d∈r:=by
 let x l rfl _:=h.ch;erw[x,Ly ..]
structure Part(f:R->R)(N:R)(rs:mo):Prop where
 cr:∀ r∈rs,CR f N r
 nd:rs.flatten.l
 all:∀ d,d<N->d∈rs.flatten
def Part.pick{f:R->R}(p:Part f N rs){r:E R}(h:CR f N r):∃ rest,Part f N (r::rest)/\rest.L+1=rs.L:=by
 let d hd:=h.ne;let x eK n:=Mo.mp (p.all d (h.lt d hd));let c0:=p.cr x eK;let j:=h.same c0 hd n;let o:=c0.same h n hd;let A B rfl:=OV eK;let u:=p.nd;rw[MN,ME]at u;let O D i:=LV.mp u;let g c k:=LV.mp D;erw[A++B,#[λq C=>?_,3,λy Q=>?_],by grind]
 .obtain z|z:=Lz.mp C
  .rw[z];exact h
  .refine p.cr q ?_;grind
 .rw[ME,MN];refine LV.mpr #[h.nd,LV.mpr #[O,c,λa T b M=>i a T b (by simp[M])],λa T b M=>?_]
  obtain z|z:=LG.mp M
  .exact λe=>i b z a (Mi _ (j a T)) e.Y
  .exact k a (j a T) b z
 .let:=p.all y Q
  rw[MN,ME]at this;rw[ME,MN];simp only[LG]at this ⊢;obtain z|z|z:=this
  .exact .inr (.inl z)
  .exact .inl (o y z)
  .exact .inr (.inr z)
def Part.same:∀{rs qs:mo}{f:R->R}{N:R},Part f N rs->Part f N qs->rs.L=qs.L:=by
 let w:∀(k:R){rs qs:mo}{f:R->R}{N:R},Part f N rs->Part f N qs->rs.L<=qs.L:=by
  intro _ rs qs f N p q;let g:∀ r∈rs,∃ i,i<qs.L/\∃ eK,qs[i]?=Z eK/\∀ t∈eK,t∈r:=λr I=>by
   let c:=p.cr r I;let d hd:=c.ne;let eK y n:=Mo.mp (q.all d (c.lt d hd));let i B:=Mp.mp y;erw[i,(Lm.mp B).1,eK,B,(q.cr eK y).same c n hd]
  let:∀(l:mo),(∀ r∈l,r∈rs)->l.flatten.l->∃ is:E R,is.L=l.L/\is.l/\∀ i∈is,i<qs.L/\∃ r∈l,∃ eK,qs[i]?=Z eK/\∀ t∈eK,t∈r:=λl=>by
   induction l with
   |nil=>intro _ _;erw[[],U,Nt,λi B=>nomatch B]
   |cons r l O =>
    intro h u;rw[ME]at u;let b D Q:=LV.mp u;let is C eg M:=O (λr I=>h r (Lu _ I)) D;let i Y eK L A:=g r (h r (Ly ..));erw[i::is,by simp[C],LF.mpr #[λz=>?_,eg],λj J=>?_]
    .let _ o n a s e:=M i z;rw[L]at s
     cases s
     let d hd:=(q.cr eK (Ln L)).ne;exact Q d (A d hd) d (Mo.mpr #[o,n,e d hd]) U
    .obtain z|z:=Lz.mp J
     .subst z;erw[Y,r,Ly ..,eK,L,A]
     .let x o H v:=M j z;erw[x,o,Lu _ H,v]
  let is C eg M:=this rs (λ_ h=>h) p.nd;rw[← C];exact dP eg λi B=>(M i B).1
 intro rs qs f N p q;exact Nat.le_antisymm (w 0 p q) (w 0 q p)
def Ring.cr{f:R->R}{r:E R}(h:Ring f N r):CR f N r:=by
 erw[3,h.lt,h.nd];let ne:=h.ne;match r,h,ne with
 |x::l,h,_ =>
  erw[x,l,14];let u:∀(k i:R)(y:R),i+k+1=(x::l).L->(x::l)[i]?=Z y->chain f y ((x::l).drop (i+1)) x:=λk=>by
   induction k with
   |zero =>
    intro i y B Q;let e:=h.nx i y Q;rw[show(i+1)%(x::l).L=0 by simp[*]]at e
    rw[List.drop_of_length_le ∅]
    exact(Me e).Y
   |succ k O =>
    intro i y B Q;let e:=h.nx i y Q;rw[Ni ∅]at e
    let d eg:=Lm.mp e;rw[Qr d,eg];erw[U,O (i+1) (f y) ∅ e]
  exact u l.L 0 x (by simp) U
theorem bw.part{f:R->R}(w:bw f N N rs):Part f N rs:=#[λr I=>(w.ring r I).cr,w.nd,w.all]
def wA{A:E R}{t:R}(h:t∉A):(A++t::B).idxOf t=A.L:=by
 rw[List.idxOf_append,R6 h,List.idxOf_cons_self,Oz]
def br{A:E R}{t:R}(h:t∉A):nxt (A++t::B) t=((B++(A++t::B)).head?).f 0:=by
 unfold nxt;rw[wA h]
 cases B with
 |nil =>
  let e:(A.L+1)%(A++[t]).L=0:=by simp
  rw[e,List.nil_append,List.head?_eq_getElem?]
 |cons b B =>
  let e:(A.L+1)%(A++t::b::B).L=A.L+1:=Ni (by simp)
  simp!
def D3{A:E R}{u:R}(h:u∉A):ins (A++u::B) ((A++u::B).idxOf u+1) n=A++u::n::B:=by
 rw[wA h];unfold ins;let C:(A++u::B).j (A.L+1)=A++[u]:=by grind
 simp[*]
def gR{u:R}(h:u∈l):∃ A B,l=A++u::B/\u∉A:=by
 induction l with
 |nil=>exact nomatch h
 |cons a l O =>
  by_cases z:a=u
  .subst z;erw[[],l,U,Ny]
  .obtain y|y:=Lz.mp h
   .exact R7 y.Y z
   .let A B rfl k:=O y;erw[a::A,B,U,λw=>by simp!]
def Km{u:R}(eK:u∈l)(N:n∉l):
  nxt (ins l (l.idxOf u+1) n) u=n/\nxt (ins l (l.idxOf u+1) n) n=nxt l u/\∀ t∈l,t≠u->nxt (ins l (l.idxOf u+1) n) t=nxt l t:=by
 let A B rfl k:=gR eK;rw[D3 k];let h:n∉A:=λz=>N (by simp[z])
 let m:n≠u:=λz=>N (by simp[z])
 erw[15,λt Y g=>?_]
 .rw[br k];rfl
 .let e:A++u::n::B=(A++[u])++n::B:=by simp
  rw[e,br (λz=>by obtain z|z:=LG.mp z;exact h z;exact m (by simpa using z)),br k]
  cases B<;>cases A<;>rfl
 .obtain z|z:=LG.mp Y
  .let b d rfl j:=gR z;let C:(b++t::d)++u::n::B=b++t::(d++u::n::B):=by simp
   let eg:(b++t::d)++u::B=b++t::(d++u::B):=by simp
   rw[C,eg,br j,br j];simp
  .let c:t∈B:=by simp!
   by_cases o:t∈A
   .let b d rfl j:=gR o;let C:(b++t::d)++u::n::B=b++t::(d++u::n::B):=by simp
    let eg:(b++t::d)++u::B=b++t::(d++u::B):=by simp
    rw[C,eg,br j,br j];simp
   .let i f rfl j:=gR c;let a:t≠n:=λy=>N (by grind)
    let C:A++u::n::(i++t::f)=(A++u::n::i)++t::f:=by simp
    let eg:A++u::(i++t::f)=(A++u::i)++t::f:=by simp
    rw[C,eg,br (by simp[o,g,a,j]),br (by simp[o,g,j])]
    cases f<;>cases A<;>rfl
def qK{es:En}{t p:R}(h:t<es.L):leave (es++[e]) t p=leave es t p:=by
 unfold leave;rw[Ls h]
def vX{es:En}{p:R}:leave (es++[e]) es.L p=if e.1=p then 2*es.L else 2*es.L+1:=by
 unfold leave;rw[Lr (Lq _),Mf];rfl
def rY{es:En}{d:R}(h:d<2*es.L):hd (es++[e]) d=hd es d:=by
 unfold hd;rw[Ls ∅]
def hd_new{es:En}:hd (es++[e]) (2*es.L)=e.2/\hd (es++[e]) (2*es.L+1)=e.1:=by
 let C:2*es.L/2=es.L:=by lia
 let eg:(2*es.L+1)/2=es.L:=by lia
 constructor
 .unfold hd;simp
 .unfold hd;simp[*]
def hd_inj{es:En}(w:bS m es ts){a b:R}(T:a<2*es.L)(M:b<2*es.L)(h:hd es a=hd es b)(h2:a/2=b/2):a=b:=by
 let C _ A p _:=w.at T;let eg _ j o _:=w.at M;rw[h2,j]at A
 cases A
 let c:=(w.ends C (Ln j)).2.2;rw[p,o]at h;lia
def kL(n:R)(e:R×R)(p:R):R:=if e.1=p then 2*n else 2*n+1
def gE{es:En}{d:R}(h:ts[hd es d]?=Z l):fol es ts d=leave es (nxt l (d/2)) (hd es d):=by
 unfold fol;rw[h];rfl
def bS.flip{es:En}{a b:R}(w:bS m (es++[(a,b)]) ts):bS m (es++[(b,a)]) ts:=by
 let u:∀(x y:R)(t p:R),(∃ e,(es++[(x,y)])[t]?=Z e/\(e.1=p∨e.2=p))->∃ e,(es++[(y,x)])[t]?=Z e/\(e.1=p∨e.2=p):=λx y t p=>by
  rintro⟨e,Y,L⟩;by_cases z:t<es.L
  .rw[Ls z]at Y;erw[e,by rw[Ls z];exact Y,L]
  .let d:=(Lm.mp Y).1
   rw[Lx,LR]at d;let c:t=es.L:=by lia
   subst c;rw[Lr (Lq _),Mf]at Y
   cases Y
   erw[(y,x),by rw[Lr (Lq _),Mf];rfl,L.Y]
 erw[w.len,λe eK=>?_,w.nd,λp l h t=>#[λz=>u a b t p ((w.mem p l h t).mp z),λz=>(w.mem p l h t).mpr (u b a t p z)]];obtain z|z:=LG.mp eK
 .exact w.ends e (Mi _ z)
 .let:e=(b,a):=by simpa using z
  subst this;let Y L f:=w.ends (a,b) (by simp)
  erw[L,Y,λy=>f y.Y]
def bS.room{es:En}(w:bS m es ts):bS (m+1) es (ts++[[]]):=by
 erw[by rw[Lx,w.len];rfl,λe eK=>?_,λp l h=>?_,λp l h t=>?_]
 .let Y L f:=w.ends e eK;lia
 all_goals by_cases z:p<ts.L
 .rw[Ls z]at h;exact w.nd p l h
 .let d:=(Lm.mp h).1
  simp!
 .rw[Ls z]at h;exact w.mem p l h t
 .let d:=(Lm.mp h).1
  rw[Lx,LR]at d;let c:p=ts.L:=by lia
  subst c;rw[Lr (Lq _),Mf]at h
  cases h
  erw[(λy=>nomatch y),3];rintro⟨e,Y,L⟩;let N j _:=w.ends e (Ln Y);let:=w.len;lia
theorem KY{es:En}(w:bS m es ts){p:R}(h:ts[p]?=Z l):es.L∉l:=λz=>by
 let x J _:=(w.mem p l h es.L).mp z;simp!
def yG{es:En}{ts':mo}{p u:R}(w:bS m es ts)(hl:ts[p]?=Z l)(eK:u<2*es.L)(g:hd es u=p)(a:ts'[p]?=Z (ins l (l.idxOf (u/2)+1) es.L)):
  fol (es++[e]) ts' u=kL es.L e p/\(∀ b,b/2=es.L->hd (es++[e]) b=p->fol (es++[e]) ts' b=fol es ts u)/\∀ d,d<2*es.L->d≠u->hd es d=p->fol (es++[e]) ts' d=fol es ts d:=by
 let _ h _ _ _ _ j k:=w.at eK;rw[g,hl]at j
 cases j
 let nn:=KY w hl;let O D Q:=Km k nn;let lt:∀ t∈l,nxt l t<es.L:=λt n=>by
  let x J _:=(w.mem p l hl (nxt l t)).mp (Ln (ig n));exact(Lm.mp J).1
 erw[3,λb M o=>?_,λd B c i=>?_]
 .rw[gE (l:=ins l (l.idxOf (u/2)+1) es.L) (by rw[rY eK,g];exact a),O,rY eK,g,vX]
  rfl
 .rw[gE (l:=ins l (l.idxOf (u/2)+1) es.L) (by rw[o];exact a),M,D,o,qK (lt _ k),gE (l:=l) (by rw[g];exact hl),g]
 .let _ h _ _ _ _ H f:=w.at B;rw[i,hl]at H
  cases H
  let q:d/2≠u/2:=λz=>c (hd_inj w B eK (i.Q g.Y) z);rw[gE (l:=ins l (l.idxOf (u/2)+1) es.L) (by rw[rY B,i];exact a),Q _ f q,rY B,i,qK (lt _ f),gE (l:=l) (by rw[i];exact hl),i]
def AS{es:En}{ts':mo}(w:bS m es ts){d:R}(B:d<2*es.L)(h:ts'[hd es d]?=ts[hd es d]?):fol (es++[e]) ts' d=fol es ts d:=by
 let _ l _ _ _ _ H f:=w.at B;let lt:nxt l (d/2)<es.L:=by
  let x J _:=(w.mem _ l H (nxt l (d/2))).mp (Ln (ig f));exact(Lm.mp J).1
 rw[gE (l:=l) (by rw[rY B,h];exact H),rY B,qK lt,gE H]
def di(n:R)(e:R×R)(p:R):kL n e p/2=n:=by
 unfold kL;grind
def AY{es:En}{one two:R}(c:one≠two)(eK:e=(one,two)∨e=(two,one)):hd (es++[e]) (kL es.L e one)=two/\hd (es++[e]) (kL es.L e two)=one/\kL es.L e one≠kL es.L e two/\∀ d,d<2*(es.L+1)->d<2*es.L∨d=kL es.L e one∨d=kL es.L e two:=by
 let Y L:=hd_new (es:=es) (e:=e);unfold kL;grind
def par(S:R->i0):E R->i0
 |[]=>kt
 |d::l=>S (d/2) ^^ par S l
theorem aK(S:R->i0)(d:R)(l:E R):par S (d::l)=(S (d/2) ^^ par S l):=rfl
theorem t8(S:R->i0):∀ a b:E R,par S (a++b)=(par S a ^^ par S b)
 |[],b=>by show par S b=(kt ^^ par S b);simp!
 |x::a,b=>by rw[Qb,aK,aK,t8 S a b,OY]
def t6(S:R->i0){a b:E R}(p:a.Perm b):par S a=par S b:=by
 induction p with
 |nil=>rfl
 |cons x _ O=>rw[aK,aK,O]
 |swap x y l=>rw[aK,aK,aK,aK,← OY,← OY,Oc (S (y/2))]
 |trans _ _ a b=>exact a.Q b
theorem Dm(S:R->i0)(σ:R->R):∀ l:E R,par S (l.h λd=>2*σ (d/2)+d%2)=par (λt=>S (σ t)) l
 |[]=>rfl
 |d::l=>by
  rw[LX,aK,aK,Dm S σ l,show(2*σ (d/2)+d%2)/2=σ (d/2) by lia]
def Af(es:En)(S Pl:R->i0):Prop:=∀(t:R)(e:R×R),es[t]?=Z e->S t=(Pl e.1 ^^ Pl e.2)
def AZ{es:En}{S:R->i0}(h:Af es S Pl){d:R}(B:d<2*es.L):S (d/2)=(Pl (tl es d) ^^ Pl (hd es d)):=by
 let C:es[d/2]?=Z (es[d/2]'∅):=Ll _
 rw[h _ _ C];unfold tl hd;rw[C];show _=(Pl (if d%2=0 then es[d/2].1 else es[d/2].2) ^^ Pl (if d%2=0 then es[d/2].2 else es[d/2].1));split
 .rfl
 .exact Oc _ _
theorem uR{m:R}{es:En}{ts:mo}{S Pl:R->i0}(w:bS m es ts)(h:Af es S Pl):∀{x:R}{l:E R}{z:R},chain (fol es ts) x l z->x<2*es.L->(∀ t∈l,t<2*es.L)->z<2*es.L->par S (l++[z])=(Pl (hd es x) ^^ Pl (hd es z))
 |x,[],z,c,J,_,A=>by
  let _ _ _ _ _ _ _ _ _ _ k:=w.foll J;let D:fol es ts x=z:=c;rw[List.nil_append,aK,AZ h A,← D,k];exact MA _
 |x,a::l,z,c,J,d,A=>by
  let _ _ _ _ _ _ _ _ _ _ k:=w.foll J;let T:=d a (Ly ..);rw[Qb,aK,uR w h c.2 T (λt n=>d t (Lu _ n)) A,AZ h T,← c.1,k];simp
structure Gr(m:R)(es:En)(ts:mo):Prop where
 w:bS m es ts
 part:∃ rs,Part (fol es ts) (2*es.L) rs/\m+rs.L=es.L+2
 conn:∀ S:R->Prop,(∀ e∈es,S e.1↔S e.2)->∀ p q,p<m->q<m->S p->S q
 cut:∀ S:R->i0,(∀ r,CR (fol es ts) (2*es.L) r->par S r=kt)->∃ Pl:R->i0,Af es S Pl
def CR.mono{f g:R->R}{r:E R}(h:CR f N r)(w:N<=M)(k:∀ t∈r,g t=f t):CR g M r:=by
 let x l rfl c:=h.ch;erw[#[x,l,U,nC c (k x (Ly ..)) λt n=>k t (Lu _ n)],λd hd=>Mb (h.lt d hd) w,h.nd]
theorem HD{es:En}(c:∀ S:R->Prop,(∀ e∈es,S e.1↔S e.2)->∀ p q,p<m->q<m->S p->S q):∀ S:R->Prop,(∀ x∈es++[e],S x.1↔S x.2)->∀ p q,p<m->q<m->S p->S q :=
 λS h=>c S λx J=>h x (Mi _ J)
def Gr.join{es:En}(g:Gr m es ts){left right one two:R}{tail:E R}(hl:left<2*es.L)(N:CR (fol es ts) (2*es.L) (left::tail))(al:chain (fol es ts) left tail left)(D:right∈left::tail)(Y:hd es left=one)(h2:hd es right=two)(H:one≠two)(eK:e=(one,two)∨e=(two,one))(e1:ts[one]?=Z l)(eg:ts[two]?=Z l'):
  Gr m (es++[e]) ((ts.set one (ins l (l.idxOf (left/2)+1) es.L)).set two (ins l' (l'.idxOf (right/2)+1) es.L)):=by
 let w:=g.w;let a7:right<2*es.L:=N.lt right D;let i:=w.len;let o1:one<m:=by rw[← i];exact(Lm.mp e1).1
 let o2:two<m:=by rw[← i];exact(Lm.mp eg).1
 let W:bS m (es++[e]) ((ts.set one (ins l (l.idxOf (left/2)+1) es.L)).set two (ins l' (l'.idxOf (right/2)+1) es.L)):=by
  obtain rfl|rfl:=eK
  .exact w.put o1 o2 H e1 eg
  .exact(w.put o1 o2 H e1 eg).flip
 let o:((ts.set one (ins l (l.idxOf (left/2)+1) es.L)).set two (ins l' (l'.idxOf (right/2)+1) es.L))[one]?=Z (ins l (l.idxOf (left/2)+1) es.L):=by grind
 let B:((ts.set one (ins l (l.idxOf (left/2)+1) es.L)).set two (ins l' (l'.idxOf (right/2)+1) es.L))[two]?=Z (ins l' (l'.idxOf (right/2)+1) es.L):=by simp[*]
 let r3:∀ p,p≠one->p≠two->((ts.set one (ins l (l.idxOf (left/2)+1) es.L)).set two (ins l' (l'.idxOf (right/2)+1) es.L))[p]?=ts[p]?:=λp n1 n2=>by
  rw[MH,R6 (λz=>n2 z.Y),MH,R6 (λz=>n1 z.Y)]
 generalize (ts.set one (ins l (l.idxOf (left/2)+1) es.L)).set two (ins l' (l'.idxOf (right/2)+1) es.L)=ts' at W o B r3;let h v a3:=yG (e:=e) w e1 hl Y o;let b1 b2 b3:=yG (e:=e) w eg a7 h2 B;let d1 d2 d3 d4:=AY (es:=es) H eK;let fa:=b2 _ (di _ _ _) d1;let fb:=v _ (di _ _ _) d2;let aI:∀ d,d<2*es.L->d≠left->d≠right->fol (es++[e]) ts' d=fol es ts d:=λd ab n1 n2=>by
  by_cases s:hd es d=one
  .exact a3 d ab n1 s
  .by_cases A:hd es d=two
   .exact b3 d ab n2 A
   .exact AS w ab (r3 _ s A)
 generalize T:kL es.L e one=α at *;generalize M:kL es.L e two=β at *;let ba:α/2=es.L:=by rw[← T];exact di _ _ _
 let bb:β/2=es.L:=by rw[← M];exact di _ _ _
 let be:right≠left:=λz=>H (by simp!)
 let bg:right∈tail:=by simp!
 let j O rfl:=OV bg;let c1 c2:=iP.mp al;let nd:=N.nd;let an:∀ t∈j,t<2*es.L/\t≠left/\t≠right:=λt n=>by
  erw[N.lt t (by simp[n]),λz=>?_,λz=>?_]
  .simp!
  .grind
 let ap:∀ t∈O,t<2*es.L/\t≠left/\t≠right:=λt n=>by
  erw[N.lt t (by simp[n]),λz=>?_,λz=>?_]
  .simp!
  .grind
 let I p cnt:=g.part;let rest pr a5:=p.pick N;let aT:=pr.nd;rw[ME]at aT;let _ a4 aX:=LV.mp aT;let a0:∀ t∈rest.flatten,t<2*es.L/\t≠left/\t≠right:=λt n=>by
  let q k L:=Mo.mp n;erw[(pr.cr q (Lu _ k)).lt t L,λz=>aX left (by simp) t n z.Y,λz=>aX right (by simp) t n z.Y]
 let ae:(es++[e]).L=es.L+1:=by rw[Lx];rfl
 let PP:Part (fol (es++[e]) ts') (2*(es++[e]).L) ((left::α::O)::(right::β::j)::rest):=by
  erw[λq C=>?_,3,λd ab=>?_]
  .obtain z|z:=Lz.mp C
   .subst z;erw[#[left,α::O,U,h,nC c2 fa λt n=>aI t (ap t n).1 (ap t n).2.1 (ap t n).2.2],λd ab=>?_,3]
    .rw[ae];simp only[Lz]at ab;obtain y|y|y:=ab
     .lia
     .lia
     .let:=(ap d y).1;lia
    .refine LF.mpr #[λy=>?_,LF.mpr #[λy=>?_,3]]
     .obtain y|y:=Lz.mp y
      .lia
      .exact(ap _ y).2.1 U
     .let:=(ap _ y).1;lia
     .exact(LF.mp (LV.mp (LF.mp nd).2).2.1).2
   .obtain z|z:=Lz.mp z
    .subst z;erw[#[right,β::j,U,b1,nC c1 fb λt n=>aI t (an t n).1 (an t n).2.1 (an t n).2.2],λd ab=>?_,3]
     .rw[ae];simp only[Lz]at ab;obtain y|y|y:=ab
      .lia
      .lia
      .let:=(an d y).1;lia
     .refine LF.mpr #[λy=>?_,LF.mpr #[λy=>?_,3]]
      .obtain y|y:=Lz.mp y
       .lia
       .exact(an _ y).2.2 U
      .let:=(an _ y).1;lia
      .exact(LV.mp (LF.mp nd).2).1
    .refine(pr.cr q (Lu _ z)).mono (by lia) λt n=>?_
     let k1 k2 k3:=a0 t (Mo.mpr #[q,z,n]);exact aI t k1 k2 k3
  .let bi:∀ x∈j,∀ y∈O,x≠y:=λx J y Q=>(LV.mp (LF.mp nd).2).2.2 x J y (by simp[Q])
   rw[ME,ME];refine LV.mpr #[3,LV.mpr #[3,a4,λa T b M=>?_],λa T b M=>?_]
   .refine LF.mpr #[λy=>?_,LF.mpr #[λy=>?_,(LF.mp (LV.mp (LF.mp nd).2).2.1).2]]
    .obtain y|y:=Lz.mp y
     .lia
     .exact(ap _ y).2.1 U
    .let:=(ap _ y).1;lia
   .refine LF.mpr #[λy=>?_,LF.mpr #[λy=>?_,(LV.mp (LF.mp nd).2).1]]
    .obtain y|y:=Lz.mp y
     .lia
     .exact(an _ y).2.2 U
    .let:=(an _ y).1;lia
   .let k1 k2 k3:=a0 b M;simp only[Lz]at T;obtain y|y|y:=T
    .exact λz=>k3 (z▸y)
    .lia
    .exact aX a (by simp[y]) b M
   .simp only[Lz,LG]at T M;rcases M with(y|y|y)|y
    .obtain z|z|z:=T
     .exact λu=>be (by rw[← y,← u,z])
     .let:=a7;lia
     .exact λu=>(ap a z).2.2 (u.Q y)
    .obtain z|z|z:=T
     .lia
     .lia
     .let:=(ap a z).1;lia
    .obtain z|z|z:=T
     .exact λu=>(an b y).2.1 (u▸z)
     .let:=(an b y).1;lia
     .exact λu=>bi b y a z u.Y
    .let k1 k2 k3:=a0 b y;obtain z|z|z:=T
     .exact λu=>k2 (u▸z)
     .lia
     .exact aX a (by simp[z]) b y
  .rw[ae]at ab;simp only[ME,LG,Lz];obtain y|y|y:=d4 d ab
   .let:=pr.all d y
    simp only[ME,LG,Lz]at this;rcases this with(z|z|z|z)|z
    .exact .inl (.inl z)
    .exact .inr (.inl (.inr (.inr z)))
    .exact .inr (.inl (.inl z))
    .exact .inl (.inr (.inr z))
    .exact .inr (.inr z)
   .exact .inl (.inr (.inl y))
   .exact .inr (.inl (.inr (.inl y)))
 erw[W,#[_,PP,by rw[ae];simp only[MG]at a5 ⊢;lia],HD g.conn,λS ev=>?_]
 let e1:=ev _ (PP.cr _ (Ly ..));let eg:=ev _ (PP.cr _ (Lu _ (Ly ..)));rw[aK,aK,ba]at e1;rw[aK,aK,bb]at eg;let lr:left∈left::(j++right::O):=Ly ..;let rr:right∈left::(j++right::O):=by simp
 let old:∀ r,CR (fol es ts) (2*es.L) r->par S r=kt:=λr aa=>by
  by_cases ac:left∈r
  .let pm:r.Perm (left::(j++right::O)):=(MF aa.nd N.nd).mpr λt=>#[aa.same N ac lr t,N.same aa lr ac t]
   rw[t6 S pm,aK,t8,aK];revert e1 eg;generalize S (left/2)=a;generalize S (right/2)=b;generalize S es.L=c;generalize par S j=d;generalize par S O=f
   cases a<;>cases b<;>cases c<;>cases d<;>cases f<;>decide
  .refine ev r (aa.mono (by rw[ae];lia) λt n=>aI t (aa.lt t n) (λz=>ac (z▸n)) λz=>ac (N.same aa rr (z▸n) left lr))
 let Pl hP:=g.cut S old;erw[Pl,λt x J=>?_];by_cases n:t<es.L
 .rw[Ls n]at J;exact hP t x J
 .let aS:t=es.L:=by
   let:=(Lm.mp J).1;rw[ae]at this;lia
  subst aS;rw[Lr (Lq _),Mf]at J;let am:e=x:=Me J;subst am;let tw:=uR w hP c1 hl (λt n=>(an t n).1) a7;rw[Y,h2,t8,aK]at tw;let a6:S es.L=(Pl one ^^ Pl two):=by
   rw[← tw];revert eg;show _->S es.L=(par S j ^^ (S (right/2) ^^ kt));generalize S (right/2)=b;generalize S es.L=c;generalize par S j=d
   cases b<;>cases c<;>cases d<;>decide
  obtain z|z:=eK
  .rw[z];exact a6
  .rw[z];exact a6.Q (Oc _ _)
def Gr.leaf{es:En}(g:Gr m es ts){left one:R}{tail:E R}(hl:left<2*es.L)(N:CR (fol es ts) (2*es.L) (left::tail))(ac:chain (fol es ts) left tail left)(Y:hd es left=one)(eK:e=(one,m)∨e=(m,one))(e1:ts[one]?=Z l):
  Gr (m+1) (es++[e]) (ts.set one (ins l (l.idxOf (left/2)+1) es.L)++[[es.L]]):=by
 let w:=g.w;let i:=w.len;let o1:one<m:=by rw[← i];exact(Lm.mp e1).1
 let H:one≠m:=by lia
 let W:bS (m+1) (es++[e]) (ts.set one (ins l (l.idxOf (left/2)+1) es.L)++[[es.L]]):=by
  let q:=w.room.put (one:=one) (two:=m) (k:=l.idxOf (left/2)+1) (j:=0) (l:=l) (l':=[]) ∅ ∅ H (by grind) (by simp[*])
  let L:((ts++[[]]).set one (ins l (l.idxOf (left/2)+1) es.L)).set m (ins [] 0 es.L)=ts.set one (ins l (l.idxOf (left/2)+1) es.L)++[[es.L]]:=by
   rw[List.set_append_left _ _ ∅,List.set_append_right _ _ (by simp[*]),Nk,i,Mf]
   rfl
  rw[L]at q;obtain rfl|rfl:=eK
  .exact q
  .exact q.flip
 let A:(ts.set one (ins l (l.idxOf (left/2)+1) es.L)++[[es.L]])[one]?=Z (ins l (l.idxOf (left/2)+1) es.L):=by
  rw[Ls (by simp[*]),MH,R5 U,R5 ∅]
 let o:(ts.set one (ins l (l.idxOf (left/2)+1) es.L)++[[es.L]])[m]?=Z [es.L]:=by simp[*]
 let r3:∀ p,p≠one->p<m->(ts.set one (ins l (l.idxOf (left/2)+1) es.L)++[[es.L]])[p]?=ts[p]?:=λp eg n2=>by
  rw[Ls (by simp[*]),MH,R6 (λz=>eg z.Y)]
 generalize ts.set one (ins l (l.idxOf (left/2)+1) es.L)++[[es.L]]=ts' at W A o r3;let D v a3:=yG (e:=e) w e1 hl Y A;let d1 d2 d3 d4:=AY (es:=es) H eK;let fb:=v _ (di _ _ _) d2;let fa:fol (es++[e]) ts' (kL es.L e one)=kL es.L e m:=by
  rw[gE (l:=[es.L]) (by rw[d1];exact o),di,d1]
  let:nxt [es.L] es.L=es.L:=by
   unfold nxt;rw[List.idxOf_cons_self];simp
  rw[this,vX];rfl
 let al:∀ d,d<2*es.L->d≠left->fol (es++[e]) ts' d=fol es ts d:=λd B eg=>by
  by_cases s:hd es d=one
  .exact a3 d B eg s
  .let _ _ _ _ _ k4 _:=w.at B;exact AS w B (r3 _ s k4)
 generalize T:kL es.L e one=α at *;generalize M:kL es.L e m=β at *;let a0:α/2=es.L:=by rw[← T];exact di _ _ _
 let a4:β/2=es.L:=by rw[← M];exact di _ _ _
 let nd:=N.nd;let a5:∀ t∈tail,t<2*es.L/\t≠left:=λt n=>#[N.lt t (by simp[n]),λz=>(LF.mp nd).1 (z▸n)]
 let I p cnt:=g.part;let rest pr aX:=p.pick N;let an:=pr.nd;rw[ME]at an;let _ aS ap:=LV.mp an;let aI:∀ t∈rest.flatten,t<2*es.L/\t≠left:=λt n=>by
  let q f L:=Mo.mp n;erw[(pr.cr q (Lu _ f)).lt t L,λz=>ap left (by simp) t n z.Y]
 let ab:(es++[e]).L=es.L+1:=by rw[Lx];rfl
 let a6:(left::α::β::tail).l:=by
  refine LF.mpr #[λy=>?_,LF.mpr #[λy=>?_,LF.mpr #[λy=>?_,(LF.mp nd).2]]]
  .simp only[Lz]at y;lia
  .grind
  .grind
 let PP:Part (fol (es++[e]) ts') (2*(es++[e]).L) ((left::α::β::tail)::rest):=by
  erw[λq C=>?_,3,λd B=>?_]
  .obtain z|z:=Lz.mp C
   .subst z;erw[#[left,α::β::tail,U,D,fa,nC ac fb λt n=>al t (a5 t n).1 (a5 t n).2],λd B=>?_,a6];rw[ab];grind
   .refine(pr.cr q (Lu _ z)).mono (by grind) λt n=>?_
    let k1 u:=aI t (Mo.mpr #[q,z,n]);exact al t k1 u
  .rw[ME];refine LV.mpr #[a6,aS,λa T b M=>?_];let k1 u:=aI b M;simp only[Lz]at T;grind
  .rw[ab]at B;simp only[ME,LG,Lz];obtain y|y|y:=d4 d B
   .let:=pr.all d y
    simp only[ME,LG,Lz]at this;rcases this with(z|z)|z
    .exact .inl (.inl z)
    .exact .inl (.inr (.inr (.inr z)))
    .exact .inr z
   .exact .inl (.inr (.inl y))
   .exact .inl (.inr (.inr (.inl y)))
 erw[W,#[_,PP,by rw[ab];grind],λS O x y J Q sx=>?_,λS ev=>?_]
 .skip
  let a7:S one↔S m:=by grind
  let old:=g.conn S λx J=>O x (Mi _ J);let aT:S one:=by
   by_cases z:x<m
   .exact old x one z o1 sx
   .let:x=m:=by lia
    subst this;exact a7.mpr sx
  by_cases z:y<m
  .exact old one y o1 z aT
  .let:y=m:=by lia
   subst this;exact a7.mp aT
 .let e1:=ev _ (PP.cr _ (Ly ..))
  rw[aK,aK,aK,a0,a4]at e1;let old:∀ r,CR (fol es ts) (2*es.L) r->par S r=kt:=λr h=>by
   by_cases aa:left∈r
   .let pm:r.Perm (left::tail):=(MF h.nd N.nd).mpr λt=>#[h.same N aa (Ly ..) t,N.same h (Ly ..) aa t]
    rw[t6 S pm,aK];revert e1;generalize S (left/2)=a;generalize S es.L=c;generalize par S tail=d
    cases a<;>cases c<;>cases d<;>decide
   .exact ev r (h.mono (by rw[ab];lia) λt n=>al t (h.lt t n) λz=>aa (z▸n))
  let Pl hP:=g.cut S old;erw[λp=>if p=m then(Pl one ^^ S es.L) else Pl p,λt x J=>?_];by_cases n:t<es.L
  .rw[Ls n]at J;let b1 b2 _:=w.ends x (Ln J);show S t=((if x.1=m then _ else Pl x.1) ^^ (if x.2=m then _ else Pl x.2));rw[R6 ∅,R6 ∅]
   exact hP t x J
  .let am:t=es.L:=by
    let:=(Lm.mp J).1;rw[ab]at this;lia
   subst am;rw[Lr (Lq _),Mf]at J;let ae:e=x:=Me J;subst ae;obtain z|z:=eK
   .rw[z];show S es.L=((if one=m then _ else Pl one) ^^ (if m=m then(Pl one ^^ S es.L) else _));rw[R6 H,R5 U]
    cases Pl one<;>cases S es.L<;>rfl
   .rw[z];show S es.L=((if m=m then(Pl one ^^ S es.L) else _) ^^ (if one=m then _ else Pl one));rw[R6 H,R5 U]
    cases Pl one<;>cases S es.L<;>rfl
def gr_two:Gr 2 [(0,1)] [[0],[0]]:=by
 let W:bS 2 [(0,1)] [[0],[0]]:=by
  erw[U,λe eK=>?_,λp l h=>?_,λp l h t=>?_]
  .simp!
  .match p,h with
   |0,h=>cases h;decide
   |1,h=>cases h;decide
   |p+2,h=>cases h
  .let u:(∃ e,([(0,1)]:En)[t]?=Z e/\(e.1=p∨e.2=p))↔t=0/\(p=0∨p=1):=by
    constructor
    .rintro⟨e,Y,L⟩;match t,Y with
     |0,Y=>cases Y;erw[U,L.imp Eq.Y Eq.Y]
     |t+1,Y=>cases Y
    .rintro⟨rfl,L⟩;erw[(0,1),U,L.imp Eq.Y Eq.Y]
   rw[u];match p,h with
   |0,h=>cases h;simp
   |1,h=>cases h;simp
   |p+2,h=>cases h
 erw[W,#[[[0,1]],#[λr N=>?_,4,λd hd=>?_],U],λS M p q g y f=>?_,λS i=>?_]
 .let:r=[0,1]:=by simpa using N
  subst this;erw[#[00,[1],18,(by show fol [(0,1)] [[0],[0]] 1=0;decide)],λd hd=>by simp at hd ⊢;lia,by decide]
 .let H:d<2:=hd
  grind
 .let:=M (0,1) (by simp)
  let a:S 0↔S 1:=this;let b:p=0∨p=1:=by lia
  let n:q=0∨q=1:=by lia
  obtain rfl|rfl:=b<;>obtain rfl|rfl:=n
  .exact f
  .exact a.mp f
  .exact a.mpr f
  .exact f
 .erw[λp=>if p=1 then S 0 else kt,λt x J=>?_];match t,J with
  |0,J =>
   cases J
   simp
  |t+1,J=>cases J
structure Bij(F:R->R)(n:R):Prop where
 lt:∀ k,k<n->F k<n
 inj:∀ a b,a<n->b<n->F a=F b->a=b
 sur:∀ y,y<n->∃ k,k<n/\F k=y
def ofL(o:E R)(k:R):R:=(o[k]?).f 0
def A5{o:E R}(hl:o.L=n)(nd:o.l)(h:∀ x∈o,x<n):Bij (ofL o) n:=by
 let get:∀ k,k<n->o[k]?=Z (ofL o k):=λk eK=>by
  unfold ofL;simp[*]
 erw[λk eK=>h _ (Ln (get k eK)),λa b T M e=>AI nd (get a T) (by rw[get b M,e]),λy Q=>?_]
 let D:y∈o:=by
  by_cases z:y∈o
  .exact z
  .let:=dP (a:=y::o) (N:=n) (LF.mpr #[z,nd]) λx J=>by
    obtain u|u:=Lz.mp J
    .lia
    .exact h x u
   grind
 let k eK:=Mp.mp D;let c:=(Lm.mp eK).1;erw[k,16]
 simp!
theorem vR{F:R->R}:∀{l:E R},l.l->(∀ x∈l,∀ y∈l,F x=F y->x=y)->(l.h F).l
 |[],_,_=>Nt
 |a::l,u,h=>by
  let O D:=LF.mp u;refine LF.mpr #[λz=>?_,vR D λx J y Q=>h x (Lu _ J) y (Lu _ Q)];let x J e:=LW.mp z;let:=h x (Lu _ J) a (Ly ..) e;exact O (this▸J)
def Kl{F:R->R}{t:R}(n:t∈l)(h:∀ x∈l,F x=F t->x=t):nxt (l.h F) (F t)=F (nxt l t):=by
 let A B rfl k:=gR n;let j:F t∉A.h F:=λz=>by
  grind
 rw[LC,LX,br j,br k];simp
def Kk{X Y:E R}{t:R}(nd:(X++Y).l)(n:t∈X++Y):nxt (Y++X) t=nxt (X++Y) t:=by
 let O D Q:=LV.mp nd;obtain z|z:=LG.mp n
 .let a:t∉Y:=λy=>Q t z t y U
  let A B rfl k:=gR z;let C:Y++(A++t::B)=(Y++A)++t::B:=by simp
  let eg:(A++t::B)++Y=A++t::(B++Y):=by simp
  rw[C,eg,br (by simp[a,k]),br k]
  cases B<;>cases Y<;>cases A<;>rfl
 .let b:t∉X:=λy=>Q t y t z U
  let A B rfl k:=gR z;let C:(A++t::B)++X=A++t::(B++X):=by simp
  let eg:X++(A++t::B)=(X++A)++t::B:=by simp
  rw[C,eg,br k,br (by simp[b,k])]
  cases B<;>cases X<;>cases A<;>rfl
structure Ren(m:R)(es es2:En)(ts ts2:mo)(π σ:R->R):Prop where
 pi:Bij π m
 si:Bij σ es.L
 l1:es2.L=es.L
 l2:ts2.L=m
 es:∀(k:R)(e:R×R),es[k]?=Z e->es2[σ k]?=Z (π e.1,π e.2)
 ts:∀(p:R)(l:E R),ts[p]?=Z l->∃ X Y,l=X++Y/\ts2[π p]?=Z ((Y++X).h σ)
section
variable{m:R}{es es2:En}{ts ts2:E (E R)}{π σ:R->R}
def Ren.es'(ad:Ren m es es2 ts ts2 π σ){x:R×R}(h:es2[j]?=Z x):∃ k e,σ k=j/\es[k]?=Z e/\x=(π e.1,π e.2):=by
 let J:=(Lm.mp h).1;rw[ad.l1]at J;let k eK rfl:=ad.si.sur j J;let C:es[k]?=Z es[k]:=Ll eK;let:=ad.es k _ C;rw[h]at this;erw[k,9,C,Me this]
def Ren.ts'(ad:Ren m es es2 ts ts2 π σ)(w:bS m es ts){L:E R}(h:ts2[j]?=Z L):∃ p l X Y,p<m/\π p=j/\ts[p]?=Z l/\l=X++Y/\L=(Y++X).h σ:=by
 let J:=(Lm.mp h).1;rw[ad.l2]at J;let p g rfl:=ad.pi.sur j J;let C:ts[p]?=Z (ts[p]'(by rw[w.len];exact g)):=Ll _
 let X Y A o:=ad.ts p _ C;rw[h]at o;erw[p,_,X,Y,g,U,C,A,Me o]
def oI(w:bS m es ts){p:R}(h:ts[p]?=Z l){t:R}(n:t∈l):t<es.L:=by
 let x J _:=(w.mem p l h t).mp n;exact(Lm.mp J).1
def Ren.turn(ad:Ren m es es2 ts ts2 π σ)(w:bS m es ts):bS m es2 ts2:=by
 erw[ad.l2,λx J=>?_,λj L h=>?_,λj L h t=>?_]
 .let j C:=Mp.mp J;let k e _ A rfl:=ad.es' C;let n I c:=w.ends e (Ln A);erw[ad.pi.lt _ n,ad.pi.lt _ I,λz=>c (ad.pi.inj _ _ n I z)]
 .let p l X Y g rfl A rfl rfl:=ad.ts' w h;let u:=w.nd p _ A;let O D i:=LV.mp u;refine vR (LV.mpr #[D,O,λa T b M z=>i b M a T z.Y]) λx J y Q=>ad.si.inj x y (oI w A ?_) (oI w A ?_)
  .grind
  .grind
 .let p l X Y g rfl A rfl rfl:=ad.ts' w h;constructor
  .intro z;let k eK rfl:=LW.mp z;let e o f:=(w.mem p _ A k).mp (by simp only[LG]at eK ⊢;exact eK.Y)
   erw[_,ad.es k e o,f.imp (congrArg π) (congrArg π)]
  .rintro⟨x,o,f⟩;let k e rfl B rfl:=ad.es' o;let n I c:=w.ends e (Ln B);let eK:=(w.mem p _ A k).mpr #[e,B,f.imp (ad.pi.inj _ _ n g) (ad.pi.inj _ _ I g)];exact LW.mpr #[k,by simp only[LG]at eK ⊢;exact eK.Y,U]
def Phi(σ:R->R)(d:R):R:=2*σ (d/2)+d%2
def qi(d:R):Phi σ d/2=σ (d/2):=by unfold Phi;lia
def Ren.hd(ad:Ren m es es2 ts ts2 π σ){d:R}(B:d<2*es.L):hd es2 (Phi σ d)=π (hd es d):=by
 let C:es[d/2]?=Z (es[d/2]'∅):=Ll _
 let eg:=ad.es _ _ C;unfold K8.hd;rw[qi,C,eg];let D:Phi σ d%2=d%2:=by unfold Phi;lia
 grind
def Ren.fol(ad:Ren m es es2 ts ts2 π σ)(w:bS m es ts){d:R}(B:d<2*es.L):fol es2 ts2 (Phi σ d)=Phi σ (fol es ts d):=by
 let _ l _ _ _ p H f:=w.at B;let X Y rfl L:=ad.ts _ _ H;let u:=w.nd _ _ H;rw[gE (l:=(Y++X).h σ) (by rw[ad.hd B];exact L),gE H,qi,ad.hd B]
 let a:d/2∈Y++X:=by simp only[LG]at f ⊢;exact f.Y
 rw[Kl a λx J=>ad.si.inj x _ (oI w H (by grind)) (oI w H f),Kk u f]
 let N:=Ln (ig f);let r:=oI w H N;generalize nxt (X++Y) (d/2)=t at r;let C:es[t]?=Z es[t]:=Ll r;let n:=(w.ends _ (Ln C)).1;unfold leave;rw[ad.es _ _ C,C];show(if π es[t].1=π (K8.hd es d) then 2*σ t else 2*σ t+1)=Phi σ (if es[t].1=K8.hd es d then 2*t else 2*t+1);by_cases z:es[t].1=K8.hd es d
 .rw[R5 z,R5 (congrArg π z)];unfold Phi;simp
 .rw[R6 z,R6 (λy=>z (ad.pi.inj _ _ n p y))];unfold Phi;grind
def Ae(b:Bij σ es.L){x y:R}(J:x<2*es.L)(Q:y<2*es.L)(e:Phi σ x=Phi σ y):x=y:=by
 let C:σ (x/2)=σ (y/2):=by
  let Y:=qi (σ:=σ) x;let L:=qi (σ:=σ) y;rw[e]at Y;exact Y.Y.Q L
 let:=b.inj _ _ ∅ ∅ C
 unfold Phi at e;lia
def Ren.gr(ad:Ren m es es2 ts ts2 π σ)(g:Gr m es ts):Gr m es2 ts2:=by
 let f p cnt:=g.part;let flt:∀ d∈f.flatten,d<2*es.L:=λd hd=>by
  let r Y L:=Mo.mp hd;exact(p.cr r Y).lt d L
 let aa:(f.h (List.map (Phi σ))).flatten=f.flatten.h (Phi σ):=List.map_flatten.symm;erw[ad.turn g.w,#[f.h (List.map (Phi σ)),#[λq C=>?_,3,λd hd=>?_],by rw[Lp,ad.l1];exact cnt],λS O x y J Q eg=>?_,λS i=>?_]
 .let r N rfl:=LW.mp C;let c:=p.cr r N;let x l rfl ch:=c.ch;erw[#[Phi σ x,l.h (Phi σ),U,qZ ch λt n=>ad.fol g.w (c.lt t n)],λd hd=>?_,vR c.nd λa T b M=>Ae ad.si (c.lt a T) (c.lt b M)];let t n rfl:=LW.mp hd;let Y:=c.lt t n;let L:=ad.si.lt (t/2) ∅
  rw[ad.l1];unfold Phi;lia
 .rw[aa];exact vR p.nd λa T b M=>Ae ad.si (flt a T) (flt b M)
 .rw[ad.l1]at hd;let k o e:=ad.si.sur (d/2) ∅
  rw[aa];refine LW.mpr #[2*k+d%2,p.all _ ∅,3]
  unfold Phi;rw[show(2*k+d%2)/2=k by lia,e]
  lia
 .let H B rfl:=ad.pi.sur x J;let s A rfl:=ad.pi.sur y Q;refine g.conn (λp=>S (π p)) (λe eK=>?_) H s B A eg;let k o:=Mp.mp eK;exact O (π e.1,π e.2) (Ln (ad.es k e o))
 .let h D:=g.cut (λt=>S (σ t)) λr N=>by
   rw[← Dm S σ r];refine i _ ?_;let x l rfl ch:=N.ch;erw[#[Phi σ x,l.h (Phi σ),U,qZ ch λt n=>ad.fol g.w (N.lt t n)],λd hd=>?_,vR N.nd λa T b M=>Ae ad.si (N.lt a T) (N.lt b M)];let t n rfl:=LW.mp hd;let Y:=N.lt t n;let L:=ad.si.lt (t/2) ∅
   rw[ad.l1];lia
  let u:∀ p,p<m->((Mg m).find? λq=>decide (π q=π p))=Z p:=λp I=>by
   cases z:(Mg m).find? λq=>decide (π q=π p) with
   |none=>exact R7 (Rl U) (List.find?_eq_none.mp z p (Mz.mpr I))
   |some q =>
    let v:=List.find?_some z;let Y:π q=π p:=RS v;rw[ad.pi.inj q p (Mz.mp (List.mem_of_find?_eq_some z)) I Y]
  erw[λy=>h (((Mg m).find? λq=>decide (π q=y)).f 0),λj x J=>?_];let k e rfl Y rfl:=ad.es' J;let b1 b2 _:=g.w.ends e (Ln Y);show S (σ k)=(h (((Mg m).find? λq=>decide (π q=π e.1)).f 0) ^^ h (((Mg m).find? λq=>decide (π q=π e.2)).f 0));rw[u _ b1,u _ b2];exact D k e Y
end
end K8
variable{es:K8.En}
namespace K8
open PySem L2
def top(i:R):fo:=PySem.Challenge.pw_spinfloor_k33_whole_least_laying.main.body.getD i (.Pass #[00,00,00,00])
abbrev mK:fo:=top 14
abbrev mJ:fo:=top 16
abbrev kR:fo:=top 44
abbrev tG:fo:=top 45
abbrev tH:fo:=top 46
abbrev i9:fo:=top 47
abbrev gX:fo:=top 48
abbrev kU:fo:=top 49
abbrev nU:fo:=top 51
abbrev nQ:fo:=top 54
abbrev xR:fo:=top 55
abbrev qy:fo:=top 56
abbrev c8:fo:=oh (top 58) 0
abbrev fG:fo:=oh (top 58) 1
abbrev bI:fo:=oh (top 58) 2
abbrev cZ:fo:=oh (top 58) 5
abbrev dU:fo:=oh (top 60) 0
abbrev C4:fo:=top 62
abbrev qv:fo:=top 63
abbrev nZ:fo:=top 64
abbrev i8:fo:=top 65
abbrev kS:fo:=top 66
abbrev nP:fo:=top 67
abbrev gY:fo:=top 69
abbrev gB:fo:=top 70
abbrev fL:fo:=top 71
abbrev cY:fo:=oh (top 72) 0
abbrev nY:fo:=top 74
abbrev nX:fo:=top 75
abbrev jd:fo:=top 76
abbrev lg:fo:=top 77
abbrev lA:fo:=top 78
abbrev lh:fo:=top 79
abbrev eY:fo:=top 80
abbrev lC:fo:=top 81
abbrev qw:fo:=top 82
abbrev kZ:fo:=top 83
abbrev jb:fo:=top 84
abbrev kW:fo:=top 85
abbrev lj:fo:=top 86
abbrev qx:fo:=top 87
abbrev k8:fo:=top 88
abbrev nW:fo:=top 89
abbrev kX:fo:=top 90
abbrev kY:fo:=top 91
abbrev nV:fo:=top 92
abbrev lx:fo:=top 93
abbrev fM:fo:=top 94
abbrev tJ:fo:=top 95
def tf(a b s:G):E (ff×V):=putF "strength" (.int s) (putF "two" (.int b) (putF "one" (.int a) []))
def oy(a b s:G):(tf a b s).Z ("one" : ff)=Z (.int a):=by
 rfl
def rN(a b s:G):(tf a b s).Z ("two" : ff)=Z (.int b):=by
 rfl
def tf_str(a b s:G):(tf a b s).Z ("strength" : ff)=Z (.int s):=by
 rfl
def sN(a b s:G){m:ff}(Y:¬ m = "strength")(h2:¬ m = "two")(f:¬ m = "one"):(tf a b s).Z m=k7:=by
 unfold tf;rw[aP,R6 Y,aP,R6 h2,aP,R6 f];simp!
def f1_len(a:G):(putF "one" (.int a) []).L<1000:=by show 1<1000;decide
def f2_len(a b:G):(putF "two" (.int b) (putF "one" (.int a) [])).L<1000:=by
 let e:(putF "two" (.int b) (putF "one" (.int a) []):E (ff×V))=([("one",.int a),("two",.int b)]:E (ff×V)):=by rfl
 rw[e];show 2<1000;decide
structure CT(K:Lo)(C:e8):Prop where
 cl:Cls K C
 n1:gy K C "one"
 n2:gy K C "two"
 n3:gy K C "strength"
inductive rO(K:Lo)
 |mk (p C dx:e8)(a b s:G) (_:vs=[.ref p,.int a,.int b,.int s])(_:H p=Z (.ins C dx []))(_:CT K C)(_:a≠b)(_:0<=a)(_:0<=b)(_:0<=s)(_:∀ H',H' p=Z (.ins C dx (tf a b s))->(∀ q o,H q=Z o->q≠p->H' q=Z o)->Q .non H')
theorem ak(h:H p=k7)(o:HO):mu (upd H p o):=λb u q=>by rw[ar (aF q h)];exact q
theorem aJ{l:e8}(h:mu H2)(hl:H l=k7)(o:HO):mu (upd H2 l o):=λb u q=>by rw[ar (aF q hl)];exact h b u q
def iV(p:R):V:=.int (p:G)
theorem KJ{hs:E R}{k x:R}(h:hs[k]?=Z x):atI (hs.h iV) (k:G)=Z (iV x):=aB (by simp[*])
def cJ(H:Hp)(ys:E V)(es:En):Prop:=ys.L=es.L/\∀(i:R)(e:R×R),es[i]?=Z e->∃ p,ys[i]?=Z (.ref p)/\H p=Z (.tup [iV e.1,iV e.2])
theorem cJ.mono(h:cJ H ys es)(s:mu H'):cJ H' ys es:=#[h.1,λi e q=>by
 let p a b:=h.2 i e q
 erw[p,a,s _ _ b]]
def fx(K:Lo)(H:Hp)(xs:E V)(es:En):Prop:=xs.L=es.L/\∀(i:R)(e:R×R),es[i]?=Z e->∃ p C j s,xs[i]?=Z (.ref p)/\H p=Z (.ins C j (tf (e.1:G) (e.2:G) s))/\CT K C
theorem fx.mono(t:fx K H xs es)(h:mu H'):fx K H' xs es:=#[t.1,λi e q=>by
 let p C j s a b d:=t.2 i e q
 erw[p,C,j,s,a,h _ _ b,d]]
def bD(H:Hp)(xs:E V)(ts:mo):Prop:=xs.L=ts.L/\∀(i:R)(l:E R),ts[i]?=Z l->∃ p,xs[i]?=Z (.ref p)/\H p=Z (.lst (l.h iV))
theorem bD.mono(h:bD H xs ts)(s:mu H'):bD H' xs ts:=#[h.1,λi e q=>by
 let p a b:=h.2 i e q
 erw[p,a,s _ _ b]]
def bD.snoc(h:bD H xs ts)(e:H q=Z (.lst (l.h iV))):bD H (xs++[.ref q]) (ts++[l]):=by
 erw[by rw[Lx,Lx,h.1];rfl,λj k f=>?_]
 by_cases J:j<ts.L
 .rw[Ls J]at f;let p n I:=h.2 j k f;erw[p,by rw[Ls (by rw[h.1];exact J)];exact n,I]
 .rw[Lr ∅]at f
  let a:j=ts.L:=by grind
  subst a;rw[Mf]at f
  cases f
  erw[q,by rw[← h.1,Lr (Lq _),Mf];rfl,e]
def bF(S:e8->Prop)(H:Hp)(xs:E V)(ts:mo):Prop:=xs.L=ts.L/\∀(i:R)(l:E R),ts[i]?=Z l->∃ p,xs[i]?=Z (.ref p)/\(¬ S p/\H p=Z (.lst (l.h iV)))
theorem bF.mono{S:e8->Prop}(h:bF S H xs ts)(s:∀ b u,¬ S b->H b=Z u->H' b=Z u):bF S H' xs ts:=#[h.1,λi e q=>by
 let p a n b:=h.2 i e q
 erw[p,a,n,s _ _ n b]]
theorem bF.off{S:e8->Prop}(h:bF S H xs ts):bD H xs ts:=#[h.1,λi e q=>by
 let p a n b:=h.2 i e q
 erw[p,a,b]]
def bF.snoc{S:e8->Prop}(h:bF S H xs ts)(n:¬ S q)(e:H q=Z (.lst (l.h iV))):bF S H (xs++[.ref q]) (ts++[l]):=by
 erw[by rw[Lx,Lx,h.1];rfl,λj k f=>?_]
 by_cases J:j<ts.L
 .rw[Ls J]at f;let p D I:=h.2 j k f;erw[p,by rw[Ls (by rw[h.1];exact J)];exact D,I]
 .rw[Lr ∅]at f
  let a:j=ts.L:=by
   let:=(Lm.mp f).1;rw[LR]at this;lia
  subst a;rw[Mf]at f
  cases f
  erw[q,by rw[← h.1,Lr (Lq _),Mf];rfl,n,e]
theorem qc{f:R->R}(w:bw f N i rs):rs.flatten.L<=N:=dP w.nd λx J=>by
 let r Y L:=Mo.mp J;exact(w.ring r Y).lt x L
def Az{f:R->R}(w:bw f N i rs):rs.L<=N:=by
 let h:∀(l:mo),(∀ r∈l,0<r.L)->l.L<=l.flatten.L:=λl=>by
  induction l with
  |nil=>intro _;exact Lq _
  |cons a l O =>
   grind
 exact MB (h rs λr I=>(w.ring r I).ne) (qc w)
structure TT(K:Lo)(H:Hp)(a b:e8)(m:R)(es:En)(ts:mo):Prop where
 xs:∃ xs,na a xs/\fx K H xs es
 ys:∃ ys,na b ys/\bD H ys ts
 w:bS m es ts
 few:es.L<=62
def TT.mono{K:Lo}{H H':Hp}{a b:e8}{m:R}{es:En}{ts:mo}(t:TT K H a b m es ts)(s:mu H'):TT K H' a b m es ts:=by
 let{J Y L}{O A B}w f:=t;erw[#[J,s.seq Y,L.mono s],#[O,s.seq A,B.mono s],w,f]
def jV(w:bS m es ts)(f:es.L<=62){p:R}(h:ts[p]?=Z l):(∀ t∈l,t<62)/\l.L<=62:=by
 let a:∀ t∈l,t<es.L:=λt n=>by
  let e eK _:=(w.mem p l h t).mp n;exact(Lm.mp eK).1
 erw[λt n=>by let:=a t n;lia,MB (dP (w.nd p l h) a) f]
theorem perm(w:bS m es ts):Fp (fol es ts) (2*es.L):=#[λd h=>by
 let _ _ _ _ _ _ _ _ z _:=w.foll h
 exact z,λa b T M h=>w.inj T M h]
inductive Io(K:Lo)
 |mk (a:e8)(xs:E V)(es:En)(d:R) (_:vs=[.ref a,.int (d:G)])(_:na a xs)(_:fx K H xs es)(_:d<2*es.L)(_:Q (iV (hd es d)) H)
inductive Ik(K:Lo)
 |mk (a:e8)(xs:E V)(es:En)(t p:R)(e:R×R) (_:vs=[.ref a,.int (t:G),.int (p:G)])(_:na a xs)(_:fx K H xs es)(_:es[t]?=Z e)(_:Q (iV (if e.1=p then 2*t else 2*t+1)) H)
inductive spFol(K:Lo)
 |mk (a b:e8)(m:R)(es:En)(ts:mo)(d:R) (_:vs=[.ref a,.ref b,.int (d:G)])(_:TT K H a b m es ts)(_:d<2*es.L)(_:Q (iV (fol es ts d)) H)
inductive Ip(K:Lo)
 |mk (a b:e8)(m:R)(es:En)(ts:mo)(d:R) (_:vs=[.ref a,.ref b,.int (d:G)])(_:TT K H a b m es ts)(_:d<2*es.L)(_:∀ q r H',mu H'->H q=k7->H' q=Z (.lst (r.h iV))->Path (fol es ts) (2*es.L) d r->Ring (fol es ts) (2*es.L) r->Q (.ref q) H')
inductive Am(K:Lo)
 |mk (a b:e8)(m:R)(es:En)(ts:mo) (_:vs=[.ref a,.ref b])(_:TT K H a b m es ts)(_:∀ q ys rs H',mu H'->H' q=Z (.lst ys)->bD H' ys rs->bw (fol es ts) (2*es.L) (2*es.L) rs->Q (.ref q) H')
def iS(H:Hp)(ys:E V)(n:R)(rs:mo):Prop:=ys.L=n/\∀ i,i<n->∃ p a b r eK,ys[i]?=Z (.ref p)/\(H p=Z (.tup [iV a,iV b])/\(rs[a]?=Z r/\(2*i∈r/\(rs[b]?=Z eK/\2*i+1∈eK))))
inductive Cv(K:Lo)
 |mk (a b:e8)(xs ys:E V)(es:En)(f:R->R)(rs:mo) (_:vs=[.ref a,.ref b])(_:na a xs)(_:fx K H xs es)(_:es.L<=62)(_:na b ys)(_:bD H ys rs)(_:bw f (2*es.L) (2*es.L) rs)(_:∀ q zs H',mu H'->H' q=Z (.lst zs)->iS H' zs es.L rs->Q (.ref q) H')
def rf(ns:E G)(k:R):G:=ns.f k 0
inductive CN(K:Lo)
 |mk (a:e8)(k:R)(ns:E G) (_:vs=[.ref a,.int (k:G)])(_:na a (ns.h V.int))(_:Q (.int (rf ns k)) H)
inductive Ar(K:Lo)
 |mk (a b:e8)(ys xs:E V)(m:R)(es:En)(ts:mo)(d:R) (_:vs=[.ref a,.ref b,.int (d:G)])(_:na a ys)(_:cJ H ys es)(_:na b xs)(_:bD H xs ts)(_:bS m es ts)(_:es.L<=62)(_:d<2*es.L)(_:Q (iV (fol es ts d)) H)
inductive spNum
 |mk (i:G) (_:vs=[.int i])(_:Q (.bl kf) H)
structure Txt(mg:ff->io eN):Prop where
 n_len:mg "len"=k7
 n_int:mg "int"=k7
 n_bool:mg "bool"=k7
 n_list:mg "list"=k7
 n_tuple:mg "tuple"=k7
 n_range:mg "range"=k7
 n_enumerate:mg "enumerate"=k7
 n_isinstance:mg "isinstance"=k7
 n_min:mg "min"=k7
 n_sum:mg "sum"=k7
 n_sorted:mg "sorted"=k7
def CY:az ["ties","dart","tie"] ["ties","dart"] (aq C4):=by ac_nf
def Kf(F:Fun K "head" "head" C4 f fd):k9 1 f fd ["ties","dart"] (Io K):=by
 refine F.ok CY (by walk_at "l") λB A u s H L Q eg N h=>?_
 let a J v d rfl x O b k:=h;let D:d/2<v.L:=by lia
 let I:v[d/2]?=Z v[d/2]:=Ll D;let p C j m r g x3:=O.2 _ _ I;let l:hd v d=if d%2=0 then v[d/2].2 else v[d/2].1:=by unfold hd;rw[I]
 let c:(d:G)/2=((d/2:R):G):=by lia
 intro e o;erw[_,(ah (aA 2 CY.nd (a8 (pv 0) (aw fe (pv 1) ai)))
   (ao (aD (j8 (aC cR (aw bG (pv 1) ai) ai (aE _)) (bX (pv 2) U) (bX (pv 2) U))))),3]
 erw[42393,#[by decide,by decide],a,J,165,x,(by rw[c];exact aB r),3]
 erw[2649,(by show(0:G)<2;decide),230]
 refine ite2 (λq=>?_) (λq=>?_)
 .let Y:(d:G)%2=0:=V.int.inj (RS q)
  erw[9,p,C,j,37,g,x3.cl,x3.n2,rN _ _ _,3];rw[l,R5 ∅]at k
  exact k
 .let Y:¬ (d:G)%2=0:=λz=>q (Rl (congrArg V.int z))
  erw[9,p,C,j,37,g,x3.cl,x3.n1,oy _ _ _,3];rw[l,R6 ∅]at k
  exact k
def Bf:az ["ties","number","place"] ["ties","number","place"] (aq qv):=by ac_nf
def Bi(F:Fun K "leaving" "leaving" qv f fd):k9 1 f fd ["ties","number","place"] (Ik K):=by
 refine F.ok Bf (by walk_at "l") λB A u s H L Q eg N h=>?_
 let a J v t D e rfl x O eK k:=h;let p C j m r g x3:=O.2 _ _ eK;let n:CMul 2 (t:G):=.inl #[by decide,by decide]
 intro I o;erw[_,(ao (aD (j8 (aC cR (bX (a8 (pv 0) (pv 1)) U) (pv 2) (aE _)) (aw cz ai (pv 1)) (aw cA (aw cz ai (pv 1)) ai)))),3];erw[153,a,J,165,x,aB r,p,C,j,37,g,x3.cl,x3.n1,oy _ _ _,3689];refine ite2 (λq=>?_) (λq=>?_)
 .let Y:(e.1:G)=(D:G):=V.int.inj (RS q)
  erw[2649,n,3];rw[R5 ∅]at k
  exact k
 .let Y:¬ (e.1:G)=(D:G):=λz=>q (Rl (congrArg V.int z))
  erw[2649,n,933];rw[R6 ∅]at k
  exact k
def gW:az ["ties","turns","dart","place","about","behind"] ["ties","turns","dart"] (aq nZ):=by ac_nf
def yf{an:fk}(F:Fun K "follower" "follower" nZ f fd)(T:Txt mg)(ae:lc 1 "head" ["ties","dart"] (Io K) C eK)(ab:lc 1 "leaving" ["ties","number","place"] (Ik K) I an):k9 2 f fd ["ties","turns","dart"] (spFol K):=by
 refine F.ok gW (by walk_at "l") λB A u s H M Q eg N h=>?_
 let a b m v i d rfl tt aa k:=h;let{J Y L}{O o r}w' n:=tt;let l e p1 t p3 p4 p5 p6 p7 p8 p9:=w'.foll aa;let am len:=jV w' n p1;let q x D:=r.2 _ _ p1;let ed:(d:G)/2=((d/2:R):G):=by lia
 intro y Dc;erw[_,(ah (aA 3 gW.nd (ae.c N (af (pv 0) (af (pv 2) aj))))
   (ah (aA 4 gW.nd (a8 (pv 1) (pv 3)))
   (ah (aA 5 gW.nd (aw bG (aw cA (eG LH Oj Oi pN (pv 4) (af (aw fe (pv 2) ai) aj)) ai) (ay ax (by rfl) T.n_len aZ (af (pv 4) aj))))
   (ao (aD (ab.c N (af (pv 0) (af (a8 (pv 4) (pv 5)) (af (pv 3) aj))))))))),3]
 erw[153,a,J,v,d,U,Y,L,aa,3];erw[153,b,O,165,o,aB x,3];let j:(l.h iV).L=l.L:=Lp _;let al:0<l.L:=Nm t;let ac:(((l.idxOf (d/2):R):G)+1)%((l.h iV).L:G)=(((l.idxOf (d/2)+1)%l.L:R):G):=by simp!
 erw[9,.inl #[6,SqL.of D],2649,#[by decide,by decide],q,l,d/2,U,congrArg (λz=>[V.int z]) ed,SqL.of D,λp g=>by grind,4,t,2469,q,9,.inl (SqL.of D),165,(by show(0:G)<((l.h iV).L:G);grind),3]
 erw[2457,q,661,SqL.of D,(by rw[ac];exact KJ (ig t)),9,a,J,v,nxt l (d/2),hd v d,e,U,Y,L,p3,3]
 rw[p6]at k;exact k
def fy:az ["ties","turns","first","row","dart"] ["ties","turns","first"] (aq i8):=by ac_nf
def Kg(F:Fun K "round_from" "round_from" i8 f fd)(ae:lc 2 "follower" ["ties","turns","dart"] (spFol K) p eK):k9 3 f fd ["ties","turns","first"] (Ip K):=by
 refine F.ok fy (by walk_at "l") λt A u s H L Q eg N h=>?_
 let a b m v i d rfl tt ac k:=h;let pm:=perm tt.w
 intro Xc Dc;erw[_,(ah (aA 3 fy.nd (dB (af (pv 2) aj)))
   (ah (aA 4 fy.nd (ae.c N (af (pv 0) (af (pv 1) (af (pv 2) aj)))))
   (ah (fB PassesOwn.never (aC i4 (pv 4) (pv 2) (aE _)) (ah (aW (eG LH Md Mc a9 (pv 3) (af (pv 4) aj)))
   (ao (aA 4 fy.nd (ae.c N (af (pv 0) (af (pv 1) (af (pv 4) aj))))))))
   (ao (aD (pv 3)))))),3]
 erw[9,(by show 1<=QG;decide),λq C=>?_]
 let j:=ak C (.lst [.int (d:G)]);erw[2457,a,b,m,v,i,d,U,tt.mono j,ac,3];refine fY (λO Y=>∃(r:E R)(x:R),O=[Z (.ref a),Z (.ref b),Z (.int (d:G)),Z (.ref q),Z (iV (fol v i x))]/\mu Y/\Y q=Z (.lst ((r++[x]).h iV))/\Path (fol v i) (2*v.L) d (r++[x]))
  (λO Y=>match Y q with|some (.lst J)=>200-J.L|_=>0) #[[],d,U,j,ag,AF ac] ?_ ?_
 .rintro O Y ⟨r,x,rfl,o,ab,pa⟩;erw[59033];let n:=tt.few;let I:=dP pa.nd pa.lt;refine ite2 (λc=>?_) (λc=>?_)
  .let T:fol v i x≠d:=λz=>by
    rw[Rl (show iV (fol v i x)=V.int (d:G) by rw[z];rfl)]at c
    cases c
   let al:=pa.snoc pm T;let aa:=dP al.nd al.lt;let am:fol v i x<2*v.L:=al.lt _ (by simp)
   erw[9,.inl #[6,SqL.of ab],9,q,165,ab,av (by rw[Lp];lia),3]
   let l:=aJ o C (.lst ((r++[x]).h iV++[iV (fol v i x)]));erw[2457,a,b,m,v,i,fol v i x,U,tt.mono l,am,3];erw[#[r++[x],fol v i x,U,l,3,al],3]
   .rw[ag,show((r++[x]++[fol v i x]).h iV)=(r++[x]).h iV++[iV (fol v i x)] from by rw[LC];rfl]
   .show(match(upd Y q (.lst ((r++[x]).h iV++[iV (fol v i x)]))) q with|some (.lst J)=>200-J.L|_=>0)<(match Y q with|some (.lst J)=>200-J.L|_=>0)
    rw[ag,ab];show 200-((r++[x]).h iV++[iV (fol v i x)]).L<200-((r++[x]).h iV).L;rw[Lx,Lp,LR];lia
  .let T:fol v i x=d:=by
    by_cases z:fol v i x=d
    .exact z
    .exact R7 (by rw[QF (λy=>z (by let:=V.int.inj y;lia))];rfl) c
   erw[57];exact k q _ Y o C ab pa (pa.ring pm T)
 .rintro O Y Q1 Q2 B ⟨v',e,b',D,g,T,M,q'⟩;erw[v',e,b',D,g,T,M,B _ _ q']
def cS:az ["ties","turns","rounds","seen","dart","row","gone"] ["ties","turns"] (aq kS):=by ac_nf
def Dx(F:Fun K "rounds_of" "rounds_of" kS f fd)(T:Txt mg)(aT:lc 3 "round_from" ["ties","turns","first"] (Ip K) C eK):k9 4 f fd ["ties","turns"] (Am K):=by
 refine F.ok cS (by walk_at "l") λab A M s H vs Q eg N h=>?_
 let a b m v ts rfl tt k:=h;let hu:=uz N;let pm:=perm tt.w;let ac:=tt.few;let xs Y L:=tt.xs
 intro Xc Dc;erw[_,(ah (aA 2 cS.nd (dB aj))
   (ah (aA 3 cS.nd mR)
   (ah (mj (aO U T.n_range (af (aw cz ai (ay ax (by rfl) T.n_len aZ (af (pv 0) aj))) aj)) (bW 4 cS.nd) (ao (bH (AB (mS hu (pv 4) (pv 3))) (ah (aA 5 cS.nd (aT.c N (af (pv 0) (af (pv 1) (af (pv 4) aj)))))
   (ah (aW (eG LH Md Mc a9 (pv 2) (af (pv 5) aj)))
   (ao (mj (aN (pv 5)) (bW 6 cS.nd) (ao (lF hu (pv 3) (pv 6) gH U)))))) aM)))
   (ao (aD (pv 2)))))),3]
 erw[(by show 0<=QG;decide),λqr aX=>λqs a2=>?_]
 let s1:=(ak aX (.lst [])).Q (ak a2 (.dK []));let a4:H qs=k7:=by
  cases z:H qs with
  |none=>rfl
  |some o=>rw[ak aX (.lst []) qs o z]at a2;lia
 let al:qr≠qs:=λz=>by rw[← z,ag]at a2;contradiction
 let ap:xs.L=v.L:=L.1;let hN:(2*(xs.L:G)).U=2*v.L:=by lia
 erw[9,a,xs,U,.inl (s1.seq Y),165,.inl #[by decide,by decide],329,bY (n:=(2*(xs.L:G)).U) (λi O u=>∃ v4 v5 v6 t rs aa,O=[Z (.ref a),Z (.ref b),Z (.ref qr),Z (.ref qs),v4,v5,v6]/\mu u/\u qr=Z (.lst t)/\bF (λp=>p=qr∨p=qs) u t rs/\u qs=Z (.dK aa)/\aa.L<=rs.flatten.L/\(∀ d:R,(valV aa (Sum.inl (d:G))).isSome=kf↔d∈rs.flatten)/\bw (fol v ts) (2*v.L) i rs)
  #[21,[],[],[],U,s1,by rw[ar al,ag],#[U,λi l e=>by simp at e],ag,Lq _,λd=>by simp[valV],rS _ _] ?_ ?_]
 .rintro i O u B ⟨v4,v5,v6,t,rs,aa,rfl,s2,I,rx,D,kl,km,ro⟩;rw[hN]at B;let e0:(0:G)+(i:G)=(i:G):=MP _;rw[e0];let fl:=qc ro;let rl:=Az ro;erw[9625,DGet.k (k:=Sum.inl (i:G)) D,57];refine ite2 (λc=>?_) (λc=>?_)
  .let a1:i∉rs.flatten:=λz=>by
    rw[(km i).mpr z]at c
    cases c
   erw[2457,a,b,m,v,ts,i,U,tt.mono s2,B,λq r H3 s3 hq a0 pa ri=>?_];let aI:=s2.Q s3;let nq:¬ (q=qr∨q=qs):=by
    rintro(z|z)
    .rw[z,I]at hq;cases hq
    .rw[z,D]at hq;cases hq
   erw[9,.inl #[6,SqL.of (s3 _ _ I)],9,qr,165,s3 _ _ I,av (by rw[rx.1];lia),3]
   let s4:=aJ aI aX (.lst (t++[.ref q]));let a5:∀{H5:Hp},bF (λp=>p=qr∨p=qs) H5 (t++[.ref q]) (rs++[r])->H5 q=Z (.lst (r.h iV)):=λh=>by
    let p z1 _ z2:=h.2 rs.L r (by rw[Lr (Lq _),Mf];rfl)
    rw[← rx.1,Lr (Lq _),Mf]at z1
    cases z1
    exact z2
   let a6:bF (λp=>p=qr∨p=qs) (upd H3 qr (.lst (t++[.ref q]))) (t++[.ref q]) (rs++[r]):=by
    refine(rx.mono λp o n z=>?_).snoc nq ?_
    .rw[ar (λz=>n (.inl z))];exact s3 _ _ z
    .rw[ar (λz=>nq (.inl z))];exact a0
   let rl:r.L<=2*v.L:=dP ri.nd ri.lt
   erw[9,q,U,#[_,SqL.of (a5 a6)],bO (xs:=r.h iV) (λj O H5=>∃ v6 ae,O=[Z (.ref a),Z (.ref b),Z (.ref qr),Z (.ref qs),Z (.int (i:G)),Z (.ref q),v6]/\mu H5/\H5 qr=Z (.lst (t++[.ref q]))/\bF (λp=>p=qr∨p=qs) H5 (t++[.ref q]) (rs++[r])/\H5 qs=Z (.dK ae)/\ae.L<=rs.flatten.L+j/\∀ d:R,(valV ae (Sum.inl (d:G))).isSome=kf↔d∈rs.flatten∨d∈r.j j)
    #[_,aa,U,s4,ag,a6,by rw[ar al.Y];exact s3 _ _ D,kl,λd=>by rw[km d];simp] (λj O H5 _ p=>?_) ?_ ?_]
   .let _ _ _ _ _ z _:=p;exact SqL.of (a5 z)
   .rintro j x O H5 J ⟨v6,ae,rfl,s5,f1,am,f2,aS,an⟩;rw[LA]at J;let g hg rfl:=LL.mp J;let a7:j<r.L:=(Lm.mp hg).1;erw[153,qs,9,DPut.k (k:=Sum.inl (g:G)) f2 (av ∅),3]
    erw[37,aJ s5 a4 _,by rw[ar al];exact f1,am.mono λp o n z=>by rw[ar (λz=>n (.inr z))];exact z,ag,by let:=dY ae (Sum.inl (g:G)) (V.bl kf);lia,λd=>?_]
    rw[fZ];let tk:r.j (j+1)=r.j j++[g]:=by rw[LK,hg];rfl
    rw[tk];by_cases z:d=g
    .subst z;simp
    .rw[R6 (λy=>z (by let:=Sum.inl.inj y;lia)),an d]
     simp[z]
   .rintro O H5 ⟨v6,ae,rfl,s5,f1,am,f2,aS,an⟩;rw[Lp]at aS an;erw[85,rs++[r],ae,U,s5,f1,am,f2,by rw[MN,Lx];simpa using aS,λd=>?_,ro.put pm a1 B ri pa]
    rw[an d,LP,MN,LG];simp
  .let a3:i∈rs.flatten:=(km i).mp (by
    cases z:(valV aa (Sum.inl (i:G))).isSome with
    |true=>rfl
    |false=>exact R7 (by rw[z];rfl) c)
   erw[21,t,rs,aa,U,s2,I,rx,D,kl,km,ro.skip a3]
 .rintro O u ⟨v4,v5,v6,t,rs,aa,rfl,s2,I,rx,D,kl,km,ro⟩;rw[hN]at ro;erw[9,k qr t rs u s2 I rx.off ro]
def fH:az ["ties","rounds","number_at","number","row","dart"] ["ties","rounds"] (aq nP):=by ac_nf
def Ge(F:Fun K "sides_of" "sides_of" nP f fd)(T:Txt mg):k9 1 f fd ["ties","rounds"] (Cv K):=by
 refine F.ok fH (by walk_at "l") λaa A u s H vs Q eg N h=>?_
 let a b xs M v g rs rfl hS hT ab hB hR ro k:=h;let hu:=uz N;let fl:=qc ro
 intro Xc Dc;erw[_,(ah (aA 2 fH.nd mR)
   (ah (mj (g9 U T.n_enumerate (af (pv 1) aj)) (qD U (aH (bW 3 fH.nd) (aH (bW 4 fH.nd) b7))) (ao (mj (aN (pv 4)) (bW 5 fH.nd) (ao (lF hu (pv 2) (pv 5) (pv 3) U)))))
   (ao (aD (dj [("number_at",2)] ["i"] (aO U T.n_range (af (ay ax (by rfl) T.n_len aZ (af (pv 0) aj)) aj)) pg_c pt_c (λC ex s H=>(cj (af (ib hu (pv 1) (aw cz ai (pv 0)) (λ_ _=>rfl)) (af (ib hu (pv 1) (aw cA (aw cz ai (pv 0)) ai) (λ_ _=>rfl)) aj))))))))),3]
 intro q eK;let l:=ak eK (.dK []);let kF:∀ i,(rs.j i).flatten.L<=rs.flatten.L:=λi=>by
  let:=congrArg (λz=>z.flatten.L) (NW i rs);simp only[MN,Lx]at this;lia
 erw[9,b,U,#[_,l.seq hB],pY (K:=K) (xs:=M) (λi O Y=>∃ v3 v4 v5 m,O=[Z (.ref a),Z (.ref b),Z (.ref q),v3,v4,v5]/\mu Y/\Y q=Z (.dK m)/\m.L<=(rs.j i).flatten.L/\∀(d c:R)(r:E R),c<i->rs[c]?=Z r->d∈r->valV m (Sum.inl (d:G))=Z (iV c))
  #[21,[],U,l,ag,Mh _,λd c r z=>R7 z (MR _)] (λi O Y _ am=>by let _ _ _ _ _ o _:=am;exact o.seq hB) ?_ ?_]
 .rintro i x O Y T2 J ⟨v3,v4,v5,m,rfl,o,I,kl,km⟩ al;let a0:i<rs.L:=by
   let:=(Lm.mp J).1;rw[hR.1]at this;exact this
  let ae:rs[i]?=Z rs[i]:=Ll a0;let p x1 x2:=hR.2 i _ ae;rw[J]at x1
  cases x1
  generalize rs[i]=r at ae x2;let s3:mu (upd Y T2 (.tup [.int (i:G),.ref p])):=o.Q (ak al _);let f1:(rs.j (i+1)).flatten=(rs.j i).flatten++r:=by rw[LK,ae];simp
  let f2:=kF (i+1);rw[f1,Lx]at f2;erw[T2,9,SqT.of ag,238998]
  erw[9,p,U,#[_,SqL.of (s3 _ _ x2)],bO (xs:=r.h iV) (λj O H5=>∃ v5 ac,O=[Z (.ref a),Z (.ref b),Z (.ref q),Z (.int (i:G)),Z (.ref p),v5]/\mu H5/\H5 q=Z (.dK ac)/\ac.L<=(rs.j i).flatten.L+j/\(∀(d c:R)(r:E R),c<i->rs[c]?=Z r->d∈r->valV ac (Sum.inl (d:G))=Z (iV c))/\∀ d∈r.j j,valV ac (Sum.inl (d:G))=Z (iV i))
   #[_,m,U,s3,ak al _ _ _ I,kl,km,λd hd=>by simp at hd] (λj O H5 _ am=>by let _ _ _ z _:=am;exact SqL.of (z _ _ x2)) ?_ ?_]
  .rintro j x O H5 aT ⟨v5,ac,rfl,s5,g1,aS,an,a1⟩;rw[LA]at aT;let g hg rfl:=LL.mp aT;let a2:j<r.L:=(Lm.mp hg).1;erw[2457,q,9,DPut.k (k:=Sum.inl (g:G)) g1 (av ∅),3]
   erw[37,aJ s5 eK _,ag,by let:=dY ac (Sum.inl (g:G)) (V.int (i:G));lia,λd c r' L aX hd=>?_,λd hd=>?_]
   .rw[fZ,R6 (λz=>?_)]
    .exact an d c r' L aX hd
    .let z':d=g:=by let:=Sum.inl.inj z;lia
     subst z';let:=lZ ro.nd aX ae hd (Ln hg);lia
   .rw[fZ];by_cases z:d=g
    .subst z;rw[R5 U];rfl
    .rw[R6 (λy=>z (by let:=Sum.inl.inj y;lia))]
     refine a1 d ?_;rw[LK,hg]at hd;simpa[z] using hd
  .rintro O H5 ⟨v5,ac,rfl,s5,g1,aS,an,a1⟩;rw[Lp]at aS a1;rw[LP]at a1;erw[21,ac,U,s5,g1,by rw[f1,Lx];exact aS,λd c r' L aX hd=>?_]
   by_cases z:c=i
   .subst z;rw[ae]at aX
    cases aX
    exact a1 d hd
   .exact an d c r' ∅ aX hd
 .rintro O Y ⟨v3,v4,v5,m,rfl,o,I,kl,km⟩;rw[hR.1]at km;let get:∀ d,d<2*v.L->∃ c r,rs[c]?=Z r/\d∈r/\valV m (Sum.inl (d:G))=Z (iV c):=λd hd=>by
   let r z1 z2:=Mo.mp (ro.all d hd);let c z3:=Mp.mp z1;erw[c,r,z3,z2,km d c r (Lm.mp z3).1 z3 z2]
  let ap:xs.L=v.L:=hT.1;erw[9,a,xs,U,.inl (o.seq hS),329,cH (λi zs H3=>Same Y H3/\iS H3 zs i rs) (by rw[Lv,ap];exact LN (av ∅)) #[λ_ _ e=>e,U,λi B=>R7 B (MR _)] ?_ ?_]
  .rintro i zs H3 B ⟨s3,sd⟩;let e0:(0:G)+(i:G)=(i:G):=MP _;rw[e0];rw[Lv,ap]at B;let c1 r1 z1 z2 z3:=get (2*i) ∅
   let c2 r2 y1 y2 y3:=get (2*i+1) ∅
   let m2:CMul 2 (i:G):=.inl #[by decide,by decide]
   let d1:DGet H3 q (V.int (2*(i:G))) (Z (iV c1)):=by
    rw[← z3,show((2*i:R):G)=2*(i:G) by lia]
    exact DGet.k (k:=Sum.inl (2*(i:G))) (s3 _ _ I)
   let d2:DGet H3 q (V.int (2*(i:G)+1)) (Z (iV c2)):=by
    rw[← y3,show((2*i+1:R):G)=2*(i:G)+1 by lia]
    exact DGet.k (k:=Sum.inl (2*(i:G)+1)) (s3 _ _ I)
   erw[42393,m2,q,9,d1,42393,m2,165,q,9,d2,(by show 2<=QG;decide),λt n=>?_]
   let s4:=ak n (.tup [iV c1,iV c2]);erw[s3.Q s4,by rw[Lx,sd.1];rfl,λj hj=>?_]
   by_cases z:j=i
   .subst z;erw[t,c1,c2,r1,r2,by rw[← sd.1,Lr (Lq _),Mf];rfl,ag,z1,z2,y1,y2]
   .let p a' b' r r' w1 w2 w3:=sd.2 j ∅
    erw[p,a',b',r,r',by rw[Ls (by rw[sd.1];lia)];exact w1,s4 _ _ w2,w3]
  .rintro zs H3 aI ⟨s3,sd⟩ D hD;rw[Lv,ap]at sd
   exact k D zs _ ((o.Q s3).Q (ak hD _)) ag #[sd.1,λi B=>by
    let p a' b' r r' w1 w2 w3:=sd.2 i B
    erw[p,a',b',r,r',w1,ak hD _ _ _ w2,w3]]
def tD:az ["self","one","two","strength"] ["self","one","two","strength"] (aq c8):=by ac_nf
def Ke(F:Fun K "__init__" "Tie.__init__" c8 f fd):k9 1 f fd ["self","one","two","strength"] (rO K):=by
 refine F.ok tD (by walk_at "l") λB A u s H L Q eg N h=>?_
 let p C j a b st rfl g T z i M m k:=h
 intro I J;erw[_,(ah (bH (aC cR (pv 1) (pv 2) (aE _)) (ao dA) aM)
   (ah (bH (PW.pt (jj (aC qG (pv 1) ai (aE _)) (gG (aC qG (pv 2) ai (aE _))))) (ao dA) aM)
   (ah (bH (aC qG (pv 3) ai (aE _)) (ao dA) aM)
   (ah (oF (pv 0) (pv 1) U)
   (ah (oF (pv 0) (pv 2) U)
   (ao (oF (pv 0) (pv 3) U))))))),3]
 walk_at "rd";refine ite2 (λc=>R7 (V.int.inj (RS c)) z) (λ_=>?_);walk_at "rd";refine ite2 (λc=>R7 (RS c) ∅) (λ_=>?_)
 walk_at "rd";refine ite2 (λc=>R7 (RS c) ∅) (λ_=>?_)
 walk_at "rd";refine ite2 (λc=>R7 (RS c) ∅) (λ_=>?_)
 erw[153,p,C,j,[],U,g,T.cl,T.n1,(by simp),3]
 erw[153,p,C,j,9,ag,T.cl,T.n2,f1_len a,3];erw[153,p,C,j,9,ag,T.cl,T.n3,f2_len a b,3];exact k _ ag λq o e y=>by rw[ar y,ar y,ar y];exact e
def xK:az ["script","k"] ["script","k"] (aq nY):=by ac_nf
def Ki(F:Fun K "_law_cell" "_law_cell" nY f fd)(T:Txt mg):k9 1 f fd ["script","k"] (CN K):=by
 refine F.ok xK (by walk_at "l") λB A u s H L Q eg N h=>?_
 let a k b rfl x q:=h
 intro I o;erw[_,(ah (bH (aC qG (pv 1) (ay ax (by rfl) T.n_len aZ (af (pv 0) aj)) (aE _)) (ao (aD (a8 (pv 0) (pv 1)))) aM)
   (ao (aD ai))),3]
 erw[153,a,9,.inl x,14757];refine ite2 (λc=>?_) (λc=>?_)
 .let D:(k:G)<((b.h V.int).L:G):=RS c
  rw[Lp]at D;let eK:k<b.L:=by lia
  let i:atI (b.h V.int) (k:G)=Z (.int (rf b k)):=aB (by rw[LA,Ll eK];unfold rf;simp[*])
  erw[153,a,661,x,i,q]
 .let D:¬ (k:G)<((b.h V.int).L:G):=λz=>c (Rl z)
  rw[Lp]at D;let e:rf b k=0:=by unfold rf;rw[LB,MI ∅];rfl
  rw[e]at q;exact q
theorem at0{u:V}:atI [u,v] 0=Z u:=rfl
theorem at1{u:V}:atI [u,v] 1=Z v:=rfl
def ym(h:na a (ps.h iV)):RdD K H (.ref a) (.list ((ps.h λ(p:R)=>((p:R):G)).h gi.int)):=by
 refine RdD.lst h (by simp) λi x d C eg=>?_
 rw[LA]at C;rw[LA,LA]at eg
 cases z:ps[i]? with
 |none=>rw[z]at C;cases C
 |some n =>
  rw[z]at C eg
  cases C
  cases eg
  exact .int _
def D2(l:E G):(gi.list (l.h gi.int)).canLay0=kf/\(gi.list (l.h gi.int)).depth<=10:=by
 let Y:∀ d∈l.h gi.int,d.canLay0=kf/\d.depth<=1:=λd hd=>by
  let x _ rfl:=LW.mp hd;erw[by rfl,by simp[Rr]]
 let L:=jK λd hd=>(Y d hd).1;let f:=l7 λd hd=>(Y d hd).2;erw[by assumption,by simp only[Rr];lia]
theorem qN(l:E G):SeqAt.shaped (.list (l.h gi.int))=kf:=qo λd hd=>by
 let x _ rfl:=LW.mp hd;erw[by rfl,by simp[Rr]]
theorem cJ.put{o:HO}(t:cJ H ys es)(h:H q=Z (.lst zs)):cJ (upd H q o) ys es:=#[t.1,λi e z=>by
 let p a b:=t.2 i e z;erw[p,a,3];rw[ar (λz=>by simp!)]
 exact b]
def cJ.snoc(t:cJ H xs es)(h:H p=Z (.tup [iV e.1,iV e.2])):cJ H (xs++[.ref p]) (es++[e]):=by
 erw[by rw[Lx,Lx,t.1];rfl,λj k f=>?_]
 by_cases J:j<es.L
 .rw[Ls J]at f;let p n I:=t.2 j k f;erw[p,by rw[Ls (by rw[t.1];exact J)];exact n,I]
 .rw[Lr ∅]at f
  let a:j=es.L:=by
   let:=(Lm.mp f).1;rw[LR]at this;lia
  subst a;rw[Mf]at f
  cases f
  erw[p,by rw[← t.1,Lr (Lq _),Mf];rfl,h]
def KI{k:R}:(ins l k n).L=l.L+1:=by
 unfold ins;grind
theorem ID(X:G)(n:R):0<=X%((n:G)+1)/\X%((n:G)+1)<=(n:G):=#[NN _ ∅,by let:=Nx X (show(0:G)<(n:G)+1 by lia);lia]
def Dist(xs:E V):Prop:=∀(i j:R)(p:e8),xs[i]?=Z (.ref p)->xs[j]?=Z (.ref p)->i=j
def bF.set{S:e8->Prop}(h:bF S H xs ts)(D:Dist xs)(e:xs[i]?=Z (.ref p)):bF S (upd H p (.lst (l'.h iV))) xs (ts.set i l'):=by
 erw[by rw[Nk];exact h.1,λj l z=>?_]
 let B:i<ts.L:=by rw[← h.1];exact(Lm.mp e).1
 rw[MH]at z;by_cases J:i=j
 .subst J;rw[R5 U,R5 B]at z
  cases z
  let A n I c:=h.2 i _ (Ll B);rw[e]at n
  cases n
  erw[p,e,I,ag]
 .rw[R6 J]at z;let A n I c:=h.2 j l z;erw[A,n,I,by rw[ar (λy=>by rw[y]at n;exact J (D i j p e n))];exact c]
def insV{k:R}:(l.h iV).j k++V.int (n:G)::(l.h iV).drop k=(ins l k n).h iV:=by
 unfold ins;rw[LC,LX,QC,QD];rfl
def tN(h:na a xs)(o:bD H xs ts):RdD K H (.ref a) (.list (ts.h λl=>gi.list ((l.h λ(p:R)=>((p:R):G)).h gi.int))):=by
 refine RdD.lst h (by rw[Lp];exact o.1) λi x d C eg=>?_
 rw[LA]at eg;let l D rfl:=LL.mp eg;let p n I:=o.2 i l D;rw[C]at n
 cases n
 exact ym (SqL.of I)
theorem qz(ts:mo):SeqAt.shaped (.list (ts.h λl=>gi.list ((l.h λ(p:R)=>((p:R):G)).h gi.int)))=kf:=qo λd hd=>by
 let l _ rfl:=LW.mp hd;exact D2 _
end K8
namespace K8
open PySem L2
inductive xE(K:Lo)
 |mk (a:e8)(ys:E V)(es:En)(d:R) (_:vs=[.ref a,.int (d:G)])(_:na a ys)(_:cJ H ys es)(_:d<2*es.L)(_:Q (iV (hd es d)) H)
inductive sS(K:Lo)
 |mk (a b:e8)(ys xs:E V)(m:R)(es:En)(ts:mo)(d:R) (_:vs=[.ref a,.ref b,.int (d:G)])(_:na a ys)(_:cJ H ys es)(_:na b xs)(_:bD H xs ts)(_:bS m es ts)(_:es.L<=62)(_:d<2*es.L)(_:∀ q r H',mu H'->H q=k7->H' q=Z (.lst (r.h iV))->Path (fol es ts) (2*es.L) d r->Ring (fol es ts) (2*es.L) r->Q (.ref q) H')
def xJ:az ["ends","dart"] ["ends","dart"] (aq nX):=by ac_nf
def Gv(F:Fun K "_law_head" "_law_head" nX f fd):k9 1 f fd ["ends","dart"] (xE K):=by
 refine F.ok xJ (by walk_at "l") λB A u s H L Q eg N h=>?_
 let a O v d rfl x Y b k:=h;let D:d/2<v.L:=by lia
 let C:v[d/2]?=Z v[d/2]:=Ll D;let p r q:=Y.2 _ _ C;let l:hd v d=if d%2=0 then v[d/2].2 else v[d/2].1:=by unfold hd;rw[C]
 let c:(d:G)/2=((d/2:R):G):=by lia
 let i:atI [iV v[d/2].1,iV v[d/2].2] (1-(d:G)%2)=Z (iV (hd v d)):=by
  by_cases z:d%2=0
  .rw[l,R5 z,show(1-(d:G)%2)=1 by lia];rfl
  .rw[l,R6 z,show(1-(d:G)%2)=0 by lia];rfl
 intro I o;erw[_,(ao (aD (aG (a8 (pv 0) (aw fe (pv 1) ai)) (aw iW ai (aw bG (pv 1) ai))))),3];erw[42393,#[by decide,by decide],a,O,165,x,(by rw[c];exact aB r),2649,(by show(0:G)<2;decide),165,p,661,SqT.of q,i,k]
def fz:az ["ends","turns","dart","place","row","tie"] ["ends","turns","dart"] (aq jd):=by ac_nf
def Bj(F:Fun K "_law_behind" "_law_behind" jd f fd)(T:Txt mg)(aa:lc 1 "_law_head" ["ends","dart"] (xE K) C eK):k9 2 f fd ["ends","turns","dart"] (Ar K):=by
 refine F.ok fz (by walk_at "l") λB A u s H L Q eg N h=>?_
 let a b O J m v i d rfl x hE hB o w' n ab y:=h;let l e Y t p3 p4 p5 p6 p7 p8 p9:=w'.foll ab;let al len:=jV w' n Y;let q I D:=o.2 _ _ Y;let k am an:=hE.2 _ _ p3;let ed:(d:G)/2=((d/2:R):G):=by lia
 let ae:0<l.L:=Nm t;let j:(l.h iV).L=l.L:=Lp _;let ac:(((l.idxOf (d/2):R):G)+1)%((l.h iV).L:G)=(((l.idxOf (d/2)+1)%l.L:R):G):=by simp!
 let m2:CMul 2 ((nxt l (d/2):R):G):=.inl #[by decide,by decide]
 intro r M;erw[_,(ah (aA 3 fz.nd (aa.c N (af (pv 0) (af (pv 2) aj))))
   (ah (aA 4 fz.nd (a8 (pv 1) (pv 3)))
   (ah (aA 5 fz.nd (a8 (pv 4) (aw bG (aw cA (eG LH Oj Oi pN (pv 4) (af (aw fe (pv 2) ai) aj)) ai) (ay ax (by rfl) T.n_len aZ (af (pv 4) aj)))))
   (ao (aD (aw cA (aw cz ai (pv 5)) (dD Ff (by rfl) T.n_int IV (af (cm i4 (aG (a8 (pv 0) (pv 5)) ai) (pv 3) (aE _)) aj)))))))),3]
 erw[153,a,O,v,d,U,x,hE,ab,3];erw[153,b,J,165,hB,aB I,3];erw[153,.inl #[6,SqL.of D],2649,#[by decide,by decide],q,l,d/2,U,congrArg (λz=>[V.int z]) ed,SqL.of D,λp g=>by grind,4,t,2469,q,9,.inl (SqL.of D),165,(by show(0:G)<((l.h iV).L:G);lia),q,661,SqL.of D,(by rw[ac];exact KJ (ig t)),3]
 erw[2649,m2,153,a,O,165,x,aB am,k,_,00,41,SqT.of an,at0,41,.inr #[14937]];rw[p6]at y;by_cases c:e.1=hd v d
 .rw[R5 c]at y;rw[Rl (congrArg iV c)];simpa[iV] using y
 .rw[R6 c]at y;rw[QF (λz=>c (by let:=V.int.inj z;lia))]
  simpa[iV] using y
def gf:az ["ends","turns","dart","row","at"] ["ends","turns","dart"] (aq lg):=by ac_nf
def Dy(F:Fun K "_law_round" "_law_round" lg f fd)(ae:lc 2 "_law_behind" ["ends","turns","dart"] (Ar K) p eK):k9 3 f fd ["ends","turns","dart"] (sS K):=by
 refine F.ok gf (by walk_at "l") λI A u s H L Q eg N h=>?_
 let a b t J m v i d rfl M hE hB hR w' n al k:=h;let pm:=perm w'
 intro Xc Dc;erw[_,(ah (aA 3 gf.nd (dB (af (pv 2) aj)))
   (ah (aA 4 gf.nd (ae.c N (af (pv 0) (af (pv 1) (af (pv 2) aj)))))
   (ah (fB PassesOwn.never (aC i4 (pv 4) (pv 2) (aE _)) (ah (aW (eG LH Md Mc a9 (pv 3) (af (pv 4) aj)))
   (ao (aA 4 gf.nd (ae.c N (af (pv 0) (af (pv 1) (af (pv 4) aj))))))))
   (ao (aD (pv 3)))))),3]
 erw[9,(by show 1<=QG;decide),λq C=>?_]
 let j:=ak C (.lst [.int (d:G)]);erw[2457,a,b,t,J,m,v,i,d,U,j.seq M,hE.mono j,j.seq hB,hR.mono j,w',n,al,3];refine fY (λO Y=>∃(r:E R)(x:R),O=[Z (.ref a),Z (.ref b),Z (.int (d:G)),Z (.ref q),Z (iV (fol v i x))]/\mu Y/\Y q=Z (.lst ((r++[x]).h iV))/\Path (fol v i) (2*v.L) d (r++[x]))
  (λO Y=>match Y q with|some (.lst J)=>200-J.L|_=>0) #[[],d,U,j,ag,AF al] ?_ ?_
 .rintro O Y ⟨r,x,rfl,o,ac,pa⟩;erw[59033];let aa:=dP pa.nd pa.lt;refine ite2 (λc=>?_) (λc=>?_)
  .let T:fol v i x≠d:=λz=>by
    rw[Rl (show iV (fol v i x)=V.int (d:G) by rw[z];rfl)]at c
    cases c
   let am:=pa.snoc pm T;let ab:=dP am.nd am.lt;let an:fol v i x<2*v.L:=am.lt _ (by simp)
   erw[9,.inl #[6,SqL.of ac],9,q,165,ac,av (by grind),3]
   let l:=aJ o C (.lst ((r++[x]).h iV++[iV (fol v i x)]));erw[2457,a,b,t,J,m,v,i,fol v i x,U,l.seq M,hE.mono l,l.seq hB,hR.mono l,w',n,an,3];erw[#[r++[x],fol v i x,U,l,3,am],3]
   .rw[ag,show((r++[x]++[fol v i x]).h iV)=(r++[x]).h iV++[iV (fol v i x)] from by rw[LC];rfl]
   .show(match(upd Y q (.lst ((r++[x]).h iV++[iV (fol v i x)]))) q with|some (.lst J)=>200-J.L|_=>0)<(match Y q with|some (.lst J)=>200-J.L|_=>0)
    rw[ag,ac];show 200-((r++[x]).h iV++[iV (fol v i x)]).L<200-((r++[x]).h iV).L;rw[Lx,Lp,LR];lia
  .let T:fol v i x=d:=by
    by_cases z:fol v i x=d
    .exact z
    .exact R7 (by rw[QF (λy=>z (by let:=V.int.inj y;lia))];rfl) c
   erw[57];exact k q _ Y o C ac pa (pa.ring pm T)
 .rintro O Y Q1 Q2 B ⟨v',e,b',D,g,T,e3,q'⟩;erw[v',e,b',D,g,T,e3,B _ _ q']
inductive CB
 |mk (c:G)(m:R) (_:vs=[.int c,.int (m:G)])(_:m<=100)(_:∀(q:e8)(o:E R)(H':Hp),mu H'->H q=k7->H' q=Z (.lst (o.h iV))->o.L=m->o.l->(∀ x∈o,x<m)->Q (.ref q) H')
inductive CI(K:Lo)
 |mk (a:e8)(cs:E G) (_:vs=[.ref a])(_:na a (cs.h V.int))(_:cs.L<=30)(_:∀(t pe pt:e8)(ys xs:E V)(m:R)(es:En)(ts:mo)(H':Hp),mu H'->H' t=Z (.tup [.ref pe,.ref pt])->H' pe=Z (.lst ys)->cJ H' ys es->H' pt=Z (.lst xs)->bD H' xs ts->Gr m es ts->es.L=cs.L+1->Q (.ref t) H')
def Lj(H:Hp)(a pe pt:e8)(i:R)(σ:St)(z:Hp):Prop:=∃ l d c g h k q b O J m v r,σ=[Z (.ref a),Z (.ref pe),Z (.ref pt),l,d,c,g,h,k,q,b]/\mu z/\z pe=Z (.lst O)/\cJ z O v/\z pt=Z (.lst J)/\bF (λp=>p=pe∨p=pt∨H p≠k7) z J r/\Dist J/\Gr m v r/\v.L=i+1
def pP{H7:Hp}{pe pt:e8}{ts':mo}(u:pe≠pt)(d:H pe=k7)(s7:mu H7)(Y:H7 pe=Z (.lst ys))(h2:cJ H7 ys es)(f:H7 pt=Z (.lst xs))(B:bF (λp=>p=pe∨p=pt∨H p≠k7) H7 xs ts')(s:Dist xs)(j:Gr N (es++[e]) ts')(hi:es.L=i+1){t:e8}(I:H7 t=k7){x:V}(J:x=iV e.1)(Q:y=iV e.2)(l r c g h k q b:io V):Lj H a pe pt (i+1) [Z (.ref a),Z (.ref pe),Z (.ref pt),l,r,c,g,h,k,q,b] (upd (upd H7 t (.tup [x,y])) pe (.lst (ys++[.ref t]))):=by
 subst J Q;let m:=ak I (.tup [iV e.1,iV e.2]);erw[87381,xs,N,es++[e],ts',U,aJ (s7.Q m) d _,ag,((h2.mono m).snoc ag).put (m _ _ Y),by rw[ar u.Y];exact m _ _ f,B.mono λp o n z=>?_,s,j,by simp[*]]
 rw[ar (λz=>n (.inl z))];exact m _ _ z
def nz{S:e8->Prop}(h:bF S H xs ts)(D:Dist xs)(y:H q=k7):Dist (xs++[.ref q]):=by
 let old:∀(j:R)(p:e8),j<xs.L->(xs++[V.ref q])[j]?=Z (.ref p)->xs[j]?=Z (.ref p)/\p≠q:=λj p J e=>by
  rw[Ls J]at e;let A n _ c:=h.2 j _ (Ll (by rw[← h.1];exact J))
  rw[e]at n
  cases n
  erw[e,aF c y]
 let new:∀(j:R)(p:e8),¬ j<xs.L->(xs++[V.ref q])[j]?=Z (.ref p)->j=xs.L/\p=q:=λj p J e=>by
  let:=(Lm.mp e).1;rw[Lx,LR]at this;let a:j=xs.L:=by lia
  simp!
 intro j k p C eg;by_cases J:j<xs.L
 .let M b:=old j p J C;by_cases eK:k<xs.L
  .exact D j k p M (old k p eK eg).1
  .exact R7 (new k p eK eg).2 b
 .let M b:=new j p J C;by_cases eK:k<xs.L
  .exact R7 b (old k p eK eg).2
  .rw[M,(new k p eK eg).1]
def wB(g:Gr m es ts):m<=es.L+2:=by
 let I _ c:=g.part;lia
def eE:az ["cell","many","order","mixed","k"] ["cell","many"] (aq lh):=by ac_nf
def Gj(F:Fun K "_law_order" "_law_order" lh f fd)(T:Txt mg):k9 1 f fd ["cell","many"] CB:=by
 refine F.ok eE (by walk_at "l") λb A u s H L Q eg N h=>?_
 let c m rfl D k:=h
 intro I C;erw[_,(ah (aA 2 eE.nd (dB aj))
   (ah (aA 3 eE.nd (aw bG (pv 0) ai))
   (ah (mj (aO U T.n_range (af (pv 1) aj)) (bW 4 eE.nd) (ah (aA 3 eE.nd (aw bG (aw cz (pv 3) ai) ai))
   (ao (aW (eG LH O0 OZ qH (pv 2) (af (aw bG (pv 3) (aw cA (pv 4) ai)) (af (pv 4) aj)))))))
   (ao (aD (pv 2)))))),3]
 erw[(by show 0<=QG;decide),λq y=>?_]
 erw[2649,(by show(0:G)<1000000007;decide),3]
 erw[5273,bY (n:=(m:G).U) (λi O Y=>∃(M:G),∃ r o,O=[Z (.int c),Z (.int (m:G)),Z (.ref q),Z (.int M),r]/\mu Y/\Y q=Z (.lst (o.h iV))/\o.L=i/\o.l/\∀ x∈o,x<i) #[5,[],U,ak y _,ag,U,Nt,λx J=>nomatch J] ?_ ?_]
 .rintro i O Y B ⟨M,r,o,rfl,eK,e,v,a,lt⟩;rw[Lv]at B;let d:(0:G)+(i:G)=(i:G):=MP _;rw[d];let j:(o.h iV).L=i:=by simp[*]
  erw[2649,.inr #[by decide,by decide],165,(by show(0:G)<2147483647;decide),3]
  erw[9,.inl #[6,SqL.of e],10855833,(by show(0:G)<(i:G)+1;lia),9,q,661,e,(ID _ _).1,(by rw[j];exact(ID _ _).2),av ∅,3]
  rw[insV];erw[149,aJ eK y _,ag,by rw[KI,v],D5 a λz=>by grind,λx J=>?_]
  obtain z|z:=yA.mp J
  .lia
  .grind
 .rintro O Y ⟨M,r,o,rfl,eK,e,v,a,lt⟩;rw[Lv]at v lt;erw[9,k q o Y eK y e v a lt]
def aY:az ["cells","ends","turns","cell","mixed","fresh","left","row","right","one","two"] ["cells"] (aq lA):=by ac_nf
def Gz{fr:e8}{ci cL:fk}(F:Fun K "_law_grown" "_law_grown" lA f fd)(T:Txt mg)(aT:lc 3 "_law_round" ["ends","turns","dart"] (sS K) fr ci)(an:lc 1 "_law_head" ["ends","dart"] (xE K) C cL):
  k9 4 f fd ["cells"] (CI K):=by
 refine F.ok aY (by walk_at "l") λaa A u s H vs Q eg N h=>?_
 let a cs rfl hS dd kk:=h;let a7:(cs.h V.int).L=cs.L:=Lp _
 intro Xc Dc;erw[_,(ah (aA 1 aY.nd (dB (af (cj (af ai (af ai aj))) aj)))
   (ah (aA 2 aY.nd (dB (af (dB (af ai aj)) (af (dB (af ai aj)) aj))))
   (ah (mj (aN (pv 0)) (bW 3 aY.nd) (ah (aA 4 aY.nd (aw bG (aw cz (aw bG (pv 3) ai) ai) ai))
   (ah (aA 5 aY.nd (ay ax (by rfl) T.n_len aZ (af (pv 1) aj)))
   (ah (aA 6 aY.nd (aw bG (aw fe (pv 4) ai) (aw cz ai (pv 5))))
   (ah (aA 7 aY.nd (aT.c N (af (pv 1) (af (pv 2) (af (pv 6) aj)))))
   (ah (aA 8 aY.nd (a8 (pv 7) (aw bG (aw bG (aw cz (pv 4) (pv 4)) ai) (ay ax (by rfl) T.n_len aZ (af (pv 7) aj)))))
   (ah (aA 9 aY.nd (an.c N (af (pv 1) (af (pv 6) aj))))
   (ah (aA 10 aY.nd (an.c N (af (pv 1) (af (pv 8) aj))))
   (ah (aW (eG LH O0 OZ qH (a8 (pv 2) (pv 9)) (af (aw cA (eG LH Oj Oi pN (a8 (pv 2) (pv 9)) (af (aw fe (pv 6) ai) aj)) ai) (af (pv 5) aj))))
   (ah (bH (PW.pt (jj (aC cR (aw bG (pv 4) ai) ai (aE _)) (gG (aC cR (pv 9) (pv 10) (aE _))))) (ah (aA 10 aY.nd (ay ax (by rfl) T.n_len aZ (af (pv 2) aj)))
   (ao (aW (eG LH Md Mc a9 (pv 2) (af (dB (af (pv 5) aj)) aj))))) (ao (aW (eG LH O0 OZ qH (a8 (pv 2) (pv 10)) (af (aw cA (eG LH Oj Oi pN (a8 (pv 2) (pv 10)) (af (aw fe (pv 8) ai) aj)) ai) (af (pv 5) aj))))))
   (ao (bH (aC cR (aw bG (aw fe (pv 3) ai) ai) ai (aE _)) (ao (aW (eG LH Md Mc a9 (pv 1) (af (cj (af (pv 10) (af (pv 9) aj))) aj)))) (ao (aW (eG LH Md Mc a9 (pv 1) (af (cj (af (pv 9) (af (pv 10) aj))) aj))))))))))))))))
   (ao (aD (cj (af (pv 1) (af (pv 2) aj)))))))),3]
 erw[(by show 2<=QG;decide),λt0 bi=>#[(by show 1<=QG;decide),λpe al=>?_]]
 let b:=ak bi (.tup [.int 0,.int 1]);let s2:=b.Q (ak al (.lst [.ref t0]));erw[(by show 1<=QG;decide),λp0 ck=>#[(by show 1<=QG;decide),λp1 aX=>#[(by show 2<=QG;decide),λpt am=>?_]]]
 let s3:=ak ck (.lst [.int 0]);let s4:=ak aX (.lst [.int 0]);let s5:=ak am (.lst [.ref p0,.ref p1]);let cq:=((s2.Q s3).Q s4).Q s5;let none_of:∀{eK:Hp}{p:e8},mu eK->eK p=k7->H p=k7:=λ{eK p} sm z=>by
  cases y:H p with
  |none=>rfl
  |some o=>rw[sm _ _ y]at z;cases z
 let bJ:=none_of b al;let ct:=none_of ((s2.Q s3).Q s4) am;let c7:=none_of s2 ck;let cu:=none_of (s2.Q s3) aX;let g1:=s3.Q (s4.Q s5);let ba:=g1 _ _ (ag (H:=upd H t0 (.tup [.int 0,.int 1])) (a:=pe) (o:=.lst [.ref t0]));let cv:=(s4.Q s5) _ _ (ag (a:=p0) (o:=.lst [.int 0]));let cw:=s5 _ _ (ag (a:=p1) (o:=.lst [.int 0]));let df:p0≠p1:=aF (ag (a:=p0) (o:=.lst [.int 0])) aX;let bu:pe≠pt:=aF ((s3.Q s4) _ _ (ag (a:=pe) (o:=.lst [.ref t0]))) am;let dg:p0≠pe:=λz=>by rw[z,ag]at ck;contradiction
 let cM:p1≠pe:=λz=>by rw[z,s3 _ _ (ag (a:=pe) (o:=.lst [.ref t0]))]at aX;contradiction
 let dh:p0≠pt:=aF (s4 _ _ (ag (a:=p0) (o:=.lst [.int 0]))) am;let cO:p1≠pt:=aF (ag (a:=p1) (o:=.lst [.int 0])) am;let cy:Lj H a pe pt 0 [Z (.ref a),Z (.ref pe),Z (.ref pt),k7,k7,k7,k7,k7,k7,k7,k7] (upd (upd (upd (upd (upd H t0 (.tup [.int 0,.int 1])) pe (.lst [.ref t0])) p0 (.lst [.int 0])) p1 (.lst [.int 0])) pt (.lst [.ref p0,.ref p1])):=by
  erw[21845,[.ref t0],[.ref p0,.ref p1],02,[(0,1)],[[0],[0]],U,cq,ba,#[U,λi e z=>?_],ag,#[U,λi l z=>?_],λi j p z1 z2=>?_,gr_two,U]
  .match i,z with
   |0,z=>cases z;erw[t0,U,((ak al _).Q g1) _ _ ag]
   |i+1,z=>cases z
  .match i,z with
   |0,z=>cases z;erw[p0,U,by grind,cv]
   |1,z=>cases z;erw[p1,U,by rintro(y|y|y);exact cM y;exact cO y;exact y cu,cw]
   |i+2,z=>cases z
  .match i,z1,j,z2 with
   |0,z1,0,z2=>rfl
   |1,z1,1,z2=>rfl
   |0,z1,1,z2=>simp!
   |1,z1,0,z2=>cases z1;simp!
   |i+2,z1,_,_=>contradiction
 erw[9,a,U,#[_,cq.seq hS],bO (xs:=cs.h V.int) (λi O H5=>Lj H a pe pt i O H5) cy (λi O H5 _ ae=>by let _ _ _ _ _ _ _ _ _ _ _ _ _ _ z _:=ae;exact z.seq hS) ?_ ?_]
 .rintro i x O H5 k ⟨v3,v4,v5,v6,v7,v8,v9,ac,M,xs,m,v,ts,rfl,s5,ba,en,bK,a0,D,g,B⟩;rw[LA]at k;let c d rfl:=LL.mp k;let bR:i<cs.L:=(Lm.mp d).1;let a2:M.L=v.L:=en.1;let ab:v.L<=62:=by ac_rfl
  let w':=g.w;let cC:=w'.len;let da:=wB g;let o0:(0:G)<=c%1000000007*48271%2147483647:=NN _ ∅
  let o1:c%1000000007*48271%2147483647<2147483647:=Nx _ ∅
  erw[2649,(by show(0:G)<1000000007;decide),165,.inr #[by decide,by decide],165,(by show(0:G)<2147483647;decide),3]
  erw[9,pe,M,U,.inl (SqL.of ba),3];let a3:(0:G)<2*(M.L:G):=by ac_rfl
  erw[2649,#[by decide,by decide],2649,.inl #[by decide,by decide],165,a3,3]
  let l0:=NN (c%1000000007*48271%2147483647/2) (show 2*(M.L:G)≠0 by ac_rfl)
  let l1:=Nx (c%1000000007*48271%2147483647/2) a3;let L hL:∃ L:R,c%1000000007*48271%2147483647/2%(2*(M.L:G))=(L:G):=#[_,(ND l0).Y];let bv:L<2*v.L:=by ac_rfl
  erw[2457,pe,pt,M,xs,m,v,ts,L,congrArg (λz=>[V.ref pe,V.ref pt,V.int z]) hL,SqL.of ba,en,SqL.of bK,a0.off,w',ab,bv,λq r H6 s6 hq ap pa ri=>?_];let cP:(r.h iV).L=r.L:=Lp _;let bp:=ri.ne;let cD:(0:G)<((r.h iV).L:G):=by ac_rfl
  let j0:=NN (c%1000000007*48271%2147483647*(c%1000000007*48271%2147483647)%1000003) (show((r.h iV).L:G)≠0 by ac_rfl)
  let j1:=Nx (c%1000000007*48271%2147483647*(c%1000000007*48271%2147483647)%1000003) cD;let J hJ:∃ J:R,c%1000000007*48271%2147483647*(c%1000000007*48271%2147483647)%1000003%((r.h iV).L:G)=(J:G):=#[_,(ND j0).Y];let cQ:J<r.L:=by ac_rfl
  let ad hR:∃ ad,r[J]?=Z ad:=#[_,Ll cQ];let cl:=Ln hR;let cE:=ri.lt ad cl;erw[678297,.inl #[by grind,by ac_rfl],165,(by show(0:G)<1000003;decide),9,q,9,.inl (SqL.of ap),165,cD,q,661,SqL.of ap,(by rw[hJ];exact KJ hR),3]
  let cb:=s5.Q s6;let bU:=s6 _ _ ba;let b0:=s6 _ _ bK;let co:=en.mono s6;let bb:bF (λp=>p=pe∨p=pt∨H p≠k7) H6 xs ts:=a0.mono λp o _ z=>s6 _ _ z;erw[153,pe,M,v,L,congrArg (λz=>[V.ref pe,V.int z]) hL,SqL.of bU,co,bv,3];erw[153,pe,M,v,ad,U,SqL.of bU,co,cE,3];let _ l _ _ _ k4 k5 k6:=w'.at bv;let _ l' _ _ _ dn cc cF:=w'.at cE;let p1 y1 y2 y3:=bb.2 _ _ k5;let p2 z1 z2 z3:=bb.2 _ _ cc;let bg f1:=jV w' ab k5;let cT f2:=jV w' ab cc;let db:(l.h iV).L=l.L:=Lp _;let dc:(l'.h iV).L=l'.L:=Lp _;let dp:l.idxOf (L/2)<l.L:=OO k6;let dr:l'.idxOf (ad/2)<l'.L:=OO cF;let bN:∀{p q:e8},¬ (p=pe∨p=pt∨H p≠k7)->(q=pe∨q=pt)->q≠p:=λn y z=>n (by grind)
  let a5:∀{p:e8},¬ (p=pe∨p=pt∨H p≠k7)->H p=k7:=λ{p} n=>by
   simp!
  let aX:=a5 y2;let a1:=a5 z2;let eL:c%1000000007*48271%2147483647/2%(2*(M.L:G))/2=((L/2:R):G):=by rw[hL];ac_rfl
  let eR:(ad:G)/2=((ad/2:R):G):=by ac_rfl
  erw[153,pt,xs,165,SqL.of b0,aB y1,.inl #[6,SqL.of y3],153,pt,xs,165,SqL.of b0,aB y1,.inl #[6,SqL.of y3],2649,#[by decide,by decide],p1,l,L/2,U,congrArg (λz=>[V.int z]) eL,SqL.of y3,λp I=>by let:=bg p I;ac_rfl,by ac_rfl,k6,2469,p1,661,y3,by ac_rfl,by ac_rfl,av (by ac_rfl),3]
  rw[a2,insV,show(((l.idxOf (L/2):R):G)+1).U=l.idxOf (L/2)+1 by ac_rfl]
  let cd:=aJ cb aX (.lst ((ins l (l.idxOf (L/2)+1) v.L).h iV));let bP:(upd H6 p1 (.lst ((ins l (l.idxOf (L/2)+1) v.L).h iV))) pe=Z (.lst M):=by rw[ar (bN y2 (.inl U))];exact bU
  let a6:(upd H6 p1 (.lst ((ins l (l.idxOf (L/2)+1) v.L).h iV))) pt=Z (.lst xs):=by rw[ar (bN y2 (.inr U))];exact b0
  let cp:=co.put (o:=.lst ((ins l (l.idxOf (L/2)+1) v.L).h iV)) y3;let bn:=bb.set (l':=ins l (l.idxOf (L/2)+1) v.L) D y1;let z7:hd v L≠hd v ad->(upd H6 p1 (.lst ((ins l (l.idxOf (L/2)+1) v.L).h iV))) p2=Z (.lst (l'.h iV)):=λn=>by
   rw[ar (λy=>by rw[y]at z1;exact n (D _ _ p1 y1 z1))];exact z3
  generalize ds:upd H6 p1 (.lst ((ins l (l.idxOf (L/2)+1) v.L).h iV))=H7 at cd bP a6 cp bn z7;let x0 a4 rfl ch:=ri.cr.ch;let cW:x0=L:=by
   let:=pa.hd;exact Me this
  subst cW;let xl:xs.L=m:=by rw[a0.1,cC]
  let be:=ri.cr;erw[2649,(by show(0:G)<2;decide),38,ite2 (λc=>iteT ?_) (λc=>#[9881,ite2 (λc2=>?_) (λc2=>?_)])]
  rotate_left 2
  .let n:hd v x0≠hd v ad:=λz=>c2 (Rl (by rw[z]))
   let z7:=z7 n;erw[153,pt,xs,165,SqL.of a6,aB z1,.inl #[6,SqL.of z7],153,pt,xs,165,SqL.of a6,aB z1,.inl #[6,SqL.of z7],2649,#[by decide,by decide],p2,l',ad/2,U,congrArg (λz=>[V.int z]) eR,SqL.of z7,λp I=>by let:=cT p I;ac_rfl,by ac_rfl,cF,2469,p2,661,z7,by ac_rfl,by ac_rfl,av (by ac_rfl),3]
   rw[insV,show(((l'.idxOf (ad/2):R):G)+1).U=l'.idxOf (ad/2)+1 by ac_rfl]
   let b6:=aJ cd a1 (.lst ((ins l' (l'.idxOf (ad/2)+1) v.L).h iV));let aI:(upd H7 p2 (.lst ((ins l' (l'.idxOf (ad/2)+1) v.L).h iV))) pe=Z (.lst M):=by rw[ar (bN z2 (.inl U))];exact bP
   let bm:(upd H7 p2 (.lst ((ins l' (l'.idxOf (ad/2)+1) v.L).h iV))) pt=Z (.lst xs):=by rw[ar (bN z2 (.inr U))];exact a6
   let b8:=cp.put (o:=.lst ((ins l' (l'.idxOf (ad/2)+1) v.L).h iV)) z7;let ca:=bn.set (l':=ins l' (l'.idxOf (ad/2)+1) v.L) D z1;erw[2649,#[by decide,by decide],165,(by show(0:G)<2;decide),38,ite2 (λ_=>?_) (λ_=>?_)]
   .erw[9,.inl #[6,SqL.of aI],153,(by show 2<=QG;decide),λt Y=>#[pe,M,41,ak Y _ _ _ aI,av (by ac_rfl),3]]
    exact pP bu bJ b6 aI b8 bm ca D (g.join (e:=(hd v ad,hd v x0)) bv be ch cl U U n (.inr U) k5 cc) B Y U U _ _ _ _ _ _ _ _
   .erw[9,.inl #[6,SqL.of aI],153,(by show 2<=QG;decide),λt Y=>#[pe,M,41,ak Y _ _ _ aI,av (by ac_rfl),3]]
    exact pP bu bJ b6 aI b8 bm ca D (g.join (e:=(hd v x0,hd v ad)) bv be ch cl U U n (.inl U) k5 cc) B Y U U _ _ _ _ _ _ _ _
  all_goals
   erw[9,pt,xs,U,.inl (SqL.of a6),3]
   erw[9,.inl #[6,SqL.of a6],9,(by show 1<=QG;decide),λpn aS=>#[pt,xs,41,ak aS _ _ _ a6,av (by ac_rfl),3]]
   let sn:=ak aS (.lst [V.int (v.L:G)])
   let b6:=aJ (cd.Q sn) ct (.lst (xs++[.ref pn]))
   let aI:(upd (upd H7 pn (.lst [V.int (v.L:G)])) pt (.lst (xs++[.ref pn]))) pe=Z (.lst M):=by rw[ar bu];exact sn _ _ bP
   let bm:(upd (upd H7 pn (.lst [V.int (v.L:G)])) pt (.lst (xs++[.ref pn]))) pt=Z (.lst (xs++[.ref pn])):=ag
   let b8:=(cp.mono sn).put (o:=.lst (xs++[.ref pn])) (sn _ _ a6)
   let cK:pn≠pt:=λz=>by simp!
   let c6:pn≠pe:=λz=>by rw[z,bP]at aS;cases aS
   let bB:H pn=k7:=none_of cd aS
   let ca:bF (λp=>p=pe∨p=pt∨H p≠k7) (upd (upd H7 pn (.lst [V.int (v.L:G)])) pt (.lst (xs++[.ref pn]))) (xs++[.ref pn]) (ts.set (hd v x0) (ins l (l.idxOf (x0/2)+1) v.L)++[[v.L]]):=by
    refine(bn.mono λp o n z=>?_).snoc (by rintro(y|y|y);exact c6 y;exact cK y;exact y bB) ?_
    .rw[ar (λz=>n (.inr (.inl z)))];exact sn _ _ z
    .rw[ar cK];exact ag
   let D8:=nz bn D aS
   let ce:V.int (xs.L:G)=iV m:=by rw[xl];rfl
   erw[2649,#[by decide,by decide],165,(by show(0:G)<2;decide),38,ite2 (λ_=>?_) (λ_=>?_)]
   .erw[9,.inl #[6,SqL.of aI],153,(by show 2<=QG;decide),λt Y=>#[pe,M,41,ak Y _ _ _ aI,av (by ac_rfl),3]]
    exact pP bu bJ b6 aI b8 bm ca D8 (g.leaf (e:=(m,hd v x0)) bv be ch U (.inr U) k5) B Y ce U _ _ _ _ _ _ _ _
   .erw[9,.inl #[6,SqL.of aI],153,(by show 2<=QG;decide),λt Y=>#[pe,M,41,ak Y _ _ _ aI,av (by ac_rfl),3]]
    exact pP bu bJ b6 aI b8 bm ca D8 (g.leaf (e:=(hd v x0,m)) bv be ch U (.inl U) k5) B Y U ce _ _ _ _ _ _ _ _
 .rintro O H5 ⟨v3,v4,v5,v6,v7,v8,v9,ac,M,xs,m,v,ts,rfl,s5,ba,en,bK,a0,D,g,B⟩;rw[a7]at B;erw[153,(by show 2<=QG;decide),λt Y=>?_]
  let s6:=ak Y (.tup [.ref pe,.ref pt]);exact kk t pe pt M xs m v ts _ (s5.Q s6) ag (s6 _ _ ba) (en.mono s6) (s6 _ _ bK) (a0.off.mono s6) g B
def cutp(c:G)(p n:R):R:=(c%1009*((p:G)+1)%(n:G)).U
def rowN(c:G)(b:E R)(p:R)(l:E R):E R:=(l.drop (cutp c p l.L)++l.j (cutp c p l.L)).h (ofL b)
def en2(g b:E R)(es:En):En:=(Mg es.L).h λj=>(ofL g ((es[b.idxOf j]?).f (0,0)).1,ofL g ((es[b.idxOf j]?).f (0,0)).2)
def ts2(c:G)(g b:E R)(ts:mo):mo:=(Mg ts.L).h λj=>rowN c b (g.idxOf j) ((ts[g.idxOf j]?).f [])
def Ea{o:E R}(nd:o.l){k:R}(h:k<o.L):o.idxOf (ofL o k)=k:=by
 let e:o[k]?=Z (ofL o k):=by unfold ofL;rw[Ll h];rfl
 exact AI nd (yB (Ln e)) e
def ren_of{c:G}(w:bS m es ts)(j:B.L=m)(n1:B.l)(b1:∀ x∈B,x<m)(C:W.L=es.L)(D:W.l)(b2:∀ x∈W,x<es.L):
  Ren m es (en2 B W es) ts (ts2 c B W ts) (ofL B) (ofL W):=by
 let i:=A5 j n1 b1;let f:=A5 C D b2;erw[i,f,by simp[en2],by simp[ts2,w.len],λk e h=>?_,λp l h=>?_]
 .let eK:=(Lm.mp h).1
  unfold en2;rw[LA,PD (f.lt k eK)];show Z (ofL B ((es[W.idxOf (ofL W k)]?).f (0,0)).1,ofL B ((es[W.idxOf (ofL W k)]?).f (0,0)).2)=_;rw[Ea D ∅,h]
  rfl
 .let g:p<m:=by rw[← w.len];exact(Lm.mp h).1
  erw[l.j (cutp c p l.L),l.drop (cutp c p l.L),(NW _ _).Y,3];unfold ts2;rw[LA,PD (by rw[w.len];exact i.lt p g)]
  show Z (rowN c W (B.idxOf (ofL B p)) ((ts[B.idxOf (ofL B p)]?).f []))=_;rw[Ea n1 ∅,h]
  rfl
def Gr.rows(g:Gr m es ts)(h2:2<=m){p:R}(h:ts[p]?=Z l):0<l.L:=by
 let j:p<m:=by rw[← g.w.len];exact(Lm.mp h).1
 cases l with
 |cons a l=>exact Nat.succ_pos _
 |nil =>
  exfalso;let b:∀ e∈es,e.1≠p/\e.2≠p:=λe eK=>by
   let t n:=Mp.mp eK;erw[λz=>?_,λz=>?_]
   .exact nomatch (g.w.mem p [] h t).mpr #[e,n,.inl z]
   .exact nomatch (g.w.mem p [] h t).mpr #[e,n,.inr z]
  let:=g.conn (λx=>x=p) (λe eK=>#[λz=>R7 z (b e eK).1,λz=>R7 z (b e eK).2]) p (if p=0 then 1 else 0) j (by split<;>lia) U
  lia
def cut_hi{c:R}(h:c<=xs.L):cutV xs (Z (c:G)) k7=xs.drop c:=by
 unfold cutV;rw[HT.sIx_nat,Pd h];show(xs.drop c).j (xs.L-c)=_;exact NH (by simp)
def cut_lo{c:R}(h:c<=xs.L):cutV xs k7 (Z (c:G))=xs.j c:=by
 unfold cutV;rw[HT.sIx_nat,Pd h];rfl
structure WebP(H:Hp)(pe pt:e8)(m:R)(es:En)(ts:mo):Prop where
 en:∃ ys,H pe=Z (.lst ys)/\cJ H ys es
 tu:∃ xs,H pt=Z (.lst xs)/\bD H xs ts
 g:Gr m es ts
def WebP.mono{H H':Hp}{pe pt:e8}{m:R}{es:En}{ts:mo}(h:WebP H pe pt m es ts)(s:mu H'):WebP H' pe pt m es ts:=by
 let{O a b}{J c d}g:=h;erw[#[O,s _ _ a,b.mono s],#[J,s _ _ c,d.mono s],g]
inductive spRen
 |mk (t pe pt:e8)(c:G)(m:R)(es:En)(ts:mo) (_:vs=[.ref t,.int c])(_:H t=Z (.tup [.ref pe,.ref pt]))(_:WebP H pe pt m es ts)(_:2<=m)(_:es.L<=31)(_:∀(t' pe' pt':e8)(es':En)(ts':mo)(H':Hp),mu H'->H' t'=Z (.tup [.ref pe',.ref pt'])->WebP H' pe' pt' m es' ts'->es'.L=es.L->Q (.ref t') H')
def aR:az ["grown","cell","places","ties","ends","k","turns","p","row","cut"] ["grown","cell"] (aq eY):=by ac_nf
def ok_ren(F:Fun K "_law_renumbered" "_law_renumbered" eY f fd)(T:Txt mg)(a0:lc 1 "_law_order" ["cell","many"] CB a eK):k9 2 f fd ["grown","cell"] spRen:=by
 refine F.ok aR (by walk_at "l") λaa A b s H vs Q eg N h=>?_
 obtain⟨t,pe,pt,c,m,v,ts,rfl,ht,⟨⟨ys,al,en⟩,⟨xs,an,tu⟩,g⟩,r,cl,kk⟩:=h;let w':=g.w;let mf:=wB g;let aI:ys.L=v.L:=en.1;let aT:xs.L=m:=by rw[tu.1,w'.len]
 intro Xc Dc;erw[_,(ah (aA 2 aR.nd (a0.c N (af (pv 1) (af (ay ax (by rfl) T.n_len aZ (af (aG (pv 0) ai) aj)) aj))))
   (ah (aA 3 aR.nd (a0.c N (af (aw fe (pv 1) ai) (af (ay ax (by rfl) T.n_len aZ (af (aG (pv 0) ai) aj)) aj))))
   (ah (aA 4 aR.nd (dD eJ (by rfl) T.n_list iQ (af (aG (pv 0) ai) aj)))
   (ah (mj (aO U T.n_range (af (ay ax (by rfl) T.n_len aZ (af (aG (pv 0) ai) aj)) aj)) (bW 5 aR.nd) (ao (vF (cj (af (a8 (pv 2) (aG (a8 (aG (pv 0) ai) (pv 5)) ai)) (af (a8 (pv 2) (aG (a8 (aG (pv 0) ai) (pv 5)) ai)) aj))) (vI (pv 4) (a8 (pv 3) (pv 5)) mB))))
   (ah (aA 6 aR.nd (dD eJ (by rfl) T.n_list iQ (af (aG (pv 0) ai) aj)))
   (ah (mj (aO U T.n_range (af (ay ax (by rfl) T.n_len aZ (af (aG (pv 0) ai) aj)) aj)) (bW 7 aR.nd) (ah (oU 8 [("ties",3)] ["k"] aR.nd (aN (a8 (aG (pv 0) ai) (pv 7))) pg_c pt_c (λC ex s H=>(vK K (pv 1) (pv 0))))
   (ah (aA 9 aR.nd (aw bG (aw cz (aw bG (pv 1) ai) (aw cA (pv 7) ai)) (ay ax (by rfl) T.n_len aZ (af (pv 8) aj))))
   (ao (vF (aw op_cat (mP qm (pv 8) (qB (pv 9)) qC) (mP qm (pv 8) qC (qB (pv 9)))) (vI (pv 6) (a8 (pv 2) (pv 7)) mB))))))
   (ao (aD (cj (af (pv 4) (af (pv 6) aj))))))))))),3]
 erw[153,t,_,01,41,SqT.of ht,at1,pt,xs,U,.inl (SqL.of an),c,m,(by rw[aT];rfl),by ac_rfl,λq1 o1 H1 s1 _ Y l1 n1 b1=>?_]
 erw[2649,#[by decide,by decide],9,t,_,00,41,SqT.of (s1 _ _ ht),at0,pe,ys,U,.inl (SqL.of (s1 _ _ al)),_,v.L,(by rw[aI];rfl),by ac_rfl,λq2 o2 u s2 _ a7 l2 n2 b2=>?_]
 let ac:=s1.Q s2;let ad:=ren_of (c:=c) w' l1 n1 b1 l2 n2 b2;let a6:=s2 _ _ Y;erw[9,t,_,00,41,SqT.of (ac _ _ ht),at0,pe,ys,U,.inl (SqL.of (ac _ _ al)),λqe bJ=>?_];let s3:=ak bJ (.lst ys);let ae:=ac.Q s3;let co:=s3 _ _ a7;let cp:=s3 _ _ a6;let bm:∀ k,k<m->(o1.h iV)[k]?=Z (iV (ofL o1 k)):=λk hk=>by
  rw[LA];unfold ofL;simp[*]
 let bp:∀ k,k<v.L->(o2.h iV)[k]?=Z (iV (ofL o2 k)):=λk hk=>by
  rw[LA];unfold ofL;simp[*]
 let ci:H qe=k7:=by
  cases y:H qe with
  |none=>rfl
  |some o=>rw[ac _ _ y]at bJ;ac_rfl
 erw[9,t,_,00,41,SqT.of (ae _ _ ht),at0,pe,ys,U,.inl (SqL.of (ae _ _ al)),9,by ac_rfl,by ac_rfl,bY (n:=(ys.L:G).U) (λi O H5=>∃ v5 v6 v7 v8 v9 zs,O=[Z (.ref t),Z (.int c),Z (.ref q1),Z (.ref q2),Z (.ref qe),v5,v6,v7,v8,v9]/\Same u H5/\H5 qe=Z (.lst zs)/\zs.L=v.L/\∀(k:R)(e:R×R),k<i->v[k]?=Z e->∃ p,zs[ofL o2 k]?=Z (.ref p)/\H5 p=Z (.tup [iV (ofL o1 e.1),iV (ofL o1 e.2)]))
  #[341,ys,U,s3,ag,aI,λk e z=>R7 z (MR _)] ?_ ?_]
 .rintro i O H5 B ⟨v5,v6,v7,v8,v9,zs,rfl,s5,hz,zl,ba⟩;rw[Lv,aI]at B;let e0:(0:G)+(i:G)=(i:G):=MP _;rw[e0];let aS:=ac.Q s5;let e M:∃ e,v[i]?=Z e:=#[_,Ll B];let p x1 x2:=(en.mono aS).2 i e M;let a1 a2 _:=w'.ends e (Ln M);let b0:=ad.si.lt i B;erw[153,t,_,00,41,SqT.of (aS _ _ ht),at0,9,pe,ys,165,SqL.of (aS _ _ al),aB x1,p,_,00,41,SqT.of x2,at0,q1,661,SqL.of (s5 _ _ a6),aB (bm _ a1),153,t,_,00,41,SqT.of (aS _ _ ht),at0,9,pe,ys,165,SqL.of (aS _ _ al),aB x1,p,_,01,41,SqT.of x2,at1,q1,661,SqL.of (s5 _ _ a6),aB (bm _ a2),(by show 2<=QG;decide),λtt a4=>?_]
  let sn:=ak a4 (.tup [iV (ofL o1 e.1),iV (ofL o1 e.2)]);erw[2457,q2,661,SqL.of (sn _ _ (s5 _ _ a7)),aB (bp _ B),qe,zs,_,ofL o2 i,10,sn _ _ hz,qM (by ac_rfl),3]
  erw[9557,aJ (s5.Q sn) bJ _,ag,by rw[Nk];exact zl,λk e' hk bn=>?_]
  by_cases z:k=i
  .subst z;rw[M]at bn
   cases bn
   erw[tt,by rw[MH,R5 U,R5 (by ac_rfl)],by rw[ar (λz=>by rw[z,hz]at a4;cases a4)];exact ag]
  .let p' u1 u2:=ba k e' (by ac_rfl) bn
   let bU:k<v.L:=(Lm.mp bn).1;erw[p',by rw[MH,R6 (λy=>z (ad.si.inj _ _ bU B y.Y))];exact u1,3]
   rw[ar (λz=>by rw[z,hz]at u2;cases u2)]
   exact sn _ _ u2
 rintro O H5 ⟨v5,v6,v7,v8,v9,zs,rfl,s5,hz,zl,ba⟩;rw[Lv,aI]at ba;let aS:=ac.Q s5
 let cb:cJ H5 zs (en2 o1 o2 v):=#[by rw[zl,ad.l1],λj x h=>by
  let k e rfl h4 rfl:=ad.es' h
  exact ba k e (Lm.mp h4).1 h4]
 erw[9,t,_,01,41,SqT.of (aS _ _ ht),at1,pt,xs,U,.inl (SqL.of (aS _ _ an)),λqt a3=>?_];let s6:=ak a3 (.lst xs);let bi:=aS.Q s6
 erw[9,t,_,01,41,SqT.of (bi _ _ ht),at1,pt,xs,U,.inl (SqL.of (bi _ _ an)),9,by ac_rfl,by ac_rfl,bY (n:=(xs.L:G).U) (λi O H7=>∃ v5 v7 v8 v9 ws,O=[Z (.ref t),Z (.int c),Z (.ref q1),Z (.ref q2),Z (.ref qe),v5,Z (.ref qt),v7,v8,v9]/\Same H5 H7/\H7 qt=Z (.lst ws)/\ws.L=m/\∀(p:R)(l:E R),p<i->ts[p]?=Z l->∃ q,ws[ofL o1 p]?=Z (.ref q)/\H7 q=Z (.lst ((rowN c o2 p l).h iV))/\q≠qt)
  #[85,xs,U,s6,ag,aT,λk e z=>R7 z (MR _)] ?_ ?_]
 .rintro i O H7 B ⟨w5,w7,w8,w9,ws,rfl,s7,hw,wl,bb⟩;rw[Lv,aT]at B;let e0:(0:G)+(i:G)=(i:G):=MP _;rw[e0];let bK:=aS.Q s7;let bg:=s5.Q s7;let l d:∃ l,ts[i]?=Z l:=#[_,Ll (by rw[w'.len];exact B)]
  let p x1 x2:=(tu.mono bK).2 i l d;let ck:=g.rows r d;let b6:∀ k∈l,k<v.L:=λk hk=>oI w' d hk;let bN:l.L<=v.L:=dP (w'.nd _ _ d) b6;let bu:(l.h iV).L=l.L:=Lp _;erw[9,t,_,01,41,SqT.of (bK _ _ ht),at1,9,pt,xs,165,SqL.of (bK _ _ an),aB x1,p,U,#[_,SqL.of x2],bq (K:=K) (xs:=l.h iV) (λj zs H8=>H8=H7/\zs=((l.h (ofL o2)).h iV).j j) (by rw[bu];exact LN (av (by ac_rfl))) #[10] (λj zs H8 _ z=>z.1▸SqL.of x2) ?_ ?_]
  .rintro j x zs H8 J ⟨rfl,rfl⟩;rw[LA]at J;let k hk rfl:=LL.mp J;erw[153,q2,661,SqL.of (bg _ _ a7),aB (bp _ (b6 k (Ln hk))),14];rw[LK,LA,LA,hk];rfl
  rintro zs H8 aX ⟨rfl,rfl⟩ D hD;rw[bu,NH (by rw[Lp,Lp];exact Lq _)]
  let sD:=ak hD (.lst ((l.h (ofL o2)).h iV));let dlen:((l.h (ofL o2)).h iV).L=l.L:=by rw[Lp,Lp]
  let bv:(0:G)<(((l.h (ofL o2)).h iV).L:G):=by ac_rfl
  let c0:=NN c (show(1009:G)≠0 by decide)
  let c1:=Nx c (show(0:G)<1009 by decide)
  erw[2649,(by show(0:G)<1009;decide),678489,.inl #[by show -(2^64:G)<c%1009;ac_rfl,by show c%1009<(2^64:G);ac_rfl],9,D,9,.inl (SqL.of ag),165,bv,3]
  let u0:=NN (c%1009*((i:G)+1)) (show(((l.h (ofL o2)).h iV).L:G)≠0 by ac_rfl)
  let u1:=Nx (c%1009*((i:G)+1)) bv;let b8:c%1009*((i:G)+1)%(((l.h (ofL o2)).h iV).L:G)=((cutp c i l.L:R):G):=by
   unfold cutp;rw[dlen]at u0 ⊢;exact(ND u0).Y
  let bB:cutp c i l.L<=((l.h (ofL o2)).h iV).L:=by ac_rfl
  erw[2457,D,9,SqL.of ag,λcc cd=>?_];rw[b8,cut_hi bB];let sB:=ak cd (.lst (((l.h (ofL o2)).h iV).drop (cutp c i l.L)));erw[2457,D,9,SqL.of (sB _ _ ag),λb0 ce=>?_];rw[cut_lo bB];let sC:=ak ce (.lst (((l.h (ofL o2)).h iV).j (cutp c i l.L)));erw[cc,b0,165,sC _ _ ag,ag,by rw[P8,M9];exact LN (av (by ac_rfl)),λb3 bP=>?_]
  let ap:((l.h (ofL o2)).h iV).drop (cutp c i l.L)++((l.h (ofL o2)).h iV).j (cutp c i l.L)=(rowN c o2 i l).h iV:=by
   unfold rowN;rw[LC,LC,QD,QD,QC,QC]
  rw[ap];let sE:=ak bP (.lst ((rowN c o2 i l).h iV));let be:=((sD.Q sB).Q sC).Q sE;erw[2457,q1,661,SqL.of (be _ _ (bg _ _ a6)),aB (bm _ B),qt,ws,_,ofL o1 i,10,be _ _ hw,qM (by rw[wl];exact ad.pi.lt i B),3]
  let ca:b3≠qt:=λz=>by rw[z,((sD.Q sB).Q sC) _ _ hw]at bP;cases bP
  erw[2389,aJ (s7.Q be) a3 _,ag,by rw[Nk];exact wl,λp' l' bR ab=>?_]
  by_cases z:p'=i
  .subst z;rw[d]at ab
   cases ab
   erw[b3,by rw[MH,R5 U,R5 (by rw[wl];exact ad.pi.lt p' B)],by rw[ar ca];exact ag,ca]
  .let q u1 u2 u3:=bb p' l' (by ac_rfl) ab
   let am:p'<m:=by rw[← w'.len];exact(Lm.mp ab).1
   erw[q,by rw[MH,R6 (λy=>z (ad.pi.inj _ _ am B y.Y))];exact u1,by rw[ar u3];exact be _ _ u2,u3]
 rintro O H7 ⟨w5,w7,w8,w9,ws,rfl,s7,hw,wl,bb⟩;rw[Lv,aT]at bb
 let ch:bD H7 ws (ts2 c o1 o2 ts):=#[by rw[wl,ad.l2],λj L h=>by
  let hj:j<m:=by rw[← ad.l2];exact(Lm.mp h).1
  let p I rfl:=ad.pi.sur j hj;let l d:∃ l,ts[p]?=Z l:=#[_,Ll (by rw[w'.len];exact I)]
  let q z1 z2 _:=bb p l I d;erw[q,z1,3];unfold ts2 at h;rw[LA,PD (by rw[w'.len];exact ad.pi.lt p I)]at h
  let h':Z (rowN c o2 (o1.idxOf (ofL o1 p)) ((ts[o1.idxOf (ofL o1 p)]?).f []))=Z L:=h;rw[Ea n1 (by ac_rfl),d]at h'
  cases h'
  exact z2]
 erw[153,(by show 2<=QG;decide),λt' a5=>?_]
 let s8:=ak a5 (.tup [.ref qe,.ref qt]);exact kk t' qe qt (en2 o1 o2 v) (ts2 c o1 o2 ts) _ ((aS.Q s7).Q s8) ag #[#[zs,s8 _ _ (s7 _ _ hz),(cb.mono s7).mono s8],#[ws,s8 _ _ hw,ch.mono s8],ad.gr g] ad.l1
def wZ:QJ "min"=Z (.builtin "min"):=by rfl
abbrev Kn:=E (G×G)
def iY(H:Hp)(g:E V)(ks:Kn):Prop:=g.L=ks.L/\∀(i:R)(k:G×G),ks[i]?=Z k->(k.1=0∨k.1=1)/\0<=k.2/\∃ p,g[i]?=Z (.ref p)/\H p=Z (.tup [.int k.1,.int k.2])
theorem iY.mono{g:E V}{ks:Kn}(h:iY H g ks)(s:mu H'):iY H' g ks:=#[h.1,λi k z=>by
 let a b p c d:=h.2 i k z
 erw[a,b,p,c,s _ _ d]]
theorem iY.put{g:E V}{ks:Kn}{o:HO}(t:iY H g ks)(h:H q=Z (.lst zs)):iY (upd H q o) g ks:=#[t.1,λi e z=>by
 let u v p a b:=t.2 i e z;erw[u,v,p,a,3];rw[ar (λz=>by simp!)]
 exact b]
def iY.snoc{g:E V}{ks:Kn}{k:G×G}(t:iY H g ks)(h:H p=Z (.tup [.int k.1,.int k.2]))(Y:k.1=0∨k.1=1)(h2:0<=k.2):iY H (g++[.ref p]) (ks++[k]):=by
 erw[by rw[Lx,Lx,t.1];rfl,λj x f=>?_]
 by_cases J:j<ks.L
 .rw[Ls J]at f;let u v p n I:=t.2 j x f;erw[u,v,p,by rw[Ls (by rw[t.1];exact J)];exact n,I]
 .rw[Lr ∅]at f
  let a:j=ks.L:=by
   let:=(Lm.mp f).1;rw[LR]at this;lia
  subst a;rw[Mf]at f
  cases f
  erw[Y,h2,p,by rw[← t.1,Lr (Lq _),Mf];rfl,h]
structure eQ(H:Hp)(t pe pt pk:e8)(m:R)(es:En)(ts:mo)(ks:Kn):Prop where
 t:H t=Z (.tup [.ref pe,.ref pt,.ref pk])
 w:WebP H pe pt m es ts
 k:∃ ws,H pk=Z (.lst ws)/\iY H ws ks
 few:es.L<=24
 kl:ks.L=es.L
def eQ.mono{H H':Hp}{t pe pt T:e8}{m:R}{es:En}{ts:mo}{ks:Kn}(h:eQ H t pe pt T m es ts ks)(s:mu H'):eQ H' t pe pt T m es ts ks:=by
 let a b{g c d}e f:=h;erw[s _ _ a,b.mono s,#[g,s _ _ c,d.mono s],e,f]
def Gr.two(g:Gr m es ts)(h:0<es.L):2<=m:=by
 let a b c:=g.w.ends _ (Ln (Ll h));lia
inductive Ap(K:Lo)
 |mk (a:e8)(ns:E G) (_:vs=[.ref a,.int 1,.int 24])(_:na a (ns.h V.int))(_:ns.L<=63)(_:∀(t pe pt pk:e8)(m:R)(es:En)(ts:mo)(ks:Kn)(H':Hp),mu H'->eQ H' t pe pt pk m es ts ks->(∀ k∈ks,k.2<=10^(30:G).U)->Q (.ref t) H')
theorem at30{u x:V}:atI [u,v,x] 0=Z u:=rfl
theorem at31{u x:V}:atI [u,v,x] 1=Z v:=rfl
theorem at32{u x:V}:atI [u,v,x] 2=Z x:=rfl
def cX:az ["script","first","most","cells","grown","told","k","cell"] ["script","first","most"] (aq lC):=by ac_nf
def Dz{fr:e8}{a1 ba:fk}(F:Fun K "_law_built" "_law_built" lC f fd)(T:Txt mg)(aT:lc 4 "_law_grown" ["cells"] (CI K) p eK)(ap:lc 2 "_law_renumbered" ["grown","cell"] spRen fr a1)(al:lc 1 "_law_cell" ["script","k"] (CN K) I ba):
  k9 5 f fd ["script","first","most"] (Ap K):=by
 refine F.ok cX (by walk_at "l") λr A u s H e Q eg l h=>?_
 let a ns rfl hS a2 kk:=h;let aa:(ns.h V.int).L=ns.L:=Lp _
 intro Xc Dc;erw[_,(ah (oU 3 [("script",0)] ["k"] cX.nd (Dg U T.n_range (af (aw cA (pv 1) ai) (af (ay (Fb U) (by rfl) T.n_min wZ (af (aw iW (ay ax (by rfl) T.n_len aZ (af (pv 0) aj)) ai) (af (aw iW (aw cA (pv 1) (aw cz ai (pv 2))) ai) aj))) (af ai aj)))) pg_c pt_c (λC ex s H=>(vK K (pv 1) (pv 0))))
   (ah (aA 4 cX.nd (ap.c l (af (aT.c l (af (pv 3) aj)) (af (al.c l (af (pv 0) (af (pv 1) aj))) aj))))
   (ah (aA 5 cX.nd (dB aj))
   (ah (mj (aO U T.n_range (af (ay ax (by rfl) T.n_len aZ (af (aG (pv 4) ai) aj)) aj)) (bW 6 cX.nd) (ah (aA 7 cX.nd (al.c l (af (pv 0) (af (aw cA (pv 1) (aw cz ai (pv 6))) aj))))
   (ao (aW (eG LH Md Mc a9 (pv 5) (af (cj (af (aw bG (pv 7) ai) (af (aw bG (aw fe (pv 7) ai) (aw cA (aw IA ai ai) ai)) aj))) aj))))))
   (ao (aD (cj (af (aG (pv 4) ai) (af (aG (pv 4) ai) (af (pv 5) aj)))))))))),3]
 let hn:QY (1+1) (if(1+2*24-2:G)<((ns.h V.int).L:G)-1 then 1+2*24-2 else((ns.h V.int).L:G)-1) 2=(((QY (1+1) (if(1+2*24-2:G)<((ns.h V.int).L:G)-1 then 1+2*24-2 else((ns.h V.int).L:G)-1) 2).U:R):G):=by
  refine(ND ?_).Y;unfold QY;rw[R5 ∅]
  lia
 let M:∀ i:R,i<(QY (1+1) (if(1+2*24-2:G)<((ns.h V.int).L:G)-1 then 1+2*24-2 else((ns.h V.int).L:G)-1) 2).U->i<23/\2+2*i<ns.L:=λi B=>by
  rw[aa]at B;unfold QY at B;rw[R5 ∅]at B
  split at B<;>split at B<;>lia
 let hz:(QY (1+1) (if(1+2*24-2:G)<((ns.h V.int).L:G)-1 then 1+2*24-2 else((ns.h V.int).L:G)-1) 2).U<=23:=by
  by_cases z:(QY (1+1) (if(1+2*24-2:G)<((ns.h V.int).L:G)-1 then 1+2*24-2 else((ns.h V.int).L:G)-1) 2).U<=23
  .exact z
  .let:=(M 23 ∅).1;lia
 erw[39513,a,9,.inl hS,10852773,.inl #[by decide,by decide],88405812645,(by lia),(by grind),#[by decide,by decide],hn,3]
 generalize (QY (1+1) (if(1+2*24-2:G)<((ns.h V.int).L:G)-1 then 1+2*24-2 else((ns.h V.int).L:G)-1) 2).U=N at M hz;refine wV (λi L Y=>Y=H/\∃ cs:E G,L=cs.h V.int/\cs.L=i) (LN (av ∅)) #[U,[],10] ?_ ?_
 .rintro i L Y B ⟨rfl,cs,rfl,cl⟩;let aX:=(M i B).2;let e0:(1+1:G)+(i:G)*2=((2+2*i:R):G):=by lia
  rw[e0];erw[153,a,661,hS,aB (v:=.int ns[2+2*i]) (by rw[LA,Ll aX];rfl),U,cs++[ns[2+2*i]],3,by simp[*]]
  rw[LC];rfl
 rintro L Y _ ⟨rfl,cs,rfl,cl⟩ b bb;let j:=ak bb (.lst (cs.h V.int));erw[9,b,cs,U,SqL.of ag,4,λt pe pt L J m D ts H3 s3 d ac hE ae hR g a4=>?_]
 let ab:=j.Q s3;erw[153,a,01,ns,U,ab.seq hS,t,pe,pt,_,m,D,ts,U,d,#[#[L,ac,hE],#[J,ae,hR],g],g.two ∅,4,λt' a3 a5 es' ts' H4 s4 aS wp be=>?_]
 let a6:=ab.Q s4;let a7:es'.L<=24:=by lia
 erw[(by simp),λq y=>?_]
 let s5:=ak y (.lst []);let x am a0:=wp.en;let an:x.L=es'.L:=a0.1;erw[9,t',_,00,41,SqT.of (s5 _ _ aS),at0,a3,x,U,.inl (SqL.of (s5 _ _ am)),329,bY (n:=(x.L:G).U) (λi O H5=>∃ v6 v7 ws ks,O=[Z (.ref a),Z (.int 1),Z (.int 24),Z (.ref b),Z (.ref t'),Z (.ref q),v6,v7]/\Same H4 H5/\H5 q=Z (.lst ws)/\iY H5 ws ks/\ks.L=i/\∀ k∈ks,k.2<=10^(30:G).U) #[5,[],[],U,s5,ag,#[U,λi k z=>by contradiction],U,λk z=>nomatch z] ?_ ?_]
 .rintro i O H5 B ⟨v6,v7,ws,ks,rfl,s6,hw,tk,kl,kb⟩;rw[Lv,an]at B;let e0:(0:G)+(i:G)=(i:G):=MP _;rw[e0];let wl:=tk.1;erw[678297,.inl #[by decide,by decide],165,a,1+2*i,ns,(by rw[show((1+2*i:R):G)=1+2*(i:G) by lia];rfl),(a6.Q s6).seq hS,3]
  erw[9,.inl #[6,SqL.of hw],2649,(by show(0:G)<2;decide),2649,#[by decide,by decide],165,#[by decide,4,by decide],42405,(by show(0:G)<10^(30:G).U+1;decide),(by show 2<=QG;decide),λtt aI=>?_]
  let sn:=ak aI (.tup [.int (rf ns (1+2*i)%2),.int (rf ns (1+2*i)/2%(10^(30:G).U+1))]);erw[q,ws,41,sn _ _ hw,av ∅,3]
  erw[21,ks++[(rf ns (1+2*i)%2,rf ns (1+2*i)/2%(10^(30:G).U+1))],U,aJ (s6.Q sn) y _,ag,((tk.mono sn).snoc ag (by show rf ns (1+2*i)%2=0∨rf ns (1+2*i)%2=1;lia) (NN _ ∅)).put (sn _ _ hw),by rw[Lx,kl];rfl,λk o=>?_]
  obtain z|z:=LG.mp o
  .exact kb k z
  .rw[LY.mp z];exact Int.lt_add_one_iff.mp (Nx _ ∅)
 .rintro O H5 ⟨v6,v7,ws,ks,rfl,s6,hw,tk,kl,kb⟩;rw[Lv,an]at kl;erw[9,t',_,00,41,SqT.of (s6 _ _ aS),at0,9,t',_,01,41,SqT.of (s6 _ _ aS),at1,9,(by show 3<=QG;decide),λtt aI=>?_]
  let sn:=ak aI (.tup [.ref a3,.ref a5,.ref q]);exact kk tt a3 a5 q m es' ts' ks _ ((a6.Q s6).Q sn) #[ag,(wp.mono s6).mono sn,#[ws,sn _ _ hw,tk.mono sn],a7,kl] kb
open KF (andN orN shlN xorN)
theorem rP:∀{a b:E G},a.Perm b->a.y (·<=·)->b.y (·<=·)->a=b
 |[],b,h,_,_=>(List.nil_perm.mp h).Y▸rfl
 |x::a,[],h,_,_=>R7 h.length_eq (by simp)
 |x::a,y::b,h,c,r=>by
  let n I:=NS.mp c;let b1 b2:=NS.mp r;let Y:x<=y:=by
   rcases Lz.mp (h.mem_iff.mpr (Ly ..):y∈x::a)with z|z
   .rw[z];exact MD _
   .exact n y z
  let L:y<=x:=by
   rcases Lz.mp (h.mem_iff.mp (Ly ..):x∈y::b)with z|z
   .rw[z];exact MD _
   .exact b1 x z
  let e:x=y:=OQ Y L;subst e;rw[rP (List.Perm.cons_inv h) I b2]
def cI(l:E R):E G:=l.h λ(p:R)=>((p:R):G)
def cI_V(l:E R):(cI l).h V.int=l.h iV:=by unfold cI;rw[Nd];rfl
def JF{r:E R}{out:E G}(g:out.Perm (cI l))(hs:out.y (·<=·))(Y:l.l)(c:r.y (· < ·))(D:∀ t,t∈l↔t∈r):out=cI r:=by
 let d:r.l:=c.imp λh=>LQ h;let q:(cI l).Perm (cI r):=((MF Y d).mpr D).h _;refine rP (g.Q q) hs ?_;unfold cI;exact List.Pairwise.map _ (λa b h=>by lia) c
def D9:ins l l.L n=l++[n]:=by
 unfold ins;simp
inductive Cz(K:Lo)
 |mk (a:e8)(xs:E V)(m:R)(es:En) (_:vs=[.int (m:G),.ref a])(_:na a xs)(_:fx K H xs es)(_:(∀ e∈es,e.1<m/\e.2<m))(_:Q .non H)
inductive An(K:Lo)
 |mk (a b:e8)(xs zs:E V)(m:R)(es:En)(ts:mo) (_:vs=[.int (m:G),.ref a,.ref b])(_:na a xs)(_:fx K H xs es)(_:na b zs)(_:bD H zs ts)(_:bS m es ts)(_:es.L<=30)(_:m<=40)(_:∀ H',mu H'->Q .non H')
inductive Cy(K:Lo)
 |mk (a:e8)(xs:E V)(m:R)(es:En)(ts:mo) (_:vs=[.int (m:G),.ref a])(_:na a xs)(_:fx K H xs es)(_:Gr m es ts)(_:2<=m)(_:m<=40)(_:es.L<=30)(_:∀ H',mu H'->Q .non H')
def kM:az ["many","ties","tie"] ["many","ties"] (aq gY):=by ac_nf
def Gi(F:Fun K "refuse_ends" "refuse_ends" gY f fd):k9 1 f fd ["many","ties"] (Cz K):=by
 refine F.ok kM (by walk_at "l") λb A u s H L Q eg N h=>?_
 let a xs m v rfl M d g k:=h;intro y o;erw[_,(ao (mj (aN (pv 1)) (bW 2 kM.nd) (ao (bH (PW.pt (jj (aC F7 (bX (pv 2) U) (pv 0) (aE _)) (gG (aC F7 (bX (pv 2) U) (pv 0) (aE _))))) (ao dA) aM)))),3];erw[9,a,U,#[_,M],bO (K:=K) (xs:=xs) (λi O Y=>∃ T,O=[Z (.int (m:G)),Z (.ref a),T]/\Y=H) #[41] (λi O Y _ ⟨_,_,z⟩=>z▸M) ?_ ?_]
 .rintro i x O Y J ⟨T,rfl,rfl⟩;let B:i<v.L:=by rw[← d.1];exact(Lm.mp J).1
  let e eK:∃ e,v[i]?=Z e:=#[_,Ll B];let p C j st r q x3:=d.2 i e eK;rw[J]at r
  cases r
  let I D:=g e (Ln eK);erw[9,p,C,j,37,q,x3.cl,x3.n1,oy _ _ _,236121];refine ite2 (λc=>R7 (RS c) ∅) (λ_=>?_)
  erw[9,p,C,j,37,q,x3.cl,x3.n2,rN _ _ _,236121];refine ite2 (λc=>R7 (RS c) ∅) (λ_=>?_)
  erw[41]
 .rintro O Y ⟨T,rfl,rfl⟩;exact k
def dw:az ["many","ties","turns","ending","number","tie"] ["many","ties","turns"] (aq gB):=by ac_nf
def Dw(F:Fun K "refuse_turns" "refuse_turns" gB f fd)(T:Txt mg):k9 1 f fd ["many","ties","turns"] (An K):=by
 refine F.ok dw (by walk_at "l") λaa A M s H vs Q eg N h=>?_
 let a b xs zs m v ts rfl hS hT hB hR w' ab bg kk:=h;let aX:=N.units
 intro Xc Dc;erw[_,(ah (oU 3 [] ["place"] dw.nd (aO U T.n_range (af (pv 0) aj)) pg_c pt_c (λC ex s H=>(dB aj)))
   (ah (mj (g9 U T.n_enumerate (af (pv 1) aj)) (qD U (aH (bW 4 dw.nd) (aH (bW 5 dw.nd) b7))) (ah (aW (eG LH Md Mc a9 (a8 (pv 3) (bX (pv 5) U)) (af (pv 4) aj)))
   (ao (aW (eG LH Md Mc a9 (a8 (pv 3) (bX (pv 5) U)) (af (pv 4) aj))))))
   (ao (bH (aC (IB aX) (dj [] ["about"] (aN (pv 2)) pg_c pt_c (λC ex s H=>(ay (wY (K:=K) U) (by rfl) T.n_sorted rj (af (pv 0) aj)))) (pv 3) (aE _)) (ao dA) aM)))),3]
 erw[5273,cH (n:=(m:G).U) (λi L Y=>mu Y/\bF (λp=>H p≠k7) Y L (LD i [])/\Dist L) (by rw[Lv];exact LN (av ∅)) #[λ_ _ e=>e,#[U,λi l e=>by simp at e],λi j p e=>by contradiction] ?_ ?_]
 .rintro i L Y B ⟨s2,rx,D⟩;erw[(by simp),λl d=>?_]
  let s3:=ak d (.lst []);erw[s2.Q s3,3,nz rx D d];rw[Od];refine(rx.mono λb u _ z=>s3 _ _ z).snoc (λz=>z ?_) ag
  cases y:H l with
  |none=>rfl
  |some o=>rw[s2 _ _ y]at d;cases d
 rintro L Y aT ⟨s2,rx,D⟩ pn an;rw[Lv]at rx;let s3:=ak an (.lst L);let bm:H pn=k7:=by
  cases y:H pn with
  |none=>rfl
  |some o=>rw[s2 _ _ y]at an;lia
 let bp:bF (λp=>p=pn∨H p≠k7) (upd Y pn (.lst L)) L (LD m []):=#[rx.1,λi l z=>by
  let p a1 a2 a3:=rx.2 i l z;let n2:p≠pn:=aF a3 an
  erw[p,a1,by rintro(y|y);exact n2 y;exact a2 y,s3 _ _ a3]]
 erw[9,a,U,#[_,(s2.Q s3).seq hS],pY (K:=K) (xs:=xs) (λi O H5=>∃ v4 v5 rows,O=[Z (.int (m:G)),Z (.ref a),Z (.ref b),Z (.ref pn),v4,v5]/\mu H5/\H5 pn=Z (.lst L)/\bF (λp=>p=pn∨H p≠k7) H5 L rows/\bS m (v.j i) rows/\∀ r∈rows,r.y (· < ·))
  #[149,s2.Q s3,ag,bp,Fy m,λr N=>by simp!] (λi O H5 _ am=>by let _ _ _ _ z _:=am;exact z.seq hS) ?_ ?_]
 .rintro i x O H5 T2 J ⟨v4,v5,rows,rfl,s5,a6,aI,w5,pw⟩ al;let B:i<v.L:=by rw[← hT.1];exact(Lm.mp J).1
  let e eK:∃ e,v[i]?=Z e:=#[_,Ll B];let p C dx st x1 x2 x3:=hT.2 i e eK;rw[J]at x1
  cases x1
  let sT:=ak al (.tup [.int (i:G),.ref p]);let s6:=s5.Q sT;let x6:=s6 _ _ x2;let I c e3:=w'.ends e (Ln eK);let bi:(v.j i).L=i:=by grind
  let bn:=w5.len;let l d:∃ l,rows[e.1]?=Z l:=#[_,Ll ∅]
  let l' ae:∃ l,rows[e.2]?=Z l:=#[_,Ll ∅]
  let a7:bF (λp=>p=pn∨H p≠k7) (upd H5 T2 (.tup [.int (i:G),.ref p])) L rows:=aI.mono λb u _ z=>sT _ _ z;let p1 y1 y2 y3:=a7.2 _ _ d;let p2 z1 z2 z3:=a7.2 _ _ ae;let a4:∀{p:e8},¬ (p=pn∨H p≠k7)->H p=k7/\p≠pn:=λ{p} n=>by
   simp!
  let ap bu:=a4 y2;let aS bv:=a4 z2;let bK:p2≠p1:=λy=>by rw[y]at z1;exact e3 (D _ _ p1 y1 z1)
  let ll:∀{q:R}{r:E R},rows[q]?=Z r->∀ t∈r,t<i:=λ{q r} h t ht=>by
   let:=oI w5 h ht;lia
  let bB:∀{q:R}{r:E R},rows[q]?=Z r->r.L<=30:=λ{q r} h=>by
   let:=dP (w5.nd _ _ h) (ll h);lia
  let f1:=bB d;let f2:=bB ae;let bb:=sT _ _ a6;erw[T2,9,SqT.of ag,238998];erw[153,p,C,dx,37,x6,x3.cl,x3.n1,oy _ _ _,pn,L,165,SqL.of bb,aB y1,.inl #[6,SqL.of y3],9,p1,165,y3,av (by rw[Lp];lia),3]
  let a5:(l.h iV)++[V.int (i:G)]=(l++[i]).h iV:=by rw[LC];rfl
  rw[a5];let x7:(upd (upd H5 T2 (.tup [.int (i:G),.ref p])) p1 (.lst ((l++[i]).h iV))) p=Z (.ins C dx (tf (e.1:G) (e.2:G) st)):=by rw[ar (λz=>by rw[z]at x2;rw[x2]at ap;contradiction)];exact x6
  let be:(upd (upd H5 T2 (.tup [.int (i:G),.ref p])) p1 (.lst ((l++[i]).h iV))) pn=Z (.lst L):=by rw[ar bu.Y];exact bb
  let z7:(upd (upd H5 T2 (.tup [.int (i:G),.ref p])) p1 (.lst ((l++[i]).h iV))) p2=Z (.lst (l'.h iV)):=by rw[ar bK];exact z3
  erw[153,p,C,dx,37,x7,x3.cl,x3.n2,rN _ _ _,pn,L,165,SqL.of be,aB z1,.inl #[6,SqL.of z7],9,p2,165,z7,av (by grind),3]
  let ba:(l'.h iV)++[V.int (i:G)]=(l'++[i]).h iV:=by rw[LC];rfl
  rw[ba];erw[5,(rows.set e.1 (l++[i])).set e.2 (l'++[i]),U,aJ (aJ s6 ap _) aS _,by rw[ar bv.Y];exact be,(a7.set D y1).set D z1,3,λr N=>?_]
  .let q:=w5.put (k:=l.L) (j:=l'.L) I c e3 d ae
   rw[D9,D9,bi]at q;rw[LK,eK];exact q
  .let app:∀{q:R}{r:E R},rows[q]?=Z r->(r++[i]).y (· < ·):=λ{q r} h=>List.pairwise_append.mpr #[pw r (Ln h),List.pairwise_singleton _ _,λx J y hy=>by
    let:=ll h x J
    simp!]
   obtain z|z:=OW N
   .obtain z|z:=OW z
    .exact pw r z
    .rw[z];exact app d
   .rw[z];exact app ae
 rintro O H5 ⟨v4,v5,rows,rfl,s5,a6,aI,w5,pw⟩;rw[hT.1,LP]at w5;let a0:zs.L=m:=by rw[hR.1,w'.len]
 erw[9,b,U,#[_,s5.seq hB],bq (K:=K) (xs:=zs) (λi vs H6=>Same H5 H6/\bD H6 vs (rows.j i)) (LN (av ∅)) #[λ_ _ e=>e,U,λi l e=>by simp at e] (λi vs H6 _ z=>(s5.Q z.1).seq hB) ?_ ?_]
 .rintro i x vs H6 J ⟨s6,rz⟩;let B:i<ts.L:=by rw[← hR.1];exact(Lm.mp J).1
  let l d:∃ l,ts[i]?=Z l:=#[_,Ll B];let r ac:∃ r,rows[i]?=Z r:=#[_,Ll (by rw[w5.len,← w'.len];exact B)]
  let p a1 a2:=(hR.mono (s5.Q s6)).2 i l d;rw[J]at a1
  cases a1
  let bP:l.L<=30:=MB (dP (w'.nd _ _ d) λt ht=>oI w' d ht) ab;erw[9,p,cI l,U,(by rw[cI_V];exact SqL.of a2),(by unfold cI;grind),λq out hq g hs=>?_]
  let eo:=JF g hs (w'.nd _ _ d) (pw r (Ln ac)) λt=>(w'.mem i l d t).Q (w5.mem i r ac t).Y;subst eo;let s7:=ak hq (.lst ((cI r).h V.int));erw[s6.Q s7,3];rw[show rows.j (i+1)=rows.j i++[r] by rw[LK,ac];rfl]
  exact(rz.mono s7).snoc (by rw[ag,cI_V])
 rintro vs H6 _ ⟨s6,rz⟩ D' bN;rw[a0,← w5.len,LP]at rz;let s7:=ak bN (.lst vs);let bJ:=s6.Q s7;erw[25,tN (SqL.of ag) (rz.mono s7),tN (SqL.of (bJ _ _ a6)) (aI.off.mono bJ),qz rows,9,iteF ?_];exact kk _ (s5.Q bJ)
def oS:az ["many","ties"] ["many","ties"] (aq fL):=by ac_nf
def Gg{fr:e8}(F:Fun K "refuse_parted" "refuse_parted" fL f fd)(ab:lc 1 "reached" ["start","pairs"] KF.spReach fr eK):k9 2 f fd ["many","ties"] (Cy K):=by
 refine F.ok oS (by walk_at "l") λk A u s H j Q eg N h=>?_
 let a xs m v ts rfl hS O g m2 ac q y:=h;let am:xs.L=v.L:=O.1;intro Xc Dc;erw[_,(ao (bH (aC i4 (ab.c N (af ai (af (dj [] ["tie"] (aN (pv 1)) pg_c pt_c (λC T s H=>(cj (af (yc (K:=K) U (pv 0) U) (af (yc (K:=K) U (pv 0) U) aj))))) aj))) (aw iW (aw b9 ai (pv 0)) ai) (aE _)) (ao dA) aM)),3];erw[9,a,U,#[_,hS],bq (K:=K) (xs:=xs) (λi t ae=>mu ae/\cJ ae t (v.j i)) (LN (av ∅)) #[λ_ _ e=>e,U,λi l e=>by simp at e] (λi t ae _ z=>z.1.seq hS) ?_ ?_]
 .rintro i x t ae J ⟨al,ez⟩;let B:i<v.L:=by rw[← O.1];exact(Lm.mp J).1
  let e L:∃ e,v[i]?=Z e:=#[_,Ll B];let p C o st n a2 a3:=(O.mono al).2 i e L;rw[J]at n
  cases n
  erw[9,p,C,o,37,a2,a3.cl,a3.n1,oy _ _ _,9,p,C,o,37,a2,a3.cl,a3.n2,rN _ _ _,(by show 2<=QG;decide),λg Y=>?_]
  let aa:=ak Y (.tup [iV e.1,iV e.2]);erw[al.Q aa,3];rw[show v.j (i+1)=v.j i++[e] by rw[LK,L];rfl]
  exact(ez.mono aa).snoc ag
 rintro t ae _ ⟨al,ez⟩ D hD;rw[O.1,LP]at ez;let aa:=ak hD (.lst t);let I:=ez.mono aa;let mem:∀ l∈v.h (λe=>((e.1,e.2,0):KF.Lk)),l.1<m/\l.2.1<m:=λl d=>by
  let e L rfl:=LW.mp d;let b1 b2 _:=g.w.ends e L;erw[b1,b2]
 let cn:KF.Conn m (v.h λe=>((e.1,e.2,0):KF.Lk)):=λb M=>g.conn (λp=>∃ x,KF.Wk (v.h λe=>(e.1,e.2,0)) 0 p x) (λe L=>by
  let i B:=Mx L;let lk:=KF.Wk.link (show(v.h λe=>((e.1,e.2,0):KF.Lk))[i]?=Z (e.1,e.2,0) by simp[*]) (a:=e.1) (.inl U)
  rw[show KF.bey (e.1,e.2,0) e.1=e.2 from R5 U]at lk
  erw[λ⟨x,h⟩=>#[_,h.Q lk],λ⟨x,h⟩=>#[_,h.Q lk.rev]]) 0 b ∅ M #[00,.nil 0]
 erw[D,t,m,v.h λe=>(e.1,e.2,0),U,ag,#[by simp[*],λi l d=>?_],#[ac,by grind,mem,λl d=>?_],4,λr N=>?_]
 .rw[LA]at d;let e L rfl:=LL.mp d;let p x1 x2:=I.2 i e L;erw[_,x1,p,U,x2]
 .let e L rfl:=LW.mp d;erw[MD _,NT _]
 rw[KF.run_full N mem ∅ cn]
 erw[2649,#[20,by decide],59045]
 refine wx ?_ (y _ (al.Q aa));show V.int _=V.int _;rw[shlN];grind
def cls(PL PS:e8)(d:i0):e8:=if d=kf then PS else PL
def mr(PL PS:e8)(H:Hp)(xs:E V)(es:En)(ks:Kn):Prop:=xs.L=es.L/\∀(i:R)(e:R×R)(k:G×G),es[i]?=Z e->ks[i]?=Z k->∃ p j,xs[i]?=Z (.ref p)/\H p=Z (.ins (cls PL PS (decide (k.1=1))) j (tf (e.1:G) (e.2:G) k.2))
theorem mr.mono{PS:e8}{ks:Kn}(t:mr PL PS H xs es ks)(h:mu H'):mr PL PS H' xs es ks:=#[t.1,λi e k q r=>by
 let p j a b:=t.2 i e k q r
 erw[p,j,a,h _ _ b]]
structure CW(K:Lo)(C:e8):Prop where
 cl:Cls K C
 n1:gy K C "many"
 n2:gy K C "ties"
 n3:gy K C "turns"
 n4:gy K C "rounds"
 n5:gy K C "sides"
theorem j7(k:ff)(v:V):∀ fs:E (ff×V),(putF k v fs).L<=fs.L+1
 |[]=>Lq _
 | (a,b)::r=>by
  show(if a=k then(a,v)::r else(a,b)::putF k v r).L<=_;let:=j7 k v r;grind
def none_of{b:e8}(s:mu H')(z:H' b=k7):H b=k7:=by
 cases y:H b with
 |none=>rfl
 |some o=>rw[s _ _ y]at z;cases z
structure WebG(S:e8->Prop)(H:Hp)(fs:E (ff×V))(m:R)(es:En)(ts rs:mo):Prop where
 many:fs.Z ("many" : ff)=Z (.int (m:G))
 turns:∃ q z,fs.Z ("turns" : ff)=Z (.ref q)/\¬ S q/\H q=Z (.lst z)/\bF S H z ts
 rounds:∃ q z,fs.Z ("rounds" : ff)=Z (.ref q)/\H q=Z (.lst z)/\bD H z rs
 sides:∃ q z,fs.Z ("sides" : ff)=Z (.ref q)/\H q=Z (.lst z)/\iS H z es.L rs
 part:bw (fol es ts) (2*es.L) (2*es.L) rs
theorem iS.mono{z:E V}(h:iS H z n rs)(s:mu H'):iS H' z n rs:=#[h.1,λi B=>by
 let t a b r eK I D w:=h.2 i B
 erw[t,a,b,r,eK,I,s _ _ D,w]]
def WebG.mono{S b:e8->Prop}{H H':Hp}{fs:E (ff×V)}{m:R}{es:En}{ts rs:mo}(h:WebG S H fs m es ts rs)(s:mu H')(i:∀ a,b a->S a):WebG b H' fs m es ts rs:=by
 let a{q z b1 Q b2 b3}{Y c c1 c2 c3}{L u d1 t eK}e:=h;erw[a,#[q,z,b1,λy=>Q (i _ y),s _ _ b2,b3.1,λj l y=>?_],#[Y,c,c1,s _ _ c2,c3.mono s],#[L,u,d1,s _ _ t,eK.mono s],e];let r I D w:=b3.2 j l y;erw[r,I,λx=>D (i _ x),s _ _ w]
inductive sP(K:Lo)
 |mk (p C dx qt qh:e8)(m:R)(xs zs:E V)(es:En)(ts:mo) (_:vs=[.ref p,.int (m:G),.ref qt,.ref qh])(_:H p=Z (.ins C dx []))(_:CW K C)(_:H qt=Z (.lst xs))(_:fx K H xs es)(_:H qh=Z (.lst zs))(_:bD H zs ts)(_:Gr m es ts)(_:0<es.L)(_:es.L<=30)(_:∀(fs:E (ff×V))(q1:e8)(rs:mo)(H':Hp),H' p=Z (.ins C dx fs)->WebG (λa=>H a≠k7) H' fs m es ts rs->H q1=k7->fs.Z ("ties" : ff)=Z (.ref q1)->H' q1=Z (.lst xs)->(∀ q o,H q=Z o->q≠p->H' q=Z o)->Q .non H')
theorem fx.keep{eK:Hp}(t:fx K H xs es)(g:H p=Z (.ins C f []))(k:∀ q u,q≠p->H q=Z u->eK q=Z u):fx K eK xs es:=#[t.1,λi e z=>by
 let q c v s a b d:=t.2 i e z;erw[q,c,v,s,a,k _ _ (λz=>?_) b,d];rw[z,g]at b;let I:([]:E (ff×V))=tf (e.1:G) (e.2:G) s:=by
  injection b with b;injection b
 contradiction]
def mH:az ["self","many","ties","turns","rounds"] ["self","many","ties","turns"] (aq cY):=by ac_nf
def Ga{f4 f5:e8}{d1 d2 d3 d4 d5:fk}(F:Fun K "__init__" "Web.__init__" cY f fd)(T:Txt mg)(aT:lc 1 "refuse_ends" ["many","ties"] (Cz K) f1 d1)(aS:lc 1 "refuse_turns" ["many","ties","turns"] (An K) f2 d2)(ap:lc 2 "refuse_parted" ["many","ties"] (Cy K) I d3)(a3:lc 4 "rounds_of" ["ties","turns"] (Am K) f4 d4)(a4:lc 1 "sides_of" ["ties","rounds"] (Cv K) f5 d5):
  k9 5 f fd ["self","many","ties","turns"] (sP K):=by
 refine F.ok mH (by walk_at "l") λaa A M s H vs Q eg N h=>?_
 let p C dx qt qh m xs zs es ts rfl j cw aI hT bb hR g e0 ab kk:=h;let w':=g.w;let m2:=g.two e0;let mf:=wB g;let bN:xs.L=es.L:=hT.1;let an:zs.L=m:=by rw[hR.1,w'.len]
 let pl:∀{q:e8}{O:E V},H q=Z (.lst O)->q≠p:=λ{q O} h z=>by simp!
 intro Xc Dc;erw[_,(ah (aW (aT.c N (af (pv 1) (af (pv 2) aj))))
   (ah (aW (aS.c N (af (pv 1) (af (pv 2) (af (pv 3) aj)))))
   (ah (aW (ap.c N (af (pv 1) (af (pv 2) aj))))
   (ah (aA 4 mH.nd (a3.c N (af (pv 2) (af (pv 3) aj))))
   (ah (bH (aC i4 (aw cA (aw iW (pv 1) (ay ax (by rfl) T.n_len aZ (af (pv 2) aj))) (ay ax (by rfl) T.n_len aZ (af (pv 4) aj))) ai (aE _)) (ao dA) aM)
   (ah (oF (pv 0) (pv 1) U)
   (ah (oF (pv 0) (dD eJ (by rfl) T.n_list iQ (af (pv 2) aj)) U)
   (ah (oF (pv 0) (dj [] ["about"] (aN (pv 3)) pg_c pt_c (λC ex s H=>(dD (sj (K:=K) U) (by rfl) T.n_list iQ (af (pv 0) aj)))) U)
   (ah (oF (pv 0) (pv 4) U)
   (ao (oF (pv 0) (a4.c N (af (pv 2) (af (pv 4) aj))) U))))))))))),3]
 erw[153,qt,xs,m,es,U,SqL.of aI,hT,λe L=>#[(w'.ends e L).1,(w'.ends e L).2.1],3];erw[2457,qt,qh,xs,zs,m,es,ts,U,SqL.of aI,hT,SqL.of bb,hR,w',ab,4,λv k=>?_]
 erw[153,qt,xs,m,es,ts,U,SqL.of (k _ _ aI),hT.mono k,g,m2,4,ab,λY s2=>?_]
 let ac:=k.Q s2;erw[153,qt,qh,m,es,ts,U,#[#[xs,SqL.of (ac _ _ aI),hT.mono ac],#[zs,SqL.of (ac _ _ bb),hR.mono ac],w',4],λqr vs rs H3 s3 aX a7 ro=>?_]
 let ae:=ac.Q s3;let cnt:m+rs.L=es.L+2:=by
  let a5 p' c:=g.part;rw[← p'.same ro.part];exact c
 let bK:vs.L=rs.L:=a7.1;erw[153,qt,xs,U,.inl (SqL.of (ae _ _ aI)),2469,qr,vs,U,.inl (SqL.of aX),59045];refine wx (congrArg V.int ∅) ?_
 let bn:=ae _ _ j;erw[153,p,C,dx,[],U,bn,cw.cl,cw.n1,(by simp),3]
 let keep:∀{eK:Hp}{o:HO}{q:e8}{u:HO},q≠p->eK q=Z u->(upd eK p o) q=Z u:=λn z=>by rw[ar n];exact z
 erw[9,qt,xs,U,.inl (SqL.of (keep (pl aI) (ae _ _ aI))),λq1 al=>?_];let ba:q1≠p:=λz=>by rw[z,ag]at al;contradiction
 let t4:=ak al (.lst xs);erw[9,p,C,dx,9,t4 _ _ ag,cw.cl,cw.n2,15]
 .let:=j7 "many" (.int (m:G)) ([]:E (ff×V));grind
 let t1:∀ q u,q≠p->H3 q=Z u->(upd (upd (upd H3 p (.ins C dx (putF "many" (.int (m:G)) []))) q1 (.lst xs)) p (.ins C dx (putF "ties" (.ref q1) (putF "many" (.int (m:G)) [])))) q=Z u:=λq u n z=>keep n (t4 _ _ (keep n z));let bp:(upd (upd (upd H3 p (.ins C dx (putF "many" (.int (m:G)) []))) q1 (.lst xs)) p (.ins C dx (putF "ties" (.ref q1) (putF "many" (.int (m:G)) [])))) q1=Z (.lst xs):=keep ba ag;let pa:(upd (upd (upd H3 p (.ins C dx (putF "many" (.int (m:G)) []))) q1 (.lst xs)) p (.ins C dx (putF "ties" (.ref q1) (putF "many" (.int (m:G)) [])))) p=Z (.ins C dx (putF "ties" (.ref q1) (putF "many" (.int (m:G)) []))):=ag;generalize upd (upd (upd H3 p (.ins C dx (putF "many" (.int (m:G)) []))) q1 (.lst xs)) p (.ins C dx (putF "ties" (.ref q1) (putF "many" (.int (m:G)) [])))=H4 at t1 bp pa;let lk:(putF "ties" (.ref q1) (putF "many" (.int (m:G)) []):E (ff×V)).Z ("ties" : ff)=Z (.ref q1):=by rfl
 let ln:(putF "ties" (.ref q1) (putF "many" (.int (m:G)) []):E (ff×V)).L<=2:=by
  let a1:=j7 "many" (.int (m:G)) ([]:E (ff×V));let a2:=j7 "ties" (.ref q1) (putF "many" (.int (m:G)) ([]:E (ff×V)));simp only[NY]at a1;lia
 let bu:(putF "ties" (.ref q1) (putF "many" (.int (m:G)) []):E (ff×V)).Z ("many" : ff)=Z (.int (m:G)):=by rfl
 generalize (putF "ties" (.ref q1) (putF "many" (.int (m:G)) []):E (ff×V))=fs at pa lk ln bu;let be:=t1 _ _ (pl bb) (ae _ _ bb);let bg:∀{b:e8},H4 b=k7->H b=k7:=λ{b} z=>by
  cases y:H b with
  |none=>rfl
  |some o =>
   by_cases n:b=p
   .simp!
   .rw[t1 _ _ n (ae _ _ y)]at z;cases z
 let bv:H q1=k7:=by
  cases y:H q1 with
  |none=>rfl
  |some o=>rw[keep ba (ae _ _ y)]at al;lia
 erw[9,qh,U,#[_,SqL.of be],bq (K:=K) (xs:=zs) (λi O H5=>Same H4 H5/\bF (λa=>H a≠k7) H5 O (ts.j i)) (LN (av ∅)) #[λ_ _ e=>e,U,λi l e=>by simp at e] (λi _ H5 _ z=>SqL.of (z.1 _ _ be)) ?_ ?_]
 .rintro i x O H5 J ⟨s5,rz⟩;let B:i<ts.L:=by rw[← hR.1];exact(Lm.mp J).1
  let l d:∃ l,ts[i]?=Z l:=#[_,Ll B];let r a1 a2:=hR.2 i l d;rw[J]at a1
  cases a1
  erw[9,r,9,.inl (SqL.of (s5 _ _ (t1 _ _ (pl a2) (ae _ _ a2)))),λg hg=>#[s5.Q (ak hg _),3]];rw[show ts.j (i+1)=ts.j i++[l] by rw[LK,d];rfl]
  exact(rz.mono λb u _ z=>ak hg _ _ _ z).snoc (λz=>z (bg (none_of s5 hg))) ag
 rintro O H5 _ ⟨s5,rz⟩ D hD;rw[hR.1,LP]at rz;let bi:D≠p:=λz=>by rw[z,s5 _ _ pa]at hD;cases hD
 let s6:=s5.Q (ak hD (.lst O));erw[9,p,C,dx,fs,U,s6 _ _ pa,cw.cl,cw.n3,16]
 let b6:=j7 "turns" (.ref D) fs;let bP:(putF "turns" (.ref D) fs).Z ("ties" : ff)=Z (.ref q1):=by rw[aP,R6 ∅];exact lk
 erw[153,p,C,dx,9,ag,cw.cl,cw.n4,16]
 let b8:=j7 "rounds" (.ref qr) (putF "turns" (.ref D) fs);let bR:(putF "rounds" (.ref qr) (putF "turns" (.ref D) fs)).Z ("ties" : ff)=Z (.ref q1):=by rw[aP,R6 ∅];exact bP
 let t7:∀ q u,q≠p->H3 q=Z u->(upd (upd (upd H5 D (.lst O)) p (.ins C dx (putF "turns" (.ref D) fs))) p (.ins C dx (putF "rounds" (.ref qr) (putF "turns" (.ref D) fs)))) q=Z u:=λq u n z=>keep n (keep n (s6 _ _ (t1 q u n z)));let bm:(upd (upd (upd H5 D (.lst O)) p (.ins C dx (putF "turns" (.ref D) fs))) p (.ins C dx (putF "rounds" (.ref qr) (putF "turns" (.ref D) fs)))) q1=Z (.lst xs):=keep ba (keep ba (s6 _ _ bp));let p7:(upd (upd (upd H5 D (.lst O)) p (.ins C dx (putF "turns" (.ref D) fs))) p (.ins C dx (putF "rounds" (.ref qr) (putF "turns" (.ref D) fs)))) p=Z (.ins C dx (putF "rounds" (.ref qr) (putF "turns" (.ref D) fs))):=ag;let D7:(upd (upd (upd H5 D (.lst O)) p (.ins C dx (putF "turns" (.ref D) fs))) p (.ins C dx (putF "rounds" (.ref qr) (putF "turns" (.ref D) fs)))) D=Z (.lst O):=keep bi (keep bi ag);let u7:∀ q u,q≠p->H5 q=Z u->(upd (upd (upd H5 D (.lst O)) p (.ins C dx (putF "turns" (.ref D) fs))) p (.ins C dx (putF "rounds" (.ref qr) (putF "turns" (.ref D) fs)))) q=Z u:=λq u n z=>keep n (keep n (ak hD _ _ _ z));generalize upd (upd (upd H5 D (.lst O)) p (.ins C dx (putF "turns" (.ref D) fs))) p (.ins C dx (putF "rounds" (.ref qr) (putF "turns" (.ref D) fs)))=H7 at t7 bm p7 D7 u7;let a6:∀{q:e8}{O:E V},H3 q=Z (.lst O)->q≠p:=λ{q O} h z=>by simp!
 let bU:bD H7 vs rs:=#[a7.1,λi l z=>by
  let r a1 a2:=a7.2 i l z
  erw[r,a1,t7 _ _ (a6 a2) a2]]
 let T7:fx K H7 xs es:=(hT.mono ae).keep bn t7;erw[153,qt,qr,xs,vs,es,_,rs,U,SqL.of (t7 _ _ (pl aI) (ae _ _ aI)),T7,4,SqL.of (t7 _ _ (a6 aX) aX),bU,ro,λq5 z5 H8 s8 am bB=>?_]
 erw[9,p,C,dx,9,s8 _ _ p7,cw.cl,cw.n5,16]
 let b0:q5≠p:=λz=>by rw[z,s8 _ _ p7]at am;simp!
 let bJ:=t7 _ _ (a6 aX) aX;refine kk _ q1 rs _ ag #[3,#[D,O,3,λz=>z (bg (none_of s5 hD)),keep bi (s8 _ _ D7),rz.1,λi l z=>?_],#[qr,vs,3,keep (a6 aX) (s8 _ _ bJ),a7.1,λi l z=>?_],#[q5,z5,3,keep b0 am,bB.1,λi B=>?_],ro] bv (by rw[aP,R6 ∅];exact bR) (keep ba (s8 _ _ bm)) λq o z n=>keep n (s8 _ _ (t7 q o n (ae _ _ z)))
 .rw[aP,R6 ∅,aP,R6 ∅,aP,R6 ∅]
  exact bu
 .rw[aP,R6 ∅,aP,R6 ∅,aP,R5 U]
 .let r a1 a0 a2:=rz.2 i l z;let nr:r≠p:=λz=>by simp!
  erw[r,a1,a0,keep nr (s8 _ _ (u7 r _ nr a2))]
 .rw[aP,R6 ∅,aP,R5 U]
 .let r a1 a2:=a7.2 i l z;erw[r,a1,keep (a6 a2) (s8 _ _ (t7 _ _ (a6 a2) a2))]
 .rw[aP,R5 U]
 .let t a b r r' y1 y2 y3:=bB.2 i B;erw[t,a,b,r,r',y1,keep (λz=>by rw[z,s8 _ _ p7]at y2;cases y2) y2,y3]
theorem mr.at{PS:e8}{ks:Kn}(t:mr PL PS H xs es ks)(m:ks.L=es.L)(o:CT K PL)(TS:CT K PS):fx K H xs es:=#[t.1,λi e z=>by
 let B:=(Lm.mp z).1;let k eK:∃ k,ks[i]?=Z k:=#[_,Ll ∅]
 let p j a b:=t.2 i e k z eK;erw[p,_,j,k.2,a,b,3];unfold cls;split
 .exact TS
 .exact o]
def WebF(S:e8->Prop)(PL PS l:e8)(H:Hp)(p:e8)(m:R)(es:En)(ts rs:mo)(ks:Kn):Prop:=∃ j fs k J,H p=Z (.ins l j fs)/\WebG S H fs m es ts rs/\¬ S k/\fs.Z ("ties" : ff)=Z (.ref k)/\H k=Z (.lst J)/\mr PL PS H J es ks
inductive Il(PL PS WC:e8)
 |mk (t pe pt pk:e8)(m:R)(es:En)(ts:mo)(ks:Kn) (_:vs=[.ref t])(_:eQ H t pe pt pk m es ts ks)(_:0<es.L)(_:∀(p:e8)(rs:mo)(H':Hp),mu H'->WebF (λa=>H a≠k7) PL PS WC H' p m es ts rs ks->Q (.ref p) H')
def jX:az ["built","ties","k","end"] ["built"] (aq qw):=by ac_nf
def Kc{PS WC fW:e8}{bm:fk}(F:Fun K "_law_web" "_law_web" qw f fd)(T:Txt mg)(aX:Mak P w K mg base 1 "Pull" ["self","one","two","strength"] (rO K) PL I eK)(a0:Mak P w K mg base 1 "Push" ["self","one","two","strength"] (rO K) PS I eK)(TL:CT K PL)(TS:CT K PS)(a3:Mak P w K mg base 5 "Web" ["self","many","ties","turns"] (sP K) WC fW bm)(cw:CW K WC):k9 7 f fd ["built"] (Il PL PS WC):=by
 refine F.ok jX (by walk_at "l") λab A aa s H vs Q eg N h=>?_
 let t pe pt pk m v ts ks rfl bp a4 kk:=h;obtain⟨ht,⟨⟨ys,an,hE⟩,⟨xs,ap,hR⟩,g⟩,⟨ws,aT,tk⟩,ac,kl⟩:=bp;let aI:ys.L=v.L:=hE.1;let mf:=wB g;let ba:xs.L=m:=by rw[hR.1,g.w.len]
 intro Xc Dc;erw[_,(ah (aA 1 jX.nd (dB aj))
   (ah (mj (aO U T.n_range (af (ay ax (by rfl) T.n_len aZ (af (aG (pv 0) ai) aj)) aj)) (bW 2 jX.nd) (ah (aA 3 jX.nd (a8 (aG (pv 0) ai) (pv 2)))
   (ao (bH (aC cR (aG (a8 (aG (pv 0) ai) (pv 2)) ai) ai (aE _)) (ao (aW (eG LH Md Mc a9 (pv 1) (af (yb a0.mkc a0.ok (N.mono ∅) U a0.mg a0.bn .nil mT (af (aG (pv 3) ai) (af (aG (pv 3) ai) (af (aG (a8 (aG (pv 0) ai) (pv 2)) ai) aj)))) aj)))) (ao (aW (eG LH Md Mc a9 (pv 1) (af (yb aX.mkc aX.ok (N.mono ∅) U aX.mg aX.bn .nil mT (af (aG (pv 3) ai) (af (aG (pv 3) ai) (af (aG (a8 (aG (pv 0) ai) (pv 2)) ai) aj)))) aj))))))))
   (ao (aD (yb a3.mkc a3.ok (N.mono ∅) U a3.mg a3.bn .nil mT (af (ay ax (by rfl) T.n_len aZ (af (aG (pv 0) ai) aj)) (af (pv 1) (af (dj [] ["row"] (aN (aG (pv 0) ai)) pg_c pt_c (λC ex s H=>(dD (sj (K:=K) U) (by rfl) T.n_list iQ (af (pv 0) aj)))) aj)))))))),3]
 erw[(by show 0<=QG;decide),λq hq=>?_]
 let s1:=ak hq (.lst []);erw[9,t,_,00,41,SqT.of (s1 _ _ ht),at30,pe,ys,U,.inl (SqL.of (s1 _ _ an)),329,bY (n:=(ys.L:G).U) (λi O r=>∃ v2 v3 us,O=[Z (.ref t),Z (.ref q),v2,v3]/\mu r/\r q=Z (.lst us)/\mr PL PS r us (v.j i) ks) #[5,[],U,s1,ag,U,λi e k z=>by contradiction] ?_ ?_]
 .rintro i O r B ⟨v2,v3,us,rfl,s2,al,tt⟩;rw[Lv,aI]at B;let e0:(0:G)+(i:G)=(i:G):=MP _;rw[e0];let e M:∃ e,v[i]?=Z e:=#[_,Ll B];let k hk:∃ k,ks[i]?=Z k:=#[_,Ll ∅]
  let _ _ ne:=g.w.ends e (Ln M);let p x1 x2:=(hE.mono s2).2 i e M;let k1 k2 bb y1 y2:=(tk.mono s2).2 i k hk;let ul:us.L=i:=by rw[tt.1,M9];lia
  erw[9,t,_,00,41,SqT.of (s2 _ _ ht),at30,9,pe,ys,165,SqL.of (s2 _ _ an),aB x1,3];erw[9,t,_,02,41,SqT.of (s2 _ _ ht),at32,9,pk,ws,165,SqL.of (s2 _ _ aT),aB y1,bb,_,00,41,SqT.of y2,at0,230];let ae:∀(x dx:e8)(H':Hp),Same r H'->H' x=Z (.ins (cls PL PS (decide (k.1=1))) dx (tf (e.1:G) (e.2:G) k.2))->∃ v2 v3 zs,([Z (.ref t),Z (.ref q),Z (.int (i:G)),Z (.ref p)]:St)=[Z (.ref t),Z (.ref q),v2,v3]/\mu (upd H' q (.lst (us++[.ref x])))/\(upd H' q (.lst (us++[.ref x]))) q=Z (.lst zs)/\mr PL PS (upd H' q (.lst (us++[.ref x]))) zs (v.j (i+1)) ks:=λx dx H' s4 Y=>by
   erw[149,aJ (s2.Q s4) hq _,ag,by rw[Lx,ul,M9];grind,λj e' k' hj a5=>?_]
   let be:∀{b:e8}{C dx:e8}{fs:E (ff×V)},H' b=Z (.ins C dx fs)->b≠q:=λz y=>by rw[y,s4 _ _ al]at z;cases z
   rw[List.getElem?_take]at hj;by_cases z:j<i
   .rw[R5 ∅]at hj
    let p' am a1 a2:=(tt.mono s4).2 j e' k' (by simp[*]) a5
    erw[p',am,by grind,by rw[ar (be a2)];exact a2]
   .by_cases z2:j=i
    .subst z2;rw[R5 ∅,M]at hj
     cases hj
     rw[hk]at a5
     cases a5
     erw[x,dx,by rw[← ul,Lr (Lq _),Mf];rfl,by rw[ar (be Y)];exact Y]
    .rw[R6 ∅]at hj
     cases hj
  refine ite2 (λc=>?_) (λc=>?_)
  .let c':k.1=1:=V.int.inj (RS c)
   erw[9,.inl #[6,SqL.of al],9,p,_,00,41,SqT.of x2,at0,9,p,_,01,41,SqT.of x2,at1,9,t,_,02,41,SqT.of (s2 _ _ ht),at32,9,pk,ws,165,SqL.of (s2 _ _ aT),aB y1,bb,_,01,41,SqT.of y2,at1,3];intro x dx nx a6 bg;erw[x,PS,dx,149,ag,TS,84,k2,λH' Y L=>?_]
   let s4:Same r H':=λb o z=>L b o (by rw[ar (aF z nx),ar (aF z a6)];exact z) (aF z nx)
   erw[U,q,us,41,s4 _ _ al,av ∅,ae x dx H' s4 ?_]
   rw[Rl c'];exact Y
  .let c':¬ k.1=1:=λz=>c (Rl (by rw[z]))
   erw[9,.inl #[6,SqL.of al],9,p,_,00,41,SqT.of x2,at0,9,p,_,01,41,SqT.of x2,at1,9,t,_,02,41,SqT.of (s2 _ _ ht),at32,9,pk,ws,165,SqL.of (s2 _ _ aT),aB y1,bb,_,01,41,SqT.of y2,at1,3];intro x dx nx a6 bg;erw[x,PL,dx,149,ag,TL,84,k2,λH' Y L=>?_]
   let s4:Same r H':=λb o z=>L b o (by rw[ar (aF z nx),ar (aF z a6)];exact z) (aF z nx)
   erw[U,q,us,41,s4 _ _ al,av ∅,ae x dx H' s4 ?_]
   rw[QF c'];exact Y
 rintro O r ⟨v2,v3,us,rfl,s2,al,tt⟩;rw[Lv,aI,LP]at tt;let a7:=s2 _ _ ap;erw[9,t,_,01,41,SqT.of (s2 _ _ ht),at31,pt,xs,U,.inl (SqL.of a7),153,t,_,01,41,SqT.of (s2 _ _ ht),at31,pt,U,#[_,SqL.of a7],bq (K:=K) (xs:=xs) (λi zs H3=>Same r H3/\bD H3 zs (ts.j i)) (LN (av ∅)) #[λ_ _ e=>e,U,λi l e=>by simp at e] (λi zs H3 _ z=>SqL.of (z.1 _ _ a7)) ?_ ?_]
 .rintro i x zs H3 J ⟨s3,rz⟩;let B:i<ts.L:=by rw[← hR.1];exact(Lm.mp J).1
  let l d:∃ l,ts[i]?=Z l:=#[_,Ll B];let p a1 a2:=(hR.mono (s2.Q s3)).2 i l d;rw[J]at a1
  cases a1
  erw[9,p,9,.inl (SqL.of a2),λg hg=>?_];let s4:=ak hg (.lst (l.h iV));erw[s3.Q s4,3];rw[show ts.j (i+1)=ts.j i++[l] by rw[LK,d];rfl]
  exact(rz.mono s4).snoc ag
 rintro zs H3 _ ⟨s3,rz⟩ D hD;rw[hR.1,LP]at rz;let s4:=ak hD (.lst zs);let aS:=s3.Q s4;intro x dx nx a6 bg;let up:∀ b o,(upd H3 D (.lst zs)) b=Z o->(upd (upd (upd H3 D (.lst zs)) dx (.own x)) x (.ins WC dx [])) b=Z o:=λb o z=>by rw[ar (aF z nx),ar (aF z a6)];exact z
 erw[x,WC,dx,q,D,m,us,zs,v,ts,(by rw[ba];rfl),ag,cw,up _ _ (aS _ _ al),((tt.at kl TL TS).mono aS).mono up,up _ _ ag,(rz.mono s4).mono up,g,a4,4,λfs q1 rs H' Y hg hn L h3 h4=>#[14]]
 let s5:Same r H':=λb o z=>h4 b o (up _ _ (aS _ _ z)) (aF (aS _ _ z) nx)
 let bi:∀ a,H a≠k7->(upd (upd (upd H3 D (.lst zs)) dx (.own x)) x (.ins WC dx [])) a≠k7:=λa z y=>z (by
  cases u:H a with
  |none=>rfl
  |some o=>rw[up _ _ (aS _ _ (s2 _ _ u))]at y;cases y)
 exact kk x rs H' (s2.Q s5) #[dx,fs,q1,us,Y,hg.mono (λ_ _ z=>z) bi,λz=>bi _ z hn,L,h3,tt.mono s5]
open KF (andN orN shlN xorN)
def nJ:QJ "sum"=Z (.builtin "sum"):=by rfl
theorem FZ{e:fm}{y t2:TE}(Y:PE X e y)(h2:PE X e t2):PE X e (λσ H Q=>y σ H Q∨t2 σ H Q):=λB s σ H Q I h=>h.elim (Y B s σ H Q I) (h2 B s σ H Q I)
def bit(l a:G):G:=l/2^a.U%2
def Cj(x y:G):Q4 (Q6 x y) 1=(x%2+y%2)%2:=by
 let e:Q4 (Q6 x y) 1=Q6 x y%2:=PySem.W.kbt_mask _ 1;rw[e,PyProof.Rows.bitXor_and];lia
def unp(d:i0)(a b l:G):i0:=!decide (V.int ((bit l a+bit l b)%2)=V.int (if d=kf then 1 else 0))
inductive mw(push:i0)
 |mk (p:_) (_:vs=[.ref p])(_:Q (.int (if push=kf then 1 else 0)) H)
def TieAt(H:Hp)(p C:e8)(a b s:G):Prop:=∃ j,H p=Z (.ins C j (tf a b s))
inductive vp(C:e8)(push:i0)
 |mk (p a b s l:_) (_:vs=[.ref p,.int l])(_:TieAt H p C a b s)(_:0<=a)(_:0<=b)(_:Q (.bl (unp push a b l)) H)
def ww(es:En)(ks:Kn)(l:G)(t:R):i0:=match es[t]?,ks[t]? with|some e,Z k=>unp (decide (k.1=1)) (e.1:G) (e.2:G) l|_,_=>kt
def U_at{ks:Kn}{l:G}{t:R}{k:G×G}(Y:es[t]?=Z e)(h2:ks[t]?=Z k):ww es ks l t=unp (decide (k.1=1)) (e.1:G) (e.2:G) l:=by unfold ww;rw[Y,h2]
def upL(u:R->i0)(i:R):E R:=(Mg i).filter u
def pC(u:R->i0)(i:R):upL u (i+1)=if u i=kf then upL u i++[i] else upL u i:=by
 unfold upL;rw[NM,Nw];by_cases h:u i=kf
 .simp[*]
 .simp[*]
def vU(ps:E R):R:=ps.foldl (λm p=>m|||2^p) 0
def rV(ps:E R)(p:R):vU (ps++[p])=vU ps|||2^p:=by unfold vU;simp
def MK(u:R->i0):R->R
 |0=>0
 |i+1=>if u i=kf then MK u i|||2^i else MK u i
theorem qI(u:R->i0):∀ i,vU (upL u i)=MK u i
 |0=>rfl
 |i+1=>by
  rw[pC];show _=if u i=kf then MK u i|||2^i else MK u i
  split
  .rw[rV,qI u i]
  .exact qI u i
theorem fV(u:R->i0)(k:R):∀ i,(MK u i).O k=(decide (k<i)&&u k)
 |0=>by show Ow 0 k=_;simp
 |i+1=>by
  show(if u i=kf then MK u i|||2^i else MK u i).O k=_
  let O:=fV u k i;by_cases h:u i=kf
  .rw[R5 h,MJ,O,LU];by_cases z:i=k
   .subst z;simp[h]
   .grind
  .rw[R6 h,O];by_cases a:k<i
   .simp[a,Nj a]
   .grind
def stg(ks:Kn)(t:R):G:=match ks[t]? with|some k=>k.2|none=>0
def prL(ks:Kn)(u:R->i0)(i:R):E G:=(Mg i).h λt=>if u t=kf then stg ks t else 0
def tR(ks:Kn)(u:R->i0)(i:R):prL ks u (i+1)=prL ks u i++[if u i=kf then stg ks i else 0]:=by
 unfold prL;rw[NM,LC];rfl
def oz(K:Lo):Sp:=λL H Q _=>∃(a:e8),∃(T:E R),(L=[.ref a]/\na a (T.h iV)/\(∀ p∈T,p<80)/\Q (.int ((vU T:R):G)) H)
structure WebAt(PL PS WC:e8)(H:Hp)(p:e8)(es:En)(ks:Kn):Prop where
 w:∃ dx fs q1 xs,H p=Z (.ins WC dx fs)/\fs.Z ("ties" : ff)=Z (.ref q1)/\H q1=Z (.lst xs)/\mr PL PS H xs es ks
 kl:ks.L=es.L
 few:es.L<=30
inductive Ig(PL PS WC:e8)
 |mk (p:e8)(es:En)(ks:Kn)(l:G) (_:vs=[.ref p,.int l])(_:WebAt PL PS WC H p es ks)(_:∀ H',mu H'->Q (.int ((MK (ww es ks l) es.L:R):G)) H')
def Ring.clos{f:R->R}{x:R}{r:E R}(h:Ring f N r)(J:x∈r):f x∈r:=by
 let i B e:=Mt J;exact Ln (h.nx i x (by simp[*]))
def Ring.sub{f:R->R}{d:R}{r:E R}(h:Ring f N r)(h':Ring f N r')(Y:d∈r)(h2:d∈r'):∀ x∈r,x∈r':=by
 let i B e:=Mt Y;let go:∀ j,r[(i+j)%r.L]?=Z (r[(i+j)%r.L]'(OJ _ h.ne))/\r[(i+j)%r.L]'(OJ _ h.ne)∈r':=λj=>by
  induction j with
  |zero =>
   erw[Ll _,3];let:(i+0)%r.L=i:=by rw[Nat.add_zero];exact Ni B
   simp!
  |succ j O =>
   erw[Ll _,3];let z:=h.nx _ _ O.1;let em:((i+j)%r.L+1)%r.L=(i+(j+1))%r.L:=by rw[Nat.mod_add_mod];rfl
   rw[em,Ll (OJ _ h.ne)]at z;rw[Me z];exact h'.clos O.2
 intro x J;let k eK a:=Mt J;let g:=(go (k+r.L-i)).2;let:(i+(k+r.L-i))%r.L=k:=by
  rw[show i+(k+r.L-i)=k+r.L by lia,Nat.add_mod_right]
  exact Ni eK
 simp!
def bw.at{f:R->R}{d:R}(w:bw f N N rs)(h:d<N):∃(a:R)(r:E R),rs[a]?=Z r/\d∈r:=by
 let r Y L:=Mo.mp (w.all d h);let a T e:=Mt Y;erw[a,r,by simp[*],L]
def bw.no_less{f:R->R}{h:mo}(w:bw f N N rs)(w':bw f N N h):∀(a:R)(b d:R)(r r':E R),rs[a]?=Z r->h[b]?=Z r'->d∈r->d∈r'->a<=b:=by
 intro a;induction a using Pc with
 |_ a O =>
  intro b d r r' i M Y L;let eK:=Ln i;let n:=Ln M;let ad:=w.ring r eK;let o:=w'.ring r' n;let q:0<r.L:=ad.ne;let B:0<r'.L:=o.ne;let l:r[0]?=Z r[0]:=Ll ad.ne;let v:r'[0]?=Z r'[0]:=Ll o.ne;let k:=(w.hdl r eK _ l).2 _ (o.sub ad L Y _ (MT o.ne));let eg:=(w'.hdl r' n _ v).2 _ (ad.sub o Y L _ (MT ad.ne))
  cases a with
  |zero=>exact Mh _
  |succ a =>
   let y:a<rs.L:=by let:=(Lm.mp i).1;lia
   let g:rs[a]?=Z rs[a]:=Ll y;generalize rs[a]=p at g;let s:=Ln g;let P:=w.ring p s;let m:0<p.L:=P.ne;let A:p[0]?=Z p[0]:=Ll P.ne;let lt:=w.asc a (a+1) p r _ _ (Nl _) g i A l;let c e T j:=w'.at (P.lt _ (MT P.ne));let H:=O a (Nl _) c p[0] p e g T (MT P.ne) j;let PC:=w'.ring e (Ln T);let C:0<e.L:=PC.ne;let x:e[0]?=Z e[0]:=Ll PC.ne;let t:=(w'.hdl e (Ln T) _ x).2 _ j;by_cases z:c<b
   .lia
   .exfalso;by_cases u:c=b
    .subst u;rw[M]at T
     cases T
     lia
    .let:=w'.asc b c r' e _ _ ∅ M T v x
     lia
theorem bw.same{f:R->R}{a b d:R}{h:mo}{r:E R}(w:bw f N N rs)(w':bw f N N h)(T:rs[a]?=Z r)(M:h[b]?=Z r')(Y:d∈r)(h2:d∈r'):a=b :=
 Nat.le_antisymm (w.no_less w' a b d r r' T M Y h2) (w'.no_less w b a d r' r M T h2 Y)
def sm(l:E R)(g:R->R):R:=(l.h g).sum
def CO(x:R)(l:E R)(g:R->R):sm (x::l) g=g x+sm l g:=by rfl
def WebT(PL PS l:e8)(H:Hp)(p:e8)(m:R)(es:En)(ts:mo)(ks:Kn):Prop:=∃ j fs k J t n,H p=Z (.ins l j fs)/\fs.Z ("many" : ff)=Z (.int (m:G))/\fs.Z ("ties" : ff)=Z (.ref k)/\H k=Z (.lst J)/\mr PL PS H J es ks/\fs.Z ("turns" : ff)=Z (.ref t)/\H t=Z (.lst n)/\bD H n ts
def WebF.t{S:e8->Prop}{PS:e8}{ks:Kn}(h:WebF S PL PS f H p m es ts rs ks):WebT PL PS f H p m es ts ks:=by
 let j fs k J a b _ c d e:=h;let N n b1 _ b2 b3:=b.turns;erw[j,fs,k,J,N,n,a,b.many,c,d,e,b1,b2,b3.off]
inductive CD
 |mk (c:G)(m:R) (_:vs=[.int c,.int (m:G)])(_:m<=40)(_:∀ N:R,N<2^m->Q (.int (N:G)) H)
def xN:az ["self"] ["self"] (aq fG):=by ac_nf
def F9(F:Fun K "wish" "Tie.wish" fG f fd):k9 1 f fd ["self"] (mw kt):=by
 refine F.ok xN (by walk_at "l") λB A u s H L Q eg N h=>?_
 let p rfl k:=h;erw[_,(ao (aD ai)),k]
def vE:az ["self"] ["self"] (aq dU):=by ac_nf
def F8(F:Fun K "wish" "Push.wish" dU f fd):k9 1 f fd ["self"] (mw kf):=by
 refine F.ok vE (by walk_at "l") λB A u s H L Q eg N h=>?_
 let p rfl k:=h;erw[_,(ao (aD ai)),k]
def vB:az ["found"] ["found"] (aq kX):=by ac_nf
def Gb(F:Fun K "_law_whole" "_law_whole" kX f fd)(T:Txt mg):k9 1 f fd ["found"] spNum:=by
 refine F.ok vB (by walk_at "l") λB A u s H L Q eg N h=>?_
 let i rfl k:=h;intro I o;erw[_,(ao (aD (oG (ay nH (by rfl) T.n_isinstance bQ (af (pv 0) (af (n9 (v:=.ty "int") U T.n_int IV U) aj))) (rT (pe_not (ay nH (by rfl) T.n_isinstance bQ (af (pv 0) (af (n9 (v:=.ty "bool") U T.n_bool Ld U) aj)))))))),3]
 erw[38233,TyOf.int i,Or.inl #[41],kit_ii K,9,iteT ?_];erw[38233,TyOf.int i,Or.inl #[41],kit_ib K,9,k]
def qu:az ["cell","many","mixed"] ["cell","many"] (aq nW):=by ac_nf
def Gn(F:Fun K "_law_mask" "_law_mask" nW f fd):k9 1 f fd ["cell","many"] CD:=by
 refine F.ok qu (by walk_at "l") λB A u s H L Q eg N h=>?_
 let c m rfl a y:=h;let g:(0:G)<1*2^((m:R):G).U:=by
  rw[shlN];let:=Ng m;lia
 intro I o;erw[_,(ah (aA 2 qu.nd (aw cz (aw bG (pv 0) (aw IA ai ai)) ai))
   (ao (aD (aw bG (aw c9 (pv 2) (aw de (pv 2) ai)) (aw b9 ai (pv 1)))))),3]
 erw[2649,#[by decide,4,by decide],165,(by show(0:G)<10^(24:G).U;decide),165,.inr #[by decide,by decide],3]
 erw[42393,(by show(0:G)<=17;decide),678309,#[20,by decide],165,g,3]
 let l:=NN (Q6 (c%10^(24:G).U*2654435761) (c%10^(24:G).U*2654435761/2^(17:G).U)) (Int.ne_of_gt g);let q:=y (Q6 (c%10^(24:G).U*2654435761) (c%10^(24:G).U*2654435761/2^(17:G).U)%(1*2^((m:R):G).U)).U;rw[ND l]at q;refine q ?_;let Y:=Nx (Q6 (c%10^(24:G).U*2654435761) (c%10^(24:G).U*2654435761/2^(17:G).U)) g;simp!
def bt(M t:R):R:=M/2^t%2
def Fg(M t:R):bt M t=if M.O t=kf then 1 else 0:=by
 unfold bt;rw[Ot];by_cases z:M/2^t%2=1
 .simp!
 .simp!
def IW(M t:R):Q4 ((M:G)/2^((t:R):G).U) 1=((bt M t:R):G):=by
 let e:Q4 ((M:G)/2^((t:R):G).U) 1=((M:G)/2^((t:R):G).U)%2:=PySem.W.kbt_mask _ 1;assumption
def parR(M:R)(r:E R):R:=sm r (λd=>bt M (d/2))%2
def FD(l:E R)(g:R->R):(l.h λd=>((g d:R):G)).sum=((sm l g:R):G):=by
 induction l with
 |nil=>rfl
 |cons x l O=>rw[LX,Ol,O,CO];lia
def aV(ks:Kn)(t:R):i0:=match ks[t]? with|some k=>decide (k.1=1)|none=>kt
def qA{ks:Kn}{t:R}{k:G×G}(h:ks[t]?=Z k):aV ks t=decide (k.1=1):=by unfold aV;rw[h]
def oddU(M:R)(rs:mo)(k:R):i0:=decide (parR M (rs.f k [])=1)
def G8{k:R}{r:E R}(h:rs[k]?=Z r):rs.f k []=r:=by simp[*]
def WebR(PL PS l:e8)(H:Hp)(p:e8)(es:En)(ks:Kn)(rs:mo):Prop:=∃ j fs k J n i,H p=Z (.ins l j fs)/\fs.Z ("ties" : ff)=Z (.ref k)/\H k=Z (.lst J)/\mr PL PS H J es ks/\fs.Z ("rounds" : ff)=Z (.ref n)/\H n=Z (.lst i)/\bD H i rs
def WebR.mono{PL PS l:e8}{H H':Hp}{p:e8}{es:En}{ks:Kn}{rs:mo}(h:WebR PL PS l H p es ks rs)(s:mu H'):WebR PL PS l H' p es ks rs:=by
 let j fs k J n i a b c d e f g:=h;erw[j,fs,k,J,n,i,s _ _ a,b,s _ _ c,d.mono s,e,s _ _ f,g.mono s]
inductive CA(PL PS WC:e8)
 |mk (p:e8)(es:En)(ks:Kn)(rs:mo) (_:vs=[.ref p])(_:WebR PL PS WC H p es ks rs)(_:ks.L=es.L)(_:es.L<=30)(_:∀ H',mu H'->Q (.int ((MK (aV ks) es.L:R):G)) H')
inductive sQ(PL PS WC:e8)
 |mk (p:e8)(M k:R)(es:En)(ks:Kn)(rs:mo)(r:E R) (_:vs=[.ref p,.int (M:G),.int (k:G)])(_:WebR PL PS WC H p es ks rs)(_:rs[k]?=Z r)(_:r.L<=900)(_:∀ H',mu H'->Q (.int ((parR M r:R):G)) H')
inductive CC(PL PS WC:e8)
 |mk (p:e8)(es:En)(ks:Kn)(rs:mo) (_:vs=[.ref p])(_:WebR PL PS WC H p es ks rs)(_:ks.L=es.L)(_:es.L<=30)(_:rs.L<=70)(_:(∀ r∈rs,r.L<=900))(_:∀ H',mu H'->Q (.int ((MK (oddU (MK (aV ks) es.L) rs) rs.L:R):G)) H')
def WebF.r{S:e8->Prop}{PS:e8}{ks:Kn}(h:WebF S PL PS f H p m es ts rs ks):WebR PL PS f H p es ks rs:=by
 let j fs k J a g _ b c d:=h;let n i e s l:=g.rounds;erw[j,fs,k,J,n,i,a,b,c,d,e,s,l]
def CU:az ["web"] ["web"] (aq tG):=by ac_nf
def Ka{PS:e8}{d0 d1:fk}(F:Fun K "pushes" "pushes" tG f fd)(T:Txt mg)(cw:CW K q)(TL:CT K PL)(TS:CT K PS)(ab:lc 1 "mask_of" ["places"] (oz K) a eK)(u0:Met P w K mg base 1 PL "wish" ["self"] (mw kt) I d0)(u1:Met P w K mg base 1 PS "wish" ["self"] (mw kf) f1 d1):
  k9 2 f fd ["web"] (CA PL PS q):=by
 refine F.ok CU (by walk_at "l") λt A u s H j Q eg N h=>?_
 let p v ks rs rfl{dx fs m xs q5 z5 g ap al tk _}kl aa r:=h;let aI:=TL.cl;let aS:=TS.cl;let am:xs.L=v.L:=tk.1;intro Xc Dc;erw[_,(ao (aD (ab.c N (af (dj [] ["number","tie"] (g9 U T.n_enumerate (af (bX (pv 0) U) aj)) (λC ex s H=>(eZ (n:=2) (K:=K) U U (aH (bc (i:=0) (show(["number","tie"]:E ff).l from by decide) U (Or.inl U)) (aH (bc (i:=1) (show(["number","tie"]:E ff).l from by decide) U (Or.inl U)) b7)))) (λC ex s H=>(jn (aC cR (FZ (mQ (pv 1) aI u0.me u0.ok (N.mono ∅) u0.bn .nil mT) (mQ (pv 1) aS u1.me u1.ok (N.mono ∅) u1.bn .nil mT)) ai (aE _)))) (λC ex s H=>(pv 0))) aj)))),3]
 erw[9,p,q,dx,fs,9,g,cw.cl,cw.n2,ap,m,U,#[_,SqL.of al],gO (K:=K) (xs:=xs) (λi O Y=>mu Y/\O=(upL (aV ks) i).h iV) (LN (av ∅)) #[λ_ _ e=>e,U] (λi O Y _ z=>SqL.of (z.1 _ _ al)) ?_ ?_ ?_]
 .rintro i x O Y T2 J ⟨d,rfl⟩ ac;let B:i<v.L:=by rw[← tk.1];exact(Lm.mp J).1
  let e L:∃ e,v[i]?=Z e:=#[_,Ll B];let k o:∃ k,ks[i]?=Z k:=#[_,Ll ∅]
  let l:=d.Q (ak ac (.tup [.int (i:G),x]));let p' ae x1 x2:=(tk.mono l).2 i e k L o;rw[J]at x1
  cases x1
  erw[T2,9,SqT.of ag,959894];let hU:=qA o;let an:∀ b:i0,b=aV ks i->(if b=kf then tVar 0 ([Z (.int (i:G)),Z (.ref p')]:St) (upd Y T2 (.tup [.int (i:G),.ref p'])) (λy H4=>mu H4/\(upL (aV ks) i).h iV++[y]=(upL (aV ks) (i+1)).h iV) else mu (upd Y T2 (.tup [.int (i:G),.ref p']))/\(upL (aV ks) i).h iV=(upL (aV ks) (i+1)).h iV):=λb M=>by
   rw[pC,← M]
   cases b with
   |true =>
    refine iteT #[9,l,3];rw[R5 U,LC];rfl
   |false =>
    refine iteF #[l,3];rfl
  by_cases c:k.1=1
  .rw[Rl c]at x2 hU;refine .inr #[9,p',ae,9,x2,sN _ _ _ ∅ ∅ ∅,p',922]
   exact an _ hU.Y
  .rw[QF c]at x2 hU;refine .inl #[9,p',ae,9,x2,sN _ _ _ ∅ ∅ ∅,p',922]
   exact an _ hU.Y
 .rintro O Y ⟨d,rfl⟩ D hD;rw[am];erw[D,upL (aV ks) v.L,U,SqL.of ag,λp g=>?_,3]
  .let:=Mz.mp (Nv.mp g).1;lia
  .rw[qI];exact r _ (d.Q (ak hD _))
 .rintro i O Y ⟨_,rfl⟩;rw[Lp];exact MB (NZ _ _) (by simp)
def CV:az ["web","ties","number"] ["web","ties","number"] (aq tH):=by ac_nf
def Gk{PS:e8}(F:Fun K "odd_at" "odd_at" tH f fd)(T:Txt mg)(cw:CW K a):k9 1 f fd ["web","ties","number"] (sQ PL PS a):=by
 refine F.ok CV (by walk_at "l") λb A u s H L Q eg N h=>?_
 let p M k v c I r rfl{j fs m xs q5 z5 g _ _ _ l5 ab hR}eK B y:=h;let pr n q:=hR.2 k r eK;intro Xc Dc;erw[_,(ao (aD (aw bG (ay (gu U) (by rfl) T.n_sum nJ (af (dj [("ties",1)] ["dart"] (aN (a8 (bX (pv 0) U) (pv 2))) pg_c pt_c (λC l s H=>(aw fN (aw de (pv 1) (aw fe (pv 0) ai)) ai))) aj)) ai))),3]
 erw[9,p,a,j,fs,9,g,cw.cl,cw.n4,l5,9,q5,z5,165,SqL.of ab,aB n,pr,U,#[_,SqL.of q],bq (K:=K) (xs:=r.h iV) (λi O Y=>mu Y/\O=((r.j i).h λd=>((bt M (d/2):R):G)).h V.int) (LN (av (by grind))) #[λ_ _ e=>e,U] (λi O Y _ z=>SqL.of (z.1 _ _ q)) ?_ ?_]
 .rintro i x O Y J ⟨o,rfl⟩;rw[LA]at J;let d aa rfl:=LL.mp J;let ed:(d:G)/2=((d/2:R):G):=by lia
  erw[42393,#[by decide,by decide],165,(show(0:G)<=(d:G)/2 by lia),165,o,3]
  rw[LK,aa,LC,LC];show _++[V.int (Q4 ((M:G)/2^((d:G)/2).U) 1)]=_++[V.int ((bt M (d/2):R):G)];rw[ed,IW]
 rintro O Y _ ⟨o,rfl⟩ D t;rw[Lp,LP];erw[D,9,SqL.of ag,165,(by show(0:G)<2;decide),3]
 let e:(r.h λd=>((bt M (d/2):R):G)).sum%2=((parR M r:R):G):=by
  rw[FD r λd=>bt M (d/2)];unfold parR;lia
 show Q (V.int ((r.h λd=>((bt M (d/2):R):G)).sum%2)) _;rw[e];exact y _ (o.Q (ak t _))
def mD:az ["web","pushing"] ["web"] (aq i9):=by ac_nf
def Kb{fp PS:e8}{aS aT:fk}(F:Fun K "odd_rounds" "odd_rounds" i9 f fd)(T:Txt mg)(cw:CW K I)(ac:lc 1 "mask_of" ["places"] (oz K) a eK)(an:lc 2 "pushes" ["web"] (CA PL PS I) fp aS)(al:lc 1 "odd_at" ["web","ties","number"] (sQ PL PS I) q aT):
  k9 3 f fd ["web"] (CC PL PS I):=by
 refine F.ok mD (by walk_at "l") λb A u s H L Q eg N h=>?_
 let p v ks rs rfl wb kl aa aX ap y:=h
 intro Xc Dc;erw[_,(ah (aA 1 mD.nd (an.c N (af (pv 0) aj)))
   (ao (aD (ac.c N (af (dj [("web",0),("pushing",1)] ["number"] (aO U T.n_range (af (ay ax (by rfl) T.n_len aZ (af (bX (pv 0) U) aj)) aj)) pg_c (λC ex s H=>(jn (aC cR (al.c N (af (pv 1) (af (pv 2) (af (pv 0) aj)))) ai (aE _)))) (λC ex s H=>(pv 0))) aj))))),3]
 erw[9,p,v,ks,rs,U,wb,kl,aa,λl j=>?_];let aI:=wb.mono j;let d fs k J q5 z5 g _ _ _ l5 ae hR:=id aI;let am:z5.L=rs.L:=hR.1;generalize hM:MK (aV ks) v.L=M;rw[hM]at y;erw[9,p,I,d,fs,9,g,cw.cl,cw.n4,l5,q5,z5,U,.inl (SqL.of ae),329,l8 (λi O Y=>Same l Y/\O=(upL (oddU M rs) i).h iV) (LN (av ∅)) #[λ_ _ e=>e,U] ?_ ?_ ?_]
 .rintro i O Y B ⟨o,rfl⟩;let e0:(0:G)+(i:G)=(i:G):=MP _;rw[e0];let r ab:∃ r,rs[i]?=Z r:=#[_,Ll ∅]
  erw[9830,p,M,i,v,ks,rs,r,U,aI.mono o,ab,ap r (Ln ab),λn m=>#[230]];let x:oddU M rs i=decide (parR M r=1):=by unfold oddU;rw[G8 ab]
  rw[pC,x];refine ite2 (λc=>?_) (λc=>?_)
  .let t:parR M r=1:=by lia
   erw[9,o.Q m,3];rw[R5 (Rl t),LC];rfl
  .let t:¬ parR M r=1:=λz=>c (Rl (congrArg V.int ∅))
   erw[o.Q m,3];rw[R6 (by simpa using t)]
 .rintro O Y ⟨o,rfl⟩ D hD;rw[Lv,am];erw[D,upL (oddU M rs) rs.L,U,SqL.of ag,λp g=>?_,3]
  .let:=Mz.mp (Nv.mp g).1;lia
  .rw[qI];exact y _ (j.Q (o.Q (ak hD _)))
 .rintro i O Y ⟨_,rfl⟩;rw[Lp];exact MB (NZ _ _) (by simp)
structure TxtZ(mg:ff->io eN):Prop extends Txt mg where
 n_zip:mg "zip"=k7
def WebS(PL PS l:e8)(H:Hp)(p:e8)(es:En)(ks:Kn)(rs:mo):Prop:=∃ j fs k J n i,H p=Z (.ins l j fs)/\fs.Z ("ties" : ff)=Z (.ref k)/\H k=Z (.lst J)/\mr PL PS H J es ks/\fs.Z ("sides" : ff)=Z (.ref n)/\H n=Z (.lst i)/\iS H i es.L rs
def Cd(H:Hp)(zs:E V)(n:R)(ks:Kn)(rs:mo):Prop:=zs.L=n/\∀ i,i<n->∃ k t a b r eK,ks[i]?=Z k/\(zs[i]?=Z (.ref t)/\(H t=Z (.tup [iV a,iV b,.int k.2])/\(rs[a]?=Z r/\(2*i∈r/\(rs[b]?=Z eK/\2*i+1∈eK)))))
theorem Cd.mono{ks:Kn}(h:Cd H zs n ks rs)(s:mu H'):Cd H' zs n ks rs:=#[h.1,λi B=>by
 let k t a b r eK f I D w:=h.2 i B
 erw[k,t,a,b,r,eK,f,I,s _ _ D,w]]
inductive xD(PL PS WC:e8)
 |mk (p:e8)(es:En)(ks:Kn)(rs:mo) (_:vs=[.ref p])(_:WebS PL PS WC H p es ks rs)(_:ks.L=es.L)(_:es.L<=62)(_:∀ q zs H',mu H'->H q=k7->H' q=Z (.lst zs)->Cd H' zs es.L ks rs->Q (.ref q) H')
def xI:az ["web"] ["web"] (aq nU):=by ac_nf
def Gu{PS:e8}(F:Fun K "links_of" "links_of" nU f fd)(T:TxtZ mg)(cw:CW K q)(TL:CT K PL)(TS:CT K PS):k9 1 f fd ["web"] (xD PL PS q):=by
 refine F.ok xI (by walk_at "l") λI A u s H L Q eg N h=>?_
 let p v ks rs rfl{dx fs m xs q5 z5 g l1 ae tk l5 al hs}kl aa y:=h;let an:xs.L=v.L:=tk.1;let ap:z5.L=v.L:=hs.1;let ct:∀ b,CT K (cls PL PS b):=λb=>by
  unfold cls;split
  .exact TS
  .exact TL
 intro Xc Dc;erw[_,(ao (aD (dj [] ["sides","tie"] (Df U T.n_zip (af (bX (pv 0) U) (af (bX (pv 0) U) aj))) (λC ex s H=>(eZ (n:=2) (K:=K) U U (aH (bc (i:=0) (show(["sides","tie"]:E ff).l from by decide) U (Or.inl U)) (aH (bc (i:=1) (show(["sides","tie"]:E ff).l from by decide) U (Or.inl U)) b7)))) pt_c (λC ex s H=>(cj (af (iZ K (pv 0) ai) (af (iZ K (pv 0) ai) (af (yc (K:=K) U (pv 1) U) aj)))))))),3]
 erw[9,p,q,dx,fs,9,g,cw.cl,cw.n5,l5,9,p,q,dx,fs,9,g,cw.cl,cw.n2,l1,q5,m,U,#[_,SqL.of al],#[_,SqL.of ae],wW (K:=K) (xs:=z5) (zs:=xs) (λi O Y=>mu Y/\Cd Y O i ks rs) (LN (av ∅)) ∅ #[λ_ _ e=>e,U,λi B=>by lia] (λi O Y _ z=>#[SqL.of (z.1 _ _ al),SqL.of (z.1 _ _ ae)]) ?_ ?_ ?_]
 .rintro i x z O Y T2 J hz ⟨d,hY⟩ ab;let B:i<v.L:=by rw[← ap];exact(Lm.mp J).1
  let e eK:∃ e,v[i]?=Z e:=#[_,Ll B];let k l:∃ k,ks[i]?=Z k:=#[_,Ll ∅]
  let t a b r r' y1 y2 y3 y4 y5 y6:=hs.2 i B;rw[J]at y1
  cases y1
  let p' ac x1 x2:=tk.2 i e k eK l;rw[hz]at x1
  cases x1
  let M:=d.Q (ak ab (.tup [.ref t,.ref p']));erw[T2,9,SqT.of ag,173462,yesT ?_];erw[9,t,_,00,41,SqT.of (M _ _ y2),at0,9,t,_,01,41,SqT.of (M _ _ y2),at1,9,p',_,ac,37,M _ _ x2,(ct _).cl,(ct _).n3,tf_str _ _ _,(by show 3<=QG;decide),λt4 aI=>?_]
  let s4:=ak aI (.tup [iV a,iV b,.int k.2]);let am:=(ak ab (.tup [.ref t,.ref p'])).Q s4;let aS:=hY.mono am;erw[d.Q am,by rw[Lx,hY.1];rfl,λj hj=>?_]
  by_cases c:j<i
  .let k' t' a' b' w1 w2 v0 v1 v2:=aS.2 j c;erw[k',t',a',b',w1,w2,v0,by rw[Ls (by rw[hY.1];exact c)];exact v1,v2]
  .let:j=i:=by lia
   subst this;erw[k,t4,a,b,r,r',l,by rw[← hY.1,Lr (Lq _),Mf];rfl,ag,y3,y4,y5,y6]
 .rintro O Y ⟨d,hY⟩ D hD;rw[ap]at hY;let aT:H D=k7:=by
   cases z:H D with
   |none=>rfl
   |some o=>rw[d _ _ z]at hD;cases hD
  exact y D O _ (d.Q (ak hD _)) aT ag (hY.mono (ak hD _))
 .rintro i O Y ⟨_,hY⟩;rw[hY.1];exact Lq _
open KF (t5)
theorem ic(S T:R->i0):∀ l:E R,par (λt=>S t ^^ T t) l=(par S l ^^ par T l)
 |[]=>rfl
 |d::l=>by
  rw[aK,aK,aK,ic S T l]
  cases S (d/2)<;>cases T (d/2)<;>cases par S l<;>cases par T l<;>rfl
theorem par_congr{S T:R->i0}:∀{l:E R},(∀ d∈l,S (d/2)=T (d/2))->par S l=par T l
 |[],_=>rfl
 |d::l,h=>by rw[aK,aK,h d (Ly ..),par_congr λx J=>h x (Lu _ J)]
theorem AG:∀ l:E R,par (λ_=>kt) l=kt
 |[]=>rfl
 |d::l=>by rw[aK,AG l];rfl
theorem lG(i:R):∀{l:E R},l.l->par (λt=>decide (t=i)) l=(decide (2*i∈l) ^^ decide (2*i+1∈l))
 |[],_=>rfl
 |d::l,u=>by
  let O D:=LF.mp u;rw[aK,lG i D];by_cases c0:d=2*i
  .simp!
  .grind
structure Dl(N:R)(rs:mo)(ls:E KF.Lk):Prop where
 nd:rs.flatten.l
 all:∀ d,d<2*N->d∈rs.flatten
 lt:∀ r∈rs,∀ d∈r,d<2*N
 rn:∀ r∈rs,r.l
 ln:ls.L=N
 sd:∀(i:R)(l:KF.Lk),ls[i]?=Z l->(∃ r,rs[l.1]?=Z r/\2*i∈r)/\∃ r,rs[l.2.1]?=Z r/\2*i+1∈r
theorem Dl.odd{N:R}{rs:mo}{ls:E KF.Lk}(D:Dl N rs ls)(u:R){a:R}{ad:E R}(eg:rs[a]?=Z ad):∀ i,i<=N->(KF.oddE ls u i).O a=par (λt=>u.O t&&decide (t<i)) ad
 |0,_=>by
  show(0:R).O a=_;rw[Nh];exact((par_congr λd _=>by simp!).Q (AG ad)).Y
 |i+1,h=>by
  let O:=D.odd u eg i ∅
  let l B:∃ l,ls[i]?=Z l:=#[_,Ll (by rw[D.ln];lia)]
  let{r A p}{eK j o}:=D.sd i l B;let b:=D.rn ad (Ln eg);let Q:decide (2*i∈ad)=decide (l.1=a):=decide_eq_decide.mpr #[λz=>lZ D.nd A eg p z,λz=>by simp!]
  let b1:decide (2*i+1∈ad)=decide (l.2.1=a):=decide_eq_decide.mpr #[λz=>lZ D.nd j eg o z,λz=>by simp!]
  unfold KF.oddE;by_cases c:u.O i=kf
  .rw[R5 c,My,O,KF.lkA_is B];unfold KF.endX;rw[My,LU,LU,← Q,← b1,← lG i b,← ic];refine par_congr λd _=>?_;by_cases z:d/2=i
   .simp!
   .rw[QF z,MA];congr 1;exact decide_eq_decide.mpr ∅
  .rw[R6 c,O];refine par_congr λd _=>?_;by_cases z:d/2=i
   .simp!
   .congr 1;exact decide_eq_decide.mpr ∅
def Dl.oddN(D:Dl N rs ls)(u:R){a:R}{ad:E R}(eg:rs[a]?=Z ad):(KF.oddE ls u N).O a=par (λt=>u.O t) ad:=by
 rw[D.odd u eg N (Lq _)];refine par_congr λd hd=>?_;let:=D.lt ad (Ln eg) d hd;grind
theorem Dl.rooms(D:Dl N rs ls):∀ l∈ls,l.1<rs.L/\l.2.1<rs.L:=λl d=>by
 let i B:=Mx d;let{_ A _}{_ j _}:=D.sd i l B;erw[(Lm.mp A).1,(Lm.mp j).1]
theorem AH{n:R}{ls:E KF.Lk}(hl:∀ l∈ls,l.1<n/\l.2.1<n)(u:R):∀ i,i<=ls.L->KF.oddE ls u i<2^n
 |0,_=>Ng n
 |i+1,h=>by
  unfold KF.oddE;let O:=AH hl u i ∅
  split
  .let l e:∃ l,ls[i]?=Z l:=#[_,Ll ∅]
   let j C:=hl l (Ln e);rw[KF.lkA_is e];exact MX O (MX (Mv ∅ j) (Mv ∅ C))
  .exact O
theorem zZ{x y:R}(J:x<2^n)(Q:y<2^n)(h:∀ a,a<n->x.O a=y.O a):x=y:=Ml λa=>by
 by_cases c:a<n
 .exact h a c
 .rw[Ou (Mb J (Mw ∅ ∅)),Ou (Mb Q (Mw ∅ ∅))]
def HB{S:R->i0}(w:bS m es ts)(h:Af es S Pl){r:E R}(c:CR (fol es ts) (2*es.L) r):par S r=kt:=by
 let x l rfl a:=c.ch;let J:=c.lt x (Ly ..);let:=uR w h a J (λt n=>c.lt t (Lu _ n)) J;rw[t8]at this;rw[aK];let eg:par S [x]=S (x/2):=by rw[aK];exact MA _
 simp!
def HR(rs:mo)(S M:R):Prop:=∀(k:R)(r:E R),rs[k]?=Z r->parR S r=parR M r
theorem rU(S:R):∀ r:E R,par (λt=>S.O t) r=decide (parR S r=1)
 |[]=>rfl
 |d::r=>by
  let O:=rU S r;rw[aK,O];unfold parR;rw[CO,Fg]
  cases S.O (d/2) with
  |true =>
   rw[R5 U,i0.true_xor];grind
  |false =>
   simp!
def FN{ks:Kn}{S:R}(g:Gr m es ts)(b:bw (fol es ts) (2*es.L) (2*es.L) rs)(i:HR rs S (MK (aV ks) es.L)):∃ Pl:R->i0,Pl 0=kt/\Af es (λt=>S.O t ^^ aV ks t) Pl:=by
 let Pl h:=g.cut (λt=>S.O t ^^ aV ks t) λr N=>by
  let d hd:=N.ne;let q f L:=Mo.mp (b.all d (N.lt d hd));let a:=(b.ring q f).cr;let M:r.Perm q:=(MF N.nd a.nd).mpr λt=>#[N.same a hd L t,a.same N L hd t];rw[t6 _ M,ic];let C:par (aV ks) q=par (λt=>(MK (aV ks) es.L).O t) q:=par_congr λx J=>by
   let:=a.lt x J;rw[fV,Rl ∅,Mq]
  let k o:=Mx f;rw[C,rU,rU,i k q o];exact OI _
 erw[λp=>Pl p ^^ Pl 0,OI _,λt e eK=>?_];rw[h t e eK];show _=((Pl e.1 ^^ Pl 0) ^^ (Pl e.2 ^^ Pl 0))
 cases Pl e.1<;>cases Pl e.2<;>cases Pl 0<;>rfl
def tO(nd:l.l){eK:R->i0}(h:∀ s∈l,eK (nxt l s)=eK s):∀{s s':R},s∈l->s'∈l->eK s=eK s':=by
 let u:∀ j,(J:j<l.L)->eK l[j]=eK (l[0]'∅):=λj=>by
  induction j with
  |zero=>intro _;rfl
  |succ j O =>
   intro J;let D:l[j]'∅∈l:=MT _
   let e:=ig D;rw[nd.idxOf_getElem j ∅,Ni J,Ll J]at e
   simp!
 intro s s' Y L;let j J rfl:=Mt Y;let i B rfl:=Mt L;rw[u j J,u i B]
def Dl.whole(D:Dl N rs ls)(g:Gr m es ts)(hN:es.L=N)(cr:∀ r∈rs,CR (fol es ts) (2*es.L) r)(F:R->i0)(hF:∀ (i:R) (l:KF.Lk),ls[i]?=Z l->F l.1=F l.2.1){a b:R}(T:a<rs.L)(M:b<rs.L):F a=F b:=by
 let w:=g.w;let eK hG:∃ eK:R->i0,∀ s l,ls[s]?=Z l->eK s=F l.1:=#[λs=>match ls[s]? with|some l=>F l.1|none=>kt,λs l h=>by simp!]
 let c:∀{a:R}{r:E R}{d:R},rs[a]?=Z r->d∈r->F a=eK (d/2):=λ{a r d} Y L=>by
  let hd:=D.lt r (Ln Y) d L;let l B:∃ l,ls[d/2]?=Z l:=#[_,Ll (by rw[D.ln];lia)]
  let{A J q}{y y1 eg}:=D.sd _ l B;rw[hG _ l B];by_cases z:d%2=0
  .rw[show 2*(d/2)=d by lia]at q
   rw[lZ D.nd Y J L q]
  .rw[show 2*(d/2)+1=d by lia]at eg
   rw[lZ D.nd Y y1 L eg,hF _ l B]
 let fl:∀ d,d<2*N->eK (fol es ts d/2)=eK (d/2):=λd hd=>by
  let r I al:=Mo.mp (D.all d hd);let a T:=Mx I;rw[← c T al,← c T ((cr r I).closed d al)]
 let ab:∀{p:R}{l:E R},ts[p]?=Z l->∀ s∈l,eK (nxt l s)=eK s:=λ{p l} B s o=>by
  let e f j:=(w.mem p l B s).mp o;let sl:=(Lm.mp f).1;let d d1 d2 d3:∃ d,d/2=s/\hd es d=p/\d<2*es.L:=by
   obtain z|z:=j
   .erw[2*s+1,80]
    unfold hd;rw[show(2*s+1)/2=s by lia,f]
    simp!
   .erw[2*s,80]
    unfold hd;simp[*]
  let l' _ Q _ _ _ _ _ _ O _:=w.foll d3;grind
 let r0 ae:∃ r,rs[a]?=Z r:=#[_,Ll T];let A aa:∃ r,rs[b]?=Z r:=#[_,Ll M];let d0 am:=(cr r0 (Ln ae)).ne;let d1 ac:=(cr A (Ln aa)).ne;rw[c ae am,c aa ac];let l0:=D.lt _ (Ln ae) _ am;let l1:=D.lt _ (Ln aa) _ ac;let e0 k0 _ _ _ p0 q0 m0:=w.at (d:=d0) ∅
 let C k1 _ _ _ p1 k m1:=w.at (d:=d1) ∅
 let:=g.conn (λp=>∃ l s,ts[p]?=Z l/\s∈l/\eK s=eK (d0/2)) (λe f=>by
  let t n:=Mx f;let b1 b2 _:=w.ends e f;let u x:∃ l,ts[e.1]?=Z l:=#[_,Ll (by rw[w.len];exact b1)]
  let v H:∃ l,ts[e.2]?=Z l:=#[_,Ll (by rw[w.len];exact b2)]
  let tu:=(w.mem _ u x t).mpr #[e,n,.inl U];let tv:=(w.mem _ v H t).mpr #[e,n,.inr U];constructor
  .rintro⟨l,s,J,q,x3⟩;rw[x]at J
   cases J
   erw[v,t,H,tv,(tO (w.nd _ _ x) (ab x) tu q).Q x3]
  .rintro⟨l,s,J,q,x3⟩;rw[H]at J
   cases J
   erw[u,t,x,tu,(tO (w.nd _ _ H) (ab H) tv q).Q x3]) (hd es d0) (hd es d1) p0 p1 #[k0,_,q0,m0,U]
 let l s J q x3:=this;rw[k]at J
 cases J
 rw[tO (w.nd _ _ k) (ab k) m1 q];exact x3.Y
theorem Dl.conn1(D:Dl N rs ls)(g:Gr m es ts)(w:es.L=N)(cr:∀ r∈rs,CR (fol es ts) (2*es.L) r):KF.Conn rs.L ls:=λb M=>by
 let F c:∃ F:R->i0,∀ b,F b=kf↔∃ x,KF.Wk (ls) 0 b x:=#[λb=>@decide (∃ x,KF.Wk (ls) 0 b x) (Classical.propDecidable _),λb=>by simp!]
 let f:∀(i:R)(l:KF.Lk),ls[i]?=Z l->F l.1=F l.2.1:=λi l k=>by
  let d:F l.1=kf->F l.2.1=kf:=λz=>by
   let x J:=(c _).mp z;let:=KF.Wk.step J k (.inl U);let e:KF.bey l l.1=l.2.1:=by unfold KF.bey;rw[R5 U]
   rw[e]at this;exact(c _).mpr #[_,this]
  let h:F l.2.1=kf->F l.1=kf:=λz=>by
   let x J:=(c _).mp z;let:=KF.Wk.step J k (.inr U);by_cases q:l.2.1=l.1
   .rw[← q];exact z
   .let e:KF.bey l l.2.1=l.1:=by unfold KF.bey;rw[R6 q]
    rw[e]at this;exact(c _).mpr #[_,this]
  cases p:F l.1 with
  |true=>rw[d p]
  |false =>
   lia
 let:=D.whole g w cr F f (a:=0) (b:=b) ∅ M
 rw[(c 0).mpr #[00,.nil 0]]at this;exact(c b).mp this.Y
def UB(es:En)(ks:Kn)(L t:R):i0:=match es[t]? with|some e=>(L.O e.1 ^^ L.O e.2 ^^ aV ks t)|none=>kt
def HP{ks:Kn}{t:R}(h:es[t]?=Z e):UB es ks L t=(L.O e.1 ^^ L.O e.2 ^^ aV ks t):=by unfold UB;rw[h]
theorem wC:∀ PL:E (R×R),(KF.flat PL).L%2=0
 |[]=>rfl
 |p::PL=>by
  rw[KF.flat_cons,MG,MG];let:=wC PL;lia
structure Oth(m:R)(es:En)(ts:mo)(ks:Kn)(rs:mo)(ls:E KF.Lk):Prop where
 g:Gr m es ts
 ro:bw (fol es ts) (2*es.L) (2*es.L) rs
 d:Dl es.L rs ls
 kl:ks.L=es.L
 ws:∀(i:R)(l:KF.Lk),ls[i]?=Z l->∃ k,ks[i]?=Z k/\l.2.2=k.2/\0<=k.2/\k.2<=10^(30:G).U
 m2:2<=m
 few:es.L<=24
theorem Oth.cr{m:R}{es:En}{ts:mo}{ks:Kn}{rs:mo}{ls:E KF.Lk}(O:Oth m es ts ks rs ls):∀ r∈rs,CR (fol es ts) (2*es.L) r:=λr N=>(O.ro.ring r N).cr
def Oth.lay{ks:Kn}(O:Oth m es ts ks rs ls)(L:R):KF.oddE ls (MK (UB es ks L) es.L) es.L=KF.oddE ls (MK (aV ks) es.L) es.L:=by
 refine zZ (n:=rs.L) (by rw[← O.d.ln];exact AH O.d.rooms _ _ (Lq _)) (by rw[← O.d.ln];exact AH O.d.rooms _ _ (Lq _)) λa T=>?_
 let eg:=Ll T;rw[O.d.oddN _ eg,O.d.oddN _ eg];let lt:=O.d.lt _ (Ln eg);let S M:∃ S:R->i0,Af es S (λp=>L.O p):=#[λs=>match es[s]? with|some x=>(L.O x.1 ^^ L.O x.2)|none=>kt,λs x J=>by simp!]
 let b:=HB O.g.w M (O.cr _ (Ln eg));let:par (λt=>(MK (UB es ks L) es.L).O t) rs[a]=par (λt=>S t ^^ (MK (aV ks) es.L).O t) rs[a]:=par_congr λd hd=>by
  let:=lt d hd;let e eK:∃ e,es[d/2]?=Z e:=#[_,Ll ∅]
  rw[fV,fV,Rl (show d/2<es.L by lia),Mq,Mq,HP eK,M _ e eK]
 rw[this,ic,b,Pt]
theorem Oth.lok1{ks:Kn}(O:Oth m es ts ks rs ls)(N:rs.L<=40):KF.Lok rs.L ls where
 n1:=N
 l9:=by
  let L:=O.d.ln;let f:=O.few;lia
 sm l hl:=O.d.rooms l hl
 w0 l hl:=by
  let i B:=Mx hl;let k _ e a b:=O.ws i l B;rw[e];erw[a,P5 b ?_];unfold KF.MM;decide
def Oth.evenM{ks:Kn}(O:Oth m es ts ks rs ls)(N:rs.L<=40)(M:R):KF.oddE ls M es.L<2^rs.L/\(KF.bl (KF.oddE ls M es.L)).L%2=0:=by
 let ok:=O.lok1 N;let p:∀ l∈ls,0<=l.2.2:=λl D=>(ok.w0 l D).1;let T:=O.d.conn1 O.g U O.cr;let Y c{k v _}_:=KF.low_join (KF.far_met p T) M (λl D=>#[(ok.sm l D).1,(ok.sm l D).2,KF.far_link p D]) ls.L (Lq _);rw[O.d.ln]at Y v;erw[Y,3];rw[← v.length_eq];exact wC k
theorem Oth.even1{ks:Kn}(O:Oth m es ts ks rs ls)(N:rs.L<=40):KF.oddE ls (MK (aV ks) es.L) es.L<2^rs.L/\(KF.bl (KF.oddE ls (MK (aV ks) es.L) es.L)).L%2=0:=O.evenM N _
def Dl.marks(D:Dl N rs ls)(M:R):MK (oddU M rs) rs.L=KF.oddE ls M N:=by
 refine zZ (n:=rs.L) (MU _ λi B=>by rw[fV,QF ∅,MO]) (by rw[← D.ln];exact AH D.rooms _ _ (Lq _)) λa T=>?_
 let eg:=Ll T;rw[D.oddN _ eg,rU,fV,Rl T,Mq];unfold oddU;simp[*]
def lD(g:Gr m es ts)(b:bw (fol es ts) (2*es.L) (2*es.L) rs):m+rs.L=es.L+2:=by
 let h p c:=g.part;rw[← p.same b.part];exact c
structure TxtO(mg:ff->io eN)(TR:e8):Prop extends TxtZ mg where
 modd:∃ t,mg "MOST_ODD"=Z (.int 12 t)
 n_max:mg "max"=k7
 g_TooRough:mg "TooRough"=Z (.ref TR)
def rgh(ks:Kn)(n:R)(rs:mo):R:=(KF.bl (MK (oddU (MK (aV ks) n) rs) rs.L)).L
inductive CF(TR PL PS WC:e8)(vs:E L2.V)(H:L2.Hp)(Q:L2.VK)(eg:L2.XK):Prop
 |mk (p:e8)(es:En)(ks:Kn)(rs:mo) (_:vs=[.ref p])(_:WebR PL PS WC H p es ks rs)(_:ks.L=es.L)(_:es.L<=30)(_:rs.L<=32)(_:(∀ r∈rs,r.L<=900))(_:(12<rgh ks es.L rs->∀ H',mu H'->eg (.ref TR) k7 H'))(_:(rgh ks es.L rs<=12->∀ H',mu H'->Q (.int ((MK (oddU (MK (aV ks) es.L) rs) rs.L:R):G)) H'))
def qq:az ["web","marks"] ["web"] (aq nQ):=by ac_nf
def Gs{PS:e8}{d1:fk}(F:Fun K "marks_of" "marks_of" nQ f fd)(T:TxtO mg a)(r:ExC K a)(d:lc 3 "odd_rounds" ["web"] (CC PL PS C) f1 d1)(g:lc 2 "ones" ["mask"] KF.spOnes f2 eK):FnOk P w K mg base (CXd P w) 4 f fd ["web"] (CF a PL PS C):=by
 refine F.okD qq (by walk_at "l") λb A u s H L Q eg N h=>?_
 let p v x I rfl q m n O k M y:=h
 intro e J;erw[_,(ah (aA 1 qq.nd (d.c N (af (pv 0) aj)))
   (ah (bH (aC ye (g.c N (af (pv 1) aj)) (t5 U T.modd) (aE _)) (ao (C8 r T.g_TooRough U Cm U U (af pe_str aj))) aM)
   (ao (aD (pv 1))))),3]
 erw[9,p,v,x,I,U,q,m,n,4,k,λl j=>?_]
 let t:=λz Y (o:Same l Y)=>y z Y (j.Q o);let D:=λz Y (o:Same l Y)=>M z Y (j.Q o);let lt:MK (oddU (MK (aV x) v.L) I) I.L<2^I.L:=MU _ λi B=>by rw[fV,QF ∅,MO]
 unfold rgh at t D;generalize MK (oddU (MK (aV x) v.L) I) I.L=mk at lt t D ⊢;erw[9,mk,U,Mb lt (Mw ∅ ∅),λY o=>?_]
 erw[2469,ite2 (λz=>#[(by decide:1<=QG),D (by lia) _ o]) (λz=>?_)]
 erw[9,t (by lia) _ o]
inductive spRT(PL PS WC:e8)
 |mk (p:e8)(S:R)(es:En)(ks:Kn)(rs:mo) (_:vs=[.ref p,.int (S:G)])(_:WebR PL PS WC H p es ks rs)(_:ks.L=es.L)(_:es.L<=30)(_:rs.L<=70)(_:(∀ r∈rs,r.L<=900))(_:HR rs S (MK (aV ks) es.L))(_:∀ H',mu H'->Q .non H')
structure LayS(m:R)(es:En)(ks:Kn)(S L:R):Prop where
 lt:L<2^m
 up:L.O 0=kt
 un:∀(t:R)(e:R×R),es[t]?=Z e->S.O t=(L.O e.1 ^^ L.O e.2 ^^ aV ks t)
inductive spLO(PL PS WC:e8)
 |mk (p:e8)(S m:R)(es:En)(ts:mo)(ks:Kn)(rs:mo) (_:vs=[.ref p,.int (S:G)])(_:WebT PL PS WC H p m es ts ks)(_:WebR PL PS WC H p es ks rs)(_:Gr m es ts)(_:bw (fol es ts) (2*es.L) (2*es.L) rs)(_:ks.L=es.L)(_:0<m)(_:m<=40)(_:es.L<=30)(_:(∀ k∈ks,k.1=0∨k.1=1))(_:HR rs S (MK (aV ks) es.L))(_:∀ L H',mu H'->LayS m es ks S L->Q (.int (L:G)) H')
def AN{x y:R}(h:(Sum.inl (x:G):Key)=Sum.inl (y:G)):x=y:=by
 lia
def sI(b:i0):G:=if b=kf then 1 else 0
def kvS(Pl:R->i0)(ps:E R):E (Key×V):=ps.h λ(p:R)=>((.inl ((p:R):G):Key),V.int (sI (Pl p)))
def wj{p:R}(nd:ps.l)(h:p∈ps):valV (kvS Pl ps) (.inl (p:G))=Z (.int (sI (Pl p))):=by
 induction ps with
 |nil=>cases h
 |cons x r O =>
  rw[LF]at nd;show valV (((.inl (x:G):Key),V.int (sI (Pl x)))::kvS Pl r) _=_;obtain e|h:=Lz.mp h
  .subst e;exact bz U
  .let ne:¬ (Sum.inl (x:G):Key)=Sum.inl (p:G):=λz=>nd.1 (by rw[AN z];exact h)
   rw[bA ne];exact O nd.2 h
def DP{p:R}(h:p∉ps):valV (kvS Pl ps) (.inl (p:G))=k7:=by
 induction ps with
 |nil=>rfl
 |cons x r O =>
  show valV (((.inl (x:G):Key),V.int (sI (Pl x)))::kvS Pl r) _=_;let ne:¬ (Sum.inl (x:G):Key)=Sum.inl (p:G):=λz=>h (by rw[← AN z];exact Ly ..)
  rw[bA ne];exact O λz=>h (Lu _ z)
def DO{p:R}(h:p∉ps):putK (kvS Pl ps) (.inl (p:G)) (.int (sI (Pl p)))=kvS Pl (ps++[p]):=by
 rw[tQ _ (DP h)];unfold kvS;rw[LC];rfl
def oth(e:R×R)(p:R):R:=if p=e.1 then e.2 else e.1
structure Met'(m:R)(es:En)(ps wl:E R)(x:R)(rw':E R):Prop where
 nd:ps.l
 lt:∀ p∈ps,p<m
 z:0∈ps
 wn:∀ p∈wl,p∈ps
 cl:∀ p∈ps,p∉wl->∀(t:R)(e:R×R),es[t]?=Z e->(e.1=p∨e.2=p)->oth e p∈ps∨(p=x/\t∈rw')
def vP(s:mu H'){b:e8}(h:H' b=k7):H b=k7:=by
 cases z:H b with
 |none=>rfl
 |some u=>rw[s _ _ z]at h;cases h
theorem vS(x:R):∀(n:R)(ps:E R),ps.L=n->(vU ps).O x=decide (x∈ps)
 |0,ps,h=>by
  rw[Om.mp h];show(0:R).O x=_;rw[Nh];rfl
 |n+1,ps,h=>by
  let ne:ps≠[]:=λe=>by rw[e]at h;cases h
  let a:ps.dropLast++[ps.getLast ne]=ps:=Qe ne;let d:ps.dropLast.L=n:=by simp[*]
  rw[← a,rV,MJ,vS x n _ d,LU];generalize ps.dropLast=r;generalize ps.getLast ne=q;grind
def B0{d:e8}{g:TG}{f:TE}(Pv:R->E V->Hp->Prop)(hz:kvs.L<=QG)(l:Pv 0 [] H1)(hl:∀ i ys H,i<=kvs.L->Pv i ys H->H d=Z (.frz o (.dK kvs)))
  (hs:∀ i k y ys H,kvs[i]?=Z (k,y)->Pv i ys H->g (kV k) (LD n k7++σ) H λh H2=>h.drop n=σ/\tt h H2 λb H3=>if b=kf then f h H3 (λy eg=>Pv (i+1) (ys++[y]) eg) else Pv (i+1) ys H3) (hd:∀ ys H,Pv kvs.L ys H->QQ ys H) (Q:∀ i ys H,Pv i ys H->ys.L<=i)
  : iT g tt f n σ (Itk o kvs d) H1 QQ:=by
 erw[λi m ys H=>m=kvs.L-i/\i<=kvs.L/\Pv i ys H,#[kvs.L,by simp,Mh _,l],3]
 rintro i m ys H ⟨rfl,B,p⟩;let q:=hl i ys H B p;let c:=Q i ys H p;erw[16]
 by_cases r:i<kvs.L
 .refine .inr #[#[q,r],λM H2=>Pv (i+1) M H2,λM H2 t=>#[kvs.L-(i+1),12,r,t],λx eK y=>?_]
  let k y C rfl rfl:=y;exact hs i k y ys _ C p
 .let e:i=kvs.L:=by lia
  subst e;exact .inl #[#[q,Lq _],hd ys H p]
def xor3(a b c:i0):Q6 (Q6 (sI a) (if b=kf then 1 else 0)) (sI c)=sI (a ^^ b ^^ c):=by cases a<;>cases b<;>cases c<;>decide
def Lc(S t:R):Q4 ((S:G)/2^((t:R):G).U) 1=sI (S.O t):=by
 rw[IW,Fg];unfold sI;split<;>rfl
theorem DC(nd:ps.l)(h:∀ p∈ps,p<m):ps.L<=m:=dP nd h
def Kw{ks:Kn}{S:R}(g:Gr m es ts)(m0:0<m)(l:Pl 0=kt)(B:Af es (λt=>S.O t ^^ aV ks t) Pl)(mt:Met' m es ps [] 0 []):LayS m es ks S (vU (ps.filter Pl)):=by
 let all:∀ q,q<m->q∈ps:=λq y=>by
  refine g.conn (λp=>p∈ps) (λe eK=>?_) 0 q m0 y mt.z;let t n:=Mx eK;let ne:=(g.w.ends e eK).2.2;constructor
  .intro h;rcases mt.cl e.1 h (by simp) t e n (.inl rfl)with z|z
   .unfold oth at z;simp!
   .simp!
  .intro h;rcases mt.cl e.2 h (by simp) t e n (.inr rfl)with z|z
   .unfold oth at z;simp!
   .simp!
 let bit:∀ q,(vU (ps.filter Pl)).O q=(decide (q<m)&&Pl q):=λq=>by
  rw[vS q _ _ U];by_cases c:q<m
  .simp[*]
  .rw[QF c,MO];exact QF λz=>c (mt.lt q (Nv.mp z).1)
 erw[MU _ λx J=>?_,by rw[bit,l,Oe],λt e eK=>?_]
 .rw[bit,QF ∅];rfl
 .let b1 b2 _:=g.w.ends e (Ln eK);let this:(S.O t ^^ aV ks t)=(Pl e.1 ^^ Pl e.2):=B t e eK;rw[bit,bit,Rl b1,Rl b2,Mq,Mq,← this];simp
inductive my(C:e8)
 |mk (p a b s x:_) (_:vs=[.ref p,.int x])(_:TieAt H p C a b s)(_:Q (.int (if x=a then b else a)) H)
def Met'.old{wl:E R}{x t:R}{A:E R}(h:Met' m es ps wl x A)(j:oth e x∈ps)(eK:es[t]?=Z e)(q:A=t::B):Met' m es ps wl x B:=by
 erw[h.nd,h.lt,h.z,h.wn,λy Q i d J f g=>?_];obtain z|⟨z,u⟩:=h.cl y Q i d J f g
 .exact .inl z
 .subst z;rw[q]at u;obtain w|w:=Lz.mp u
  .simp!
  .exact .inr #[U,w]
def Met'.new{wl:E R}{x t:R}{A:E R}(h:Met' m es ps wl x A)(j:oth e x∉ps)(k:oth e x<m)(eK:es[t]?=Z e)(c:A=t::B):Met' m es (ps++[oth e x]) (wl++[oth e x]) x B:=by
 let p:∀ y,y∈ps->y∈ps++[oth e x]:=λy Q=>Mi _ Q;erw[LV.mpr #[h.nd,by simp,λa T b M z=>j (by simp!)],λy Q=>?_,p _ h.z,λy Q=>?_,λy Q i d J f g=>?_]
 .obtain z|z:=LG.mp Q
  .exact h.lt y z
  .grind
 .obtain z|z:=LG.mp Q
  .exact p y (h.wn y z)
  .exact Ma _ z
 .obtain z|z:=LG.mp Q
  .rcases h.cl y z (λq=>i (Mi _ q)) d J f g with z|⟨z,u⟩
   .exact .inl (p _ z)
   .subst z;rw[c]at u;obtain w|w:=Lz.mp u
    .simp!
    .lia
  .exact R7 (Ma _ z) i
def gA:az ["web","ties","pushing","number"] ["web","ties"] (aq gX):=by ac_nf
def ok_rt{PS:e8}{d1:fk}(F:Fun K "refuse_ties" "refuse_ties" gX f fd)(T:Txt mg)(cw:CW K a)(ap:lc 2 "pushes" ["web"] (CA PL PS a) f1 d1)(ae:lc 1 "odd_at" ["web","ties","number"] (sQ PL PS a) f2 eK):k9 3 f fd ["web","ties"] (spRT PL PS a):=by
 refine F.ok gA (by walk_at "l") λt A u s H L Q eg N h=>?_
 let p S v x I rfl wb kl aa aX aS ev y:=h
 intro Xc Dc;erw[_,(ah (aA 2 gA.nd (ap.c N (af (pv 0) aj)))
   (ao (mj (aO U T.n_range (af (ay ax (by rfl) T.n_len aZ (af (bX (pv 0) U) aj)) aj)) (bW 3 gA.nd) (ao (bH (aC i4 (ae.c N (af (pv 0) (af (pv 1) (af (pv 3) aj)))) (ae.c N (af (pv 0) (af (pv 2) (af (pv 3) aj)))) (aE _)) (ao dA) aM))))),3]
 erw[9,p,v,x,I,U,wb,kl,aa,λl J=>?_];let aT:=wb.mono J;let d fs k b q5 z5 g _ _ _ l5 ac hR:=id aT;let an:z5.L=I.L:=hR.1;generalize hM:MK (aV x) v.L=M at *;erw[9,p,a,d,fs,9,g,cw.cl,cw.n4,l5,q5,z5,U,.inl (SqL.of ac),329,bY (n:=(z5.L:G).U) (λi O Y=>∃ v3,O=[Z (.ref p),Z (.int (S:G)),Z (.int (M:G)),v3]/\Same l Y/\∀ j r,j<i->I[j]?=Z r->parR S r=parR M r) #[9,λ_ _ e=>e,λj r h=>R7 h (MR _)] ?_ ?_]
 .rintro i O Y B ⟨v3,rfl,o,al⟩;let e0:(0:G)+(i:G)=(i:G):=MP _;rw[e0];let r ab:∃ r,I[i]?=Z r:=#[_,Ll ∅]
  erw[2457,p,S,i,v,x,I,r,U,aT.mono o,ab,aS r (Ln ab),λq m=>?_];erw[2457,p,M,i,v,x,I,r,U,aT.mono (o.Q m),ab,aS r (Ln ab),λH4 s4=>?_];let am:=(o.Q m).Q s4;erw[38,ite2 (λc=>?_) (λc=>?_)]
  .let D:parR S r≠parR M r:=λz=>by lia
   exact R7 (ev i r ab) D
  .let D:parR S r=parR M r:=by lia
   erw[9,am,λj r2 C aI=>?_];grind
 .rintro O Y ⟨v3,rfl,o,al⟩;rw[Lv,an]at al;exact y _ (J.Q o)
def tq:az ["self","place"] ["self","place"] (aq cZ):=by ac_nf
def vM(F:Fun K "across" "Tie.across" cZ f fd)(T:CT K C):k9 1 f fd ["self","place"] (my C):=by
 refine F.ok tq (by walk_at "l") λB A u s H L Q eg N h=>?_
 let p a b st x rfl{j g}k:=h;intro I o;erw[_,(ao (aD (j8 (aC cR (pv 1) (bX (pv 0) U) (aE _)) (bX (pv 0) U) (bX (pv 0) U)))),3];erw[153,p,C,j,37,g,T.cl,T.n1,oy _ _ _,230];refine ite2 (λc=>?_) (λc=>?_)
 .erw[9,p,C,j,37,g,T.cl,T.n2,rN _ _ _,3];rw[R5 (V.int.inj (RS c))]at k;exact k
 .erw[9,p,C,j,37,g,T.cl,T.n1,oy _ _ _,3];rw[R6 (λz=>c (Rl (by rw[z])))]at k
  exact k
def cf:az ["web","ties","signs","waiting","place","number","tie","there"] ["web","ties"] (aq kU):=by ac_nf
def ok_lo{cT g0 g1 PS WC:e8}{d1 cW cC ca bu:fk}(F:Fun K "laying_of" "laying_of" kU f fd)(T:Txt mg)(cw:CW K WC)(TL:CT K PL)(TS:CT K PS)(bK:lc 3 "refuse_ties" ["web","ties"] (spRT PL PS WC) f1 d1)(al:lc 1 "mask_of" ["places"] (oz K) f2 eK)(a0:Met P w K mg base 1 PL "across" ["self","place"] (my PL) I cW)(a1:Met P w K mg base 1 PS "across" ["self","place"] (my PS) cT cC)(u0:Met P w K mg base 1 PL "wish" ["self"] (mw kt) g0 ca)(u1:Met P w K mg base 1 PS "wish" ["self"] (mw kf) g1 bu):k9 4 f fd ["web","ties"] (spLO PL PS WC):=by
 refine F.ok cf (by walk_at "l") λab A aa s H vs Q eg N h=>?_
 let p S m n ts ks rs rfl wt wr g ro kl m0 bU ac bN ev kk:=h;let hu:=uz N;let bm:=N.units;let ci:=TL.cl;let ck:=TS.cl;let mf:=wB g;let ce:=Az ro;let b6:∀ r∈rs,r.L<=900:=λr N=>by
  let:=dP (ro.ring r N).nd (ro.ring r N).lt;lia
 let dx fs q1 xs q3 z3 hp lm l1 Y tk l3 h3 c6:=id wt
 intro Xc Dc;erw[_,(ah (aW (bK.c N (af (pv 0) (af (pv 1) aj))))
   (ah (aA 2 cf.nd (yd (tS ai ai xX) U U (λz=>by cases z) ∅))
   (ah (aA 3 cf.nd (dB (af ai aj)))
   (ah (fB PassesOwn.never (aC (op_neG bm) (pv 3) (dB aj) (aE _)) (ah (aA 4 cf.nd (Iy LH PySem.F.slot_list_pop PySem.F.type_list_pop mt_pop (pv 3)))
   (ao (mj (aN (a8 (bX (pv 0) U) (pv 4))) (bW 5 cf.nd) (ah (aA 6 cf.nd (a8 (bX (pv 0) U) (pv 5)))
   (ah (aA 7 cf.nd (FZ (tZ (pv 6) ci a0.me a0.ok (N.mono ∅) a0.bn .nil mT (af (pv 4) aj)) (tZ (pv 6) ck a1.me a1.ok (N.mono ∅) a1.bn .nil mT (af (pv 4) aj))))
   (ao (bH (AB (mS hu (pv 7) (pv 2))) (ah (lF hu (pv 2) (pv 7) (aw c9 (aw c9 (ib hu (pv 2) (pv 4) (λ_ _=>rfl)) (FZ (mQ (pv 6) ci u0.me u0.ok (N.mono ∅) u0.bn .nil mT) (mQ (pv 6) ck u1.me u1.ok (N.mono ∅) u1.bn .nil mT))) (aw fN (aw de (pv 1) (pv 5)) ai)) U)
   (ao (aW (eG LH Md Mc a9 (pv 3) (af (pv 7) aj))))) aM))))))))
   (ao (aD (al.c N (af (dj [("signs",2)] ["place"] (JR (pv 2)) pg_c (λC ex s H=>(jn (aC cR (ib hu (pv 1) (pv 0) (λ_ _=>rfl)) ai (aE _)))) (λC ex s H=>(pv 0))) aj)))))))),3]
 erw[153,p,S,n,ks,rs,U,wr,kl,ac,4,b6,ev,λH1 s1=>?_]
 let Pl cO cb:=FN g ro ev;intro d hd;erw[ag,[(.inl ((0:R):G),.int 0)],U,(by show 1<=15;decide),3]
 let sd:Same H1 (upd (upd H1 d (.dK [])) d (.dK (gK [] [(.inl ((0:R):G),.int 0)]))):=aJ (ak hd _) hd _;let bB:(upd (upd H1 d (.dK [])) d (.dK (gK [] [(.inl ((0:R):G),.int 0)]))) d=Z (.dK (kvS Pl [0])):=by
  rw[ag];let e:sI (Pl 0)=0:=by rw[cO];rfl
  show Z (HO.dK [(.inl ((0:R):G),.int 0)])=Z (HO.dK [(.inl ((0:R):G),.int (sI (Pl 0)))]);rw[e]
 generalize upd (upd H1 d (.dK [])) d (.dK (gK [] [(.inl ((0:R):G),.int 0)]))=u at sd bB;erw[(by show 1<=QG;decide),λq hq=>?_]
 let sq:=ak hq (.lst [.int 0]);let cc:q≠d:=λz=>by simp!
 let aX:H1 q=k7:=vP sd hq;erw[λmm O H'=>∃(ps wl:E R)(v4 v5 v6 v7:io V),mm=2*(m-ps.L)+wl.L/\mm<=80/\O=[Z (.ref p),Z (.int (S:G)),Z (.ref d),Z (.ref q),v4,v5,v6,v7]/\Same H1 H'/\H' d=Z (.dK (kvS Pl ps))/\H' q=Z (.lst (wl.h iV))/\Met' m n ps wl 0 [],#[_,[0],[0],597,(by show 2*(m-1)+1<=80;lia),U,sd.Q sq,sq _ _ bB,ag,#[(by simp),λx J=>by rw[LY.mp J];exact m0,(by simp),λx J=>J,λx J nx=>R7 J nx]],3]
 rintro mm O H3 ⟨ps,wl,v4,v5,v6,v7,rfl,c7,rfl,s3,cq,bP,mt⟩;erw[9,(by show 0<=QG;exact Mh _),λl B=>?_]
 let sl:=ak B (.lst []);erw[5,ym (SqL.of (sl _ _ bP)),ym (ps:=[]) (SqL.of ag),qN _,qN _,57];rw[Hl];let cD:=s3.Q sl;let cE:=sl _ _ cq;let cF:=sl _ _ bP;generalize upd H3 l (.lst [])=H4 at cD cE cF;refine ite2 (λc=>?_) (λc=>?_)
 .let ne:wl≠[]:=λz=>by rw[z,Rl U]at c;cases c
  let cP:wl.dropLast++[wl.getLast ne]=wl:=Qe ne;let x J:∃ x,x=wl.getLast ne:=#[9];let bi hw:∃ bi,bi=wl.dropLast:=#[9];rw[← J,← hw]at cP;subst cP;clear J hw ne c;let cQ:=mt.wn x (by simp)
  let xm:=mt.lt x cQ;let row ba:∃ row,ts[x]?=Z row:=#[_,Ll (by rw[g.w.len];exact xm)]
  let db:=DC mt.nd mt.lt;erw[λae H'=>∃(ap bg:E R)(v4 v5 v6 v7:io V),2*(m-ap.L)+bg.L<2*(m-ps.L)+(bi++[x]).L/\ae=[Z (.ref p),Z (.int (S:G)),Z (.ref d),Z (.ref q),v4,v5,v6,v7]/\Same H1 H'/\H' d=Z (.dK (kvS Pl ap))/\H' q=Z (.lst (bg.h iV))/\Met' m n ap bg 0 [],λae H' ⟨ap,bg,a4,a5,a6,a7,lt,e1,e2,e3,e4,e5⟩=>#[_,lt,ap,bg,a4,a5,a6,a7,U,MB (LN lt) c7,e1,e2,e3,e4,e5],3];let cK:((bi++[x]).h iV)[((bi++[x]).h iV).L-1]?=Z (iV x):=by
   rw[LC,Lx,Lp];show(bi.h iV++[iV x])[bi.L+1-1]?=_;rw[PJ,Lr (by rw[Lp];exact Lq _),Lp,Mf]
   rfl
  erw[9,.inl #[6,SqL.of cF],q,_,iV x,10,cF,cK,3];let cL:((bi++[x]).h iV).dropLast=bi.h iV:=by
   rw[LC];exact List.dropLast_concat
  rw[cL];let s5:Same H1 (upd H4 q (.lst (bi.h iV))):=aJ cD aX _;let cs:(upd H4 q (.lst (bi.h iV))) d=Z (.dK (kvS Pl ps)):=by rw[ar (Ne.Y cc)];exact cE
  let be:(upd H4 q (.lst (bi.h iV))) q=Z (.lst (bi.h iV)):=ag;generalize upd H4 q (.lst (bi.h iV))=H5 at s5 cs be;let r r1 r2:=c6.2 x row ba;let bp:=s1.Q s5;let rl:row.L<=n.L:=dP (g.w.nd x row ba) λt ht=>by
   let e L _:=(g.w.mem x row ba t).mp ht;exact(Lm.mp L).1
  erw[9,p,WC,dx,fs,9,bp _ _ hp,cw.cl,cw.n3,l3,9,q3,z3,165,SqL.of (bp _ _ h3),aB r1,r,U,#[_,SqL.of (bp _ _ r2)],bO (K:=K) (xs:=row.h iV) (λj O H6=>∃(ap bg:E R)(v5 v6 v7:io V),O=[Z (.ref p),Z (.int (S:G)),Z (.ref d),Z (.ref q),Z (iV x),v5,v6,v7]/\Same H1 H6/\H6 d=Z (.dK (kvS Pl ap))/\H6 q=Z (.lst (bg.h iV))/\Met' m n ap bg x (row.drop j)/\x∈ap/\2*(m-ap.L)+bg.L<2*(m-ps.L)+(bi++[x]).L) #[ps,bi,149,s5,cs,be,#[mt.nd,mt.lt,mt.z,λy hy=>mt.wn y (by simp[hy]),λy hy ny t e L b0=>?_],cQ,by rw[Lx,LR];lia] (λj O H6 _ an=>by let _ _ _ _ _ _ z _:=an;exact SqL.of (z _ _ (s1 _ _ r2))) ?_ ?_]
  .by_cases yx:y=x
   .subst yx;exact .inr #[U,by rw[List.drop_zero];exact(g.w.mem y row ba t).mpr #[e,L,b0]]
   .rcases mt.cl y hy (λz=>(LG.mp z).elim ny λz=>yx (LY.mp z)) t e L b0 with z|z
    .exact .inl z
    .cases z.2
  .rintro j v O H6 aS ⟨ap,bg,v5,v6,v7,rfl,s6,bv,a2,a3,cd,co⟩;rw[LA]at aS;let t ht rfl:=LL.mp aS;let cu:row.drop j=t::row.drop (j+1):=by
    let bR b8:=Lm.mp ht;rw[← b8];exact Qr bR
   let e L aT:=(g.w.mem x row ba t).mp (Ln ht);let k hk:∃ k,ks[t]?=Z k:=#[_,Ll (by let:=(Lm.mp L).1;lia)]
   let ch:=s1.Q s6;let p' aI x1 x2:=(tk.mono ch).2 t e k L hk;let b1 b2 bne:=g.w.ends e (Ln L);let om:oth e x<m:=by unfold oth;split<;>assumption
   let da:=DC a3.nd a3.lt;let cy:(if(x:G)=(e.1:G) then(e.2:G) else(e.1:G))=((oth e x:R):G):=by
    unfold oth;by_cases c:x=e.1
    .rw[R5 ∅,R5 c]
    .rw[R6 ∅,R6 c]
   let cv:aV ks t=decide (k.1=1):=qA hk;let eval:Pl (oth e x)=(Pl x ^^ aV ks t ^^ S.O t):=by
    let q0:(S.O t ^^ aV ks t)=(Pl e.1 ^^ Pl e.2):=cb t e L;unfold oth;by_cases c:x=e.1
    .rw[R5 c,c];revert q0
     cases S.O t<;>cases aV ks t<;>cases Pl e.1<;>cases Pl e.2<;>decide
    .let c2:e.2=x:=aT.resolve_left λz=>c z.Y
     rw[R6 c,← c2];revert q0
     cases S.O t<;>cases aV ks t<;>cases Pl e.1<;>cases Pl e.2<;>decide
   erw[9,p,WC,dx,fs,9,ch _ _ hp,cw.cl,cw.n2,l1,9,q1,xs,165,SqL.of (ch _ _ Y),aB x1,3];by_cases c:k.1=1
   .rw[Rl c]at x2 cv;refine .inr #[9,p',aI,9,x2,sN _ _ _ ∅ ∅ ∅,9,p',21,(x:G),U,#[aI,x2],3]
    rw[cy];erw[153,d,9,.inl #[_,.inl ((oth e x:R):G),.inl bv,10],57];by_cases am:oth e x∈ap
    .rw[wj a3.nd am];exact iteF #[ap,bg,149,s6,bv,a2,a3.old am L cu,cd,co]
    .rw[DP am];refine iteT ?_;erw[153,d,9,.inl #[_,.inl (x:G),.inl bv,U,(wj a3.nd cd).Y],3];refine .inr #[9,p',aI,9,x2,sN _ _ _ ∅ ∅ ∅,p',43411094,(show(0:G)<=(t:G) by lia),239013]
     let cp:Q6 (Q6 (sI (Pl x)) (if kf=kf then 1 else 0)) (Q4 ((S:G)/2^((t:R):G).U) 1)=sI (Pl (oth e x)):=by
      rw[Lc,xor3];congr 1;rw[← cv];exact eval.Y
     erw[153,d,9,DPut.k (k:=.inl ((oth e x:R):G)) bv (av (by unfold kvS;rw[Lp];lia)),3]
     let ct:putK (kvS Pl ap) (.inl ((oth e x:R):G)) (.int (Q6 (Q6 (sI (Pl x)) (if kf=kf then 1 else 0)) (Q4 ((S:G)/2^((t:R):G).U) 1)))=kvS Pl (ap++[oth e x]):=by rw[cp];exact DO am
     let bJ:(upd H6 d (.dK (putK (kvS Pl ap) (.inl ((oth e x:R):G)) (.int (Q6 (Q6 (sI (Pl x)) (if kf=kf then 1 else 0)) (Q4 ((S:G)/2^((t:R):G).U) 1)))))) q=Z (.lst (bg.h iV)):=by rw[ar cc];exact a2
     erw[9,.inl #[6,SqL.of bJ],9,q,165,bJ,av (by rw[Lp];lia),3]
     erw[ap++[oth e x],bg++[oth e x],149,aJ (aJ s6 hd _) aX _,15,a3.new am om L cu,Mi _ cd,3]
     .rw[ar (Ne.Y cc),ag,ct]
     .rw[ag,LC];rfl
     .simp only[Lx,LR]at co ⊢;let:=DC (LV.mpr #[a3.nd,(by simp),λa ha b M z=>am (by rw[← LY.mp M,← z];exact ha)]:(ap++[oth e x]).l) (m:=m) (λy hy=>(LG.mp hy).elim (a3.lt y) λz=>by rw[LY.mp z];exact om)
      rw[Lx,LR]at this;lia
   .rw[QF c]at x2 cv;refine .inl #[9,p',aI,9,x2,sN _ _ _ ∅ ∅ ∅,9,p',21,(x:G),U,#[aI,x2],3]
    rw[cy];erw[153,d,9,.inl #[_,.inl ((oth e x:R):G),.inl bv,10],57];by_cases am:oth e x∈ap
    .rw[wj a3.nd am];exact iteF #[ap,bg,149,s6,bv,a2,a3.old am L cu,cd,co]
    .rw[DP am];refine iteT ?_;erw[153,d,9,.inl #[_,.inl (x:G),.inl bv,U,(wj a3.nd cd).Y],3];refine .inl #[9,p',aI,9,x2,sN _ _ _ ∅ ∅ ∅,p',43411094,(show(0:G)<=(t:G) by lia),239013]
     let cp:Q6 (Q6 (sI (Pl x)) (if kt=kf then 1 else 0)) (Q4 ((S:G)/2^((t:R):G).U) 1)=sI (Pl (oth e x)):=by
      rw[Lc,xor3];congr 1;rw[← cv];exact eval.Y
     erw[153,d,9,DPut.k (k:=.inl ((oth e x:R):G)) bv (av (by unfold kvS;rw[Lp];lia)),3]
     let ct:putK (kvS Pl ap) (.inl ((oth e x:R):G)) (.int (Q6 (Q6 (sI (Pl x)) (if kt=kf then 1 else 0)) (Q4 ((S:G)/2^((t:R):G).U) 1)))=kvS Pl (ap++[oth e x]):=by rw[cp];exact DO am
     let bJ:(upd H6 d (.dK (putK (kvS Pl ap) (.inl ((oth e x:R):G)) (.int (Q6 (Q6 (sI (Pl x)) (if kt=kf then 1 else 0)) (Q4 ((S:G)/2^((t:R):G).U) 1)))))) q=Z (.lst (bg.h iV)):=by rw[ar cc];exact a2
     erw[9,.inl #[6,SqL.of bJ],9,q,165,bJ,av (by rw[Lp];lia),3]
     erw[ap++[oth e x],bg++[oth e x],149,aJ (aJ s6 hd _) aX _,15,a3.new am om L cu,Mi _ cd,3]
     .rw[ar (Ne.Y cc),ag,ct]
     .rw[ag,LC];rfl
     .simp only[Lx,LR]at co ⊢;let:=DC (LV.mpr #[a3.nd,(by simp),λa ha b M z=>am (by rw[← LY.mp M,← z];exact ha)]:(ap++[oth e x]).l) (m:=m) (λy hy=>(LG.mp hy).elim (a3.lt y) λz=>by rw[LY.mp z];exact om)
      rw[Lx,LR]at this;lia
  .rintro O H6 ⟨ap,bg,v5,v6,v7,rfl,s6,bv,a2,a3,cd,co⟩;rw[Lp,List.drop_length]at a3;erw[ap,bg,85,co,U,s6,bv,a2,#[a3.nd,a3.lt,a3.z,a3.wn,λy hy ny t e L b0=>(a3.cl y hy ny t e L b0).elim .inl λz=>by cases z.2]]
 .let e0:wl=[]:=by
   cases wl with
   |nil=>rfl
   |cons a b=>exact R7 (by rw[QF (by simp)];rfl) c
  subst e0;erw[9,d,9,cE,λo=>?_];let da:=DC mt.nd mt.lt;refine B0 (kvs:=kvS Pl ps) (d:=d) (o:=o) (λi ys H5=>H5=upd H4 d (.frz o (.dK (kvS Pl ps)))/\ys=((ps.j i).filter Pl).h iV) (LN (av (by unfold kvS;rw[Lp];lia))) #[10] (λi ys H5 _ z=>by rw[z.1];exact ag) ?_ ?_ ?_
  .rintro i ky y ys H5 cM ⟨rfl,rfl⟩;unfold kvS at cM;rw[LA]at cM;let x J e2:=LL.mp cM
   cases e2
   let et:ps.j (i+1)=ps.j i++[x]:=by rw[LK,J];rfl
   erw[614,d,9,.inl #[_,.inl (x:G),.inr #[o,ag],U,(wj mt.nd (Ln J)).Y],230]
   cases bb:Pl x with
   |true =>
    refine iteT #[233];rw[et,Nw,LC,NP bb];rfl
   |false =>
    refine iteF #[14];rw[et,Nw,LC,Oo (by rw[bb];exact LZ)]
    simp
  .rintro ys H5 ⟨rfl,rfl⟩ D hD;let el:(kvS Pl ps).L=ps.L:=by unfold kvS;rw[Lp]
   rw[el,LP];erw[D,ps.filter Pl,U,SqL.of ag,λx J=>?_,3]
   .let:=mt.lt x (Nv.mp J).1
    lia
   .let sF:Same H1 (upd (upd H4 d (.frz o (.dK (kvS Pl ps)))) D (.lst (((ps.filter Pl)).h iV))):=(aJ cD hd _).Q (ak hD _)
    exact kk _ _ (s1.Q sF) (Kw g m0 cO cb mt)
  .rintro i ys H5 ⟨_,rfl⟩;rw[Lp];exact MB (NZ _ _) (by rw[M9];exact Nat.min_le_left _ _)
theorem bD.smT(h:bD H xs ts)(s:KF.SmT H H'):bD H' xs ts:=#[h.1,λi l e=>by
 let p a b:=h.2 i l e
 erw[p,a,s.lst b]]
theorem mr.smT{PS:e8}{ks:Kn}(h:mr PL PS H xs es ks)(s:KF.SmT H H'):mr PL PS H' xs es ks:=#[h.1,λi e k Y L=>by
 let p j a b:=h.2 i e k Y L
 erw[p,j,a,s _ _ (λT y=>by cases y) b]]
def WebR.smT{PL PS l p:e8}{H H':Hp}{es:En}{ks:Kn}{rs:mo}(h:WebR PL PS l H p es ks rs)(s:KF.SmT H H'):WebR PL PS l H' p es ks rs:=by
 let j fs k J n i a b c d e f g:=h;erw[j,fs,k,J,n,i,s _ _ (λT y=>by cases y) a,b,s.lst c,d.smT s,e,s.lst f,g.smT s]
def WebT.smT{PL PS l p:e8}{H H':Hp}{m:R}{es:En}{ts:mo}{ks:Kn}(h:WebT PL PS l H p m es ts ks)(s:KF.SmT H H'):WebT PL PS l H' p m es ts ks:=by
 let j fs k J t n a b c d e f g i:=h;erw[j,fs,k,J,t,n,s _ _ (λT y=>by cases y) a,b,c,s.lst d,e.smT s,f,s.lst g,i.smT s]
structure WebL(TT PL PS WC:e8)(H:Hp)(p m:R)(es:En)(ts rs:mo)(ks:Kn):Prop where
 wf:∃ S,WebF S PL PS WC H p m es ts rs ks
 g:Gr m es ts
 kl:ks.L=es.L
 kin:∀ k∈ks,k.1=0∨k.1=1
 kb:∀ k∈ks,0<=k.2/\k.2<=10^(30:G).U
 few:es.L<=24
 e0:0<es.L
 tb:Tb KF.lqF KF.lpF TT H
def RX(a TT:e8)(ks:Kn)(es:En)(rs:mo)(H:Hp)(eg:XK):Prop:=12<rgh ks es.L rs->∀ eK,mu eK->Tb KF.lqF KF.lpF TT eK->eg (.ref a) k7 eK
def Dl.lnk{ks:Kn}(D:Dl N rs ls)(g:∀ (i:R) (l:KF.Lk),ls[i]?=Z l->∃ k,ks[i]?=Z k/\l.2.2=k.2)(h:Cd H zs N ks rs):LsAt KF.LkAt H zs ls:=by
 erw[by rw[h.1,D.ln],λi l d=>?_]
 let k t x y r eK v Y L f B s j:=h.2 i (by rw[← D.ln];exact(Lm.mp d).1)
 let c C eg:=g i l d;rw[v]at C
 cases C
 let{A n I}p b1 b2:=D.sd i l d;let b:=lZ D.nd n f I B;let T:=lZ D.nd b1 s b2 j;erw[_,Y,t,14];rw[L,eg,b,T];rfl
def wor(es:En)(ks:Kn)(L:R):G:=(prL ks (UB es ks L) es.L).sum
theorem A0{ks:Kn}{ls:E KF.Lk}{S:R->i0}{N u:R}(h:∀ i,i<N->(KF.lkA ls i).2.2=stg ks i)(eK:∀ i,i<N->u.O i=S i):∀ i,i<=N->KF.cstU ls u i=(prL ks S i).sum
 |0,_=>rfl
 |i+1,B=>by
  rw[tR,NX,← A0 h eK i ∅]
  show(if u.O i=kf then KF.cstU ls u i+(KF.lkA ls i).2.2 else KF.cstU ls u i)=_;rw[eK i ∅,h i ∅,Ol,List.sum_nil]
  split<;>lia
def mkW(es:En)(ks:Kn)(ls:E KF.Lk):R:=KF.oddE ls (MK (aV ks) es.L) es.L
theorem Oth.st{ks:Kn}(O:Oth m es ts ks rs ls):∀ i,i<es.L->(KF.lkA ls i).2.2=stg ks i:=λi B=>by
 let l D:∃ l,ls[i]?=Z l:=#[_,Ll (by rw[O.d.ln];exact B)]
 let k Y L _:=O.ws i l D;rw[KF.lkA_is D,L];unfold stg;rw[Y]
def Oth.low{ks:Kn}(O:Oth m es ts ks rs ls)(N:rs.L<=40){c:G}(h:KF.Hls rs.L ls (mkW es ks ls) c kv)(L:R):c<=wor es ks L:=by
 let q:=(h.kept (O.lok1 N) (u:=MK (UB es ks L) es.L) (by rw[O.d.ln];exact O.lay L)).1
 rw[O.d.ln,A0 O.st (λi B=>by rw[fV,Rl B,Mq]) es.L (Lq _)]at q
 exact q
inductive CG(TR TT PL PS WC:e8)(vs:E L2.V)(H:L2.Hp)(Q:L2.VK)(eg:L2.XK):Prop
 |mk (p:e8)(m:R)(es:En)(ts rs:mo)(ks:Kn)(ls:E KF.Lk) (_:vs=[.ref p])(_:WebL TT PL PS WC H p m es ts rs ks)(_:Oth m es ts ks rs ls)(_:RX TR TT ks es rs H eg)(_:(rgh ks es.L rs<=12->∀(t q:e8)(c:G)(L:R)(kv:E (R×R))(H':Hp),KF.SmT H H'->Tb KF.lqF KF.lpF TT H'->H' t=Z (.tup [.int c,.int (L:G),.ref q])->KF.PpAt H' (.ref q) (KF.rK kv)->kv.L<=3000->L<2^m->L.O 0=kt->wor es ks L=c->KF.Hls rs.L ls (mkW es ks ls) c kv->Q (.ref t) H'))
def mE:az ["web","marks","many","links","found"] ["web"] (aq xR):=by ac_nf
def Gw{TT f5 PS WC:e8}{d1 d3 d4 d5:fk}(F:Fun K "least" "least" xR f fd)(T:TxtO mg a)(cw:CW K WC)(am:CalD P w K mg base 4 "marks_of" ["web"] (CF a PL PS WC) f1 d1)(aI:lc 1 "links_of" ["web"] (xD PL PS WC) f2 eK)(a7:lc 11 "paired" ["many","links","marks"] (KF.spPaired TT) C d3)(a3:lc 4 "laying_of" ["web","ties"] (spLO PL PS WC) I d4)(bg:lc 12 "hills" ["many","links","marks"] (KF.spHills TT) f5 d5):FnOk P w K mg base (CXd P w) 13 f fd ["web"] (CG a TT PL PS WC):=by
 refine F.okD mE (by walk_at "l") λaa A n s H vs Q eg N h=>?_
 let p m v ts rs ks ls rfl wl O kx kk:=h;let{S wf}g kl a0 kb ab e0 tb:=wl;let dx fs q1 xs j wg _ l2 al tk:=id wf;let q5 z5 l5 ap r5:=wg.rounds;let q6 z6 l6 an r6:=wg.sides;let ro:=wg.part;let cnt:=lD g ro;let m2:=g.two e0;let cb:rs.L<=24:=by lia
 let bi:1<=rs.L:=by
  let r ac _:=Mo.mp (ro.all 0 ∅)
  let:=Nm ac;lia
 let a6:∀ r∈rs,r.L<=900:=λr N=>by
  let:=dP (ro.ring r N).nd (ro.ring r N).lt;lia
 let bp:z5.L=rs.L:=r5.1
 intro Xc Dc;erw[_,(ah (aA 1 mE.nd (F5 am.ok (N.mono ∅) U am.mg am.kp am.bn .nil Cm U (af (pv 0) aj)))
   (ah (aA 2 mE.nd (ay ax (by rfl) T.n_len aZ (af (bX (pv 0) U) aj)))
   (ah (aA 3 mE.nd (aI.c N (af (pv 0) aj)))
   (ah (aA 4 mE.nd (a7.c N (af (pv 2) (af (pv 3) (af (pv 1) aj)))))
   (ao (aD (cj (af (aG (pv 4) ai) (af (a3.c N (af (pv 0) (af (aG (pv 4) ai) aj))) (af (bg.c N (af (pv 2) (af (pv 3) (af (pv 1) aj)))) aj)))))))))),3]
 erw[9,p,v,ks,rs,U,wf.r,kl,20,a6,λz H1 J=>kx z H1 J (KF.tb_same tb J),λrg H1 J=>?_]
 let kk:=kk rg;erw[9,p,WC,dx,fs,9,J _ _ j,cw.cl,cw.n4,l5,q5,z5,U,.inl (SqL.of (J _ _ ap)),3];rw[bp];erw[9,p,v,ks,rs,U,#[dx,fs,q1,xs,q6,z6,J _ _ j,l2,J _ _ al,tk.mono J,l6,J _ _ an,r6.mono J],kl,4,λq zs b s2 nq hq lk=>?_]
 let ln:=O.d.ln
 let bu:=O.d.lnk (λi l D=>by
  let k Y o _:=O.ws i l D
  erw[k,Y,o]) lk
 let ba:=O.d.marks (MK (aV ks) v.L);let ae:=J.Q s2;let bb:=KF.tb_same tb ae;let bv:=O.lok1 ∅
 let bm:=O.d.conn1 O.g U O.cr;let e y:=O.even1 ∅
 unfold rgh at rg;rw[ba]at rg;rw[ba];let bJ:KF.LnAt b (.ref q) ls:=#[q,zs,U,hq,bu];erw[2457,.ref q,rs.L,_,ls,U,bJ,bv,bi,bm,e,y,4,bb,λr4 c4 u4 H4 a4 aS a5 cc bB bK bU=>?_]
 let be:=(KF.SmT.of ae).Q a4;let ev:HR rs u4 (MK (aV ks) v.L):=λk r x=>by
  let a1:=O.d.oddN u4 x;let a2:=O.d.oddN (MK (aV ks) v.L) x;rw[ln]at bB;rw[bB,a2,rU,rU]at a1;let:=decide_eq_decide.mp a1;unfold parR at this ⊢;lia
 erw[9,r4,_,00,41,SqT.of a5,at0,153,r4,_,01,41,SqT.of a5,at1,p,u4,m,v,ts,ks,rs,U,wf.t.smT be,wf.r.smT be,g,ro,kl,84,a0,ev,λL H5 s5 ly=>?_]
 let b0:=KF.tb_same aS s5;let bN:=a4.Q (KF.SmT.of s5);erw[2457,.ref q,rs.L,_,ls,U,bJ.smT bN,bv,bi,bm,e,y,20,b0,λq7 b6 kv c7 H7 b8 aT aX ca k3 bP bR=>?_]
 erw[(by show 3<=QG;decide),λt ht=>?_]
 let st:=ak ht (.tup [.int c4,.int (L:G),.ref q7]);let ce:c7=c4:=OQ (bP.2 _ bK.1) (bK.2 _ bP.1);subst ce;let lo:=(bR.kept bv bB).1;rw[ln]at lo bU
 let cw:=A0 (u:=u4) (S:=UB v ks L) O.st (λi B=>by
  let M:=Ll B
  rw[ly.un i _ M,HP M]) v.L (Lq _)
 exact kk t q7 c7 L kv _ ((KF.SmT.of ae).Q (bN.Q (b8.Q (KF.SmT.of st)))) (KF.tb_same aT st) ag #[q7,b6,U,st _ _ aX,KF.pat_ls (ca.mono st)] k3 ly.lt ly.up (by unfold wor;lia) bR
def vd(L a:R):bit (L:G) (a:G)=if L.O a=kf then 1 else 0:=by
 unfold bit;rw[Lv];let e:((L:G)/2^a%2)=((L/2^a%2:R):G):=by rfl
 rw[e,Ot];let:=OJ (L/2^a) (show 0<2 by decide)
 by_cases z:L/2^a%2=1
 .rw[z,Rl U,R5 U];rfl
 .rw[QF z,R6 ∅]
  lia
def U_nat{ks:Kn}(m:ks.L=es.L)(a:∀ k∈ks,k.1=0∨k.1=1)(L t:R):ww es ks (L:G) t=UB es ks L t:=by
 by_cases c:t<es.L
 .let e eK:∃ e,es[t]?=Z e:=#[_,Ll c];let k o:∃ k,ks[t]?=Z k:=#[_,Ll ∅]
  rw[U_at eK o,HP eK,qA o];unfold unp;rw[vd,vd]
  cases L.O e.1<;>cases L.O e.2<;>cases decide (k.1=1)<;>decide
 .let Y:es[t]?=k7:=MI ∅
  unfold ww UB;rw[Y]
def dueB(n mk:R)(ls:E KF.Lk)(r:E KF.Pr):i0:=r.all (KF.cB n mk)&&ls.all (KF.lB r)
def mz(es:En)(ks:Kn)(rs:mo)(ls:E KF.Lk)(L:R)(r:E KF.Pr):i0:=dueB rs.L (KF.oddE ls (MK (aV ks) es.L) es.L) ls r&&decide ((r.h (·.2)).sum=2*wor es ks L)
inductive CM(TT PL PS WC:e8)
 |mk (p:e8)(m:R)(es:En)(ts rs:mo)(ks:Kn)(ls:E KF.Lk)(L:R)(pw:V)(r:E KF.Pr) (_:vs=[.ref p,.int (L:G),pw])(_:WebL TT PL PS WC H p m es ts rs ks)(_:KF.PpAt H pw r)(_:r.L<=3000)(_:Oth m es ts ks rs ls)(_:∀ H',mu H'->Q (.bl (mz es ks rs ls L r)) H')
def iU:az ["self","laying","unlike"] ["self","laying"] (aq bI):=by ac_nf
def Dv{d:i0}(F:Fun K "unpleased" "Tie.unpleased" bI f fd)(T:CT K C)(m:Met P w K mg base 1 C "wish" ["self"] (mw d) q eK):k9 2 f fd ["self","laying"] (vp C d):=by
 refine F.ok iU (by walk_at "l") λB A u s H L Q eg N h=>?_
 let p a b st l rfl{j g}i M k:=h;let n:=T.cl
 intro I o;erw[_,(ah (aA 2 iU.nd (aw fN (aw c9 (aw de (pv 1) (bX (pv 0) U)) (aw de (pv 1) (bX (pv 0) U))) ai))
   (ao (aD (cm i4 (pv 2) (mQ (pv 0) n m.me m.ok (N.mono ∅) m.bn .nil mT) (aE _))))),3]
 erw[153,p,C,j,37,g,T.cl,T.n1,oy _ _ _,165,i,3];erw[153,p,C,j,37,g,T.cl,T.n2,rN _ _ _,165,M,3];erw[239013];erw[153,p,j,9,g,sN _ _ _ ∅ ∅ ∅,p,14]
 erw[14];let e:=Cj (l/2^a.U) (l/2^b.U);let c:Q (V.bl (unp d a b l)) H:=k;unfold unp bit at c;rw[← e]at c;exact c
def vx:az ["web","laying"] ["web","laying"] (aq kR):=by ac_nf
def JX{PS:e8}{d0 d1:fk}(F:Fun K "unpleased" "unpleased" kR f fd)(T:Txt mg)(cw:CW K q)(TL:CT K PL)(TS:CT K PS)(ab:lc 1 "mask_of" ["places"] (oz K) a eK)(u0:Met P w K mg base 2 PL "unpleased" ["self","laying"] (vp PL kt) I d0)(u1:Met P w K mg base 2 PS "unpleased" ["self","laying"] (vp PS kf) f1 d1):
  k9 3 f fd ["web","laying"] (Ig PL PS q):=by
 refine F.ok vx (by walk_at "l") λt A u s H j Q eg N h=>?_
 obtain⟨p,v,ks,l,rfl,⟨⟨dx,fs,m,xs,g,ap,al,tk⟩,kl,aa⟩,kk⟩:=h;let aI:=TL.cl;let aS:=TS.cl;let am:xs.L=v.L:=tk.1;intro Xc Dc;erw[_,(ao (aD (ab.c N (af (dj [("laying",1)] ["number","tie"] (g9 U T.n_enumerate (af (bX (pv 0) U) aj)) (λC ex s H=>(eZ (n:=2) (K:=K) U U (aH (bc (i:=0) (show(["number","tie","laying"]:E ff).l from by decide) U (Or.inl U)) (aH (bc (i:=1) (show(["number","tie","laying"]:E ff).l from by decide) U (Or.inl U)) b7)))) (λC ex s H=>(jn (dM (FZ (tZ (pv 1) aI u0.me u0.ok (N.mono ∅) u0.bn .nil mT (af (pv 2) aj)) (tZ (pv 1) aS u1.me u1.ok (N.mono ∅) u1.bn .nil mT (af (pv 2) aj)))))) (λC ex s H=>(pv 0))) aj)))),3]
 erw[9,p,q,dx,fs,9,g,cw.cl,cw.n2,ap,m,U,#[_,SqL.of al],gO (K:=K) (xs:=xs) (λi O Y=>mu Y/\O=(upL (ww v ks l) i).h iV) (LN (av ∅)) #[λ_ _ e=>e,U] (λi O Y _ z=>SqL.of (z.1 _ _ al)) ?_ ?_ ?_]
 .rintro i x O Y T2 J ⟨d,rfl⟩ ac;let B:i<v.L:=by grind
  let e L:∃ e,v[i]?=Z e:=#[_,Ll B];let k o:∃ k,ks[i]?=Z k:=#[_,Ll ∅]
  let r:=d.Q (ak ac (.tup [.int (i:G),x]));let p' ae x1 x2:=(tk.mono r).2 i e k L o;rw[J]at x1
  cases x1
  erw[T2,9,SqT.of ag,959894];let hU:=U_at (l:=l) L o;let an:∀ b:i0,b=ww v ks l i->(if b=kf then tVar 0 ([Z (.int (i:G)),Z (.ref p'),Z (.int l)]:St) (upd Y T2 (.tup [.int (i:G),.ref p'])) (λy H4=>mu H4/\(upL (ww v ks l) i).h iV++[y]=(upL (ww v ks l) (i+1)).h iV) else mu (upd Y T2 (.tup [.int (i:G),.ref p']))/\(upL (ww v ks l) i).h iV=(upL (ww v ks l) (i+1)).h iV):=λb M=>by
   rw[pC,← M]
   cases b with
   |true =>
    refine iteT #[9,r,3];rw[R5 U,LC];rfl
   |false =>
    refine iteF #[r,3];rfl
  by_cases c:k.1=1
  .rw[Rl c]at x2 hU;refine .inr #[9,p',ae,9,x2,sN _ _ _ ∅ ∅ ∅,9,p',21,l,U,#[ae,x2],932]
   exact an _ hU.Y
  .rw[QF c]at x2 hU;refine .inl #[9,p',ae,9,x2,sN _ _ _ ∅ ∅ ∅,9,p',21,l,U,#[ae,x2],932]
   exact an _ hU.Y
 .rintro O Y ⟨d,rfl⟩ D hD;rw[am];erw[D,upL (ww v ks l) v.L,U,SqL.of ag,λp g=>?_,3]
  .let:=Mz.mp (Nv.mp g).1;lia
  .rw[qI];exact kk _ (d.Q (ak hD _))
 .rintro i O Y ⟨_,rfl⟩;rw[Lp];exact MB (NZ _ _) (by simp)
def Bh:az ["web","laying","paper"] ["web","laying","paper"] (aq qy):=by ac_nf
def Kh{TT PS WC:e8}{d1 d3 d4:fk}(F:Fun K "certain" "certain" qy f fd){TR:e8}(T:TxtO mg TR)(cw:CW K WC)(a1:lc 5 "examined" ["many","links","marks","used","paper"] KF.spExam f1 d1)(ap:lc 1 "links_of" ["web"] (xD PL PS WC) f2 eK)(am:lc 3 "odd_rounds" ["web"] (CC PL PS WC) C d3)(aX:lc 3 "unpleased" ["web","laying"] (Ig PL PS WC) I d4):k9 6 f fd ["web","laying","paper"] (CM TT PL PS WC):=by
 refine F.ok Bh (by walk_at "l") λaa A M s H vs Q eg N h=>?_
 let p m v ts rs ks ls L pw r rfl wl pp r3 O kk:=h;let{S wf}g kl aT kb ab e0 tb:=wl;let dx fs z J t wg _ l2 ae tk:=id wf;let q5 z5 l5 an r5:=wg.rounds;let q6 z6 l6 al r6:=wg.sides;let ro:=wg.part;let cnt:=lD g ro;let m2:=g.two e0;let a0:∀ r∈rs,r.L<=900:=λr N=>by
  let:=dP (ro.ring r N).nd (ro.ring r N).lt;lia
 let a3:z5.L=rs.L:=r5.1;intro Xc Dc;erw[_,(ao (aD (a1.c N (af (ay ax (by rfl) T.n_len aZ (af (bX (pv 0) U) aj)) (af (ap.c N (af (pv 0) aj)) (af (am.c N (af (pv 0) aj)) (af (aX.c N (af (pv 0) (af (pv 1) aj))) (af (pv 2) aj)))))))),3]
 erw[9,p,WC,dx,fs,9,t,cw.cl,cw.n4,l5,q5,z5,U,.inl (SqL.of an),3];rw[a3];erw[9,p,v,ks,rs,U,#[dx,fs,z,J,q6,z6,t,l2,ae,tk,l6,al,r6],kl,4,λq x u b nq y lk=>?_]
 let ln:=O.d.ln
 let a4:=O.d.lnk (λi l D=>by
  let k Y o _:=O.ws i l D
  erw[k,Y,o]) lk
 let a2:=O.d.marks (MK (aV ks) v.L);erw[9,p,v,ks,rs,U,wf.r.mono b,kl,20,a0,λH3 s3=>?_]
 let aS:=b.Q s3;erw[153,p,v,ks,(L:G),U,#[#[dx,fs,z,J,aS _ _ t,l2,aS _ _ ae,tk.mono aS],kl,4],λH4 s4=>?_]
 let aI:=aS.Q s4;rw[a2];erw[9,rs.L,_,.ref q,pw,_,ls,r,U,(show KF.LnAt u (.ref q) ls from#[q,x,U,y,a4]).mono (s3.Q s4),pp.mono aI,O.lok1 ∅,r3,λH5 s5=>?_]
 let ac:=kk H5 (aI.Q s5);let eU:MK (ww v ks (L:G)) v.L=MK (UB v ks L) v.L:=zZ (n:=v.L) (MU _ λi B=>by rw[fV,QF ∅,MO]) (MU _ λi B=>by rw[fV,QF ∅,MO]) λa e=>by rw[fV,fV,U_nat kl aT]
 let lt:MK (UB v ks L) v.L<2^v.L:=MU _ λi B=>by rw[fV,QF ∅,MO]
 let eq:KF.exB rs.L (KF.oddE ls (MK (aV ks) v.L) v.L) ls ((MK (ww v ks (L:G)) v.L:R):G) r=mz v ks rs ls L r:=by
  unfold KF.exB mz dueB;let j:KF.jB ls (KF.oddE ls (MK (aV ks) v.L) v.L) ((MK (ww v ks (L:G)) v.L:R):G)=kf:=by
   unfold KF.jB;rw[eU,KF.ends_is,ln,O.lay,Lv,Rl U,i0.and_true];refine Rl ?_;let:(((MK (UB v ks L) v.L:R):G)/2^v.L)=((MK (UB v ks L) v.L/2^v.L:R):G):=by rfl
   rw[this,P7 lt];rfl
  rw[j,Mq,i0.and_assoc,eU,KF.cost_is,ln,A0 O.st (λi B=>by rw[fV,Rl B,Mq]) _ (Lq _)]
  rfl
 show Q (.bl (KF.exB rs.L (KF.oddE ls (MK (aV ks) v.L) v.L) ls ((MK (ww v ks (L:G)) v.L:R):G) r)) H5;rw[eq];exact ac
inductive Cu
 |mk (t pe pt pk:e8)(c:G)(m:R)(es:En)(ts:mo)(ks:Kn) (_:vs=[.ref t,.int c])(_:eQ H t pe pt pk m es ts ks)(_:(∀ k∈ks,k.2<=10^(30:G).U))(_:∀(t' pk':e8)(ks':Kn)(H':Hp),mu H'->eQ H' t' pe pt pk' m es ts ks'->(∀ k∈ks',k.2<=10^(30:G).U)->Q (.ref t') H')
theorem Eg:∀(f n:R),n<=f->0<n->K1.go (n&&&(n-1))+1=K1.go n
 |0,n,h,l=>by lia
 |f+1,n,h,l=>by
  rw[K1.go_eq n,K1.go_eq (n&&&(n-1)),Nat.and_div_two];let t:(n&&&(n-1))%2=1↔n%2=1/\(n-1)%2=1:=Nat.and_mod_two_eq_one;let z:(n&&&(n-1))%2=0:=by
   let:¬ (n&&&(n-1))%2=1:=λe=>by let:=t.mp e;lia
   lia
  rw[z];by_cases o:n%2=1
  .let e:(n-1)/2=n/2:=by lia
   grind
  .let e:(n-1)/2=n/2-1:=by lia
   let O:=Eg f (n/2) ∅ ∅
   simp!
theorem nA(a b:G):decide (V.int a=V.int b)=decide (a=b):=decide_eq_decide.mpr #[V.int.inj,congrArg V.int]
inductive Ao
 |mk (n:R) (_:vs=[.int (n:G)])(_:Q (.bl (decide (K1.go n%2=1))) H)
inductive spDen
 |mk (t pe pt pk:e8)(m:R)(es:En)(ts:mo)(ks:Kn)(L k:R) (_:vs=[.ref t,.int (L:G),.int (k:G)])(_:eQ H t pe pt pk m es ts ks)(_:k<es.L)(_:Q (.bl (UB es ks L k)) H)
inductive FF
 |mk (t pe pt pk:e8)(m:R)(es:En)(ts:mo)(ks:Kn)(L:R) (_:vs=[.ref t,.int (L:G)])(_:eQ H t pe pt pk m es ts ks)(_:∀ H',mu H'->Q (.int (wor es ks L)) H')
def vC:az ["built","cell"] ["built","cell"] (aq kY):=by ac_nf
def Gd(F:Fun K "_law_small" "_law_small" kY f fd)(T:Txt mg):k9 1 f fd ["built","cell"] Cu:=by
 refine F.ok vC (by walk_at "l") λB A u s H L Q eg N h=>?_
 let t pe pt pk c m v r b rfl bp kb y:=h;let I:=bp.few;let kl:=bp.kl;let n wp{g ab O}_ _:=id bp;let al:g.L=b.L:=O.1
 intro Xc Dc;erw[_,(ah (bH (aC i4 (aw bG (pv 1) ai) ai (aE _)) (ao (aD (pv 0))) aM)
   (ao (aD (cj (af (aG (pv 0) ai) (af (aG (pv 0) ai) (af (dj [] ["one"] (aN (aG (pv 0) ai)) pg_c pt_c (λC p s H=>(cj (af (iZ K (pv 0) ai) (af (aw bG (iZ K (pv 0) ai) ai) aj))))) aj))))))),3]
 erw[2649,(by show(0:G)<3;decide),38,ite2 (λ_=>?_) (λ_=>?_)]
 .erw[9,y t pk b H (λ_ _ z=>z) bp kb]
 erw[9,t,_,00,41,SqT.of n,at30,9,t,_,01,41,SqT.of n,at31,9,t,_,02,41,SqT.of n,at32,pk,U,#[_,SqL.of ab],bq (K:=K) (xs:=g) (λi M Y=>∃ j:Kn,mu Y/\iY Y M j/\j.L=i/\∀ k∈j,k.2<=10^(30:G).U) (LN (av ∅)) #[[],λ_ _ z=>z,#[U,λi k e=>by contradiction],U,λk z=>nomatch z] (λi M Y _ ⟨_,z,_⟩=>SqL.of (z _ _ ab)) ?_ ?_]
 .rintro i x M Y J ⟨j,o,td,ap,am⟩;let k eK:∃ k,b[i]?=Z k:=#[_,Ll (by rw[← al];exact(Lm.mp J).1)]
  let ae k0 t2 q a:=O.2 i k eK;rw[J]at q
  cases q
  erw[9,t2,_,00,41,SqT.of (o _ _ a),at0,9,t2,_,01,41,SqT.of (o _ _ a),at1,165,(by show(0:G)<4;decide),(by show 2<=QG;decide),λt3 ac=>?_]
  let l:=ak ac (.tup [.int k.1,.int (k.2%4)]);erw[j++[(k.1,k.2%4)],o.Q l,(td.mono l).snoc ag ae (by grind),by simp[*],λx J=>?_]
  obtain z|z:=LG.mp J
  .exact am x z
  .rw[LY.mp z];show k.2%4<=_;lia
 rintro M Y zl ⟨j,o,td,ap,am⟩ D d;let sD:=ak d (.lst M);erw[(by show 3<=QG;decide),λt4 an=>?_]
 let s4:=ak an (.tup [.ref pe,.ref pt,.ref D]);let aa:=(o.Q sD).Q s4;exact y t4 D j _ aa #[ag,wp.mono aa,#[M,s4 _ _ ag,(td.mono sD).mono s4],I,4] am
def jY:az ["mask","count"] ["mask"] (aq qx):=by ac_nf
def Kd(F:Fun K "_law_odd" "_law_odd" qx f fd):k9 1 f fd ["mask"] Ao:=by
 refine F.ok jY (by walk_at "l") λt A u s H L Q eg N h=>?_
 let n rfl y:=h
 intro I o;erw[_,(ah (aA 1 jY.nd ai)
   (ah (fB PassesOwn.never (aC ye (pv 0) ai (aE _)) (ah (aA 0 jY.nd (aw fN (pv 0) (aw iW (pv 0) ai)))
   (ao (Iv (i:=1) jY.nd U (Or.inl U) ai IJ))))
   (ao (aD (cm cR (aw bG (pv 1) ai) ai (aE _)))))),3]
 refine fY (λO d=>∃(k c:R),O=[Z (.int (k:G)),Z (.int (c:G))]/\d=H/\K1.go k+c=K1.go n) (λO _=>match O with | [Z (.int k),_]=>k.U|_=>0) #[n,00,42] ?_ ?_
 .rintro O d ⟨k,c,rfl,rfl,Y⟩;erw[236121];refine ite2 (λz=>?_) (λz=>?_)
  .let eK:0<k:=by simp!
   let g:Q4 (k:G) ((k:G)-1)=((k&&&(k-1):R):G):=by
    rw[show(k:G)-1=((k-1:R):G) by lia,PyProof.Rows.bitAnd_pp (NT _) (NT _),Lv,Lv]
   let T:=Eg k k (Lq _) eK;let lt:k&&&(k-1)<k:=by
    let:k&&&(k-1)<=k-1:=Nat.and_le_right;lia
   erw[61187481];erw[14937];erw[#[k&&&(k-1),c+1,75],3]
   .simp[*]
   .simp[*]
  .let a:k=0:=by simp!
   subst a;rw[K1.go_zero,Oz]at Y;subst Y;erw[2649,(by show(0:G)<2;decide),14]
   let e:decide (V.int ((K1.go n:R)%2:G)=V.int 1)=decide (K1.go n%2=1):=by grind
   rw[← e]at y;exact y
 .rintro O v q r B ⟨m,C,l,x,D,M,b,p,j⟩;erw[m,C,l,x,D,M,b,p,B _ _ j]
def mF:az ["built","laying","k","end"] ["built","laying","k"] (aq jb):=by ac_nf
def ok_den(F:Fun K "_law_denied" "_law_denied" jb f fd):k9 1 f fd ["built","laying","k"] spDen:=by
 refine F.ok mF (by walk_at "l") λB A u s H M Q eg N h=>?_
 let t l pt T m v i x L k rfl bp o y:=h;let D:=bp.kl;let n wp{g aa I}_ _:=id bp;let O d Y:=wp.en;let e eK:∃ e,v[k]?=Z e:=#[_,Ll o];let kd ab:∃ kd,x[k]?=Z kd:=#[_,Ll ∅]
 let p r b:=Y.2 k e eK;let ac k0 J q a:=I.2 k kd ab
 intro j C;erw[_,(ah (aA 3 mF.nd (a8 (aG (pv 0) ai) (pv 2)))
   (ao (aD (cm i4 (aw fN (aw c9 (aw de (pv 1) (aG (pv 3) ai)) (aw de (pv 1) (aG (pv 3) ai))) ai) (aG (a8 (aG (pv 0) ai) (pv 2)) ai) (aE _))))),3]
 erw[9,t,_,00,41,SqT.of n,at30,9,l,O,165,SqL.of d,aB r,3];erw[153,p,_,00,41,SqT.of b,at0,165,NT _,153,p,_,01,41,SqT.of b,at1,165,NT _,632229,t,_,02,41,SqT.of n,at32,9,T,g,165,SqL.of aa,aB q,J,_,00,41,SqT.of a,at0,14];let c:(!decide (V.int (Q4 (Q6 ((L:G)/2^((e.1:R):G).U) ((L:G)/2^((e.2:R):G).U)) 1)=V.int kd.1))=UB v x L k:=by
  rw[Cj,HP eK,qA ab];let b1:(L:G)/2^((e.1:R):G).U%2=bit (L:G) (e.1:G):=rfl;let b2:(L:G)/2^((e.2:R):G).U%2=bit (L:G) (e.2:G):=rfl;rw[b1,b2,vd,vd];obtain z|z:=ac<;>rw[z]<;>cases L.O e.1<;>cases L.O e.2<;>decide
 rw[← c]at y;exact y
def vA:az ["built","laying"] ["built","laying"] (aq kW):=by ac_nf
def ok_wor{d1:fk}(F:Fun K "_law_worth" "_law_worth" kW f fd)(T:Txt mg)(al:lc 1 "_law_denied" ["built","laying","k"] spDen f1 d1):k9 2 f fd ["built","laying"] FF:=by
 refine F.ok vA (by walk_at "l") λb A u s H j Q eg N h=>?_
 let t pe pt pk m v r x L rfl bp y:=h;let J:=bp.few;let kl:=bp.kl;let n wp{g ac I}_ _:=id bp;let O ab hE:=wp.en;let yl:O.L=v.L:=hE.1;intro Xc Dc;erw[_,(ao (aD (ay (gu U) (by rfl) T.n_sum nJ (af (dj [("laying",1),("built",0)] ["k"] (aO U T.n_range (af (ay ax (by rfl) T.n_len aZ (af (aG (pv 0) ai) aj)) aj)) pg_c (λC o s H=>(jn (dM (al.c N (af (pv 2) (af (pv 1) (af (pv 0) aj))))))) (λC o s H=>(iZ K (vK K (iZ K (pv 2) ai) (pv 0)) ai))) aj)))),3]
 erw[9,t,_,00,41,SqT.of n,at30,pe,O,U,.inl (SqL.of ab),329,l8 (k:=(O.L:G).U) (λi M Y=>Y=H/\∃ eK:E G,M=eK.h V.int/\eK.sum=(prL x (UB v x L) i).sum/\eK.L<=i) (LN (av ∅)) #[U,[],10,Mh _] ?_ ?_ (λi M Y aa=>by let _ eK e _ l:=aa;simp[*])]
 .rintro i M Y B ⟨rfl,eK,rfl,p,d⟩;rw[Lv,yl]at B;let e0:(0:G)+(i:G)=(i:G):=MP _;rw[e0];let kd ae:∃ kd,x[i]?=Z kd:=#[_,Ll ∅]
  let am k0 t2 q a:=I.2 i kd ae;let sg:stg x i=kd.2:=by unfold stg;rw[ae]
  erw[9830,t,pe,pt,pk,m,v,r,x,L,i,U,bp,B,57]
  cases hU:UB v x L i with
  |true =>
   refine iteT #[9,t,_,02,41,SqT.of n,at32,9,pk,g,165,SqL.of ac,aB q,t2,_,01,41,SqT.of a,at1,U,eK++[kd.2],by rw[LC];rfl,3,by simp[*]]
   rw[tR,NX,NX,p,hU,R5 U,sg]
  |false =>
   refine iteF #[U,eK,78]
   rw[tR,NX,p,hU,R6 LZ];simp
 rintro M Y ⟨rfl,eK,rfl,p,_⟩ D z;rw[Lv,yl]at p;erw[D,eK,U,SqL.of ag,3];rw[p];exact y _ (ak z _)
def WI(kvs:E (Key×V))(rs:mo):Prop:=(∀(d a:R)(r:E R),rs[a]?=Z r->d∈r->valV kvs (Sum.inl (d:G))=Z (.int (a:G)))/\∀ d:R,d∉rs.flatten->valV kvs (Sum.inl (d:G))=k7
def SdAt(H:Hp)(zs:E V)(N:R)(rs:mo)(sd:E (R×R)):Prop:=sd.L=N/\cJ H zs sd/\∀(i:R)(x:R×R),sd[i]?=Z x->(∃ r,rs[x.1]?=Z r/\2*i∈r)/\∃ r,rs[x.2]?=Z r/\2*i+1∈r
inductive spSd
 |mk (t pe pt pk:e8)(m:R)(es:En)(ts:mo)(ks:Kn)(rs:mo) (_:vs=[.ref t])(_:eQ H t pe pt pk m es ts ks)(_:bw (fol es ts) (2*es.L) (2*es.L) rs)(_:∀(q:e8)(zs:E V)(sd:E (R×R))(H':Hp),mu H'->H q=k7->H' q=Z (.lst zs)->SdAt H' zs es.L rs sd->Q (.ref q) H')
def cV:az ["built","where","many","dart","each"] ["built"] (aq kZ):=by ac_nf
def ok_sd{d1:fk}(F:Fun K "_law_sides" "_law_sides" kZ f fd)(T:Txt mg)(aI:lc 3 "_law_round" ["ends","turns","dart"] (sS K) f1 d1):k9 4 f fd ["built"] spSd:=by
 refine F.ok cV (by walk_at "l") λaa A I s H vs Q eg N h=>?_
 let t pe pt pk m v ts ks ba rfl bp be kk:=h;let hu:=uz N;let ab:=bp.few;let p wp _ _ _:=id bp;let l an hE:=wp.en;let xs ap hX:=wp.tu;let tw:=wp.g.w;let pm:=perm tw;let yl:l.L=v.L:=hE.1
 intro Xc Dc;erw[_,(ah (aA 1 cV.nd mR)
   (ah (aA 2 cV.nd ai)
   (ah (mj (aO U T.n_range (af (aw cz ai (ay ax (by rfl) T.n_len aZ (af (aG (pv 0) ai) aj))) aj)) (bW 3 cV.nd) (ao (bH (AB (mS hu (pv 3) (pv 1))) (ah (mj (aN (aI.c N (af (aG (pv 0) ai) (af (aG (pv 0) ai) (af (pv 3) aj))))) (bW 4 cV.nd) (ao (lF hu (pv 1) (pv 4) (pv 2) U)))
   (ao (Iv (i:=2) cV.nd U (Or.inl U) ai IJ))) aM)))
   (ao (aD (dj [("where",1)] ["k"] (aO U T.n_range (af (ay ax (by rfl) T.n_len aZ (af (aG (pv 0) ai) aj)) aj)) pg_c pt_c (λC ex s H=>(cj (af (ib hu (pv 1) (aw cz ai (pv 0)) (λ_ _=>rfl)) (af (ib hu (pv 1) (aw cA (aw cz ai (pv 0)) ai) (λ_ _=>rfl)) aj)))))))))),3]
 refine λd hd=>?_;let sd:=ak hd (.dK []);let hN:(2*(l.L:G)).U=2*v.L:=by lia
 erw[9,t,_,00,41,SqT.of (sd _ _ p),at30,pe,l,U,.inl (SqL.of (sd _ _ an)),165,.inl #[by decide,by decide],329,bY (n:=(2*(l.L:G)).U) (λi O u=>∃ v3 v4 rs o,O=[Z (.ref t),Z (.ref d),Z (.int ((rs.L:R):G)),v3,v4]/\mu u/\u d=Z (.dK o)/\o.L<=rs.flatten.L/\WI o rs/\bw (fol v ts) (2*v.L) i rs)
  #[5,[],[],U,sd,ag,Lq _,#[λd a r e=>by simp at e,λd _=>rfl],rS _ _] ?_ ?_]
 .rintro i O u B ⟨v3,v4,rs,o,rfl,eK,aX,kl,wi,ro⟩;rw[hN]at B;let e0:(0:G)+(i:G)=(i:G):=MP _;rw[e0];let fl:=qc ro;erw[9625,DGet.k (k:=Sum.inl (i:G)) aX,57];refine ite2 (λc=>?_) (λc=>?_)
  .let a3:i∉rs.flatten:=λz=>by
    let r Y L:=Mo.mp z;let a ha:=Mx Y;rw[wi.1 i a r ha L]at c
    cases c
   erw[9,t,_,00,41,SqT.of (eK _ _ p),at30,9,t,_,01,41,SqT.of (eK _ _ p),at31,9,pe,pt,l,xs,m,v,ts,i,U,SqL.of (eK _ _ an),hE.mono eK,SqL.of (eK _ _ ap),hX.mono eK,tw,4,B,λq r H3 s3 hq a1 pa ri=>?_]
   let aT:=eK.Q s3;let rl:r.L<=2*v.L:=dP ri.nd ri.lt;let a2:q≠d:=λz=>by rw[z,aX]at hq;cases hq
   erw[q,U,#[_,SqL.of a1],bO (K:=K) (xs:=r.h iV) (λj O H5=>∃ v4 ac,O=[Z (.ref t),Z (.ref d),Z (.int ((rs.L:R):G)),Z (.int (i:G)),v4]/\mu H5/\H5 q=Z (.lst (r.h iV))/\H5 d=Z (.dK ac)/\ac.L<=rs.flatten.L+j/\∀ x:R,valV ac (Sum.inl (x:G))=if x∈r.j j then Z (.int ((rs.L:R):G)) else valV o (Sum.inl (x:G)))
    #[_,o,U,aT,a1,s3 _ _ aX,kl,λx=>by rw[List.take_zero,R6 Ny]] (λj O H5 _ am=>by let _ _ _ _ z _:=am;exact SqL.of z) ?_ ?_]
   .rintro j x O H5 J ⟨bg,ac,rfl,s5,f1,f2,a0,aS⟩;rw[LA]at J;let g hg rfl:=LL.mp J;let bb:j<r.L:=(Lm.mp hg).1;erw[2457,d,9,DPut.k (k:=Sum.inl (g:G)) f2 (av ∅),3]
    erw[37,aJ s5 hd _,by rw[ar a2];exact f1,ag,by let:=dY ac (Sum.inl (g:G)) (V.int ((rs.L:R):G));lia,λx=>?_]
    rw[fZ];let tk:r.j (j+1)=r.j j++[g]:=by rw[LK,hg];rfl
    rw[tk];by_cases z:x=g
    .subst z;rw[R5 U,R5 (by simp)]
    .rw[R6 (λy=>z (by let:=Sum.inl.inj y;lia)),aS x]
     let:x∈r.j j++[g]↔x∈r.j j:=by simp[z]
     by_cases q:x∈r.j j
     .rw[R5 q,R5 (this.mpr q)]
     .rw[R6 q,R6 (λy=>q (this.mp y))]
   .rintro O H5 ⟨bg,ac,rfl,s5,f1,f2,a0,aS⟩;rw[Lp]at a0 aS;rw[LP]at aS;let bi:=ro.put pm a3 B ri pa;let a4:∀ x,x∈rs.flatten->x∉r:=λx Y L=>by
     let:=bi.nd;rw[MN,O9]at this;exact(LV.mp this).2.2 x Y x L U
    erw[14937];erw[Z (.int (i:G)),bg,rs++[r],ac,3,s5,f2,by rw[MN,O9,Lx];exact a0,#[λx a r' ha J=>?_,λx J=>?_],bi]
    .rw[Lx];rfl
    .rw[aS x];by_cases al:a<rs.L
     .rw[Ls al]at ha;rw[R6 (a4 x (Mo.mpr #[r',Ln ha,J]))];exact wi.1 x a r' ha J
     .let bn:=(Lm.mp ha).1
      rw[Lx,LR]at bn;let ae:a=rs.L:=by lia
      subst ae;rw[Lr (Lq _),Mf]at ha
      cases ha
      rw[R5 J]
    .rw[MN,O9,LG]at J;rw[aS x,R6 (λy=>J (.inr y))];exact wi.2 x λy=>J (.inl y)
  .let a7:i∈rs.flatten:=by
    by_cases z:i∈rs.flatten
    .exact z
    .exact R7 (by rw[wi.2 i z];rfl) c
   erw[5,rs,o,U,eK,aX,kl,wi,ro.skip a7]
 .rintro O u ⟨v3,v4,rs,o,rfl,eK,aX,kl,wi,ro⟩;rw[hN]at ro;let bm:∀ x,x<2*v.L->∃ a,valV o (Sum.inl (x:G))=Z (.int ((a:R):G))/\∃ r,ba[a]?=Z r/\x∈r:=λx J=>by
   let a r Y L:=ro.at J;let b r' h3 h4:=be.at J;let:=ro.same be Y h3 L h4;subst this;erw[a,wi.1 x a r Y L,r',h3,h4]
  erw[9,t,_,00,41,SqT.of (eK _ _ p),at30,pe,l,U,.inl (SqL.of (eK _ _ an)),329,cH (n:=(l.L:G).U) (λi zs H5=>∃ sd:E (R×R),Same u H5/\cJ H5 zs sd/\sd.L=i/\∀(j:R)(x:R×R),sd[j]?=Z x->(∃ r,ba[x.1]?=Z r/\2*j∈r)/\∃ r,ba[x.2]?=Z r/\2*j+1∈r) (LN (av ∅)) #[[],λ_ _ e=>e,#[U,λi e z=>by simp at z],U,λj x z=>by simp at z] ?_ ?_]
  .rintro i zs H5 B ⟨sd,s5,hz,sl,hs⟩;rw[Lv,yl]at B;let e0:(0:G)+(i:G)=(i:G):=MP _;rw[e0];let a ha a6:=bm (2*i) ∅
   let b M bu:=bm (2*i+1) ∅
   let a5:=s5 _ _ aX;erw[42393,.inl #[by decide,by decide],d,9,.inl #[_,.inl ((2*i:R):G),.inl a5,U,ha.Y],42393,.inl #[by decide,by decide],165,d,9,.inl #[_,.inl ((2*i+1:R):G),.inl a5,U,M.Y],(by show 2<=QG;decide),λg hg=>?_]
   let sg:=ak hg (.tup [.int (a:G),.int (b:G)]);erw[sd++[(a,b)],s5.Q sg,(hz.mono sg).snoc ag,by rw[Lx,sl];rfl,λj x J=>?_]
   by_cases jl:j<sd.L
   .rw[Ls jl]at J;exact hs j x J
   .let bv:=(Lm.mp J).1
    rw[Lx,LR]at bv;let je:j=sd.L:=by lia
    rw[je,Lr (Lq _),Mf]at J
    cases J
    rw[je,sl];erw[a6,bu]
  rintro zs H5 _ ⟨sd,s5,hz,sl,hs⟩ D hD;rw[Lv,yl]at sl;let sD:=ak hD (.lst zs);exact kk D zs sd _ (eK.Q (s5.Q sD)) (vP (eK.Q s5) hD) ag #[sl,hz.mono sD,hs]
open KF (andN orN shlN xorN)
structure LsS(sd:E (R×R))(ks:Kn)(N:R)(ls:E KF.Lk):Prop where
 ln:ls.L=N
 sl:sd.L=N
 sd:∀(i:R)(l:KF.Lk),ls[i]?=Z l->sd[i]?=Z (l.1,l.2.1)/\∃ k,ks[i]?=Z k/\l.2.2=k.2
 lt:∀ l∈ls,l.1<40/\l.2.1<40
def Oth.lsS{ks:Kn}(O:Oth m es ts ks rs ls)(f:rs.L<=40)(h:SdAt H zs es.L rs sd):LsS sd ks es.L ls:=by
 let Q _ p:=h;erw[O.d.ln,Q,λi l D=>#[15],λl D=>?_]
 .let v:=(Lm.mp D).1
  let e:=O.d.ln;let x J:∃ x,sd[i]?=Z x:=#[_,Ll ∅]
  let{A n b1}o I b2:=p i x J;let{g c b3}s q b4:=O.d.sd i l D;let C:=O.ro.same O.ro n c b1 b3;let eg:=O.ro.same O.ro I q b2 b4;rw[J,← C,← eg]
 .let k a b _:=O.ws i l D;erw[k,a,b]
 .let a b:=O.d.rooms l D;lia
inductive JD
 |mk (t pe pt pk q:e8)(m:R)(es:En)(ts:mo)(ks:Kn)(zs:E V)(sd:E (R×R))(ls:E KF.Lk) (_:vs=[.ref t,.ref q])(_:eQ H t pe pt pk m es ts ks)(_:H q=Z (.lst zs))(_:cJ H zs sd)(_:LsS sd ks es.L ls)(_:Q (.int ((KF.oddE ls (MK (aV ks) es.L) es.L:R):G)) H)
def gh:az ["built","sides","marks","k"] ["built","sides"] (aq lj):=by ac_nf
def ok_mks(F:Fun K "_law_marks" "_law_marks" lj f fd)(T:Txt mg):k9 1 f fd ["built","sides"] JD:=by
 refine F.ok gh (by walk_at "l") λb A u s H j Q eg N h=>?_
 let t pe pt pk q m v k x M sd eK rfl bp y hz L r:=h;let J:=bp.few;let kl:=bp.kl;let I wp{g aa e}_ _:=id bp;let zl:M.L=v.L:=by rw[hz.1,L.sl]
 intro Xc Dc;erw[_,(ah (aA 2 gh.nd ai)
   (ah (mj (aO U T.n_range (af (ay ax (by rfl) T.n_len aZ (af (pv 1) aj)) aj)) (bW 3 gh.nd) (ao (bH (aC cR (aG (a8 (aG (pv 0) ai) (pv 3)) ai) ai (aE _)) (ao (aA 2 gh.nd (aw c9 (aw c9 (pv 2) (aw b9 ai (aG (a8 (pv 1) (pv 3)) ai))) (aw b9 ai (aG (a8 (pv 1) (pv 3)) ai))))) aM)))
   (ao (aD (pv 2))))),3]
 erw[9,q,M,U,.inl (SqL.of y),329,bY (n:=(M.L:G).U) (λi O Y=>∃ v3,O=[Z (.ref t),Z (.ref q),Z (.int ((KF.oddE eK (MK (aV x) v.L) i:R):G)),v3]/\Y=H) #[41] ?_ ?_]
 .rintro i O Y B ⟨v3,rfl,rfl⟩;rw[Lv,zl]at B;let e0:(0:G)+(i:G)=(i:G):=MP _;rw[e0];let kd ab:∃ kd,x[i]?=Z kd:=#[_,Ll ∅]
  let ac k0 t2 C a:=e.2 i kd ab;let l d:∃ l,eK[i]?=Z l:=#[_,Ll (by rw[L.ln];exact B)]
  let p x1 x2:=hz.2 i _ (L.sd i l d).1;let ae:=L.lt l (Ln d);let pu:=qA ab;let st:KF.oddE eK (MK (aV x) v.L) (i+1)=if aV x i=kf then KF.oddE eK (MK (aV x) v.L) i^^^KF.endX (KF.lkA eK i) else KF.oddE eK (MK (aV x) v.L) i:=by
   show(if(MK (aV x) v.L).O i=kf then _ else _)=_;rw[fV,Rl B,Mq]
  erw[9,t,_,02,41,SqT.of I,at32,9,pk,g,165,SqL.of aa,aB C,t2,_,00,41,SqT.of a,at0,38,ite2 (λc=>?_) (λc=>?_)]
  .let D:kd.1=1:=V.int.inj (RS c)
   rw[Rl D]at pu;erw[2457,q,M,165,SqL.of y,aB x1,p,_,00,41,SqT.of x2,at0,165,#[20,by decide],39333,q,M,165,SqL.of y,aB x1,p,_,01,41,SqT.of x2,at1,165,#[20,by decide],933]
   erw[Z (.int (i:G)),11];let o:Q6 (Q6 ((KF.oddE eK (MK (aV x) v.L) i:R):G) (1*2^((l.1:R):G).U)) (1*2^((l.2.1:R):G).U)=((KF.oddE eK (MK (aV x) v.L) (i+1):R):G):=by
    rw[shlN,shlN,xorN,xorN,st,pu,R5 U,KF.lkA_is d,MC];rfl
   rw[← o];rfl
  .let D:¬ kd.1=1:=λz=>c (Rl (by rw[z]))
   rw[QF D]at pu;erw[Z (.int (i:G)),11];simp[*]
 .rintro O Y ⟨v3,rfl,rfl⟩;rw[Lv,zl];erw[9,r]
theorem zY:∀(f n k:R),n<=f->(K2.bitsF k n).L=K1.go n
 |0,n,k,h=>by
  let z:n=0:=by lia
  subst z;rw[K2.bitsF_zero,K1.go_zero];rfl
 |f+1,n,k,h=>by
  by_cases z:n=0
  .subst z;rw[K2.bitsF_zero,K1.go_zero];rfl
  .rw[K1.go_eq];by_cases o:n%2=1
   .rw[K2.bitsF_odd o,MG,zY f (n/2) (k+1) ∅]
    lia
   .rw[K2.bitsF_even z o,zY f (n/2) (k+1) ∅]
    lia
theorem go_bl(n:R):(KF.bl n).L=K1.go n:=zY n n 0 (Lq _)
def sh_c{ks:Kn}{r:E KF.Pr}(h:r.all (KF.cB rs.L (KF.oddE ls (MK (aV ks) es.L) es.L))=kt):mz es ks rs ls L r=kt:=by unfold mz dueB;simp[*]
def sh_l{ks:Kn}{r:E KF.Pr}(h:ls.all (KF.lB r)=kt):mz es ks rs ls L r=kt:=by unfold mz dueB;simp[*]
def Ja{l:E α}{f:α->i0}{x:α}(h:l[i]?=Z x)(J:f x=kt):l.all f=kt:=by
 cases z:l.all f with
 |false=>rfl
 |true=>rw[OD.mp z x (Ln h)]at J;cases J
def A8{l:E α}{f:α->i0}{x:α}(h:l[i]?=Z x)(Y:(l.j i).all f=kf)(J:f x=kf):(l.j (i+1)).all f=kf:=by
 rw[LK,h,List.all_append,Y];simp[*]
def CQ{f:R->R}(b:bw f (2*N) (2*N) rs)(Y:1<=rs.L)(sl:sd.L=N)(hs:∀ (i:R) (x:R×R),sd[i]?=Z x->(∃ r,rs[x.1]?=Z r/\2*i∈r)/\∃ r,rs[x.2]?=Z r/\2*i+1∈r){l:G}(D:l∈sd.h λx=>((max x.1 x.2:R):G))(M:∀ y∈sd.h (λx=>((max x.1 x.2:R):G)),y<=l):1+l=((rs.L:R):G):=by
 let x J rfl:=LW.mp D;let i B:=Mp.mp J;let{A n _}p v _:=hs i x B;let j:=(Lm.mp n).1;let C:=(Lm.mp v).1;let r I:∃ r,rs[rs.L-1]?=Z r:=#[_,Ll ∅]
 let a:=b.ring r (Ln I);let d hd:∃ d,r[0]?=Z d:=#[_,Ll a.ne];let dm:=Ln hd;let dl:=a.lt d dm;let y Q:∃ y,sd[d/2]?=Z y:=#[_,Ll ∅]
 let{g c b3}s q b4:=hs (d/2) y Q;let:=M _ (LW.mpr #[y,Ln Q,U]);obtain z|z:=Nat.mod_two_eq_zero_or_one d
 .let e:=b.same b c I b3 (by rw[show 2*(d/2)=d by lia];exact dm)
  lia
 .let e:=b.same b q I b4 (by rw[show 2*(d/2)+1=d by lia];exact dm)
  lia
theorem SdAt.mono{H H':Hp}{zs:E V}{N:R}{rs:mo}{sd:E (R×R)}(h:SdAt H zs N rs sd)(s:mu H'):SdAt H' zs N rs sd:=#[h.1,h.2.1.mono s,h.2.2]
inductive shR(t b:e8)(L:R)(es:En)(rs:mo)(mk:R)(H0:Hp)(C:Prop)(val:i0)(D:L2.Ends)(σ:L2.St)(H:L2.Hp):Prop
 |mk (q:e8)(zs:E V)(sd:E (R×R))(v6 v7 v8 v9 v10:io V) (_:σ=[Z (.ref t),Z (.int (L:G)),Z (.ref b),Z (.ref q),Z (.int ((rs.L:R):G)),Z (.int (mk:G)),v6,v7,v8,v9,v10])(_:Same H0 H)(_:H q=Z (.lst zs))(_:SdAt H zs es.L rs sd)(_:C)(_:∀ H',Same H0 H'->D.rt (.bl val) H')
inductive Ii
 |mk (t pe pt pk:e8)(m:R)(es:En)(ts:mo)(ks:Kn)(rs:mo)(ls:E KF.Lk)(L:R)(pw:V)(r:E KF.Pr) (_:vs=[.ref t,.int (L:G),pw])(_:eQ H t pe pt pk m es ts ks)(_:Oth m es ts ks rs ls)(_:0<es.L)(_:rs.L<=40)(_:KF.PpAt H pw r)(_:r.L<=3000)(_:∀ H',mu H'->Q (.bl (mz es ks rs ls L r)) H')
def bC:az ["built","laying","paper","sides","rounds","marks","pair","k","one","two","dues"] ["built","laying","paper"] (aq k8):=by ac_nf
def JZ{d1 d3 d4:fk}(F:Fun K "_law_shows" "_law_shows" k8 f fd){TR:e8}(T:TxtO mg TR)(aS:lc 4 "_law_sides" ["built"] spSd f1 d1)(aT:lc 1 "_law_marks" ["built","sides"] JD f2 eK)(a5:lc 1 "_law_odd" ["mask"] Ao a d3)(al:lc 2 "_law_worth" ["built","laying"] FF I d4):k9 5 f fd ["built","laying","paper"] Ii:=by
 refine F.ok bC (by walk_at "l") λab A aa s H vs Q eg N h=>?_
 let t pe pt pk m v ts ks rs ls L pw r rfl bp O e0 be{b ps rfl hB hM}r3 kk:=h;let ac:=bp.few;let kl:=bp.kl;let zl:=hM.1;let mk aX:∃ mk,mk=KF.oddE ls (MK (aV ks) v.L) v.L:=#[9]
 intro Xc Dc;erw[_,(ah (aA 3 bC.nd (aS.c N (af (pv 0) aj)))
   (ah (aA 4 bC.nd (aw cA ai (ay (Fd U) (by rfl) T.n_max IU (af (dj [] ["pair"] (aN (pv 3)) pg_c pt_c (λC ex s H=>(ay (Ca (K:=K) U U) (by rfl) T.n_max IU (af (pv 0) aj)))) aj))))
   (ah (aA 5 bC.nd (aT.c N (af (pv 0) (af (pv 3) aj))))
   (n8 (t2:=shR t b L v rs mk H True (mz v ks rs ls L r)) (ah (mj (aN (pv 2)) (bW 6 bC.nd) (ao (bH (PW.pt (jj (aC qG (aG (pv 6) ai) ai (aE _)) (jj (aC i4 (aw de (aG (pv 6) ai) (pv 4)) ai (aE _)) (jj (aC qG (aG (pv 6) ai) ai (aE _)) (gG (gj (dM (a5.c N (af (aw fN (aG (pv 6) ai) (pv 5)) aj))))))))) (ao (aD gH)) aM)))
   (n8 (t2:=shR t b L v rs mk H (r.all (KF.cB rs.L mk)=kf) (mz v ks rs ls L r)) (ah (mj (aO U T.n_range (af (ay ax (by rfl) T.n_len aZ (af (pv 3) aj)) aj)) (bW 7 bC.nd) (ah (aA 8 bC.nd (aG (a8 (pv 3) (pv 7)) ai))
   (ah (aA 9 bC.nd (aG (a8 (pv 3) (pv 7)) ai))
   (ah (oU 10 [("two",9),("one",8)] ["pair"] bC.nd (aN (pv 2)) pg_c (λC ex s H=>(jn (aC cR (aw fN (aw c9 (aw de (iZ K (pv 0) ai) (pv 2)) (aw de (iZ K (pv 0) ai) (pv 1))) ai) ai (aE _)))) (λC ex s H=>(iZ K (pv 0) ai)))
   (ao (bH (aC ye (ay (gu U) (by rfl) T.n_sum nJ (af (pv 10) aj)) (aw cz ai (aG (a8 (aG (pv 0) ai) (pv 7)) ai)) (aE _)) (ao (aD gH)) aM))))))
   (n8 (t2:=shR t b L v rs mk H (dueB rs.L mk ls r=kf) (mz v ks rs ls L r)) (ao (aD (cm cR (ay (gu U) (by rfl) T.n_sum nJ (af (dj [] ["pair"] (aN (pv 2)) pg_c pt_c (λC ex s H=>(iZ K (pv 0) ai))) aj)) (aw cz ai (al.c N (af (pv 0) (af (pv 1) aj)))) (aE _)))) (λD0 S0 H0 h0=>?rest3))) (λD0 S0 H0 h0=>?rest2))) (λD0 S0 H0 h0=>?rest1))))),3]
 case rest3 =>
  let q zs sd v6 v7 v8 v9 am rfl s0 hq ap du kr:=h0;erw[9,b,U,#[_,SqL.of (s0 _ _ hB)],bq (K:=K) (xs:=ps) (λi ws H6=>H6=H0/\ws=((r.j i).h (·.2)).h V.int) (MB (by lia:ps.L<=3000) ∅) #[10] (λi ws H6 _ z=>by rw[z.1];exact SqL.of (s0 _ _ hB)) ?_ ?_]
  .rintro i x ws H6 J ⟨rfl,rfl⟩;let p hp g rfl hg:=hM.get J;erw[9,g,_,01,41,SqT.of (s0 _ _ hg),at1,14];rw[LK,hp,LC,LC];rfl
  rintro ws H6 _ ⟨rfl,rfl⟩ D6 bg;rw[zl,LP];let s6:=ak bg (.lst ((r.h (·.2)).h V.int));let ba:=s0.Q s6;erw[D6,r.h (·.2),U,SqL.of ag,153,t,pe,pt,pk,m,v,ts,ks,L,U,bp.mono ba,λH7 s7=>?_];erw[165,.inl #[by decide,by decide],14]
  let:=kr _ (ba.Q s7);unfold mz at this;rw[← aX,du,Mq,← nA]at this;exact this
 case rest2 =>
  let q zs sd v6 v7 v8 v9 am rfl s0 hq ap ca kr:=h0;let S:=O.lsS be ap;let ql:zs.L=v.L:=by rw[ap.2.1.1,ap.1]
  let bn:=bp.mono s0;let ht wp{ws a0 hT}_ _:=id bn;erw[9,q,zs,U,.inl (SqL.of hq),329,bY (n:=(zs.L:G).U) (λi j H2=>∃ v7 v8 v9 am,j=[Z (.ref t),Z (.int (L:G)),Z (.ref b),Z (.ref q),Z (.int ((rs.L:R):G)),Z (.int (mk:G)),v6,v7,v8,v9,am]/\Same H0 H2/\(ls.j i).all (KF.lB r)=kf) #[597,λ_ _ e=>e,U] ?_ ?_]
  .rintro i j H2 B ⟨v7,v8,v9,am,rfl,s2,aI⟩;rw[Lv,ql]at B;let a4:(0:G)+(i:G)=(i:G):=MP _;rw[a4];let bi:=s0.Q s2;let l hl:∃ l,ls[i]?=Z l:=#[_,Ll (by rw[S.ln];exact B)]
   let bu kd a3 l2:=S.sd i l hl;let p x1 x2:=ap.2.1.2 i _ bu;let a6 k0 t2 z1 z2:=hT.2 i kd a3;let an:=s2 _ _ hq;let bm:=s2 _ _ x2;erw[153,q,zs,165,SqL.of an,aB x1,p,_,00,41,SqT.of bm,at0,3];erw[153,q,zs,165,SqL.of an,aB x1,p,_,01,41,SqT.of bm,at1,3];erw[9,b,U,#[_,SqL.of (bi _ _ hB)],cN (K:=K) (xs:=ps) (λk us H3=>H3=H2/\us=(((r.j k).filter (KF.pT l.1 l.2.1)).h (·.2)).h V.int) (MB (by lia:ps.L<=3000) ∅) #[10] (λk us H3 _ z=>by rw[z.1];exact SqL.of (bi _ _ hB)) ?_ ?_ ?_]
   .rintro k x us H3 J ⟨rfl,rfl⟩;let pp hp g rfl hg:=hM.get J;let a7:=bi _ _ hg;let et:r.j (k+1)=r.j k++[pp]:=by rw[LK,hp];rfl
    erw[38,g,_,00,41,SqT.of a7,at0,2649,(show(0:G)<=(l.1:G) by lia),9,g,_,00,41,SqT.of a7,at0,2649,(show(0:G)<=(l.2.1:G) by lia),15115685]
    rw[et,Nw];refine ite2 (λz=>?_) (λz=>?_)
    .let z':KF.pT l.1 l.2.1 pp=kf:=Rl (V.int.inj (RS z))
     erw[9,g,_,01,41,SqT.of a7,at1,14];rw[NP z',LC,LC];rfl
    .let z':¬ KF.pT l.1 l.2.1 pp=kf:=λy=>z (Rl (congrArg V.int (RS y)))
     simp[*]
   .rintro us H3 ⟨rfl,rfl⟩ D hD;rw[zl,LP];let s3:=ak hD (.lst (((r.filter (KF.pT l.1 l.2.1)).h (·.2)).h V.int));let a1:=s2.Q s3;erw[9,D,9,SqL.of ag,9,t,_,02,41,SqT.of (a1 _ _ ht),at32,9,pk,ws,165,SqL.of (a1 _ _ a0),aB z1,t2,_,01,41,SqT.of (a1 _ _ z2),at1,165,.inl #[by decide,by decide],14757]
    refine ite2 (λz=>?_) (λz=>?_)
    .let z':KF.paidF r l.1 l.2.1 > 2*kd.2:=RS z
     let no:KF.lB r l=kt:=QF ∅
     let:=kr _ (s0.Q a1);rw[sh_l (Ja hl no)]at this;exact this
    .let z':¬ KF.paidF r l.1 l.2.1 > 2*kd.2:=λy=>z (Rl y)
     erw[597,a1,A8 hl aI (Rl ∅)]
   .grind
  .rintro j H2 ⟨v7,v8,v9,am,rfl,s2,aI⟩;rw[Lv,ql,← S.ln,LP]at aI;erw[q,zs,sd,2389,s0.Q s2,s2 _ _ hq,ap.mono s2,(by unfold dueB;rw[ca,aI];rfl),kr]
 case rest1 =>
  let q zs sd v6 v7 v8 v9 am rfl s0 hq ap _ kr:=h0;erw[9,b,U,#[_,SqL.of (s0 _ _ hB)],bO (K:=K) (xs:=ps) (λi j H2=>∃ v6,j=[Z (.ref t),Z (.int (L:G)),Z (.ref b),Z (.ref q),Z (.int ((rs.L:R):G)),Z (.int (mk:G)),v6,v7,v8,v9,am]/\H2=H0/\(r.j i).all (KF.cB rs.L mk)=kf) #[169] (λi j H2 _ z=>?_) ?_ ?_]
  .let _ _ rfl _:=z;exact SqL.of (s0 _ _ hB)
  .rintro i x j H2 J ⟨v6,rfl,rfl,aI⟩;let{x1 x2}hp g rfl a2:=hM.get J;let hg:=s0 _ _ a2;let ret:KF.cB rs.L mk (x1,x2)=kt->D0.rt (.bl kt) H2:=λhc=>by
    let:=kr _ s0;rw[aX]at hc;rw[sh_c (Ja hp hc)]at this;exact this
   erw[9,g,_,00,41,SqT.of hg,at0,14757];refine ite2 (λz=>iteT (ret ?_)) (λz=>?_)
   .let z':x1<0:=RS z
    unfold KF.cB;rw[QF (by lia)]
    rfl
   let z':0<=x1:=by simp!
   let xn rfl:∃ xn:R,x1=(xn:G):=#[x1.U,4]
   erw[9,g,_,00,41,SqT.of hg,at0,2649,(show(0:G)<=((rs.L:R):G) by lia),230]
   by_cases d:(xn:G)/2^((rs.L:R):G).U=0
   .refine wx (congrArg V.int d) ?_;erw[9,g,_,01,41,SqT.of hg,at1,14757];refine ite2 (λy=>iteT (ret ?_)) (λy=>?_)
    .let y':x2<1:=RS y
     unfold KF.cB;simp!
    let y':¬ x2<1:=λy2=>y (Rl y2);let ea:Q4 (xn:G) (mk:G)=((xn&&&mk:R):G):=by rfl
    erw[9,g,_,00,41,SqT.of hg,at0,2649,xn&&&mk,by rfl,57]
    by_cases o:K1.go (xn&&&mk)%2=1
    .rw[Rl o];refine iteF ?_;erw[41,A8 hp aI ?_];unfold KF.cB;rw[go_bl,Rl (show 0<=(xn:G) by lia),Rl d,Lv,Rl o,Rl (show 1<=x2 by lia)]
     rfl
    .rw[QF o];refine iteT (ret ?_);unfold KF.cB;rw[go_bl];show(_&&(_&&(decide (K1.go (xn&&&mk)%2=1)&&_)))=kt;rw[QF o,MO,Oe,Oe]
   .refine ite2 (λ_=>iteT (ret ?_)) (λy=>R7 (by rw[nA,QF d];rfl) y)
    unfold KF.cB;rw[QF d,MO,Oe]
  .rintro j H2 ⟨v6,rfl,rfl,aI⟩;rw[zl,LP]at aI;erw[q,zs,sd,2389,s0,hq,ap,aI,kr]
 erw[9,t,pe,pt,pk,m,v,ts,ks,rs,U,bp,O.ro,λq zs sd H1 s1 nq hq ap=>?_];let bv:=s1;let ql:zs.L=sd.L:=ap.2.1.1;let sl:=ap.1;let bb:1<=rs.L:=by
  let r ae _:=Mo.mp (O.ro.all 0 ∅)
  let:=Nm ae;lia
 erw[9,q,U,#[_,SqL.of hq],bq (K:=K) (xs:=zs) (λi ws H2=>H2=H1/\ws=((sd.j i).h λx=>((max x.1 x.2:R):G)).h V.int) (LN (av ∅)) #[10] (λi ws H2 _ z=>by rw[z.1];exact SqL.of hq) ?_ ?_]
 .rintro i x ws H2 J ⟨rfl,rfl⟩;let y hy:∃ y,sd[i]?=Z y:=#[_,Ll (by rw[← ql];exact(Lm.mp J).1)]
  let p y1 y2:=ap.2.1.2 i y hy;rw[J]at y1
  cases y1
  erw[9,p,[(y.1:G),(y.2:G)],U,SqT.of y2,(by show 0<2;decide),λmx hm M=>#[14]]
  let e:mx=((max y.1 y.2:R):G):=by
   let Y:=M (y.1:G) (by simp)
   let u:=M (y.2:G) (by simp)
   simp only[Lz,Ny,or_false]at hm;lia
  rw[e,LK,hy,LC,LC];rfl
 rintro ws H2 _ ⟨rfl,rfl⟩ D hD;rw[ql,LP];let sD:=ak hD (.lst ((sd.h λx=>((max x.1 x.2:R):G)).h V.int));erw[D,sd.h λx=>((max x.1 x.2:R):G),U,SqL.of ag,by simp[*],λmx hm M=>#[933]]
 let bB:=CQ O.ro bb sl ap.2.2 hm M;change qQ 4 (V.int (1+mx)) _ _ _;rw[bB];let s2:=bv.Q sD;erw[153,t,pe,pt,pk,q,m,v,ts,ks,zs,sd,ls,U,bp.mono s2,sD _ _ hq,ap.2.1.mono sD,O.lsS be ap,3];rw[← aX];erw[q,zs,sd,2389,s2,sD _ _ hq,ap.mono sD,True.intro,kk]
def B9(f:X.K=K):eO X (.builtin "isinstance") (λxs H Q=>∃ x c j d b,xs=[.ref x,.ref d]/\H x=Z (excD x c j)/\ErC K c/\M8 K (.ref c) (.ref d)=Z b/\Q (.bl b) H):=by subst f;exact Fe
def zU(f:X.K=K):eO X (.builtin "isinstance") (λxs H Q=>∃ x c j T b,xs=[.ref x,.ty T]/\H x=Z (excD x c j)/\ErC K c/\M8 K (.ref c) (.type T)=Z b/\Q (.bl b) H):=by subst f;exact B8
structure ErF(K:Lo)(TR FE:e8):Prop where
 er:ErC K TR
 up:Nz K TR (.ref TR)=Z kf
 k0:M8 K (.ref TR) (.ref FE)=Z kf
 kv:M8 K (.ref TR) (.type "ValueError")=Z kf
structure TxtE(mg:ff->io eN)(TR FE:e8):Prop extends TxtO mg TR where
 n_ValueError:mg "ValueError"=k7
 g_FloorError:mg "FloorError"=Z (.ref FE)
def u5:QJ "ValueError"=Z (.type "ValueError"):=by rfl
inductive Ih(TT PL PS WC:e8)
 |mk (p:e8)(m:R)(es:En)(ts rs:mo)(ks:Kn)(ls:E KF.Lk) (_:vs=[.ref p])(_:WebL TT PL PS WC H p m es ts rs ks)(_:Oth m es ts ks rs ls)(_:(12<rgh ks es.L rs->∀(o:e8)(H':Hp),mu H'->Tb KF.lqF KF.lpF TT H'->H' o=Z (.tup [.non,.bl kf])->Q (.ref o) H'))(_:(rgh ks es.L rs<=12->∀(o t q:e8)(c:G)(L:R)(kv:E (R×R))(H':Hp),KF.SmT H H'->Tb KF.lqF KF.lpF TT H'->H' o=Z (.tup [.ref t,.bl kt])->H' t=Z (.tup [.int c,.int (L:G),.ref q])->KF.PpAt H' (.ref q) (KF.rK kv)->kv.L<=3000->L<2^m->L.O 0=kt->wor es ks L=c->KF.Hls rs.L ls (mkW es ks ls) c kv->Q (.ref o) H'))
def dS:az ["web","told","rough","e"] ["web"] (aq nV):=by ac_nf
def JY{TT PS:e8}{d1:fk}(F:Fun K "_law_told" "_law_told" nV f fd)(T:TxtE mg a I)(ae:ExC K a)(ef:ErF K a I)(aa:CalD P w K mg base 13 "least" ["web"] (CG a TT PL PS C) f1 d1):k9 14 f fd ["web"] (Ih TT PL PS C):=by
 let ac:∀ x,x=a->Nz K x (.ref a)=Z kf:=λx e=>by subst e;exact ef.up
 refine F.ok dS (by walk_at "l") λb A u s H M Q eg N h=>?_
 let p m D Y k r eK rfl wl O kx y:=h
 intro Xc Dc;erw[_,(ah (aA 1 dS.nd qE)
   (ah (aA 2 dS.nd gH)
   (ah (C7 (ie:=3) (Cs:=(λc=>c=a)) U U U dS.nd U U U T.g_TooRough ae ac (λB XE W g=>(ao (aA 1 dS.nd (Dj aa.ok (N.mono ∅) U aa.mg aa.kp aa.bn .nil g U (af (pv 0) aj))))) (λv=>(ao (aA 2 dS.nd (oG (ay (B9 (K:=K) U) (by rfl) T.n_isinstance bQ (af (pv 3) (af (Di (v:=.ref _) U T.g_FloorError U) aj))) (rT (ay (zU (K:=K) U) (by rfl) T.n_isinstance bQ (af (pv 3) (af (n9 (v:=.ty "ValueError") U T.n_ValueError u5 U) aj)))))))))
   (ao (aD (cj (af (pv 1) (af (pv 2) aj)))))))),3]
 erw[9,p,m,D,Y,k,r,eK,U,wl,O,λz l j ab=>#[a,10,λx J=>?_],λz t q c L kv l j ab n pp k3 lt up wc d=>?_]
 .let sx:=ak J (excD x a k7)
  erw[9,x,a,k7,I,9,ag,ef.er,ef.k0,9,iteT ?_];erw[9,x,a,k7,"ValueError",9,ag,ef.er,ef.kv,3];erw[153,(by show 2<=QG;decide),λo i=>?_]
  let so:=ak i (.tup [.non,.bl kf]);exact kx z o _ ((j.Q sx).Q so) (KF.tb_same ab (sx.Q so)) ag
 .erw[153,(by show 2<=QG;decide),λo i=>?_]
  let so:=ak i (.tup [.ref t,.bl kt]);exact y z o t q c L kv _ (j.Q (KF.SmT.of so)) (KF.tb_same ab so) ag (so _ _ n) (pp.mono so) k3 lt up wc d
open KF (andN orN shlN xorN)
inductive spKd
 |mk (t q:e8)(c:G)(L m:R)(r:E KF.Pr) (_:vs=[.ref t,.int (m:G)])(_:H t=Z (.tup [.int c,.int (L:G),.ref q]))(_:KF.PpAt H (.ref q) r)(_:L<2^m)(_:L.O 0=kt)(_:Q (.bl kf) H)
inductive spNL(K:Lo)
 |mk (t pe pt pk a:e8)(m:R)(es:En)(ts:mo)(ks:Kn)(L:R)(c:G)(ns:E G) (_:vs=[.ref t,.ref a,.int (L:G),.int c])(_:eQ H t pe pt pk m es ts ks)(_:na a (ns.h V.int))(_:ns.L<=63)(_:m<=40)(_:(∀ L',c<=wor es ks L'))(_:∀ H',mu H'->Q (.bl kf) H')
def oB:az ["told","places","pair"] ["told","places"] (aq lx):=by ac_nf
def Gy{d1:fk}(F:Fun K "_law_kinds" "_law_kinds" lx f fd)(T:Txt mg)(b:lc 1 "_law_whole" ["found"] spNum f1 d1):k9 2 f fd ["told","places"] spKd:=by
 refine F.ok oB (by walk_at "l") λB A M s H j Q eg N h=>?_
 let t q c L m r rfl n{_ g z C p}lt up d:=h
 cases z
 intro I o;erw[_,(ah (bH (PW.pt (jj (gj (dM (ay nH (by rfl) T.n_isinstance bQ (af (pv 0) (af (n9 (v:=.ty "tuple") U T.n_tuple A4 U) aj))))) (jj (aC i4 (ay ax (by rfl) T.n_len aZ (af (pv 0) aj)) ai (aE _)) (gG (gj (dM (ay nH (by rfl) T.n_isinstance bQ (af (aG (pv 0) ai) (af (n9 (v:=.ty "list") U T.n_list iQ U) aj))))))))) (ao (aD gH)) aM)
   (ah (bH (PW.pt (jj (gj (dM (b.c N (af (aG (pv 0) ai) aj)))) (jj (gj (dM (b.c N (af (aG (pv 0) ai) aj)))) (gG (aC qG (aG (pv 0) ai) ai (aE _)))))) (ao (aD gH)) aM)
   (ah (mj (aN (aG (pv 0) ai)) (bW 2 oB.nd) (ah (bH (PW.pt (jj (gj (dM (ay nH (by rfl) T.n_isinstance bQ (af (pv 2) (af (n9 (v:=.ty "tuple") U T.n_tuple A4 U) aj))))) (gG (aC i4 (ay ax (by rfl) T.n_len aZ (af (pv 2) aj)) ai (aE _))))) (ao (aD gH)) aM)
   (ao (bH (PW.pt (jj (gj (dM (b.c N (af (aG (pv 2) ai) aj)))) (gG (gj (dM (b.c N (af (aG (pv 2) ai) aj))))))) (ao (aD gH)) aM))))
   (ao (aD (oG (cm cR (aw bG (aG (pv 0) ai) ai) ai (aE _)) (rT (cm cR (aw de (aG (pv 0) ai) (pv 1)) ai (aE _))))))))),3]
 erw[38233,TyOf.tup n,Or.inl #[41],IF K,9,iteF ?_];erw[9,t,9,.inr (SqT.of n),38,ite2 (λz=>R7 z (by contradiction)) (λ_=>?_)]
 erw[9,t,_,02,41,SqT.of n,at32,2389,TyOf.lst C,Or.inl #[41],kit_ll K,9,iteF ?_];erw[9,t,_,00,41,SqT.of n,at30,153,iteF ?_];erw[9,t,_,01,41,SqT.of n,at31,153,iteF ?_];erw[9,t,_,01,41,SqT.of n,at31,2469,ite2 (λz=>R7 (show(L:G)<0 from RS z) (by ac_rfl)) (λ_=>?_)]
 erw[9,t,_,02,41,SqT.of n,at32,q,U,#[_,SqL.of C],bO (K:=K) (xs:=g) (λi O Y=>∃ v:io V,O=[Z (.ref t),Z (.int (m:G)),v]/\Y=H) #[41] (λi O Y _ ⟨_,_,z⟩=>by rw[z];exact SqL.of C) ?_ ?_]
 .rintro i x O Y J ⟨v,rfl,rfl⟩;let e eK:∃ e,r[i]?=Z e:=#[_,Ll (by let:=(Lm.mp J).1;let:=p.1;ac_rfl)]
  let y a u rfl l:=p.2 i e eK;rw[J]at a
  cases a
  erw[38233,TyOf.tup l,Or.inl #[41],IF K,9,iteF ?_];erw[9,u,9,.inr (SqT.of l),38,ite2 (λz=>R7 z (by assumption)) (λ_=>?_)]
  erw[9,u,_,00,41,SqT.of l,at0,153,iteF ?_];erw[9,u,_,01,41,SqT.of l,at1,153,iteF #[41]]
 .rintro O Y ⟨v,rfl,rfl⟩;erw[9,t,_,01,41,SqT.of n,at31,165,(by show(0:G)<2;decide),230]
  let e:(L:G)%2=0:=by grind
  try dsimp only
  rw[Rl (congrArg V.int e)];refine iteT #[9,t,_,01,41,SqT.of n,at31,2649,(show(0:G)<=(m:G) by ac_rfl),14]
  let D:(L:G)/2^((m:R):G).U=0:=by
   rw[KF.div_bit,P7 lt];rfl
  show Q (.bl (decide (V.int ((L:G)/2^((m:R):G).U)=V.int 0))) _;rw[D];exact d
def bV:az ["built","script","laying","due","places","cell","place","other"] ["built","script","laying","due"] (aq fM):=by ac_nf
def ok_nl{d1:fk}(F:Fun K "_law_none_less" "_law_none_less" fM f fd)(T:Txt mg)(aa:lc 2 "_law_worth" ["built","laying"] FF f1 d1)(al:lc 1 "_law_mask" ["cell","many"] CD f2 eK):k9 3 f fd ["built","script","laying","due"] (spNL K):=by
 refine F.ok bV (by walk_at "l") λb A u s H e Q eg I h=>?_
 let t pe pt pk a m v ts C L c ns rfl bp hS am ae lo r:=h;let p wp _ _ _:=id bp;let xs ac hX:=wp.tu;let xl:xs.L=m:=by rw[hX.1,wp.g.w.len]
 intro Xc Dc;erw[_,(ah (aA 4 bV.nd (ay ax (by rfl) T.n_len aZ (af (aG (pv 0) ai) aj)))
   (ah (mj (aN (mP qm (pv 1) qC (qB ai))) (bW 5 bV.nd) (ao (bH (aC qG (aa.c I (af (pv 0) (af (al.c I (af (pv 5) (af (pv 4) aj))) aj))) (pv 3) (aE _)) (ao (aD gH)) aM)))
   (ah (mj (aO U T.n_range (af (pv 4) aj)) (bW 6 bV.nd) (ah (aA 7 bV.nd (aw c9 (pv 2) (aw b9 ai (pv 6))))
   (ao (bH (PW.pt (jj (aC qG (aa.c I (af (pv 0) (af (pv 7) aj))) (pv 3) (aE _)) (gG (aC qG (aa.c I (af (pv 0) (af (aw c9 (pv 7) (aw b9 ai (aw bG (aw cA (pv 6) ai) (pv 4)))) aj))) (pv 3) (aE _))))) (ao (aD gH)) aM))))
   (ao (aD gH))))),3]
 erw[9,t,_,01,41,SqT.of p,at31,pt,xs,U,.inl (SqL.of ac),3];change qQ 4 (V.int ((xs.L:R):G)) _ _ _;rw[xl];erw[153,a,9,hS,λq y=>?_];let k:=ak y (.lst (cutV (ns.h V.int) k7 (Z 80)));erw[q,U,#[_,SqL.of ag],bO (xs:=cutV (ns.h V.int) k7 (Z 80)) (λi O Y=>∃ v5,mu Y/\Y q=Z (.lst (cutV (ns.h V.int) k7 (Z 80)))/\O=[Z (.ref t),Z (.ref a),Z (.int (L:G)),Z (.int c),Z (.int (m:G)),v5,k7,k7]) #[_,k,ag,U] (λi O Y _ ⟨_,_,z,_⟩=>SqL.of z) ?_ ?_]
 .rintro i x O Y J ⟨v5,o,ab,rfl⟩;let n rfl:∃ c,x=V.int c:=by
   let:=Ln J;unfold cutV at this;let c _ rfl:=LW.mp (Pm (Pk this));erw[c,U]
  erw[2457,n,m,U,ae,λN hN=>#[t,pe,pt,pk,m,v,ts,C,N,U,bp.mono o,λd l=>?_]];erw[39513,ite2 (λz=>R7 (RS z) (by simp[*])) (λ_=>#[_,o.Q l,l _ _ ab,U])]
 rintro O Y ⟨v5,o,_,rfl⟩;erw[5273,bY (n:=(m:G).U) (λi O d=>∃ v6 v7,O=[Z (.ref t),Z (.ref a),Z (.int (L:G)),Z (.int c),Z (.int (m:G)),v5,v6,v7]/\mu d) #[37,o] ?_ ?_]
 .rintro i O d B ⟨v6,v7,rfl,l⟩;rw[Lv]at B;rw[MP];let ex:∀(M j:R),Q6 (M:G) (1*2^((j:R):G).U)=((M^^^2^j:R):G):=λM j=>by rw[shlN,xorN]
  erw[42393,#[20,by decide],933]
  try dsimp only
  rw[ex];erw[153,t,pe,pt,pk,m,v,ts,C,L^^^2^i,U,bp.mono l,λH4 s4=>?_];erw[39513,ite2 (λz=>R7 (RS z) (by simp[*])) (λ_=>?_)]
  let em:((i:G)+3)%(m:G)=(((i+3)%m:R):G):=by rfl
  let ml:=OJ (i+3) (show 0<m by lia)
  erw[2778356121,(by show(0:G)<(m:G);lia),165,(by rw[em];erw[20,by decide]),933]
  try dsimp only
  rw[em,ex];erw[t,pe,pt,pk,m,v,ts,C,9,bp.mono (l.Q s4),λD s5=>?_];erw[39513,ite2 (λz=>R7 (RS z) (by simp[*])) (λ_=>#[37,(l.Q s4).Q s5])]
 .rintro O d ⟨v6,v7,rfl,l⟩;exact r _ l
open KF (andN orN shlN xorN)
theorem FJ{z:E V}(h:iS H z n rs)(s:KF.SmT H H'):iS H' z n rs:=#[h.1,λi B=>by
 let t a b r eK I D w:=h.2 i B
 erw[t,a,b,r,eK,I,s.tup D,w]]
theorem CP(s:KF.SmT H H')(h:bD H xs ts):bD H' xs ts:=#[h.1,λi l e=>by
 let p a b:=h.2 i l e
 erw[p,a,s.lst b]]
theorem FK(s:KF.SmT H H')(h:cJ H ys es):cJ H' ys es:=#[h.1,λi l e=>by
 let p a b:=h.2 i l e
 erw[p,a,s.tup b]]
def WebF.smT{S:e8->Prop}{PS:e8}{ks:Kn}(h:WebF S PL PS f H p m es ts rs ks)(s:KF.SmT H H'):WebF S PL PS f H' p m es ts rs ks:=by
 obtain⟨o,fs,g,J,a,⟨B,⟨q,z,b1,Q,b2,b3⟩,⟨Y,O,c1,c2,c3⟩,⟨L,u,d1,t,eK⟩,pt⟩,n,c,d,e⟩:=h;let N:∀{b C d:e8}{fs:E (ff×V)},H b=Z (.ins C d fs)->H' b=Z (.ins C d fs):=λz=>s _ _ (λT y=>by cases y) z
 erw[o,fs,g,J,N a,#[B,#[q,z,b1,Q,s.lst b2,b3.1,λj l y=>?_],#[Y,O,c1,s.lst c2,CP s c3],#[L,u,d1,s.lst t,FJ eK s],pt],n,c,s.lst d,e.1,λi x k q r=>?_]
 .let r I D w:=b3.2 j l y;erw[r,I,D,s.lst w]
 .let A v M eg:=e.2 i x k q r;erw[A,v,M,N eg]
def WebP.smT{H H':Hp}{pe pt:e8}{m:R}{es:En}{ts:mo}(h:WebP H pe pt m es ts)(s:KF.SmT H H'):WebP H' pe pt m es ts:=by
 let{O a b}{J c d}g:=h;erw[#[O,s.lst a,FK s b],#[J,s.lst c,d.smT s],g]
def eQ.smT{H H':Hp}{t pe pt T:e8}{m:R}{es:En}{ts:mo}{ks:Kn}(h:eQ H t pe pt T m es ts ks)(s:KF.SmT H H'):eQ H' t pe pt T m es ts ks:=by
 let a b{g c d}e f:=h;erw[s.tup a,b.smT s,#[g,s.lst c,d.1,λi k eK=>by let x y p u v:=d.2 i k eK;erw[x,y,p,u,s.tup v]],e,f]
def JG(s:KF.SmT H H')(h:na a xs):SqL K H' a xs:=by
 rcases h with(h|⟨o,h⟩)|h
 .exact .inl (.inl (s _ _ (λT z=>by cases z) h))
 .exact .inl (.inr #[o,s _ _ (λT z=>by cases z) h])
 .exact .inr h
def oth_of{ks:Kn}(g:Gr m es ts)(b:bw (fol es ts) (2*es.L) (2*es.L) rs)(D:ks.L=es.L)(c:∀ k∈ks,0<=k.2/\k.2<=10^(30:G).U)(a:2<=m)(n:es.L<=24)(h:SdAt H zs es.L rs sd):∃ ls,Oth m es ts ks rs ls:=by
 let Q _ p:=h;let e:∀(i:R)(l:KF.Lk),((sd.zip ks).h λx=>((x.1.1,x.1.2,x.2.2):KF.Lk))[i]?=Z l->∃ x k,sd[i]?=Z x/\ks[i]?=Z k/\l=(x.1,x.2,k.2):=λi l d=>by
  rw[LA]at d;let{x k}Y L:=LL.mp d;let f B:=OX.mp Y;erw[x,k,f,B,L.Y]
 erw[(sd.zip ks).h λx=>(x.1.1,x.1.2,x.2.2),g,b,#[b.nd,b.all,λr N=>(b.ring r N).lt,λr N=>(b.ring r N).nd,by rw[Lp,List.length_zip];lia,λi l d=>?_],D,λi l d=>?_,a,n]
 .let x k Y L rfl:=e i l d;exact p i x Y
 .let x k Y L rfl:=e i l d;erw[k,L,U,(c k (Ln L)).1,(c k (Ln L)).2]
theorem Ia(mk:R):∀ n,((Mg n).h λk=>sI (mk.O k)).sum=((((Mg n).filter λi=>mk.O i).L:R):G)
 |0=>rfl
 |n+1=>by
  rw[NM,LC,NX,Ia mk n,Nw,Lx]
  cases c:mk.O n with
  |true =>
   rw[NP (p:=λi=>mk.O i) c];simp[sI,c]
  |false =>
   rw[Oo (p:=λi=>mk.O i) (by simp!)]
   simp[sI,c]
def HH{y:R}(h:y<2^n):(KF.bl y).L=((Mg n).filter λi=>y.O i).L:=by
 refine List.Perm.length_eq ((MF (KF.bl_nd y) ((List.nodup_range).filter _)).mpr λx=>?_);rw[Nv,Mz,KF.mem_bl];erw[λz=>#[3,z],λz=>z.2];by_cases c:x<n
 .exact c
 .rw[Ou (Mb h (Mw ∅ ∅))]at z
  cases z
def JW:OpR X (QO .IsNot) (λx y H Q=>∃ b c,x=.bl b/\y=.bl c/\Q (.bl (b != c)) H):=by
 intro B s O H x y v u Q I r D h;let b c rfl rfl q:=h
 cases r
 cases D
 exact PyProof.Rows.isnot_bool (bj I q U)
def FO{ks:Kn}{c:G}(h:KF.Hls rs.L ls (mkW es ks ls) c kv)(e:wor es ks L=c):mz es ks rs ls L (KF.rK kv)=kf:=by
 let Y o f:=h.due;unfold mkW at Y;unfold mz dueB;grind
structure Lw(K:Lo)(TT PL PS WC:e8)(H:Hp)(a t pe pt pk p m:R)(ns:E G)(es:En)(ts rs:mo)(ks:Kn):Prop where
 hS:na a (ns.h V.int)
 bp:eQ H t pe pt pk m es ts ks
 wl:WebL TT PL PS WC H p m es ts rs ks
def Lw.smT{K:Lo}{TT PL PS l:e8}{H H':Hp}{a t pe pt T p m:R}{ns:E G}{es:En}{ts rs:mo}{ks:Kn}(h:Lw K TT PL PS l H a t pe pt T p m ns es ts rs ks)(s:KF.SmT H H')(tb:Tb KF.lqF KF.lpF TT H'):Lw K TT PL PS l H' a t pe pt T p m ns es ts rs ks:=by
 obtain⟨n,b1,⟨⟨S,c1⟩,c2,c3,c4,c5,c,b,_⟩⟩:=h;erw[JG s n,b1.smT s,#[#[S,c1.smT s],c2,c3,c4,c5,c,b,tb]]
theorem Lw.mono{TT PS:e8}{a t pe pt p:R}{ks:Kn}(h:Lw K TT PL PS f H a t pe pt N p m ns es ts rs ks)(s:mu H'):Lw K TT PL PS f H' a t pe pt N p m ns es ts rs ks:=h.smT (KF.SmT.of s) (KF.tb_same h.wl.tb s)
inductive sR(K:Lo)(TT:e8)
 |mk (a:e8)(ns:E G) (_:vs=[.ref a])(_:na a (ns.h V.int))(_:ns.L<=63)(_:Tb KF.lqF KF.lpF TT H)(_:∀ H',Q (.bl kf) H')
def oE:az ["script","built","web","sides","marks","rough","told"] ["script"] (aq tJ):=by ac_nf
def ok_law{TT f3 f4 f5 f6 f7 f8 f9 g1 g2 g3 PS WC:e8}{d1 d3 d4 d5 d6 d7 d8 d9 e1 r e3:fk}(F:Fun K "law" "law" tJ f fd)(T:TxtO mg I)(cw:CW K WC)(bb:lc 5 "_law_built" ["script","first","most"] (Ap K) f1 d1)(ap:lc 1 "_law_cell" ["script","k"] (CN K) f2 eK)(be:lc 1 "_law_small" ["built","cell"] Cu f3 d3)(bB:lc 7 "_law_web" ["built"] (Il PL PS WC) f4 d4)(aS:lc 4 "_law_sides" ["built"] spSd f5 d5)(aT:lc 1 "_law_marks" ["built","sides"] JD f6 d6)(bu:lc 14 "_law_told" ["web"] (Ih TT PL PS WC) f7 d7)(bg:lc 2 "_law_kinds" ["told","places"] spKd f8 d8)(ac:lc 2 "_law_worth" ["built","laying"] FF f9 d9)(bJ:lc 6 "certain" ["web","laying","paper"] (CM TT PL PS WC) g1 e1)(bi:lc 5 "_law_shows" ["built","laying","paper"] Ii g2 r)(a2:lc 3 "_law_none_less" ["built","script","laying","due"] (spNL K) g3 e3):k9 15 f fd ["script"] (sR K TT):=by
 refine F.ok oE (by walk_at "l") λaa A u s H vs Q eg N h=>?_
 let a ns rfl hS cd tb kq:=h;let a0:=N.units
 intro Xc Dc;erw[_,(ah (aA 1 oE.nd (be.c N (af (bb.c N (af (pv 0) (af ai (af ai aj)))) (af (ap.c N (af (pv 0) (af ai aj))) aj))))
   (ah (aA 2 oE.nd (bB.c N (af (pv 1) aj)))
   (ah (aA 3 oE.nd (aS.c N (af (pv 1) aj)))
   (ah (aA 4 oE.nd (aT.c N (af (pv 1) (af (pv 3) aj))))
   (ah (aA 5 oE.nd (cm ye (ay (gu U) (by rfl) T.n_sum nJ (af (dj [("marks",4)] ["k"] (aO U T.n_range (af (aw cz ai (ay ax (by rfl) T.n_len aZ (af (pv 3) aj))) aj)) pg_c pt_c (λC ex s H=>(aw fN (aw de (pv 1) (pv 0)) ai))) aj)) ai (aE _)))
   (ah (aA 6 oE.nd (bu.c N (af (pv 2) aj)))
   (ah (bH (PW.pt (jj (dM (pv 5)) (gG (dM (aG (pv 6) ai))))) (ao (aD (oG (pv 5) (rT (aG (pv 6) ai))))) aM)
   (ah (aA 6 oE.nd (aG (pv 6) ai))
   (ah (bH (PW.pt (jj (gj (dM (bg.c N (af (pv 6) (af (ay ax (by rfl) T.n_len aZ (af (aG (pv 1) ai) aj)) aj))))) (gG (aC (IB a0) (bX (pv 2) U) (aG (pv 1) ai) (aE _))))) (ao (aD gH)) aM)
   (ah (bH (PW.pt (jj (aC i4 (ac.c N (af (pv 1) (af (aG (pv 6) ai) aj))) (aG (pv 6) ai) (aE _)) (gG (gj (dM (bi.c N (af (pv 1) (af (aG (pv 6) ai) (af (aG (pv 6) ai) aj))))))))) (ao (aD gH)) aM)
   (ah (bH (aC JW (bJ.c N (af (pv 2) (af (aG (pv 6) ai) (af (dD eJ (by rfl) T.n_list iQ (af (aG (pv 6) ai) aj)) aj)))) gH (aE _)) (ao (aD gH)) aM)
   (ao (aD (a2.c N (af (pv 1) (af (pv 0) (af (aG (pv 6) ai) (af (aG (pv 6) ai) aj)))))))))))))))))),3]
 erw[9,a,ns,U,hS,cd,λt pe pt pk m v ts ks H1 J bp kb=>?_];erw[9,a,00,ns,U,J.seq hS,t,pe,pt,pk,_,m,v,ts,ks,U,bp,kb,λt2 bK aX Y s2 bR bP=>?_];let g:=bR.w.g;let ab:=bR.few;let kl:=bR.kl;let e0:0<v.L:=by
  cases v with
  |nil =>
   exfalso;let rs p c:=g.part;let:rs.L=0∨0<rs.L:=by ac_rfl
   obtain z|z:=this
   .let m2:m=2:=by simpa[z] using c
    let:=g.conn (λx=>x=0) (λe M=>nomatch M) 0 1 (by ac_rfl) (by ac_rfl) U
    contradiction
   .let d hd:=(p.cr _ (Ln (Ll z))).ne;let:=(p.cr _ (Ln (Ll z))).lt d hd;simp!
  |cons e v=>exact Nat.succ_pos _
 erw[9,t2,pe,pt,bK,m,v,ts,aX,U,bR,e0,λp rs H3 s3 wf=>?_];let ae:=(J.Q s2).Q s3;let b6:=bR.mono s3;let m2:=g.two e0;let dx fs q1 cO j wg _ l2 am tk:=id wf;let ro:=wg.part;let cnt:=lD g ro;let bm ct{ws a1 hT}_ _:=id b6;let xs al hX:=ct.tu;let xl:xs.L=m:=by rw[hX.1,g.w.len]
 let a5:∀ k∈aX,k.1=0∨k.1=1:=λk l=>by
  let i B:=Mp.mp l;exact(hT.2 i k B).1
 let co:∀ k∈aX,0<=k.2/\k.2<=10^(30:G).U:=λk l=>by
  let i B:=Mp.mp l;erw[(hT.2 i k B).2.1,bP k l]
 let lw:Lw K TT PL PS WC H3 a t2 pe pt bK p m ns v ts rs aX:=#[ae.seq hS,b6,#[#[_,wf],g,kl,a5,co,ab,e0,KF.tb_same tb ae]];let bn:m<=40:=by lia
 erw[9,t2,pe,pt,bK,m,v,ts,aX,rs,U,b6,ro,λq zs sd H4 s4 nq hq an=>?_];let ls O:=oth_of g ro kl co m2 ab an;let S:=O.lsS (by ac_rfl) an
 erw[153,t2,pe,pt,bK,q,m,v,ts,aX,zs,sd,ls,U,b6.mono s4,hq,an.2.1,S,3];let bN:=O.d.marks (MK (aV aX) v.L);let a6:KF.oddE ls (MK (aV aX) v.L) v.L<2^rs.L:=(O.even1 (by ac_rfl)).1
 let cp:rgh aX v.L rs=(KF.bl (KF.oddE ls (MK (aV aX) v.L) v.L)).L:=by unfold rgh;rw[bN]
 generalize KF.oddE ls (MK (aV aX) v.L) v.L=mk at a6 cp;let cu:=lw.mono s4;let zl:zs.L=v.L:=by rw[an.2.1.1,an.1]
 let hN:(2*(zs.L:G)).U=2*v.L:=by ac_rfl
 erw[9,q,zs,U,.inl (SqL.of hq),165,.inl #[by decide,by decide],9,by ac_rfl,by ac_rfl,cH (n:=(2*(zs.L:G)).U) (λi us H6=>H6=H4/\us=((Mg i).h λk=>sI (mk.O k)).h V.int) (LN (av (by ac_rfl))) #[10] ?_ ?_]
 .rintro i us H6 B ⟨rfl,rfl⟩;let bv:(0:G)+(i:G)=(i:G):=MP _;rw[bv];erw[42393,(show(0:G)<=(i:G) by ac_rfl),3749]
  rw[NM,LC,LC];exact congrArg (λx=>_++[V.int x]) (Lc mk i)
 rintro us H6 _ ⟨rfl,rfl⟩ D hD;rw[hN];let sD:=ak hD (.lst (((Mg (2*v.L)).h λk=>sI (mk.O k)).h V.int));let ch:=cu.mono sD;erw[D,(Mg (2*v.L)).h λk=>sI (mk.O k),U,SqL.of ag,933];let cv:((Mg (2*v.L)).h λk=>sI (mk.O k)).sum=((rgh aX v.L rs:R):G):=by
  rw[Ia,cp,HH (n:=2*v.L) (Mb a6 (Mw ∅ (by ac_rfl)))]
 rw[cv];erw[9,p,m,v,ts,rs,aX,ls,U,ch.wl,O,λz o H7 s7 a3 ho=>?_,λz o t7 q7 c L kv H7 s7 a3 ho a7 pp k3 lt up wc b=>?_]
 .let y:decide ((12:G)<((rgh aX v.L rs:R):G))=kf:=Rl (by ac_rfl)
  erw[153,ite2 (λ_=>iteT ?_) (λx=>R7 y x)];erw[153,ite2 (λ_=>#[9,o,_,01,41,SqT.of ho,at1,kq _]) (λx=>R7 y x)]
 .erw[153,ite2 (λx=>R7 (show(12:G)<((rgh aX v.L rs:R):G) from RS x) (by ac_rfl)) (λ_=>?_)]
  let cy b8 cC:=id (ch.smT s7 a3);let{S7 cD}_ _ _ _ _ _ _:=id cC;let cE cF ce cP ca cK _ cQ cM cT:=id cD;let q6 z6 l6 _ aI r6:=cK.turns;let a4 cL _ _ _:=id b8;let xs al hX:=cL.tu;let xl:xs.L=m:=by rw[hX.1,g.w.len]
  let rl:(KF.rK kv).L<=3000:=by simp[*]
  let b0:=FO b wc;erw[9,o,_,01,41,SqT.of ho,at1,9,iteF ?_];erw[9,o,_,00,41,SqT.of ho,at0,3];erw[153,t2,_,01,41,SqT.of a4,at31,pt,xs,U,.inl (SqL.of al),t7,q7,c,L,m,KF.rK kv,(by rw[xl];rfl),a7,pp,lt,up,9,iteF ?_]
  erw[9,p,WC,cE,cF,9,ca,cw.cl,cw.n3,l6,9,t2,_,01,41,SqT.of a4,at31,_,tN (SqL.of aI) r6.off,tN (SqL.of al) hX,qz _,9,iteF ?_];erw[153,t7,_,01,41,SqT.of a7,at31,t2,pe,pt,bK,m,v,ts,aX,L,U,b8,λH8 s8=>?_];let ci:=s8 _ _ a7;erw[9,t7,_,00,41,SqT.of ci,at30,38,wx (congrArg V.int wc) ?_];erw[153,t7,_,01,41,SqT.of ci,at31,9,t7,_,02,41,SqT.of ci,at32,t2,pe,pt,bK,m,v,ts,aX,rs,ls,L,.ref q7,KF.rK kv,U,b8.mono s8,O,e0,by ac_rfl,pp.mono s8,rl,λH9 s9=>?_]
  rw[b0];erw[9,iteF ?_];let ck:=s8.Q s9;let bU:=ck _ _ a7;let _ ps e hB hM:=pp.mono ck
  cases e
  erw[153,t7,_,01,41,SqT.of bU,at31,9,t7,_,02,41,SqT.of bU,at32,q7,ps,U,.inl (SqL.of hB),λq3 ba=>?_];let s3:=ak ba (.lst ps);let cq:=ck.Q s3;erw[p,m,v,ts,rs,aX,ls,L,.ref q3,KF.rK kv,U,((ch.smT s7 a3).mono cq).wl,#[q3,ps,U,ag,hM.imp λ_ _ z=>z.mono s3],rl,O,λcb cc=>?_];rw[b0];erw[2469,iteF ?_];let sA:=cq.Q cc;let cs:=sA _ _ a7;erw[2457,t7,_,01,41,SqT.of cs,at31,9,t7,_,00,41,SqT.of cs,at30,t2,pe,pt,bK,a,m,v,ts,aX,L,c,ns,U,b8.mono sA,sA.seq cy,cd,bn,λL'=>O.low (by ac_rfl) b L',λH' _=>kq H']
open KF (pK j4 jh pG tE Ax Aw FU eh g8 cg g7 pH mI mL mM pI tL jZ tK pJ gZ mO j6)
structure GF(K:Lo)(x:ff)(st:fo)(f:e8)(fd:fk):Prop where
 a:Mj K QI x=Z (Z (.ref f))
 F:Fun K x x st f fd
structure Wr(P:ge)(w:ih)(K:Lo)(mg:ff->io eN)(base:fc):Prop where
 g:∀{x:ff}{v:eN},Mj K QI x=Z (Z v)->mg x=Z v
section
variable{P:ge}{w:ih}{K:Lo}{mg:ff->io eN}{base:fc}{x p p2 p3 p4 p5 p6:ff}{ps:E ff}{st:fo}{f:e8}{fd:fk}{k:R}{sp:Sp}
def Bn(x:ff)(st:fo)(us:E eN)(r:E (ff×eN)):Prop:=∀ kV p M m B l,bindArgs (Nc x x (dJ st) (cG st) (aq st) .none kV p M m B l) #[us,[]]=pure r
theorem GF.b(g:GF K x st f fd)(h:∀ us:E eN,us.L=ps.L->Bn x st us (ps.zip us)):fu K fd ps []:=g.F.binds λkV p M m B l us d=>h us d kV p M m B l
theorem Wr.c(W:Wr P w K mg base)(g:GF K x st f fd)(b:fu K fd ps [])(o:k9 k f fd ps sp):lc k x ps sp f fd:=#[o,b,W.g g.a,g.F.kp]
theorem Wr.c0(W:Wr P w K mg base)(g:GF K x st f fd)(o:k9 k f fd [] sp)(h:Bn x st [] []:=by intros _ _ _ _ _ _;rfl):lc k x [] sp f fd:=W.c g (g.b λeg l=>match eg,l with | [],_=>h) o
theorem GF.b1(g:GF K x st f fd)(h:∀ u,Bn x st [u] [(p,u)]):fu K fd [p] []:=g.b λeg l=>by let _ rfl:=Kv l;exact h _
theorem GF.b2(g:GF K x st f fd)(h:∀ u v,Bn x st [u,v] [(p,u),(p2,v)]):fu K fd [p,p2] []:=g.b λeg l=>by let _ _ rfl:=Ku l;exact h _ _
theorem GF.b3(g:GF K x st f fd)(h:∀ u v y,Bn x st [u,v,y] [(p,u),(p2,v),(p3,y)]):fu K fd [p,p2,p3] []:=g.b λeg l=>by let _ _ _ rfl:=len_3 l;exact h _ _ _
theorem GF.b4(g:GF K x st f fd)(h:∀ u v y z,Bn x st [u,v,y,z] [(p,u),(p2,v),(p3,y),(p4,z)]):fu K fd [p,p2,p3,p4] []:=g.b λeg l=>by let _ _ _ _ rfl:=Kt l;exact h _ _ _ _
theorem GF.b5(g:GF K x st f fd)(h:∀ u v y z t,Bn x st [u,v,y,z,t] [(p,u),(p2,v),(p3,y),(p4,z),(p5,t)]):fu K fd [p,p2,p3,p4,p5] []:=g.b λeg l=>by let _ _ _ _ _ rfl:=len_5 l;exact h _ _ _ _ _
theorem Wr.c1(W:Wr P w K mg base)(g:GF K x st f fd)(o:k9 k f fd [p] sp)(h:∀ u,Bn x st [u] [(p,u)]:=by intros _ _ _ _ _ _ _;rfl):lc k x [p] sp f fd:=W.c g (g.b1 h) o
theorem Wr.c2(W:Wr P w K mg base)(g:GF K x st f fd)(o:k9 k f fd [p,p2] sp)(h:∀ u v,Bn x st [u,v] [(p,u),(p2,v)]:=by intros _ _ _ _ _ _ _ _;rfl):lc k x [p,p2] sp f fd:=W.c g (g.b2 h) o
theorem Wr.c3(W:Wr P w K mg base)(g:GF K x st f fd)(o:k9 k f fd [p,p2,p3] sp)(h:∀ u v y,Bn x st [u,v,y] [(p,u),(p2,v),(p3,y)]:=by intros _ _ _ _ _ _ _ _ _;rfl):lc k x [p,p2,p3] sp f fd:=W.c g (g.b3 h) o
theorem Wr.c4(W:Wr P w K mg base)(g:GF K x st f fd)(o:k9 k f fd [p,p2,p3,p4] sp)(h:∀ u v y z,Bn x st [u,v,y,z] [(p,u),(p2,v),(p3,y),(p4,z)]:=by intros _ _ _ _ _ _ _ _ _ _;rfl):lc k x [p,p2,p3,p4] sp f fd:=W.c g (g.b4 h) o
theorem Wr.c5(W:Wr P w K mg base)(g:GF K x st f fd)(o:k9 k f fd [p,p2,p3,p4,p5] sp)(h:∀ u v y z t,Bn x st [u,v,y,z,t] [(p,u),(p2,v),(p3,y),(p4,z),(p5,t)]:=by intros _ _ _ _ _ _ _ _ _ _ _;rfl):lc k x [p,p2,p3,p4,p5] sp f fd:=W.c g (g.b5 h) o
theorem Wr.d1(W:Wr P w K mg base)(g:GF K x st f fd)(o:FnOk P w K mg base (CXd P w) k f fd [p] sp)(h:∀ u,Bn x st [u] [(p,u)]:=by intros _ _ _ _ _ _ _;rfl):CalD P w K mg base k x [p] sp f fd:=#[o,g.b1 h,W.g g.a,g.F.kp]
end
def FA{c T:e8}{g:eN}{b d:io e8}{h i:j5 (io eN)}{vs:j5 eN}(a:Mj K QI x=Z (Z (.ref f)))(l:K.Z f=Z #[u,b,.func fd,h])(e:fd.code=.ref c)(j:K.Z c=Z #[g,d,.fields vs,i])(v:vs[11]?=Z (.ref T)):Ob K x=Z (c,T):=by
 unfold Ob;rw[a];simp only[l,e,j,v]
def all_mk{l:Qh}{w:ih}{K:Lo}{h:fc}{mg:ff->io eN}{j gz bg cM cL jU Y aa a0 Em El Hk BB uG He KO By rH yY jH yL Hg Ek Es KR Hj yK Eu BH Et Hi KS yI Hf Hh wG uE yM BA Bz KP Ew bN gN bu cE fR ab Eo BG wF yJ Bx uF rG qR dh BF BE wI yS yW yT o8 yX Ep yQ wH yN yU Er yR BD yO yP BC yV qS KQ:e8}{cT TT:e8}{Q:eN}{dT:io e8}{vT:j5 eN}{i:j5 (io eN)}(X:K.In h)(eK:h.Ns QI mg) (u:mg "law"=Z (.ref j))
  {GA HK ug vh yg Ab oX pz uf vg vN xq ud vf ac IZ:io e8} {FL tj xG oR sZ vt sY ae:j5 (io eN)} {GB GY Hr FY uZ HC uj uw uN tW nG uW yh yz zh x5 rh zO oY oZ pf oW iX pj ui uv uM tV nF uV vO wo wK vG oJ wU uh uu uK tU nE uU al IG IL Iw E6 IP:eN}
  {H I:Tok}
  {am an a1 EO EN Hy BR Hs K0 BO rM zM qX zr Hu EM EU K5 Hx zo EX BY EW Hw K6 zj Ht Hv wO uP zt BQ BP K4 EY ap ER BX wN zm BN uQ rL qV BW BV wR zF zJ zG ph zL ES zD wQ zx zH ET zE BU zy zC BS zI qW:fk}
  (iR:Mj K QI "FloorError"=Z (Z (.ref gz)))
  (mh:Mj K QI "TooRough"=Z (Z (.ref bg)))
  (Ad:Mj K QI "Pull"=Z (Z (.ref cM)))
  (Ac:Mj K QI "Push"=Z (Z (.ref cL)))
  (Fj:Mj K QI "Web"=Z (Z (.ref jU)))
  (jy:LS K (.ref cM) "__init__"=Z (Z (.ref bN)))
  (jx:LS K (.ref cM) "wish"=Z (Z (.ref gN)))
  (gD:LS K (.ref cM) "across"=Z (Z (.ref cE)))
  (dX:LS K (.ref cM) "unpleased"=Z (Z (.ref bu)))
  (jv:LS K (.ref cL) "__init__"=Z (Z (.ref bN)))
  (jt:LS K (.ref cL) "wish"=Z (Z (.ref fR)))
  (gC:LS K (.ref cL) "across"=Z (Z (.ref cE)))
  (dW:LS K (.ref cL) "unpleased"=Z (Z (.ref bu)))
  (lQ:LS K (.ref jU) "__init__"=Z (Z (.ref dh)))
  (AR:GF K "bits" Ax Y am)
  (AO:GF K "ones" Aw aa an)
  (G9:GF K "odd" FU a0 a1)
  (gL:GF K "mask_of" mK Em EO)
  (m6:GF K "reached" mJ El EN)
  (pX:GF K "beyond" pK Hk Hy)
  (kA:GF K "links_at" j4 BB BR)
  (pQ:GF K "row_to" pG He Hs)
  (uA:GF K "whole" tE KO K0)
  (kj:GF K "odd_ends" jZ By BO)
  (eB:GF K "refuse_marks" eh rH rM)
  (iL:GF K "chosen_of" g8 yY zM)
  (aX:GF K "laid_in_pairs" cg jH qX)
  (iy:GF K "new_table" g7 yL zr)
  (pS:GF K "paired" pH Hg Hu)
  (m5:GF K "root_of" mI Ek EM)
  (ng:GF K "heights" mL Es EU)
  (uC:GF K "joins" tK KR K5)
  (pW:GF K "counts" pJ Hj Hx)
  (iw:GF K "paid_over" gZ yK zo)
  (ni:GF K "cost_of" mO Eu EX)
  (kJ:GF K "examined" j6 BH BY)
  (nh:GF K "dryings" mM Et EW)
  (pV:GF K "joined" pI Hi Hw)
  (uD:GF K "hills" tL KS K6)
  (ir:GF K "unpleased" kR yI zj)
  (pR:GF K "pushes" tG Hf Ht)
  (pU:GF K "odd_at" tH Hh Hv)
  (gp:GF K "odd_rounds" i9 wG wO)
  (fE:GF K "refuse_ties" gX uE uP)
  (iz:GF K "laying_of" kU yM zt)
  (ku:GF K "links_of" nU BA BQ)
  (ko:GF K "marks_of" nQ Bz BP)
  (uB:GF K "least" xR KP K4)
  (nj:GF K "certain" qy Ew EY)
  (AQ:GF K "head" C4 ab ap)
  (m7:GF K "leaving" qv Eo ER)
  (kH:GF K "follower" nZ BG BX)
  (gn:GF K "round_from" i8 wF wN)
  (iu:GF K "rounds_of" kS yJ zm)
  (kh:GF K "sides_of" nP Bx BN)
  (fF:GF K "refuse_ends" gY uF uQ)
  (eu:GF K "refuse_turns" gB rG rL)
  (dG:GF K "refuse_parted" fL qR qV)
  (kG:GF K "_law_cell" nY BF BW)
  (kE:GF K "_law_head" nX BE BV)
  (gs:GF K "_law_behind" jd wI wR)
  (iF:GF K "_law_round" lg yS zF)
  (iJ:GF K "_law_grown" lA yW zJ)
  (iG:GF K "_law_order" lh yT zG)
  (cP:GF K "_law_renumbered" eY o8 ph)
  (iK:GF K "_law_built" lC yX zL)
  (m8:GF K "_law_web" qw Ep ES)
  (iD:GF K "_law_sides" kZ yQ zD)
  (gq:GF K "_law_denied" jb wH wQ)
  (iA:GF K "_law_worth" kW yN zx)
  (iH:GF K "_law_marks" lj yU zH)
  (m9:GF K "_law_odd" qx Er ET)
  (iE:GF K "_law_shows" k8 yR zE)
  (kD:GF K "_law_mask" nW BD BU)
  (iB:GF K "_law_whole" kX yO zy)
  (iC:GF K "_law_small" kY yP zC)
  (kC:GF K "_law_told" nV BC BS)
  (iI:GF K "_law_kinds" lx yV zI)
  (dH:GF K "_law_none_less" fM qS qW)
  (rA:Mj K QI "fares"=Z (Z (.ref uG)))
  (uq:K.Z uG=Z #[GB,GA,.func (Nc "fares" "fares" (dJ jh) (cG jh) (aq jh) .none GY Hr FY HK uZ HC),FL])
  (zV:Np K uZ "fares"=kf)
  (ur:Mu K (.ref uG)=kf)
  (jD:K.Z bN=Z #[uj,ug,.func (Nc "__init__" "Tie.__init__" (dJ c8) (cG c8) (aq c8) .none uw uN tW vh nG uW),tj])
  (jO:Np K nG "Tie.__init__"=kf)
  (jF:Mu K (.ref bN)=kf)
  (gm:NU K (.ref bN)=kf)
  (og:K.Z gN=Z #[yh,yg,.func (Nc "wish" "Tie.wish" (dJ fG) (cG fG) (aq fG) .none yz zh x5 Ab rh zO),xG])
  (oq:Np K rh "Tie.wish"=kf)
  (ka:Mu K (.ref gN)=kf)
  (oi:NU K (.ref gN)=kf)
  (fP:K.Z bu=Z #[oY,oX,.func (Nc "unpleased" "Tie.unpleased" (dJ bI) (cG bI) (aq bI) .none oZ pf oW pz iX pj),oR])
  (fU:Np K iX "Tie.unpleased"=kf)
  (cC:Mu K (.ref bu)=kf)
  (dE:NU K (.ref bu)=kf)
  (jC:K.Z cE=Z #[ui,uf,.func (Nc "across" "Tie.across" (dJ cZ) (cG cZ) (aq cZ) .none uv uM tV vg nF uV),sZ])
  (jM:Np K nF "Tie.across"=kf)
  (eI:Mu K (.ref cE)=kf)
  (gk:NU K (.ref cE)=kf)
  (lT:K.Z fR=Z #[vO,vN,.func (Nc "wish" "Push.wish" (dJ dU) (cG dU) (aq dU) .none wo wK vG xq oJ wU),vt])
  (ma:Np K oJ "Push.wish"=kf)
  (iq:Mu K (.ref fR)=kf)
  (lU:NU K (.ref fR)=kf)
  (jA:K.Z dh=Z #[uh,ud,.func (Nc "__init__" "Web.__init__" (dJ cY) (cG cY) (aq cY) .none uu uK tU vf nE uU),sY])
  (jL:Np K nE "Web.__init__"=kf)
  (jE:Mu K (.ref dh)=kf)
  (jG:NU K (.ref dh)=kf)
  (HN:Mj K QI "law"=Z (Z (.ref KQ)))
  (Ky:K.Z KQ=Z #[al,ac,.func (Nc "law" "law" (dJ tJ) (cG tJ) (aq tJ) .none IG IL Iw IZ E6 IP),ae])
  (La:Np K E6 "law"=kf)
  (KC:Mu K (.ref KQ)=kf)
  (gP:L2.zzG K bg k7=kf)
  (cO:Nz K bg (.ref bg)=Z kf)
  (ga_TooRough:LS K (.ref bg) "__getattribute__"=Z (Z (.builtin "BaseException.__getattribute__")))
  (gt_TooRough:LS K (.ref bg) "__getattr__"=Z k7)
  (hb_TooRough:Nz K bg (.type "BaseException")=Z kf)
  (lX:NB K bg=kf)
  (lY:LS K (.ref bg) "__class__"=Z (Z (.builtin "object.__class__")))
  (lV:Nz K bg (.type "object")=Z kf)
  (b8:M8 K (.ref bg) (.ref gz)=Z kf)
  (x9:NQ K cM ff.empty=kf)
  (yD:NB K cM=kf)
  (xZ:Ov K cM=kf)
  (xQ:LS K (.ref cM) "__setattr__"=Z (Z (.builtin "object.__setattr__")))
  (yp:OL K cM=kf)
  (yw:Mu K (.ref cM)=kf)
  (lP:LS K (.ref cM) "one"=Z k7)
  (lN:LS K (.ref cM) "two"=Z k7)
  (fq:LS K (.ref cM) "strength"=Z k7)
  (x8:NQ K cL ff.empty=kf)
  (yC:NB K cL=kf)
  (xY:Ov K cL=kf)
  (xP:LS K (.ref cL) "__setattr__"=Z (Z (.builtin "object.__setattr__")))
  (yo:OL K cL=kf)
  (yu:Mu K (.ref cL)=kf)
  (lM:LS K (.ref cL) "one"=Z k7)
  (lL:LS K (.ref cL) "two"=Z k7)
  (fj:LS K (.ref cL) "strength"=Z k7)
  (Dh:NQ K jU ff.empty=kf)
  (Ed:NB K jU=kf)
  (Dd:Ov K jU=kf)
  (C3:LS K (.ref jU) "__setattr__"=Z (Z (.builtin "object.__setattr__")))
  (DE:OL K jU=kf)
  (DS:Mu K (.ref jU)=kf)
  (lK:LS K (.ref jU) "many"=Z k7)
  (lH:LS K (.ref jU) "ties"=Z k7)
  (jq:LS K (.ref jU) "turns"=Z k7)
  (ij:LS K (.ref jU) "rounds"=Z k7)
  (jr:LS K (.ref jU) "sides"=Z k7)
  (hn_:PN K (.builtin "object.__class__") "__get__"=Z (Z (.builtin "getset_descriptor.__get__")))
  (htk_:Qf K (.builtin "object.__class__")=Z kf)
  (yE:Mj K QI "MOST_MARKS"=Z (Z (.int 14 H)))
  (yF:Mj K QI "MOST_ODD"=Z (Z (.int 12 I)))
  (kv_:M8 K (.ref bg) (.type "ValueError")=Z kf)
  (Ji:Mj K QI "len"=Z k7)
  (Jj:Mj K QI "int"=Z k7)
  (Ci:Mj K QI "bool"=Z k7)
  (Cf:Mj K QI "list"=Z k7)
  (xt:Mj K QI "tuple"=Z k7)
  (xu:Mj K QI "range"=Z k7)
  (kQ:Mj K QI "enumerate"=Z k7)
  (i5:Mj K QI "isinstance"=Z k7)
  (Jg:Mj K QI "min"=Z k7)
  (Jd:Mj K QI "sum"=Z k7)
  (sL:Mj K QI "sorted"=Z k7)
  (Jh:Mj K QI "max"=Z k7)
  (Jc:Mj K QI "zip"=Z k7)
  (Jl:Mj K QI "abs"=Z k7)
  (Cg:Mj K QI "dict"=Z k7)
  (nM:Mj K QI "reversed"=Z k7)
  (Jf:Mj K QI "set"=Z k7)
  (Jk:Mj K QI "all"=Z k7)
  (i6:Mj K QI "ValueError"=Z k7)
  (tbc:uZ=.ref cT) (tbl:K.Z cT=Z #[Q,dT,.fields vT,i]) (tbv:vT[11]?=Z (.ref TT)) (tbn:K.Z TT=k7)
  : ∃ fd:fk,(∀(s:e9)(v:eN),BindsTo s fd #[[v],[]] [("script",v)])/\∃ c T,Ob K "fares"=Z (c,T)/\K.Z T=k7/\∀ base:fc,K.In base->base.Ns QI mg->NR base c T->Bm mg base->FnOk l.e w K mg base CX0 15 j fd ["script"] (sR K T):=by
 let a7:=FA rA uq tbc tbl tbv;let e:=u.Y.Q (NA X eK HN)
 cases e
 let Fq:=fun_mk (st:=jh) uq zV ur;let Lg:=Fq.binds (ps:=["many","links","start"]) λ_ _ _ _ _ _ eg d=>by let p r q rfl:=len_3 d;rfl
 let oQ:=fun_mk (st:=c8) jD jO jF;let oM:=oQ.binds (ps:=["self","one","two","strength"]) λ_ _ _ _ _ _ eg d=>by let p r q x3 rfl:=Kt d;rfl
 let sJ:=fun_mk (st:=fG) og oq ka;let Cb:=sJ.binds (ps:=["self"]) λ_ _ _ _ _ _ eg d=>by let p rfl:=Kv d;rfl
 let fX:=fun_mk (st:=bI) fP fU cC;let jR:=fX.binds (ps:=["self","laying"]) λ_ _ _ _ _ _ eg d=>by let p r rfl:=Ku d;rfl
 let jT:=fun_mk (st:=cZ) jC jM eI;let oK:=jT.binds (ps:=["self","place"]) λ_ _ _ _ _ _ eg d=>by let p r rfl:=Ku d;rfl
 let rD:=fun_mk (st:=dU) lT ma iq;let z8:=rD.binds (ps:=["self"]) λ_ _ _ _ _ _ eg d=>by let p rfl:=Kv d;rfl
 let oP:=fun_mk (st:=cY) jA jL jE;let xo:=oP.binds (ps:=["self","many","ties","turns"]) λ_ _ _ _ _ _ eg d=>by let p r q x3 rfl:=Kt d;rfl
 let a2:=fun_mk (st:=tJ) Ky La KC;erw[Nc "law" "law" (dJ tJ) (cG tJ) (aq tJ) .none IG IL Iw IZ E6 IP,λs v=>.of_eq U,cT,TT,a7,tbn,λbase _ _ z C=>?_];let Ks:=NA X eK rA;let bU:=NA X eK HN;let vV:=NA X eK iR;let Bq:=NA X eK mh;let aI:=NA X eK Ad;let aT:=NA X eK Ac;let a3:=NA X eK Fj;let ba:=NA X eK yE;let modd:=NA X eK yF;let J:=Mm X eK Ji;let L:=Mm X eK Jj;let A:=Mm X eK Ci;let t:=Mm X eK Cf;let x:=Mm X eK xt;let y:=Mm X eK xu;let n:=Mm X eK kQ;let k:=Mm X eK i5;let M:=Mm X eK Jg;let n_sum:=Mm X eK Jd;let n_sorted:=Mm X eK sL;let n_max:=Mm X eK Jh;let n_zip:=Mm X eK Jc;let a4:=Mm X eK Jl;let bR:=Mm X eK Cg;let n_reversed:=Mm X eK nM;let n_set:=Mm X eK Jf;let n_all:=Mm X eK Jk;let n_ValueError:=Mm X eK i6;let W:Wr l.e w K mg base:=#[λe=>NA X eK e];let o:CT K cM:=#[#[x9,yD,xZ,xQ],lP,lN,fq];let TS:CT K cL:=#[#[x8,yC,xY,xP],lM,lL,fj];let f:CW K jU:=#[#[Dh,Ed,Dd,C3],lK,lH,jq,ij,jr];let T:Txt mg:=#[J,L,A,t,x,y,n,k,M,n_sum,n_sorted];let GI:FnOk l.e w K mg base CX0 1 bN _ _ (rO K):=Ke oQ;let ML:Mak l.e w K mg base 1 "Pull" _ (rO K) cM bN _:=#[#[yp,jy,gm,yw],GI,oM,aI];let MS:Mak l.e w K mg base 1 "Push" _ (rO K) cL bN _:=#[#[yo,jv,gm,yu],GI,oM,aT];let Gh:=W.c2 AQ (Kf AQ.F);let Gl:=W.c3 m7 (Bi m7.F);let Gf:=W.c3 kH (yf kH.F T Gh Gl);let Gr:=W.c3 gn (Kg gn.F Gf);let GR:=W.c2 iu (Dx iu.F T Gr);let GS:=W.c2 kh (Ge kh.F T);let wL:Met l.e w K mg base 1 cM "wish" _ (mw kt) gN _:=#[#[jx,oi,ka],F9 sJ,Cb];let wS:Met l.e w K mg base 1 cL "wish" _ (mw kf) fR _:=#[#[jt,lU,iq],F8 rD,z8];let Gm:=W.c1 (sp:=(oz K)) gL (KF.ok_mask gL.F);let Gp:=W.c1 pR (Ka pR.F T f o TS Gm wL wS);let Go:=W.c3 (sp:=(sQ cM cL jU)) pU (Gk pU.F T f);let Gq:=W.c1 gp (Kb gp.F T f Gm Gp Go);let R1:=W.c2 fF (Gi fF.F);let R2:=W.c3 eu (Dw eu.F T);let bb:=W.c2 m6 (KF.ok_reached m6.F);let R3:=W.c2 dG (Gg dG.F bb);let WI:FnOk l.e w K mg base CX0 5 dh _ _ (sP K):=Ga oP T R1 R2 R3 GR GS;let MW:Mak l.e w K mg base 5 "Web" _ (sP K) jU dh _:=#[#[DE,lQ,jG,DS],WI,xo,a3];let Gc:=W.c2 kG (Ki kG.F T);let O:=W.c2 kE (Gv kE.F);let b0:=W.c3 gs (Bj gs.F T O);let L3:=W.c3 iF (Dy iF.F b0);let L4:=W.c1 iJ (Gz iJ.F T L3 O);let L5:=W.c2 iG (Gj iG.F T);let L6:=W.c2 cP (ok_ren cP.F T L5);let L7:=W.c3 iK (Dz iK.F T L4 L6 Gc);let L8:=W.c1 m8 (Kc m8.F T ML MS o TS MW f);let kT:KF.Txt mg:=#[J,L,A,t,x,y,M,a4,n,k];let be:=W.c2 pX (KF.ok_bey pX.F);let b6:=W.c2 kA (KF.ok_at kA.F kT);let bi:Cal l.e w K mg base 2 "fares" _ (KF.spFares TT) uG _:=#[KF.ok_fares Fq kT a7 rA z C b6 be,Lg,Ks,ur];let ca:=W.c2 uA (KF.ok_whl uA.F bb);let cb:=W.c3 pQ (KF.ok_row pQ.F #[t,n_reversed] be);let B:=W.c1 AR (KF.ok_bits AR.F);let a5:=W.c1 AO (KF.ok_ones AO.F kT B);let bm:=W.c1 G9 (KF.ok_odd G9.F a5);let cc:=W.c1 gL (KF.ok_mask gL.F);let bn:=W.c3 eB (KF.ok_ref eB.F #[#[_,ba]] bm ca a5);let bp:=W.c2 iL (KF.ok_chosen iL.F);let bv:=W.c0 iy (KF.ok_table iy.F);let bB:∀(D:R->R->G)(m:R),(∀ a b,D a b=D b a)->Cal l.e w K mg base 10 "laid_in_pairs" _ (KF.spLaid D m 8) jH _:=λD m sy=>#[KF.ok_laid sy aX.F kT B (aX.b3 λ_ _ _=>by intros _ _ _ _ _ _;rfl) (W.g aX.a) aX.F.kp 8,(aX.b3 λ_ _ _=>by intros _ _ _ _ _ _;rfl),(W.g aX.a),aX.F.kp]
 let cd:=W.c3 pS (KF.ok_paired pS.F kT bn B bi bp bv bB cc cb);let bJ:KF.TxtZ mg:={kT with n_zip:=n_zip};let a6:KF.TxtH mg:={bJ with n_reversed:=n_reversed,n_sorted:=n_sorted,n_set:=n_set};let N:KF.TxtE mg:={a6 with n_sum:=n_sum,n_all:=n_all,n_max:=n_max};let bK:=W.c1 m5 (KF.ok_root m5.F B);let ce:=W.c3 ng (KF.ok_hts ng.F bJ bn B bi bp bv bB bK);let ch:=W.c2 nh (KF.ok_dry nh.F a6);let ci:=W.c2 pV (KF.ok_join pV.F kT B);let ck:=W.c3 uD (KF.ok_hills uD.F a6 ce ch bK ci);let cl:=W.c2 kj (KF.ok_endsX kj.F N);let co:=W.c3 uC (KF.ok_joins uC.F N cl);let cp:=W.c4 pW (KF.ok_counts pW.F bm);let cq:=W.c2 iw (KF.ok_paid iw.F N);let cs:=W.c2 ni (KF.ok_costO ni.F N);let ct:=W.c5 kJ (KF.ok_exam kJ.F N co cp cq cs);let TO:TxtO mg bg:={T with n_zip:=n_zip,modd:=#[_,modd],n_max:=n_max,g_TooRough:=Bq};let cu:=W.d1 ko (Gs ko.F TO gP Gq a5);let TZ:TxtZ mg:={T with n_zip:=n_zip};let bP:=W.c1 ku (Gu ku.F TZ f o TS);let cv:=W.c2 iC (Gd iC.F T);let aL:Met l.e w K mg base 1 cM "across" _ (my cM) cE _:=#[#[gD,gk,eI],vM jT o,oK];let aS:Met l.e w K mg base 1 cL "across" _ (my cL) cE _:=#[#[gC,gk,eI],vM jT TS,oK];let uL:Met l.e w K mg base 2 cM "unpleased" _ (vp cM kt) bu _:=#[#[dX,dE,cC],Dv fX o wL,jR];let uS:Met l.e w K mg base 2 cL "unpleased" _ (vp cL kf) bu _:=#[#[dW,dE,cC],Dv fX TS wS,jR];let M1:=W.c2 fE (ok_rt fE.F T f Gp Go);let M2:=W.c2 iz (ok_lo iz.F T f o TS M1 Gm aL aS wL wS);let M4:=W.c2 ir (JX ir.F T f o TS Gm uL uS);let M5:=W.c3 (sp:=(CM TT cM cL jU)) nj (Kh nj.F TO f ct bP Gq M4);let N1:=W.c1 m9 (Kd m9.F);let N2:=W.c3 gq (ok_den gq.F);let N3:=W.c2 iA (ok_wor iA.F T N2);let N4:=W.c1 iD (ok_sd iD.F T L3);let N5:=W.c2 iH (ok_mks iH.F T);let N6:=W.c3 iE (JZ iE.F TO N4 N5 N1 N3);let N7:=W.c2 kD (Gn kD.F);let TE:TxtE mg bg gz:={TO with n_ValueError:=n_ValueError,g_FloorError:=vV};let eF:ErF K bg gz:=#[#[ga_TooRough,gt_TooRough,hb_TooRough,lX,lY,hn_,htk_,lV],cO,b8,kv_];let M3:=W.d1 uB (Gw uB.F TO f cu bP cd M2 ck);let M6:=W.c1 kC (JY kC.F TE gP eF M3);let N0:=W.c1 iB (Gb iB.F T);let N9:=W.c2 iI (Gy iI.F T N0);let N8:=W.c4 dH (ok_nl dH.F T N3 N7);exact ok_law a2 TO f L7 Gc cv L8 N4 N5 M6 N9 N3 M5 N6 N8
theorem walk{l:Qh}{q:ge}{eg:E ff}{H:(ff->io eN)->fc->Prop}{C:ih->fc->Prop}{d:DefRec}{K:Params->Lo}(N:l.most=some 63)(m:d.params.defaults=[])(g:∀(w:ih)(h:fc),C w h->(K w.params).In h)(r:((PyProof.Rows.recsOf q).find? (λe=>e.name == ("fares" : ff))).isSome=kf)(F:∀(w:ih)(mg:ff->io eN)(j:e8)(h:fc),(K w.params).In h->h.Ns QI mg->mg d.name=some (.ref j) ->
   ∃ fd:fk,(∀(s:e9)(u:eN),BindsTo s fd #[[u],[]] [("script",u)])/\∃ c T,Ob (K w.params) "fares"=Z (c,T)/\(K w.params).Z T=k7/\∀ base:fc,(K w.params).In base->base.Ns QI mg->NR base c T->Bm mg base->FnOk l.e w (K w.params) mg base CX0 15 j fd ["script"] (sR (K w.params) T)):
  PySem.W.WalkO q eg H C l.row.toRowW d [] (λf vs=>PySem.call f vs) :=
 L2.walk_ofT (n:=63) (k:=15) (x:="script") (CX:=CX0) (sp:=λK T=>sR K T) N ∅ m #[18,by decide] g (io.some_get r).Y F (λ_ _ _ a b D O M=>#[a,b,U,M,D,.inl O,λ_=>rfl]) λ_ _ _ _ z=>z
end K8
local macro_rules|`(command|universe $xs*)=>do return Lean.mkNullNode (←xs.mapM λx=>`(command|def $(Lean.mkIdent (.mkSimple s!"tw{x.getId.toString.drop 1}")):ident:=R))
namespace PySem.W.Fast
universe a16998955925405904032 a12582604324014048960 a5177133816107702337 a2556267709814863748 a14496092528967244773 a18385735900417490088 a10881495855321282761 a2771142504423345449 a11244366501735421070 a18276182754638476848 a5920277920965800816 a524205709984233297 a15854654848082796884 a14270887389212969333 a15041534073319639766 a12756225160730454295 a3051012104119008856 a2166659130295741016 a7482902094845386201 a13644675925655849050 a15182447222056381440 a82751013513583712 a14509055468155870336 a11932759632729335008 a4142615146552855808 a10781987632814065984 a2735647113099427328 a11466095139146173088 a16264986153925499584 a10913488190479928096 a13666857474841194272 a14502885663207116576 a7238643004751578944 a12398515023173198881 a7485262687568625825 a3996457593178811585 a16982283276108641505 a4652399123713394945 a6817874653134295297 a5496725704116356385 a12679299852520506753 a15934583655020767681 a17622897803737342401 a1576082209867588225 a15964358724575400962 a11979041641902622754 a3561971258523755746 a17403503919221745122 a12504149943841633826 a6844284210033348258 a17680313158379322082 a12582082740289307458 a12268163467291606051 a12137628483727445059 a15410506294230178883 a4994057633841286339 a6133078416404912419 a18252983719306111363 a3266807143704584611 a6820977492691265027 a18371343503433849347 a17444523384994120355 a16150672609438215107 a14862654299236045828 a18260911830076488708 a17709525346857030692 a17035820594654257284 a11521156481775615172 a3600737845338956132 a8544961354301323812 a6778675348193733188 a3885207214836303460 a14250374553279812228 a4072301369767631684 a14993804053512675172 a615378961406726084 a4366498002441413765 a425435261473105061 a1910348941033732485 a4311609737456881061 a8178237892894095941 a12528149229806825061 a4586903420342095589 a18065075120149001029 a5876969287390519173 a13291838470066649061 a4760367801523910629 a8636012119034594406 a422162557180329158 a1573785522158769414 a15461615145166190982 a3096578795699063238 a469250605187636742 a12601760416681376422 a3381991341139419846 a4852437660707861543 a8612779900714617063 a12983809499722691975 a17742235391927916295 a13949976879813633799 a3908481490986873607 a7685370378807593895 a8871087121000883272 a2148292182867094696 a565002527866475752 a5320621136785742216 a2433180884617885096 a11719499007896416776 a6201319215414070824 a3429601689640821416 a12035607425673562792 a16526171641483517704 a3722901416147881736 a1884945988612617064 a74796807211694984 a2073978140418648265 a5872271334148142281 a7343209512155062505 a6886301583663467913 a1012774486773958025 a9577548784501925577 a18178536874246777577 a8883838001321242377 a4069257475150419785 a17426234868851730249 a3980346436630164393 a7741713445631095306 a2931291976509900554 a7407252245767230378 a5103289228522321834 a17229057617798020042 a6855033744392414154 a14146052805424668683 a17654698501119677515 a16615732145944256747 a2523950852350090795 a18167489108379578091 a9253042982119947179 a12941981754266699884 a10504624281244408012 a9330980438949519564 a4624029450518822092 a14835095541945882892 a3209597341445856972 a11360669844754525932 a13480315841167460172 a17846219699999680460 a12120822997036574765 a17210856133265795245 a15698986339502385421 a4439200325415668141 a17766977139873323469 a1213623909965410893 a13292155532405035629 a6886593574354080365 a13011358198303931021 a10394318503797855917 a3740978384910775981 a3152856705035735853 a17796384858923976557 a5590483986507654029 a14997181940382057453 a5949019401184816109 a8214879657042734126 a8988724724575590510 a8282995891568279726 a18363520715202606318 a15287159554250105262 a3124587901597979150 a15137512214363636270 a10449245038631231054 a10324643986659688142 a16424241492605887214 a11457196468733417358 a6028444748335036334 a18401764029712926702 a16254146343565255695 a14118553651261512751 a897041428163141135 a7895611050761069199 a5018616854699029135 a17527384534510324431 a14393657646448332687 a8332069074452039631 a13031603629856261232 a3737985186371689712 a4059765093426024720 a17052265706032618800 a7061054693913772368 a17533969240494214512 a9741594094148753776 a2496451812958783856 a13882464014710642128 a8393220095635572400 a13123651915067046608 a16427847970779795184 a10923663137639521232 a13669523972547481745 a14298979732845004977 a16783739276692600369 a9364002776224254673 a8049930183654402993 a16527333638201943058 a4700090967536814098 a14761234750642007186 a7033181026772731026 a11887421538247999666 a16110764419933467858 a15454187113213128178 a14119997872525631058 a4424470622771793554 a13614711203716565682 a14901695170936704690 a17385269530941705906 a9774990835937804050 a8521336316993349554 a6273008936753004563 a14454339022383676595 a6968985640626113843 a7488140852232868147 a4996320367311525363 a16883270204503901683 a16775929455983138355 a9197882295103841875 a891036513517413075 a1149746333289725715 a12841299855805592467 a11358409565521482675 a2635419234311353331 a12560117516384473108 a11371724636330071060 a2259859174944355476 a7657198113209226420 a6384033953917602004 a5059194447896183028 a18221635191816561908 a11279566911581123860 a3662524263242612244 a5666237562739509844 a17263807300411167412 a6901111146714834644 a1563993507880931092 a10602828479684334388 a18170741331044610069 a2926726475853994165 a10188755156478367925 a4598655722488627413 a8804843941598180693 a5262635909882335605 a5377295760145873301 a10874276365290330517 a17664639436874489269 a8335256097684370965 a14576014212734310005 a2233604977314284245 a9149229890676246229 a2652529529980869333 a3416656484490554101 a10384048298852400885 a16431947401554247477 a5987630072886654773 a8097808688298658773 a10046055790140973078 a13720984279109178422 a1971806278113544246 a4545891224707845206 a2719949752691626262 a7955722600624559542 a13428332049671898614 a3542141779535137462 a14445106177959216950 a307694263320964950 a2162031736051953526 a1345308386052283286 a1002623092908438422 a9474476453267204279 a12553712928380450167 a5755488854384458103 a3657331137170760183 a9127348720286103063 a16492754641585283639 a10355263535722589783 a7800792270199689879 a16507781764759913239 a7380413696358032183 a994396514979850039 a2330407600931124023 a11371700687607059319 a11322553235302792119 a12506845500789826519 a8746418571008442616 a9994379977791368472 a14730910074473583416 a8079377793924179129 a8703381676909520089 a1746936620790469081 a242278947952537113 a9425176679507827738 a3055102860989766746 a4989482892760410266 a247505227931619482 a15670204019544032730 a8743424491975995898 a16412409272390790714 a2343769326184325850 a8089699810389892858 a3159393863764180794 a8853404078875410426 a6651838276857053211 a3649176647795180667 a17970306978593319515 a8595591154719479515 a2932817448164736795 a18116197327178280763 a15526991049227318139 a18380783011445134364 a13300995080058323036 a12777875472234118332 a3786349337644509468 a14750801548946656604 a13171991492102918556 a1468217005370301884 a17462162538620577244 a15892894049955749404 a1698852909284457084 a18218945755606425340 a3658321743723140221 a17764134349156919581 a9806554026106909053 a14129631698336651709 a16604045584215424605 a2741119699835823741 a1225911931195272861 a10633284415094158237 a15455223879538869278 a15621410351902798174 a9486906997585928606 a2089394899472092606 a8354863334972996126 a1224327825466568318 a8934771131675555646 a16082823023271514078 a12927902365159719135 a16012347717092449535 a18323978827745954463 a9090094312712152863 a11367389255912330441 a5708663788198707798 a9732039772319849936 a17406896654602973105 a3925205028836677008 a7954609377743487320 a6765090290943558047 a11611570213685730711 a14048966290443686459 a13815727484866141886 a13991249635032600911 a3441576192702485681 a15062636301657915786 a5386321987923598269 a13759100060377203413 a18025910914050952524 a1873657779332846032 a6964067119165523147 a2481350319865521146 a691170322686919120 a15293108941582192601 a8370548784394704914 a7710117742018480771 a1145172536960810561 a4850274328292682396 a9036856014701659609 a201854042405765324 a7101095013258388851 a17913289806012668989 a8727660000173928994 a18142235610499573895 a15775698314438301707 a7777426535528181956 a8050930280764105021 a18147193217819221664 a9028082136776894571 a11244795773266002578 a10353490889257573885 a2874061988640780438 a12040019637815017089 a3920205156134158460 a11775789510882585186 a12137958714021908792 a4403919069950111764 a15165433200165987798 a10136576564687063232 a11712533757896136396 a6042380748585470509 a17559831091604811161 a11348770538041229769 a10410146934629164357 a8339823101790017329 a10738272721251069056 a1894323193965322288 a10237292400600619345 a3597674587494692323 a17475776305584047555 a6058511204226246778 a18309253478106573553 a3686575159774032477 a4556808628256971011 a10567432938802300617 a11416116802934171302 a14057384037361009291 a5740811218173967580 a16418989660637391174 a8547477328240606327 a14752319277611879042 a1230541838056425535 a5364208414470348834 a13064798331138427348 a11284097984111308140 a13652621059737151577 a9028396187863153277 a3738088981476754952 a2595117686573043386 a10671590600140329788 a10900884506484334213 a17891148623549835225 a4350109507707792958 a14703179421762563876 a14850286942157040413 a14744668198512744001 a8794659407163884566 a17838693116682524333 a2515301089964856436 a13438447661913762971 a7711631893716076408 a6585035491276216088 a3588910155029459375 a3951096068781604258 a2048914412285634437 a8211897301811989237 a3796812614911357508 a13819609125519252275 a14504262689708163074 a3736525031644173875 a9654374391736416854 a4058488331134994861 a13390145716848781481 a6705032516452519979 a2144962739540089421 a861816757856337885 a7395941694662496529 a15129604827632346943 a9415829322162750319 a18224427090811324469 a17895166016027996884 a6127205582220299392 a3750841423169509416 a9031727987355272747 a2662520757486594856 a12414154057838770602 a8880829630327846549 a4535882075463893080 a16306584723093709034 a3255506412221507502 a7301350934692170534 a7279518229562184578 a4288744882577586879 a543008967563400362 a4791601428869503345 a16209030083650316349 a6278516293852934135 a10225569632702183698 a10248488886607446853 a1513763897128725973 a7186159960011289952 a12640437938490970189 a79765487569827169 a14557227103308248354 a12737819456437457662 a15899849354941716241 a2467378638737076928 a3645816342535263832 a13810115145105426089 a7148282024543740250 a13061450289893809817 a13622662447706158338 a11239322321519849778 a17413694075386955662 a7651468645198568013 a11986601911346901244 a12122054284820787479 a8615051551822022699 a1326069542322326269 a4962374329924361475 a6660405853538140024 a953245422524034925 a8002336348426467436 a3913543604641453369 a16207729440461814339 a18206842500124284710 a11389795477117537278 a3316065535017924905 a7393294465862260080 a8786010035029020692 a13332387136258371616 a9712564193899839679 a18301227739039019521 a9908992489198984438 a11280613885905996553 a2214466798633853299 a3419691362465141530 a7566726877540948381 a2681482277100168482 a12011341368292481024 a11952746810667608850 a7230080070717235551 a9521067257119245903 a12264497811747232875 a6311002070576101251 a4889167058760301476 a10178022058405417215 a16555203552440322861 a6697011200958034664 a6642254605181157748 a3504566810091646895 a3846113461684632156 a8664053356744173076 a12890772787449901600 a1583143425557652008 a6681366052173190905 a13181409549077081566 a7357188959566566397 a4645984341813067093 a9190275266644313299 a4623062697906808643 a14834612312528907560 a4074812297732197325 a14558542730697352000 a1352310799700774056 a14023173713479174616 a13284026882174974094 a8067270477240779288 a3166740289409049714 a9076885421506966209 a493082607301754607 a4540424472895783302 a8107628188935395943 a12363889334864418784 a13486735433795744796 a17976263630541165291 a6834858859296389155 a1066329741666572083 a10819163891635086412 a16749863796828228768 a13030478060540227079 a3949985285648326426 a3253814166885961397 a10598370238029386805 a4040094165426615292 a10595398845330894562 a8529799722080888376 a10467085701765953727 a7684258630635115968 a11807725036711732362 a16734239205976732075 a10017007488984289659 a15642132138115511068 a8888150787175767154 a15478990046469821257 a11026776583150773622 a5524109246268702110 a6764722558580565678 a6495114212747362958 a10439960626788035633 a3938484942610600885 a1277403544449533784 a147792893344361046 a1984787183775158242 a17403676269367334750 a4303299821197517195 a6164114721341687046 a15561149361895748001 a4046920536795191262 a16423023783000307792 a4616608009744622430 a11046100165731635597 a786333554992207215 a3521609996619137884 a10603735601478490427 a10457129685264401562 a15981261426720680959 a14221097179422277515 a13118962257450367583 a13033057331819714864 a13247700994867500432 a17762379156281826373 a4779642115265894339 a16410651321509864450 a14562843993473998935 a316767956039666587 a14824278223197204309 a5883232079038350906 a11804330295291833644 a10274557213533025881 a16526460182680507052 a6977590962788186522 a7577954375271032466 a5731557921952362896 a15513868919227111281 a16715532227985220494 a11365499238049868228
end PySem.W.Fast
open PySem PySem.W PyProof.Rows
set_option maxRecDepth 100000 in
set_option maxHeartbeats 0 in
theorem PySem.Challenge.cw_spinfloor_k33_whole_least_laying_holds : PySem.Challenge.rw_spinfloor_k33_whole_least_laying.Holds := by
 w_on;o_law;k_head;(case hw=>w_witness2);k_fill;refine K8.walk (l:=PySem.Challenge.rw_spinfloor_k33_whole_least_laying) rfl rfl (λw h Y=>PySem.W.km_in_of Y) ?R ?F;(case R=>kernel_rfl)
 case F =>
  intro w mg fa h KX G hmg;refine' K8.all_mk KX G hmg ?iR ?mh ?Ad ?Ac ?Fj ?jy ?jx ?gD ?dX ?jv ?jt ?gC ?dW ?lQ ?AR ?AO ?G9 ?gL ?m6 ?pX ?kA ?pQ ?uA ?kj ?eB ?iL ?aX ?iy ?pS ?m5 ?ng ?uC ?pW ?iw ?ni ?kJ ?nh ?pV ?uD ?ir ?pR ?pU ?gp ?fE ?iz ?ku ?ko ?uB ?nj ?AQ ?m7 ?kH ?gn ?iu ?kh ?fF ?eu ?dG ?kG ?kE ?gs ?iF ?iJ ?iG ?cP ?iK ?m8 ?iD ?gq ?iA ?iH ?m9 ?iE ?kD ?iB ?iC ?kC ?iI ?dH ?rA ?uq ?zV ?ur ?jD ?jO ?jF ?gm ?og ?oq ?ka ?oi ?fP ?fU ?cC ?dE ?jC ?jM ?eI ?gk ?lT ?ma ?iq ?lU ?jA ?jL ?jE ?jG ?HN ?Ky ?La ?KC ?gP ?cO ?ga_TooRough ?gt_TooRough ?hb_TooRough ?lX ?lY ?lV ?b8 ?x9 ?yD ?xZ ?xQ ?yp ?yw ?lP ?lN ?fq ?x8 ?yC ?xY ?xP ?yo ?yu ?lM ?lL ?fj ?Dh ?Ed ?Dd ?C3 ?DE ?DS ?lK ?lH ?jq ?ij ?jr ?hn_ ?htk_ ?yE ?yF ?kv_ ?Ji ?Jj ?Ci ?Cf ?xt ?xu ?kQ ?i5 ?Jg ?Jd ?sL ?Jh ?Jc ?Jl ?Cg ?nM ?Jf ?Jk ?i6 ?tbc ?tbl ?tbv ?tbn;(case iR|mh|Ad|Ac|Fj|jy|jx|gD|dX|jv|jt|gC|dW|lQ=>k_is)
  (case AR|AO|G9|gL|m6|pX|kA|pQ|uA|kj|eB|iL|aX|iy|pS|m5|ng|uC|pW|iw|ni|kJ|nh|pV|uD|ir|pR|pU|gp|fE|iz|ku|ko|uB|nj|AQ|m7|kH|gn|iu|kh|fF|eu|dG|kG|kE|gs|iF|iJ|iG|cP|iK|m8|iD|gq|iA|iH|m9|iE|kD|iB|iC|kC|iI|dH=>refine' ⟨?ja,L2.fun_mk ?jl ?jc ?jk⟩;(case ja=>k_is);(case jl=>k_is);(case jc=>k_is);(case jk=>k_is));(case rA|uq|zV|ur|jD|jO|jF|gm|og|oq|ka|oi|fP|fU|cC|dE|jC|jM|eI|gk|lT|ma|iq|lU|jA|jL|jE|jG|HN|Ky|La|KC=>k_is)
  (case gP=>kernel_rfl);(case cO|ga_TooRough|gt_TooRough|hb_TooRough|lX|lY|lV=>k_is)
  (case b8=>kit_is);(case x9|yD|xZ|xQ|yp|yw|lP|lN|fq|x8|yC|xY|xP|yo|yu|lM|lL|fj|Dh|Ed|Dd|C3|DE|DS|lK|lH|jq|ij|jr|hn_|htk_|yE|yF=>k_is)
  (case kv_=>kernel_rfl);(case Ji|Jj|Ci|Cf|xt|xu|kQ|i5|Jg|Jd|sL|Jh|Jc|Jl|Cg|nM|Jf|Jk|i6=>k_is)
  (case tbc=>rfl);(case tbl=>k_is);(case tbv=>rfl);(case tbn=>kernel_rfl)
