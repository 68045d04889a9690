import PyProof.Rows.All
import Wide.All
import OpenK.AllK
import Wide.FinOn
import Lean
import PyProof.EqAt
import PyProof.EqKinds
import PyProof.TupleCall
import PySem.Challenge.RW_spinfloor_k80_whole_rings
open PyProof.Rows renaming callWith_type1->Sa,kindOf->So,IntsAre->Sw,seqObj->SU,get?_update_seq->SV
open PyProof.Rows.F renaming plain_set_update_loop->Td
open PyProof.Rows.LCg renaming lst->SF
open PySem renaming sizeLine->RO,mainGlobals->RQ,bootBuiltins->RS,starEach->RV,wpAny_mono->RW,compareOp->RX,wpAny_truthy_bool->RY,assignEach->RZ,wpAny_bind->R4,wpAny_holding->R5,wpAny_passesOwn->R6,wpAny_pure->R7,foldedSetIterable->Sb,binaryOp->Sd,codeAny->Si,codeAny_mono->Sm,wpAny_Call_Name_kw->Sn,wpAny_specialOf->Sy,wpAny_ite_split->SA,wpAny_isInstance->SD,wpAny_newObj_type->SG,wpAny_call_entry->SH,wpAny_callSpecial?_slot->SK,wpAny_typeNameOfWhole_itemiter->SM,wpAny_isOneOf_itemiter->SO,wpAny_setField_rec->SQ,wpAny_letGo->SS,wpAny_newList->SW,codeAny_builtin->SY,wpAny_seqItems->S2,wpAny_tryCatch->S3,updateSeq->S4,wpAny_updateSeq->S5,plainId_quiet->S6,wpAny_setState_of->Ta,wpAny_askSetting->Te
open PySem.Around renaming under_plainId->S1
open PySem.Builtin renaming bitAnd->Se,bitOr->Sf,bitXor->Sh
open PySem.Builtin.Builtins renaming bindParams->S7
open PySem.Builtin.Dict_items renaming ownsTuple->SJ,pairFromOwner->SR
open PySem.Builtin.List renaming listLengthHint->Sz,listExtendWith->Tf,listSameRef->Tg,listItems->Th
open PySem.Calls renaming spliced_nil->Sk,spliced_cons->Sl,callWith_builtin->Sv
open PySem.Heap renaming lt_size->RP,get?_none_of_le->RT,SameBut->RU,get?_push_of_some->R8,get?_push_size->R9,size_push->Sj,get?_update_self->Ss,get?_update_other->Su,size_update->SX
open PySem.Heap.SameBut renaming update->SN
open PySem.Obj renaming mapSeq->Sr
open PySem.PyData renaming depth->SE
open PySem.SetTable renaming below->S9,grown->Tc
open Array renaming length_toList->NB,getElem?_toList->NZ,getElem?_eq_getElem->OF,getD_eq_getD_getElem?->P4,getElem?_eq_some_iff->P6,toList_push->QP,getD->QR,perm_iff_toList_perm->Rq
open Bool renaming false_ne_true->Nr,false_eq_true->N8,and_false->Oi,true_and->Oj,and_eq_true_iff->ON,or_false->O7,or_eq_true->Pm,false_and->Pu,and_eq_true->Py,eq_iff_iff->PD,not_true->PZ,xor_false->Qf,and_true->Qm,xor_assoc->Rw,xor_comm->RL,false_or->RM
open Classical renaming byContradiction->NY
open Int renaming toNat_natCast->MU,zero_add->N1,le_refl->N6,natCast_nonneg->Pg,add_zero->Qe,le_trans->Qy,emod_lt_of_pos->QJ,le_antisymm->Rm,emod_nonneg->Rn,fdiv_eq_ediv_of_nonneg->Rp
open Int.ofNat renaming inj->O6
open List renaming getElem?_eq_some_iff->MF,getElem?_eq_getElem->MG,mem_of_getElem?->MH,length_map->MI,getElem?_map->MO,length_append->MP,mem_singleton->MQ,getElem?_append_right->MR,getElem?_append_left->MT,replicate->MV,getD_eq_getElem?_getD->MX,mem_cons->MY,map_append->M0,take_add_one->M5,mem_cons_of_mem->M6,mem_cons_self->M7,take_length->M8,length_singleton->M9,mem_map->Nc,range->Nf,mem_append->Ng,mem_append_right->Nj,mem_range->Nk,length_range->Nl,nodup_cons->Nt,getElem?_of_mem->Nx,map_cons->NF,mem_append_left->NG,size_toArray->NL,nodup_append->NP,length_take->NQ,length_replicate->NR,append_nil->NT,nodup_nil->NU,pairwise_iff_getElem->NW,map_map->NX,mem_filter->N0,getElem?_eq_none->N3,not_mem_nil->N4,length_set->N5,length_filter_le->Oa,mem_map_of_mem->Oc,map_congr_left->Od,replicate_succ'->Of,getElem?_range->Og,filterMap_cons->Oh,length_pos_of_mem->Om,range_succ->Oq,mem_iff_getElem?->Ou,getElem?_replicate->Ow,any_eq_true->Ox,perm_ext_iff_of_nodup->Oy,take_of_length_le->Oz,pairwise_map->OC,filter_append->OG,mem_flatten->OI,length_cons->OJ,eq_nil_of_length_eq_zero->OL,filter_cons_of_pos->OO,filter_cons_of_neg->OP,getElem?_set->OS,length_nil->OU,getElem?_reverse->OX,length_reverse->O4,length_eq_zero_iff->O5,getElem?_set_self->Pe,mem_filterMap->Pf,find?_cons->Pj,filter_nil->Pk,ext_getElem?->Pp,getElem?_set_ne->Pq,mem_or_eq_of_mem_set->Pr,mem_flatMap->Pw,getElem_mem->Px,flatten_append->Pz,take_sublist->PK,foldl_append->PM,take_append_drop->PQ,filterMap_append->PR,length_drop->PU,exists_mem_of_length_pos->PV,sum_cons->PY,length_pos_iff->P2,length_eraseIdx_of_lt->P5,pairwise_cons->Qb,getElem?_drop->Qc,filterMap_nil->Qd,length_filterMap_le->Qh,idxOf_lt_length_iff->Qi,flatMap_cons->Qj,append_assoc->Qk,lookup->Ql,nodup_range->Qp,cons_append->Qq,pairwise_lt_range->Qr,of_mem_zip->Qv,map_nil->Qw,range_eq_range'->Qz,mem_of_mem_take->QA,getElem?_take->QI,getElem?_inj->QN,flatten_cons->QO,mem_eraseIdx_iff_getElem?->QU,map_set->QV,take_append_of_le_length->QX,range'_succ->QY,isEmpty_nil->QZ,getElem_map->Q0,ext_getElem->Ra,all_eq_true->Rb,dropLast_concat_getLast->Rc,map_id->Rk,foldl_cons->Rl,getElem?_zip_eq_some->Ru,eq_of_mem_replicate->RC,any_cons->RK
open List.Pairwise renaming imp_of_mem->RD
open List.Perm renaming swap->Rv
open Nat renaming le_refl->MN,le_of_lt->M4,ne_of_lt->Nh,lt_of_lt_of_le->Ni,testBit_two_pow->Nu,mod_eq_of_lt->Nv,sub_self->Nz,testBit_and->NA,eq_of_testBit_eq->NC,zero_le->ND,le_trans->NH,zero_testBit->NI,not_lt_zero->NM,testBit_or->NS,ne_of_gt->N9,lt_irrefl->Ob,lt_succ_self->Oe,pow_le_pow_right->Ol,lt_pow_two_of_testBit->Oo,le_add_right->Ot,lt_succ_of_lt->OB,le_succ->OH,pow_lt_pow_right->OM,le_succ_of_le->OQ,add_mod_right->OR,lt_trans->OW,add_mod->OY,min_le_left->O0,mod_self->O2,sub_mod_eq_zero_of_mod_eq->Pa,mod_lt->Pc,testBit_lt_two_pow->Pd,two_pow_pos->Ph,testBit_eq_decide_div_mod_eq->PF,or_lt_two_pow->PJ,testBit_xor->P1,zero_mod->P8,sub_zero->P9,lt_or_ge->Qa,not_lt_of_le->Qn,le_of_not_lt->Qo,testBit->QE,xor_lt_two_pow->QF,lt_of_le_of_lt->QG,add_sub_cancel->QH,lt_trichotomy->QM,le_of_eq->QS,and_zero->QT,succ_le_succ->QW,testBit_two_pow_sub_one->Ri,min_eq_left->Rj
open Nat.succ renaming inj->Qu
open Option renaming map_eq_some_iff->MZ,isSome_iff_exists->Qg,isSome_map->QL
open Option.some renaming inj->Ny
open PySem renaming Spec->Nd,mem_of_lookup->OT,frameOf->RE
open PySem.F renaming plainAttrs_list->Na,type_list_append->Np,slot_list_append->Nq,plain_min_loop->NN,plain_extend_loop->OE,entry_min_loop->OV,plainAttrs_dict->O3,slot_dict_items->PB,slot_dict_get->Qt,excBase_ValueError->Ro,args_dict_items_1->Rt,type_list_extend->Rx,slot_list_extend->Ry,slot_dict_values->Rz,entry_dict_items->RA,args_list_init_2->RB,type_dict_items->RG,typeCall_list_1->RH,entry_list_init->RI,args_dict_get_3->RJ
open PySem.W renaming Frag->MJ,findIn->Nw,nsIn->NJ,keepIn->NK,mg_none_of->NO,fnOf->NV,codeIn->N7,kia_one->Ov,emptyDict->OA,mg_of->OD,instObj->OZ,isFn->O1,plainGet->O8,kbt_mask->O9,CodeHd->Pb,tabIn->Pn,hasDictIn->Po,plainOver->PH,kitOne->PN,mroIn->PX,makesIn->P0,callWith_K->P7,kla_obj->Qs,lookIn->QB,plainGet_of->QC,hideAll_get->QD,methodObj->QK,takerIn->Rf,OpenLaw->Rh,tabObj->Rr,excIn->RF
open _root_ renaming autoParam->uP_
open Std.Slice renaming Self.eq._autoParam->uR_
open Rat renaming den_nz._autoParam->uD_
open _root_ renaming decide_eq_false->RN,decide_eq_true->Sx,of_decide_eq_true->S8,if_pos->Ti,if_neg->Tj,absurd->Tn,Nat->R,List->E,Int->Y
set_option Elab.async false
set_option linter.all false
set_option compiler.extract_closed false
set_option bootstrap.genMatcherCode false
set_option genSizeOf false
set_option maxRecDepth 100000
local macro_rules | `(tactic| lia) => `(tactic| first | assumption | lia (splits:=9) | omega +splitDisjunctions)
local macro_rules | `(tactic| ac_rfl) => `(tactic| omega +splitDisjunctions)
local macro_rules | `(tactic| ac_nf) => `(tactic| exact ⟨rfl,rfl,rfl,by decide +kernel,rfl,by decide +kernel,by decide +kernel⟩)
local macro_rules | `(tactic| decide) => `(tactic| decide +kernel)
local macro_rules | `(∅) => `(by first|decide|lia|simp)
local macro_rules | `(tactic| walk_at "cc") => `(tactic| first | exact ⟨by decide, by decide⟩ | (show (0 : Y) < _; decide) | (show (0 : Y) < _; lia) | (show (0 : Y) ≤ _; lia) | exact ⟨by decide, by decide, by decide⟩ | exact ⟨by lia, by lia, by decide⟩ | exact Or.inl ⟨by decide, by decide⟩ | exact Or.inl ⟨by lia, by lia⟩)
local macro_rules | `(tactic| walk_at "rd") => `(tactic| repeat (first | refine ⟨_, rfl, ?_⟩ | (refine ⟨_, _, rfl, rfl, ?cc, ?_⟩; (case cc => walk_at "cc")) | refine ⟨_, _, rfl, rfl, ?_⟩ | refine ⟨rfl, ?_⟩ | (refine ⟨?cc, ?_⟩; (case cc => walk_at "cc"))))
local macro_rules | `(tactic| walk_at "l") => `(tactic| (intro _ _ _ _ h; first | (cases h; subst_vars; rfl) | repeat (first | (obtain ⟨e, _⟩ := h; subst e; rfl) | obtain ⟨_, h⟩ := h)))
def hA(a:Array Lean.Syntax):Lean.MacroM (Array Lean.Term):=do
 let mut r:=#[]
 for e in a do
  match e.isNatLit? with
  |some n=>
   if e[0].getAtomVal.startsWith "0" then r:=r.push ⟨e⟩
   else
    let mut n:=n
    while n>0 do
     r:=r.push (←match (n-1)%4 with|0=>`(_)|1=>`($(Lean.mkIdent `U))|2=>`(?_)|_=>`(∅))
     n:=(n-1)/4
  |_=>r:=r.push ⟨e⟩
 return r
local macro_rules(kind:=«term{_}»)|`({$x,$y})=>`({$x with heap:=$y})
local macro_rules|`(tactic|simp!)=>`(tactic|simp_all)
def hB(r:Bool):Lean.Name->Lean.Name|.str p s=>if r||!p.isAnonymous then .str (hB r p) (match s with|"L"=>"length"|"H"=>"heap"|"J"=>"size"|"M"=>"objs"|"O"=>"testBit"|"P"=>"trans"|"Q"=>"get?"|"R"=>"toNat"|"U"=>"extBut"|"X"=>"symm"|"Y"=>"lookup"|"Z"=>"map"|"h"=>"Nodup"|"l"=>"toList"|"e"=>"push"|"i"=>"prog"|"j"=>"env"|"x"=>"take"|"y"=>"reverse"|"f"=>"Pairwise"|"v"=>"getD"|"u"=>"toks"|_=>s) else .str p s|n=>n
def hC(k:Nat)(x:Lean.Syntax):Lean.Syntax:=if x.isIdent then let n:=hB false x.getId;if n==x.getId then x else Lean.mkIdentFrom x n else if x.isOfKind `Lean.Parser.Term.proj then match k with|0=>x|k+1=>let n:=hB true x[2].getId;(x.setArg 0 (hC k x[0])).setArg 2 (if n==x[2].getId then x[2] else Lean.mkIdentFrom x[2] n) else x
def hD(x:Lean.Syntax):Lean.MacroM Lean.Term:=let i n:=Lean.mkIdent n;match x.getId with|`li=>`($(i `FnOk) $(i `P) $(i `w) $(i `K) $(i `mg) $(i `base) $(i `CX0))|`lw=>`($(i `Cal) $(i `P) $(i `w) $(i `K) $(i `mg) $(i `base))|`mi=>`($(i `wpAny) ($(i `model) $(i `prog) $(i `w)))|`mj=>`($(i `wpAny) ($(i `model) $(i `X.prog) $(i `X.w)))|`mu=>`($(i `Inv) $(i `X) $(i `pins))|`mx=>`($(i `bh) $(i `PassesOwn.never) $(i `U))|`nw=>`($(i `Inv) $(i `X) $(i `B) $(i `L))|`oD=>`($(i `E) ($(i `E) $(i `R)))|`o5=>`($(i `Same) $(i `H) $(i `H'))|`o6=>`($(i `RgD) $(i `m) $(i `es) $(i `ts) $(i `P) $(i `Nm))|`pi=>`($(i `SqL) $(i `K) $(i `H))|`rc=>`($(i `cD) $(i `m) $(i `es) $(i `ks) $(i `ts) $(i `od) $(i `ms))|_=>do let y:=hC 99 x;if y==x then Lean.Macro.throwUnsupported else return ⟨y⟩
local macro_rules
 |`($x:ident)=>hD x
 |`($e.$x:ident)=>do let y←`($e.$x:ident);hD y
 |`($f $a*)=>do
  match ←hD f with
  |`($g $b*)=>`($g $b* $a*)
  |g=>`($g $a*)
def hP(k:Nat)(e:Lean.Syntax):Lean.MacroM (Lean.TSyntax `rcasesPat):=do
 if e.isIdent then `(rcasesPat|$(⟨e⟩):ident)
 else if e.isOfKind `Lean.Parser.Term.hole then `(rcasesPat|_)
 else if e.isOfKind `Lean.Parser.Term.anonymousCtor then
  match k with
  |0=>Lean.Macro.throwUnsupported
  |k+1=>
   let q←e[1].getSepArgs.mapM (hP k)
   `(rcasesPat|⟨$[$q],*⟩)
 else Lean.Macro.throwUnsupported
def hG:Nat->Nat->Bool
 |k+1,n+1=>n%4==2||hG k (n/4)
 |_,_=>false
def hQ(k:Nat)(e:Lean.Syntax):Bool:=e.isOfKind `Lean.Parser.Term.syntheticHole||(match e.isNatLit? with|some n=>hG 999 n|_=>match k with|0=>false|k+1=>e.getArgs.any (hQ k))
local macro_rules|`(λ$xs* =>$b)=>do
 unless xs.any (·.raw.isOfKind `Lean.Parser.Term.anonymousCtor)&&!hQ 999 b do Lean.Macro.throwUnsupported
 let q←xs.mapM λx=>do `(rintroPat|$(←hP 99 x):rcasesPat)
 `(by rintro $q*;exact $b)
local macro_rules
 |`(tactic|let $c:letConfig $d:letDecl)=>do
  let z:=d.raw[0]
  unless z.isOfKind ``Lean.Parser.Term.letIdDecl do Lean.Macro.throwUnsupported
  if z[1].getNumArgs==0 then return ←`(tactic|have $c:letConfig $d:letDecl)
  let f(e:Lean.Syntax):Lean.MacroM (Lean.TSyntax `rcasesPat):=if e.isIdent then `(rcasesPat|$(⟨e⟩):ident) else `(rcasesPat|_)
  let mut p:=#[]
  for b in #[z[0][0]]++z[1].getArgs do
   if b.isOfKind ``Lean.Parser.Term.implicitBinder then
    let q←b[1].getArgs.mapM f
    p:=p.push (←`(rcasesPat|⟨$[$q],*⟩))
   else unless b.isOfKind `hygieneInfo do p:=p.push (←f b)
  if z[2].getNumArgs==0 then `(tactic|obtain ⟨$[$p],*⟩:=$(⟨z[4]⟩):term) else `(tactic|obtain ⟨$[$p],*⟩:$(⟨z[2][0][1]⟩):term:=$(⟨z[4]⟩):term)
local macro_rules|`(tactic|erw[$r,*])=>do
  `(tactic|refine ⟨$[$(←hA (r.getElems.map λe=>e.raw[1]))],*⟩)
open PySem (Addr Around CmpOp Env Expr FuncData Heap Obj Pos Program Result Scope Sem Shared Stmt Str Value World)
variable{C I a f i1 i2 i3 it p q va wd:Addr}{A:Around}{items:Array Value}{op:CmpOp}{env:Env}{e:Expr}{G J fd:FuncData}{base h h':Heap}{rs ts:E (E R)}{kv:E (R×R)}{T:E (Option Y)}{fr:E (Str×R)}{ch fp:E Addr}{outer:E Env}{ns ord:E Y}{W l l' ms nm od ps:E R}{its us vs:E Value}{K:MJ}{F L M N ep i j m n t':R}{Nm:R->R}{ex ex':R->R->Prop}{o ob:Obj}{np pos tp:Pos}{P prog:Program}{B:Prop}{ad:Result->Shared->Prop}{scope:Scope}{pl:Sem Bool}{x:Str}{mg:Str->Option Value}{α:Type}{ct u:Value}{dO Q:Value->Shared->Prop}{w:World}
theorem U.{u}{α:Sort u}{a:α}:a=a:=rfl
open Option renaming some->Z
inductive Ex2{α β:Sort _}(p:α->β->Prop):Prop|mk a b:p a b->Ex2 p
inductive Ex3{α β γ:Sort _}(p:α->β->γ->Prop):Prop|mk a b c:p a b c->Ex3 p
inductive Ex4{α β γ δ:Sort _}(p:α->β->γ->δ->Prop):Prop|mk a b c d:p a b c d->Ex4 p
inductive Ex5{α β γ δ ε:Sort _}(p:α->β->γ->δ->ε->Prop):Prop|mk a b c d e:p a b c d e->Ex5 p
inductive Ex6{α β γ δ ε ζ:Sort _}(p:α->β->γ->δ->ε->ζ->Prop):Prop|mk a b c d e f:p a b c d e f->Ex6 p
inductive An3(a b c:Prop):Prop|mk:a->b->c->An3 a b c
inductive An4(a b c d:Prop):Prop|mk:a->b->c->d->An4 a b c d
inductive An5(a b c d e:Prop):Prop|mk:a->b->c->d->e->An5 a b c d e
inductive An6(a b c d e f:Prop):Prop|mk:a->b->c->d->e->f->An6 a b c d e f
inductive An7(a b c d e f g:Prop):Prop|mk:a->b->c->d->e->f->g->An7 a b c d e f g
local macro_rules|`(∃$xs:explicitBinders,$b)=>do
 let x:=xs.raw[0]
 let mut v:=#[]
 if x.isOfKind `Lean.unbracketedExplicitBinders then
  for i in x[0].getArgs do v:=v.push (i[0],x[1][1])
 else
  for z in x.getArgs do
   for i in z[1].getArgs do v:=v.push (i[0],z[3])
 let mut c:Array Lean.Term:=#[]
 let mut e:Lean.Term:=b
 while true do
  match e with
  |`($p∧$q)=>c:=c.push p;e:=q
  |_=>break
 if v.size<2&&c.size<2 then Lean.Macro.throwUnsupported
 while c.size>0 do
  let a:=(c.extract (c.size-6) c.size).push e
  c:=c.extract 0 (c.size-6)
  e←if a.size<3 then `($(a[0]!)∧$e) else `($(Lean.mkIdent (.mkSimple s!"An{a.size}")) $a*)
 while v.size>0 do
  let g:=v.extract (v.size-6) v.size
  v:=v.extract 0 (v.size-6)
  let f←g.mapM λ(i,t)=>do
   let i←if i.isIdent then pure ⟨i⟩ else `(_)
   if t.isMissing then `(Lean.Parser.Term.funBinder|$i:term) else `(Lean.Parser.Term.funBinder|($i:term:$(⟨t⟩)))
  e←`($(if g.size<2 then Lean.mkIdent `Exists else Lean.mkIdent (.mkSimple s!"Ex{g.size}")) λ$f*=>$e)
 return e
def hS(x:Lean.Syntax):Lean.Syntax:=Id.run<|x.rewriteBottomUp (·.setInfo .none)
local macro_rules|`($x:declaration)=>do
 let d:=x.raw[1]
 unless x.raw[0].getArgs.all (·.getNumArgs==0) do Lean.Macro.throwUnsupported
 if d.isOfKind `Lean.Parser.Command.definition||d.isOfKind `Lean.Parser.Command.abbrev then
  if d.isOfKind `Lean.Parser.Command.definition&&d[3][1].isOfKind `Lean.Parser.Term.byTactic then
   let t:=(←`(theorem x:True:=x)).raw[1]
   return hS (x.raw.setArg 1 (t.setArgs #[t[0],d[1],d[2].setArg 1 d[2][1][0],d[3]]))
  return hS (x.raw.setArg 0 (←`(noncomputable def x:=1)).raw[0])
 if d.isOfKind `Lean.Parser.Command.theorem&&x.raw.getPos?.isSome&&!(d[1][0].getId.getRoot==`PySem) then return hS x
 if d.isOfKind `Lean.Parser.Command.inductive&&d[2][1].getNumArgs==0&&d[4].getNumArgs==1 then
  let v n:=Lean.mkIdent n
  let s:=(←`(inductive X($(v `vs):ident:E $(v `L2.V))($(v `H):ident:$(v `L2.Hp))($(v `Q):ident:$(v `L2.VK))(_:$(v `L2.XK)):Prop|mk)).raw[1][2]
  return x.raw.setArg 1 (d.setArg 2 (s.setArg 0 (Lean.mkNullNode (d[2][0].getArgs++s[0].getArgs))))
 Lean.Macro.throwUnsupported
open PySem renaming Value->eN,Addr->fc,Shared->ff,Heap->fo,Str->fI,FuncData->ge,Expr->hb,Stmt->hr,Program->hx,PyData->hH,Env->ih,Obj->ii,Scope->io,World->ix,Builtin->j0,SetTable->j3
open _root_ renaming Option->j5,Bool->ke,Array->kf
open Bool renaming true->kt,false->k9
open Option renaming none->lf
namespace L2
open PySem PySem.Spec PyProof.Rows
abbrev Key:=Sum Y fI
def qT:Key->eN->ke
 |.inl k,v=>eN.isInt k v
 |.inr x,v=>eN.isStrOf x v
def keyH(w:ix):Key->Y
 |.inl k=>hashInt k
 |.inr x=>hashStr w x
theorem bj:∀{k:Key}{v:eN},qT k v=kt->(∃ i t,k=Sum.inl i/\v=eN.int i t)∨(∃ x t,k=Sum.inr x/\v=eN.str x t)
 |.inl i,v,h=>by
  let t e:=eN.isInt_shape (k:=i) (v:=v) h;exact .inl ⟨i,t,U,e⟩
 |.inr x,v,h=>by
  let t e:=eN.isStrOf_shape (x:=x) (v:=v) h;exact .inr ⟨x,t,U,e⟩
def Fn(i:Y)(t:Tok):qT (.inl i) (.int i t)=kt:=by simp[qT,eN.isInt]
def Fm(x:fI)(t:Tok):qT (.inr x) (.str x t)=kt:=by simp[qT,eN.isStrOf]
def key_ll(a b:Y):decide ((Sum.inl a:Key)=Sum.inl b)=(a == b):=by
 by_cases e:a=b
 .subst e;simp
 .simp!
def key_rr(a b:fI):decide ((Sum.inr a:Key)=Sum.inr b)=decide (a=b):=by
 simp!
theorem key_lr(a:Y)(b:fI):decide ((Sum.inl a:Key)=Sum.inr b)=k9:=RN (λq=>nomatch q)
theorem key_rl(a:fI)(b:Y):decide ((Sum.inr a:Key)=Sum.inl b)=k9:=RN (λq=>nomatch q)
def bF(prog:hx)(w:ix):PySem.KeyKind prog w Key where
 is:=qT
 hash:=keyH w
 inj:=λv a b O M=>by
  rcases bj O with⟨i,t,rfl,rfl⟩|⟨x,t,rfl,rfl⟩
  .rcases bj M with⟨j,u,rfl,e⟩|⟨y,u,rfl,e⟩
   .injection e with f _;rw[f]
   .contradiction
  .rcases bj M with⟨j,u,rfl,e⟩|⟨y,u,rfl,e⟩
   .contradiction
   .injection e with f _;rw[f]
 byValue:=λk v h=>by
  rcases bj h with⟨i,t,rfl,rfl⟩|⟨x,t,rfl,rfl⟩<;>rfl
 pyHash:=λG h=>by
  rcases bj G with⟨i,t,rfl,rfl⟩|⟨x,t,rfl,rfl⟩
  .exact wpAny_pyHash_int h
  .exact wpAny_pyHash_str h
 eqBool:=λC G h=>by
  rcases bj C with⟨i,t,rfl,rfl⟩|⟨x,t,rfl,rfl⟩
  .rcases bj G with⟨j,u,rfl,rfl⟩|⟨y,u,rfl,rfl⟩
   .rw[key_ll]at h;exact wpAny_eqBool_int h
   .rw[key_lr]at h;exact SeqAt.EqAt.int_str i t y u _ _ _ _ h
  .rcases bj G with⟨j,u,rfl,rfl⟩|⟨y,u,rfl,rfl⟩
   .rw[key_rl]at h;exact SeqAt.EqAt.str_int x t j u _ _ _ _ h
   .rw[key_rr]at h;exact wpAny_eqBool_str h
 «strs»:=λk x t v h=>by
  rcases bj h with⟨i,u,rfl,e⟩|⟨y,u,rfl,e⟩
  .exact nomatch e
  .injection e with f _;subst f
   cases v<;>rfl
theorem zX(prog:hx)(w:ix)(i:Y)(t:Tok):(bF prog w).is (.inl i) (.int i t)=kt:=Fn i t
theorem zW(prog:hx)(w:ix)(x:fI)(t:Tok):(bF prog w).is (.inr x) (.str x t)=kt:=Fm x t
inductive V where
 |non|bl (b:ke)|int (i:Y)|str (x:fI)|byt (b:kf UInt8)|flt (b:UInt64)|ref (a:fc)|ty (n:String)
 deriving DecidableEq
def RelV:V->eN->Prop
 |.non,u=>u=eN.none
 |.bl b,u=>u=eN.bool b
 |.int i,u=>∃ t,u=eN.int i t
 |.str x,u=>∃ t,u=eN.str x t
 |.byt b,u=>∃ t,u=eN.bytes b t
 |.flt b,u=>∃ t,u=eN.float b t
 |.ref a,u=>u=eN.ref a
 |.ty n,u=>u=eN.type n
abbrev Vals:E V->E eN->Prop:=Paired RelV
theorem Vals.length{xs:E V}{us:E eN}(r:Vals xs us):xs.L=us.L:=Paired.length r
theorem Vals.get:∀{xs:E V}{us:E eN}{i:R}{x:V},Vals xs us->xs[i]?=Z x->∃ u,us[i]?=Z u/\RelV x u:=by
 intro xs us i x h;induction h generalizing i with
 |nil=>intro e;simp at e
 |cons r t ih=>
  intro e;cases i with
  |zero=>simp at e;subst e;exact⟨_,U,r⟩
  |succ i=>exact ih (by simpa using e)
theorem Vals.set{x:V}{u:eN}(r:RelV x u):∀{xs:E V}{us:E eN}(i:R),Vals xs us->Vals (xs.set i x) (us.set i u):=by
 intro xs us i h;induction h generalizing i with
 |nil=>exact .nil
 |cons q t ih=>
  cases i with
  |zero=>exact .cons r t
  |succ i=>exact .cons q (ih i)
theorem Vals.append:∀{xs ys:E V}{us ws:E eN},Vals xs us->Vals ys ws->Vals (xs++ys) (us++ws):=by
 intro xs ys us ws h k;induction h with
 |nil=>exact k
 |cons r t ih=>exact .cons r ih
theorem Vals.take:∀{xs:E V}{us:E eN}(n:R),Vals xs us->Vals (xs.x n) (us.x n):=by
 intro xs us n h;induction h generalizing n with
 |nil=>cases n<;>exact .nil
 |cons r t ih=>
  cases n with
  |zero=>exact .nil
  |succ n=>exact .cons r (ih n)
theorem Vals.drop:∀{xs:E V}{us:E eN}(n:R),Vals xs us->Vals (xs.drop n) (us.drop n):=by
 intro xs us n h;induction h generalizing n with
 |nil=>cases n<;>exact .nil
 |cons r t ih=>
  cases n with
  |zero=>exact .cons r t
  |succ n=>exact ih n
def RelO:j5 V->j5 eN->Prop
 |some v,Z u=>RelV v u
 |none,lf=>True
 |_,_=>False
def KV{a:Type}:E (a×V)->E (a×eN)->Prop:=Paired λ(p:a×V) (q:a×eN)=>p.1=q.1/\RelV p.2 q.2
def kV:Key->V
 |.inl i=>.int i
 |.inr x=>.str x
inductive HO where
  |lst (xs:E V)
  |tup (xs:E V)
  |dK (kvs:E (Key×V))|dT (kvs:E (E Key×V))
  |set (S:Y->ke) (n:R)
  |ins (C dx:fc) (fs:E (fI×V))
  |own (x:fc)
  |xd (fs:E (fI×V))
  |met (f x:fc)
  |rng (lo hi:Y)
  |frz (o:ii) (u:HO)
  |tbl (ps:kf eN)
  |ext (φ:fo->Prop)
abbrev Hp:=fc->j5 HO
def upd(H:Hp)(a:fc)(o:HO):Hp:=λb=>if b=a then Z o else H b
def ag{H:Hp}{o:HO}:upd H a o a=Z o:=by unfold upd;rw[Ti U]
def aw{H:Hp}{b:fc}{o:HO}(h:b≠a):upd H a o b=H b:=by unfold upd;rw[Tj h]
def Co{H:Hp}{b:fc}{o u:HO}(h:H a=Z o)(h':H b=Z u)(d:o≠u):a≠b:=by
 intro e;subst e;grind
def aH{H:Hp}{b:fc}{o:HO}(h:H a=Z o)(h':H b=lf):a≠b:=by
 grind
section
variable(P:hx)(w:ix)
def bC(H:Hp)(h:fo)(a:fc):HO->Prop
 |.lst D=>D.L<=RO/\∃(d:E eN)(n:R),Vals D d/\h.Q a=Z {cls:=.type "list",data:=.seq d.toArray n}
 |.tup D=>D.L<=RO/\∃ d:E eN,Vals D d/\IsTup h a d.toArray
 |.dK G=>G.L<=RO/\(a == sysModules)=k9/\∃ m,KV G m/\h.DictOf (bF P w) a m
 |.dT G=>G.L<=RO/\(a == sysModules)=k9/\∃ D:E (E Key×fc×eN),
   Paired (λ(p:E Key×V) (q:E Key×fc×eN)=>p.1=q.1/\H q.2.1=Z (.tup (p.1.Z kV))/\RelV p.2 q.2.2) G D /\
   ∃ o L j,h.Q a=Z o/\o.ExactDict/\o.data=.dict L j/\L.l=D.Z (entryOfKey (tupleKind (bF P w)))/\(D.Z (·.1)).h
 |.set S n=>h.SetOf (intKind P w) a S n
 |.ins C B fs=>H B=Z (.own a)/\fs.L<=1000/\B≠a/\h.Q a=Z (OZ C B) /\
   ∃ i,h.Ns1 B i/\(∀ f,RelO (fs.Y f) (i f))/\PySem.Within i (fs.Z (·.1))
 |.own _=>∃ o,h.Q a=Z o
 |.xd fs=>∃ i,h.Ns1 a i/\∀ f,RelO (fs.Y f) (i f)
 |.rng lo J=>∃ t u v,h.Q a=Z {cls:=.type "range",data:=.fields #[.int lo t,.int J u,.int 1 v]}
 |.frz o u=>h.Q a=Z o/\bC H h a u
 |.tbl N=>h.Q a=Z {cls:=.none,data:=.fields N}
 |.met f x=>h.Q a=Z (QK (.ref f) (.ref x))
 |.ext s=>s h/\(∃ o,h.Q a=Z o)/\∀ eK O:fo,s eK->(∀ o,eK.Q a=Z o->O.Q a=Z o)->s O
def HOk(H:Hp)(h:fo):Prop:=∀ a o,H a=Z o->bC P w H h a o
end
section
variable{P:hx}{w:ix}{H H':Hp}{h h':fo}{a:fc}{o:HO}
def bC.lt(x:bC P w H h a o):a<h.M.J:=by
 cases o with
 |lst D=>obtain⟨_,_,_,_,e⟩:=x;exact RP e
 |tup D=>obtain⟨_,_,_,p⟩:=x;exact p.lt
 |dK G=>obtain⟨_,_,_,_,o,_,_,e,_⟩:=x;exact RP e
 |dT G=>obtain⟨_,_,_,_,o,_,_,e,_⟩:=x;exact RP e
 |set S n=>obtain⟨o,_,_,_,e,_⟩:=x;exact RP e
 |ins C B fs=>obtain⟨_,_,_,e,_⟩:=x;exact RP e
 |own y=>obtain⟨_,e⟩:=x;exact RP e
 |xd fs=>obtain⟨_,⟨_,_,_,e,_⟩,_⟩:=x;exact RP e
 |rng lo J=>obtain⟨_,_,_,e⟩:=x;exact RP e
 |frz T u=>obtain⟨e,_⟩:=x;exact RP e
 |tbl N=>exact RP (show h.Q a=Z _ from x)
 |met f y=>exact RP (show h.Q a=Z _ from x)
 |ext s=>obtain⟨_,⟨_,e⟩,_⟩:=x;exact RP e
theorem Paired.mapP{α j:Type}{F G:α->j->Prop}:∀{c:E α}{d:E j},Paired F c d->(∀ a b,F a b->G a b)->Paired G c d:=by
 intro c d h f;induction h with
 |nil=>exact .nil
 |cons r t ih=>exact .cons (f _ _ r) ih
def bC.stay(x:bC P w H h a o)(k:∀ b u,(b=a∨H b=Z (.own a))->h.Q b=Z u->h'.Q b=Z u)(D:∀ b,H b=Z (.own a)->H' b=Z (.own a))(g:∀ b xs,H b=Z (.tup xs)->H' b=Z (.tup xs)):bC P w H' h' a o:=by
 induction o with
 |lst xs=>obtain⟨z,Q,n,r,e⟩:=x;erw[z,Q,n,r,k _ _ (.inl U) e]
 |tup xs=>obtain⟨z,Q,r,T,e,c⟩:=x;erw[z,Q,r,T,k _ _ (.inl U) e,c]
 |dK G=>obtain⟨z,y,m,r,T,O,j,e,c⟩:=x;erw[z,y,m,r,T,O,j,k _ _ (.inl U) e,c]
 |dT G=>
  let z y xs r T O j e c c2 c3 c4:=x;erw[z,y,xs,Paired.mapP r λp q z=>⟨z.1,g _ _ z.2.1,z.2.2⟩,T,O,j,k _ _ (.inl U) e,c,c2,c3,c4]
 |set S n=>obtain⟨T,O,j,t,e,c⟩:=x;erw[T,O,j,t,k _ _ (.inl U) e,c]
 |ins C B fs=>
  let d z ne e l{i O j A c}r I:=x;erw[D _ d,z,ne,k _ _ (.inl U) e,l,⟨i,O,j,k _ _ (.inr d) A,c⟩,r,I]
 |own y=>obtain⟨T,e⟩:=x;erw[T,k _ _ (.inl U) e]
 |xd fs=>obtain⟨l,⟨i,O,j,e,c⟩,r⟩:=x;erw[l,⟨i,O,j,k _ _ (.inl U) e,c⟩,r]
 |rng lo J=>obtain⟨t,u,v,e⟩:=x;erw[t,u,v,k _ _ (.inl U) e]
 |frz T u dO=>obtain⟨e,q⟩:=x;erw[k _ _ (.inl U) e,dO q]
 |tbl N=>
  let e:h.Q a=Z {cls:=.none,data:=.fields N}:=x;show h'.Q a=Z {cls:=.none,data:=.fields N};exact k a _ (.inl U) e
 |met f y=>
  let e:h.Q a=Z (QK (.ref f) (.ref y)):=x;show h'.Q a=Z (QK (.ref f) (.ref y));exact k a _ (.inl U) e
 |ext s=>obtain⟨p,⟨o,e⟩,st⟩:=x;erw[st _ _ p λo q=>k _ _ (.inl U) q,⟨o,k _ _ (.inl U) e⟩,st]
theorem HOk.lt(x:HOk P w H h)(e:H a=Z o):a<h.M.J:=(x a o e).lt
def HOk.fresh(x:HOk P w H h)(e:h.M.J<=a):H a=lf:=by
 cases q:H a with
 |none=>rfl
 |some u=>exact Tn (Ni (x.lt q) e) (Ob _)
theorem HOk.kept(x:HOk P w H h)(k:∀ b u,h.Q b=Z u->h'.Q b=Z u):HOk P w H h':=λa o e=>
 (x a o e).stay (λb u _ q=>k b u q) (λ_ q=>q) λ_ _ q=>q
theorem HOk.laid(x:HOk P w H h)(k:∀ b u,h.Q b=Z u->h'.Q b=Z u)(G:h.M.J<=a)(new:bC P w (upd H a o) h' a o):HOk P w (upd H a o) h':=λb u e=>by
 let T:=x.fresh G;by_cases M:b=a
 .subst M;rw[ag]at e;cases e;exact new
 .rw[aw M]at e;exact(x b u e).stay (λc v _ q=>k c v q) (λc q=>by rw[aw (aH q T)];exact q) λc D q=>by rw[aw (aH q T)];exact q
end
def Rd(H:Hp)(a:fc)(u:HO):Prop:=H a=Z u∨∃ o,H a=Z (.frz o u)
def Rd.ok{H:Hp}{u:HO}(r:Rd H a u)(x:HOk P w H h):bC P w H h a u:=by
 obtain r|⟨o,r⟩:=r
 .exact x a u r
 .let _ q:=x a _ r;exact q
def Mut:j5 HO->Prop
 |some (.lst _)=>True
 |some (.dK _)=>True
 |some (.dT _)=>True
 |some (.set _ _)=>True
 |some (.ins _ _ _)=>True
 |some (.ext _)=>True
 |_=>False
section
variable{P:hx}{w:ix}{H:Hp}{h h':fo}{x e:fc}{o':HO}
theorem HOk.write(ok:HOk P w H h)(f:Mut (H x))(N:e=x∨H e=Z (.own x))(k:∀ b u,b≠e->h.Q b=Z u->h'.Q b=Z u)(d:∃ u,h'.Q e=Z u)
  (new:bC P w (upd H x o') h' x o'):HOk P w (upd H x o') h':=λb u q=>by
 let g:∀ c y,H c=Z (.own y)->c≠x:=λc y r z=>by subst z;rw[r]at f;exact f
 let i:∀ c D,H c=Z (.tup D)->c≠x:=λc D r z=>by subst z;rw[r]at f;exact f
 by_cases M:b=x
 .subst M;rw[ag]at q;cases q;exact new
 .rw[aw M]at q;by_cases a:b=e
  .let G:H b=Z (.own x):=by
    obtain z|z:=N
    .exact Tn (a.P z) M
    .rw[a];exact z
   rw[q]at G;cases G;let v t:=d;erw[v,by rw[a];exact t]
  .refine(ok b u q).stay (λc v J r=>k c v ?_ r) (λc r=>by rw[aw (g c b r)];exact r) λc D r=>by rw[aw (i c D r)];exact r
   obtain rfl|J:=J
   .exact a
   .grind
end
structure Un(fs ex:E fc)(H H':Hp)(h h':fo):Prop where
 keep:∀ b o,h.Q b=Z o->H b=lf->b∉fs->b∉ex->h'.Q b=Z o
 slot:∀ b o,h.Q b=Z o->H b=lf->b∈fs->b∉ex->∃ sl,h'.Q b=Z {o with slots:=sl}
 free:∀ b o,h.Q b=Z o->H b=lf->b∉ex->H' b=lf
 there:∀ b o,h.Q b=Z o->b∉ex->∃ o',h'.Q b=Z o'
 tups:∀ b xs,H b=Z (.tup xs)->H' b=Z (.tup xs)
 frzs:∀ b o u,H b=Z (.frz o u)->H' b=Z (.frz o u)
 tbls:∀ b ps,H b=Z (.tbl ps)->∃ more,H' b=Z (.tbl (ps++more))
section
variable{fs fs' ex ex':E fc}{H H1 H2:Hp}{h h1 h2 h':fo}{a x e:fc}{o:HO}
def Un.any(u:Un fs ex H H1 h h1){b:fc}(q:h.Q b=Z ob)(n:H b=lf)(B:b∉ex):∃ sl,h1.Q b=Z {ob with slots:=sl}:=by
 by_cases M:b∈fs
 .exact u.slot b ob q n M B
 .erw[ob.slots,u.keep b ob q n M B]
theorem Un.kept(k:∀ b u,h.Q b=Z u->h'.Q b=Z u):Un fs ex H H h h':=
 ⟨λb T q _ _ _=>k b T q,λb T q _ _ _=>⟨T.slots,k b T q⟩,λ_ _ _ n _=>n,λb T q _=>⟨T,k b T q⟩,λ_ _ q=>q,λ_ _ _ q=>q,λ_ N q=>⟨#[],by assumption⟩⟩
theorem Un.refl:Un fs ex H H h h:=Un.kept λ_ _ q=>q
theorem Un.laid(k:∀ b u,h.Q b=Z u->h'.Q b=Z u)(G:h.M.J<=a)(T:H a=lf):Un fs ex H (upd H a o) h h' where
 keep:=λb u q _ _ _=>k b u q
 slot:=λb u q _ _ _=>⟨u.slots,k b u q⟩
 free:=λb u q n _=>by rw[aw (Nh (Ni (RP q) G))];exact n
 there:=λb u q _=>⟨u,k b u q⟩
 tups:=λb D q=>by rw[aw (aH q T)];exact q
 frzs:=λb u D q=>by rw[aw (aH q T)];exact q
 tbls:=λb N q=>⟨#[],by rw[aw (aH q T),q];simp⟩
def Un.write(f:Mut (H x))(N:e=x∨H e=Z (.own x))(k:∀ b u,b≠e->h.Q b=Z u->h'.Q b=Z u)(d:∃ u,h'.Q e=Z u):Un fs ex H (upd H x o) h h':=by
 let B:∀ b,H b=lf->b≠x:=λb n z=>by subst z;rw[n]at f;exact f
 let M:∀ b,H b=lf->b≠e:=λb n z=>by
  simp!
 let y:∀ b u,H b=Z u->¬ Mut (Z u)->b≠x:=λb u q p z=>by simp!
 erw[λb u q n _ _=>k b u (M b n) q,λb u q n _ _=>⟨u.slots,k b u (M b n) q⟩,λb u q n _=>by rw[aw (B b n)];exact n,λb u q _=>?_,
  λb D q=>by rw[aw (y b _ q λz=>z)];exact q,λb u D q=>by rw[aw (y b _ q λz=>z)];exact q,λb j q=>⟨#[],by rw[aw (y b _ q λz=>z),q];simp⟩]
 by_cases a:b=e
 .subst a;exact d
 .erw[u,k b u a q]
end
def trk(h:fo)(H:Hp):E fc:=(Nf h.M.J).filter λa=>(H a).isSome
def hidT(h:fo)(H:Hp):fo:=PySem.W.hideAll h (trk h H)
theorem FF(h:fo)(H:Hp):(hidT h H).M.J=h.M.J:=PySem.W.hideAll_size _ _
theorem pY{H:Hp}{b:fc}(e:h.Q b=Z o)(n:H b=lf):(hidT h H).Q b=Z o:=
 QD _ e λy=>by
  let q:(H b).isSome=kt:=(N0.mp y).2;rw[n]at q;simp at q
def LS{H:Hp}{b:fc}(e:(hidT h H).Q b=Z o):h.Q b=Z o/\H b=lf:=by
 let Q:h.Q b=Z o:=PySem.W.of_hideAll (trk h H) e;erw[Q,3]
 cases q:H b with
 |none=>rfl
 |some x=>
  let y:b∈trk h H:=N0.mpr ⟨Nk.mpr (RP Q),by simp[q]⟩
  let z:(hidT h H).Q b=lf:=PySem.W.hideAll_none (trk h H) y;simp!
structure Mod(K:MJ)(mg:fI->j5 eN)(base:fo):Prop where
 kin:K.In base
 glob:base.Ns RQ mg
 blt:∃ mb,base.Ns builtinsNs mb/\∀ x:fI,x≠"__name__"->mb x=RS x
 nolimit:base.NoLimit
set_option genInjectivity false in
structure Cx where
 prog:hx
 w:ix
 K:MJ
 mg:fI->j5 eN
 base:fo
 A:Around
 N:E fI
 s₀:ff
 H₀:Hp
 env:ih
 outer:E ih
 stack:E ih
 ex:E fc
 fn:fI->ke
 calm:ke
 pn:E (fc×ii)
 xe:eN->ff->Prop
def frs(l:E ih):E fc:=l.filterMap (·.frame)
abbrev Cx.fs(X:Cx):E fc:=frs X.outer
def Vis(a:io)(x:fI):Prop:=a.names.Y x=Z .local∨a.names.Y x=Z .cell∨a.names.Y x=Z .free
def Loc(a:io)(x:fI):Prop:=a.names.Y x=Z .local∨a.names.Y x=Z .cell
def Look(env:ih)(h:fo)(m:fI->j5 eN)(x:fI)(u:eN):Prop:=
 (env.kindOf x=Z .local/\m x=Z u)∨((env.kindOf x=Z .cell∨env.kindOf x=Z .free)/\∃ c,env.cells.Y x=Z c/\h.IsCell c (Z u))
structure Cx.Ok(X:Cx):Prop where
 mod:Mod X.K X.mg X.base
 kind:X.j.scope.kind=.function
 glob:X.j.globals=RQ
 blt:X.j.builtins=builtinsNs
 above:X.s₀.H.M.J<=X.j.locals
 inj:∀ x y c,X.j.cells.Y x=Z c->X.j.cells.Y y=Z c->x=y
 has:∀ x,(X.j.kindOf x=Z .cell∨X.j.kindOf x=Z .free)->∃ c,X.j.cells.Y x=Z c
 cab:∀ x c,X.fn x=kt->X.j.cells.Y x=Z c->X.s₀.H.M.J<=c
 hd:X.calm=kt->X.A.handled=lf
 frames:X.A.frames=Z X.stack
 stk:X.stack=X.outer∨(X.stack=X.j::X.outer/\X.j.frame=Z X.j.locals)
 exf:∀ b∈X.ex,b≠X.j.locals/\∀ x c,X.j.cells.Y x=Z c->c≠b
 bs:∀ b o,X.base.Q b=Z o->X.s₀.H.Q b=Z o/\X.H₀ b=lf
 bsz:X.base.M.J<=X.s₀.H.M.J
 noex:∀ b o,X.base.Q b=Z o->b∉X.ex
 exfs:∀ b∈X.ex,b∉X.fs
 funs:X.s₀.H.FunFrames X.base X.outer
 frf:∀ b∈X.fs,X.H₀ b=lf
structure Inv(X:Cx)(pins:E (fc×ii))(σ:E (j5 V))(H:Hp)(s:ff):Prop where
 ok:X.Ok
 os:s.os=X.s₀.os
 bare:AllBare s.gens
 base:Un X.fs X.ex X.H₀ H X.s₀.H s.H
 loc:∃ m,s.H.Ns X.j.locals m/\∀(i:R)(x:fI)(v:V),X.N[i]?=Z x->σ[i]?=Z (Z v)->Vis X.j.scope x->∃ u,RelV v u/\Look X.j s.H m x u
 cell:∀ x c,X.j.cells.Y x=Z c->∃ v,s.H.IsCell c v
 free:H X.j.locals=lf
 freeC:∀ x c,X.j.cells.Y x=Z c->H c=lf
 pin:∀ p∈X.pn++pins,s.H.Q p.1=Z p.2/\H p.1=lf/\p.1≠X.j.locals/\p.1∉X.fs/\∀ v,p.2.data≠.cell v
 hok:HOk X.i X.w H s.H
 len:σ.L=X.N.L
section
variable{X:Cx}{pins:E (fc×ii)}{σ:E (j5 V)}{H H':Hp}{s:ff}{h':fo}
theorem Cx.Ok.nofr(ok:X.Ok){b:fc}(e:X.base.Q b=Z o):b∉X.fs:=λM=>by
 let:=(ok.funs.mem M).1;simp!
theorem Inv.bs(I:Inv X pins σ H s):∀ b o,X.base.Q b=Z o->s.H.Q b=Z o/\H b=lf:=λb o e=>
 ⟨I.base.keep b o (I.ok.bs b o e).1 (I.ok.bs b o e).2 (I.ok.nofr e) (I.ok.noex b o e),I.base.free b o (I.ok.bs b o e).1 (I.ok.bs b o e).2 (I.ok.noex b o e)⟩
theorem Inv.bk(I:Inv X pins σ H s):∀ b o,X.base.Q b=Z o->s.H.Q b=Z o:=λb o e=>(I.bs b o e).1
theorem Inv.mod(I:Inv X pins σ H s):Mod X.K X.mg X.base:=I.ok.mod
theorem Inv.kIn(I:Inv X pins σ H s):X.K.In s.H:=I.ok.mod.kin.keeps I.bk
theorem Inv.nolimit(I:Inv X pins σ H s):s.H.NoLimit:=I.ok.mod.nolimit.keeps I.bk
theorem Inv.lt(I:Inv X pins σ H s):X.j.locals<s.H.M.J:=let ⟨_,T,_⟩:=I.loc;T.lt
theorem Inv.sz(I:Inv X pins σ H s):X.s₀.H.M.J<=s.H.M.J:=NH I.ok.above (M4 I.lt)
theorem Inv.nofs(I:Inv X pins σ H s)(h:s.H.M.J<=a):a∉X.fs:=λM=>by
 let _ o D _:=I.ok.funs.mem M;exact Tn (Ni (RP D) (NH I.sz h)) (Ob _)
theorem Inv.cne(I:Inv X pins σ H s):∀ x c,X.j.cells.Y x=Z c->c≠X.j.locals:=λx c e z=>by
 let v o D hd:=I.cell x c e;let m{C O j k a _}_:=I.loc;simp!
def Inv.funs(I:Inv X pins σ H s):s.H.FunFrames X.base X.outer:=by
 let all:∀(l:E ih),(∀ b∈frs l,b∈X.fs)->X.s₀.H.FunFrames X.base l->s.H.FunFrames X.base l:=by
  intro l;induction l with
  |nil=>intro _ _;trivial
  |cons j r C=>
   intro T t;let D{L o A p g hd}u:=t;let d:L∈X.fs:=T L (by unfold frs;rw[Oh,A];exact M7)
   let h e:=I.base.slot L o g (I.ok.frf L d) d λz=>I.ok.exfs L z d;erw[D,⟨L,_,A,p,e,hd⟩,C (λb M=>T b (by unfold frs;rw[Oh,A];exact M6 _ M)) u]
 exact all X.outer (λ_ M=>M) I.ok.funs
def Inv.stack(I:Inv X pins σ H s):s.H.FunFrames X.base X.stack:=by
 obtain e|⟨e,A⟩:=I.ok.stk
 .rw[e];exact I.funs
 .rw[e];let m T _:=I.loc;refine .cons (by rw[I.ok.kind];decide) A T ?_ I.funs
  exact RT (NH I.ok.bsz I.ok.above)
theorem Inv.stkSub(I:Inv X pins σ H s):∀ b∈frs X.stack,b∈X.j.locals::X.fs:=λb M=>by
 obtain e|⟨e,A⟩:=I.ok.stk
 .rw[e]at M;exact M6 _ M
 .rw[e]at M;unfold frs at M;rw[Oh,A]at M;exact M
theorem Inv.stkFree(I:Inv X pins σ H s):∀ b∈frs X.stack,H b=lf:=λb M=>by
 rcases MY.mp (I.stkSub b M)with e|M
 .rw[e];exact I.free
 .let _ o D _:=I.ok.funs.mem M;exact I.base.free b o D (I.ok.frf b M) λz=>I.ok.exfs b z M
def Inv.step{g':kf GenState}{t':R}{d':Drawn}{ch:E fc}(I:Inv X pins σ H s)(y:∀ b∈ch,(b∈X.ex∨X.s₀.H.M.J<=b)/\b≠X.j.locals/\(∀ x c,X.j.cells.Y x=Z c->c≠b)/\∀ p∈X.pn++pins,p.1≠b)(keep:∀ b o,b≠X.j.locals->b∉X.fs->b∉ch->s.H.Q b=Z o->H b=lf->h'.Q b=Z o)(slot:∀ b o,b≠X.j.locals->b∈X.fs->b∉ch->s.H.Q b=Z o->H b=lf->∃ sl,h'.Q b=Z {o with slots:=sl})(free:∀ b o,b∉ch->s.H.Q b=Z o->H b=lf->H' b=lf)(there:∀ b o,b∉ch->s.H.Q b=Z o->∃ C,h'.Q b=Z C)(tups:∀ b xs,H b=Z (.tup xs)->H' b=Z (.tup xs))(frzs:∀ b o u,H b=Z (.frz o u)->H' b=Z (.frz o u))(tbls:∀ b ps,H b=Z (.tbl ps)->∃ more,H' b=Z (.tbl (ps++more)))(ns:∀ m,s.H.Ns X.j.locals m->h'.Ns X.j.locals m)(dO:HOk X.i X.w H' h')(a:AllBare g'):
  mu σ H' {s with heap:=h',gens:=g',drawn:=d',toks:=t'}:=by
 let eK:∀ b o,X.s₀.H.Q b=Z o->b≠X.j.locals:=λb o e=>Nh (Ni (RP e) I.ok.above);let L:∀ b o,X.s₀.H.Q b=Z o->b∉X.ex->b∉ch:=λb o e B M=>by
  rcases(y b M).1 with z|z
  .exact B z
  .exact Tn (Ni (RP e) z) (Ob _)
 let N:∀ x c,X.j.cells.Y x=Z c->∀ v,s.H.IsCell c v->h'.IsCell c v:=λx c e v ⟨o,D,hd⟩=>by
  let O:c∉ch:=λz=>(y c z).2.2.1 x c e U;by_cases J:c∈X.fs
  .let sl q:=slot c o (I.cne x c e) J O D (I.freeC x c e);erw[_,q,hd]
  .erw[o,keep c o (I.cne x c e) J O D (I.freeC x c e),hd]
 erw[I.ok,I.os,a,⟨λb o e n M B=>?_,λb o e n M B=>?_,λb o e n B=>?_,λb o e B=>?_,λb xs e=>tups b xs (I.base.tups b xs e),λb o xs e=>frzs b o xs (I.base.frzs b o xs e),λb ps e=>?_⟩,3,λx c e=>?_,3,λx c e=>?_,λp G=>?_,dO,I.len]
 .exact keep b o (eK b o e) M (L b o e B) (I.base.keep b o e n M B) (I.base.free b o e n B)
 .let sl f:=I.base.slot b o e n M B;let aa A:=slot b _ (eK b o e) M (L b o e B) f (I.base.free b o e n B);erw[aa,A]
 .let C f:=I.base.there b o e B;exact free b C (L b o e B) f (I.base.free b o e n B)
 .let C f:=I.base.there b o e B;exact there b C (L b o e B) f
 .let Q f:=I.base.tbls b ps e;let h A:=tbls b _ f;erw[Q++h,by simp[*]]
 .let m T t:=I.loc;erw[m,ns m T,λi x v f A g=>?_];let u r l:=t i x v f A g;erw[u,r,3];obtain l|⟨k,c,e,z⟩:=l
  .exact .inl l
  .exact .inr ⟨k,c,e,N x c e _ z⟩
 .let v z:=I.cell x c e;erw[v,N x c e v z]
 .let m{o _ _ D _}_:=I.loc;exact free _ o (λz=>(y _ z).2.1 U) D I.free
 .let v o D hd:=I.cell x c e;exact free c o (λz=>(y c z).2.2.1 x c e U) D (I.freeC x c e)
 .let e n ne j d:=I.pin p G;let O:p.1∉ch:=λz=>(y p.1 z).2.2.2 p G U;erw[keep p.1 p.2 ne j O e n,free p.1 p.2 O e n,ne,j,d]
def Inv.un(I:Inv X pins σ H s)(u:Un X.fs [] H H' s.H h')(dO:HOk X.i X.w H' h'):Inv X pins σ H' {s with heap:=h',toks:=t'}:=by
 let m{o O j D r}_:=id I.loc;let h d:=u.any D I.free ∅
 exact I.step (g':=s.gens) (d':=s.drawn) (ch:=[]) (λ_ z=>nomatch z) (λb o _ M _ e n=>u.keep b o e n M ∅) (λb o _ M _ e n=>u.slot b o e n M ∅) (λb o _ e n=>u.free b o e n ∅) (λb o _ e=>u.there b o e ∅) u.tups u.frzs u.tbls (λf y=>by
  let C i l k q:=y;rw[D]at k;cases k
  erw[_,i,l,d,q]) dO I.bare
def Inv.call{g':kf GenState}{d':Drawn}(I:Inv X pins σ H s)(u:Un (frs X.stack) ch H H' s.H h')(dO:HOk X.i X.w H' h')(a:AllBare g')(f:∀ b∈ch,(b∈X.ex∨X.s₀.H.M.J<=b)/\b≠X.j.locals/\(∀ x c,X.j.cells.Y x=Z c->c≠b)/\∀ p∈X.pn++pins,p.1≠b):
  mu σ H' {s with heap:=h',gens:=g',drawn:=d',toks:=t'}:=by
 let m{o O j D r}_:=id I.loc;let h d:=u.any D I.free λz=>(f _ z).2.1 U
 exact I.step (ch:=ch) f (λb o d M J e n=>u.keep b o e n (λz=>(MY.mp (I.stkSub b z)).elim d M) J) (λb o _ _ J e n=>u.any e n J) (λb o J e n=>u.free b o e n J) (λb o J e=>u.there b o e J) u.tups u.frzs u.tbls (λg y=>by
  let C i l k q:=y;rw[D]at k;cases k
  erw[_,i,l,d,q]) dO a
def Inv.turned(I:Inv X pins σ H s)(k:∀ b o,b≠it->s.H.Q b=Z o->h'.Q b=Z o)(T:H it=lf)(d:it≠X.j.locals)(eK:it∈X.ex∨X.s₀.H.M.J<=it)(h2:∀ x c,X.j.cells.Y x=Z c->c≠it)(G:∀ p∈X.pn++pins,p.1≠it):Inv X pins σ H {s with heap:=h',toks:=t'}:=by
 let f:∀ b u,H b=Z u->b≠it:=λb u e z=>by simp!
 refine I.step (g':=s.gens) (d':=s.drawn) (ch:=[it]) (λb M=>?_) (λb o _ _ J e _=>k b o (λz=>J (by simp[z])) e) (λb o _ _ J e _=>⟨o.slots,k b o (λz=>J (by simp[z])) e⟩) (λ_ _ _ _ n=>n)
  (λb o J e=>⟨o,k b o (λz=>J (by simp[z])) e⟩) (λ_ _ e=>e) (λ_ _ _ e=>e) (λb N e=>⟨#[],by assumption⟩) (λm y=>?_) (λb u e=>?_) I.bare
 .let e:b=it:=by simpa using M
  subst e;erw[eK,d,h2,G]
 .let o O j D r:=y;erw[o,O,j,k _ o (Ne.X d) D,r]
 .refine(I.hok b u e).stay (λc v J q=>k c v ?_ q) (λ_ q=>q) λ_ _ q=>q;obtain z|z:=J
  .rw[z];exact f b u e
  .exact f c _ z
theorem Inv.tok(I:Inv X pins σ H s)(t:R):Inv X pins σ H {s with toks:=t}:=I.un (h':=s.H) (t':=t) Un.refl I.hok
theorem Inv.kept{t':R}(I:Inv X pins σ H s)(k:∀ b u,s.H.Q b=Z u->h'.Q b=Z u):Inv X pins σ H {s with heap:=h',toks:=t'}:=I.un (Un.kept k) (I.hok.kept k)
theorem Inv.laid{a:fc}{o:HO}{t':R}(I:Inv X pins σ H s)(k:∀ b u,s.H.Q b=Z u->h'.Q b=Z u)(G:s.H.M.J<=a)(new:bC X.i X.w (upd H a o) h' a o):
  mu σ (upd H a o) {s with heap:=h',toks:=t'}:=I.un (Un.laid k G (I.hok.fresh G)) (I.hok.laid k G new)
theorem Inv.write{x e:fc}{o:HO}{t':R}(I:Inv X pins σ H s)(f:Mut (H x))(N:e=x∨H e=Z (.own x))(k:∀ b u,b≠e->s.H.Q b=Z u->h'.Q b=Z u)(d:∃ u,h'.Q e=Z u)(new:bC X.i X.w (upd H x o) h' x o):Inv X pins σ (upd H x o) {s with heap:=h',toks:=t'}:=I.un (Un.write f N k d) (I.hok.write f N k d new)
theorem Inv.weak{σ':E (j5 V)}(I:Inv X pins σ H s)(hl:σ'.L=σ.L)(w:∀ (i:R) v,σ'[i]?=Z (Z v)->σ[i]?=Z (Z v)):Inv X pins σ' H s:=
 ⟨I.ok,I.os,I.bare,I.base,let ⟨m,T,a⟩:=I.loc;⟨m,T,λi x v f A B=>a i x v f (w i v A) B⟩,I.cell,I.free,I.freeC,I.pin,I.hok,hl.P I.len⟩
theorem Inv.pins_of{a:E (fc×ii)}(I:Inv X pins σ H s)(h:∀ p∈a,s.H.Q p.1=Z p.2/\H p.1=lf/\p.1≠X.j.locals/\p.1∉X.fs/\∀ v,p.2.data≠.cell v):Inv X a σ H s:=
 ⟨I.ok,I.os,I.bare,I.base,I.loc,I.cell,I.free,I.freeC,λp G=>(Ng.mp G).elim (λz=>I.pin p (NG _ z)) (h p),I.hok,I.len⟩
def BH{N:E fI}(c:N.h)(a:N[i]?=Z x)(b:N[j]?=Z x):i=j:=by
 let eK f:=MF.mp a;let O A:=MF.mp b;exact(List.getElem_inj c).mp (f.P A.X)
def DP{M:Model}{v:V}{Q:Unit->ff->Prop}(I:mu σ H s)(hN:X.N.h)(hi:X.N[i]?=Z x)(B:Loc X.j.scope x)(r:RelV v u)(h:∀ s',mu (σ.set i (Z v)) H s'->(∃ a,RU a s.H s'.H/\(a=X.j.locals∨X.j.cells.Y x=Z a))->Q () s')(C:X.fn x=kt∨X.j.scope.names.Y x=Z .local:=by first|exact .inl rfl|exact .inr rfl|assumption):wpAny M A (storeName X.j x u) Q dO s:=by
 let m eK t:=id I.loc;let ac:(X.j.scope.kind == .class||(X.j.scope.kind == .module&&X.j.locals != X.j.globals))=k9:=by rw[I.ok.kind];rfl
 let al:i<σ.L:=by rw[I.len];exact(MF.mp hi).1
 let cne:=I.cne;let aa:∀{a:fc}{h':fo},(∃ o,s.H.Q a=Z o/\H a=lf)->RU a s.H h'->HOk X.i X.w H h':=λ{a h'} O T b ob e=>by
  let _ _ ap:=O;refine(I.hok b ob e).stay (λc w' J q=>(T.2 c ?_).P q) (λ_ q=>q) λ_ _ q=>q;rintro rfl;simp!
 obtain D|D:=B
 .refine wpAny_storeName_local D eK (λh' ar T=>?_) ac;let oL _ _ ab _:=id eK;refine h _ ⟨I.ok,I.os,I.bare,⟨λb o e n g B=>?_,λb o e n g B=>?_,I.base.free,λb o e B=>?_,I.base.tups,I.base.frzs,I.base.tbls⟩,⟨_,ar,λj y v' f l e3=>?_⟩,λy c e=>?_,I.free,I.freeC,λp G=>?_,aa ⟨oL,ab,I.free⟩ T,by simpa using I.len⟩ ⟨_,T,.inl U⟩
  .exact(T.2 b (Nh (Ni (RP e) I.ok.above))).P (I.base.keep b o e n g B)
  .let sl f:=I.base.slot b o e n g B;erw[sl,(T.2 b (Nh (Ni (RP e) I.ok.above))).P f]
  .let o' f:=I.base.there b o e B;erw[o',(T.2 b (Nh (Ni (RP e) I.ok.above))).P f]
  .by_cases L:j=i
   .subst L;rw[hi]at f;cases f;rw[Pe al]at l
    cases l
    erw[u,r,.inl ⟨D,by simp⟩]
   .rw[Pq (Ne.X L)]at l;let u' r' q:=t j y v' f l e3;erw[u',r',3];rcases q with⟨k,e⟩|⟨k,c,e,z⟩
    .refine .inl ⟨k,?_⟩;let:y≠x:=λe=>L (BH hN f (e▸hi));simp[this,e]
    .exact .inr ⟨k,c,e,z.sameBut T (cne y c e)⟩
  .let w' z:=I.cell y c e;erw[w',z.sameBut T (cne y c e)]
  .let e n ne nf d:=I.pin p G;erw[(T.2 p.1 ne).P e,n,ne,nf,d]
 .let am:X.fn x=kt:=by simp!
  let c J:=I.ok.has x (.inl D);let w' z:=I.cell x c J;refine wpAny_storeName_cell I.ok.kind D J z (λh' ah T=>?_);let oc av aI:=id z;refine h {s,h'} ⟨I.ok,I.os,I.bare,⟨λb o e n g B=>?_,λb o e n g B=>?_,I.base.free,λb o e B=>?_,I.base.tups,I.base.frzs,I.base.tbls⟩,⟨m,eK.sameBut T (Ne.X (cne x c J)),λj y v' f l e3=>?_⟩,λy c' e=>?_,I.free,I.freeC,λp G=>?_,aa ⟨oc,av,I.freeC x c J⟩ T,by simpa using I.len⟩ ⟨c,T,.inr J⟩
  .exact(T.2 b (Nh (Ni (RP e) (I.ok.cab x c am J)))).P (I.base.keep b o e n g B)
  .let sl f:=I.base.slot b o e n g B;erw[sl,(T.2 b (Nh (Ni (RP e) (I.ok.cab x c am J)))).P f]
  .let o' f:=I.base.there b o e B;erw[o',(T.2 b (Nh (Ni (RP e) (I.ok.cab x c am J)))).P f]
  .by_cases L:j=i
   .subst L;rw[hi]at f;cases f;rw[Pe al]at l
    cases l
    erw[u,r,.inr ⟨.inl D,c,J,ah⟩]
   .rw[Pq (Ne.X L)]at l;let u' r' q:=t j y v' f l e3;erw[u',r',3];obtain q|⟨k,c',e,z'⟩:=q
    .exact .inl q
    .refine .inr ⟨k,c',e,z'.sameBut T ?_⟩;rintro rfl;exact L (BH hN f (I.ok.inj _ _ _ e J▸hi))
  .by_cases an:c'=c
   .subst an;erw[_,ah]
   .let w2 z2:=I.cell y c' e;erw[w2,z2.sameBut T an]
  .let e n ne nf d:=I.pin p G;erw[(T.2 p.1 ?_).P e,n,ne,nf,d];intro q;simp!
theorem ua{M:Model}{v:V}{Q:Unit->ff->Prop}(I:mu σ H s)(a:X.N.h)(hi:X.N[i]?=Z x)(B:Loc X.j.scope x)(r:RelV v u)(h:∀ s',mu (σ.set i (Z v)) H s'->Q () s')(eK:X.fn x=kt∨X.j.scope.names.Y x=Z .local:=by first|exact .inl rfl|exact .inr rfl|assumption):wpAny M A (storeName X.j x u) Q dO s:=
 DP I a hi B r (λs' l _=>h s' l) eK
def Inv.call'{s':ff}(I:Inv X pins σ H s)(D:s'.os=s.os)(u:Un (frs X.stack) ch H H' s.H s'.H)(dO:HOk X.i X.w H' s'.H)(a:AllBare s'.gens)(y:∀ b∈ch,(b∈X.ex∨X.s₀.H.M.J<=b)/\b≠X.j.locals/\(∀ x c,X.j.cells.Y x=Z c->c≠b)/\∀ p∈X.pn++pins,p.1≠b):Inv X pins σ H' s':=by
 let h' g' d' t' C:=s';let e:C=s.os:=D;subst e;exact I.call (g':=g') (t':=t') (d':=d') u dO a y
end
abbrev XK:=eN->j5 fc->Hp->Prop
abbrev St:=E (j5 V)
abbrev VK:=V->Hp->Prop
abbrev TE:=St->Hp->VK->Prop
abbrev TT:=St->Hp->(ke->Hp->Prop)->Prop
abbrev TA:=St->Hp->(E V->Hp->Prop)->Prop
set_option genInjectivity false in
structure Ends where
 nx:St->Hp->Prop
 rt:VK
 bk:St->Hp->Prop:=λ_ _=>False
 ct:St->Hp->Prop:=λ_ _=>False
abbrev Ends.nxt(D:Ends)(n:St->Hp->Prop):Ends:={D with nx:=n}
abbrev Ends.lop(D:Ends)(n:St->Hp->Prop):Ends:={D with nx:=n,ct:=n,bk:=D.nx}
abbrev TS:=Ends->St->Hp->Prop
def EP(X:Cx)(B:E (fc×ii))(L:St)(Q:VK)(u:eN)(s':ff):Prop:=∃ v l,nw l s'/\RelV v u/\Q v l
def TP(X:Cx)(B:E (fc×ii))(L:St)(Q:ke->Hp->Prop)(b:ke)(s':ff):Prop:=∃ l,nw l s'/\Q b l
def AP(X:Cx)(B:E (fc×ii))(L:St)(Q:E V->Hp->Prop)(us:E eN)(s':ff):Prop:=∃ m l,nw l s'/\Vals m us/\Q m l
def SP(X:Cx)(B:E (fc×ii))(D:Ends)(f:Flow)(s':ff):Prop:=
 match f with
 |.next=>∃ O l,Inv X B O l s'/\D.nx O l
 |.brk=>∃ O l,Inv X B O l s'/\D.bk O l
 |.cont=>∃ O l,Inv X B O l s'/\D.ct O l
 |.ret u=>∃ v O l,Inv X B O l s'/\RelV v u/\D.rt v l
def PE(X:Cx)(e:hb)(t:TE):Prop:=
 ∀(B:E (fc×ii))(s:ff)(L:St)(H:Hp)(Q:VK),nw H s->t L H Q->mj X.A (eval e X.j) (EP X B L Q) X.xe s
def PT(X:Cx)(e:hb)(t:TT):Prop:=
 ∀(B:E (fc×ii))(s:ff)(L:St)(H:Hp)(Q:ke->Hp->Prop),nw H s->t L H Q->mj X.A (isTrue e X.j (eval e X.j)) (TP X B L Q) X.xe s
def PW(X:Cx)(e:hb)(t:TT):Prop:=
 ∀(a:Sem eN)(B:E (fc×ii))(s:ff)(L:St)(H:Hp)(Q:ke->Hp->Prop),nw H s->t L H Q->mj X.A (isTrue e X.j a) (TP X B L Q) X.xe s
theorem PW.pt{X:Cx}{t:TT}(h:PW X e t):PT X e t:=h _
def PA(X:Cx)(es:E hb)(t:TA):Prop:=
 ∀(a:Pos)(B:E (fc×ii))(s:ff)(L:St)(H:Hp)(Q:E V->Hp->Prop),nw H s->t L H Q->mj X.A (spliced (backTo a (RV es X.j))) (AP X B L Q) X.xe s
def PS(X:Cx)(st:hr)(t:TS):Prop:=
 ∀(B:E (fc×ii))(s:ff)(L:St)(H:Hp)(D:Ends),nw H s->t D L H->mj X.A (exec st X.j) (SP X B D) X.xe s
def PSs(X:Cx)(st:E hr)(t:TS):Prop:=
 ∀(B:E (fc×ii))(s:ff)(L:St)(H:Hp)(D:Ends),nw H s->t D L H->mj X.A (execs st X.j) (SP X B D) X.xe s
theorem thn{t:Sem α}{Q u:α->ff->Prop}{M:Model}{s:ff}(h:wpAny M A t Q dO s)(N:∀ a s,Q a s->u a s):wpAny M A t u dO s:=RW h N λ_ _ x=>x
section
variable{X:Cx}
inductive tVar(i:R)(σ:L2.St)(H:L2.Hp)(Q:L2.VK):Prop
 |mk (v:_) (_:σ[i]?=Z (Z v))(_:Q v H)
def tC(v:V):TE:=λ_ H Q=>Q v H
def pe_var(a:X.N[i]?=Z x)(t:Vis X.j.scope x)(hd:uP_ ((x == ("__debug__" : fI))=k9) uD_)(z:uP_ ((x == ("__classdict__" : fI))=k9) uD_):PE X (.Name x pos) (tVar i):=by
 intro B s L H Q I h;let v e h:=h;let m T M:=I.loc;let u r l:=M i x v a e t;let d:EP X B L Q u s:=⟨v,H,I,r,h⟩;rcases l with⟨D,y⟩|⟨D,c,J,b⟩
 .exact wpAny_Name (wpAny_loadName_local I.ok.kind D T y d) hd
 .obtain D|D:=D
  .exact wpAny_Name (wpAny_loadName_cell I.ok.kind D J b d) hd
  .exact wpAny_Name (wpAny_loadName_free I.ok.kind D J b d z) hd
theorem ak{i j pos}:PE X (.Constant (.int i) j pos) (tC (.int i)):=λ_ _ _ H _ I h=>wpAny_Constant_int ⟨.int i,H,I.tok _,⟨_,U⟩,h⟩
theorem oA{b j pos}:PE X (.Constant (.bool b) j pos) (tC (.bl b)):=λ_ _ _ H _ I h=>Constant_bool ⟨.bl b,H,I,U,h⟩
theorem fZ{j pos}:PE X (.Constant .none j pos) (tC .non):=λ_ _ _ H _ I h=>Constant_none ⟨.non,H,I,U,h⟩
theorem pe_str{x j pos}:PE X (.Constant (.str x) j pos) (tC (.str x)):=λ_ _ _ H _ I h=>Calls.Constant_str ⟨.str x,H,I.tok _,⟨_,U⟩,h⟩
def Gl(X:Cx)(x:fI):Prop:=X.j.kindOf x=Z .globalImplicit
theorem oE{B:E (fc×ii)}{s:ff}{L:St}{H:Hp}(I:nw H s)(a:Gl X x)(y:X.mg x=Z u)(h:Q u s)(hd:uP_ ((x == ("__debug__" : fI))=k9) uD_):mj X.A (eval (.Name x pos) X.j) Q dO s:=
 Calls.Name_function_global I.ok.kind a (Calls.loadGlobal_global (by rw[I.ok.glob];exact I.mod.glob.keeps I.bk) y h) hd
def iB{B:E (fc×ii)}{s:ff}{L:St}{H:Hp}(I:nw H s)(a:Gl X x)(y:X.mg x=lf)(t:RS x=Z u)(h:Q u s)(T:uP_ (x≠"__name__") uD_)(hd:uP_ ((x == ("__debug__" : fI))=k9) uD_):mj X.A (eval (.Name x pos) X.j) Q dO s:=by
 let k eK O:=I.mod.blt;exact Calls.Name_function_global I.ok.kind a (Calls.loadGlobal_builtin (by rw[I.ok.glob];exact I.mod.glob.keeps I.bk) y (by rw[I.ok.blt];exact eK.keeps I.bk) ((O x T).P t) h) hd
theorem Lv{v:V}(a:Gl X x)(y:X.mg x=Z u)(r:RelV v u)(hd:uP_ ((x == ("__debug__" : fI))=k9) uD_):PE X (.Name x pos) (tC v):=
 λ_ _ _ H _ I h=>oE I a y ⟨v,H,I,r,h⟩ hd
theorem qM{v:V}(a:Gl X x)(y:X.mg x=lf)(t:RS x=Z u)(r:RelV v u)(T:uP_ (x≠"__name__") uD_)(hd:uP_ ((x == ("__debug__" : fI))=k9) uD_):PE X (.Name x pos) (tC v):=
 λ_ _ _ H _ I h=>iB I a y t ⟨v,H,I,r,h⟩ T hd
variable{a b:hb}{ta tb:TE}{pos:Pos}
def PC(X:Cx)(op:CmpOp)(a b:hb)(t:TE):Prop:=
 ∀(B:E (fc×ii))(s:ff)(L:St)(H:Hp)(Q:VK),nw H s->t L H Q ->
  mj X.A (eval a X.j) (λv J=>mj X.A (eval b X.j) (λu G=>mj X.A (RX op v u) (EP X B L Q) X.xe G) X.xe J) X.xe s
def tB(t:TE):TT:=λL H Q=>t L H λx j=>∃ c,x=.bl c/\Q c j
def By{t:TE}(h:PC X op a b t)(eK:behindInMarks op b=k9:=by first|exact nobehind _ ∅ ∅|rfl):PT X (.Compare a [op] [b] pos) (tB t):=by
 intro B s L H Q I T;refine wpAny_isTrue_Compare1 (thn (h B s L H _ I T) λv C eK=>thn eK λu l O=>thn O λc k ⟨x,j,i,J,dO⟩=>?_) eK;let d rfl q:=dO
 cases J
 exact RY ⟨j,i,q⟩
def lC{t:TE}(h:PE X e t)(N:∀ a,isTrue e X.j a=(do let v ← a;standAt e.pos;holding [v] (truthy v)):=by intro _;rfl):PT X e (tB t):=by
 intro B s L H Q I T;refine isTrue_plain (thn (h B s L H _ I T) λv C ⟨x,j,i,J,dO⟩=>?_) (N _);let d rfl q:=dO
 cases J
 exact RY ⟨j,i,q⟩
variable{tA tB':TT}{rest:E hb}
def tAnd(t u:TT):TT:=λL H Q=>t L H λc j=>if c=kt then u L j Q else Q k9 j
def tOr(t u:TT):TT:=λL H Q=>t L H λc j=>if c=kt then Q kt j else u L j Q
def tNot(t:TT):TT:=λL H Q=>t L H λc j=>Q (!c) j
def zx(O:PT X a tA):PW X (.BoolOp .And [a] pos) tA:=by
 intro g B s L H Q I h;refine isTrue_and (thn (O B s L H Q I h) λc C e=>?_)
 cases c with
 |true=>exact isTrue_and_nil e
 |false=>exact e
def qJ(O:PT X a tA):PW X (.BoolOp .Or [a] pos) tA:=by
 intro g B s L H Q I h;refine isTrue_or (thn (O B s L H Q I h) λc C e=>?_)
 cases c with
 |false=>exact isTrue_or_nil e
 |true=>exact e
def Bx(O:PT X a tA)(M:PW X (.BoolOp .And (b::rest) pos) tB'):PW X (.BoolOp .And (a::b::rest) pos) (tAnd tA tB'):=by
 intro g B s L H Q I h;refine isTrue_and (thn (O B s L H _ I h) λc C ⟨j,i,dO⟩=>?_)
 cases c with
 |true=>exact M g B C L j Q i dO
 |false=>exact⟨j,i,dO⟩
def zw(O:PT X a tA)(M:PW X (.BoolOp .Or (b::rest) pos) tB'):PW X (.BoolOp .Or (a::b::rest) pos) (tOr tA tB'):=by
 intro g B s L H Q I h;refine isTrue_or (thn (O B s L H _ I h) λc C ⟨j,i,dO⟩=>?_)
 cases c with
 |true=>exact⟨j,i,dO⟩
 |false=>exact M g B C L j Q i dO
def m7(O:PT X a tA):PT X (.UnaryOp .Not a pos) (tNot tA):=by
 intro B s L H Q I h;exact isTrue_not (O B s L H (λc j=>Q (!c) j) I h)
def tAndV(ta tb:TE):TE:=λL H Q=>ta L H λx j=>∃ c,x=.bl c/\if c=kt then tb L j Q else Q (.bl k9) j
def tNotV(ta:TE):TE:=λL H Q=>ta L H λx j=>∃ c,x=.bl c/\Q (.bl (!c)) j
theorem pe_one{op}{t:TE}(h:PE X a t):PE X (.BoolOp op [a] pos) t:=λB s L H Q I T=>BoolOp_one (h B s L H Q I T)
def JY(O:PE X a ta)(M:PE X (.BoolOp .And (b::rest) pos) tb):PE X (.BoolOp .And (a::b::rest) pos) (tAndV ta tb):=by
 intro B s L H Q I h;refine BoolOp_and (thn (O B s L H _ I h) λv C ⟨x,j,i,J,dO⟩=>?_);let c rfl dO:=dO
 cases J
 refine RY ?_
 cases c with
 |true=>exact M B C L j Q i dO
 |false=>exact⟨.bl k9,j,i,U,dO⟩
def pe_not(O:PE X a ta):PE X (.UnaryOp .Not a pos) (tNotV ta):=by
 intro B s L H Q I h;refine UnaryOp_ (thn (O B s L H _ I h) λv C ⟨x,j,i,J,dO⟩=>?_);let c rfl dO:=dO
 cases J
 exact not_of (RY ⟨.bl (!c),j,i,U,dO⟩)
def tIf(t:TT)(ta tb:TE):TE:=λL H Q=>t L H λc j=>if c=kt then ta L j Q else tb L j Q
def fk{c:hb}(J:PT X c tA)(O:PE X a ta)(M:PE X b tb):PE X (.IfExp c a b pos) (tIf tA ta tb):=by
 intro B s L H Q I h;refine wpAny_IfExp (thn (J B s L H _ I h) λd C ⟨j,i,dO⟩=>?_)
 cases d with
 |true=>exact O B C L j Q i dO
 |false=>exact M B C L j Q i dO
end
def SqL(K:MJ)(H:Hp)(a:fc)(xs:E V):Prop:=
 Rd H a (.lst xs) ∨
  ∃(o:ii)(d:kf eN)(n:R),K.Y a=Z o/\o.cls=.type "list"/\o.dict=lf/\o.data=.seq d n/\d.J<=RO/\Vals xs d.l
def SqT(K:MJ)(H:Hp)(a:fc)(xs:E V):Prop:=
 Rd H a (.tup xs) ∨
  ∃(o:ii)(d:kf eN)(n:R),K.Y a=Z o/\o.cls=.type "tuple"/\o.data=.seq d n/\d.J<=RO/\Vals xs d.l
def absV:eN->j5 V
 |.none=>Z .non
 |.bool b=>Z (.bl b)
 |.int i _=>Z (.int i)
 |.str x _=>Z (.str x)
 |.bytes b _=>Z (.byt b)
 |.float b _=>Z (.flt b)
 |.ref a=>Z (.ref a)
 |.type n=>Z (.ty n)
 |_=>lf
def RelV.abs{x:V}(r:RelV x u):absV u=Z x:=by
 cases x with
 |non=>cases r;rfl
 |bl _=>cases r;rfl
 |int _=>obtain⟨t,rfl⟩:=r;rfl
 |str _=>obtain⟨t,rfl⟩:=r;rfl
 |byt _=>obtain⟨t,rfl⟩:=r;rfl
 |flt _=>obtain⟨t,rfl⟩:=r;rfl
 |ref _=>cases r;rfl
 |ty _=>cases r;rfl
theorem RelV.inj{x y:V}(r:RelV x u)(q:RelV y u):x=y:=Ny (r.abs.X.P q.abs)
theorem Vals.inj:∀{xs ys:E V}{us:E eN},Vals xs us->Vals ys us->xs=ys:=by
 intro xs ys us h;induction h generalizing ys with
 |nil=>intro k;cases k;rfl
 |cons r t ih=>
  intro k;cases k with
  |cons eK d=>rw[r.inj eK,ih d]
section
variable{X:Cx}{pins:E (fc×ii)}{σ:St}{H:Hp}{s:ff}{a:fc}{xs ys:E V}
theorem SqL.of(h:H a=Z (.lst xs)):SqL K H a xs:=.inl (.inl h)
theorem SqT.of(h:H a=Z (.tup xs)):SqT K H a xs:=.inl (.inl h)
def Inv.list(I:Inv X pins σ H s)(h:SqL X.K H a xs):∃ its:E eN,Vals xs its/\PlainL s.H a its.toArray/\xs.L<=RO:=by
 obtain h|⟨o,its,n,D,J,hd,T,f,r⟩:=h
 .let z its n r e:=h.ok I.hok;erw[its,r,⟨_,n,e,U,U,U⟩,z]
 .erw[its.l,r,⟨o,n,I.kIn a o D,J,hd,∅⟩,3]
  let e:=r.L;simp[*]
def Inv.tuple(I:Inv X pins σ H s)(h:SqT X.K H a xs):∃ its:E eN,Vals xs its/\IsTup s.H a its.toArray/\xs.L<=RO:=by
 obtain h|⟨o,its,n,D,J,T,f,r⟩:=h
 .let z its r p:=h.ok I.hok;erw[its,r,p,z]
 .erw[its.l,r,⟨o,I.kIn a o D,J,n,∅⟩,3]
  let e:=r.L;simp[*]
def Inv.list_inj(I:Inv X pins σ H s)(h:SqL X.K H a xs)(h':SqL X.K H a ys):xs=ys:=by
 let Q r{o n e _ _ d}_:=I.list h;let c m{C j l _ _ b}_:=I.list h';rw[e]at l;cases l;rw[d]at b;injection b with T _;let:Q=c:=by simpa using congrArg kf.toList T
 subst this;exact r.inj m
end
abbrev Cx.wish(X:Cx)(dO:eN->ff->Prop):Cx:={X with xe:=dO}
abbrev Cx.nox(X:Cx):Cx:=X.wish λ_ _=>False
theorem Cx.Ok.wish{X:Cx}(ok:X.Ok)(dO:eN->ff->Prop):(X.wish dO).Ok:=
 ⟨ok.mod,ok.kind,ok.glob,ok.blt,ok.above,ok.inj,ok.has,ok.cab,ok.hd,ok.frames,ok.stk,ok.exf,ok.bs,ok.bsz,ok.noex,ok.exfs,ok.funs,ok.frf⟩
theorem Cx.Ok.unwish{X:Cx}(ok:(X.wish dO).Ok):X.Ok:=
 ⟨ok.mod,ok.kind,ok.glob,ok.blt,ok.above,ok.inj,ok.has,ok.cab,ok.hd,ok.frames,ok.stk,ok.exf,ok.bs,ok.bsz,ok.noex,ok.exfs,ok.funs,ok.frf⟩
section
variable{X:Cx}{pins:E (fc×ii)}{σ:St}{H:Hp}{s:ff}{dO:eN->ff->Prop}
theorem Inv.wish(I:Inv X pins σ H s)(dO:eN->ff->Prop):Inv (X.wish dO) pins σ H s:=⟨I.ok.wish dO,I.os,I.bare,I.base,I.loc,I.cell,I.free,I.freeC,I.pin,I.hok,I.len⟩
theorem Inv.unwish(I:Inv (X.wish dO) pins σ H s):Inv X pins σ H s:=⟨I.ok.unwish,I.os,I.bare,I.base,I.loc,I.cell,I.free,I.freeC,I.pin,I.hok,I.len⟩
def SP.unwish{D:Ends}{f:Flow}{s':ff}(h:SP (X.wish dO) pins D f s'):SP X pins D f s':=by
 cases f with
 |next=>obtain⟨O,l,I,q⟩:=h;erw[O,l,I.unwish,q]
 |brk=>obtain⟨O,l,I,q⟩:=h;erw[O,l,I.unwish,q]
 |cont=>obtain⟨O,l,I,q⟩:=h;erw[O,l,I.unwish,q]
 |ret u=>obtain⟨v,O,l,I,r,q⟩:=h;erw[v,O,l,I.unwish,r,q]
theorem PSs.nox{st:E hr}{t:TS}(h:PSs X.nox st t):PSs X st t:=λpins s σ H D I T=>
 RW (h pins s σ H D (I.wish _) T) (λ_ _ q=>q.unwish) λ_ _ z=>False.elim z
end
section
variable{X:Cx}{st:hr}{rest:E hr}{t u:TS}{e:hb}{te:TE}{pos:Pos}
def tNext:TS:=λD L H=>D.nx L H
def tSeq(t u:TS):TS:=λD L H=>t (D.nxt (u D)) L H
theorem aN:PSs X [] tNext:=λ_ _ L H _ I h=>wpAny_execs_nil ⟨L,H,I,h⟩
def af(eK:PS X st t)(h2:PSs X rest u):PSs X (st::rest) (tSeq t u):=by
 intro B s L H D I h;refine wpAny_execs_cons (thn (eK B s L H (D.nxt (u D)) I h) λf C q=>?_)
 cases f with
 |next=>
  let O l a q:=q;exact h2 B C O l D a q
 |ret v=>exact q
 |brk=>exact q
 |cont=>exact q
def ao(eK:PS X st t):PSs X [st] t:=by
 intro B s L H D I h;refine wpAny_execs_cons (thn (eK B s L H D I h) λf C q=>?_)
 cases f with
 |next=>exact wpAny_execs_nil q
 |ret v=>exact q
 |brk=>exact q
 |cont=>exact q
def Inv.quiet{B:E (fc×ii)}{L:St}{H:Hp}{s:ff}(I:Inv X B L H s):interactive X.j=k9:=by simp[interactive,I.ok.kind]
def tDrop(te:TE):TS:=λD L H=>te L H λ_ j=>D.nx L j
def aW(N:PE X e te)(T:uP_ (swapsWith e lf pos.line X.j=pure k9) uR_):PS X (.Expr e pos) (tDrop te):=by
 intro B s L H D I h;exact wpAny_Expr_any (thn (N B s L H _ I h) λv C ⟨x,j,i,J,dO⟩=>⟨L,j,i,dO⟩) I.quiet T
def tRet(te:TE):TS:=λD L H=>te L H D.rt
def aG(N:PE X e te):PS X (.Return (Z e) pos) (tRet te):=by
 intro B s L H D I h;exact wpAny_Return_some (thn (N B s L H _ I h) λv C ⟨x,j,i,J,dO⟩=>⟨x,L,j,i,J,dO⟩)
def tIfS(c:TT)(t u:TS):TS:=λD L H=>c L H λb j=>if b=kt then t D L j else u D L j
def bJ{c:hb}{a b:E hr}{e:TT}(J:PT X c e)(O:PSs X a t)(M:PSs X b u):PS X (.If c a b pos) (tIfS e t u):=by
 intro B s L H D I h;refine wpAny_If (thn (J B s L H _ I h) λd C ⟨j,i,dO⟩=>?_)
 cases d with
 |true=>exact O B C L j D i dO
 |false=>exact M B C L j D i dO
def tNever:TS:=λ_ _ _=>False
theorem cG:PS X st tNever:=λ_ _ _ _ _ _ h=>h.elim
end
abbrev TG:=V->St->Hp->(St->Hp->Prop)->Prop
abbrev TGs:=E V->St->Hp->(St->Hp->Prop)->Prop
def PG(X:Cx)(a:hb)(t:TG):Prop:=
 ∀(B:E (fc×ii))(s:ff)(L:St)(H:Hp)(v:V)(u:eN)(Q:St->Hp->Prop),nw H s->RelV v u->t v L H Q ->
  mj X.A (assign a X.j u) (λ_ c=>∃ O l,Inv X B O l c/\Q O l) X.xe s
def PGs(X:Cx)(ts:E hb)(t:TGs):Prop:=
 ∀(B:E (fc×ii))(s:ff)(L:St)(H:Hp)(m:E V)(o:E eN)(Q:St->Hp->Prop),nw H s->Vals m o->t m L H Q ->
  mj X.A (assignInOrder ((RZ ts X.j).Z (·.2)) o) (λ_ c=>∃ O l,Inv X B O l c/\Q O l) X.xe s
abbrev TSet:=V->V->V->Hp->(Hp->Prop)->Prop
def PSet(X:Cx)(t:TSet):Prop:=
 ∀(B:E (fc×ii))(s:ff)(L:St)(H:Hp)(o i v:V)(z e u:eN)(Q:Hp->Prop),nw H s->RelV o z->RelV i e->RelV v u->t o i v H Q ->
  mj X.A (setItem z e u) (λ_ c=>∃ l,nw l c/\Q l) X.xe s
section
variable{X:Cx}{pos:Pos}
def sy(i:R):TG:=λv L H Q=>Q (L.set i (Z v)) H
def aY(a:X.N.h)(hi:X.N[i]?=Z x)(G:Loc X.j.scope x)(A:X.fn x=kt∨X.j.scope.names.Y x=Z .local:=by first|exact .inl rfl|exact .inr rfl|assumption):PG X (.Name x pos) (sy i):=by
 intro B s L H v u Q I r h;exact wpAny_assign_Name (ua I a hi G r (λc l=>⟨_,H,l,h⟩) A)
def gNil:TGs:=λm L H Q=>m=[]/\Q L H
inductive gCons(t:TG)(u:TGs)(vs:E L2.V)(σ:L2.St)(H:L2.Hp)(Q:(L2.St->L2.Hp->Prop)):Prop
 |mk (v r:_) (_:vs=v::r)(_:t v σ H λσ' H'=>u r σ' H' Q)
def bx:PGs X [] gNil:=by
 intro B s L H m o Q I r h;let e h:=h;subst e
 cases r
 exact assignInOrder_nil ⟨L,H,I,h⟩
def aC{es:E hb}{t:TG}{u:TGs}(eK:PG X e t)(h2:PGs X es u)(T:uP_ ((RZ (e::es) X.j).Z (·.2)=assign e X.j::(RZ es X.j).Z (·.2)) uR_):PGs X (e::es) (gCons t u):=by
 intro B s L H m o Q I r h;let v a f h:=h;subst f
 cases r with
 |cons r O=>
  rw[T];refine assignInOrder_cons (thn (eK B s L H _ _ _ I r h) λ_ C ⟨x,j,i,dO⟩=>?_);exact h2 B C x j _ _ Q i O dO
inductive gTup(K:MJ)(n:R)(t:TGs)(v:L2.V)(σ:L2.St)(H:L2.Hp)(Q:(L2.St->L2.Hp->Prop)):Prop
 |mk (a xs:_) (_:v=.ref a)(_:SqT K H a xs)(_:xs.L=n)(_:t xs σ H Q)
def iA{es:E hb}{k:R}{t:TGs}(J:X.calm=kt)(h:PGs X es t)(T:uP_ ((RZ es X.j).L=n) uR_)(c:uP_ ((RZ es X.j).findIdx? (·.1)=lf) uR_):PG X (.Tuple es k pos) (gTup X.K n t):=by
 intro B s L H v u Q I r q;let a D f g M q:=q;subst f
 cases r
 let d rv i j:=I.tuple g;refine assign_Tuple_tuple (I.ok.hd J) i (by simp[T,← M,rv.L]) c λO G=>?_
 let eK:nw H {s,O}:=I.kept (t':=s.u) λb o e=>G b o (Nh (RP e)) e;exact h B _ L H D _ Q eK (by simpa using rv) q
def gSub(a c:TE)(t:TSet):TG:=λv L H Q=>a L H λo j=>c L j λi d=>t o i v d λq=>Q L q
def m9{o i:hb}{a c:TE}{t:TSet}(D:PE X o a)(hi:PE X i c)(T:PSet X t)(O:∀ v,assign (.Subscript o i pos) X.j v=(do
   let ov ← holding [v] (eval o X.j)
   let e ← holding [v,ov] (eval i X.j)
   standAt pos
   holding [v,ov,e] (setItem ov e v)
   release [v,ov,e] []):=by intro _;rfl):PG X (.Subscript o i pos) (gSub a c t):=by
 intro B s L H v u Q I r h;rw[O];refine R4 (R5 (thn (D B s L H _ I h) λov C ⟨x,j,eK,J,dO⟩=>?_));refine R4 (R5 (thn (hi B C L j _ eK dO) λe b ⟨y,d,p,N,n⟩=>?_));refine R4 (wpAny_standAt (R4 (R5 (thn (T B b L d x y v ov e u _ p J N r n) λ_ k ⟨q,m,z⟩=>?_))));exact wpAny_release ⟨L,q,m,z⟩
def tAsg(r:TE)(g:TG):TS:=λD L H=>r L H λx j=>g x L j D.nx
def lD{u:hb}{r:TE}{g:TG}(N:PE X e r)(a:PG X u g)(T:uP_ (swapsWithSole [u] e pos.line X.j=pure k9) uR_)(hw:uP_ (swappedStores [u] e X.j=pure lf) uR_)(eK:uP_ ((RZ [u] X.j).Z (·.2)=[assign u X.j]) uR_):PS X (.Assign [u] e pos) (tAsg r g):=by
 intro B s L H D I h;refine wpAny_Assign_stores (thn (N B s L H _ I h) λv C ⟨x,j,i,J,dO⟩=>?_) T hw;rw[eK];exact thn (a B C L j x v _ i J dO) λ_ b q=>q
def ps_set{r:TE}{c:Pos}(a:X.N.h)(hi:X.N[i]?=Z x)(G:Loc X.j.scope x)(m:PE X e r)(T:uP_ (swapsWith e (Z (.Name x c)) pos.line X.j=pure k9) uR_)(A:X.fn x=kt∨X.j.scope.names.Y x=Z .local:=by first|exact .inl rfl|exact .inr rfl|assumption):
  PS X (.Assign [.Name x c] e pos) (tAsg r (sy i)):=by
 intro B s L H D I h;refine wpAny_Assign_Name (thn (m B s L H _ I h) λv C ⟨y,j,eK,J,dO⟩=>?_) T;exact ua eK a hi G J (λb p=>⟨_,j,p,dO⟩) A
inductive JC(c:TT)(tb:TS)(D:L2.Ends)(σ:L2.St)(H:L2.Hp):Prop
 |mk (W:R->St->Hp->Prop) (_:(∃ m,W m σ H))(_:∀ m σ H,W m σ H ->
 c σ H λb H1=>if b=kt then ∃ N:St->Hp->Prop,(∀ σ' H',N σ' H'->∃ m',m'<m/\W m' σ' H')/\tb (D.lop (N)) σ H1 else D.nx σ H1)
def gC{c:hb}{eK:E hr}{tc:TT}{tb:TS}(G:PassesOwn (model X.i X.w) X.A X.j X.xe)(J:PT X c tc)(M:PSs X eK tb):PS X (.While c eK [] pos) (JC tc tb):=by
 intro B s L H D I h;let W{u Q}turn:=h;refine wpAny_While (codeAny_whileLoop (λn o=>∃ O l,Inv X B O l o/\W n O l) ?_ u ⟨L,H,I,Q⟩);rintro n C ⟨x,j,i,T⟩;refine R6 G (thn (J B C x j _ i (turn n x j T)) λb t ⟨d,p,r⟩=>?_)
 cases b with
 |true=>
  let N a r:=r;rw[Ti U];refine R6 G (thn (M B t x d _ p r) λf k z=>?_)
  cases f with
  |next=>
   let e q m dO:=z;let g y w3:=a e q dO;erw[g,y,e,q,m,w3]
  |cont=>
   let e q m dO:=z;let g y w3:=a e q dO;erw[g,y,e,q,m,w3]
  |brk=>exact z
  |ret v=>exact z
 |false=>
  rw[Tj Nr];exact wpAny_execs_nil ⟨x,d,p,r⟩
end
set_option genInjectivity false in
structure It where
 go:R->Hp->Prop
 yld:R->Hp->V->Hp->Prop
 stop:R->Hp->Prop
def FpOk(X:Cx)(B:E (fc×ii))(H:Hp)(b:fc):Prop:=
 H b=lf/\b≠X.j.locals/\b∉X.fs/\(b∈X.ex∨X.s₀.H.M.J<=b)/\(∀ x c,X.j.cells.Y x=Z c->c≠b)/\∀ p∈X.pn++B,p.1≠b
def Inv.fpOk{X:Cx}{B:E (fc×ii)}{L:St}{H H':Hp}{s:ff}{b:fc}(I:Inv X B L H s)(M:s.H.M.J<=b)(T:H' b=lf):FpOk X B H' b:=by
 erw[T,N9 (Ni I.lt M),I.nofs M,.inr (NH I.sz M),λx c e z=>?_,λp G z=>?_]
 .let v q:=I.cell x c e;exact Tn (Ni q.lt (by simp!)) (Ob _)
 .exact Tn (Ni (RP (I.pin p G).1) (by simp!)) (Ob _)
structure Turn(P:hx)(w:ix)(K:MJ)(tg:hb)(J:It)(fp:E fc)(it:fc)(tn:R->fo->Prop):Prop where
 mem:it∈fp
 obj:∀ i h,tn i h->∀ b∈fp,∃ o,h.Q b=Z o/\∀ v,o.data≠.cell v
 keep:∀ i h h',tn i h->(∀ b∈fp,∀ o,h.Q b=Z o->h'.Q b=Z o)->tn i h'
 item:∀(X:Cx),X.i=P->X.w=w->X.K=K->X.calm=kt->∀(i:R)(pins:E (fc×ii))(s:ff)(σ:St)(H:Hp)(dO:eN->ff->Prop),mu σ H s->(∀ b∈fp,FpOk X pins H b)->tn i s.H->J.go i H ->
  wpAny (model P w) X.A (pyNext (.ref it)) (λr s1=>∃ u,r=Z u /\
   wpAny (model P w) X.A (letOwnedTupleGo tg (.ref it) u) (λ_ s2=>∃ x H',mu σ H' s2/\RelV x u/\J.yld i H x H'/\tn (i+1) s2.H/\∀ b∈fp,H' b=lf) dO s1) dO s
 done:∀(X:Cx),X.i=P->X.w=w->X.K=K->X.calm=kt->∀(i:R)(pins:E (fc×ii))(s:ff)(σ:St)(H:Hp)(dO:eN->ff->Prop),mu σ H s->(∀ b∈fp,FpOk X pins H b)->tn i s.H->J.stop i H ->
  wpAny (model P w) X.A (pyNext (.ref it)) (λr s1=>r=lf/\mu σ H s1) dO s
 self:∀(A:Around)(i:R)(s:ff)(Q:eN->ff->Prop)(dO:eN->ff->Prop),tn i s.H->Q (.ref it) s->wpAny (model P w) A (pyIter (.ref it)) Q dO s
abbrev TI:=St->Hp->(It->Hp->Prop)->Prop
def PIE(X:Cx)(B:E (fc×ii))(L:St)(u:hb)(ad:It->Hp->Prop)(c:eN)(s2:ff):Prop:=
 ∃(d:fc)(a:E fc)(i:R->fo->Prop)(J:It)(l:Hp),c=.ref d/\nw l s2/\Turn X.i X.w X.K u J a d i/\i 0 s2.H/\(∀ b∈a,FpOk X B l b)/\ad J l
def PI(X:Cx)(u b:hb)(k:TI):Prop:=
 ∀(B:E (fc×ii))(s:ff)(L:St)(H:Hp)(ad:It->Hp->Prop),nw H s->k L H ad ->
  mj X.A (eval b X.j) (λv C=>mj X.A (pyIter v) (PIE X B L u ad) X.xe C) X.xe s
def FL{M:Model}{s:ff}{n:String}{vs:kf eN}{Q:Unit->ff->Prop}(D:s.H.Q it=Z o)(J:o.cls=.type n)(hd:o.data=.fields vs)(T : ["enumerate","zip","dict_itemiterator","dict_reverseitemiterator","odict_iterator","itertools.zip_longest","itertools.pairwise"].contains n=k9)(N:Q () s):wpAny M A (letOwnedTupleGo e (.ref it) u) Q dO s:=by
 unfold letOwnedTupleGo
 cases e<;>first
  |exact R7 N
  | (cases u<;>first
    |exact R7 N
    | (refine R4 (wpAny_load D ?_)
       rw[J,hd]
       show wpAny M A (if(["enumerate","zip","dict_itemiterator","dict_reverseitemiterator","odict_iterator","itertools.zip_longest","itertools.pairwise"].contains n&&vs[0]? == Z (rawInt _))=kt then _ else _) Q dO s
       rw[Tj (by intro h;rw[T,Pu]at h;cases h)]
       exact R7 N))
def Itl(K:MJ)(a:fc):It:=
 ⟨λi H=>∃ D x,pi a D/\D[i]?=Z x,λi H x l=>l=H/\∀ D,pi a D->D[i]?=Z x,λi H=>∃ D,pi a D/\D.L<=i⟩
def Itr(lo:Y)(n:R):It:=⟨λi _=>i<n,λi H x l=>l=H/\x=.int (lo+i),λi _=>n<=i⟩
theorem DE{tg:hb}(a it:fc):Turn P w K tg (Itl K a) [it] it (λi h=>h.IsListIter it a i) where
 mem:=by simp
 obj:=λi h st b M=>by
  let e:b=it:=by simpa using M
  subst e;let o e c d:=st;erw[o,e,λv z=>by simp!]
 keep:=λi h O st k=>st.at λo e=>k it ∅ o e
 item:=by
  intro X q T hK J i B s L H dO I A st N;subst q T hK;let D x n G:=N;let Q rv p g:=I.list n;let u f ru:=rv.get G;let f0 l y r f4 f5:=A it ∅
  refine wpAny_pyNext_list_item st p.isList (x:=u) (by simpa using f) λO aa sb=>?_
  let eK:nw H {s,O}:=I.turned (t':=s.u) (λb o M e=>(sb.2 b M).P e) f0 l r f4 f5;let o e c d:=id aa;erw[u,U,FL (s:={s,O}) e c d ∅ ⟨x,H,eK,ru,⟨U,λm j=>by rw[I.list_inj j n];exact G⟩,aa,λb M=>(A b M).1⟩]
 done:=by
  intro X q T hK J i B s L H dO I A st N;subst q T hK;let D n G:=N;let Q rv p g:=I.list n;let f0 l y r f4 f5:=A it ∅
  let t:=rv.L;exact wpAny_pyNext_list_end (I.ok.hd J) st p.isList (by simp!) λO C=>⟨U,I.turned (t':=s.u) (λb o M e=>C b o M e) f0 l r f4 f5⟩
 self:=λ_ _ _ _ _ st h=>wpAny_pyIter_listiter st h
theorem Cb{u:hb}(it:fc)(lo:Y)(n:R):Turn P w K u (Itr lo n) [it] it (λi h=>IsRangeIter h it (lo+(i:R)*1) ((n:Y)-(i:R)) 1) where
 mem:=by simp
 obj:=λi h st b M=>by
  let e:b=it:=by grind
  subst e
  erw[_,st,λv z=>by
   contradiction]
 keep:=λi h O st k=>k it ∅ _ st
 item:=by
  intro X l T f J i B s L H dO I A st a;subst l T f;let g p x r d Q:=A it ∅
  let W:=Walks.range (prog:=X.i) (w:=X.w) (I.ok.hd J) it lo 1 n;refine W.item i s _ _ a st λv O m G c N=>?_;let t rfl:=G;let eK:nw H {s with heap:=O,toks:=m}:=I.turned (λb o M e=>N b o (by simpa using M) e) g p r d Q
  erw[9,FL (s:={s with heap:=O,toks:=m}) (n:="range_iterator") c U U ∅ ⟨.int (lo+i),H,eK,⟨t,?_⟩,⟨U,U⟩,c,λb M=>(A b M).1⟩]
  rw[Int.mul_one]
 done:=by
  intro X l T f J i B s L H dO I A st a;subst l T f;let g p x r d Q:=A it ∅
  exact wpAny_pyNext_range_end (I.ok.hd J) st (by let:n<=i:=a;lia) λO C=>⟨U,I.turned (t':=s.u) (λb o M e=>C b o M e) g p r d Q⟩
 self:=λ_ _ _ _ _ st h=>wpAny_pyIter_rangeiter st h
section
variable{X:Cx}{tg:hb}
def iList(K:MJ)(tl:TE):TI:=λL H ad=>tl L H λx j=>∃ a,x=.ref a/\(∃ D,SqL K j a D)/\ad (Itl K a) j
def aM{l:hb}{tl:TE}(hl:PE X l tl):PI X tg l (iList X.K tl):=by
 intro B s L H ad I h;refine thn (hl B s L H _ I h) λv C T=>?_;let x j i J dO:=T;let a e{D n}q:=dO;subst e
 cases J
 let d rv p f:=i.list n;refine wpAny_pyIter_list p.isList ?_;erw[C.H.M.J,[C.H.M.J],5,j,U,i.kept (t':=C.u) λb o e=>R8 _ e,DE a _,⟨_,R9 _ U,U,U⟩,λb M=>?_,q];let e:b=C.H.M.J:=by simpa using M
 subst e;exact i.fpOk (MN _) (i.hok.fresh (MN _))
def Hx{B:E (fc×ii)}{L:St}{H:Hp}{s:ff}{ad:It->Hp->Prop}{lo hi:Y}{t u v:Tok}{tk:R}(I:nw H s)(eK : -(2^62)<=lo)(h2:lo<2^62)(G : -(2^62)<=hi)(r:hi<2^62)(q:ad (Itr lo (hi-lo).R) H):mj X.A (pyIter (.ref s.H.M.J)) (PIE X B L tg ad) dO {s with heap:=s.H.e {cls:=.type "range",data:=.fields #[.int lo t,.int hi u,.int 1 v]},toks:=tk}:=by
 refine wpAny_pyIter_range (IsRange.new ..) (small_one eK h2 G r) ?_;let i:nw H {s with heap:=s.H.e {cls:=.type "range",data:=.fields #[.int lo t,.int hi u,.int 1 v]},toks:=tk}:=I.kept λb o e=>R8 _ e
 erw[(s.H.e {cls:=.type "range",data:=.fields #[.int lo t,.int hi u,.int 1 v]}).M.J,[(s.H.e {cls:=.type "range",data:=.fields #[.int lo t,.int hi u,.int 1 v]}).M.J],5,H,U,
  i.kept (t':=tk) λb o e=>R8 _ e,Cb _ lo (hi-lo).R,3,λb M=>?_,q]
 .let f:lo+((0:R):Y)*1=lo:=by simp
  let l:(((hi-lo).R:R):Y)-((0:R):Y)=j0.Range.rangeSize lo hi 1:=by rw[rangeSize_one];grind
  show IsRangeIter _ _ (lo+((0:R):Y)*1) ((((hi-lo).R:R):Y)-((0:R):Y)) 1;rw[f,l];exact R9 _ U
 .let e:b=(s.H.e {cls:=.type "range",data:=.fields #[.int lo t,.int hi u,.int 1 v]}).M.J:=by simpa using M
  subst e;exact i.fpOk (MN _) (i.hok.fresh (MN _))
def iRng1(l:TA):TI:=λL H ad=>l L H λm J=>∃ j:Y,m=[.int j]/\-(2^62)<=j/\j<2^62/\ad (Itr 0 j.R) J
def aP{a:hb}{l:TA}{p:Pos}(N:Gl X "range")(y:X.mg "range"=lf)(O:PA X [a] l)(T:uP_ (RV [a] X.j=[(k9,eval a X.j)]) uR_):PI X tg (.Call (.Name "range" p) [a] [] pos) (iRng1 l):=by
 intro B s L H ad I h;refine Call_ (iB I N y boot_range (Sa (thn (O pos B s L H _ I h) λo C ⟨m,J,i,M,dO⟩=>?_) T U));let j e dO n q:=dO;subst e
 cases M with
 |cons r b=>
  cases b
  let t rfl:=r;exact call_range_1 (Hx i ∅ ∅ dO n (by simpa using q))
def tFor(k:TI)(g:TG)(tb:TS):TS:=λD L H=>k L H λJ j=>∃ W:R->R->St->Hp->Prop,(∃ m,W 0 m L j)/\∀ i m L H,W i m L H ->
 (J.stop i H/\D.nx L H)∨(J.go i H/\∃ N:St->Hp->Prop,(∀ O l,N O l->∃ f,f<m/\W (i+1) f O l)/\∀ x l,J.yld i H x l->g x L l λh d=>tb (D.lop (N)) h d)
def BA(fp:E fc)(h:fo):E (fc×ii):=fp.filterMap λb=>(h.Q b).Z λo=>(b,o)
theorem kM{b:fc}(M:b∈fp)(e:h.Q b=Z o):(b,o)∈BA fp h:=Pf.mpr ⟨b,M,by rw[e];rfl⟩
def EV{p:fc×ii}(G:p∈BA fp h):p.1∈fp/\h.Q p.1=Z p.2:=by
 let b M e:=Pf.mp G
 cases q:h.Q b with
 |none=>simp!
 |some o=>
  rw[q]at e;let Q:(b,o)=p:=Ny e;subst Q;erw[M,q]
theorem Inv.pinned{B:E (fc×ii)}{L:St}{H:Hp}{s:ff}(I:Inv X B L H s)(A:∀ b∈fp,FpOk X B H b)(D:∀ b∈fp,∃ o,s.H.Q b=Z o/\∀ v,o.data≠.cell v):Inv X (B++BA fp s.H) L H s:=
 I.pins_of λp G=>(Ng.mp G).elim (λz=>I.pin p (Nj _ z)) λz=>by
  let M e:=EV z;let g f x _:=A p.1 M;let o Q d:=D p.1 M;rw[e]at Q;cases Q;erw[e,g,f,x,d]
theorem Inv.unpinned{B pl:E (fc×ii)}{L:St}{H:Hp}{s:ff}(I:Inv X (B++pl) L H s):Inv X B L H s:=I.pins_of λp G=>I.pin p (Nj _ (NG _ G))
def bh{ah:hb}{ab:E hr}{wi:TI}{g:TG}{tb:TS}(G:PassesOwn (model X.i X.w) X.A X.j X.xe)(l:X.calm=kt)(hi:PI X tg ah wi)(z:PG X tg g)(M:PSs X ab tb)(k:∀ x,Sb ah X.j x=pure x:=by intro _;rfl):PS X (.For tg ah ab [] pos) (tFor wi g tb):=by
 intro B s L H D I h;refine wpAny_For (thn (hi B s L H _ I h) λv C eK=>thn eK λaL t O=>?_) k;let it fp tn J a e I2 T ac f2 W{m0 w0}turn:=O;subst e;let am:∀{H':Hp},(∀ b∈fp,H' b=lf)->∀ b∈fp,FpOk X B H' b:=λp b M=>⟨p b M,(f2 b M).2⟩;refine codeAny_forLoop_any (λn s'=>∃ i aa H',Inv X B aa H' s'/\tn i s'.H/\(∀ b∈fp,H' b=lf)/\W i n aa H') ?_ m0 ⟨0,L,a,I2,ac,λb M=>(f2 b M).1,w0⟩;rintro n c ⟨i,al,q,I3,av,aI,w3⟩;rcases turn i n al q w3 with⟨stop,qn⟩|⟨go,N,hN,step⟩
 .refine R6 G (thn (T.done X U U U l i B c al q X.xe I3 (am aI) av stop) λr s4 ⟨j,I4⟩=>?_);subst j;exact wpAny_execs_nil ⟨al,q,I4,qn⟩
 .refine R6 G (thn (T.item X U U U l i B c al q X.xe I3 (am aI) av go) λr s4 ⟨u,j,Q⟩=>?_);subst j;refine R6 G (thn Q λ_ s5 ⟨x,dO,I5,r5,y5,ap,aS⟩=>?_);let aT:=I5.pinned (am aS) (T.obj _ _ ap);refine R6 G (thn (z _ s5 al dO x u _ aT r5 (step x dO y5)) λ_ s6 ⟨ar,H6,I6,q6⟩=>?_);refine R6 G (thn (M _ s6 ar H6 _ I6 q6) λf s7 q7=>?_);let again:∀{an:St}{H7:Hp},Inv X (B++BA fp s5.H) an H7 s7->N an H7->∃ m,m<n/\∃ i aa H',Inv X B aa H' s7/\tn i s7.H/\(∀ b∈fp,H' b=lf)/\W i m aa H':=λ{an H7} I7 n7=>by
   let m' y w7:=hN an H7 n7;erw[m',y,i+1,an,H7,I7.unpinned,T.keep _ _ _ ap λb M o e=>(I7.pin (b,o) (Nj _ (Nj _ (kM M e)))).1,λb M=>?_,w7];let o e d:=T.obj _ _ ap b M;exact(I7.pin (b,o) (Nj _ (Nj _ (kM M e)))).2.1
  cases f with
  |next=>obtain⟨an,H7,I7,n7⟩:=q7;exact again I7 n7
  |cont=>obtain⟨an,H7,I7,n7⟩:=q7;exact again I7 n7
  |brk=>obtain⟨an,H7,I7,q7⟩:=q7;erw[an,H7,I7.unpinned,q7]
  |ret v=>obtain⟨x7,an,H7,I7,r7,q7⟩:=q7;erw[x7,an,H7,I7.unpinned,r7,q7]
end
def br{xs:E V}{g:TG}{tb:TS}{D:Ends}{L:St}{H:Hp}(Pv:R->St->Hp->Prop)(A:Pv 0 L H)(hl:∀ i L H,i<=xs.L->Pv i L H->pi a xs)(T:∀ i x L H,xs[i]?=Z x->Pv i L H->g x L H λh H2=>tb (D.lop (Pv (i+1))) h H2)(hd:∀ L H,Pv xs.L L H->D.nx L H):
  ∃ W:R->R->St->Hp->Prop,(∃ m,W 0 m L H)/\∀ i m L H,W i m L H ->
   ((Itl K a).stop i H/\D.nx L H)∨((Itl K a).go i H/\∃ N:St->Hp->Prop,(∀ σ' H',N σ' H'->∃ f,f<m/\W (i+1) f σ' H')/\∀ x H',(Itl K a).yld i H x H'->g x L H' λh H2=>tb (D.lop (N)) h H2):=by
 erw[λi m L H=>m=xs.L-i/\i<=xs.L/\Pv i L H,⟨xs.L,by simp,ND _,A⟩,3]
 rintro i m L H ⟨rfl,J,p⟩;let q:=hl i L H J p;by_cases Q:i<xs.L
 .refine .inr ⟨⟨xs,xs[i],q,by simp⟩,Pv (i+1),λσ' H' B=>⟨xs.L-(i+1),∅,U,Q,B⟩,λx H' y=>?_⟩
  let e y:=y;subst e;exact T i x L _ (y xs q) p
 .let e:i=xs.L:=by lia
  subst e;exact .inl ⟨⟨xs,q,MN _⟩,hd L H p⟩
def cL{lo:Y}{g:TG}{tb:TS}{D:Ends}{L:St}{H:Hp}(Pv:R->St->Hp->Prop)(A:Pv 0 L H)(T:∀ i L H,i<n->Pv i L H->g (.int (lo+i)) L H λh H2=>tb (D.lop (Pv (i+1))) h H2)(hd:∀ L H,Pv n L H->D.nx L H):
  ∃ W:R->R->St->Hp->Prop,(∃ m,W 0 m L H)/\∀ i m L H,W i m L H ->
   ((Itr lo n).stop i H/\D.nx L H)∨((Itr lo n).go i H/\∃ N:St->Hp->Prop,(∀ σ' H',N σ' H'->∃ f,f<m/\W (i+1) f σ' H')/\∀ x H',(Itr lo n).yld i H x H'->g x L H' λh H2=>tb (D.lop (N)) h H2):=by
 erw[λi m L H=>m=n-i/\i<=n/\Pv i L H,⟨n,by simp,ND _,A⟩,3]
 rintro i m L H ⟨rfl,J,p⟩;by_cases Q:i<n
 .refine .inr ⟨Q,Pv (i+1),λσ' H' B=>⟨n-(i+1),∅,U,Q,B⟩,λx H' y=>?_⟩
  let e y:=y;subst e y;exact T i L _ Q p
 .let e:i=n:=by lia
  subst e;exact .inl ⟨MN _,hd L H p⟩
def iH{c:TT}{tb:TS}{D:Ends}{L:St}{H:Hp}(Pv:St->Hp->Prop)(a:St->Hp->R)(A:Pv L H)(T:∀ L H,Pv L H->c L H λb H1=>if b=kt then tb (D.lop (λσ' H'=>Pv σ' H'/\a σ' H'<a L H)) L H1 else D.nx L H1)(mono:∀ L H Q u,(∀ b H1,Q b H1->u b H1)->c L H Q->c L H u):JC c tb D L H:=by
 erw[λm L H=>m=a L H/\Pv L H,⟨_,U,A⟩,3];rintro m L H ⟨rfl,p⟩;refine mono L H _ _ (λb H1 q=>?_) (T L H p)
 cases b with
 |true=>exact⟨_,λσ' H' ⟨B,l⟩=>⟨_,l,U,B⟩,q⟩
 |false=>exact q
abbrev R2:=V->V->Hp->VK->Prop
def OpR(X:Cx)(f:eN->eN->Sem eN)(r:R2):Prop:=
 ∀(B:E (fc×ii))(s:ff)(L:St)(H:Hp)(x y:V)(v u:eN)(Q:VK),nw H s->RelV x v->RelV y u->r x y H Q ->
  mj X.A (f v u) (EP X B L Q) X.xe s
def UnR(X:Cx)(f:eN->Sem eN)(r:V->Hp->VK->Prop):Prop:=
 ∀(B:E (fc×ii))(s:ff)(L:St)(H:Hp)(x:V)(v:eN)(Q:VK),nw H s->RelV x v->r x H Q ->
  mj X.A (f v) (EP X B L Q) X.xe s
def iF(X:Cx)(f:eN)(r:E V->Hp->VK->Prop):Prop:=
 ∀(B:E (fc×ii))(s:ff)(L:St)(H:Hp)(D:E V)(o:E eN)(Q:VK),nw H s->Vals D o->r D H Q ->
  mj X.A (call f o) (EP X B L Q) X.xe s
def tOp(r:R2)(l tb:TE):TE:=λL H Q=>l L H λx j=>tb L j λy d=>r x y d Q
def tUn(r:V->Hp->VK->Prop)(l:TE):TE:=λL H Q=>l L H λx j=>r x j Q
inductive rI(C:Y->Y->Prop)(g:Y->Y->V)(x:L2.V)(y:L2.V)(H:L2.Hp)(Q:L2.VK):Prop
 |mk (i j:_) (_:x=.int i)(_:y=.int j)(_:C i j)(_:Q (g i j) H)
inductive rI0(g:Y->Y->V)(x:L2.V)(y:L2.V)(H:L2.Hp)(Q:L2.VK):Prop
 |mk (i j:_) (_:x=.int i)(_:y=.int j)(_:Q (g i j) H)
inductive rU(g:Y->V)(x:L2.V)(H:L2.Hp)(Q:L2.VK):Prop
 |mk (i:_) (_:x=.int i)(_:Q (g i) H)
section
variable{X:Cx}{a b c:hb}{ta tb tc:TE}{pos:Pos}
def binT(O:PE X a ta)(M:PE X b tb){B:E (fc×ii)}{s:ff}{L:St}{H:Hp}{ad:V->V->Hp->Prop}(I:nw H s)(h:ta L H λx H1=>tb L H1 λy H2=>ad x y H2){f:eN->eN->Sem eN}(r:∀ v u s2 x y H2,nw H2 s2->RelV x v->RelV y u->ad x y H2->mj X.A (f v u) Q X.xe s2):
  mj X.A (eval a X.j) (λv s₁=>mj X.A (eval b X.j) (λu s₂=>mj X.A (f v u) Q X.xe s₂) X.xe s₁) X.xe s:=by
 refine thn (O B s L H _ I h) λv C T=>?_;let x H1 i J dO:=T;refine thn (M B C L H1 _ i dO) λu s2 T=>?_;let y H2 p N n:=T;exact r v u s2 x y H2 p J N n
def ay{op:Operator}{r:R2}(D:OpR X (Sd op) r)(O:PE X a ta)(M:PE X b tb):PE X (.BinOp a op b pos) (tOp r ta tb):=by
 intro B s L H Q I h;exact wpAny_BinOp (binT O M I h λv u t x y d p G c q=>D B t L d x y v u Q p G c q)
def Ls{op:UnaryOp}{r:V->Hp->VK->Prop}(D:UnR X (unaryOp op) r)(O:PE X a ta):PE X (.UnaryOp op a pos) (tUn r ta):=by
 intro B s L H Q I h;exact UnaryOp_ (thn (O B s L H _ I h) λv C ⟨x,j,i,J,dO⟩=>D B C L j x v Q i J dO)
def opI{f:eN->eN->Sem eN}{C:Y->Y->Prop}{g:Y->Y->Y}(rule:∀(i j:Y)(t u:Tok)(s:ff)(Q:eN->ff->Prop)(dO:eN->ff->Prop),C i j->Q (.int (g i j) s.u) {s with toks:=s.u+1}->mj X.A (f (.int i t) (.int j u)) Q dO s):
  OpR X f (rI C λi j=>.int (g i j)):=by
 intro B s L H x y v u Q I G c h;let i j rfl rfl J q:=h;let t rfl:=G;let d rfl:=c;exact rule i j t d s _ _ J ⟨.int (g i j),H,I.tok _,⟨_,U⟩,q⟩
def opI0{f:eN->eN->Sem eN}{g:Y->Y->Y}(rule:∀(i j:Y)(t u:Tok)(s:ff)(Q:eN->ff->Prop)(dO:eN->ff->Prop),Q (.int (g i j) s.u) {s with toks:=s.u+1}->mj X.A (f (.int i t) (.int j u)) Q dO s):
  OpR X f (rI0 λi j=>.int (g i j)):=by
 intro B s L H x y v u Q I G c h;let i j rfl rfl q:=h;let t rfl:=G;let d rfl:=c;exact rule i j t d s _ _ ⟨.int (g i j),H,I.tok _,⟨_,U⟩,q⟩
def opB0{f:eN->eN->Sem eN}{g:Y->Y->ke}(rule:∀(i j:Y)(t u:Tok)(s:ff)(Q:eN->ff->Prop)(dO:eN->ff->Prop),Q (.bool (g i j)) s->mj X.A (f (.int i t) (.int j u)) Q dO s):
  OpR X f (rI0 λi j=>.bl (g i j)):=by
 intro B s L H x y v u Q I G c h;let i j rfl rfl q:=h;let t rfl:=G;let d rfl:=c;exact rule i j t d s _ _ ⟨.bl (g i j),H,I,U,q⟩
def CDiv(i j:Y):Prop:=0<j/\j<1073741824
def CPow(i j:Y):Prop:=0<=j/\j<=1000000/\i.natAbs<2^64
def CMul(i j:Y):Prop:=(-(2^64)<i/\i<2^64)∨(-(2^64)<j/\j<2^64)
def CMul.ok{i j:Y}(h:CMul i j):IntMulOk i j:=by
 rcases h with⟨eK,O⟩|⟨eK,O⟩
 .exact .of_left (intBits_le_64 eK O)
 .exact .of_right (intBits_le_64 eK O)
def B9(k:R):(0:Y)<=2^k:=by
 rw[two_pow_cast];exact Pg _
theorem cg:OpR X (Sd .Add) (rI0 λi j=>.int (i+j)):=opI0 λ_ _ _ _ _ _ _ q=>add_int q
theorem gF:OpR X (Sd .Sub) (rI0 λi j=>.int (i-j)):=opI0 λ_ _ _ _ _ _ _ q=>sub_int q
theorem gG:OpR X (Sd .Mult) (rI CMul λi j=>.int (i*j)):=opI λ_ _ _ _ _ _ _ J q=>mul_int q J.ok
theorem qO:OpR X (Sd .FloorDiv) (rI CDiv λi j=>.int (i/j)):=opI λi j _ _ _ _ _ J q=>by
 let eK:(0:Y)<j:=J.1;let O:j<1073741824:=J.2;exact floordiv_int ∅ (by rw[Rp i ∅];exact q) (.inl (PyProof.noPylong_small ∅))
theorem eI:OpR X (Sd .Mod) (rI (λ_ j=>0<j) λi j=>.int (i%j)):=opI λi j _ _ _ _ _ J q=>by
 let eK:(0:Y)<j:=J;exact mod_int' ∅ (by rw[Int.fmod_eq_emod_of_nonneg i ∅];exact q)
theorem JZ:OpR X (Sd .Pow) (rI CPow λi j=>.int (i^j.R)):=opI λ_ _ _ _ _ _ _ J q=>pow_int_small J.1 J.2.1 J.2.2 q
theorem bA:OpR X (Sd .LShift) (rI CPow λi j=>.int (i*2^j.R)):=opI λ_ _ _ _ _ _ _ J q=>lshift_int_small J.1 J.2.1 J.2.2 q
theorem gf:OpR X (Sd .RShift) (rI (λ_ j=>0<=j) λi j=>.int (i/2^j.R)):=opI λi j _ _ _ _ _ J q=>
 rshift_int J (by rw[Rp i (B9 _)];exact q)
theorem cV:OpR X (Sd .BitAnd) (rI0 λi j=>.int (Se i j)):=opI0 λ_ _ _ _ _ _ _ q=>and_int q
theorem jB:OpR X (Sd .BitOr) (rI0 λi j=>.int (Sf i j)):=opI0 λ_ _ _ _ _ _ _ q=>or_int q
theorem eX:OpR X (Sd .BitXor) (rI0 λi j=>.int (Sh i j)):=opI0 λ_ _ _ _ _ _ _ q=>xor_int q
def unI{f:eN->Sem eN}{g:Y->Y}(rule:∀(i:Y)(t:Tok)(s:ff)(Q:eN->ff->Prop)(dO:eN->ff->Prop),Q (.int (g i) s.u) {s with toks:=s.u+1}->mj X.A (f (.int i t)) Q dO s):
  UnR X f (rU λi=>.int (g i)):=by
 intro B s L H x v Q I G h;let i rfl q:=h;let t rfl:=G;exact rule i t s _ _ ⟨.int (g i),H,I.tok _,⟨_,U⟩,q⟩
theorem DB:UnR X (unaryOp .USub) (rU λi=>.int (-i)):=unI λ_ _ _ _ _ q=>neg_int q
end
def scal:V->V->ke
 |.non,.non=>kt | .non,.int _=>kt | .int _,.non=>kt | .non,.bl _=>kt | .bl _,.non=>kt | .non,.str _=>kt | .str _,.non=>kt
 |.int _,.int _=>kt | .bl _,.bl _=>kt | .str _,.str _=>kt | .byt _,.byt _=>kt
 |.int _,.str _=>kt | .str _,.int _=>kt | .bl _,.str _=>kt | .str _,.bl _=>kt
 |_,_=>k9
def rEq:R2:=λx y H Q=>scal x y=kt/\Q (.bl (decide (x=y))) H
def rNe:R2:=λx y H Q=>scal x y=kt/\Q (.bl (!decide (x=y))) H
def F7{i j:Y}:decide (V.int i=V.int j)=(i == j):=by
 rw[PD];simp
def Kl{i j:ke}:decide (V.bl i=V.bl j)=(i == j):=by
 rw[PD];simp
def F6{i j:fI}:decide (V.str i=V.str j)=(i == j):=by
 rw[PD];simp
def F8{i j:kf UInt8}:decide (V.byt i=V.byt j)=(i.l == j.l):=by
 rw[PD];simp
section
variable{X:Cx}{a b c:hb}{ta tb tc:TE}{pos:Pos}
def bD{B:E (fc×ii)}{L:St}{H:Hp}{s:ff}{Q:VK}{k k':ke}(I:nw H s)(q:Q (.bl k) H)(e:k=k'):EP X B L Q (.bool k') s:=by
 subst e;erw[.bl k,H,I,U,q]
def cH:OpR X (RX .Eq) rEq:=by
 intro B s L H x y v u Q I G c h;let T q:=h
 cases x with
 |non=>
  cases G
  cases y with
  |non=>cases c;exact PySem.EqNone.eq_none_none (bD I q ∅)
  |bl j=>cases c;exact PySem.EqNone.eq_none_bool (bD I q ∅)
  |int j=>obtain⟨d,rfl⟩:=c;exact PySem.EqNone.eq_none_int (bD I q ∅)
  |str j=>obtain⟨d,rfl⟩:=c;exact PySem.EqNone.eq_none_str (bD I q ∅)
  |_=>exact Tn (show k9=kt from T) Nr
 |bl i=>
  cases G
  cases y with
  |non=>cases c;exact PySem.EqNone.eq_bool_none (bD I q ∅)
  |bl j=>cases c;exact eq_bool (bD I q Kl)
  |str j=>obtain⟨d,rfl⟩:=c;exact PySem.EqMixed.eq_bool_str (bD I q ∅)
  |_=>exact Tn (show k9=kt from T) Nr
 |int i=>
  let t rfl:=G
  cases y with
  |non=>cases c;exact PySem.EqNone.eq_int_none (bD I q ∅)
  |int j=>obtain⟨d,rfl⟩:=c;exact eq_int (bD I q F7)
  |str j=>obtain⟨d,rfl⟩:=c;exact PySem.EqMixed.eq_int_str (bD I q ∅)
  |_=>exact Tn (show k9=kt from T) Nr
 |str i=>
  let t rfl:=G
  cases y with
  |non=>cases c;exact PySem.EqNone.eq_str_none (bD I q ∅)
  |bl j=>cases c;exact PySem.EqMixed.eq_str_bool (bD I q ∅)
  |int j=>obtain⟨d,rfl⟩:=c;exact PySem.EqMixed.eq_str_int (bD I q ∅)
  |str j=>obtain⟨d,rfl⟩:=c;exact eq_str (bD I q F6)
  |_=>exact Tn (show k9=kt from T) Nr
 |byt i=>
  let t rfl:=G
  cases y with
  |byt j=>obtain⟨d,rfl⟩:=c;exact PySem.W.eq_bytes (bD I q F8)
  |_=>exact Tn (show k9=kt from T) Nr
 |_=>cases y<;>exact Tn (show k9=kt from T) Nr
def l7:OpR X (RX .NotEq) rNe:=by
 intro B s L H x y v u Q I G c h;let T q:=h
 cases x with
 |non=>
  cases G
  cases y with
  |non=>cases c;exact PySem.EqNone.ne_none_none (bD I q ∅)
  |bl j=>cases c;exact PySem.EqNone.ne_none_bool (bD I q ∅)
  |int j=>obtain⟨d,rfl⟩:=c;exact PySem.EqNone.ne_none_int (bD I q ∅)
  |str j=>obtain⟨d,rfl⟩:=c;exact PySem.EqNone.ne_none_str (bD I q ∅)
  |_=>exact Tn (show k9=kt from T) Nr
 |bl i=>
  cases G
  cases y with
  |non=>cases c;exact PySem.EqNone.ne_bool_none (bD I q ∅)
  |bl j=>cases c;exact ne_bool (bD I q (congrArg not Kl))
  |str j=>obtain⟨d,rfl⟩:=c;exact PySem.EqMixed.ne_bool_str (bD I q ∅)
  |_=>exact Tn (show k9=kt from T) Nr
 |int i=>
  let t rfl:=G
  cases y with
  |non=>cases c;exact PySem.EqNone.ne_int_none (bD I q ∅)
  |int j=>obtain⟨d,rfl⟩:=c;exact ne_int (bD I q (congrArg not F7))
  |str j=>obtain⟨d,rfl⟩:=c;exact PySem.EqMixed.ne_int_str (bD I q ∅)
  |_=>exact Tn (show k9=kt from T) Nr
 |str i=>
  let t rfl:=G
  cases y with
  |non=>cases c;exact PySem.EqNone.ne_str_none (bD I q ∅)
  |bl j=>cases c;exact PySem.EqMixed.ne_str_bool (bD I q ∅)
  |int j=>obtain⟨d,rfl⟩:=c;exact PySem.EqMixed.ne_str_int (bD I q ∅)
  |str j=>obtain⟨d,rfl⟩:=c;exact ne_str (bD I q (congrArg not F6))
  |_=>exact Tn (show k9=kt from T) Nr
 |byt i=>
  let t rfl:=G
  cases y with
  |byt j=>obtain⟨d,rfl⟩:=c;exact PySem.W.ne_bytes (bD I q (congrArg not F8))
  |_=>exact Tn (show k9=kt from T) Nr
 |_=>cases y<;>exact Tn (show k9=kt from T) Nr
theorem uO:OpR X (RX .Lt) (rI0 λi j=>.bl (decide (i<j))):=opB0 λ_ _ _ _ _ _ _ q=>lt_int q
theorem Ck:OpR X (RX .Gt) (rI0 λi j=>.bl (decide (j<i))):=opB0 λ_ _ _ _ _ _ _ q=>gt_int q
theorem op_ge:OpR X (RX .GtE) (rI0 λi j=>.bl (decide (j<=i))):=opB0 λ_ _ _ _ _ _ _ q=>ge_int q
def BD:OpR X (RX .Is) (λx y H Q=>y=.non/\Q (.bl (decide (x=.non))) H):=by
 intro B s L H x y v u Q I G c h;let rfl q:=h
 cases c
 refine is_none_gen (bD I q ?_)
 cases x<;>first
  | (cases G;rfl)
  | (let t rfl:=G;rfl)
def EG:OpR X (RX .IsNot) (λx y H Q=>y=.non/\Q (.bl (!decide (x=.non))) H):=by
 intro B s L H x y v u Q I G c h;let rfl q:=h
 cases c
 refine isnot_none_gen (bD I q ?_)
 cases x<;>first
  | (cases G;rfl)
  | (let t rfl:=G;rfl)
def aJ(b:hb)(h:uP_ (op≠.In) uD_)(h2:uP_ (op≠.NotIn) uD_):behindInMarks op b=k9:=by
 let f:(op == CmpOp.In)=k9:=by simp!
 let A:(op == CmpOp.NotIn)=k9:=by simp!
 cases b<;>simp[behindInMarks,f,A]
def l4{r:R2}(D:OpR X (RX op) r)(O:PE X a ta)(M:PE X b tb)(w:behindInMarks op b=k9):PE X (.Compare a [op] [b] pos) (tOp r ta tb):=by
 intro B s L H Q I h;exact wpAny_Compare1 (binT O M I h λv u t x y d p G c q=>D B t L d x y v u Q p G c q) w
def tTest(t:TE):TT:=λL H Q=>t L H λx l=>∃ k,x=.bl k/\Q k l
def aD{r:R2}(D:OpR X (RX op) r)(O:PE X a ta)(M:PE X b tb)(w:behindInMarks op b=k9):PT X (.Compare a [op] [b] pos) (tTest (tOp r ta tb)):=by
 intro B s L H Q I h
 refine wpAny_isTrue_Compare1 (thn (O B s L H _ I h) λv C ⟨x,j,i,J,dO⟩=>thn (M B C L j _ i dO) λu t ⟨y,d,p,N,n⟩=>
  thn (D B t L d x y v u _ p J N n) λc g ⟨z,q,m,f,k,e,l⟩=>?_) w
 subst e
 cases f
 exact RY ⟨q,m,l⟩
def tH:(RO:R)<2^63:=by rw[sizeLine_eq];decide
def lu{x:V}(r:Vals [x] us):∃ u,us=[u]/\RelV x u:=by
 cases r with
 |cons J N=>cases N;erw[9,J]
def G4{x y:V}(r:Vals [x,y] us):∃ u w',us=[u,w']/\RelV x u/\RelV y w':=by
 cases r with
 |cons J N=>
  cases N with
  |cons f c=>cases c;erw[37,J,f]
def Jn:iF X (.builtin "abs") (λxs H Q=>∃ i,xs=[.int i]/\Q (.int (if i<0 then -i else i)) H):=by
 intro B s L H xs o Q I r h;let i rfl q:=h;let u rfl t rfl:=lu r;exact call_abs_int λu m=>⟨.int (if i<0 then -i else i),H,I.tok _,⟨_,U⟩,q⟩
def yz(J:X.calm=kt):iF X (.builtin "max") (λxs H Q=>∃ i j,xs=[.int i,.int j]/\Q (.int (if j > i then j else i)) H):=by
 intro B s L H xs o Q I r h;let i j rfl q:=h;let u a rfl{t rfl}{d rfl}:=G4 r;refine max_two_ints (I.ok.hd J) λO m k=>⟨_,H,I.kept k,?_,q⟩;by_cases c:j > i
 .rw[Ti c,Ti c];erw[9]
 .rw[Tj c,Tj c];erw[9]
def yA:iF X (.type "int") (λxs H Q=>(∃ i,xs=[.int i]/\Q (.int i) H)∨∃ k,xs=[.bl k]/\Q (.int (if k then 1 else 0)) H):=by
 intro B s L H xs o Q I r h;rcases h with⟨i,rfl,q⟩|⟨k,rfl,q⟩
 .let u rfl t rfl:=lu r;exact call_int_int ⟨.int i,H,I,⟨_,U⟩,q⟩
 .let u rfl J:=lu r
  cases J
  exact call_int_bool ⟨.int (if k then 1 else 0),H,I.tok _,⟨_,U⟩,q⟩
end
structure ObjM(h:fo)(x dx C:fc)(mA:fI->j5 eN):Prop where
 obj:h.Q x=Z (OZ C dx)
 ns:h.Ns1 dx mA
 ne:dx≠x
def Fe{i:fI->j5 eN}(n:h.Ns1 p i):∃ od,h.Q p=Z od/\∀ name,QB name od=Z (i name):=by
 let o O r g hd D _ w:=n;erw[o,g,λname=>?_];let e:=w name;unfold nsFind findBy at e;rw[← kf.find?_toList]at e;unfold QB;rw[hd];dsimp only;split
 .simp!
 .rename_i q;rw[q]at e;let a:O.l.any (·.refKey)=k9:=by
   rw[List.any_eq_false];intro y j;let z t b:=D y (kf.mem_toList_iff.mp j);simp[DictEntry.refKey,b]
  let N:¬ O.l.any (·.refKey)=kt:=by lia
  rw[Tj N];exact congrArg Z e
theorem ObjM.look{x:fc}{i:fI->j5 eN}(I:ObjM h x a C i):∃ od,PySem.W.InstAt h x (OZ C a) C (Z od)/\∀ name,QB name od=Z (i name):=
 let ⟨od,D,M⟩:=Fe I.ns
 ⟨od,⟨I.obj,U,U,D⟩,M⟩
section
variable{prog:hx}{w:ix}{A:Around}{dO:eN->ff->Prop}{s:ff}{K:MJ}{x dx C f:fc}{mA:fI->j5 eN}{name:fI}{v:eN}
def Mg{c:ke}(X:K.In s.H)(I:ObjM s.H x dx C mA)(a:O8 K C name=kt)(H:Po K C=kt)(O:Nw K (.ref C) name=Z lf)(t:mA name=Z v)(b:PySem.W.handedIn v=kt)(h:Q v {s with toks:=s.u+1}):
  mi A (getAttr (.ref x) name c) Q dO s:=by
 let i J M:=I.look;exact PySem.W.get_value X J (QC a).1 (PySem.W.findObj_own H O U (by rw[M,t])) b h
def IQ{Q:eN×E eN->ff->Prop}(X:K.In s.H)(I:ObjM s.H x dx C mA)(a:O8 K C name=kt)(r:Nw K (.ref C) name=Z (Z (.ref f)))(g:O1 K (.ref f)=kt)(t:mA name=lf)(h:Q (.ref f,[.ref x]) s):
  mi A (getMethod (.ref x) name pl) Q dO s:=by
 let i J M:=I.look;exact PySem.W.method_fn X J (QC a).1 (QC a).2 r (beq_iff_eq.mp g) (by show(QB name i).Z (·.isSome)=Z k9;simp[*]) h
def Ld{ns:E fI}{Q:Unit->ff->Prop}(X:K.In s.H)(I:ObjM s.H x dx C mA)(T:Nw K (.ref C) "__setattr__"=Z (Z (.builtin "object.__setattr__")))(G:PH K C=kt)(g:Rf K C name=Z lf)(H:Po K C=kt)(hw:PySem.Within mA ns)(hsz:ns.L<=RO)(h:∀ h',ObjM h' x dx C (λy=>if y=name then Z v else mA y)->RU dx s.H h'->Q () {s with heap:=h',toks:=s.u+2}):
  mi A (setAttr (.ref x) name v) Q dO s:=by
 let i J M:=I.look;refine PySem.W.set_plain X J T (PySem.W.osa_open (s:={s with toks:=s.u+1}) (r:=lf) X J G g λb=>?_);let d l O:=PySem.W.any_some H;let B:s.H.Q x=Z ⟨.ref C,Z dx,.plain,#[]⟩:=I.obj;refine R4 (R7 (R4 (R4 (wpAny_loadPart B (R4 (PySem.W.Looks.here (s:={s with toks:=s.u+1}) (PySem.W.looks_clsIn X l) ?_))))));rw[O];refine R7 (a:=Z dx) (R4 (R7 (R4 ?_)));refine wpAny_nsSet1 (s:={s with toks:=s.u+1}) I.ns λh' e c=>?_;let o n f j k m:=e.count (PySem.Within.cons name v hw);refine R4 (wpAny_lookBehind j (by rw[k];exact pastItsLine_dict (NH m (by simp[*]))) ?_)
 exact R7 (h _ ⟨(c.2 _ (Ne.X I.ne)).P I.obj,e,I.ne⟩ c)
def IB{kw:E (fI×eN)}(X:K.In s.H)(y:P0 K C=kt)(hi:Nw K (.ref C) "__init__"=some (some (.ref f)))(r:PySem.W.typeIn K (.ref f)=some (.type "function"))(h:Si (model prog w) (A.under (.builtin "type.__call__" ⟨.ref C::vs,kw⟩)) (.call (.ref f) ⟨.ref (s.H.M.J+1)::vs,kw⟩) (PySem.W.InitBack (s.H.M.J+1) ad)
   {s,(s.H.e OA).e (OZ C s.H.M.J)}):
  Si (model prog w) A (.call (.ref C) ⟨vs,kw⟩) ad s:=by
 let H g d t os:=s;exact PySem.W.make_core (PySem.W.makes_of X y) (PySem.W.looks_findIn X hi) (λa=>PySem.W.bind_fn X a r) (.inl U) h
end
def putF(f:fI)(v:V):E (fI×V)->E (fI×V)
 |[]=>[(f,v)]
 | (g,x)::r=>if g=f then(g,v)::r else(g,x)::putF f v r
theorem aU(f g:fI)(v:V):∀ fs:E (fI×V),(putF f v fs).Y g=if g=f then Z v else fs.Y g
 |[]=>by
  show Ql g [(f,v)]=_;by_cases h:g=f
  .simp[*]
  .simp[*]
 | (k,x)::r=>by
  let C:=aU f g v r;rw[show putF f v ((k,x)::r)=(if k=f then(k,v)::r else(k,x)::putF f v r) from rfl];by_cases D:k=f
  .rw[Ti D];by_cases h:g=k
   .simp[*]
   .let M:(g == k)=k9:=beq_eq_false_iff_ne.mpr h
    simp only[Ql,M,Tj (λe:g=f=>h (e.P D.X))]
  .rw[Tj D];by_cases h:g=k
   .simp[*]
   .let M:(g == k)=k9:=beq_eq_false_iff_ne.mpr h
    simp only[Ql,M];exact C
theorem qS(f:fI)(v:V):∀ fs:E (fI×V),f∈(putF f v fs).Z (·.1)/\∀ g,g∈fs.Z (·.1)->g∈(putF f v fs).Z (·.1)
 |[]=>⟨by simp[putF],λg h=>by simp at h⟩
 | (k,x)::r=>by
  let p s:=qS f v r;rw[show putF f v ((k,x)::r)=(if k=f then(k,v)::r else(k,x)::putF f v r) from rfl];grind
theorem qQ(f:fI)(v:V):∀ fs:E (fI×V),(putF f v fs).L<=fs.L+1
 |[]=>by simp[putF]
 | (k,x)::r=>by
  let C:=qQ f v r;rw[show putF f v ((k,x)::r)=(if k=f then(k,v)::r else(k,x)::putF f v r) from rfl];by_cases D:k=f
  .simp[*]
  .simp[*]
def RelO.some_of{v:V}{o:j5 eN}(r:RelO (Z v) o):∃ u,o=Z u/\RelV v u:=by
 cases o with
 |none=>exact(show False from r).elim
 |some u=>exact⟨u,U,r⟩
def RelO.none_of{o:j5 eN}(r:RelO lf o):o=lf:=by
 cases o with
 |none=>rfl
 |some u=>contradiction
def FK{v:V}(r:RelV v u):PySem.W.handedIn u=kt:=by
 cases v with
 |non=>cases (show u=eN.none from r);rfl
 |bl b=>cases (show u=eN.bool b from r);rfl
 |int i=>obtain⟨t,e⟩:=(show ∃ t,u=eN.int i t from r);cases e;rfl
 |str x=>obtain⟨t,e⟩:=(show ∃ t,u=eN.str x t from r);cases e;rfl
 |byt b=>obtain⟨t,e⟩:=(show ∃ t,u=eN.bytes b t from r);cases e;rfl
 |flt b=>obtain⟨t,e⟩:=(show ∃ t,u=eN.float b t from r);cases e;rfl
 |ref a=>cases (show u=eN.ref a from r);rfl
 |ty n=>cases (show u=eN.type n from r);rfl
section
variable{P:hx}{w:ix}{H H':Hp}{h h':fo}{a C dx:fc}{fs fs':E (fI×V)}
def vm(dO:HOk P w H h)(e:H a=Z (.ins C dx fs)):∃ i,ObjM h a dx C i/\(∀ f,RelO (fs.Y f) (i f))/\PySem.Within i (fs.Z (·.1))/\fs.L<=1000/\H dx=Z (.own a):=by
 let d z ne T i n r q:=(show bC P w H h a (.ins C dx fs) from dO a _ e);erw[i,⟨T,n,ne⟩,r,q,z,d]
end
structure Cls(K:MJ)(C:fc):Prop where
 pg:O8 K C fI.empty=kt
 hd:Po K C=kt
 po:PH K C=kt
 sa:Nw K (.ref C) "__setattr__"=Z (Z (.builtin "object.__setattr__"))
theorem Cls.get(c:Cls K C)(f:fI):O8 K C f=kt:=c.pg
def gZ(K:MJ)(C:fc)(f:fI):Prop:=Nw K (.ref C) f=Z lf
def gZ.taker{f:fI}(n:gZ K C f):Rf K C f=Z lf:=by
 unfold Rf;rw[show Nw K (.ref C) f=Z lf from n];rfl
structure Meth(K:MJ)(C:fc)(m:fI)(f:fc):Prop where
 at_:Nw K (.ref C) m=Z (Z (.ref f))
 fn:O1 K (.ref f)=kt
 kp:NK K (.ref f)=kt
section
variable{X:Cx}{pins:E (fc×ii)}{σ:St}{H:Hp}{s:ff}{a C dx:fc}{fs:E (fI×V)}{f:fI}{v:V}{A:Around}{dO:eN->ff->Prop}
def CA{b:ke}(I:mu σ H s)(e:H a=Z (.ins C dx fs))(c:Cls X.K C)(n:gZ X.K C f)(l:fs.Y f=Z v)(h:∀ u s',mu σ H s'->RelV v u->Q u s'):mj A (getAttr (.ref a) f b) Q dO s:=by
 let i O r _ _ _:=vm I.hok e;let u t k:=RelO.some_of (v:=v) (o:=i f) (by rw[← l];exact r f)
 exact Mg I.kIn O (c.get f) c.hd n t (FK k) (h u _ (I.tok _) k)
def tL{m:fI}{g:fc}{Q:eN×E eN->ff->Prop}(I:mu σ H s)(e:H a=Z (.ins C dx fs))(c:Cls X.K C)(k:Meth X.K C m g)(l:fs.Y m=lf)(h:Q (.ref g,[.ref a]) s):mj A (getMethod (.ref a) m pl) Q dO s:=by
 let i O r _ _ _:=vm I.hok e;let T:i m=lf:=RelO.none_of (by rw[← l];exact r m)
 exact IQ I.kIn O (c.get m) k.at_ k.fn T h
def Cd{y:V}{Q:Unit->ff->Prop}(I:mu σ H s)(e:H a=Z (.ins C dx fs))(c:Cls X.K C)(n:gZ X.K C f)(hl:fs.L<1000)(J:RelV y u)(h:∀ s',mu σ (upd H a (.ins C dx (putF f y fs))) s'->Q () s'):mj A (setAttr (.ref a) f u) Q dO s:=by
 let i O r k _ D:=vm I.hok e;let j:(fs.Z (·.1)).L<=RO:=by rw[MI,sizeLine_eq];lia
 refine Ld I.kIn O c.sa c.po n.taker c.hd k j λeK d m=>h _ ?_;let hd:∃ o,eK.Q dx=Z o:=let ⟨o,_,_,l,_⟩:=d.ns;⟨o,l⟩;refine I.write (x:=a) (e:=dx) (by rw[e];exact True.intro) (.inr D) (λb q M z=>(m.2 b M).P z) hd ?_
 erw[by rw[aw O.ne];exact D,3,O.ne,d.obj,_,d.ns,λg=>?_,λg N=>?_]
 .let:=qQ f y fs;lia
 .show RelO ((putF f y fs).Y g) (if g=f then Z u else i g);rw[aU];by_cases q:g=f
  .rw[Ti q,Ti q];exact J
  .rw[Tj q,Tj q];exact r g
 .by_cases q:g=f
  .rw[q];exact(qS f y fs).1
  .refine(qS f y fs).2 g (k g λz=>N ?_);simp!
def Inv.made(I:Inv X pins σ H s):Inv X pins σ (upd (upd H s.H.M.J (.own (s.H.M.J+1))) (s.H.M.J+1) (.ins C s.H.M.J []))
  {s,(s.H.e OA).e (OZ C s.H.M.J)}:=by
 let f:(s.H.e OA).Q s.H.M.J=Z OA:=R9 s.H U;let A:((s.H.e OA).e (OZ C s.H.M.J)).Q (s.H.M.J+1)=Z (OZ C s.H.M.J):=by
  let:=R9 (s.H.e OA) (o:=OZ C s.H.M.J) U;rwa[Sj]at this
 let B:(s.H.e OA).Ns s.H.M.J (λ_=>lf):=⟨OA,#[],_,f,U,(λe N=>Tn N ∅),λ_=>rfl⟩
 let i:=I.laid (a:=s.H.M.J) (o:=.own (s.H.M.J+1)) (h':=s.H.e OA) (t':=s.u) (λb u q=>R8 _ q) (MN _) ⟨_,f⟩;refine i.laid (a:=s.H.M.J+1) (o:=.ins C s.H.M.J []) (t':=s.u) (λb u q=>R8 _ q) (QS (Sj _ _)) ?_;let ne:s.H.M.J≠s.H.M.J+1:=Nh (Oe _);erw[by rw[aw ne,ag],ND _,ne,A,λ_=>lf,(fo.Ns1.of_empty B).at λo q=>R8 _ q,λ_=>True.intro,λy j=>Tn rfl j]
theorem MB{f:fI}{s:ff}(M:attributeBase e f env (eval e env)=eval e env)(h:mi A (eval e env) (λo s₁=>mi A (getAttr o f kt) Q dO s₁) dO s):mi A (eval (.Attribute e f pos) env) Q dO s:=
 Attribute_any_ h (by rw[arm_eval_Attribute,M])
end
def tFld(K:MJ)(l:TE)(f:fI):TE:=λL H Q=>l L H λx j=>∃ a C B fs v,x=.ref a/\j a=Z (.ins C B fs)/\Cls K C/\gZ K C f/\fs.Y f=Z v/\Q v j
def sFld(K:MJ)(l e:TE)(f:fI):TS:=λD L H=>e L H λy j=>l L j λx d=>∃ a C B fs,x=.ref a/\d a=Z (.ins C B fs)/\Cls K C/\gZ K C f/\fs.L<1000 /\
 D.nx L (upd d a (.ins C B (putF f y fs)))
section
variable{X:Cx}{o e value:hb}{f:fI}{pos pos' tpos:Pos}{ta tv:TE}
def aQ(N:PE X e ta)(M:attributeBase e f X.j (eval e X.j)=eval e X.j):PE X (.Attribute e f pos) (tFld X.K ta f):=by
 intro B s L H Q I h;refine MB M (thn (N B s L H _ I h) λu t ⟨x,j,i,G,a,C,J,fs,v,T,k,c,n,l,q⟩=>?_);subst T;obtain rfl:u=eN.ref a:=G;exact CA i k c n l λd b p A=>⟨v,j,p,A,q⟩
def oP(O:PE X o ta)(t:PE X value tv)(T:swapsWith value (Z (.Attribute o f pos')) pos.line X.j=pure k9):PS X (.Assign [.Attribute o f pos'] value pos) (sFld X.K ta tv f):=by
 intro B s L H D I h;refine plainObj_wpAny_Assign_Attribute (thn (t B s L H _ I h) λu v ⟨y,j,i,g,q⟩=>thn (O B v L j _ i q) λe b ⟨x,d,p,G,a,C,J,fs,M,z,c,n,l,r⟩=>?_) T;subst M;obtain rfl:e=eN.ref a:=G;exact Cd p z c n l g λk m=>⟨L,_,m,r⟩
end
section
variable{X:Cx}{pins:E (fc×ii)}{σ:St}{H:Hp}{s:ff}{A:Around}{dO:eN->ff->Prop}{Q:eN->ff->Prop}{c:eN}{b:ke}
inductive TyOf(K:MJ)(H:Hp):V->eN->Prop where
 |non:TyOf K H .non (.type "NoneType")
 |bl (x:ke):TyOf K H (.bl x) (.type "bool")
 |int (i:Y):TyOf K H (.int i) (.type "int")
 |str (x:fI):TyOf K H (.str x) (.type "str")
 |flt (x:UInt64):TyOf K H (.flt x) (.type "float")
 |lst {a:fc} {xs:E V} (e:H a=Z (.lst xs)):TyOf K H (.ref a) (.type "list")
 |frz {a:fc} {o:ii} {xs:E V} (e:H a=Z (.frz o (.lst xs))):TyOf K H (.ref a) (.type "list")
 |tup {a:fc} {xs:E V} (e:H a=Z (.tup xs)):TyOf K H (.ref a) (.type "tuple")
 |dK {a:fc} {kvs:E (Key×V)} (e:H a=Z (.dK kvs)):TyOf K H (.ref a) (.type "dict")
 |dT {a:fc} {kvs:E (E Key×V)} (e:H a=Z (.dT kvs)):TyOf K H (.ref a) (.type "dict")
 |ins {a C dx:fc} {fs:E (fI×V)} (e:H a=Z (.ins C dx fs)) (cl:Cls K C) (ha:Nw K (.ref C) "__class__"=Z (Z (.builtin "object.__class__")))
   (hn:PySem.W.specialIn K (.builtin "object.__class__") "__get__"=Z (Z (.builtin "getset_descriptor.__get__"))) (htk:PySem.W.takesIn K (.builtin "object.__class__")=Z kt)
   (hm:PX K C (.type "object")=Z kt):TyOf K H (.ref a) (.ref C)
def Ft{x:V}{t:eN}(I:mu σ H s)(f:RelV x u)(ty:TyOf X.K H x t)(e:PN X.K t c=Z b)(h:∀ tk,Q (.bool b) {s with toks:=tk}):
  mj A (call (.builtin "isinstance") [u,c]) Q dO s:=by
 cases ty with
 |non=>cases (show u=eN.none from f);exact Ov PySem.W.kitx_none I.kIn True.intro e (λz=>nomatch z) h
 |bl y=>cases (show u=eN.bool y from f);exact Ov PySem.W.kitx_bool I.kIn True.intro e (λz=>nomatch z) h
 |int i=>obtain⟨t,q⟩:=(show ∃ t,u=eN.int i t from f);cases q;exact Ov PySem.W.kitx_int I.kIn True.intro e (λz=>nomatch z) h
 |str y=>obtain⟨t,q⟩:=(show ∃ t,u=eN.str y t from f);cases q;exact Ov PySem.W.kitx_str I.kIn True.intro e (λz=>nomatch z) h
 |flt y=>obtain⟨t,q⟩:=(show ∃ t,u=eN.float y t from f);cases q;exact Ov PySem.W.kitx_float I.kIn True.intro e (λz=>nomatch z) h
 | @lst a D k=>
  cases (show u=eN.ref a from f)
  let _ _ n _ eK:=(show bC X.i X.w H s.H a (.lst D) from I.hok a _ k);exact Ov PySem.W.kitx_list I.kIn ⟨_,eK,U⟩ e (λz=>nomatch z) h
 | @frz a M D k=>
  cases (show u=eN.ref a from f)
  let _ _ _ n _ eK:=(show bC X.i X.w H s.H a (.frz M (.lst D)) from I.hok a _ k);exact Ov PySem.W.kitx_list I.kIn ⟨_,eK,U⟩ e (λz=>nomatch z) h
 | @tup a D k=>
  cases (show u=eN.ref a from f)
  let _ _ _ p:=(show bC X.i X.w H s.H a (.tup D) from I.hok a _ k);let o eK N _:=p;exact Ov PySem.W.kitx_tuple I.kIn ⟨o,eK,N⟩ e (λz=>nomatch z) h
 | @dK a G k=>
  cases (show u=eN.ref a from f)
  let _ _ m _ p:=(show bC X.i X.w H s.H a (.dK G) from I.hok a _ k);let o L r eK N _:=p;exact Ov PySem.W.kitx_dict I.kIn ⟨o,eK,N.1⟩ e (λz=>nomatch z) h
 | @dT a G k=>
  cases (show u=eN.ref a from f)
  let _ _ D _ o L r eK N _:=(show bC X.i X.w H s.H a (.dT G) from I.hok a _ k);exact Ov PySem.W.kitx_dict I.kIn ⟨o,eK,N.1⟩ e (λz=>nomatch z) h
 | @ins a C B fs k cl l T v j=>
  cases (show u=eN.ref a from f)
  let g O _:=vm I.hok k;let d J _:=O.look;exact Ov (PySem.W.kitx_own (cl.get _) cl.hd l T v j) I.kIn J e (λz=>nomatch z) h
end
structure Room(k:R)(A:Around):Prop where
 hd:A.handled=lf
 dp:A.depth+3*k+5<recursionLimit
 un:A.units+16*k+200<cLine
theorem Room.mono{k:R}(r:Room k A)(h:j<=k):Room j A:=⟨r.hd,by let:=r.dp;lia,by let:=r.un;lia⟩
theorem Room.deeper{k:R}(r:Room (k+1) A)(env:ih):Room k (A.deeper env):=
 ⟨r.hd,by let:=r.dp;show A.depth+1+3*k+5<_;lia,by let:=r.un;show A.units+3+16*k+200<_;lia⟩
def Cu{kw:E (fI×eN)}:(A.under (.builtin "type.__call__" ⟨.ref C::us,kw⟩)).depth=A.depth+1:=by
 rfl
def Ct{kw:E (fI×eN)}:(A.under (.builtin "type.__call__" ⟨.ref C::us,kw⟩)).units=A.units+1:=by
 rfl
theorem Room.make{k:R}(r:Room (k+1) A)(C:fc)(us:E eN)(kw:E (fI×eN)):Room k (A.under (.builtin "type.__call__" ⟨.ref C::us,kw⟩)):=
 ⟨r.hd,by let:=r.dp;rw[Cu];lia,by let:=r.un;rw[Ct];lia⟩
def Room.depth{k:R}(r:Room k A):A.depth<recursionLimit:=by let:=r.dp;lia
def Room.units{k:R}(r:Room k A):A.units+64<cLine:=by let:=r.un;lia
def tNil:TA:=λ_ H Q=>Q [] H
def K7(l:TE)(tr:TA):TA:=λL H Q=>l L H λx j=>tr L j λD d=>Q (x::D) d
section
variable{X:Cx}{e:hb}{es:E hb}{te:TE}{t:TA}{pos:Pos}
theorem ai:PA X [] tNil:=λ_ _ _ _ H Q I h=>Sk ⟨[],H,I,.nil,h⟩
def ae(O:PE X e te)(g:PA X es t)(T:uP_ (RV (e::es) X.j=(k9,eval e X.j)::RV es X.j) uR_):PA X (e::es) (K7 te t):=by
 intro pos B s L H Q I h;rw[T];show wpAny _ _ (spliced ((k9,eval e X.j)::backTo pos (RV es X.j))) _ _ s;refine Sl (thn (O B s L H _ I h) λu C ⟨x,j,i,J,dO⟩=>?_);exact thn (g pos B C L j _ i dO) λo b ⟨D,d,p,N,n⟩=>⟨x::D,d,p,.cons J N,n⟩
def tTup(t:TA):TE:=λL H Q=>t L H λD j=>D.L<=RO/\∀ p,j p=lf->Q (.ref p) (upd j p (.tup D))
def tLst(t:TA):TE:=λL H Q=>t L H λD j=>D.L<=RO/\∀ p,j p=lf->Q (.ref p) (upd j p (.lst D))
def bN{x1}(h:PA X es t):PE X (.Tuple es x1 pos) (tTup t):=by
 intro B s L H Q I n;refine wpAny_Tuple_spliced (thn (h pos B s L H _ I n) λo C ⟨D,j,i,r,z,q⟩=>⟨by rw[← r.L];exact z,?_⟩)
 let A:j C.H.M.J=lf:=i.hok.fresh (MN _);erw[.ref C.H.M.J,upd j C.H.M.J (.tup D),i.laid (t':=C.u) (λb u e=>R8 _ e) (MN _) ?_,U,q _ A];erw[z,o,r,⟨_,R9 _ U,U,_,U⟩]
def bX(h:PA X es t):PE X (.List es pos) (tLst t):=by
 intro B s L H Q I n;refine wpAny_List_spliced (thn (h pos B s L H _ I n) λo C ⟨D,j,i,r,z,q⟩=>⟨by rw[← r.L];exact z,?_⟩)
 let A:j C.H.M.J=lf:=i.hok.fresh (MN _);erw[.ref C.H.M.J,upd j C.H.M.J (.lst D),i.laid (t':=C.u) (λb u e=>R8 _ e) (MN _) ?_,U,q _ A];erw[z,o,00,r,R9 _ U]
end
abbrev Sp:=E V->Hp->VK->XK->Prop
abbrev CXT:=E ih->Hp->ff->XK->eN->ff->Prop
structure Env0(P:hx)(w:ix)(K:MJ)(mg:fI->j5 eN)(base:fo)(A:Around)(outer:E ih)(s:ff)(H:Hp):Prop where
 frames:A.frames=Z outer
 mod:Mod K mg base
 bs:∀ b o,base.Q b=Z o->s.H.Q b=Z o/\H b=lf
 bsz:base.M.J<=s.H.M.J
 funs:s.H.FunFrames base outer
 frf:∀ b∈frs outer,H b=lf
 hok:HOk P w H s.H
 bare:AllBare s.gens
def CE(outer:E ih)(P:hx)(w:ix)(H:Hp)(s:ff)(Q:VK)(u:eN)(s':ff):Prop:=
 ∃ v l,s'.os=s.os/\AllBare s'.gens/\Un (frs outer) [] H l s.H s'.H/\HOk P w l s'.H/\RelV v u/\Q v l
def CR(CX:CXT)(outer:E ih)(P:hx)(w:ix)(H:Hp)(s:ff)(Q:VK)(dO:XK)(r:Result)(s':ff):Prop:=
 match r with
 |.ok (.ret u)=>CE outer P w H s Q u s'
 |.ok _=>False
 |.error e=>CX outer H s dO e s'
structure FnOk(P:hx)(w:ix)(K:MJ)(mg:fI->j5 eN)(base:fo)(CX:CXT)(k:R)(f:fc)(fd:ge)(ps:E fI)(sp:Sp):Prop where
 len:∀ vs H Q dO,sp vs H Q dO->vs.L=ps.L
 run:∀(A:Around)(outer:E ih)(s:ff)(H:Hp)(args:Args)(us:E eN)(vs:E V)(Q:VK)(dO:XK),Room k A->Env0 P w K mg base A outer s H->BindsTo s fd args (ps.zip us)->Vals vs us->sp vs H Q dO ->
  Si (model P w) A (.call (.ref f) args) (CR CX outer P w H s Q dO) s
theorem Env0.make{s:ff}{H:Hp}(e:Env0 P w K mg base A outer s H)(C:fc)(us:E eN)(kw:E (fI×eN)):
  Env0 P w K mg base (A.under (.builtin "type.__call__" ⟨.ref C::us,kw⟩)) outer s H:=⟨by first|exact e.frames|(simpa[Around.under,Code.envs,Code.isFrame,pushEnvs] using e.frames),e.mod,e.bs,e.bsz,e.funs,e.frf,e.hok,e.bare⟩
section
variable{X:Cx}{pins:E (fc×ii)}{σ:St}{H:Hp}{s s':ff}
theorem Inv.env0(I:Inv X pins σ H s):Env0 X.i X.w X.K X.mg X.base X.A X.stack s H:=
 ⟨I.ok.frames,I.ok.mod,I.bs,NH I.ok.bsz I.sz,I.stack,I.stkFree,I.hok,I.bare⟩
def Inv.after{Q:VK}(I:Inv X pins σ H s)(h:CE X.stack X.i X.w H s Q u s'):EP X pins σ Q u s':=by
 let v l os c un dO r q:=h;let a g d t e:=s';obtain rfl:e=s.os:=os;erw[v,l,I.call (h':=a) (g':=g) (d':=d) (t':=t) (ch:=[]) un dO c (λb z=>Tn z ∅),r,q]
end
def Hi(sp:Sp)(b:E V)(dO:XK)(t:TA):TE:=λL H Q=>t L H λm j=>sp (m++b) j Q dO
def Hh(C:fc)(m:fI)(sp:Sp)(b:E V)(dO:XK)(l:TE)(t:TA):TE:=λL H Q=>l L H λx j=>∃ a B fs,x=.ref a/\j a=Z (.ins C B fs)/\fs.Y m=lf /\
 t L j λo d=>sp (x::(o++b)) d Q dO
def tMake(C:fc)(sp:Sp)(b:E V)(dO:XK)(t:TA):TE:=λL H Q=>t L H λm j=>∀ x B,j x=lf->j B=lf->B≠x ->
 sp (.ref x::(m++b)) (upd (upd j B (.own x)) x (.ins C B [])) (λv d=>v=.non/\Q (.ref x) d) dO
def gz(K:MJ)(fd:ge)(ps:E fI)(ds:E eN):Prop:=
 ∀(s:ff)(o:E eN),K.In s.H->(o++ds).L=ps.L->BindsTo s fd ⟨o,[]⟩ (ps.zip (o++ds))
theorem gz.all{ps:E fI}(h:∀ us:E eN,us.L=ps.L->bindArgs fd ⟨us,[]⟩=pure (ps.zip us)):gz K fd ps []:=λs us _ M=>by
 rw[NT]at M ⊢;exact .of_eq (h us M)
def o8(CX:CXT)(X:Cx)(dO:XK):Prop:=∀(B:E (fc×ii))(L:St)(H:Hp)(s:ff)(e:eN)(c:ff),nw H s->CX X.stack H s dO e c->X.xe e c
section
variable{X:Cx}{CX:CXT}{k:R}{f C:fc}{fd:ge}{ps:E fI}{sp:Sp}{dvs:E V}{ds:E eN}{dO:XK}{x m:fI}{p pos apos:Pos}{e o:hb}{es:E hb}{ta:TE}{t:TA}
def Bu{B:E (fc×ii)}{L:St}{H:Hp}{s:ff}{Q:VK}{vs:E V}(F:FnOk X.i X.w X.K X.mg X.base CX k f fd ps sp)(g:Room k X.A)(M:gz X.K fd ps ds)(hd:Vals dvs ds)(G:o8 CX X dO)(I:nw H s)(r:Vals vs us)(h:sp (vs++dvs) H Q dO):mj X.A (call (.ref f) us) (EP X B L Q) X.xe s:=by
 let N:Vals (vs++dvs) (us++ds):=r.append hd;let t:(us++ds).L=ps.L:=by rw[← N.L];exact F.len _ _ _ _ h
 refine wpAny_call (Sm (F.run X.A X.stack s H ⟨us,[]⟩ (us++ds) (vs++dvs) Q dO g I.env0 (M s us I.kIn t) N h) λr c n=>?_)
 cases r with
 |error e=>exact G B L H s e c I n
 |ok T=>
  cases T with
  |ret u=>exact I.after n
  |next=>exact False.elim n
  |brk=>exact False.elim n
  |cont=>exact False.elim n
def Lw(F:FnOk X.i X.w X.K X.mg X.base CX k f fd ps sp)(u:Room k X.A)(a:Gl X x)(y:X.mg x=Z (.ref f))(D:NK X.K (.ref f)=kt)(M:gz X.K fd ps ds)(hd:Vals dvs ds)(G:o8 CX X dO)(O:PA X (e::es) t)(l:uP_ ((x == ("__debug__" : fI))=k9) uD_)(N:uP_ (RV (e::es) X.j=(k9,eval e X.j)::RV es X.j) uR_)(d:uP_ ((backTo pos (RV es X.j)).any (·.1)=k9) uR_):
  PE X (.Call (.Name x p) (e::es) [] pos) (Hi sp dvs dO t):=by
 intro B s L H Q I h;refine Sn (oE I a y ?_ l);refine P7 (h₀:=X.base) I.ok.mod.kin D (thn (O pos B s L H _ I h) λo C ⟨m,j,i,r,q⟩=>⟨i.kIn,?_⟩) N d;exact Bu F u M hd G i r q
def HL(F:FnOk X.i X.w X.K X.mg X.base CX k f fd ps sp)(u:Room k X.A)(a:Gl X x)(y:X.mg x=Z (.ref f))(D:NK X.K (.ref f)=kt)(M:gz X.K fd ps ds)(hd:Vals dvs ds)(G:o8 CX X dO)(l:uP_ ((x == ("__debug__" : fI))=k9) uD_):PE X (.Call (.Name x p) [] [] pos) (Hi sp dvs dO tNil):=by
 intro B s L H Q I h;refine Sn (oE I a y ?_ l);exact PySem.W.callWith_K0 I.kIn D (Bu (us:=[]) F u M hd G I .nil h)
def uK(N:PE X o ta)(c:Cls X.K C)(y:Meth X.K C m f)(F:FnOk X.i X.w X.K X.mg X.base CX k f fd ps sp)(g:Room k X.A)(M:gz X.K fd ps ds)(hd:Vals dvs ds)(G:o8 CX X dO)(O:PA X (e::es) t)(aa:uP_ (RV (e::es) X.j=(k9,eval e X.j)::RV es X.j) uR_)(D:uP_ ((backTo pos (RV es X.j)).any (·.1)=k9) uR_)(i:uP_ (eval (.Call (.Attribute o m apos) (e::es) [] pos) X.j=(do
   let ov ← eval o X.j
   standAt apos.atName
   let (f,first) ← holding [ov] (getMethod ov m pl)
   callWith pos f first (backTo pos (RV (e::es) X.j)) (backToKw pos (keywordEach [] X.j)))) uR_):
  PE X (.Call (.Attribute o m apos) (e::es) [] pos) (Hh C m sp dvs dO ta t):=by
 intro B s L H Q I h;refine PySem.W.methodCall_KW (pl:=pl) (thn (N B s L H _ I h) λu v ⟨x,j,eK,n,a,J,fs,T,ea,l,q⟩=>?_) i;subst T;obtain rfl:u=eN.ref a:=n;refine tL eK ea c y l ?_;refine P7 (first:=[.ref a]) (h₀:=X.base) I.ok.mod.kin y.kp (thn (O pos B v L j _ eK q) λus b ⟨vs,d,p,r,z⟩=>⟨p.kIn,?_⟩) aa D;exact Bu (us:=.ref a::us) (vs:=.ref a::vs) F g M hd G p (.cons U r) z
def dU(N:PE X o ta)(c:Cls X.K C)(y:Meth X.K C m f)(F:FnOk X.i X.w X.K X.mg X.base CX k f fd ps sp)(g:Room k X.A)(M:gz X.K fd ps ds)(hd:Vals dvs ds)(G:o8 CX X dO)(i:uP_ (eval (.Call (.Attribute o m apos) [] [] pos) X.j=(do
   let ov ← eval o X.j
   standAt apos.atName
   let (f,first) ← holding [ov] (getMethod ov m pl)
   callWith pos f first (backTo pos (RV [] X.j)) (backToKw pos (keywordEach [] X.j)))) uR_):
  PE X (.Call (.Attribute o m apos) [] [] pos) (Hh C m sp dvs dO ta tNil):=by
 intro B s L H Q I h;refine PySem.W.methodCall_KW (pl:=pl) (thn (N B s L H _ I h) λu v ⟨x,j,eK,n,a,J,fs,T,z,l,q⟩=>?_) i;subst T;obtain rfl:u=eN.ref a:=n;refine tL eK z c y l ?_;exact PySem.W.callWith_K0 (first:=[.ref a]) eK.kIn y.kp (Bu (us:=[.ref a]) (vs:=[.ref a]) F g M hd G eK (.cons U .nil) q)
structure Mk(K:MJ)(C f:fc):Prop where
 makes:P0 K C=kt
 init:Nw K (.ref C) "__init__"=Z (Z (.ref f))
 fn:O1 K (.ref f)=kt
 kp:NK K (.ref C)=kt
def Hu{B:E (fc×ii)}{L:St}{H:Hp}{s:ff}{Q:VK}{vs:E V}(M:Mk X.K C f)(F:FnOk X.i X.w X.K X.mg X.base CX k f fd ps sp)(j:Room (k+1) X.A)(g:gz X.K fd ps ds)(hd:Vals dvs ds)(G:o8 CX X dO)(I:nw H s)(r:Vals vs us)(h:∀ x J,H x=lf->H J=lf->J≠x->sp (.ref x::(vs++dvs)) (upd (upd H J (.own x)) x (.ins C J [])) (λv H2=>v=.non/\Q (.ref x) H2) dO):
  mj X.A (call (.ref C) us) (EP X B L Q) X.xe s:=by
 let n:=h (s.H.M.J+1) s.H.M.J (I.hok.fresh (OH _)) (I.hok.fresh (MN _)) (Nh (Oe _));let p:=Inv.made (C:=C) I;let N:Vals (V.ref (s.H.M.J+1)::(vs++dvs)) (eN.ref (s.H.M.J+1)::(us++ds)):=.cons U (r.append hd);let t:(eN.ref (s.H.M.J+1)::us++ds).L=ps.L:=by
  let e:=N.L;rw[F.len _ _ _ _ n]at e;exact e.X
 refine wpAny_call (IB (f:=f) I.kIn M.makes M.init (beq_iff_eq.mp M.fn) (Sm (F.run _ X.stack _ _ ⟨eN.ref (s.H.M.J+1)::us,[]⟩ (eN.ref (s.H.M.J+1)::(us++ds)) _ _ dO (j.make C us [])
  (p.env0.make C us []) (g _ (eN.ref (s.H.M.J+1)::us) p.kIn t) N n) λr c D=>?_))
 cases r with
 |error e=>exact G B L _ _ e c p D
 |ok T=>
  cases T with
  |ret u=>
   let v l m rv O z:=p.after D;subst O;erw[rv,⟨V.ref (s.H.M.J+1),l,m,U,z⟩]
  |next=>exact False.elim D
  |brk=>exact False.elim D
  |cont=>exact False.elim D
def zK(M:Mk X.K C f)(F:FnOk X.i X.w X.K X.mg X.base CX k f fd ps sp)(u:Room (k+1) X.A)(a:Gl X x)(y:X.mg x=Z (.ref C))(g:gz X.K fd ps ds)(hd:Vals dvs ds)(G:o8 CX X dO)(O:PA X (e::es) t)(l:uP_ ((x == ("__debug__" : fI))=k9) uD_)(N:uP_ (RV (e::es) X.j=(k9,eval e X.j)::RV es X.j) uR_)(d:uP_ ((backTo pos (RV es X.j)).any (·.1)=k9) uR_):
  PE X (.Call (.Name x p) (e::es) [] pos) (tMake C sp dvs dO t):=by
 intro B s L H Q I h;refine Sn (oE I a y ?_ l);refine P7 (h₀:=X.base) I.ok.mod.kin M.kp (thn (O pos B s L H _ I h) λo v ⟨m,j,i,r,q⟩=>⟨i.kIn,?_⟩) N d;exact Hu M F u g hd G i r q
end
section
variable{X:Cx}{CX:CXT}{k:R}{f C:fc}{fd:ge}{ps ks:E fI}{sp:Sp}{dO:XK}{x m:fI}{p pos apos kpos:Pos}{e o:hb}{es:E hb}{kws:E Keyword}{te ta:TE}{t tk:TA}{nm:j5 fI}
variable{g:E eN->E eN->E eN}{gV:E V->E V->E V}
end
structure az(N P:E fI)(sc:io):Prop where
 kind:sc.kind=.function
 co:sc.isCoroutine=k9
 gen:sc.isGenerator=k9
 nd:N.h
 pre:N.x P.L=P
 par:∀ x∈P,sc.names.Y x=Z .local∨sc.names.Y x=Z .cell
 nofree:∀ y∈sc.names,y.2≠.free
theorem yD{So:fI->j5 NameKind}{x:fI}:∀{binds:E (fI×eN)}{m:fI->j5 eN},(∀ v,(x,v)∉binds)->bindL So binds m x=m x
 |[],_,_=>rfl
 | (n,v)::r,m,h=>by
  unfold bindL;rw[yD λw T=>h w (M6 _ T)];split
  .let:x≠n:=by rintro rfl;exact h v M7
   simp[this]
  .rfl
theorem yF{So:fI->j5 NameKind}{x:fI}:∀{binds:E (fI×eN)}{m:fI->j5 eN},(∀ v,(x,v)∉binds)->bindC So binds m x=m x
 |[],_,_=>rfl
 | (n,v)::r,m,h=>by
  unfold bindC;rw[yF λw T=>h w (M6 _ T)];split
  .rfl
  .let:x≠n:=by rintro rfl;exact h v M7
   simp[this]
theorem yE{So:fI->j5 NameKind}{x:fI}{v:eN}:∀{P:E fI}{vs:E eN}{i:R}{m:fI->j5 eN},P.h->P[i]?=Z x->vs[i]?=Z v->So x=Z .local ->
  bindL So (P.zip vs) m x=Z v
 |[],_,_,_,_,h,_,_=>by contradiction
 |_::_,[],_,_,_,_,h,_=>by contradiction
 |p::P,w::vs,0,m,nd,eK,O,D=>by
  simp at eK O;subst eK;subst O;show bindL So ((p,w)::P.zip vs) m p=_;unfold bindL;rw[yD λv t=>(Nt.mp nd).1 (Qv t).1,Ti D];simp
 |p::P,w::vs,i+1,m,nd,eK,O,D=>by
  show bindL So ((p,w)::P.zip vs) m x=_;unfold bindL;exact yE (i:=i) (Nt.mp nd).2 (by simpa using eK) (by simpa using O) D
theorem yG{So:fI->j5 NameKind}{x:fI}{v:eN}:∀{P:E fI}{vs:E eN}{i:R}{m:fI->j5 eN},P.h->P[i]?=Z x->vs[i]?=Z v->So x≠Z .local ->
  bindC So (P.zip vs) m x=Z v
 |[],_,_,_,_,h,_,_=>by contradiction
 |_::_,[],_,_,_,_,h,_=>by contradiction
 |p::P,w::vs,0,m,nd,eK,O,D=>by
  simp at eK O;subst eK;subst O;show bindC So ((p,w)::P.zip vs) m p=_;unfold bindC;rw[yF λv t=>(Nt.mp nd).1 (Qv t).1,Tj D];simp
 |p::P,w::vs,i+1,m,nd,eK,O,D=>by
  show bindC So ((p,w)::P.zip vs) m x=_;unfold bindC;exact yG (i:=i) (Nt.mp nd).2 (by simpa using eK) (by simpa using O) D
def qA(N:E fI)(vs:E V):St:=vs.Z Z++MV (N.L-vs.L) lf
def cxOf(CX:CXT)(P:hx)(w:ix)(K:MJ)(mg:fI->j5 eN)(base:fo)(N:E fI)(a:fI)(scope:io)(f:fc)(M:eN)(A:Around)(outer:E ih)(s:ff)(H:Hp)(dO:XK):Cx where
 prog:=P
 w:=w
 K:=K
 mg:=mg
 base:=base
 A:=A.deeper (envOfC a scope s.H.M.J f M)
 N:=N
 s₀:=s
 H₀:=H
 env:=envOfC a scope s.H.M.J f M
 outer:=outer
 stack:=envOfC a scope s.H.M.J f M::outer
 ex:=[]
 calm:=kt
 fn:=λ_=>kt
 pn:=[]
 xe:=λe c=>wpAny (model P w) (A.deeper (envOfC a scope s.H.M.J f M)) (leaving (envOfC a scope s.H.M.J f M) e) (λ_ b=>CX outer H s dO e b) (λQ b=>CX outer H s dO Q b) c
def B5{a:io}(h:a.names.Y x=Z .cell):∃ c,(cellsFrom n a.names []).Y x=Z c:=by
 let q:=PySem.W.cellsFrom_some a.names n [] (.inl h);exact Qg.mp q
def Fu{CX:CXT}{N ps:E fI}{d:fI}{M:eN}{s s1:ff}{H:Hp}{dO:XK}{vs:E V}(S:az N ps scope)(hd:A.handled=lf)(o:Env0 P w K mg base A outer s H)(hl:vs.L=ps.L)(r:Vals vs us)(x:InCallC s s.H.M.J (bindL (envOfC d scope s.H.M.J f M).kindOf (ps.zip us) λ_=>lf) (cellsFrom (s.H.M.J+1) scope.names []) (bindC (envOfC d scope s.H.M.J f M).kindOf (ps.zip us) λ_=>lf) s1):
  Inv (cxOf CX P w K mg base N d scope f M A outer s H dO) [] (qA N vs) H s1:=by
 let g:ps.L<=N.L:=by let:=congrArg List.length S.pre;rw[NQ]at this;lia
 let eK m rfl D:=x.done;let t:∀ b:fc,b∉(cxOf CX P w K mg base N d scope f M A outer s H dO).ex:=λb z=>Tn (show b∈([]:E fc) from z) ∅
 erw[⟨o.mod,S.kind,U,U,MN _,λy z c eK O=>?_,λy j=>?_,λy c _ h=>?_,λ_=>hd,Around.frames_deeper o.frames,.inr ⟨U,U⟩,λb z=>Tn z (t b),o.bs,o.bsz,λb _ _=>t b,λb z=>Tn z (t b),o.funs,o.frf⟩,
  rfl,o.bare,Un.kept D,⟨_,x.toInCall.ns,λi y v eK O I=>?_⟩,λy c h=>⟨_,x.cell y c h⟩,o.hok.fresh (MN _),λy c h=>?_,λp G=>Tn (show p∈([]:E (fc×ii)) from G) ∅,o.hok.kept D,3]
 .exact name_of_addr x.apart (OT eK) (OT O)
 .let j:scope.names.Y y=Z .cell∨scope.names.Y y=Z .free:=j
  obtain j|j:=j
  .exact B5 j
  .exact Tn U (S.nofree _ (OT j))
 .exact M4 (x.above y c (OT h))
 .let J:i<vs.L:=by
   unfold qA at O;by_cases J:i<vs.L
   .exact J
   .rw[MR (by simpa using J)]at O
    rw[Ow]at O;simp!
  let l:vs[i]?=Z v:=by
   unfold qA at O;rw[MT (by simpa using J),MO]at O
   cases e:vs[i]? with
   |none=>simp!
   |some a=>rw[e]at O;simp!
  let u C rv:=r.get l;let G:ps[i]?=Z y:=by
   rw[← S.pre,List.getElem?_take_of_lt ∅];exact eK
  let B:ps.h:=by rw[← S.pre];exact S.nd.sublist (PK _ _)
  erw[u,rv,3];rcases S.par y (MH G)with k|k
  .exact .inl ⟨k,yE B G C k⟩
  .let c e:=B5 (n:=s.H.M.J+1) k;refine .inr ⟨.inl k,c,e,?_⟩;let q:=x.cell y c e;rw[yG B G C (by show scope.names.Y y≠_;rw[k];decide)]at q
   exact q
 .exact o.hok.fresh (M4 (x.above y c (OT h)))
 .unfold qA;show _=N.L;simp[*]
def IW{CX:CXT}{k:R}{name a:fI}{ac:Arguments}{eK:E hr}{dV kV C B L oc:eN}{an od:j5 fc}{ab:kf (j5 eN)}{N ps:E fI}{sp:Sp}(lk:K.Y f=some ⟨oc,od,.func (NV name a ac eK scope dV kV C B an L ct),ab⟩)(D:N7 K L a=kt)(S:az N ps scope)(len:∀ vs H Q dO,sp vs H Q dO->vs.L=ps.L)(G:∀(A:Around)(outer:E ih)(s:ff)(H:Hp)(vs:E V)(Q:VK)(dO:XK),Room k (A.deeper (envOfC a scope s.H.M.J f L))->sp vs H Q dO ->
   ∃ t,PSs (cxOf CX P w K mg base N a scope f L A outer s H dO) eK t/\t {nx:=λ_ H'=>Q .non H',rt:=Q} (qA N vs) H):
  FnOk P w K mg base CX (k+1) f (NV name a ac eK scope dV kV C B an L ct) ps sp:=by
 erw[len,λA outer s H am z vs Q dO g h M r aa=>?_];let p:=len _ _ _ _ aa;let KX:K.In s.H:=h.mod.kin.keeps λb o e=>(h.bs b o e).1;let al:s.H.NoLimit:=h.mod.nolimit.keeps λb o e=>(h.bs b o e).1;let ap:∀ y∈ps.zip z,scope.names.Y y.1=Z .local∨(scope.names.Y y.1=Z .cell/\((cellsFrom (s.H.M.J+1) scope.names []).Y y.1).isSome=kt):=λ⟨n,v⟩ j=>by
  obtain q|q:=S.par n (Qv j).1
  .exact .inl q
  .exact .inr ⟨q,PySem.W.cellsFrom_some _ _ _ (.inl q)⟩
 refine codeAny_call_function g.depth (KX _ _ lk) U S.co S.gen U (PySem.W.codeRec_of KX D) (M _ _ _ _ ?_);refine wpAny_newFunctionEnv_cells S.kind ap λah m s1 x=>?_;subst m;erw[al.keeps x.toInCall.keep,codeAny_func ?_];let t i c:=G A outer s H vs Q dO (g.deeper _) aa;let I:Inv (cxOf CX P w K mg base N a scope f L A outer s H dO) [] (qA N vs) H s1:=Fu S g.hd h p r x;refine RW (i [] s1 (qA N vs) H _ I c) (λfl l T=>?_) λe l T=>T;let d:∀{O:St}{H':Hp}{v:V}{u:eN},Inv (cxOf CX P w K mg base N a scope f L A outer s H dO) [] O H' l->RelV v u->Q v H'->CE outer P w H s Q u l:=
  λ{O H' v u} J rv q=>⟨v,H',J.os,J.bare,J.base,J.hok,rv,q⟩
 cases fl with
 |ret u=>
  let v O H' J rv q:=T;exact d J rv q
 |next=>
  let O H' J q:=T;exact d (v:=V.non) (u:=eN.none) J U q
 |brk=>
  let _ _ _ q:=T;exact False.elim q
 |cont=>
  let _ _ _ q:=T;exact False.elim q
section
variable{X:Cx}{x:fI}{p pos:Pos}{e:hb}{es:E hb}{t:TA}{id T:String}{r:E V->Hp->VK->Prop}
def tCB(r:E V->Hp->VK->Prop)(t:TA):TE:=λL H Q=>t L H λm j=>r m j Q
def aE(J:iF X (.builtin id) r)(a:Gl X x)(y:X.mg x=lf)(G:RS x=Z (.builtin id))(O:PA X (e::es) t)(T:uP_ (x≠"__name__") uD_)(l:uP_ ((x == ("__debug__" : fI))=k9) uD_)(N:uP_ (RV (e::es) X.j=(k9,eval e X.j)::RV es X.j) uR_)(d:uP_ ((backTo pos (RV es X.j)).any (·.1)=k9) uR_):PE X (.Call (.Name x p) (e::es) [] pos) (tCB r t):=by
 intro B s L H Q I h;refine Sn (iB I a y G ?_ T l);exact PyProof.Rows.callWith_builtin1 (thn (O pos B s L H _ I h) λo C ⟨m,j,i,M,dO⟩=>J B C L j m o Q i M dO) N d
def eE(J:iF X (.type T) r)(a:Gl X x)(y:X.mg x=lf)(G:RS x=Z (.type T))(O:PA X (e::es) t)(eK:uP_ (x≠"__name__") uD_)(l:uP_ ((x == ("__debug__" : fI))=k9) uD_)(N:uP_ (RV (e::es) X.j=(k9,eval e X.j)::RV es X.j) uR_)(d:uP_ ((backTo pos (RV es X.j)).any (·.1)=k9) uR_):PE X (.Call (.Name x p) (e::es) [] pos) (tCB r t):=by
 intro B s L H Q I h;refine Sn (iB I a y G ?_ eK l);exact Sa (thn (O pos B s L H _ I h) λo C ⟨m,j,i,M,dO⟩=>J B C L j m o Q i M dO) N d
end
end L2
variable{X:L2.Cx}{D:L2.Ends}{H H' H1 H2:L2.Hp}{sp:L2.Sp}{O:L2.St}{eK:L2.TE}{tb:L2.TS}{v y:L2.V}{kvs:E (L2.Key×L2.V)}{ws xs ys zs:E L2.V}{QQ:E L2.V->L2.Hp->Prop}
namespace HT
open PySem PyProof.Rows
section
open PySem.SeqAt
open PySem.AutoSeq1 (wpAny_loadPart')
open PySem.MeetsSeq PySem.MeetsSeq2 PySem.MeetsSeq3
end
section
variable{prog:hx}{w:ix}{A:Around}{dO:eN->ff->Prop}{s:ff}
def sIx(n d:R):j5 Y->R
 |none=>d
 |some v=>if v<0 then(v+(n:Y)).R else min v.R n
theorem sIx_none(n d:R):sIx n d lf=d:=rfl
def sIx_nat(n d k:R):sIx n d (Z (k:Y))=min k n:=by
 rfl
end
end HT
namespace L2
open PySem PySem.Spec PyProof.Rows
abbrev TO:=St->Hp->(j5 Y->Hp->Prop)->Prop
def PO(X:Cx)(e:j5 hb)(t:TO):Prop:=
 ∀(B:E (fc×ii))(s:ff)(L:St)(H:Hp)(Q:j5 Y->Hp->Prop),nw H s->t L H Q ->
  mj X.A (evalPart e X.j) (λu c=>∃ o l,nw l c/\IsPart u o/\Q o l) X.xe s
def K4:TO:=λ_ H Q=>Q lf H
def tPart(t:TE):TO:=λL H Q=>t L H λx j=>∃ i,x=.int i/\Q (Z i) j
section
variable{X:Cx}{e:hb}{te:TE}{lo hi:j5 hb}{tl th:TO}{pos p2:Pos}
def zE:PO X lf K4:=by
 intro B s L H Q I h;rw[evalPart_none];exact R7 ⟨lf,H,I,.none,h⟩
def zD(h:PE X e te):PO X (Z e) (tPart te):=by
 intro B s L H Q I T;rw[evalPart_some];refine thn (h B s L H _ I T) λu C a=>?_;let x j eK J dO:=a;let i rfl q:=dO;let t rfl:=J;erw[Z i,j,eK,.int i t,q]
def SlR(X:Cx)(r:V->j5 Y->j5 Y->Hp->VK->Prop):Prop:=
 ∀(B:E (fc×ii))(s:ff)(L:St)(H:Hp)(x:V)(v G k:eN)(lo hi:j5 Y)(h:fc)(Q:VK),nw H s->RelV x v->s.H.IsSliceOf h G k .none->IsPart G lo->IsPart k hi->r x lo hi H Q ->
  ∃ T id,typeLookup (.type T) "__getitem__"=pure (Z (.builtin id))/\s.TypeIs v T/\mj X.A (getItem v (.ref h)) (EP X B L Q) X.xe s
def tSl(r:V->j5 Y->j5 Y->Hp->VK->Prop)(te:TE)(tl th:TO):TE:=λL H Q=>te L H λx j=>tl L j λl d=>th L d λu q=>r x l u q Q
def uJ{r:V->j5 Y->j5 Y->Hp->VK->Prop}(g:SlR X r)(N:PE X e te)(hl:PO X lo tl)(f:PO X hi th):PE X (.Subscript e (.Slice lo hi lf p2) pos) (tSl r te tl th):=by
 intro B s L H Q I h;refine Subscript_ (thn (N B s L H _ I h) λv C ⟨x,j,eK,J,dO⟩=>?_);refine wpAny_Slice (thn (hl B C L j _ eK dO) λG t ⟨l,d,p,y,o⟩=>thn (f B t L d _ p o) λvu k ⟨u,n,m,D,z⟩=>?_);rw[evalPart_none];refine R7 ?_;let O:nw n {k,k.H.e {cls:=.type "slice",data:=.fields #[G,vu,.none]}}:=m.kept (t':=k.u) λb M q=>R8 _ q;let T id c i a:=g B {k,k.H.e {cls:=.type "slice",data:=.fields #[G,vu,.none]}} L n x v G vu l u k.H.M.J Q O J (fo.IsSliceOf.new ..) y D z;show mj X.A (subscriptTail e (.Slice lo hi lf p2) v (.ref k.H.M.J)) (EP X B L Q) X.xe {k,k.H.e {cls:=.type "slice",data:=.fields #[G,vu,.none]}};exact tail_any (ops:=[.ref k.H.M.J,v]) i c a (by with_unfolding_all rfl)
def cutV(xs:E V)(lo hi:j5 Y):E V:=(xs.drop (HT.sIx xs.L 0 lo)).x (HT.sIx xs.L xs.L hi-HT.sIx xs.L 0 lo)
def AY(xs:E V)(lo hi:j5 Y):(cutV xs lo hi).L<=xs.L:=by
 unfold cutV;rw[NQ,PU];lia
end
def ixN(n:R)(i:Y):j5 R:=if 0<=i then(if i<n then Z i.R else lf) else if -(n:Y)<=i then Z (i+n).R else lf
def atI{α:Type}(xs:E α)(i:Y):j5 α:=(ixN xs.L i).bind λj=>xs[j]?
def Ac{i:Y}(h:ixN n i=Z j):seqIndex? i n=Z j/\j<n/\-(n:Y)<=i/\i<n:=by
 unfold ixN at h;by_cases A:0<=i
 .rw[Ti A]at h;by_cases eK:i<n
  .rw[Ti eK]at h;let e:i.R=j:=Ny h;erw[by rw[seqIndex_of A eK,e],20,eK]
  .simp!
 .rw[Tj A]at h;by_cases eK : -(n:Y)<=i
  .rw[Ti eK]at h;let e:(i+n).R=j:=Ny h;erw[by rw[seqIndex_neg ∅ eK,e],4,eK,4]
  .simp!
def GO{xs:E α}{i:Y}{v:α}(h:atI xs i=Z v):∃ j,seqIndex? i xs.L=Z j/\xs[j]?=Z v/\j<xs.L/\-(xs.L:Y)<=i/\i<xs.L:=by
 unfold atI at h
 cases e:ixN xs.L i with
 |none=>rw[e]at h;cases h
 |some j=>
  rw[e]at h;let eK O G dO:=Ac e;erw[j,eK,h,O,G,dO]
def aF{xs:E α}{v:α}(h:xs[j]?=Z v):atI xs (j:Y)=Z v:=by
 let L:j<xs.L:=(MF.mp h).1;let e:ixN xs.L (j:Y)=Z j:=by
  unfold ixN;rw[Ti ∅,Ti ∅];simp
 unfold atI;rw[e];exact h
def rT(b:hb):Prop:=∀ o i,subscripted b k9 o i=operate [o,i] (getItem o i)
def IxR(X:Cx)(r:R2):Prop:=
 ∀(m b:hb)(B:E (fc×ii))(s:ff)(L:St)(H:Hp)(x y:V)(v u:eN)(Q:VK),nw H s->RelV x v->RelV y u->r x y H Q ->
  subscripted b k9 v u=operate [v,u] (getItem v u)->mj X.A (subscriptTail m b v u) (EP X B L Q) X.xe s
def MtR(X:Cx)(id:String)(r:V->E V->Hp->VK->Prop):Prop:=
 ∀(B:E (fc×ii))(s:ff)(L:St)(H:Hp)(x:V)(D:E V)(v:eN)(o:E eN)(Q:VK),nw H s->RelV x v->Vals D o->r x D H Q ->
  mj X.A (call (.builtin id) (v::o)) (EP X B L Q) X.xe s
section
variable{X:Cx}{a b:hb}{ta tb:TE}{pos:Pos}
def xj{r:R2}(g:IxR X r)(O:PE X a ta)(M:PE X b tb)(T:rT b):PE X (.Subscript a b pos) (tOp r ta tb):=by
 intro B s L H Q I h;exact Subscript_ (binT O M I h λv u t x y d p G c q=>g a b B t L d x y v u Q p G c q (T _ _))
inductive rIxL(K:MJ)(x:L2.V)(y:L2.V)(H:L2.Hp)(Q:L2.VK):Prop
 |mk (p xs i v:_) (_:x=.ref p)(_:y=.int i)(_:pi p xs)(_:atI xs i=Z v)(_:Q v H)
inductive rIxT(K:MJ)(x:L2.V)(y:L2.V)(H:L2.Hp)(Q:L2.VK):Prop
 |mk (p xs i v:_) (_:x=.ref p)(_:y=.int i)(_:SqT K H p xs)(_:atI xs i=Z v)(_:Q v H)
def oG:IxR X (rIxL X.K):=by
 intro m b B s L H x y v u Q I f J h T;let p D i z rfl rfl n N q:=h
 cases f
 let t rfl:=J;let d r C g:=I.list n;let j eK O G dO e:=GO N;let w ew l:=r.get O;let M:=r.L;let a:=tH;let k:EP X B L Q w s:=⟨z,H,I,l,q⟩;by_cases A:0<=i
 .let c:i.R=j:=by
   rw[seqIndex_of A e]at eK;exact Ny eK
  exact item_listR C.isList A ∅ (by simp[*]) k T
 .let c:(i+(d.toArray.J:Y)).R=j:=by
   rw[seqIndex_neg ∅ dO]at eK
   rw[NL,← M];exact Ny eK
  exact subscriptTail_builtinR (x:=w) C.isList.typeIs slot_list_getitem.Y
   (wpAny_getItem_list_neg (Q:=λr o=>r=w/\EP X B L Q r o) C.isList ∅ (by simp!) ∅ (by rw[c];simpa using ew) ⟨U,k⟩) T
def Ki:IxR X (rIxT X.K):=by
 intro m b B s L H x y v u Q I f c h T;let p D i z rfl rfl n N q:=h
 cases f
 let t rfl:=c;let d r C g:=I.tuple n;let j eK O G dO e:=GO N;let w l J:=r.get O;let M:=r.L;let a:=tH;let k:EP X B L Q w s:=⟨z,H,I,J,q⟩;exact subscriptTail_builtinR (x:=w) C.typeIs slot_tuple_getitem.Y
  (getItem_tuple (j:=j) (Q:=λr o=>r=w/\EP X B L Q r o) C ∅ ∅ (by simp!) (by simpa using l) ⟨U,k⟩) T
def Cr(its:E eN)(n j:R)(u:eN):Sr (·.setIfInBounds j u) {cls:=.type "list",data:=.seq its.toArray n}={cls:=.type "list",data:=.seq (its.set j u).toArray n}:=by
 simp[Sr]
def Inv.lst{B:E (fc×ii)}{L:St}{H:Hp}{s:ff}{p:fc}{xs:E V}(I:Inv X B L H s)(h:H p=Z (.lst xs)):
  ∃(its:E eN)(n:R),Vals xs its/\s.H.Q p=Z {cls:=.type "list",data:=.seq its.toArray n}/\xs.L<=RO:=by
 let z its n r e:=I.hok p _ h;erw[its,n,r,e,z]
def Inv.lstUpd{B:E (fc×ii)}{s:ff}{its':E eN}{f:ii->ii}(I:Inv X B O H s)(h:H p=Z (.lst xs))(D:s.H.Q p=Z {cls:=.type "list",data:=.seq its.toArray n})(A:f {cls:=.type "list",data:=.seq its.toArray n}={cls:=.type "list",data:=.seq its'.toArray N})(r:Vals ys its')(hz:ys.L<=RO)(t:R):
  Inv X B O (upd H p (.lst ys)) {s with heap:=s.H.update p f,toks:=t}:=by
 let e:(s.H.update p f).Q p=Z {cls:=.type "list",data:=.seq its'.toArray N}:=by
  rw[Ss f D (by rw[A]<;>rfl),A]
 refine I.write (x:=p) (e:=p) (by rw[h];trivial) (.inl U) (λb u M q=>(Su _ _ (Ne.X M)).P q) ⟨_,e⟩ ?_
 erw[hz,its',N,r,e]
inductive rSetL(o:L2.V)(i:L2.V)(v:L2.V)(H:L2.Hp)(Q:(Hp->Prop)):Prop
 |mk (p xs k j:_) (_:o=.ref p)(_:i=.int k)(_:H p=Z (.lst xs))(_:ixN xs.L k=Z j)(_:Q (upd H p (.lst (xs.set j v))))
def e9:PSet X rSetL:=by
 intro B s L H o i v z e u Q I w b rv h;let p C k j rfl rfl G c q:=h
 cases w
 let t rfl:=b;let d n r g f:=I.lst G;let eK O a dO:=Ac c;let M:=r.L;let T:=tH;let l:nw (upd H p (.lst (C.set j v))) {s,s.H.update p (Sr (·.setIfInBounds j u))}:=
  I.lstUpd G g (Cr d n j u) (r.set rv j) (by rw[N5];exact f) s.u
 by_cases A:0<=k
 .let D:k.R=j:=by
   rw[seqIndex_of A dO]at eK;exact Ny eK
  exact PySem.W.ki_setAt g A ∅ (by simp!) (by rw[D];erw[_,l,q])
 .let D:(k+(d.toArray.J:Y)).R=j:=by
   rw[seqIndex_neg ∅ a]at eK
   rw[NL,← M];exact Ny eK
  exact PySem.W.ki_setBack g ∅ (by simp!) ∅ (by rw[D];erw[_,l,q])
def wR(lo hi:j5 Y)(n:R):(sliceBounds lo hi lf n).1=((HT.sIx n 0 lo:R):Y)/\(sliceBounds lo hi lf n).2.1=((HT.sIx n n hi:R):Y)/\(sliceBounds lo hi lf n).2.2=1:=by
 erw[47]
 .cases lo with
  |none=>simp[sliceBounds,HT.sIx]
  |some i=>
   simp only[sliceBounds,HT.sIx,j5.getD_none,show(1:Y) > 0 by decide,if_true]
   by_cases h:i<0
   .simp only[h,if_true]<;>lia
   .grind
 .cases hi with
  |none=>simp[sliceBounds,HT.sIx]
  |some i=>
   simp only[sliceBounds,HT.sIx,j5.getD_none,show(1:Y) > 0 by decide,if_true]
   by_cases h:i<0
   .simp only[h,if_true]<;>lia
   .simp only[h,if_false]<;>lia
def uh(its:E eN)(lo hi:j5 Y):slicePick its.toArray lo hi lf=((its.drop (HT.sIx its.L 0 lo)).x (HT.sIx its.L its.L hi-HT.sIx its.L 0 lo)).toArray:=by
 let eK O G:=wR lo hi its.toArray.J;unfold slicePick;rw[eK,O,G];simp only[sliceRange_one,pick_run,NL]<;>rfl
inductive rSlL(K:MJ)(x:L2.V)(lo:j5 Y)(hi:j5 Y)(H:L2.Hp)(Q:L2.VK):Prop
 |mk (a xs:_) (_:x=.ref a)(_:pi a xs)(_:∀ p,H p=lf->Q (.ref p) (upd H p (.lst (cutV xs lo hi))))
def yY:SlR X (rSlL X.K):=by
 intro B s L H x v e k lo J c Q I f T y i h;let a D rfl G q:=h
 cases f
 let d r g j:=I.list G;let t:=r.L;erw["list",_,slot_list_getitem.Y,g.isList.typeIs,3];refine wpAny_getItem_list_slice g.isList T y i .none ∅ ?_ (by simp!)
 rw[uh,← t];erw[.ref s.H.M.J,_,I.laid (t':=s.u) (o:=.lst (cutV D lo J)) (λb M q=>R8 _ q) (MN _) ?_,U,q _ (I.hok.fresh (MN _))];erw[NH (AY D lo J) j,_,00,(r.drop (HT.sIx D.L 0 lo)).x (HT.sIx D.L D.L J-HT.sIx D.L 0 lo),R9 _ U]
def aB:iF X (.builtin "len") (λxs H Q=>∃ p ys,xs=[.ref p]/\(SqL X.K H p ys∨SqT X.K H p ys)/\Q (.int ys.L) H):=by
 intro B s L H xs o Q I r h;let p ys rfl n q:=h;let u rfl G:=lu r
 cases G
 let T:=tH;obtain n|n:=n
 .let d m y f:=I.list n;let t:=m.L;exact Calls.call_len_list y.isList (by simp only[NL]<;>lia) ⟨.int ys.L,H,I.tok _,⟨s.u+1,by rw[NL,t]⟩,q⟩
 .let d m y f:=I.tuple n;let t:=m.L;exact len_tuple y (by simp only[NL]<;>lia) ⟨.int ys.L,H,I.tok _,⟨s.u+1,by rw[NL,t]⟩,q⟩
def kc:iF X (.type "list") (λxs H Q=>∃ p ys,xs=[.ref p]/\(SqL X.K H p ys∨SqT X.K H p ys)/\∀ l,H l=lf->Q (.ref l) (upd H l (.lst ys))):=by
 intro B s L H xs z Q I r h;let p ys rfl g q:=h;let u rfl G:=lu r
 cases G
 let k:∀(d:E eN),Vals ys d->ys.L<=RO->∀(O:fo)(v:R),(∀ b C,s.H.Q b=Z C->O.Q b=Z C) ->
   O.Q s.H.M.J=Z {cls:=.type "list",dict:=lf,data:=.seq d.toArray v,slots:=#[]}->EP X B L Q (.ref s.H.M.J) {s,O}:=λd m f O v i e =>
  ⟨.ref s.H.M.J,_,I.laid (t':=s.u) i (MN _) (show bC X.i X.w _ O _ (.lst ys) from⟨f,d,v,m,e⟩),U,q _ (I.hok.fresh (MN _))⟩
 obtain g|g:=g
 .let d m y f:=I.list g;let t:=m.L;let o D J n hd:=y.isList;exact call_list_seq p (.inl U) D J hd (λO v i e=>k d m f O v i e) (by simp!)
 .let d m y f:=I.tuple g;let t:=m.L;let o D J n hd:=y;exact call_list_seq p (.inr U) D J hd (λO v i e=>k d m f O v i e) (by simp!)
def tyV(K:MJ)(T:String)(x:V)(H:Hp):Prop:=match x with
 |.str _=>T = "str"
 |.int _=>T = "int"
 |.ref p=>(T = "list"/\∃ D,pi p D)∨(T = "tuple"/\∃ o,K.Y p=Z o/\o.cls=.type "tuple"/\o.dict=lf) ∨
   (T = "dict"/\((∃ G,H p=Z (.dK G))∨∃ G,H p=Z (.dT G)))∨(T = "set"/\∃ S n,H p=Z (.set S n))
 |_=>False
def JA{B:E (fc×ii)}{s:ff}{T:String}{x:V}{v:eN}(I:Inv X B O H s)(r:RelV x v)(ty:tyV X.K T x H):
  s.TypeIs v T/\∀ a,v=.ref a->∃ ob,s.H.Q a=Z ob/\ob.dict=lf:=by
 cases x with
 |str z=>
  let t rfl:=r
  cases (show T = "str" from ty)
  erw[typeIs_str s z t,λ_ e=>nomatch e]
 |int i=>
  let t rfl:=r
  cases (show T = "int" from ty)
  erw[typeIs_int s i t,λ_ e=>nomatch e]
 |ref p=>
  cases r
  rcases ty with⟨rfl,C,g⟩|⟨rfl,o,D,J,hd⟩|⟨rfl,D⟩|⟨rfl,S,n,D⟩
  .let d _ y _:=I.list g;erw[y.isList.typeIs,λa e=>?_]
   cases e
   let o n e c hd _:=y;erw[o,e,hd]
  .erw[⟨o,I.kIn p o D,J⟩,λa e=>?_]
   cases e
   erw[o,I.kIn _ o D,hd]
  .let z:∃ o,s.H.Q p=Z o/\o.ExactDict:=by
    rcases D with⟨G,D⟩|⟨G,D⟩
    .let _ _ _ _ o _ _ e M _:=I.hok p _ D;erw[o,e,M]
    .let _ _ _ _ o _ _ e M _:=I.hok p _ D;erw[o,e,M]
   let o e M:=z;erw[⟨o,e,M.1⟩,λa A=>?_]
   cases A
   erw[o,e,M.2.1]
  .let o _ _ _ e M _:=I.hok p _ D;erw[⟨o,e,M.1⟩,λa A=>?_]
   cases A
   erw[o,e,M.2.1]
 |_=>exact False.elim ty
def tBM0(K:MJ)(T:String)(r:V->E V->Hp->VK->Prop)(a:TE):TE:=λL H Q=>a L H λx j=>tyV K T x j/\r x [] j Q
def tBM(K:MJ)(T:String)(r:V->E V->Hp->VK->Prop)(a:TE)(t:TA):TE:=λL H Q=>a L H λx j=>tyV K T x j/\t L j λD d=>r x D d Q
variable{o e:hb}{es:E hb}{to:TE}{t:TA}{name:fI}{apos cpos:Pos}{T id:String}{r:V->E V->Hp->VK->Prop}
def EE(A:PlainAttrs T)(slot:Slot T name id)(f:typeOf (.builtin id)=pure (.type "method_descriptor"))(y:MtR X id r)(D:PE X o to)(c:uP_ (attributeBase o name X.j (eval o X.j)=eval o X.j) uR_)(w:uP_ ((apos.endLine == cpos.line)=kt) uR_):PE X (.Call (.Attribute o name apos) [] [] cpos) (tBM0 X.K T r to):=by
 intro B s L H Q I h;refine wpAny_Call_method0_late c w (thn (D B s L H _ I h) λv C ⟨x,j,i,J,ty,dO⟩=>?_);let eK O:=JA i J ty;erw[T,id,A,slot,f,eK,O,Sv U (PySem.evalArgs_none (y B C L j x [] v [] Q i J .nil dO))]
def eF(A:PlainAttrs T)(slot:Slot T name id)(f:typeOf (.builtin id)=pure (.type "method_descriptor"))(y:MtR X id r)(D:PE X o to)(l:PA X (e::es) t)(c:uP_ (attributeBase o name X.j (eval o X.j)=eval o X.j) uR_)(g:uP_ (((backTo cpos (RV (e::es) X.j)).all (λx=>!x.1)&&(backToKw cpos (keywordEach [] X.j)).all (λx=>x.1.isSome)
   && decide ((e::es).L+([]:E Keyword).L+(if([]:E Keyword).isEmpty then 0 else 1)<30))=kt) uR_)(w:uP_ ((apos.endLine == cpos.line)=kt) uR_)(k:uP_ (RV (e::es) X.j=(k9,eval e X.j)::RV es X.j) uR_)(q:uP_ ((backTo cpos (RV es X.j)).any (·.1)=k9) uR_):
  PE X (.Call (.Attribute o name apos) (e::es) [] cpos) (tBM X.K T r to t):=by
 intro B s L H Q I h;refine wpAny_Call_method_late c g w U (thn (D B s L H _ I h) λv C ⟨x,j,i,J,ty,dO⟩=>?_);let eK O:=JA i J ty;erw[T,id,A,slot,f,eK,O,3];let a:=l cpos B C L j _ i dO;rw[k]at a ⊢;refine Sv (by assumption) (Calls.evalArgs_plain ?_)
 exact thn a λz b ⟨m,d,p,N,n⟩=>y B b L d x m v z Q p J N n
end
def MtM(X:Cx)(id:String)(r:V->E V->Hp->VK->Prop):Prop:=
 ∀(B:E (fc×ii))(s:ff)(L:St)(H:Hp)(x:V)(D:E V)(v:eN)(o:E eN)(Q:VK),nw H s->RelV x v->Vals D o->r x D H Q ->
  mj X.A (call (.builtin id) (v::o)) (EP X B L Q) X.xe s
theorem Vals.one:∀{x:V}{us:E eN},Vals [x] us->∃ u,us=[u]/\RelV x u:=by
 intro x us h;cases h with
 |cons r t=>cases t;exact⟨_,U,r⟩
def Vals.unc{x:V}(h:Vals (x::xs) us):∃ u w,us=u::w/\RelV x u/\Vals xs w:=by
 cases h with
 |cons r t=>exact⟨_,_,U,r,t⟩
def Vals.two{x:V}(h:Vals [x,y] us):∃ u v,us=[u,v]/\RelV x u/\RelV y v:=by
 let u w rfl r c:=Vals.unc h;let v z rfl q d:=Vals.unc c;cases d;erw[37,r,q]
theorem Vals.zero:∀{us:E eN},Vals [] us->us=[]
 |_,.nil=>rfl
def Vals.dropLast(h:Vals xs us):Vals xs.dropLast us.dropLast:=by
 induction h with
 |nil=>exact .nil
 |cons r t C=>
  cases t with
  |nil=>exact .nil
  |cons q d=>exact .cons r C
theorem Vals.eraseIdx:∀{xs:E V}{us:E eN}(i:R),Vals xs us->Vals (xs.eraseIdx i) (us.eraseIdx i):=by
 intro xs us i h;induction h generalizing i with
 |nil=>exact .nil
 |cons r t ih=>
  cases i with
  |zero=>exact t
  |succ i=>exact .cons r (ih i)
def Vals.reverse(h:Vals xs us):Vals xs.y us.y:=by
 induction h with
 |nil=>exact .nil
 |cons r t C=>rw[List.reverse_cons,List.reverse_cons];exact Vals.append C (.cons r .nil)
theorem xD{α:Type}:∀(l:E α)(i:R),(l.eraseIdx i).L<=l.L
 |[],_=>MN _
 |_::_,0=>OH _
 |_::r,i+1=>QW (xD r i)
section
variable{X:Cx}{pins:E (fc×ii)}{σ:St}{H:Hp}{s:ff}{l b:fc}{xs ys zs:E V}
def Inv.lset{its':E eN}{f:kf eN->kf eN}(I:Inv X pins σ H s)(dO:H l=Z (.lst xs))(e:s.H.Q l=Z {cls:=.type "list",data:=.seq its.toArray n})(A:f its.toArray=its'.toArray)(t:Vals ys its')(hz:ys.L<=RO):
  mu σ (upd H l (.lst ys)) {s with heap:=s.H.update l (Sr f),toks:=t'}:=by
 let q:=PySem.IsL.update e f;rw[A]at q;refine I.write (x:=l) (e:=l) (by rw[dO];exact trivial) (.inl U) (λh u M C=>(Su s.H (Sr f) (Ne.X M)).P C) ⟨_,q⟩ ?_
 erw[hz,its',_,t,q]
def Inv.lstM(I:Inv X pins σ H s)(dO:H l=Z (.lst xs)):xs.L<=RO/\∃(its:E eN)(n:R),Vals xs its/\xs.L=its.L/\s.H.Q l=Z {cls:=.type "list",data:=.seq its.toArray n}:=by
 let z its n r e:=I.hok l _ dO;erw[z,its,n,r,r.L,e]
def Ip(h:n<=RO):j0.List.listTooLong n=k9:=by
 unfold j0.List.listTooLong;lia
end
inductive Ll(x:L2.V)(vs:E V)(H:L2.Hp)(Q:L2.VK):Prop
 |mk (l xs y:_) (_:x=.ref l)(_:vs=[y])(_:H l=Z (.lst xs))(_:xs.L<RO)(_:Q .non (upd H l (.lst (xs++[y]))))
def aX:MtM X "list.append" Ll:=by
 intro B s L H x m v o Q I G rv h;let l D y rfl rfl dO f q:=h
 cases G
 let u rfl A:=rv.one;let z d n r M e:=I.lstM dO;refine call_meets F.slot_list_append ⟨_,e,U⟩ F.entry_list_append (F.args_list_append_2 _ _) (PySem.list_append l d.toArray n u (by simp!)) ⟨e,?_⟩
 erw[.non,_,I.lset (its':=d++[u]) dO e ∅ (r.append (.cons A .nil)) ?_,U,q]
 grind
inductive Li(x:L2.V)(vs:E V)(H:L2.Hp)(Q:L2.VK):Prop
 |mk (l b xs zs:_) (_:x=.ref l)(_:vs=[.ref b])(_:H l=Z (.lst xs))(_:H b=Z (.lst zs))(_:xs.L+zs.L<=RO)(_:Q .non (upd H l (.lst (xs++zs))))
def xC:MtM X "list.extend" Li:=by
 intro B s L H x m v o Q I G rv h;let l b D T rfl rfl dO c f q:=h
 cases G
 let u rfl k:=rv.one
 cases k
 let z its n r M e:=I.lstM dO;let p a g N O A:=I.lstM c;let d:its.toArray.J+a.toArray.J<=RO:=by simp!
 let i:¬ (!its.toArray.isEmpty&&j0.List.listTooLong (its.toArray.J+a.toArray.J))=kt:=by
  rw[Ip d,Oi];exact Nr
 refine call_meets F.slot_list_extend ⟨_,e,U⟩ F.entry_list_extend (F.args_list_extend_2 _ _)
  (AutoSeq1.list_extend_list_list_0 l its.toArray n b a.toArray g i (by rw[NL];lia) ∅) ⟨e,A,?_⟩
 erw[.non,_,I.lset (its':=its++a) dO e ∅ (r.append N) ?_,U,q]
 rw[MP];lia
inductive rPop(x:L2.V)(vs:E V)(H:L2.Hp)(Q:L2.VK):Prop
 |mk (l xs y:_) (_:x=.ref l)(_:vs=[])(_:H l=Z (.lst xs))(_:xs[xs.L-1]?=Z y)(_:Q y (upd H l (.lst xs.dropLast)))
def mt_pop:MtM X "list.pop" rPop:=by
 intro B s L H x m v o Q I G rv h;let l D y rfl rfl dO j q:=h
 cases G
 let a:=rv.zero;subst a;let z d n r M e:=I.lstM dO;let u f A:=r.get j;let b:d.toArray[d.toArray.J-1]?=Z u:=by
  show d.toArray[d.L-1]?=Z u;rw[← NZ,← M];exact f
 refine call_meets F.slot_list_pop ⟨_,e,U⟩ F.entry_list_pop (F.args_list_pop_1 _) (MeetsSeq.list_pop_last l d.toArray n u b (by rw[NL];lia)) ⟨e,?_⟩
 erw[y,_,I.lset (its':=d.dropLast) dO e ?_ r.dropLast ?_,A,q]
 .show d.toArray.eraseIdxIfInBounds (d.toArray.J-1)=d.dropLast.toArray;simp
 .rw[List.length_dropLast];lia
inductive rPopAt(x:L2.V)(vs:E V)(H:L2.Hp)(Q:L2.VK):Prop
 |mk (l xs i k y:_) (_:x=.ref l)(_:vs=[.int i])(_:H l=Z (.lst xs))(_:-(2^63)<=i)(_:i<2^63)(_:seqIndex? i xs.L=Z k)(_:xs[k]?=Z y)(_:Q y (upd H l (.lst (xs.eraseIdx k))))
def Iu:MtM X "list.pop" rPopAt:=by
 intro B s L H x m v o Q I G rv h;let l C i k y rfl rfl dO eK O D j q:=h
 cases G
 let u rfl A:=rv.one;let t rfl:=A;let z d n r M e:=I.lstM dO;let w T J:=r.get j;refine call_meets F.slot_list_pop ⟨_,e,U⟩ F.entry_list_pop (F.args_list_pop_2 _ _)
  (MeetsSeq.list_pop_at l d.toArray n i t k w (fitsIndex_both eK O) (by simp!) (by simp[*]) (by simp!)) ⟨e,?_⟩
 erw[y,_,I.lset (its':=d.eraseIdx k) dO e ?_ (r.eraseIdx k) ?_,J,q]
 .simp
 .let:=xD C k
  lia
section
variable{prog:hx}{w:ix}{A:Around}{dO:eN->ff->Prop}{s:ff}
end
end L2
namespace Att
open PySem PySem.W PySem.Calls PyProof.Rows
def qW{P:Params}:∀(ns:E Y)(vs:E eN),WellAll P h vs (ns.Z WData.int)->Sw vs ns:=by
 intro ns;induction ns with
 |nil=>
  intro vs w;rw[Qw]at w
  cases w
  exact .nil
 |cons n ns C=>
  intro vs w;rw[NF]at w
  cases w with
  |cons a b=>
   cases a
   exact .cons _ _ (C _ b)
def Ee{l:OpenLaw}(T:l.most=Z n){P:Params}{args:E WData}{c:E eN}(j:l.row.toRowW.claim.pre args=kt)(x:WellAll P h c args):
  ∃ a vs ns,c=[eN.ref a]/\args=[WData.list (ns.Z WData.int)]/\h.Q a=Z {cls:=.type "list",data:=.seq vs.toArray}/\Sw vs ns/\ns.L<=n:=by
 let b:WShape.hasAll [] args [.list .int]=kt:=(pre_splitW j).1;let J:l.pre.holds [] {args:=args}=kt:=(pre_splitW j).2;let d r rfl eK O:=hasAllW_cons b;obtain rfl:=hasAllW_nil O;let D rfl G:=hasW_list eK;let ns rfl:=items_int G;let t:ns.L<=n:=by
  unfold OpenLaw.pre at J;let dO:(WTm.not (.lt (.lit (.int (n:Y))) (.len (.arg 0)))).holds [] {args:=[.list (ns.Z .int)]}=kt:=by
   let dO:=(holds_andW J).1;rw[T]at dO;exact dO
  let s:=condW_of dO (w_not (w_lt w_lit (w_len_list (w_arg U))));rw[MI]at s;refine Qo λq=>?_;let i:(n:Y)<((ns.L:R):Y):=by lia
  first
   | (simp!)
   | (simp at s;lia)
 cases x with
 |cons p M=>
  cases M
  cases p with
  |list g v=>exact⟨_,_,ns,U,U,g,qW ns _ v,t⟩
theorem Et(l:OpenLaw)(args:E WData):l.row.toRowW.claim.post args (.bool kt) args=kt:=
 postW_of (r:=l.row.toRowW) (X:=(kt == kt))
  (show WShape.has [] (.bool kt) .bool=kt by rfl)
  (show(WTm.eq .res (.lit (.bool kt))).value [] {args:=args,res:=Z (.bool kt),after:=args}=Z (.bool (kt == kt)) from w_eq_bool (w_res U) w_lit) U
def attach_call{l:OpenLaw}{q:hx}{L:E fI}{p:(fI->j5 eN)->fo->Prop}{m:ix->fo->Prop}{d:DefRec}(T:l.most=some n)(i:d.params.defaults=[])(call:∀(w:ix)(s₀ s₁:ff)(mg k:fI->j5 eN)(A:fc)(o:ii)(B M C:eN)(a:fc)(vs:E eN)(ns:E Y),
   Ground q L [] p w s₀ mg k s₁.H->m w s₁.H ->
   s₁.H.Q A=Z o->o.data=.func (docDef d.name d.params d.body d.scope B M C)->s₁.H.CodeRec M d.name->mg d.name=Z (.ref A) ->
   s₁.H.Q a=Z {cls:=.type "list",data:=.seq vs.toArray}->Sw vs ns->ns.L<=n->s₁.gens=#[] ->
   Si (model l.i w) callerA (.call (.ref A) ⟨[.ref a],[]⟩) (λr s'=>r=.ok (.ret (.bool kt))/\OldK s₁.H s'.H/\s'.os=s₁.os/\AllBare s'.gens) s₁):
  WalkO q L p m l.row.toRowW d [] (λf vs=>PySem.call f vs):=by
 intro w s₀ s₁ mg k G eK A o B M C v kV D hd z b h N u c as j s H x J;obtain rfl:v=.none:=Dflts.none b i;obtain rfl:kV=.none:=Dflts.noKw b;let a vs ns rfl rfl Q e t:=Ee T j x;refine enter_call (Sm (call w s₀ s₁ mg k A o B M C a vs ns G eK D (fd_plain hd) z h Q e t N) λr s' g=>?_);let rfl O I dO:=g;erw[.inl ⟨.bool kt,.bool kt,[],U,λ_=>rfl,.bool kt,Et l _,λ_=>⟨List.Pairwise.nil,λ_ y=>(nomatch y)⟩⟩,O,I,dO]
section
variable{prog:hx}{w:ix}{A:Around}{dO:eN->ff->Prop}{s:ff}{K:Frag}
end
end Att
namespace L2
open PySem PySem.Spec PyProof.Rows
theorem wH:∀{vs:E eN}{ns:E Y},Sw vs ns->Vals (ns.Z V.int) vs:=by
 intro _ _ h;induction h with
 |nil=>exact .nil
 |cons n t h ih=>exact .cons ⟨t,U⟩ ih
def mE(s:hr)(j:R):hr:=match s with
 |.ClassDef _ _ _ eK _ _ _ _ _ _ _=>eK.v j (.Pass ⟨0,0,0,0⟩)
 |_=>.Pass ⟨0,0,0,0⟩
def bO(s:hr):Arguments:=match s with
 |.FunctionDef _ a _ _ _ _ _ _ _ _=>a
 |_=>{posonlyargs:=[],args:=[],vararg:=lf,kwonlyargs:=[],kw_defaults:=[],kwarg:=lf,defaults:=[]}
def bz(s:hr):E hr:=match s with
 |.FunctionDef _ _ b _ _ _ _ _ _ _=>b
 |_=>[]
def aq(s:hr):io:=match s with
 |.FunctionDef _ _ _ _ _ _ a _ _ _=>a
 |_=>{kind:=.function,names:=[],isGenerator:=k9,isCoroutine:=k9}
abbrev CX0:CXT:=λ_ _ _ _ _ _=>False
abbrev E0:XK:=λ_ _ _=>False
theorem iX:o8 CX0 X E0:=λ_ _ _ _ _ _ _ h=>h.elim
structure Fun(K:MJ)(x qual:fI)(st:hr)(f:fc)(fd:ge):Prop where
 ex:∃(oc:eN)(od:j5 fc)(kV doc pm:eN)(an:j5 fc)(cdv ct:eN)(osl:kf (j5 eN)),
  fd=NV x qual (bO st) (bz st) (aq st) .none kV doc pm an cdv ct/\K.Y f=Z ⟨oc,od,.func fd,osl⟩/\N7 K cdv qual=kt
 kp:NK K (.ref f)=kt
def Fun.ok{a:fI}{st:hr}{N ps:E fI}{k:R}(F:Fun K x a st f fd)(S:az N ps (aq st))(G:∀(L:eN)(A:Around)(outer:E ih)(s:ff)(H:Hp)(vs:E V)(Q:VK)(dO:XK),Room k (A.deeper (envOfC a (aq st) s.H.M.J f L))->sp vs H Q dO ->
   let X:=(cxOf CX0 P w K mg base N a (aq st) f L A outer s H dO).nox;let D:Ends:={nx:=λ_ H'=>Q .non H',rt:=Q};∃ t,PSs X (bz st) t/\t D (qA N vs) H)(len:∀ vs H Q dO,sp vs H Q dO->vs.L=ps.L:=by walk_at "l"):li (k+1) f fd ps sp:=by
 let l i kV C B p L j b rfl m z:=F.ex;refine IW m z S len λA outer s H vs Q dO u r=>?_;let t h q:=G L A outer s H vs Q dO u r;erw[t,h.nox,q]
def Fun.binds{a:fI}{st:hr}{ps:E fI}(F:Fun K x a st f fd)(h:∀(kV C B:eN)(p:j5 fc)(L ct:eN)(us:E eN),us.L=ps.L->bindArgs (NV x a (bO st) (bz st) (aq st) .none kV C B p L ct) ⟨us,[]⟩=pure (ps.zip us)):gz K fd ps []:=by
 let l i kV C B p L ct b rfl m z:=F.ex;exact .all (h kV C B p L ct)
theorem fun_mk{a:fI}{st:hr}{od p:j5 fc}{b:kf (j5 eN)}{kV C B L:eN}(l:K.Y f=Z ⟨u,od,.func (NV x a (bO st) (bz st) (aq st) .none kV C B p L ct),b⟩)(c:N7 K L a=kt)(k:NK K (.ref f)=kt):Fun K x a st f (NV x a (bO st) (bz st) (aq st) .none kV C B p L ct):=⟨⟨u,od,kV,C,B,p,L,ct,b,U,l,c⟩,k⟩
theorem pG{k:R}(u:Room k A):A.units+1<cLine:=QG (Nat.add_le_add_left (by decide:1<=64) _) u.units
theorem ax(h:n<=1000):n<RO:=QG h ∅
theorem pv(i:R)(a:uP_ (X.N[i]?=Z x) uR_)(t:Vis X.j.scope x:=by first|exact Or.inl rfl|exact Or.inr (Or.inl U)|exact Or.inr (Or.inr U))(hd:uP_ ((x == ("__debug__" : fI))=k9) uD_)(z:uP_ ((x == ("__classdict__" : fI))=k9) uD_):PE X (.Name x pos) (tVar i):=pe_var a t hd z
def iteF{A:Prop}(h:B):if k9=kt then A else B:=by
 rw[Tj Nr];exact h
def iteT{A:Prop}(h:A):if kt=kt then A else B:=by
 rw[Ti U];exact h
def ite2{c A:Prop}[Decidable c](eK:c->A)(h2:¬ c->B):if c then A else B:=by
 by_cases h:c
 .rw[Ti h];exact eK h
 .rw[Tj h];exact h2 h
def xM{c A:Prop}[Decidable c](J:c)(h:B):if(!decide c)=kt then A else B:=by
 rw[Sx J];exact iteF h
def Same(H H':Hp):Prop:=∀ b o,H b=Z o->H' b=Z o
theorem Same.trans(a:Same H H1)(b:Same H1 H2):Same H H2:=λc o h=>b c o (a c o h)
def Same.seq(e:Same H H')(h:pi a xs):SqL K H' a xs:=by
 rcases h with(h|⟨o,h⟩)|h
 .exact .inl (.inl (e _ _ h))
 .exact .inl (.inr ⟨o,e _ _ h⟩)
 .exact .inr h
end L2
set_option maxRecDepth 100000
set_option maxHeartbeats 4000000
namespace L2
open PySem PySem.Spec PyProof.Rows
section
variable{κ:Type} [DecidableEq κ]
def valV(kvs:E (κ×V))(k:κ):j5 V:=(kvs.find? λw=>decide (w.1=k)).Z (·.2)
def putK(kvs:E (κ×V))(k:κ)(v:V):E (κ×V):=
 if(kvs.any λw=>decide (w.1=k))=kt then kvs.Z (λw=>if w.1=k then(w.1,v) else w) else kvs++[(k,v)]
def pH(kvs:E (κ×V))(k:κ):E (κ×V):=kvs.filter λw=>decide (w.1≠k)
def bZ{p:κ×V}{r:E (κ×V)}{k:κ}(e:p.1=k):valV (p::r) k=Z p.2:=by simp[valV,Pj,e]
def bI{p:κ×V}{r:E (κ×V)}{k:κ}(e:¬ p.1=k):valV (p::r) k=valV r k:=by simp[valV,Pj,e]
theorem iI(k:κ):∀ kvs:E (κ×V),(kvs.any λkv=>decide (kv.1=k))=(valV kvs k).isSome
 |[]=>rfl
 |p::r=>by
  rw[RK];by_cases e:p.1=k
  .simp only[bZ e,Sx e,ke.true_or,j5.isSome_some]
  .rw[bI e,RN e,RM];exact iI k r
theorem Ba(k j:κ)(y:V):∀ kvs:E (κ×V),valV (kvs.Z λkv=>if kv.1=k then(kv.1,y) else kv) j=(valV kvs j).Z λx=>if j=k then y else x
 |[]=>rfl
 |p::r=>by
  let C:=Ba k j y r;rw[NF];by_cases h:p.1=k
  .rw[Ti h];by_cases e:p.1=j
   .rw[bZ (p:=(p.1,y)) e,bZ e,j5.map_some,Ti (e.X.P h)]
   .rw[bI (p:=(p.1,y)) e,bI e,C]
  .rw[Tj h];by_cases e:p.1=j
   .rw[bZ (p:=p) e,bZ e,j5.map_some,Tj (λz=>h (e.P z))]
   .rw[bI (p:=p) e,bI e,C]
theorem wI(k j:κ)(y:V):∀ kvs:E (κ×V),valV kvs k=lf->valV (kvs++[(k,y)]) j=if j=k then Z y else valV kvs j
 |[],_=>by
  by_cases e:k=j
  .rw[Ti e.X];exact bZ (p:=(k,y)) e
  .rw[Tj (λz=>e z.X)];exact bI (p:=(k,y)) e
 |p::r,T=>by
  rw[Qq];let D:¬ p.1=k:=λz=>by rw[bZ z]at T;cases T
  rw[bI D]at T;let C:=wI k j y r T;by_cases e:p.1=j
  .rw[bZ e,bZ e,Tj (λz=>D (e.P z))]
  .rw[bI e,bI e,C]
def tY(kvs:E (κ×V))(k j:κ)(y:V):valV (putK kvs k y) j=if j=k then Z y else valV kvs j:=by
 unfold putK;by_cases a:(kvs.any λw=>decide (w.1=k))=kt
 .rw[Ti a,Ba];rw[iI]at a;by_cases e:j=k
  .let x B:=Qg.mp a;simp[*]
  .simp[*]
 .rw[Tj a];refine wI k j y kvs ?_;rw[iI]at a;simp!
def gm(kvs:E (κ×V))(k:κ)(v:V):(putK kvs k v).L<=kvs.L+1:=by
 unfold putK;split
 .simp
 .simp
def uD{kvs:E (κ×V)}{k:κ}(v:V)(h:valV kvs k=lf):putK kvs k v=kvs++[(k,v)]:=by
 unfold putK;rw[iI,h];rfl
def RelO.isSome_eq{o:j5 V}{u:j5 eN}(r:RelO o u):o.isSome=u.isSome:=by
 cases o with
 |none=>cases u with
  |none=>rfl
  |some _=>contradiction
 |some _=>cases u with
  |none=>contradiction
  |some _=>rfl
def RelO.getD{o:j5 V}{u:j5 eN}{d:V}{d':eN}(r:RelO o u)(i:RelV d d'):RelV (o.v d) (u.v d'):=by
 cases o with
 |none=>cases u with
  |none=>exact i
  |some _=>exact(show False from r).elim
 |some _=>cases u with
  |none=>exact(show False from r).elim
  |some _=>exact r
def KV.val{kvs:E (κ×V)}{vs:E (κ×eN)}(r:KV kvs vs)(k:κ):RelO (valV kvs k) (valueAt vs k):=by
 unfold KV at r;induction r with
 |nil=>exact True.intro
 | @cons p q N d h t C=>
  let eK O:=h;by_cases e:p.1=k
  .let Q:q.1=k:=eK.X.P e
   let b:valueAt (q::d) k=Z q.2:=by simp[valueAt,Pj,Q]
   rw[bZ e,b];exact O
  .let Q:¬ q.1=k:=λz=>e (eK.P z)
   let b:valueAt (q::d) k=valueAt d k:=by simp[valueAt,Pj,Q]
   rw[bI e,b];exact C
def KV.any{kvs:E (κ×V)}{vs:E (κ×eN)}(r:KV kvs vs)(k:κ):(kvs.any λkv=>decide (kv.1=k))=vs.any λkv=>decide (kv.1=k):=by
 unfold KV at r;induction r with
 |nil=>rfl
 |cons h t C=>simp[*]
def KV.repl{kvs:E (κ×V)}{vs:E (κ×eN)}(r:KV kvs vs)(k:κ)(c:RelV y u):
  KV (kvs.Z λkv=>if kv.1=k then(kv.1,y) else kv) (vs.Z λkv=>if kv.1=k then(kv.1,u) else kv):=by
 unfold KV at r ⊢;induction r with
 |nil=>exact .nil
 | @cons p q N d h t C=>
  rw[NF,NF];refine .cons ?_ C;let eK O:=h;by_cases e:p.1=k
  .rw[Ti e,Ti (eK.X.P e)];erw[eK,c]
  .rw[Tj e,Tj (λz=>e (eK.P z))];erw[eK,O]
def KV.put{kvs:E (κ×V)}{vs:E (κ×eN)}(r:KV kvs vs)(k:κ)(c:RelV y u):KV (putK kvs k y) (stored vs k u):=by
 unfold putK stored;rw[r.any k];by_cases e:(vs.any λw=>decide (w.1=k))=kt
 .rw[Ti e,Ti e];exact r.repl k c
 .rw[Tj e,Tj e];exact Paired.snoc r ⟨U,c⟩
def KV.drop{kvs:E (κ×V)}{vs:E (κ×eN)}(r:KV kvs vs)(k:κ):KV (pH kvs k) (without vs k):=by
 unfold KV at r ⊢;unfold pH without;induction r with
 |nil=>exact .nil
 | @cons p q N d h t C=>
  let eK O:=h;rw[List.filter_cons,List.filter_cons];by_cases e:p.1=k
  .let a:¬ decide (p.1≠k)=kt:=by simp[e]
   let b:¬ decide (q.1≠k)=kt:=by simp!
   rw[Tj a,Tj b];exact C
  .let Q:¬ q.1=k:=λz=>e (eK.P z)
   let a:decide (p.1≠k)=kt:=by simp[e]
   let b:decide (q.1≠k)=kt:=by simp[Q]
   rw[Ti a,Ti b];exact .cons ⟨eK,O⟩ C
theorem KV.length{kvs:E (κ×V)}{vs:E (κ×eN)}(r:KV kvs vs):kvs.L=vs.L:=Paired.length r
theorem Jd(kvs:E (κ×V))(k:κ):(pH kvs k).L<=kvs.L:=Oa _ _
end
def xH{k:Key}(r:RelV (kV k) u):(bF P w).is k u=kt:=by
 cases k with
 |inl i=>obtain⟨t,e⟩:=(show ∃ t,u=eN.int i t from r);subst e;exact zX P w i t
 |inr x=>obtain⟨t,e⟩:=(show ∃ t,u=eN.str x t from r);subst e;exact zW P w x t
theorem xK{P:hx}{w:ix}:∀{ks:E Key}{us:E eN},Vals (ks.Z kV) us->ItemsAre (bF P w) ks us
 |[],_,r=>by rw[Qw]at r;cases r;exact .nil
 |k::ks,_,r=>by
  rw[NF]at r
  cases r with
  |cons h t=>exact .cons (xH h) (xK t)
abbrev KT(H:Hp):E (E Key×V)->E (E Key×fc×eN)->Prop:=Paired λp q=>p.1=q.1/\H q.2.1=Z (.tup (p.1.Z kV))/\RelV p.2 q.2.2
def KT.val{kvs:E (E Key×V)}{xs:E (E Key×fc×eN)}(r:KT H kvs xs)(k:E Key):RelO (valV kvs k) ((atKey xs k).Z (·.2)):=by
 induction r with
 |nil=>exact True.intro
 | @cons p q N d h t C=>
  let eK _ O:=h;by_cases e:p.1=k
  .let Q:q.1=k:=eK.X.P e
   let b:atKey (q::d) k=Z q.2:=by simp[atKey,Pj,Q]
   rw[bZ e,b];exact O
  .let Q:¬ q.1=k:=λz=>e (eK.P z)
   let b:atKey (q::d) k=atKey d k:=by simp[atKey,Pj,Q]
   rw[bI e,b];exact C
def KT.repl{kvs:E (E Key×V)}{xs:E (E Key×fc×eN)}(r:KT H kvs xs)(k:E Key)(c:RelV y u):
  KT H (kvs.Z λkv=>if kv.1=k then(kv.1,y) else kv) (xs.Z (putAt k u)):=by
 induction r with
 |nil=>exact .nil
 | @cons p q N d h t C=>
  rw[NF,NF];refine .cons ?_ C;let eK O G:=h;unfold putAt;by_cases e:p.1=k
  .rw[Ti e,Ti (eK.X.P e)];erw[eK,O,c]
  .rw[Tj e,Tj (λz=>e (eK.P z))];erw[eK,O,G]
def KT.put{kvs:E (E Key×V)}{xs:E (E Key×fc×eN)}(r:KT H kvs xs)(k:E Key){b:fc}(M:H b=Z (.tup (k.Z kV)))(c:RelV y u):
  KT H (putK kvs k y) (storedH xs k b u):=by
 let e:(kvs.any λw=>decide (w.1=k))=(atKey xs k).isSome:=by
  rw[iI,(r.val k).isSome_eq,QL]
 unfold putK storedH;rw[e];by_cases q:(atKey xs k).isSome=kt
 .rw[Ti q,Ti q];exact r.repl k c
 .rw[Tj q,Tj q];exact Paired.snoc r ⟨U,M,c⟩
theorem KT.keeps{kvs:E (E Key×V)}{xs:E (E Key×fc×eN)}(r:KT H kvs xs)(g:∀ b ys,H b=Z (.tup ys)->H' b=Z (.tup ys)):KT H' kvs xs:=
 Paired.mapP r λ_ _ z=>⟨z.1,g _ _ z.2.1,z.2.2⟩
theorem rd_of{u:HO}(ok:HOk P w H h)(e:Rd H a u):bC P w H h a u:=e.ok ok
theorem AG(ok:HOk P w H h)(e:Rd H a (.dK kvs)):kvs.L<=RO/\(a == sysModules)=k9/\∃ vs,KV kvs vs/\h.DictOf (bF P w) a vs:=
 show bC P w H h a (.dK kvs) from rd_of ok e
theorem x9(ok:HOk P w H h)(e:H a=Z (.dK kvs)):kvs.L<=RO/\(a == sysModules)=k9/\∃ vs,KV kvs vs/\h.DictOf (bF P w) a vs:=AG ok (.inl e)
def tK{ks:E Key}(ok:HOk P w H h)(e:H a=Z (.tup (ks.Z kV))):(tupleKind (bF P w)).is h ks a:=by
 let _ d r o eK O n G:=(show bC P w H h a (.tup (ks.Z kV)) from ok a _ e);erw[o,d.toArray,n,eK,O,G,by simpa using xK r]
def AD{kvs:E (E Key×V)}(ok:HOk P w H h)(e:Rd H a (.dT kvs)):kvs.L<=RO/\(a == sysModules)=k9 /\
  ∃ xs,KT H kvs xs/\h.DictOfH (tupleKind (bF P w)) a xs:=by
 let z y xs r o L j eK O G dO s:=(show bC P w H h a (.dT kvs) from rd_of ok e);erw[z,y,xs,r,o,L,j,eK,O,G,dO,λx B=>?_,s];let all:∀{l:E (E Key×V)}{m:E (E Key×fc×eN)},KT H l m->∀ x∈m,(tupleKind (bF P w)).is h x.1 x.2.1:=by
  intro l m q;induction q with
  |nil=>simp
  | @cons p q N d n t C=>
   intro x B;obtain e|B:=MY.mp B
   .subst e;exact tK ok (by simp!)
   .exact C x B
 exact all r x B
theorem dt_of{kvs:E (E Key×V)}(ok:HOk P w H h)(e:H a=Z (.dT kvs)):kvs.L<=RO/\(a == sysModules)=k9 /\
  ∃ xs,KT H kvs xs/\h.DictOfH (tupleKind (bF P w)) a xs:=AD ok (.inl e)
def DGet(H:Hp)(a:fc)(y:V)(r:j5 V):Prop:=
 (∃ G k,Rd H a (.dK G)/\y=kV k/\r=valV G k)∨∃ G k b,Rd H a (.dT G)/\y=.ref b/\H b=Z (.tup (k.Z kV))/\r=valV G k
def DPut(H:Hp)(a:fc)(y v:V)(H':Hp):Prop:=
 (∃ G k,H a=Z (.dK G)/\y=kV k/\G.L<RO/\H'=upd H a (.dK (putK G k v))) ∨
 ∃ G k b,H a=Z (.dT G)/\y=.ref b/\H b=Z (.tup (k.Z kV))/\G.L<RO/\H'=upd H a (.dT (putK G k v))
theorem DGet.k{H:Hp}{a:fc}{kvs:E (Key×V)}{k:Key}(e:H a=Z (.dK kvs)):DGet H a (kV k) (valV kvs k):=.inl ⟨kvs,k,.inl e,U,U⟩
theorem DPut.k{H:Hp}{a:fc}{kvs:E (Key×V)}{k:Key}{v:V}(e:H a=Z (.dK kvs))(hl:kvs.L<RO):DPut H a (kV k) v (upd H a (.dK (putK kvs k v))):=.inl ⟨kvs,k,e,U,hl,U⟩
section
variable{X:Cx}{pins:E (fc×ii)}{σ:St}{H:Hp}{s:ff}{a:fc}{y v:V}{u r:eN}{o:j5 V}{A:Around}{dO:eN->ff->Prop}
def Inv.big(I:Inv X pins σ H s):sysModules<s.H.M.J:=by
 let h:RQ<s.H.M.J:=(I.mod.glob.keeps I.bk).lt;exact OW ∅ h
def Gn(f:A.units+1<cLine)(I:mu σ H s)(g:DGet H a y (Z v))(c:RelV y u)(h:∀ w' s',mu σ H s'->RelV v w'->Q w' s'):
  mj A (getItem (.ref a) u) Q dO s:=by
 rcases g with⟨D,k,e,j,l⟩|⟨D,k,b,e,j,i,l⟩
 .subst j;let z hd m x J:=AG I.hok e;let w' T r:=RelO.some_of (v:=v) (o:=valueAt m k) (by rw[l];exact x.val k)
  exact wpAny_getItem_of (xH c) J.mapOf T (h w' _ (I.tok _) r)
 .subst j
  cases (show u=eN.ref b from c)
  let z hd C x J:=AD I.hok e;let w' T r:=RelO.some_of (v:=v) (o:=(atKey C k).Z (·.2)) (by rw[l];exact x.val k)
  let p G d:=MZ.mp T;refine wpAny_getItem_heap (tupleKind_room_in1 f) (tK I.hok i) J G ?_;rw[d];exact h w' _ (I.tok _) r
def d_in(f:A.units+1<cLine)(I:mu σ H s)(g:DGet H a y o)(c:RelV y u)(h:∀ s',mu σ H s'->Q (.bool o.isSome) s'):
  mj A (RX .In u (.ref a)) Q dO s:=by
 rcases g with⟨G,k,e,j,l⟩|⟨G,k,b,e,j,C,l⟩
 .subst j;let z hd m x J:=AG I.hok e;refine wpAny_in_of (xH c) hd J.mapOf ?_;rw[← (x.val k).isSome_eq,← l];exact h _ (I.tok _)
 .subst j
  cases (show u=eN.ref b from c)
  let z hd D x J:=AD I.hok e;refine wpAny_in_heap (tupleKind_room_in1 f) (tK I.hok C) hd J ?_;let q:=(x.val k).isSome_eq;rw[QL]at q;rw[← q,← l];exact h _ (I.tok _)
def Mt(f:A.units+1<cLine)(I:mu σ H s)(g:DGet H a y o)(c:RelV y u)(h:∀ s',mu σ H s'->Q (.bool (!o.isSome)) s'):
  mj A (RX .NotIn u (.ref a)) Q dO s:=by
 rcases g with⟨G,k,e,j,l⟩|⟨G,k,b,e,j,C,l⟩
 .subst j;let z hd m x J:=AG I.hok e;refine wpAny_notIn_of (xH c) hd J.mapOf ?_;rw[← (x.val k).isSome_eq,← l];exact h _ (I.tok _)
 .subst j
  cases (show u=eN.ref b from c)
  let z hd D x J:=AD I.hok e;refine wpAny_notIn_heap (tupleKind_room_in1 f) (tK I.hok C) hd J ?_;let q:=(x.val k).isSome_eq;rw[QL]at q;rw[← q,← l];exact h _ (I.tok _)
theorem vM{ob:HO}(I:mu σ H s)(f:Mut (H a))(T:RU a s.H h')(N:∃ q,h'.Q a=Z q)(new:bC X.i X.w (upd H a ob) h' a ob):
  mu σ (upd H a ob) {s with heap:=h',toks:=t'}:=
 I.write (x:=a) (e:=a) f (.inl U) (λb q M z=>(T.2 b M).P z) N new
theorem F4{vs:E (Key×eN)}(z:kvs.L<=RO)(hd:(a == sysModules)=k9)(x:KV kvs vs)(dd:h'.DictOf (bF P w) a vs):
  bC P w H' h' a (.dK kvs):=⟨z,hd,vs,x,dd⟩
def Gb{Q:Unit->ff->Prop}(f:A.units+1<cLine)(I:mu σ H s)(g:DPut H a y v H')(J:RelV y u)(rv:RelV v r)(h:∀ s',mu σ H' s'->Q () s'):
  mj A (setItem (.ref a) u r) Q dO s:=by
 rcases g with⟨G,k,e,ey,l,eH⟩|⟨G,k,b,e,ey,C,l,eH⟩
 .subst ey eH;let z hd o x i:=x9 I.hok e;let j:o.L<=RO:=by rw[← x.L];exact z
  let M:(putK G k v).L<=RO:=by let:=gm G k v;lia
  refine wpAny_setItem_pairs (hsz:=j) (xH J) i λeK aa T=>h _ ?_;let N:∃ q,eK.Q a=Z q:=let ⟨q,_,_,n,_⟩:=aa;⟨q,n⟩;exact vM I (by rw[e];exact True.intro) T N (F4 M hd (x.put k rv) aa)
 .subst ey eH
  cases (show u=eN.ref b from J)
  let z hd D x i:=dt_of I.hok e;let j:D.L<=RO:=by rw[← Paired.length x];exact z
  let M:(putK G k v).L<=RO:=by let:=gm G k v;lia
  refine wpAny_setItem_heap (hsz:=j) (tupleKind_room_in1 f) (tK I.hok C) i λeK aa T=>h _ ?_;let q L B n O t p _ d:=aa;refine vM I (by rw[e];exact True.intro) T ⟨q,n⟩ ⟨M,hd,_,(x.put k C rv).keeps λc m ec=>?_,q,L,B,n,O,t,p,d⟩
  rw[aw (Co ec e (λz=>nomatch z))];exact ec
end
section
variable{X:Cx}{pins:E (fc×ii)}{σ:St}{H:Hp}{s:ff}{a:fc}{kvs:E (Key×V)}{k:Key}{u:eN}{A:Around}{dO:eN->ff->Prop}
def d_pop{more:E eN}(I:mu σ H s)(e:H a=Z (.dK kvs))(c:RelV (kV k) u)(l:valV kvs k=Z v)(y:more=[]∨∃ x,more=[x])(h:∀ w' s',mu σ (upd H a (.dK (pH kvs k))) s'->RelV v w'->Q w' s'):mj A (call (.builtin "dict.pop") (.ref a::u::more)) Q dO s:=by
 let z hd m f J:=x9 I.hok e;let w' b r:=RelO.some_of (v:=v) (o:=valueAt m k) (by rw[← l];exact f.val k)
 let G:(keyPart u).isSome=kt:=by
  cases k with
  |inl i=>obtain⟨t,q⟩:=(show ∃ t,u=eN.int i t from c);subst q;rfl
  |inr x=>obtain⟨t,q⟩:=(show ∃ t,u=eN.str x t from c);subst q;rfl
 let O:argsOk "dict.pop" ⟨.ref a::u::more,[]⟩:=by
  obtain q|⟨x,q⟩:=y
  .subst q;exact PySem.F.args_dict_pop_2 _ _
  .subst q;exact PySem.F.args_dict_pop_3 _ _ _
 refine call_meetsIn PySem.F.slot_dict_pop J.typeIs PySem.F.entry_dict_pop O (meets_dict_pop_there (bF X.i X.w) a (xH c) more y G)
  ⟨m,w',J,by rw[← f.L];exact z,b,λeK D T=>h w' _ ?_ r⟩
 let N:∃ q,eK.Q a=Z q:=let ⟨q,_,_,n,_⟩:=D;⟨q,n⟩;exact vM I (by rw[e];exact True.intro) T N (F4 (NH (Jd kvs k) z) hd (f.drop k) D)
end
def NoSl(i:hb):Prop:=∀ z e,subscripted i k9 z e=operate [z,e] (getItem z e)
def K9{s:ff}{b:hb}{T id:String}(hl:typeLookup (.type T) "__getitem__"=pure (Z (.builtin id)))(k:NoSl b)(h:mi A (eval e env) (λo s₁=>mi A (eval b env) (λi s₂=>s₂.TypeIs o T/\mi A (getItem o i) Q dO s₂) dO s₁) dO s):
  mi A (eval (.Subscript e b pos) env) Q dO s:=by
 refine Subscript_ (RW h (λo s₁ L=>RW L (λi s₂ q=>?_) λ_ _ x=>x) λ_ _ x=>x);let C q:=q;unfold subscriptTail;refine R4 ?_;rw[getitemInPython_of_ne C.not_modules];refine R4 (Sy C hl ?_);let d:mi A (subscripted b k9 o i) (λr f=>mi A (letTemporaryGo e o r >>= λ_=>pure r) Q dO f) dO s₂:=by
  rw[k o i];exact wpAny_operating (RW q (λr f N=>R4 (wpAny_letTemporaryGo (R7 N))) λ_ _ x=>x)
 first
  |exact R7 (R4 d)
  |exact R4 (R7 (R4 d))
  |exact R4 d
def AH{B:E (fc×ii)}{s:ff}{o:j5 V}(I:Inv X B O H s)(g:DGet H a y o):s.TypeIs (.ref a) "dict":=by
 rcases g with⟨G,k,e,_,_⟩|⟨G,k,b,e,_,_,_⟩
 .let _ _ m _ J:=AG I.hok e;exact J.typeIs
 .let _ _ D _ J:=AD I.hok e;exact J.typeIs
def tDGet(b ty:TE):TE:=λL H Q=>b L H λx j=>ty L j λy d=>∃ a v,x=.ref a/\DGet d a y (Z v)/\Q v d
def tDIn(ty b:TE):TE:=λL H Q=>ty L H λy j=>b L j λx d=>∃ a o,x=.ref a/\DGet d a y o/\Q (.bl o.isSome) d
def K6(ty b:TE):TE:=λL H Q=>ty L H λy j=>b L j λx d=>∃ a o,x=.ref a/\DGet d a y o/\Q (.bl (!o.isSome)) d
def sDPut(b ty e:TE):TS:=λD L H=>e L H λv j=>b L j λx d=>ty L d λy q=>∃ a c,x=.ref a/\DPut q a y v c/\D.nx L c
section
variable{X:Cx}{o i e value:hb}{pos pos' tpos:Pos}{td ty tv:TE}
def iW(f:X.A.units+1<cLine)(D:PE X o td)(hi:PE X i ty)(T:NoSl i):PE X (.Subscript o i pos) (tDGet td ty):=by
 intro B s L H Q I h;refine K9 PySem.F.slot_dict_getitem.lookup T (thn (D B s L H _ I h) λu C ⟨x,j,eK,G,dO⟩=>thn (hi B C L j _ eK dO) λe b ⟨y,d,p,c,a,v,M,g,n⟩=>?_);subst M;obtain rfl:u=eN.ref a:=G;erw[AH p g,Gn f p g c λO k m r=>⟨v,d,m,r,n⟩]
def pc_din(f:X.A.units+1<cLine)(hi:PE X i ty)(D:PE X o td):PC X .In i o (tDIn ty td):=by
 intro B s L H Q I h;refine thn (hi B s L H _ I h) λe C ⟨y,j,eK,c,dO⟩=>thn (D B C L j _ eK dO) λu b T=>?_;let x d p G a z M g n:=T;subst M;obtain rfl:u=eN.ref a:=G;exact d_in f p g c λk m=>⟨.bl z.isSome,d,m,U,n⟩
def qN(f:X.A.units+1<cLine)(hi:PE X i ty)(D:PE X o td):PC X .NotIn i o (K6 ty td):=by
 intro B s L H Q I h;refine thn (hi B s L H _ I h) λe C ⟨y,j,eK,c,dO⟩=>thn (D B C L j _ eK dO) λu b T=>?_;let x d p G a ov M g n:=T;subst M;obtain rfl:u=eN.ref a:=G;exact Mt f p g c λk m=>⟨.bl (!ov.isSome),d,m,U,n⟩
def ig(f:X.A.units+1<cLine)(Q:PE X o td)(hi:PE X i ty)(t:PE X value tv)(T:swapsWith value (Z (.Subscript o i pos')) pos.line X.j=pure k9):
  PS X (.Assign [.Subscript o i pos'] value pos) (sDPut td ty tv):=by
 intro B s L H D I h;refine wpAny_Assign_Subscript (thn (t B s L H _ I h) λr C ⟨v,j,eK,rv,dO⟩=>thn (Q B C L j _ eK dO) λu b ⟨x,d,p,G,n⟩=>thn (hi B b L d _ p n) λe k ⟨y,q,m,J,a,c,M,g,l⟩=>?_) T;subst M;obtain rfl:u=eN.ref a:=G;exact Gb f m g J rv λz O=>⟨L,c,O,l⟩
end
theorem B1(h:fo)(M:sysModules<h.M.J):bC P w H (h.e {cls:=.type "dict",data:=.dict #[]}) h.M.J (.dK []):=
 ⟨ND _,beq_eq_false_iff_ne.mpr (Ne.X (Nh M)),[],.nil,fo.DictOf.new h⟩
def tDNewK:TE:=λ_ H Q=>∀ p,H p=lf->Q (.ref p) (upd H p (.dK []))
theorem gE:PE X (.Dict [] [] pos) tDNewK:=λB s L H Q I h=>
 wpAny_Dict_empty ⟨.ref s.H.M.J,_,I.laid (a:=s.H.M.J) (o:=.dK []) (t':=s.u) (λ_ _ q=>R8 _ q) (MN _) (B1 s.H I.big),U,h _ (I.hok.fresh (MN _))⟩
def DM:E (TE×TE)->St->Hp->(E (V×V)->Hp->Prop)->Prop
 |[],_,H,Q=>Q [] H
 | (m,e)::r,L,H,Q=>m L H λx j=>e L j λy d=>DM r L d λN q=>Q ((x,y)::N) q
abbrev VV:E (V×V)->E (eN×eN)->Prop:=Paired λp q=>RelV p.1 q.1/\RelV p.2 q.2
def PPs(X:Cx)(pos:Pos)(keys:E (j5 hb))(g:E hb)(e:E (TE×TE)):Prop:=
 ∀(B:E (fc×ii))(s:ff)(L:St)(H:Hp)(Q:E (V×V)->Hp->Prop),nw H s->DM e L H Q ->
  mj X.A (evalPairs (pairTrees keys g X.j pos)) (λm c=>∃ N l,nw l c/\VV N m/\Q N l) X.xe s
theorem uE:PPs X pos [] [] []:=λB s L H Q I h=>pairTrees_nil_walk ⟨[],H,I,.nil,h⟩
theorem pV{k v:hb}{ks:E (j5 hb)}{vs:E hb}{tk:TE}{e:E (TE×TE)}(D:PE X k tk)(t:PE X v eK)(g:PPs X pos ks vs e):
  PPs X pos (Z k::ks) (v::vs) ((tk,eK)::e):=λB s L H Q I h=>
 pairTrees_cons_walk (thn (D B s L H _ I h) λu C ⟨x,j,i,G,dO⟩=>thn (t B C L j _ i dO) λM b ⟨y,d,p,c,n⟩=>
  thn (g B b L d _ p n) λl a ⟨N,q,m,f,z⟩=>⟨(x,y)::N,q,m,.cons ⟨G,c⟩ f,z⟩)
def eY(kvs more:E (Key×V)):E (Key×V):=more.foldl (λf w=>putK f w.1 w.2) kvs
def KV.merge:∀{more:E (Key×V)}{rs:E (Key×eN)}{kvs:E (Key×V)}{vs:E (Key×eN)},KV more rs->KV kvs vs->KV (eY kvs more) (merged vs rs):=by
 intro more rs kvs vs r;unfold KV at r;induction r generalizing kvs vs with
 |nil=>intro q;exact q
 | @cons p q N d h t C=>
  intro eK;let e:KV (putK kvs p.1 p.2) (stored vs q.1 q.2):=by
   let:=eK.put p.1 h.2;rw[← h.1];exact this
  exact C e
theorem ni:∀(more kvs:E (Key×V)),(eY kvs more).L<=kvs.L+more.L
 |[],kvs=>by show kvs.L<=kvs.L+0;lia
 |p::r,kvs=>by
  let eK:=ni r (putK kvs p.1 p.2);let O:=gm kvs p.1 p.2;show(eY (putK kvs p.1 p.2) r).L<=_;rw[OJ];lia
theorem tR{P:hx}{w:ix}:∀{kvs:E (Key×V)}{ws:E (eN×eN)},VV (kvs.Z λkv=>(kV kv.1,kv.2)) ws->∃ rs,Carries (bF P w) ws rs/\KV kvs rs
 |[],_,r=>by rw[Qw]at r;cases r;erw[[],True.intro,.nil]
 |p::kvs,_,r=>by
  rw[NF]at r
  cases r with
  | @cons a b as bs h t=>
   let rs c q:=tR (P:=P) (w:=w) t;let b1 b2:=b;erw[(p.1,b2)::rs,⟨xH h.1,U,c⟩,.cons ⟨U,h.2⟩ q]
def tDisp(e:E (TE×TE)):TE:=λL H Q=>∀ p,H p=lf->DM e L (upd H p (.dK [])) λN d=>d p=Z (.dK [])/\∃ G:E (Key×V),N=G.Z (λw=>(kV w.1,w.2))/\G.L<=15/\Q (.ref p) (upd d p (.dK (eY [] G)))
def uN{keys:E (j5 hb)}{g:E hb}{t:E (TE×TE)}(h:PPs X pos keys g t)(v:keys.all (·.isSome)=kt)(hl:keys.L=g.L)(A:keys≠[])(y:keys.L<=15):PE X (.Dict keys g pos) (tDisp t):=by
 intro B s L H Q I q;let p:=I.hok.fresh (MN s.H.M.J);let i:=I.laid (a:=s.H.M.J) (o:=.dK []) (h':=s.H.e {cls:=.type "dict",data:=.dict #[]}) (t':=s.u) (λ_ _ q=>R8 _ q) (MN _) (B1 s.H I.big);refine wpAny_Dict_walk (knd:=bF X.i X.w) v hl A y (thn (h B _ L _ _ i (q _ p)) λl b ⟨j,d,O,x,e,G,C,m,r⟩=>?_);subst C;let k c M:=tR (P:=X.i) (w:=X.w) x;let z hd dO u J:=x9 O.hok e
 cases u
 erw[k,c,J,λh' D T=>⟨.ref s.H.M.J,_,?_,U,r⟩];let f:(eY [] G).L<=RO:=by
  let eK:=ni G [];rw[OU]at eK;rw[sizeLine_eq];lia
 let N:∃ q,h'.Q s.H.M.J=Z q:=let ⟨q,_,_,n,_⟩:=D;⟨q,n⟩;exact vM O (by rw[e];exact True.intro) T N (F4 f hd (M.merge .nil) D)
structure M1(X:Cx)(o:hb)(m:fI)(apos:Pos)(e:hb)(cpos:Pos):Prop where
 base:attributeBase o m X.j (eval o X.j)=eval o X.j
 few:((backTo cpos (RV [e] X.j)).all (λx=>!x.1)&&(backToKw cpos (keywordEach [] X.j)).all (λx=>x.1.isSome)
  && decide (([e]:E hb).L+([]:E Keyword).L+(if([]:E Keyword).isEmpty then 0 else 1)<30))=kt
 line:(apos.endLine == cpos.line)=kt
 trees:backTo cpos (RV [e] X.j)=[(k9,eval e X.j)]
structure M2(X:Cx)(o:hb)(m:fI)(apos:Pos)(e f:hb)(cpos:Pos):Prop where
 base:attributeBase o m X.j (eval o X.j)=eval o X.j
 few:((backTo cpos (RV [e,f] X.j)).all (λx=>!x.1)&&(backToKw cpos (keywordEach [] X.j)).all (λx=>x.1.isSome)
  && decide (([e,f]:E hb).L+([]:E Keyword).L+(if([]:E Keyword).isEmpty then 0 else 1)<30))=kt
 line:(apos.endLine == cpos.line)=kt
 trees:backTo cpos (RV [e,f] X.j)=[(k9,eval e X.j),(k9,eval f X.j)]
def IsD(H:Hp)(a:fc):Prop:=(∃ G,Rd H a (.dK G))∨∃ G,Rd H a (.dT G)
def Kj{B:E (fc×ii)}{s:ff}(I:Inv X B O H s)(d:IsD H a):
  s.TypeIs (.ref a) "dict"/\(∀ b,eN.ref a=.ref b->∃ ob,s.H.Q b=Z ob/\ob.dict=lf)/\(a == sysModules)=k9:=by
 rcases d with⟨G,e⟩|⟨G,e⟩
 .let _ hd m _ J:=AG I.hok e;erw[J.typeIs,λb q=>?_,hd]
  cases q
  let ob _ _ eK N _:=J;erw[ob,eK,N.2.1]
 .let _ hd D _ J:=AD I.hok e;erw[J.typeIs,λb q=>?_,hd]
  cases q
  let ob _ _ eK N _:=J;erw[ob,eK,N.2.1]
section
variable{X:Cx}{pins:E (fc×ii)}{σ:St}{H:Hp}{s:ff}{a:fc}{y d:V}{u r:eN}{o:j5 V}{A:Around}{dO:eN->ff->Prop}
def d_get2(f:A.units+1<cLine)(I:mu σ H s)(g:DGet H a y o)(c:RelV y u)(i:RelV d r)(h:∀ w' s',mu σ H s'->RelV (o.v d) w'->Q w' s'):
  mj A (call (.builtin "dict.get") [.ref a,u,r]) Q dO s:=by
 rcases g with⟨G,k,e,j,l⟩|⟨G,k,b,e,j,C,l⟩
 .subst j;let z hd m x J:=AG I.hok e;refine call_meetsIn Qt J.typeIs PySem.F.entry_dict_get (RJ _ _ _) (meets_dict_get_default (bF X.i X.w) a (xH c) hd r) ⟨_,J.mapOf,h _ _ (I.tok _) ?_⟩;rw[l];exact(x.val k).v i
 .subst j
  cases (show u=eN.ref b from c)
  let z hd D x J:=AD I.hok e;refine call_meetsIn Qt J.typeIs PySem.F.entry_dict_get (RJ _ _ _) (meetsH_dict_get_default (tupleKind (bF X.i X.w)) a b hd r) ⟨tupleKind_room_in1 f,k,D,tK I.hok C,J,h _ _ (I.tok _) ?_⟩;rw[l];exact(x.val k).v i
end
def tDGet2(b ty i:TE):TE:=λL H Q=>b L H λx j=>∃ a,x=.ref a/\IsD j a/\ty L j λy d=>i L d λz q=>∃ o,DGet q a y o/\Q (o.v z) q
def tDPop1(b ty:TE):TE:=λL H Q=>b L H λx j=>∃ a,x=.ref a/\IsD j a/\ty L j λy d=>∃ G k v,d a=Z (.dK G)/\y=kV k/\valV G k=Z v/\Q v (upd d a (.dK (pH G k)))
section
variable{X:Cx}{o e f:hb}{apos cpos:Pos}{td ty tx:TE}
def HI(t:X.A.units+1<cLine)(D:PE X o td)(N:PE X e ty)(r:PE X f tx)(m:M2 X o "get" apos e f cpos):PE X (.Call (.Attribute o "get" apos) [e,f] [] cpos) (tDGet2 td ty tx):=by
 intro B s L H Q I h;refine wpAny_Call_method m.base m.few m.line O3 Qt PySem.F.type_dict_get (thn (D B s L H _ I h) λu C ⟨x,j,i,G,a,T,d,dO⟩=>?_);subst T;obtain rfl:u=eN.ref a:=G;let t1 v _:=Kj i d;erw[t1,v,3];rw[m.trees]
 refine Sv U (Calls.evalArgs_plain (Sl (thn (N B C L j _ i dO) λiv b ⟨y,M,p,c,n⟩=>
  Sl (thn (r B b L M _ p n) λfv k ⟨z,q,w,rz,ov,g,eK⟩=>Sk ?_))))
 exact d_get2 t w g c rz λO l I4 J=>⟨_,q,I4,J,eK⟩
def HH(D:PE X o td)(N:PE X e ty)(m:M1 X o "pop" apos e cpos):PE X (.Call (.Attribute o "pop" apos) [e] [] cpos) (tDPop1 td ty):=by
 intro B s L H Q I h;refine wpAny_Call_method m.base m.few m.line O3 PySem.F.slot_dict_pop PySem.F.type_dict_pop (thn (D B s L H _ I h) λu C ⟨x,j,i,f,a,T,d,dO⟩=>?_);subst T;obtain rfl:u=eN.ref a:=f;let A q _:=Kj i d;erw[A,q,3];rw[m.trees];refine Sv U (Calls.evalArgs_plain (Sl (thn (N B C L j _ i dO) λeK b ⟨y,M,p,c,G,k,v,z,t,l,n⟩=>Sk ?_)));subst t;exact d_pop p z c l (.inl U) λO g w r=>⟨v,_,w,r,n⟩
end
section
variable{X:Cx}{pins:E (fc×ii)}{σ:St}{H:Hp}{s:ff}{a:fc}{kvs:E (Key×V)}{A:Around}{dO:eN->ff->Prop}
end
section
variable{X:Cx}{pins:E (fc×ii)}{σ:St}{H:Hp}{s:ff}{a:fc}{y:V}{u:eN}{A:Around}{dO:eN->ff->Prop}
end
section
variable{κ:Type} [DecidableEq κ]
def G5{kvs:E (κ×V)}{k:κ}(h:valV kvs k=lf):¬ k∈kvs.Z (·.1):=by
 intro m;let p G e:=Nc.mp m;let q:(kvs.any λw=>decide (w.1=k))=kt:=Ox.mpr ⟨p,G,Sx e⟩;rw[iI,h]at q;simp!
theorem EZ:∀{l:E κ}{k:κ},l.h->¬ k∈l->(l++[k]).h
 |[],k,_,_=>by simp
 |a::r,k,h,D=>by
  let eK O:=Nt.mp h;show(a::(r++[k])).h;refine Nt.mpr ⟨λm=>?_,EZ O λm=>D (MY.mpr (Or.inr m))⟩;simp!
def F2{p:κ×V}{r:E (κ×V)}{k:κ}(e:p.1=k):pH (p::r) k=pH r k:=by
 unfold pH;simp[*]
def F3{p:κ×V}{r:E (κ×V)}{k:κ}(e:¬ p.1=k):pH (p::r) k=p::pH r k:=by
 unfold pH;simp[*]
end
def clOf(env:ih)(fr:E (fI×R)):E (fI×fc):=fr.Z λp=>(p.1,(env.cells.Y p.1).v 0)
def frOf(fr:E (fI×R))(L:St):St:=fr.Z λp=>(L[p.2]?).join
theorem lE{env:ih}:∀{fr:E (fI×R)}{y:fI}{c:fc},(clOf env fr).Y y=Z c->y∈fr.Z (·.1)/\c=(env.cells.Y y).v 0
 |[],_,_,h=>by cases h
 |p::r,y,c,h=>by
  unfold clOf at h;rw[NF,List.lookup_cons]at h
  cases e:y == p.1 with
  |true=>
   simp!
  |false=>
   rw[e]at h;let a b:=lE (env:=env) (fr:=r) h;erw[M6 _ a,b]
theorem gj{env:ih}:∀{fr:E (fI×R)}{y:fI},y∈fr.Z (·.1)->(clOf env fr).Y y=Z ((env.cells.Y y).v 0)
 |[],_,h=>by cases h
 |p::r,y,h=>by
  unfold clOf;rw[NF,List.lookup_cons]
  cases e:y == p.1 with
  |true=>
   simp!
  |false=>
   let a:y≠p.1:=λz=>by simp!
   obtain z|z:=MY.mp h
   .contradiction
   .exact gj (env:=env) (fr:=r) z
section
variable{X:Cx}{pins:E (fc×ii)}{σ:St}{H:Hp}{s:ff}{scope:io}{fr:E (fI×R)}{x:fI}
end
def Be(r:TE)(a:St)(J:It)(H1:Hp)(QQ:E V->Hp->Prop):Prop:=
 ∃ W:R->R->E V->Hp->Prop,(∃ m,W 0 m [] H1)/\∀ i m k H,W i m k H->k.L<=RO /\
  ((J.stop i H/\QQ k H)∨(J.go i H/\∃ N:V->Hp->Prop,(∀ y d,N y d->∃ f,f<m/\W (i+1) f (k++[y]) d)/\∀ x l,J.yld i H x l->r (Z x::a) l N))
section
variable{X:Cx}{scope:io}{fr:E (fI×R)}{x:fI}{elt iter:hb}{px pos:Pos}{te:TE}{wi:TI}
end
def Gz(Pv:R->E V->Hp->Prop)(hz:xs.L<=RO)(A:Pv 0 [] H1)(hl:∀ i ys H,i<=xs.L->Pv i ys H->pi a xs)
  (T:∀ i x ys H,xs[i]?=Z x->Pv i ys H->eK (Z x::O) H λy H2=>Pv (i+1) (ys++[y]) H2) (hd:∀ ys H,ys.L=xs.L->Pv xs.L ys H->QQ ys H)
  : Be eK O (Itl K a) H1 QQ:=by
 erw[λi m ys H=>m=xs.L-i/\i<=xs.L/\ys.L=i/\Pv i ys H,⟨xs.L,by simp,ND _,U,A⟩,3]
 rintro i m ys H ⟨rfl,J,j,p⟩;let q:=hl i ys H J p;erw[16]
 by_cases Q:i<xs.L
 .refine .inr ⟨⟨xs,xs[i],q,by simp⟩,λy H2=>Pv (i+1) (ys++[y]) H2,λy H2 G=>⟨xs.L-(i+1),∅,U,Q,by simp[*],G⟩,λx l y=>?_⟩
  let e y:=y;subst e;exact T i x ys _ (y xs q) p
 .let e:i=xs.L:=by lia
  subst e;exact .inl ⟨⟨xs,q,MN _⟩,hd ys H j p⟩
def Dd{lo:Y}(Pv:R->E V->Hp->Prop)(hz:n<=RO)(A:Pv 0 [] H1)
  (T:∀ i ys H,i<n->Pv i ys H->eK (Z (.int (lo+i))::O) H λy H2=>Pv (i+1) (ys++[y]) H2) (hd:∀ ys H,ys.L=n->Pv n ys H->QQ ys H)
  : Be eK O (Itr lo n) H1 QQ:=by
 erw[λi m ys H=>m=n-i/\i<=n/\ys.L=i/\Pv i ys H,⟨n,by simp,ND _,U,A⟩,3]
 rintro i m ys H ⟨rfl,J,j,p⟩;erw[16]
 by_cases Q:i<n
 .refine .inr ⟨Q,λy H2=>Pv (i+1) (ys++[y]) H2,λy H2 G=>⟨n-(i+1),∅,U,Q,by simp[*],G⟩,λx l y=>?_⟩
  let e y:=y;subst e y;exact T i ys _ Q p
 .let e:i=n:=by lia
  subst e;exact .inl ⟨MN _,hd ys H j p⟩
def GH:RS "int"=Z (.type "int"):=by rfl
def Mx:RS "bool"=Z (.type "bool"):=by rfl
def jv:RS "list"=Z (.type "list"):=by rfl
def Jo:RS "tuple"=Z (.type "tuple"):=by rfl
def bE:RS "len"=Z (.builtin "len"):=by rfl
def dq:RS "isinstance"=Z (.builtin "isinstance"):=by rfl
def iE:RS "sorted"=Z (.builtin "sorted"):=by rfl
def rQ:RS "reversed"=Z (.type "reversed"):=by rfl
def yC:RS "enumerate"=Z (.type "enumerate"):=by rfl
structure Cal(P:hx)(w:ix)(K:MJ)(mg:fI->j5 eN)(base:fo)(k:R)(x:fI)(ps:E fI)(sp:Sp)(f:fc)(fd:ge):Prop where
 ok:li k f fd ps sp
 bn:gz K fd ps []
 mg:mg x=Z (.ref f)
 kp:NK K (.ref f)=kt
structure Mak(P:hx)(w:ix)(K:MJ)(mg:fI->j5 eN)(base:fo)(k:R)(x:fI)(ps:E fI)(sp:Sp)(C f:fc)(fd:ge):Prop where
 mkc:Mk K C f
 ok:li k f fd ps sp
 bn:gz K fd ps []
 mg:mg x=Z (.ref C)
structure Met(P:hx)(w:ix)(K:MJ)(mg:fI->j5 eN)(base:fo)(k:R)(C:fc)(m:fI)(ps:E fI)(sp:Sp)(f:fc)(fd:ge):Prop where
 me:Meth K C m f
 ok:li k f fd ps sp
 bn:gz K fd ps []
theorem fX{a:E hr}{t t2:TS}(h:PSs X a t)(i:∀ D L H,t2 D L H->t D L H):PSs X a t2:=λB s L H D I q=>h B s L H D I (i D L H q)
inductive rIsi(K:MJ)(xs:E V)(H:L2.Hp)(Q:L2.VK):Prop
 |mk (x c t b u:_) (_:xs=[x,c])(_:TyOf K H x t)(_:((∃ n,c=.ty n/\u=eN.type n)∨∃ a,c=.ref a/\u=eN.ref a))(_:PN K t u=Z b)(_:Q (.bl b) H)
def nW:iF X (.builtin "isinstance") (rIsi X.K):=by
 intro B s L H D o Q I r h;let x c t b u rfl ty f e q:=h;let d M rfl J N:=G4 r;let A:M=u:=by
  rcases f with⟨n,rfl,rfl⟩|⟨a,rfl,rfl⟩
  .exact N
  .exact N
 subst A;exact Ft I J ty e λm=>⟨.bl b,H,I.tok m,U,q⟩
def kit_ii(K:MJ):PN K (.type "int") (.type "int")=Z kt:=by with_unfolding_all rfl
def kit_ib(K:MJ):PN K (.type "int") (.type "bool")=Z k9:=by with_unfolding_all rfl
def Kg(K:MJ):PN K (.type "list") (.type "list")=Z kt:=by with_unfolding_all rfl
def kit_tt(K:MJ):PN K (.type "tuple") (.type "tuple")=Z kt:=by with_unfolding_all rfl
inductive RdD(K:MJ)(H:Hp):V->hH->Prop where
 |non:RdD K H .non .none
 |bl (b:ke):RdD K H (.bl b) (.bool b)
 |int (i:Y):RdD K H (.int i) (.int i)
 |lst {a:fc} {xs:E V} {ds:E hH} (h:pi a xs) (hl:xs.L=ds.L) (r:∀(i:R)(x:V)(d:hH),xs[i]?=Z x->ds[i]?=Z d->RdD K H x d):RdD K H (.ref a) (.list ds)
 |tup {a:fc} {xs:E V} {ds:E hH} (h:SqT K H a xs) (hl:xs.L=ds.L) (r:∀(i:R)(x:V)(d:hH),xs[i]?=Z x->ds[i]?=Z d->RdD K H x d):RdD K H (.ref a) (.tuple ds)
theorem lX{h:fo}:∀{xs:E V}{us:E eN}{ds:E hH},Vals xs us->xs.L=ds.L->(∀(i:R) x d,xs[i]?=Z x->ds[i]?=Z d->∀ u,RelV x u->∃ as,Reads h u d as)->∃ as,ReadsAll h us ds as:=by
 intro xs us ds h;induction h generalizing ds with
 |nil=>
  intro e k;cases ds with
  |nil=>exact⟨_,.nil⟩
  |cons=>cases e
 |cons r O ih=>
  intro e k;cases ds with
  |nil=>cases e
  |cons d ds=>let v dO:=k 0 _ d U U _ r;let g n:=ih (Qu e) λi x b f A=>k (i+1) x b f A;erw[_,.cons dO n]
def RdD.reads{B:E (fc×ii)}{s:ff}(I:Inv X B O H s){x:V}{d:hH}(r:RdD X.K H x d):∀ u,RelV x u->∃ as,Reads s.H u d as:=by
 induction r with
 |non=>intro u f;cases f;erw[_,.none]
 |bl b=>intro u f;cases f;erw[_,.bool b]
 |int i=>intro u f;let t rfl:=f;erw[_,.int i t]
 |lst h M r C=>
  intro u f
  cases f
  let Q rv p _:=I.list h;let as q:=lX (h:=s.H) rv M C;let o n e c _ d:=p;erw[_,.list e c d (by simpa using q)]
 |tup h M r C=>
  intro u f
  cases f
  let Q rv p _:=I.tuple h;let as q:=lX (h:=s.H) rv M C;let o e c n d:=p;erw[_,.tuple e c d (by simpa using q)]
inductive rSame(b:ke)(K:MJ)(x:L2.V)(y:L2.V)(H:L2.Hp)(Q:L2.VK):Prop
 |mk (d:_) (_:RdD K H x d)(_:RdD K H y d)(_:SeqAt.shaped d=kt)(_:Q (.bl b) H)
def op_neD(f:X.A.units+64<cLine):OpR X (RX .NotEq) (rSame k9 X.K):=by
 intro B s L H x y v u Q I G c h;let d J N T q:=h;let as dO:=J.reads I v G;let bs n:=N.reads I u c;refine ne_dataH dO n T T f ?_;rw[SeqAt.eqv_refl d (SeqAt.canLay_of_shaped T)];erw[.bl k9,H,I,U,q]
section
variable{X:Cx}{tg:hb}
end
section
variable{P:hx}{w:ix}{H:Hp}{h:fo}{a:fc}{o:HO}
def bC.get(x:bC P w H h a o):∃ ob,h.Q a=Z ob:=by
 cases o with
 |lst D=>obtain⟨_,_,_,_,e⟩:=x;erw[_,e]
 |tup D=>obtain⟨_,_,_,ob,e,_⟩:=x;erw[_,e]
 |dK G=>obtain⟨_,_,_,_,o,_,_,e,_⟩:=x;erw[_,e]
 |dT G=>obtain⟨_,_,_,_,o,_,_,e,_⟩:=x;erw[_,e]
 |set S n=>obtain⟨o,_,_,_,e,_⟩:=x;erw[_,e]
 |ins C B fs=>obtain⟨_,_,_,e,_⟩:=x;erw[_,e]
 |own y=>exact x
 |xd fs=>obtain⟨_,⟨_,_,_,e,_⟩,_⟩:=x;erw[_,e]
 |rng lo J=>obtain⟨_,_,_,e⟩:=x;erw[_,e]
 |frz ob u=>exact⟨_,x.1⟩
 |tbl N=>exact⟨_,(show h.Q a=Z _ from x)⟩
 |met f y=>exact⟨_,(show h.Q a=Z _ from x)⟩
 |ext s=>exact x.2.1
def HOk.none_of(x:HOk P w H h)(e:h.Q a=lf):H a=lf:=by
 cases q:H a with
 |none=>rfl
 |some u=>
  let T z:=(x a u q).get;simp!
end
structure XOk(X:Cx)(pins:E (fc×ii))(H:Hp)(b:fc):Prop where
 old:X.s₀.H.Q b=lf
 trk:H b=lf
 nl:b≠X.j.locals
 nc:∀ x c,X.j.cells.Y x=Z c->c≠b
 np:∀ p∈X.pn++pins,p.1≠b
section
variable{X:Cx}{pins:E (fc×ii)}{σ:St}{H H':Hp}{s s':ff}{b:fc}
def Inv.xok(I:Inv X pins σ H s)(B:X.ex=[])(e:s.H.Q b=lf)(n:H' b=lf):XOk X pins H' b:=by
 erw[3,n,λz=>?_,λx c q z=>?_,λp G z=>?_]
 .cases q:X.s₀.H.Q b with
  |none=>rfl
  |some o=>
   let C Q:=I.base.there b o q (by simp[*])
   simp!
 .let m{o _ _ D _}_:=I.loc;simp!
 .let v o D _:=I.cell x c q;simp!
 .let:=(I.pin p G).1
  simp!
def Inv.xstep(I:Inv X pins σ H s)(y:∀ b∈ch,XOk X pins H b)(keep:∀ b o,s.H.Q b=Z o->b∉ch->b∉frs X.stack->h'.Q b=Z o)(slot:∀ b o,s.H.Q b=Z o->b∉ch->b∈frs X.stack->∃ sl,h'.Q b=Z {o with slots:=sl}):Inv X pins σ H {s,h'}:=by
 let any:∀ b o,s.H.Q b=Z o->b∉ch->∃ sl,h'.Q b=Z {o with slots:=sl}:=λb o e J=>by
  by_cases M:b∈frs X.stack
  .exact slot b o e J M
  .erw[o.slots,keep b o e J M]
 let w:∀ b,b∈frs X.stack->b≠X.j.locals->b∈X.fs:=λb M n=>(MY.mp (I.stkSub b M)).elim (λz=>Tn z n) λz=>z;let eK:∀ b o,X.s₀.H.Q b=Z o->b≠X.j.locals:=λb o e=>Nh (Ni (RP e) I.ok.above);let L:∀ b o,X.s₀.H.Q b=Z o->b∉ch:=λb o e M=>by
  let:=(y b M).old;rw[e]at this;contradiction
 let N:∀ x c,X.j.cells.Y x=Z c->∀ v,s.H.IsCell c v->h'.IsCell c v:=λx c e v ⟨o,D,hd⟩=>by
  let sl q:=any c o D λz=>(y c z).nc x c e U;erw[_,q,hd]
 erw[I.ok,I.os,I.bare,⟨λb o e n M B=>?_,λb o e n M B=>?_,I.base.free,λb o e B=>?_,I.base.tups,I.base.frzs,I.base.tbls⟩,3,λx c e=>?_,I.free,I.freeC,λp G=>?_,λb u e=>?_,I.len]
 .exact keep b o (I.base.keep b o e n M B) (L b o e) λz=>M (w b z (eK b o e))
 .let sl f:=I.base.slot b o e n M B;let dO A:=any b _ f (L b o e);erw[dO,A]
 .let C f:=I.base.there b o e B;let sl A:=any b _ f (L b o e);erw[_,A]
 .let m{o O j D r}t:=I.loc;let sl A:=any _ o D λz=>(y _ z).nl U;erw[m,⟨_,O,j,A,r⟩,λi x v f A g=>?_];let u r l:=t i x v f A g;erw[u,r,3];obtain l|⟨k,c,e,z⟩:=l
  .exact .inl l
  .exact .inr ⟨k,c,e,N x c e _ z⟩
 .let v z:=I.cell x c e;erw[v,N x c e v z]
 .let e n ne a d:=I.pin p G;erw[keep p.1 p.2 e (λz=>(y p.1 z).np p G U) λz=>a (w p.1 z ne),n,ne,a,d]
 .let h:∀ c Q,H c=Z Q->c∉ch/\c∉frs X.stack:=λc Q q=>⟨λz=>(by rw[(y c z).trk]at q;exact nomatch q),λz=>(by rw[I.stkFree c z]at q;exact nomatch q)⟩
  refine(I.hok b u e).stay (λc v J q=>?_) (λ_ q=>q) λ_ _ q=>q;obtain z|z:=J
  .rw[z]at q ⊢;exact keep b v q (h b u e).1 (h b u e).2
  .exact keep c v q (h c _ z).1 (h c _ z).2
def Inv.xtrack{o:HO}(I:Inv X pins σ H s)(f:XOk X pins H a)(new:bC X.i X.w (upd H a o) s.H a o):Inv X pins σ (upd H a o) s:=by
 let ne:∀ b u,H b=Z u->b≠a:=λb u e=>aH e f.trk;let d:∀ b u,s.H.Q b=Z u->b≠a->H b=lf->upd H a o b=lf:=λb u _ n q=>by rw[aw n];exact q
 erw[I.ok,I.os,I.bare,⟨I.base.keep,I.base.slot,λb T e n B=>?_,I.base.there,λb D e=>?_,λb T D e=>?_,λb N e=>?_⟩,I.loc,I.cell,3,λx c e=>?_,λp G=>?_,λb u e=>?_,I.len]
 .rw[aw (λz=>by rw[z,f.old]at e;cases e)]
  exact I.base.free b T e n B
 .let:=I.base.tups b D e
  rw[aw (ne _ _ this)];exact this
 .let:=I.base.frzs b T D e
  rw[aw (ne _ _ this)];exact this
 .let m q:=I.base.tbls b N e;erw[m,by rw[aw (ne _ _ q)];exact q]
 .rw[aw (Ne.X f.nl)];exact I.free
 .rw[aw (f.nc x c e)];exact I.freeC x c e
 .let e n r:=I.pin p G;erw[e,by rw[aw (f.np p G)];exact n,r]
 .by_cases M:b=a
  .rw[M,ag]at e
   cases e
   rw[M];exact new
  .rw[aw M]at e;exact(I.hok b u e).stay (λc v _ q=>q) (λc q=>by rw[aw (ne c _ q)];exact q) λc D q=>by rw[aw (ne c _ q)];exact q
end
def Trc(h:fo)(x:fc)(C:eN)(T:fc):Prop:=
 ∃ f m d O g,h.Q x=Z f/\f.cls=C/\m[0]?=Z d/\f.data=.fields m/\m[1]?=Z (.ref T)/\T≠x/\h.Q T=Z O/\O.data=.fields g/\g[3]?=Z .none
def Xnw(h:fo)(x:fc)(C:eN):Prop:=∃ f m d,h.Q x=Z f/\f.cls=C/\f.data=.fields m/\m[0]?=Z d/\m[1]?=Z .none
def XA(X:Cx)(B:E (fc×ii))(H:Hp)(s:ff)(x:fc)(C:eN):Prop:=XOk X B H x/\(Xnw s.H x C∨∃ T,XOk X B H T/\Trc s.H x C T)
section
variable{X:Cx}{pins:E (fc×ii)}{σ:St}{H:Hp}{s:ff}{x:fc}{C:eN}{dO:eN->ff->Prop}
abbrev hidX(X:Cx)(h:fo)(ch:E fc):fo:=PySem.W.hideAll h (ch++frs X.stack)
theorem Inv.hidF(I:Inv X pins σ H s)(ch:E fc):s.H.FunFrames (hidX X s.H ch) X.stack:=
 PySem.W.funFrames_hide I.stack λj N a A=>Nj _ (Pf.mpr ⟨j,N,A⟩)
theorem FE(ch:E fc)(h:fo):(hidX X h ch).StaysIn h:=λ_ _ e=>PySem.W.of_hideAll _ e
theorem nB{b:fc}(M:b∈ch):(hidX X h ch).Q b=lf:=PySem.W.hideAll_none _ (NG _ M)
def Inv.left{d:eN}(I:Inv X pins σ H s)(B:X.ex=[])(y:∀ b∈ch,XOk X pins H b)(k:(hidX X s.H ch).StaysIn h')(t:h'.TracedW (hidX X s.H ch) x C d)(u:s.H.UpToSlots h'):
  mu σ H {s,h'}/\∃ T,XOk X pins H T/\Trc h' x C T:=by
 let r:∀ b o,s.H.Q b=Z o->b∈frs X.stack->∃ h,h'.Q b=Z {o with slots:=h}:=λb o e M=>by
  let _ c D hd:=I.stack.mem M;rw[e]at D
  cases D
  exact u b o e hd
 erw[I.xstep y (λb o e J a=>k b o (QD _ e λz=>(Ng.mp z).elim J a)) λb o e _ M=>r b o e M,3];let f m T p g N{i A}hd eK w v n j G:=t;erw[T,3,f,m,d,p,g,N,i,A,hd,eK,v,n,j,G]
 cases q:s.H.Q T with
 |none=>exact I.xok B q (I.hok.none_of q)
 |some o=>
  by_cases z:T∈ch
  .exact y T z
  .by_cases Q:T∈frs X.stack
   .let _ c D O:=I.stack.mem Q;let h e:=r T o q Q;rw[n]at e
    cases e
    rw[q]at D
    cases D
    exact Tn j (O g)
   .let:=QD (ch++frs X.stack) q λl=>(Ng.mp l).elim z Q
    rw[w]at this
    cases this
def Inv.leave{Q:Unit->ff->Prop}(I:Inv X pins σ H s)(B:X.ex=[])(c:X.stack=X.j::X.outer)(a:X.j.frame=Z X.j.locals)(xa:XA X pins H s x C)(h:∀ h' T,Inv X pins σ H {s,h'}->XOk X pins H x->XOk X pins H T->Trc h' x C T->Q () {s,h'}):mj X.A (leaving X.j (.ref x)) Q dO s:=by
 let t r:=xa;let q:X.A.frames=Z (X.j::X.outer):=by rw[← c];exact I.ok.frames
 rcases r with⟨f,m,d,N,J,hd,p,eK⟩|⟨T,k,f,m,d,O,g,N,J,p,hd,eK,v,n,j,G⟩
 .let y:∀ b∈[x],XOk X pins H b:=λb M=>by
   let e:b=x:=by simpa using M
   rw[e];exact t
  refine wpAny_leaving_firstW (base:=hidX X s.H [x]) q (c▸I.hidF [x]) a N (FE _ _) (nB ∅) hd eK p λh' L=>?_
  let D _ k3 u:=L;let l T k i:=I.left B y D k3 u;rw[J]at i;exact h h' T l t k i
 .let y:∀ b∈[x,T],XOk X pins H b:=λb M=>by
   obtain e|M:=MY.mp M
   .rw[e];exact t
   .let e:b=T:=by simpa using M
    rw[e];exact k
  refine wpAny_leaving_nextW (base:=hidX X s.H [x,T]) q (c▸I.hidF [x,T]) a ⟨f,m,T,O,g,N,⟨J,p⟩,hd,eK,nB ∅,v,n,j,G⟩ (FE _ _) (nB ∅) λh' L=>?_
  let D _ k3 u:=L;let l o z i:=I.left B y D k3 u;exact h h' o l t z i
end
section
variable{X:Cx}{k:R}{f C:fc}{fd:ge}{ps:E fI}{sp:Sp}{dvs:E V}{ds:E eN}{W:WK}{x m:fI}{p pos apos:Pos}{e o:hb}{es:E hb}{ta:TE}{t:TA}
end
@[inline] abbrev veM:E eN:=[.type "ValueError",.type "Exception",.type "BaseException",.type "object"]
abbrev ExC(K:MJ)(C:fc):Prop:=RF K C veM "ValueError.__new__"=kt
def F0(e:ExC K C)(X:K.In h):∃ bm N nm A bs hdct sn sub ab col dd k0 k1 k2 k3 k5 mN,h.Q C=Z (excClassObj nm A C N bs bm hdct sn sub ab col dd k0 k1 k2 k3 k5 "ValueError.__new__")/\h.Ns N mN/\mN "__init__"=lf/\OwnTail h veM bm/\∀ B b,PX K C B=Z b->(eN.ref C::bm).contains B=b:=by
 let z:=e;unfold ExC RF at z;split at z
 .rename_i t v w Q;split at z
  .rename_i Cx n f u q o d k I a;let s:=z;simp only[Py,beq_iff_eq,ke.not_eq_true']at s;obtain⟨⟨⟨⟨⟨x,D⟩,p⟩,g⟩,r⟩,i⟩:=s;subst x;subst D;obtain⟨l⟩:=w;let M:l=[f,u,q,o,Z (.builtin "ValueError.__new__"),k]:=a;subst M;let nm bs y J A hd sn sub ab col del:=v;let j:y=.ref Cx::n:=I;let m:del=k9:=p;subst j m;erw[n,J,nm,A,bs,hd,sn,sub,ab,col,t,f,u,q,o,k,_,X _ _ Q,.of_isNs (PySem.W.isNs_of_in X r),PySem.W.nsMap_none_of_in X r i,PySem.W.tail_of_in X g,λB b c=>?_];unfold PX PySem.W.clsIn at c;rw[Q]at c;simpa using c
  .cases z
 .cases z
section
variable{X:Cx}{pins:E (fc×ii)}{σ:St}{H:Hp}{s:ff}{x:fc}{C:eN}
def Cx.marked(X:Cx)(v:eN):Cx:={X with A:=X.A.mark (Z v),calm:=k9,xe:=λ_ _=>False}
theorem Inv.marked(I:Inv X pins σ H s)(v:eN):Inv (X.marked v) pins σ H s:=
 ⟨⟨I.ok.mod,I.ok.kind,I.ok.glob,I.ok.blt,I.ok.above,I.ok.inj,I.ok.has,I.ok.cab,λz=>(by cases z),I.ok.frames,I.ok.stk,I.ok.exf,I.ok.bs,I.ok.bsz,I.ok.noex,I.ok.exfs,I.ok.funs,I.ok.frf⟩,I.os,I.bare,I.base,I.loc,I.cell,I.free,I.freeC,I.pin,I.hok,I.len⟩
theorem Inv.unmarked{hd:X.calm=kt->X.A.handled=lf}{fr:X.A.frames=Z X.stack}{v:eN}(I:Inv (X.marked v) pins σ H s):Inv X pins σ H s:=
 ⟨⟨I.ok.mod,I.ok.kind,I.ok.glob,I.ok.blt,I.ok.above,I.ok.inj,I.ok.has,I.ok.cab,hd,fr,I.ok.stk,I.ok.exf,I.ok.bs,I.ok.bsz,I.ok.noex,I.ok.exfs,I.ok.funs,I.ok.frf⟩,I.os,I.bare,I.base,I.loc,I.cell,I.free,I.freeC,I.pin,I.hok,I.len⟩
end
section
variable{M:Model}{A:Around}{dO:eN->ff->Prop}{h:fo}{g:kf GenState}{d:Drawn}{t:R}{os:OsState}
end
def Cx.tried(X:Cx)(B:E (fc×ii))(dO:eN->ff->Prop):Cx:={X with pn:=X.pn++B,xe:=dO}
section
variable{X:Cx}{pins pins':E (fc×ii)}{σ:St}{H:Hp}{s:ff}{dO:eN->ff->Prop}{b:fc}
theorem Inv.tried(I:Inv X pins σ H s):Inv (X.tried pins dO) [] σ H s:=
 ⟨⟨I.ok.mod,I.ok.kind,I.ok.glob,I.ok.blt,I.ok.above,I.ok.inj,I.ok.has,I.ok.cab,I.ok.hd,I.ok.frames,I.ok.stk,I.ok.exf,I.ok.bs,I.ok.bsz,I.ok.noex,I.ok.exfs,I.ok.funs,I.ok.frf⟩,I.os,I.bare,I.base,I.loc,I.cell,I.free,I.freeC,λp G=>I.pin p (by rw[NT]at G;exact G),I.hok,I.len⟩
theorem Inv.untried(I:Inv (X.tried pins dO) pins' σ H s):Inv X pins σ H s:=
 ⟨⟨I.ok.mod,I.ok.kind,I.ok.glob,I.ok.blt,I.ok.above,I.ok.inj,I.ok.has,I.ok.cab,I.ok.hd,I.ok.frames,I.ok.stk,I.ok.exf,I.ok.bs,I.ok.bsz,I.ok.noex,I.ok.exfs,I.ok.funs,I.ok.frf⟩,I.os,I.bare,I.base,I.loc,I.cell,I.free,I.freeC,λp G=>I.pin p (NG _ G),I.hok,I.len⟩
theorem XOk.untried(x:XOk (X.tried pins dO) pins' H b):XOk X pins H b:=⟨x.old,x.trk,x.nl,x.nc,λp G=>x.np p (NG _ G)⟩
def SP.untried{D:Ends}{f:Flow}(h:SP (X.tried pins dO) [] D f s):SP X pins D f s:=by
 cases f with
 |next=>obtain⟨O,l,I,q⟩:=h;erw[O,l,I.untried,q]
 |brk=>obtain⟨O,l,I,q⟩:=h;erw[O,l,I.untried,q]
 |cont=>obtain⟨O,l,I,q⟩:=h;erw[O,l,I.untried,q]
 |ret u=>obtain⟨v,O,l,I,r,q⟩:=h;erw[v,O,l,I.untried,r,q]
end
section
variable{X:Cx}{k:R}{f:fc}{fd:ge}{ps:E fI}{sp:Sp}{dvs:E V}{ds:E eN}{W:WK}{x:fI}{p pos:Pos}{e:hb}{es:E hb}{t:TA}
end
section
variable{prog:hx}{w:ix}{A:Around}{dO:eN->ff->Prop}{s:ff}
def Fc:typeLookup (.type "list_reverseiterator") "__len__"=pure lf:=by rfl
def ID:typeLookup (.type "list_reverseiterator") "__length_hint__"=pure (Z (.builtin "list_reverseiterator.__length_hint__")):=by rfl
def IP{r:fc}{Q:ke->ff->Prop}(C:s.TypeIs (.ref r) "list_reverseiterator")(h:Q k9 s):mi A (Sz (.ref r)) Q dO s:=by
 unfold Sz;refine R4 (Sy C Fc ?_);wp_delta;refine SA (λo=>Tn o ∅) (λ_=>?_)
 refine SA (λo=>Tn o ∅) (λ_=>?_)
 refine R4 (Sy C ID ?_);generalize hid:("list_reverseiterator.__length_hint__" : String)=a;wp_delta;rw[show splitId a=Z ("list_reverseiterator","__length_hint__") from by subst hid;rfl]
 subst hid;refine R4 (SD (T:="list_reverseiterator") (b:=kt) C (by rfl) ?_)
 refine SA (λo=>Tn o ∅) (λ_=>?_)
 refine SA (λ_=>?_) (λo=>Tn (by rfl) o)
 refine SA (λo=>Tn o (by assumption)) (λ_=>?_)
 exact R7 h
end
def Inv.track{B:E (fc×ii)}{s:ff}{o:HO}(I:Inv X B O H s)(f:FpOk X B H a)(new:bC X.i X.w (upd H a o) s.H a o):Inv X B O (upd H a o) s:=by
 let g p x r d Q:=f;let ne:∀ b u,H b=Z u->b≠a:=λb u e=>aH e g;refine I.step (g':=s.gens) (t':=s.u) (d':=s.drawn) (h':=s.H) (ch:=[a]) (λb M=>?_) (λb o _ _ _ e _=>e) (λb o _ _ _ e _=>⟨o.slots,e⟩) (λb o J e n=>?_) (λb o _ e=>⟨o,e⟩) (λb D e=>by rw[aw (ne b _ e)];exact e) (λb o u e=>by rw[aw (ne b _ e)];exact e)
  (λb N e=>⟨#[],by rw[aw (ne b _ e),e];simp⟩) (λm y=>y) (λb u e=>?_) I.bare
 .let C:b=a:=by simpa using M
  rw[C];erw[r,p,d,Q]
 .rw[aw (λz=>J (by simp[z]))]
  exact n
 .by_cases M:b=a
  .rw[M,ag]at e
   cases e
   rw[M];exact new
  .rw[aw M]at e;exact(I.hok b u e).stay (λc v _ q=>q) (λc q=>by rw[aw (ne c _ q)];exact q) λc D q=>by rw[aw (ne c _ q)];exact q
theorem xG{P:hx}{w:ix}:∀{kvs:E (Key×V)}{vs:E (Key×eN)}{us:E eN},KV kvs vs->us.L=vs.L->(∀(j:R)(v:eN),us[j]?=Z v->∃ k x,vs[j]?=Z (k,x)/\(bF P w).is k v=kt)->Vals (kvs.Z λq=>kV q.1) us:=by
 intro kvs vs us h;induction h generalizing us with
 |nil=>
  intro e k;cases us with
  |nil=>exact .nil
  |cons=>cases e
 | @cons p q _ _ r O ih=>
  intro e k;cases us with
  |nil=>cases e
  |cons u us=>
   let N x f A:=k 0 u U;let C:q=(N,x):=Ny f;let D:p.1=N:=by rw[r.1,C]
   refine .cons ?_ (ih (Qu e) λj v G=>k (j+1) v G);show RelV (kV p.1) u;rw[D];rcases bj (show qT N u=kt from A) with⟨i,t,rfl,rfl⟩|⟨z,t,rfl,rfl⟩<;>erw[t,U]
def Inv.turnedL{B:E (fc×ii)}{s:ff}(I:Inv X B O H s)(k:∀ b o,b∉fp->s.H.Q b=Z o->h'.Q b=Z o)(A:∀ b∈fp,FpOk X B H b):Inv X B O H {s with heap:=h',toks:=t'}:=by
 let f:∀ b u,H b=Z u->b∉fp:=λb u e z=>by rw[(A b z).1]at e;cases e
 refine I.step (g':=s.gens) (d':=s.drawn) (ch:=fp) (λb M=>?_) (λb o _ _ J e _=>k b o J e) (λb o _ _ J e _=>⟨o.slots,k b o J e⟩) (λ_ _ _ _ n=>n)
  (λb o J e=>⟨o,k b o J e⟩) (λ_ _ e=>e) (λ_ _ _ e=>e) (λb N e=>⟨#[],by assumption⟩) (λm y=>?_) (λb u e=>?_) I.bare
 .let g p x a d Q:=A b M;erw[a,p,d,Q]
 .let o L j D r:=y;erw[o,L,j,k _ o (λz=>(A _ z).2.1 U) D,r]
 .refine(I.hok b u e).stay (λc v J q=>k c v ?_ q) (λ_ q=>q) λ_ _ q=>q;obtain z|z:=J
  .rw[z];exact f b u e
  .exact f c _ z
def Ite(K:MJ)(a:fc):It:=
 ⟨λi H=>∃ D x,pi a D/\D[i]?=Z x,λi H v l=>∃ T x,H T=lf/\v=.ref T/\l=upd H T (.tup [.int (i:Y),x])/\∀ D,pi a D->D[i]?=Z x,λi H=>∃ D,pi a D/\D.L<=i⟩
theorem DG{es:E hb}{k:R}(a e it:fc)(aL:e≠it):Turn P w K (.Tuple es k pos) (Ite K a) [e,it] e (λi h=>(∃ ac,IsEnum h e it ((i:R):Y) ac)/\h.IsListIter it a i) where
 mem:=by simp
 obj:=λi h st b M=>by
  let{ac N}o A c d:=st;obtain rfl|M:=MY.mp M
  .erw[_,N,λv z=>by
    contradiction]
  .let e3:b=it:=by simpa using M
   subst e3;erw[o,A,λv z=>by simp!]
 keep:=λi h h' st l=>by
  let{ac N}aa:=st;erw[⟨ac,l e ∅ _ N⟩,aa.at λo q=>l it ∅ o q]
 item:=by
  intro X hP hw hK J i B s L H dO I eK st r;subst hP hw hK;let C x n G:=r;let Q rv p hz:=I.list n;let u f ru:=rv.get G;let{ac N}aa:=st;refine wpAny_pyNext_enum_item N aa p.isList (x:=u) (by simpa using f) aL λh' g aS y ab D=>?_
  erw[57];refine wpAny_letOwnedTupleGo_enum g λO av al=>?_;let ah:RU e h' O:=al;let aI:e<s.H.M.J:=RP N;let ap:it<s.H.M.J:=by let _ q _:=aa;exact RP q
  let am:H s.H.M.J=lf:=I.hok.fresh (MN _);let I0:nw (upd H s.H.M.J (.tup [.int (i:Y),x])) {s with heap:=s.H.e {cls:=.type "tuple",data:=.seq #[.int (i:Y) s.u,u]},toks:=s.u+1}:=
   I.laid (t':=s.u+1) (λb u e=>R8 _ e) (MN _) ⟨by show 2<=RO;decide,[.int (i:Y) s.u,u],.cons ⟨_,U⟩ (.cons ru .nil),⟨_,R9 _ U,U,_,U⟩⟩
  let an:∀ b∈[e,it],b<s.H.M.J:=λb M=>by
   obtain rfl|M:=MY.mp M
   .exact aI
   .simp!
  let T:∀ b∈[e,it],upd H s.H.M.J (.tup [.int (i:Y),x]) b=lf:=λb M=>by
   rw[aw (Nh (an b M))];exact(eK b M).1
  let I2:nw (upd H s.H.M.J (.tup [.int (i:Y),x])) {s with heap:=O,toks:=s.u+1}:=Inv.turnedL (s:={s with heap:=s.H.e {cls:=.type "tuple",data:=.seq #[.int (i:Y) s.u,u]},toks:=s.u+1}) (h':=O) I0 (t':=s.u+1) (fp:=[e,it]) (λb o M q=>by
   let nb:b≠e:=λz=>M (by simp[z])
   let ar:b≠it:=λz=>M (by simp[z])
   refine(ah.2 b nb).P ?_;rcases fo.get?_push_cases q with⟨z1,z2⟩|q
   .simp!
   .exact D b o nb ar q) λb M=>⟨T b M,(eK b M).2⟩
  erw[.ref s.H.M.J,_,I2,U,⟨s.H.M.J,x,am,U,U,λm j=>by rw[I.list_inj j n];exact G⟩,3,T]
  erw[⟨u,?_⟩,aS.at λo q=>(ah.2 it (Ne.X aL)).P q];let e4:(((i+1:R):R):Y)=(i:Y)+1:=by lia
  rw[e4];exact av
 done:=by
  intro X hP hw hK J i B s L H dO I eK st r;subst hP hw hK;let C n G:=r;let Q rv p hz:=I.list n;let{ac N}aa:=st;let t:=rv.L;let f0 f1 f2 f3 f4 f5:=eK it ∅
  exact wpAny_pyNext_enum_end (I.ok.hd J) N aa p.isList (by simp!) λh' eb=>⟨U,I.turned (t':=s.u) (λb o M e=>eb b o M e) f0 f1 f3 f4 f5⟩
 self:=λ_ _ _ _ _ st h=>by
  let{ac N}_:=st;exact wpAny_pyIter_enum N h
def iEnum(K:MJ)(l:TA):TI:=λL H ad=>l L H λm j=>∃ a,m=[.ref a]/\(∃ D,SqL K j a D)/\ad (Ite K a) j
def lZ{l:hb}{f:TA}{es:E hb}{k:R}{p:Pos}(A:Gl X "enumerate")(y:X.mg "enumerate"=lf)(O:PA X [l] f)(T:uP_ (RV [l] X.j=[(k9,eval l X.j)]) uR_):
  PI X (.Tuple es k tp) (.Call (.Name "enumerate" p) [l] [] pos) (iEnum X.K f):=by
 intro B s L H ad I h;refine Call_ (iB I A y yC (Sa (thn (O pos B s L H _ I h) λo C ⟨m,j,i,J,dO⟩=>?_) T U));let a e{x n}q:=dO;subst e;let u rfl c:=lu J
 cases c
 let d rv p g:=i.list n;refine call_enumerate_list p.isList λeK N t r D=>?_;refine wpAny_pyIter_enum N ?_;erw[C.H.M.J+1,[C.H.M.J+1,C.H.M.J],5,j,U,i.kept (t':=C.u) D,DG a _ _ (Nat.succ_ne_self _),⟨⟨_,N⟩,t⟩,λb M=>?_,q];let v:C.H.M.J<=b:=by
  obtain rfl|M:=MY.mp M
  .exact OH _
  .simp!
 exact i.fpOk v (i.hok.fresh v)
def vt{g:TG}(Pv:R->St->Hp->Prop)(A:Pv 0 O H)(hl:∀ i O H,i<=xs.L->Pv i O H->pi a xs)(k:∀ i x O H T,xs[i]?=Z x->Pv i O H->H T=lf->g (.ref T) O (upd H T (.tup [.int (i:Y),x])) λh H2=>tb (D.lop (Pv (i+1))) h H2)(hd:∀ O H,Pv xs.L O H->D.nx O H):
  ∃ W:R->R->St->Hp->Prop,(∃ m,W 0 m O H)/\∀ i m O H,W i m O H ->
   ((Ite K a).stop i H/\D.nx O H)∨((Ite K a).go i H/\∃ N:St->Hp->Prop,(∀ σ' H',N σ' H'->∃ f,f<m/\W (i+1) f σ' H')/\∀ x H',(Ite K a).yld i H x H'->g x O H' λh H2=>tb (D.lop (N)) h H2):=by
 erw[λi m O H=>m=xs.L-i/\i<=xs.L/\Pv i O H,⟨xs.L,by simp,ND _,A⟩,3]
 rintro i m O H ⟨rfl,J,p⟩;let q:=hl i O H J p;by_cases Q:i<xs.L
 .refine .inr ⟨⟨xs,xs[i],q,by simp⟩,Pv (i+1),λσ' H' B=>⟨xs.L-(i+1),∅,U,Q,B⟩,λv H' y=>?_⟩
  let T x C rfl rfl y:=y;exact k i x O _ T (y xs q) p C
 .let e:i=xs.L:=by lia
  subst e;exact .inl ⟨⟨xs,q,MN _⟩,hd O H p⟩
def iu(h:j<n):ixN n (j:Y)=Z j:=by
 unfold ixN;simp[*]
theorem ka:∀{ds:E hH},(∀ d∈ds,d.canLay0=kt)->hH.canLayAll0 ds=kt
 |[],_=>by rfl
 |d::ds,h=>by
  rw[hH.canLayAll0,h d ∅,ka λx B=>h x (by simp[B])]
  rfl
theorem mH{n:R}:∀{ds:E hH},(∀ d∈ds,d.depth<=n)->hH.depthAll ds<=n
 |[],_=>by simp[hH.depthAll]
 |d::ds,h=>by
  let eK:=h d ∅
  let O:=mH (ds:=ds) λx B=>h x (M6 _ B);rw[hH.depthAll];lia
def lH{ds:E hH}(h:∀ d∈ds,d.canLay0=kt/\d.depth<=10):SeqAt.shaped (.list ds)=kt:=by
 let eK:=ka λd hd=>(h d hd).1;let O:=mH λd hd=>(h d hd).2;let G:SE (.list ds)<=64:=by simp only[SE];lia
 show(hH.canLay0 (.list ds)&&decide (SE (.list ds)<=64))=kt;rw[Py];erw[by assumption,Sx G]
def cxG(X:Cx)(scope:io)(fr:E (fI×R))(xs:E fI)(C:fc)(ex:E fc)(s:ff)(H:Hp):Cx where
 prog:=X.i
 w:=X.w
 K:=X.K
 mg:=X.mg
 base:=X.base
 A:=X.A
 N:=xs++fr.Z (·.1)
 s₀:=s
 H₀:=H
 env:=compEnvC scope (clOf X.j fr) C X.j
 outer:=X.stack
 stack:=X.stack
 ex:=ex
 fn:=λ_=>k9
 calm:=X.calm
 pn:=[]
 xe:=λ_ _=>False
structure pN(X:Cx)(scope:io)(fr:E (fI×R))(xs:E fI):Prop where
 clos:closureFor scope X.j=pure (clOf X.j fr)
 cell:∀ y∈scope.names,y.2≠.cell
 kind:scope.kind=.function
 names:∀ y∈scope.names,y.2=.local->scope.names.Y y.1=Z .local
 slot:∀ p∈fr,X.N[p.2]?=Z p.1/\X.j.kindOf p.1=Z .cell
 has:∀ y∈(relabel scope X.j).names,(y.2=.cell∨y.2=.free)->y.1∈fr.Z (·.1)
 frk:∀ p∈fr,(relabel scope X.j).names.Y p.1=Z .cell
theorem pN.of{xs:E fI}(clos:closureFor scope X.j=pure (clOf X.j fr))(cell:∀ y∈scope.names,y.2≠.cell)(kind:scope.kind=.function)(names:∀ y∈scope.names,y.2=.local->scope.names.Y y.1=Z .local)(slot:∀ p∈fr,X.N[p.2]?=Z p.1/\X.j.kindOf p.1=Z .cell)(a:∀ z∈scope.names,z.2=.free->z.1∈fr.Z (·.1))(frk:∀ p∈fr,(relabel scope X.j).names.Y p.1=Z .cell):pN X scope fr xs where
 clos:=clos
 cell:=cell
 kind:=kind
 names:=names
 slot:=slot
 has:=λz f D=>by
  let{n k}w e:=Nc.mp (show z∈scope.names.Z _ from f);let O:=cell _ w;dsimp only at e O;let T:z.1=n:=by rw[← e];split<;>rfl
  let A:k=.free:=by
   by_cases q:k=.free
   .exact q
   .let M:(k == NameKind.free)=k9:=by simpa using q
    lia
  let:=a _ w A;rw[T];exact this
 frk:=frk
abbrev nons(xs:E fI):St:=MV xs.L lf
section
variable{X:Cx}{pins:E (fc×ii)}{σ:St}{H:Hp}{s:ff}{scope:io}{fr:E (fI×R)}{xs:E fI}
def pN.cells(O:pN X scope fr xs)(I:mu σ H s){y:fI}{c:fc}(h:(clOf X.j fr).Y y=Z c):X.j.cells.Y y=Z c:=by
 let w e:=lE h;let p G j:=Nc.mp w;let k:=(O.slot p G).2;rw[j]at k;let v Q:=I.ok.has y (.inl k);simp[*]
def Fv(O:pN X scope fr xs)(I:mu σ H s)(B:∀ b∈fp,FpOk X pins H b)(am:∀ b∈fp,b<s.H.M.J){g:fo}{tk:R}(a:g=s.H.e (SF []))(D:∀ b o,g.Q b=Z o->h'.Q b=Z o)(hC:h'.Ns g.M.J λ_=>lf):
  Inv (cxG X scope fr xs g.M.J (s.H.M.J::fp) {s,g} H) (X.pn++pins++[(s.H.M.J,SF [])]) (nons xs++frOf fr σ) H {s with heap:=h',toks:=tk}:=by
 let aa:g.M.J=s.H.M.J+1:=by rw[a,Sj]
 let kp:∀ b o,s.H.Q b=Z o->g.Q b=Z o:=λb o e=>by rw[a];exact R8 _ e
 let ap:∀ b o,s.H.Q b=Z o->h'.Q b=Z o:=λb o e=>D b o (kp b o e);let aS:h'.Q s.H.M.J=Z (SF []):=D _ _ (by rw[a];exact R9 _ U)
 let ah:∀ b,b<s.H.M.J->b≠g.M.J:=λb e=>by rw[aa];exact Nh (OB e)
 let ar:s.H.M.J≠g.M.J:=by rw[aa];exact Nh (Oe _)
 let ab:H g.M.J=lf:=I.hok.fresh (by rw[aa];exact OH _)
 let aT:H s.H.M.J=lf:=I.hok.fresh (MN _);let cne:∀ y c,X.j.cells.Y y=Z c->c<s.H.M.J:=λy c e=>by
  let v q:=I.cell y c e;exact q.lt
 let aI:∀ b,b≠X.j.locals->b∉X.fs->b∉frs X.stack:=λb eK N z=>(MY.mp (I.stkSub b z)).elim eK N;let av:s.H.M.J∉frs X.stack:=aI _ (N9 I.lt) (I.nofs (MN _));erw[⟨I.ok.mod,O.kind,I.ok.glob,I.ok.blt,MN _,?_,?_,λ_ _ z _=>(by cases z),I.ok.hd,I.ok.frames,.inl U,?_,?_,?_,?_,?_,?_,I.stkFree⟩,U,I.bare,Un.kept D,15,ab,15,I.hok.kept ap,3]
 .intro y z c eK N;exact I.ok.inj y z c (O.cells I eK) (O.cells I N)
 .intro y dO;let j:y∈fr.Z (·.1):=by
   obtain dO|dO:=dO
   .exact O.has (y,_) (OT dO) (.inl U)
   .exact O.has (y,_) (OT dO) (.inr U)
  erw[_,gj j]
 .intro b M;obtain rfl|M:=MY.mp M
  .erw[ar,λy c e=>Nh (cne y c (O.cells I e))]
  .erw[ah b (am b M),λy c e=>(B b M).2.2.2.2.1 y c (O.cells I e)]
 .intro b o e;erw[kp b o (I.bs b o e).1,(I.bs b o e).2]
 .show X.base.M.J<=g.M.J;rw[aa];exact OQ (NH I.ok.bsz I.sz)
 .intro b o e M;obtain z|M:=MY.mp M
  .let:=RP (I.bs b o e).1
   rw[z]at this;exact Ob _ this
  .rcases(B b M).2.2.2.1 with z|z
   .exact I.ok.noex b o e z
   .exact Tn (Ni (RP (I.ok.bs b o e).1) z) (Ob _)
 .intro b M;obtain z|M:=MY.mp M
  .rw[z];exact av
  .exact aI b (B b M).2.1 (B b M).2.2.1
 .exact(I.kept (h':=g) (t':=s.u) kp).stack
 .erw[_,hC,λi y v f A L=>?_];let aL:(xs++fr.Z (·.1))[i]?=Z y:=f;by_cases J:i<xs.L
  .rw[MT (by simpa using J)]at A
   rw[Ow,Ti J]at A
   cases A
  .let ac:(fr.Z (·.1))[i-xs.L]?=Z y:=by
    rw[MR ∅]at aL
    exact aL
   let al:(frOf fr σ)[i-xs.L]?=Z (Z v):=by
    rw[MR (by simp;lia)]at A
    simpa using A
   generalize i-xs.L=k at ac al;unfold frOf at al;rw[MO]at ac al
   cases q:fr[k]? with
   |none=>rw[q]at ac;cases ac
   |some p=>
    rw[q]at ac al;let ey:p.1=y:=Ny ac;let ev:(σ[p.2]?).join=Z v:=Ny al;let G:p∈fr:=MH q;let hN hK:=O.slot p G;let an:=O.frk p G;rw[ey]at hN hK an;let a0:σ[p.2]?=Z (Z v):=by
     cases x:σ[p.2]? with
     |none=>rw[x]at ev;cases ev
     |some w=>rw[x]at ev;exact congrArg Z ev
    let m T t:=I.loc;let u r l:=t p.2 y v hN a0 (.inr (.inl hK));erw[u,r,3];rcases l with⟨h,_⟩|⟨_,c,ec,z⟩
    .rw[hK]at h;cases h
    .let j:y∈fr.Z (·.1):=by rw[← ey];exact Nc.mpr ⟨p,G,U⟩
     let el:=gj (env:=X.j) j;rw[ec]at el;exact .inr ⟨.inl an,c,el,by let o Q hd:=z;erw[o,ap _ _ Q,hd]⟩
 .intro y c e;let v o Q hd:=I.cell y c (O.cells I e);erw[v,o,ap _ _ Q,hd]
 .intro y c e;exact I.freeC y c (O.cells I e)
 .intro p G;obtain G|G:=Ng.mp G
  .cases G
  .obtain G|G:=Ng.mp G
   .let e n ne nf d:=I.pin p G;erw[ap _ _ e,n,ah _ (RP e),aI _ ne nf,d]
   .let C:p=(s.H.M.J,SF []):=by simpa using G
    subst C;erw[aS,aT,ar,av,λv z=>by cases z]
 .show(nons xs++frOf fr σ).L=(xs++fr.Z (·.1)).L;unfold frOf;simp
def vk{g:fo}{s':ff}{σ':St}(I:mu σ H s)(A:∀ b∈fp,FpOk X pins H b)(a:g=s.H.e (SF []))(J:Inv (cxG X scope fr xs g.M.J (s.H.M.J::fp) {s,g} H) (X.pn++pins++[(s.H.M.J,SF us)]) σ' H' s')(t:Vals ys us)(hl:ys.L<=RO):
  mu σ (upd H' s.H.M.J (.lst ys)) s'/\H' s.H.M.J=lf/\FpOk X pins (upd H' s.H.M.J (.lst ys)) g.M.J/\∃ m,s'.H.Ns g.M.J m:=by
 let d:g.M.J=s.H.M.J+1:=by rw[a,Sj]
 let i:∀ b o,s.H.Q b=Z o->g.Q b=Z o:=λb o e=>by rw[a];exact R8 _ e
 let r h _ _ _:=J.pin (s.H.M.J,SF us) ∅
 let l:g.M.J≠s.H.M.J:=by rw[d];exact N9 (Oe _)
 let k:∀ b u,H' b=Z u->b≠s.H.M.J:=λb u e z=>by simp!
 let B:∀ b o,s.H.Q b=Z o->b∉fp->b∉s.H.M.J::fp:=λb o e M z=>by
  obtain z|z:=MY.mp z
  .let:=RP e
   simp!
  .exact M z
 let p:Un (frs X.stack) (s.H.M.J::fp) H H' g s'.H:=J.base;let x:∀ b o,s.H.Q b=Z o->b≠s.H.M.J:=λb o e=>Nh (RP e);let un:Un (frs X.stack) fp H (upd H' s.H.M.J (.lst ys)) s.H s'.H:=by
  erw[λb o e n M N=>p.keep b o (i b o e) n M (B b o e N),λb o e n M N=>p.slot b o (i b o e) n M (B b o e N),λb o e n N=>?_,λb o e N=>p.there b o (i b o e) (B b o e N),λb xs e=>?_,λb o u e=>?_,λb j e=>?_]
  .rw[aw (x b o e)];exact p.free b o (i b o e) n (B b o e N)
  .let q:=p.tups b xs e
   rw[aw (k b _ q)];exact q
  .let q:=p.frzs b o u e
   rw[aw (k b _ q)];exact q
  .let f q:=p.tbls b j e;erw[f,by rw[aw (k b _ q)];exact q]
 let dO:HOk X.i X.w (upd H' s.H.M.J (.lst ys)) s'.H:=λb u e=>by
  by_cases M:b=s.H.M.J
  .rw[M,ag]at e
   cases e
   rw[M];erw[hl,us,us.L,t,r]
  .rw[aw M]at e;exact(J.hok b u e).stay (λc v _ q=>q) (λc q=>by rw[aw (k c _ q)];exact q) λc xs q=>by rw[aw (k c _ q)];exact q
 let os:s'.os=s.os:=J.os;erw[I.call' os un dO J.bare λb M=>⟨(A b M).2.2.2.1,(A b M).2.1,(A b M).2.2.2.2⟩,h,15]
 .refine I.fpOk (H':=upd H' s.H.M.J (.lst ys)) (b:=g.M.J) (by rw[d];exact OH _) ?_
  rw[aw l];exact J.free
 .let m T _:=J.loc;erw[m,T]
end
def PTs(X:Cx)(j:E hb)(t:TT):Prop:=
 ∀(B:E (fc×ii))(s:ff)(L:St)(H:Hp)(Q:ke->Hp->Prop),nw H s->t L H Q ->
  mj X.A (forIn j kt λc r=>if r=kt then do let ok ← isTrue c X.j (eval c X.j);pure (ForInStep.yield ok) else pure (ForInStep.yield r)) (λb o=>∃ l,nw l o/\Q b l) X.xe s
def tYes:TT:=λ_ H Q=>Q kt H
theorem Lo:PTs X [] tYes:=λ_ _ _ H _ I h=>wpAny_tests_nil ⟨H,I,h⟩
theorem fV{c:hb}{t:TT}(h:PT X c t):PTs X [c] t:=λB s L H Q I q=>wpAny_tests_one (h B s L H Q I q)
section
variable{prog:hx}{w:ix}{A:Around}{s:ff}
def GA{l a b:hb}{j:E hb}{it:eN}(I:R->ff->Prop)(turn:∀ n s,I n s->mi A (pyNext it) (λr s₁=>match r with
   |none=>ad (.ok .next) s₁
   |some v=>mi A (letOwnedTupleGo a it v) (λ_ s₀=>mi A (assign a env v) (λ_ s₂=>
     mi A (forIn j kt λc r=>if r=kt then do let ok ← isTrue c env (eval c env);pure (ForInStep.yield ok) else pure (ForInStep.yield r)) (λok f=>if ok=kt then mi A (eval l env) (λx i=>
      mi A (call (.builtin "list.append") [u,x]) (λ_ k=>∃ m,m<n/\I m k) (notedBy (model prog w) A env λe s'=>ad (.error e) s') i) (notedBy (model prog w) A env λe s'=>ad (.error e) s') f
      else ∃ m,m<n/\I m f) (notedBy (model prog w) A env λe s'=>ad (.error e) s') s₂)
     (notedBy (model prog w) A env λe s'=>ad (.error e) s') s₀) (notedBy (model prog w) A env λe s'=>ad (.error e) s') s₁) (notedBy (model prog w) A env λe s'=>ad (.error e) s') s)(n:R)(h:I n s):Si (model prog w) A (.compLoop (.ListComp l [⟨a,b,j,0⟩] scope pos) 0 it u env) ad s:=by
 refine codeAny_loop U I (λn s z=>?_) n h;show wpAny _ A ((compTurn (.ListComp l [⟨a,b,j,0⟩] scope pos) 0 it u env).onRaise (λx=>do noteFrame x env;theTreesLotGoes x)) _ _ s
 refine wpAny_noted ?_;rw[compTurn_list];refine R4 (wpAny_standAt (R4 (RW (turn n s z) (λr s₁ L=>?_) λ_ _ O=>O)))
 cases r with
 |none=>exact R7 L
 |some v=>
  refine R4 (RW L (λ_ s₀ o=>?_) λ_ _ O=>O);refine R4 (RW o (λ_ s₂ q=>?_) λ_ _ O=>O);refine R4 (RW q (λp f N=>?_) λ_ _ O=>O)
  cases p with
  |false=>exact R7 ⟨U,N⟩
  |true=>exact R4 (R4 (RW N (λx i d=>R4 (RW d (λ_ k g=>R7 (R7 ⟨U,g⟩)) λ_ _ O=>O)) λ_ _ O=>O))
end
def jE(g:TG)(t:TT)(r:TE)(n:R)(a:St)(J:It)(H1:Hp)(QQ:E V->Hp->Prop):Prop:=
 ∃ W:R->R->E V->Hp->Prop,(∃ m,W 0 m [] H1)/\∀ i m k H,W i m k H->k.L<=RO /\
  ((J.stop i H/\QQ k H)∨(J.go i H/\∃ N:E V->Hp->Prop,(∀ I d,N I d->∃ f,f<m/\W (i+1) f I d) /\
   ∀ x l,J.yld i H x l->g x (MV n lf++a) l λh d=>h.drop n=a/\t h d λb q=>if b=kt then r h q (λy c=>N (k++[y]) c) else N k q))
section
variable{X:Cx}{scope:io}{fr:E (fI×R)}{xs:E fI}{elt iter tg:hb}{ifs:E hb}{pos:Pos}{te:TE}{tt:TT}{tgt:TG}{wi:TI}
def tQ{B:E (fc×ii)}{L:St}{s:ff}{tn:R->fo->Prop}{J:It}{RR:eN->fc->Result->ff->Prop}(d:X.calm=kt)(O:pN X scope fr xs)(ar:∀ C ex s H,PG (cxG X scope fr xs C ex s H) tg tgt)(k:∀ C ex s H,PTs (cxG X scope fr xs C ex s H) ifs tt)(f:∀ C ex s H,PE (cxG X scope fr xs C ex s H) elt te)(I:nw H s)(T:Turn X.i X.w X.K tg J fp it tn)(st:tn 0 s.H)(hf:∀ b∈fp,FpOk X B H b)(a:jE tgt tt te xs.L (frOf fr L) J H QQ)(aa:∀ D C H4 ys s4 m,nw (upd H4 D (.lst ys)) s4->H4 D=lf->FpOk X B (upd H4 D (.lst ys)) C->s4.H.Ns C m->QQ ys H4->RR (.ref D) C (.ok .next) s4):
  mj X.A (newList []) (λab al=>mj X.A (newFunctionEnv scope X.j.globals (clOf X.j fr) [] X.j.qual lf .none (Z X.j)) (λa6 aS=>
   Si (model X.i X.w) X.A (.compStart (.ListComp elt [⟨tg,iter,ifs,0⟩] scope pos) 0 (.ref it) ab {a6 with scope:=relabel scope X.j}) (RR ab a6.locals) aS) dO al) dO s:=by
 let W{m0 w0}turn:=a;let aT:∀ b∈fp,b<s.H.M.J:=λb M=>by
  let o e _:=T.obj 0 s.H st b M;exact RP e
 refine SG (wpAny_newFunctionEnv O.cell (by intro y hy;simp at hy) (λah av aI=>?_) O.kind)
 dsimp only at av aI ⊢;generalize bf:s.H.e {cls:=.type "list",dict:=lf,data:=.seq ([]:E eN).toArray}=g at av aI ⊢;let hg:g=s.H.e (SF []):=bf.X;let hsz:g.M.J=s.H.M.J+1:=by rw[hg,Sj]
 let l:∀ b o,g.Q b=Z o->ah.Q b=Z o:=λb o e=>aI.U b o (Nh (RP e)) (R8 _ e);let kp:∀ b o,s.H.Q b=Z o->ah.Q b=Z o:=λb o e=>l b o (by rw[hg];exact R8 _ e)
 let J0:=Fv (h':=ah) (tk:=s.u+([]:E (fI×eN)).L) O I hf aT hg l av;let am:∀{H':Hp}{us:E eN},(∀ b∈fp,H' b=lf)->∀ b∈fp,FpOk (cxG X scope fr xs g.M.J (s.H.M.J::fp) {s,g} H) (X.pn++B++[(s.H.M.J,SF us)]) H' b:=λ{H' us} hn b M=>by
  let _ f1 f2 f3 f4 f5:=hf b M;erw[hn b M,3,λz=>(MY.mp (I.stkSub b z)).elim f1 f2,.inl (M6 _ M),λy c e=>f4 y c (O.cells I e),λp G=>?_]
  .show b≠g.M.J;rw[hsz];exact Nh (OB (aT b M))
  .obtain G|G:=Ng.mp G
   .cases G
   .obtain G|G:=Ng.mp G
    .exact f5 p G
    .let ep:p=(s.H.M.J,SF us):=by simpa using G
     rw[ep];exact N9 (aT b M)
 let a7:Si (model X.i X.w) X.A (.compLoop (.ListComp elt [⟨tg,iter,ifs,0⟩] scope pos) 0 (.ref it) (.ref s.H.M.J) (compEnvC scope (clOf X.j fr) g.M.J X.j))
   (RR (.ref s.H.M.J) g.M.J) {s with heap:=ah,toks:=s.u+([]:E (fI×eN)).L}:=by
  refine GA (λn s'=>∃ i ys us H',Inv (cxG X scope fr xs g.M.J (s.H.M.J::fp) {s,g} H) (X.pn++B++[(s.H.M.J,SF us)]) (nons xs++frOf fr L) H' s'/\Vals ys us/\tn i s'.H/\(∀ b∈fp,H' b=lf)/\W i n ys H') ?_ m0
   ⟨0,[],[],H,J0,.nil,T.keep 0 s.H ah st λb _ o e=>kp b o e,λb M=>(hf b M).1,w0⟩
  rintro n s3 ⟨i,ys,us,H3,J3,hv,a0,a1,w3⟩;let ac hh:=turn i n ys H3 w3;let none_err:∀{α:Type}{t:Sem α}{Q:α->ff->Prop}{E':eN->ff->Prop}{s:ff},mj X.A t Q (λ_ _=>False) s->mj X.A t Q E' s:=λh=>RW h (λ_ _ q=>q) λ_ _ z=>z.elim;let a2:∀{ap:St},ap.L=(nons xs++frOf fr L).L->ap.drop xs.L=frOf fr L->∀(i:R) v,(nons xs++frOf fr L)[i]?=Z (Z v)->ap[i]?=Z (Z v):=λ{ap} a3 e6 i v e=>by
   by_cases eK:i<xs.L
   .rw[MT (by simpa using eK),Ow,Ti eK]at e
    cases e
   .rw[MR (by simp!),← e6,Qc]at e
    simp!
  rcases hh with⟨stop,qn⟩|⟨go,N,hN,step⟩
  .refine none_err (thn (T.done (cxG X scope fr xs g.M.J (s.H.M.J::fp) {s,g} H) U U U d i _ s3 _ H3 _ J3 (am a1) a0 stop) λr s4 ⟨j,J4⟩=>?_);subst j;let I4 nD fC m hn:=vk I hf hg J4 hv ac;exact aa _ _ H3 ys s4 m I4 nD fC hn qn
  .refine none_err (thn (T.item (cxG X scope fr xs g.M.J (s.H.M.J::fp) {s,g} H) U U U d i _ s3 _ H3 _ J3 (am a1) a0 go) λr s4 ⟨u,j,h4⟩=>?_);subst j;refine none_err (thn h4 λ_ s5 ⟨v,H5,J5,r5,y5,an,a8⟩=>?_);let bg:=J5.pinned (am a8) (T.obj _ _ an);refine none_err (thn (ar _ _ _ _ _ s5 _ H5 v u _ bg r5 (step v H5 y5)) λ_ s6 ⟨ap,H6,J6,e6,q6⟩=>?_);refine none_err (thn (k _ _ _ _ _ s6 ap H6 _ J6 q6) λb bb ⟨a4,a9,a5⟩=>?_);let a3:ap.L=(nons xs++frOf fr L).L:=J6.len.P J3.len.X
   cases b with
   |false=>
    rw[Tj Nr]at a5 ⊢;let m' hm w7:=hN ys a4 a5;let aL:∀ b∈fp,∀ o,s5.H.Q b=Z o->bb.H.Q b=Z o/\a4 b=lf:=λb M o e=>by
     let x q2 _:=a9.pin (b,o) (Nj _ (Nj _ (kM M e)));erw[x,q2]
    erw[m',hm,i+1,ys,us,a4,a9.unpinned.weak (σ':=nons xs++frOf fr L) a3.X (a2 a3 e6),hv,T.keep _ _ _ an λb M o e=>(aL b M o e).1,λb M=>?_,w7];let o e _:=T.obj _ _ an b M;exact(aL b M o e).2
   |true=>
    rw[Ti U]at a5 ⊢;refine none_err (thn (f _ _ _ _ _ bb _ a4 _ a9 a5) λu7 s7 ⟨v7,H7,J7,r7,q7⟩=>?_);let m' hm w7:=hN _ H7 q7;let eD nD dC dF dd:=J7.pin (s.H.M.J,SF us) (Nj _ (NG _ (Nj _ ∅)))
    let bi:=hv.L;refine append_at (hsz:=by simp!) eD λh8 bd bm=>?_
    let be:∀ p∈X.pn++B,p.1≠s.H.M.J:=λp G z=>by
     let:=RP (I.pin p G).1;simp!
    let bn:Inv (cxG X scope fr xs g.M.J (s.H.M.J::fp) {s,g} H) (X.pn++B) _ H7 s7:=J7.pins_of λp G=>J7.pin p (Nj _ (NG _ (NG _ G)))
    let J8:Inv (cxG X scope fr xs g.M.J (s.H.M.J::fp) {s,g} H) (X.pn++B) _ H7 {s7,h8}:=bn.turned (t':=s7.u) (λb o M e=>(bd.2 b M).P e) nD dC (.inl M7) (λy c e z=>by
     let w' q:=I.cell y c (O.cells I e);let:=q.lt
     simp!) (λp G=>(Ng.mp G).elim (λz=>by cases z) (be p))
    let J9:Inv (cxG X scope fr xs g.M.J (s.H.M.J::fp) {s,g} H) (X.pn++B++[(s.H.M.J,SF (us++[u7]))]) _ H7 {s7,h8}:=J8.pins_of λp G=>by
     obtain G|G:=Ng.mp G
     .exact J8.pin p (Nj _ G)
     .let ep:p=(s.H.M.J,SF (us++[u7])):=by simpa using G
      subst ep;erw[bm.P (congrArg Z (LCg.lst_snoc us u7)),nD,dC,dF,λv z=>by cases z]
    let bv:=J9.weak (σ':=nons xs++frOf fr L) a3.X (a2 a3 e6);let aL:∀ b∈fp,∀ o,s5.H.Q b=Z o->s7.H.Q b=Z o/\H7 b=lf:=λb M o e=>by
     let x q2 _:=J7.pin (b,o) (Nj _ (Nj _ (kM M e)));erw[x,q2]
    erw[m',hm,i+1,ys++[v7],us++[u7],H7,bv,hv.append (.cons r7 .nil),T.keep _ _ _ an λb M o e=>(bd.2 b (Nh (aT b M))).P (aL b M o e).1,λb M=>?_,w7];let o e _:=T.obj _ _ an b M;exact(aL b M o e).2
 exact codeAny_compStart_list a7 (T.self X.A 0 _ _ _ (T.keep 0 s.H ah st λb _ o e=>kp b o e) a7)
def JD(wi:TI)(g:TG)(tt:TT)(te:TE)(n:R)(fr:E (fI×R)):TE:=λL H Q=>wi L H λJ j=>jE g tt te n (frOf fr L) J j λk d=>∀ D,d D=lf->Q (.ref D) (upd d D (.lst k))
def HK(l:X.calm=kt)(O:pN X scope fr xs)(hi:PI X tg iter wi)(ab:∀ C ex s H,PG (cxG X scope fr xs C ex s H) tg tgt)(g:∀ C ex s H,PTs (cxG X scope fr xs C ex s H) ifs tt)(v:∀ C ex s H,PE (cxG X scope fr xs C ex s H) elt te)(r:∀ x,Sb iter X.j x=pure x:=by intro _;rfl):
  PE X (.ListComp elt [⟨tg,iter,ifs,0⟩] scope pos) (JD wi tgt tt te xs.L fr):=by
 intro B s L H Q I h;rw[eval_ListComp];refine wpAny_comprehension_free (use:=lf) U r O.clos O.kind O.names (thn (hi B s L H _ I h) λxv t eK=>thn eK λac q N=>?_);let it fp i J d e G T aa y n:=N;subst e;refine tQ (RR:=λu C=>compPost (model X.i X.w) X.A X.xe lf (EP X B L Q) u C) l O ab g v G T aa y n ?_;intro D C c k z m I4 nD fC p q4;erw[m,p,λf ah=>?_];let g0 dO a j g4 g5:=fC;erw[.ref D,_,I4.turned (t':=z.u) (λb o M e=>(ah.2 b M).P e) g0 dO j g4 g5,U,q4 D nD]
def wK(i:R)(wi:TI)(g:TG)(tt:TT)(te:TE)(n:R)(fr:E (fI×R)):TS:=λD L H=>wi L H λJ j=>jE g tt te n (frOf fr L) J j λk d=>∀ a,d a=lf->D.nx (L.set i (Z (.ref a))) (upd d a (.lst k))
def zy{y:fI}{py al:Pos}(l:X.calm=kt)(hN:X.N.h)(ab:X.N[i]?=Z y)(dO:X.j.scope.names.Y y=Z .local)(O:pN X scope fr xs)(hi:PI X tg iter wi)(ah:∀ C ex s H,PG (cxG X scope fr xs C ex s H) tg tgt)(j:∀ C ex s H,PTs (cxG X scope fr xs C ex s H) ifs tt)(f:∀ C ex s H,PE (cxG X scope fr xs C ex s H) elt te)(ap:uP_ (swapsWith (.ListComp elt [⟨tg,iter,ifs,0⟩] scope pos) (Z (.Name y py)) al.line X.j=pure kt) uR_)(r:∀ x,Sb iter X.j x=pure x:=by intro _;rfl):
  PS X (.Assign [.Name y py] (.ListComp elt [⟨tg,iter,ifs,0⟩] scope pos) al) (wK i wi tgt tt te xs.L fr):=by
 intro B s L H D I h;rw[exec_Assign_Name_used _ _ _ _ ap];refine R4 (wpAny_standAt (R4 ?_));show wpAny _ X.A (do let _ ← comprehension (.ListComp elt [⟨tg,iter,ifs,0⟩] scope pos) scope X.j _ (newList []) k9 (eval iter X.j) (Z (assign (.Name y py) X.j))) _ _ s
 refine R4 (thn (wpAny_comprehension_free (use:=Z (assign (.Name y py) X.j)) (Q:=λ_ s'=>SP X B D .next s') U r O.clos O.kind O.names (thn (hi B s L H _ I h) λxv t eK=>thn eK λam q c=>?_)) λ_ s' g=>R7 (R7 g));let it fp tn J d e I2 T ac f2 q2:=c;subst e;refine tQ (RR:=λaa C=>compPost (model X.i X.w) X.A X.xe (Z (assign (.Name y py) X.j)) (λ_ s'=>SP X B D .next s') aa C) l O ah j f I2 T ac f2 q2 ?_;intro a C H4 k s4 m I4 nD fC u q4;let g0 g1 g2 g3 g4 g5:=fC;let oC eC ar:=LCg.ns_obj u;let I5:Inv X (B++[(C,oC)]) L (upd H4 a (.lst k)) s4:=I4.pins_of λp G=>by
  obtain G|G:=Ng.mp G
  .exact I4.pin p (Nj _ G)
  .let ep:p=(C,oC):=by simpa using G
   subst ep;let n av hd _:=ar;erw[eC,g0,g1,g2,λv z=>by simp!]
 show wpAny _ X.A (assign (.Name y py) X.j (.ref a)) _ _ _;refine wpAny_assign_Name (ua I5 hN ab (.inl dO) (v:=.ref a) U (λs6 I6=>?_) (.inr dO));let e6 _:=I6.pin (C,oC) (Nj _ (Nj _ ∅))
 erw[m,ar.ns e6,λh' an=>?_];erw[5,I6.unpinned.turned (t':=s6.u) (λb o M e=>(an.2 b M).P e) g0 g1 g3 g4 g5,q4 a nD]
end
def aZ{g:TG}{t:TT}(Pv:R->E V->Hp->Prop)(hz:xs.L<=RO)(A:Pv 0 [] H1)(hl:∀ i ys H,i<=xs.L->Pv i ys H->pi a xs)
  (T:∀ i x ys H,xs[i]?=Z x->Pv i ys H->g x (MV n lf++O) H λh H2=>h.drop n=O/\t h H2 λb H3=>if b=kt then eK h H3 (λy H4=>Pv (i+1) (ys++[y]) H4) else Pv (i+1) ys H3) (hd:∀ ys H,Pv xs.L ys H->QQ ys H) (j:∀ i ys H,Pv i ys H->ys.L<=i)
  : jE g t eK n O (Itl K a) H1 QQ:=by
 erw[λi m ys H=>m=xs.L-i/\i<=xs.L/\Pv i ys H,⟨xs.L,by simp,ND _,A⟩,3]
 rintro i m ys H ⟨rfl,J,p⟩;let q:=hl i ys H J p;let c:=j i ys H p;erw[16]
 by_cases Q:i<xs.L
 .refine .inr ⟨⟨xs,xs[i],q,by simp⟩,λI H2=>Pv (i+1) I H2,λI H2 G=>⟨xs.L-(i+1),∅,U,Q,G⟩,λx l y=>?_⟩
  let e y:=y;subst e;exact T i x ys _ (y xs q) p
 .let e:i=xs.L:=by lia
  subst e;exact .inl ⟨⟨xs,q,MN _⟩,hd ys H p⟩
def dI{lo:Y}{k:R}{g:TG}{t:TT}(Pv:R->E V->Hp->Prop)(hz:k<=RO)(A:Pv 0 [] H1)
  (T:∀ i ys H,i<k->Pv i ys H->g (.int (lo+i)) (MV n lf++O) H λh H2=>h.drop n=O/\t h H2 λb H3=>if b=kt then eK h H3 (λy H4=>Pv (i+1) (ys++[y]) H4) else Pv (i+1) ys H3) (hd:∀ ys H,Pv k ys H->QQ ys H) (j:∀ i ys H,Pv i ys H->ys.L<=i)
  : jE g t eK n O (Itr lo k) H1 QQ:=by
 erw[λi m ys H=>m=k-i/\i<=k/\Pv i ys H,⟨k,by simp,ND _,A⟩,3]
 rintro i m ys H ⟨rfl,J,p⟩;let c:=j i ys H p;erw[16]
 by_cases Q:i<k
 .refine .inr ⟨Q,λI H2=>Pv (i+1) I H2,λI H2 G=>⟨k-(i+1),∅,U,Q,G⟩,λx l y=>?_⟩
  let e y:=y;subst e y;exact T i ys _ Q p
 .let e:i=k:=by lia
  subst e;exact .inl ⟨MN _,hd ys H p⟩
def lr{g:TG}{t:TT}(Pv:R->E V->Hp->Prop)(hz:xs.L<=RO)(A:Pv 0 [] H1)(hl:∀ i ys H,i<=xs.L->Pv i ys H->pi a xs)
  (k:∀ i x ys H T,xs[i]?=Z x->Pv i ys H->H T=lf->g (.ref T) (MV n lf++O) (upd H T (.tup [.int (i:Y),x])) λh H2=>h.drop n=O/\t h H2 λb H3=>if b=kt then eK h H3 (λy H4=>Pv (i+1) (ys++[y]) H4) else Pv (i+1) ys H3) (hd:∀ ys H,Pv xs.L ys H->QQ ys H) (j:∀ i ys H,Pv i ys H->ys.L<=i)
  : jE g t eK n O (Ite K a) H1 QQ:=by
 erw[λi m ys H=>m=xs.L-i/\i<=xs.L/\Pv i ys H,⟨xs.L,by simp,ND _,A⟩,3]
 rintro i m ys H ⟨rfl,J,p⟩;let q:=hl i ys H J p;let c:=j i ys H p;erw[16]
 by_cases Q:i<xs.L
 .refine .inr ⟨⟨xs,xs[i],q,by simp⟩,λI H2=>Pv (i+1) I H2,λI H2 G=>⟨xs.L-(i+1),∅,U,Q,G⟩,λv l y=>?_⟩
  let T x C rfl rfl y:=y;exact k i x ys _ T (y xs q) p C
 .let e:i=xs.L:=by lia
  subst e;exact .inl ⟨⟨xs,q,MN _⟩,hd ys H p⟩
theorem IJ(h:X.K=K):IxR X (rIxL K):=h▸oG
theorem Ma(h:X.K=K):IxR X (rIxT K):=h▸Ki
theorem dD{es:E hb}{k:R}{t:TGs}(f:X.K=K)(J:X.calm=kt)(h:PGs X es t)(T:uP_ ((RZ es X.j).L=n) uR_)(c:uP_ ((RZ es X.j).findIdx? (·.1)=lf) uR_):PG X (.Tuple es k pos) (gTup K n t):=f▸iA J h T c
theorem Dj(h:X.K=K):iF X (.type "list") (λxs H Q=>∃ p ys,xs=[.ref p]/\(pi p ys∨SqT K H p ys)/\∀ l,H l=lf->Q (.ref l) (upd H l (.lst ys))):=h▸kc
theorem qL{f:fI}(h:X.K=K)(N:PE X e eK)(M:attributeBase e f X.j (eval e X.j)=eval e X.j):PE X (.Attribute e f pos) (tFld K eK f):=h▸aQ N M
inductive Lh(x:L2.V)(vs:E V)(H:L2.Hp)(Q:L2.VK):Prop
 |mk (l xs k y:_) (_:x=.ref l)(_:vs=[.int k,y])(_:H l=Z (.lst xs))(_:0<=k)(_:k<=xs.L)(_:xs.L<RO)(_:Q .non (upd H l (.lst (xs.x k.R++y::xs.drop k.R))))
def E5:MtM X "list.insert" Lh:=by
 intro B s L H x m v o Q I G rv h;let l C k y rfl rfl dO A D f q:=h
 cases G
 let g w rfl J N:=rv.two;let t rfl:=J;let z d n r M e:=I.lstM dO;let T:=tH;let a:¬ (!j0.List.listFitsIndex k)=kt:=by
  rw[fitsIndex_both ∅ ∅]
  exact Nr
 refine call_meets F.slot_list_insert ⟨_,e,U⟩ F.entry_list_insert (F.args_list_insert_3 _ _ _) (AutoListH.list_insert_list_int_val_1 l d.toArray n k t w a (by simp!)) ⟨e,?_⟩
 erw[.non,_,I.lset (its':=d.x k.R++w::d.drop k.R) dO e ?_ ((r.x _).append (.cons N (r.drop _))) ?_,U,q]
 .dsimp only;rw[Tj ∅,NL,Rj ∅]
  simp;exact Oz ∅
 .grind
theorem nA:∀{ns:E Y}{us:E eN},Vals (ns.Z V.int) us->Sw us ns:=by
 intro ns;induction ns with
 |nil=>intro us h;cases h;exact .nil
 |cons n ns ih=>
  intro us h;cases h with
  |cons r O=>let t rfl:=r;exact .cons n t (ih O)
def wj(l:X.calm=kt):iF X (.builtin "sum") (λxs H Q=>∃(p:fc)(ns:E Y),xs=[.ref p]/\SqL X.K H p (ns.Z V.int)/\Q (.int ns.sum) H):=by
 intro B s L H xs o Q I r h;let p ns rfl n q:=h;let u rfl A:=lu r
 cases A
 let d rv y f:=I.list n;let J:=nA rv;let T e:=J.allInts.items;let z:(numsOf d)=ns:=J.numsOf;let M:s.H.IsList p (intItems T):=by rw[← e];exact y.isList
 refine sum_intListG (I.ok.hd l) M λeK m t' D=>⟨.int ns.sum,H,I.kept (t':=m) D,⟨t',?_⟩,q⟩;let O:numsOf (intItems T).l=ns:=by rw[← e];exact z
 rw[nums_intItems]at O;rw[preSum_eq,Oz ∅,← O]
theorem qw:∀{ps:E R},(∀ p∈ps,p<1000)->hH.weightAll ((ps.Z λ(p:R)=>((p:R):Y)).Z hH.int)<=12*ps.L
 |[],_=>by simp[hH.weightAll]
 |p::ps,h=>by
  let C:=qw (ps:=ps) λx B=>h x (M6 _ B);let G:=h p ∅
  let T:hH.weight (.int (p:Y))<=11:=by
   rw[hH.weight];split
   .exact ND _
   .rename_i z;let eK:p≠0:=λe=>z (by rw[e];rfl)
    let e:((p:Y)).natAbs=p:=rfl;rw[e];let:=(Nat.log2_lt eK).mpr (show p<2^10 by lia)
    lia
  rw[NF,NF,hH.weightAll,OJ];lia
def IH(h:∀ p∈ps,p<1000)(hl:ps.L<=1000):hH.layable0 (.list ((ps.Z λ(p:R)=>((p:R):Y)).Z hH.int))=kt:=by
 let eK:=PySem.W.shaped_ints (ps.Z λ(p:R)=>((p:R):Y));let O:=qw h;let G:hH.weight (.list ((ps.Z λ(p:R)=>((p:R):Y)).Z hH.int))<=2^20:=by
  rw[hH.weight];ac_rfl
 unfold hH.layable0;unfold SeqAt.shaped at eK;rw[eK,Sx G];rfl
inductive rIndex(K:MJ)(x:L2.V)(vs:E V)(H:L2.Hp)(Q:L2.VK):Prop
 |mk (l:fc)(ps:E R)(k:R) (_:x=.ref l)(_:vs=[.int (k:Y)])(_:pi l (ps.Z λ(p:R)=>V.int (p:Y)))(_:(∀ p∈ps,p<1000))(_:ps.L<=1000)(_:k∈ps)(_:Q (.int ((ps.idxOf k:R):Y)) H)
def IL{k:R}:(ps.Z λ(p:R)=>((p:R):Y)).idxOf (k:Y)=ps.idxOf k:=by
 induction ps with
 |nil=>rfl
 |cons p ps C=>
  grind
def Iy:MtM X "list.index" (rIndex X.K):=by
 intro B s L H x m v o Q I G rv h;let l N k rfl rfl n T M D q:=h
 cases G
 let u rfl A:=rv.one;let t rfl:=A;let e:(N.Z λ(p:R)=>V.int (p:Y))=(N.Z λ(p:R)=>((p:R):Y)).Z V.int:=by rw[NX];rfl
 rw[e]at n;let d r y f:=I.list n;refine index_list_ints y.isList (nA r) (IH T M) (Nc.mpr ⟨k,D,U⟩) ?_;rw[IL];erw[.int _,H,I.tok _,⟨_,U⟩,q]
inductive Ep(K:MJ)(xs:E V)(H:L2.Hp)(Q:L2.VK):Prop
 |mk (p:fc)(ns:E Y) (_:xs=[.ref p])(_:pi p (ns.Z V.int))(_:ns.L<64)(_:∀(l:fc)(out:E Y),H l=lf->out.Perm ns->out.f (·<=·)->Q (.ref l) (upd H l (.lst (out.Z V.int))))
def ju:iF X (.builtin "sorted") (Ep X.K):=by
 intro B s L H D o Q I r h;let p i rfl n c q:=h;let u rfl A:=lu r
 cases A
 let d rv y f:=I.list n;let J:=nA rv;let M:=rv.L;rw[MI]at M;refine sorted_ints y.isList J ∅ λl b v g a=>?_
 let e N:=sortedAll_at s.H d l;erw[.ref (s.H.M.J+1),_,I.laid (t':=s.u) (λ_ _=>sortedAll_old) (OH _) (show bC X.i X.w _ _ _ (.lst (b.Z V.int)) from⟨?_,l.l,e,wH v,?_⟩),U,q _ b (I.hok.fresh (OH _)) g a]
 .rw[MI,g.length_eq];exact M4 (ax ∅)
 .exact N
theorem yB(h:X.K=K):iF X (.builtin "sorted") (Ep K):=h▸ju
def oW:RS "min"=Z (.builtin "min"):=by rfl
def Ks:RS "max"=Z (.builtin "max"):=by rfl
def B6:RS "sum"=Z (.builtin "sum"):=by rfl
theorem yesT{A B:Hp->Prop}(h:A H):tYes O H λb H3=>if b=kt then A H3 else B H3:=
 show(if kt=kt then A H else B H) from iteT (B:=B H) h
def Kr:RS "zip"=Z (.type "zip"):=by rfl
def Itz(K:MJ)(a b:fc):It:=
 ⟨λi H=>∃ D k x y,pi a D/\pi b k/\D[i]?=Z x/\k[i]?=Z y,
  λi H v l=>∃ T x y,H T=lf/\v=.ref T/\l=upd H T (.tup [x,y])/\(∀ D,pi a D->D[i]?=Z x)/\∀ k,pi b k->k[i]?=Z y,
  λi H=>∃ D k,pi a D/\pi b k/\(D.L<=i∨k.L<=i)⟩
theorem Hd{es:E hb}{k:R}(a b z TI TO i1 i2:fc)(D:ZipApart z TI TO i1 i2 a b):Turn P w K (.Tuple es k pos) (Itz K a b) [z,TI,TO,i1,i2] z
  (λi h=>IsZip h z TI TO .none/\IsPair h TI (.ref i1) (.ref i2)/\(∃ u v,IsPair h TO u v)/\h.IsListIter i1 a i/\h.IsListIter i2 b i) where
 mem:=by simp
 obj:=λi h st c J=>by
  let kz kI{u v kO}{o1 j c1 d1}{o2 q2 c2 d2}:=st;simp only[MY,N4,or_false]at J;obtain rfl|rfl|rfl|rfl|rfl:=J
  .erw[_,kz,λv z=>by contradiction]
  .erw[_,kI,λv z=>by contradiction]
  .erw[_,kO,λv z=>by contradiction]
  .erw[o1,j,λv z=>by simp!]
  .erw[o2,q2,λv z=>by simp!]
 keep:=λi h h' st N=>by
  let kz kI{u v kO}k1 k2:=st;erw[N _ ∅ _ kz,N _ ∅ _ kI,⟨u,v,N _ ∅ _ kO⟩,k1.at λo q=>N i1 ∅ o q,k2.at λo q=>N i2 ∅ o q]
 item:=by
  intro X hP hw hK J i B s L H dO I Q st A;subst hP hw hK;let C m x y n g G r:=A;let d rv p hz:=I.list n;let ac am p2 ar:=I.list g;let u f ru:=rv.get G;let u2 av an:=am.get r;let kz kI{o1 o2 kO}k1 k2:=st;refine wpAny_pyNext_zip_item D kz kI kO k1 k2 p.isList p2.isList (x:=u) (y:=u2) (by simpa using f) (by simpa using av) λh' t a2 a3 a4 a5 a6 l=>?_
  erw[57];refine wpAny_letOwnedTupleGo_zip t λO g1 ah=>?_;let aa:RU z h' O:=ah;let lz:z<s.H.M.J:=RP kz;let lI:TI<s.H.M.J:=RP kI;let lO:TO<s.H.M.J:=RP kO;let l1:i1<s.H.M.J:=by let _ q _:=k1;exact RP q
  let l2:i2<s.H.M.J:=by let _ q _:=k2;exact RP q
  let al:H s.H.M.J=lf:=I.hok.fresh (MN _);let I0:nw (upd H s.H.M.J (.tup [x,y])) {s with heap:=s.H.e {cls:=.type "tuple",data:=.seq #[u,u2]},toks:=s.u}:=
   I.laid (t':=s.u) (λb u e=>R8 _ e) (MN _) ⟨by show 2<=RO;decide,[u,u2],.cons ru (.cons an .nil),⟨_,R9 _ U,U,_,U⟩⟩
  let ap:∀ c∈[z,TI,TO,i1,i2],c<s.H.M.J:=λc J=>by
   simp only[MY,N4,or_false]at J;obtain rfl|rfl|rfl|rfl|rfl:=J<;>assumption
  let eK:∀ c∈[z,TI,TO,i1,i2],upd H s.H.M.J (.tup [x,y]) c=lf:=λc J=>by
   rw[aw (Nh (ap c J))];exact(Q c J).1
  let I2:nw (upd H s.H.M.J (.tup [x,y])) {s with heap:=O,toks:=s.u}:=Inv.turnedL (s:={s with heap:=s.H.e {cls:=.type "tuple",data:=.seq #[u,u2]},toks:=s.u}) (h':=O) I0 (t':=s.u) (fp:=[z,TI,TO,i1,i2]) (λc o J q=>by
   let n1:c≠z:=λe=>J (by simp[e])
   let n3:c≠TO:=λe=>J (by simp[e])
   let n4:c≠i1:=λe=>J (by simp[e])
   let n5:c≠i2:=λe=>J (by simp[e])
   refine(aa.2 c n1).P ?_;rcases fo.get?_push_cases q with⟨z1,z2⟩|q
   .simp!
   .exact l c o n1 n3 n4 n5 q) λc J=>⟨eK c J,(Q c J).2⟩
  erw[.ref s.H.M.J,_,I2,U,⟨s.H.M.J,x,y,al,U,U,λT h=>by rw[I.list_inj h n];exact G,λT h=>by rw[I.list_inj h g];exact r⟩,3,eK]
  erw[g1,(aa.2 TI D.TIz).P (l _ _ D.TIz D.TITO D.TIi1 D.TIi2 kI),⟨_,_,(aa.2 TO D.TOz).P a2⟩,a3.at λo q=>(aa.2 i1 D.i1z).P q,a4.at λo q=>(aa.2 i2 D.i2z).P q]
 done:=by
  intro X hP hw hK J i B s L H dO I Q st A;subst hP hw hK;let C m n g G:=A;let d rv p hz:=I.list n;let ac am p2 ar:=I.list g;let kz kI{o1 o2 kO}k1 k2:=st;let M:=rv.L;let ab:=am.L;refine wpAny_pyNext_zip_end (I.ok.hd J) D kz kI kO k1 k2 p.isList p2.isList ?_ λh' eb=>⟨U,Inv.turnedL I (t':=s.u) (λc o J e=>eb c o (λe=>J (by simp[e])) (λe=>J (by simp[e])) (λe=>J (by simp[e])) (λe=>J (by simp[e])) e) Q⟩
  simp!
 self:=λ_ _ _ _ _ st h=>wpAny_pyIter_zip st.1 h
theorem dt(x y:R)(h:¬ x=y):@Ne fc x y:=h
theorem Dt(n a b:R)(O:a<n)(M:b<n):ZipApart (n+4) (n+2) (n+3) n (n+1) a b:=
 ⟨dt _ _ ∅,dt _ _ ∅,dt _ _ ∅,dt _ _ ∅,dt _ _ ∅,dt _ _ ∅,dt _ _ ∅,dt _ _ ∅,dt _ _ ∅,
  dt _ _ ∅,dt _ _ ∅,dt _ _ ∅,dt _ _ ∅,dt _ _ ∅,dt _ _ ∅,dt _ _ ∅,dt _ _ ∅,dt _ _ ∅⟩
def iZip(K:MJ)(l:TA):TI:=λL H ad=>l L H λm j=>∃ a b,m=[.ref a,.ref b]/\(∃ D,SqL K j a D)/\(∃ k,SqL K j b k)/\ad (Itz K a b) j
def Ez{t Q:hb}{l:TA}{es:E hb}{k:R}{p:Pos}(N:Gl X "zip")(y:X.mg "zip"=lf)(O:PA X [t,Q] l)(T:uP_ (RV [t,Q] X.j=(k9,eval t X.j)::RV [Q] X.j) uR_)(ab:uP_ ((backTo pos (RV [Q] X.j)).any (·.1)=k9) uR_):
  PI X (.Tuple es k tp) (.Call (.Name "zip" p) [t,Q] [] pos) (iZip X.K l):=by
 intro B s L H ad I h;refine Call_ (iB I N y Kr (Sa (thn (O pos B s L H _ I h) λz C ⟨o,j,i,M,dO⟩=>?_) T ab));let a b e{x n}{m g}q:=dO;subst e;let u u2 rfl A al:=G4 M
 cases A
 cases al
 let d rv p f:=i.list n;let aa ah G am:=i.list g;let la:a<C.H.M.J:=by let _ _ q _:=p;exact RP q
 let lb:b<C.H.M.J:=by let _ _ q _:=G;exact RP q
 refine call_zip_2 p.isList G.isList λeK kz kI kO v w r D=>?_;refine wpAny_pyIter_zip kz ?_
 erw[C.H.M.J+4,[C.H.M.J+4,C.H.M.J+2,C.H.M.J+3,C.H.M.J,C.H.M.J+1],5,j,U,i.kept (t':=C.u) D,
  Hd a b (C.H.M.J+4) (C.H.M.J+2) (C.H.M.J+3) C.H.M.J (C.H.M.J+1) (Dt _ a b la lb),⟨kz,kI,⟨_,_,kO⟩,v,w⟩,λc J=>?_,q]
 let ac:C.H.M.J<=c:=by
  simp only[MY,N4,or_false]at J;obtain rfl|rfl|rfl|rfl|rfl:=J
  .exact Ot _ _
  .exact Ot _ _
  .exact Ot _ _
  .exact MN _
  .exact Ot _ _
 exact i.fpOk ac (i.hok.fresh ac)
def yw{b:fc}{g:TG}{t:TT}(Pv:R->E V->Hp->Prop)(hz:xs.L<=RO)(N:zs.L=xs.L)(A:Pv 0 [] H1)(hl:∀ i ys H,i<=xs.L->Pv i ys H->pi a xs/\pi b zs)
  (k:∀ i x z ys H T,xs[i]?=Z x->zs[i]?=Z z->Pv i ys H->H T=lf->g (.ref T) (MV n lf++O) (upd H T (.tup [x,z])) λh H2=>h.drop n=O/\t h H2 λb H3=>if b=kt then eK h H3 (λy H4=>Pv (i+1) (ys++[y]) H4) else Pv (i+1) ys H3) (hd:∀ ys H,Pv xs.L ys H->QQ ys H) (j:∀ i ys H,Pv i ys H->ys.L<=i)
  : jE g t eK n O (Itz K a b) H1 QQ:=by
 erw[λi m ys H=>m=xs.L-i/\i<=xs.L/\Pv i ys H,⟨xs.L,by simp,ND _,A⟩,3]
 rintro i m ys H ⟨rfl,J,p⟩;let q:=hl i ys H J p;let c:=j i ys H p;erw[16]
 by_cases Q:i<xs.L
 .let d:i<zs.L:=by lia
  refine .inr ⟨⟨xs,zs,xs[i],zs[i],q.1,q.2,by simp,by simp⟩,λzs H2=>Pv (i+1) zs H2,λzs H2 G=>⟨xs.L-(i+1),∅,U,Q,G⟩,λv l y=>?_⟩
  let T x z C rfl rfl u M:=y;exact k i x z ys _ T (u xs q.1) (M zs q.2) p C
 .let e:i=xs.L:=by lia
  subst e;exact .inl ⟨⟨xs,zs,q.1,q.2,.inl (MN _)⟩,hd ys H p⟩
inductive rMinL(K:MJ)(xs:E V)(H:L2.Hp)(Q:L2.VK):Prop
 |mk (p:fc)(ns:E Y) (_:xs=[.ref p])(_:pi p (ns.Z V.int))(_:0<ns.L)(_:∀ m:Y,m∈ns->(∀ x∈ns,m<=x)->Q (.int m) H)
def rP(l:X.calm=kt):iF X (.builtin "min") (rMinL X.K):=by
 intro B s L H C o Q I r h;let p i rfl n x q:=h;let u rfl k:=lu r
 cases k
 let d rv y A:=I.list n;let J:=nA rv;let T e:=J.allInts.items;let M:s.H.IsList p (intItems T):=by rw[← e];exact y.isList
 let f:i=T.l.Z (·.1):=by
  rw[← nums_intItems,← e];exact(show numsOf d.toArray.l=i from J.numsOf).X
 subst f;rw[MI,NB]at x;refine min_intList (I.ok.hd l) M x λv g m G D=>?_;let t rfl:=intItems_at G;let eK O:=argBest_lt (numAt T) (T.J-1);erw[.int _,H,I.kept (t':=m) D,⟨t,U⟩,q _ ?_ λa b=>?_]
 .rw[numAt_eq];exact PySem.getD_mem (by rw[MI,NB];lia)
 .let j c rfl:=PySem.mem_getD b;rw[MI,NB]at c;rw[← numAt_eq];exact O j ∅
def LsAt{α:Type}(ad:Hp->V->α->Prop)(H:Hp)(ys:E V)(xs:E α):Prop:=ys.L=xs.L/\∀(i:R)(x:α),xs[i]?=Z x->∃ y,ys[i]?=Z y/\ad H y x
theorem LsAt.nil{ad:Hp->V->α->Prop}:LsAt ad H [] []:=⟨U,λi x e=>by simp at e⟩
theorem LsAt.imp{ad c:Hp->V->α->Prop}{xs:E α}(h:LsAt ad H ys xs)(m:∀ y x,ad H y x->c H' y x):LsAt c H' ys xs:=⟨h.1,λi x e=>by
 let y a b:=h.2 i x e
 erw[y,a,m y x b]⟩
def LsAt.snoc{ad:Hp->V->α->Prop}{xs:E α}{x:α}(h:LsAt ad H ys xs)(r:ad H y x):LsAt ad H (ys++[y]) (xs++[x]):=by
 erw[by rw[MP,MP,h.1];rfl,λj k e=>?_]
 by_cases L:j<xs.L
 .rw[MT L]at e;let p v u:=h.2 j k e;erw[p,by rw[MT (by rw[h.1];exact L)];exact v,u]
 .rw[MR ∅]at e
  let b:j=xs.L:=by
   let:=(MF.mp e).1;rw[M9]at this;lia
  subst b;rw[Nz]at e
  cases e
  erw[y,by rw[← h.1,MR (MN _),Nz];rfl,r]
def LsAt.get{ad:Hp->V->α->Prop}{xs:E α}(h:LsAt ad H ys xs)(e:ys[i]?=Z y):∃ x,xs[i]?=Z x/\ad H y x:=by
 let J:i<xs.L:=by rw[← h.1];exact(MF.mp e).1
 let z a b:=h.2 i _ (MG J);rw[e]at a
 cases a
 erw[_,MG J,b]
theorem Dz:∀{ys:E V}{us:E eN},ys.L=us.L->(∀(i:R)(y:V)(u:eN),ys[i]?=Z y->us[i]?=Z u->RelV y u)->Vals ys us:=by
 intro ys;induction ys with
 |nil=>
  intro us e h;cases us with
  |nil=>exact .nil
  |cons=>cases e
 |cons y ys ih=>
  intro us e h;cases us with
  |nil=>cases e
  |cons u us=>exact .cons (h 0 y u U U) (ih (Qu e) λi y u a b=>h (i+1) y u a b)
def xi{p p2 ac:Pos}(l:X.calm=kt)(A:Gl X "list")(w:X.mg "list"=lf)(al:Gl X "range")(ah:X.mg "range"=lf)(N:PE X e eK)(m:uP_ (RV [.Call (.Name "range" p2) [e] [] ac] X.j=[(k9,eval (.Call (.Name "range" p2) [e] [] ac) X.j)]) uR_)(h2:uP_ (RV [e] X.j=(k9,eval e X.j)::RV [] X.j) uR_):
  PE X (.Call (.Name "list" p) [.Call (.Name "range" p2) [e] [] ac] [] pos) (λL H Q=>eK L H λx H1=>∃ n:R,x=.int (n:Y)/\n<=1000/\∀ q,H1 q=lf->Q (.ref q) (upd H1 q (.lst ((Nf n).Z λ(i:R)=>V.int ((i:R):Y))))):=by
 intro B s L H Q I h;refine Sn (iB I A w jv ?_);refine Sa ?_ m U;rw[m];refine Sl ?_;refine Sn (iB I al ah boot_range ?_);refine Sa ?_ h2 U;rw[h2];refine Sl (thn (N B s L H _ I h) λu C ⟨x,H1,c,M,dO⟩=>?_);let n rfl T q:=dO;let t rfl:=M;refine Sk ?_;refine call_range_1 ?_;refine Sk ?_;let O:nw H1 {C with heap:=C.H.e {cls:=.type "range",data:=.fields #[.int 0 C.u,.int (n:Y) t,.int 1 (C.u+1)]},toks:=C.u+1+1}:=c.kept λb o e=>R8 _ e;refine call_list_range (n:=n) (I.ok.hd l) (IsRange.new ..) (small_one ∅ ∅ ∅ ∅) (by rw[rangeSize_one];lia) ∅ λf d z v D k aa=>?_
 let I3:nw H1 {C with heap:=f,toks:=d}:=O.kept (t':=d) λb o e=>D b o e;let fS:=O.fpOk (H':=H1) (MN _) (O.hok.fresh (MN _));let hz:((Nf n).Z λ(i:R)=>V.int ((i:R):Y)).L<=RO:=by
  rw[MI,Nl];exact NH T ∅
 let G:Vals ((Nf n).Z λ(i:R)=>V.int ((i:R):Y)) z.l:=by
  refine Dz (by rw[MI,Nl,NB,aa.1]) λi y u a b=>?_
  rw[NZ]at b;let ab e:=aa.2 i u b;rw[MO]at a;let j r g:=MZ.mp a;let J:i<n:=by
   let:=(MF.mp r).1;rwa[Nl]at this
  rw[Og J]at r
  cases r
  subst g;subst e;erw[ab,by simp!]
 let I4:=I3.track (o:=.lst ((Nf n).Z λ(i:R)=>V.int ((i:R):Y))) fS ⟨hz,z.l,v,G,∅⟩
 erw[.ref _,_,I4,U,q _ fS.1]
def EH(f:X.A.units+64<cLine):OpR X (RX .NotEq) (λx y H Q=>∃ T a,RdD X.K H x T/\RdD X.K H y a/\SeqAt.shaped T=kt/\SeqAt.shaped a=kt/\Q (.bl (!hH.eqv T a)) H):=by
 intro B s L H x y v u Q I G c h;let T a J N eK O q:=h;let as dO:=J.reads I v G;let bs n:=N.reads I u c;exact ne_dataH dO n eK O f ⟨.bl _,H,I,U,q⟩
theorem rh:∀(a b:E Y),hH.eqvAll (a.Z hH.int) (b.Z hH.int)=decide (a=b)
 |[],[]=>by rfl
 |[],y::b=>by rfl
 |x::a,[]=>by rfl
 |x::a,y::b=>by
  rw[NF,NF];simp only[hH.eqvAll,hH.eqv,rh a b];by_cases h:x=y
  .simp!
  .simp[h]
def BX(a b:E Y):hH.eqv (.list (a.Z hH.int)) (.list (b.Z hH.int))=decide (a=b):=by
 rw[← rh];rfl
section
variable{X:Cx}{tg:hb}
end
structure FunD(K:MJ)(x qual:fI)(st:hr)(f:fc)(fd:ge)(items:kf eN):Prop where
 ex:∃(oc:eN)(od:j5 fc)(d:fc)(kV doc pm:eN)(an:j5 fc)(cdv ct:eN)(osl:kf (j5 eN)),
  fd=NV x qual (bO st) (bz st) (aq st) (.ref d) kV doc pm an cdv ct/\K.Y f=Z ⟨oc,od,.func fd,osl⟩/\N7 K cdv qual=kt/\∃ o n,K.Y d=Z o/\o.data=.seq items n
 kp:NK K (.ref f)=kt
def FunD.binds{a:fI}{st:hr}{ps:E fI}{ds:E eN}(F:FunD K x a st f fd items)(h:∀(v kV C B:eN)(p:j5 fc)(L ct:eN)(us:E eN),(us++ds).L=ps.L->∃ k,bindArgs (NV x a (bO st) (bz st) (aq st) v kV C B p L ct) ⟨us,[]⟩=seqItems? v >>= k/\k (Z items)=pure (ps.zip (us++ds))):gz K fd ps ds:=by
 let l i d kV C B p L ct b rfl m z o n D T:=F.ex;intro s us X M;let k eK O:=h (.ref d) kV C B p L ct us M;exact BindsTo.of_defaults U (X _ _ D) T eK O
theorem FN{a:fI}{st:hr}{d:fc}{od p:j5 fc}{b:kf (j5 eN)}{kV C B L:eN}(l:K.Y f=Z ⟨u,od,.func (NV x a (bO st) (bz st) (aq st) (.ref d) kV C B p L ct),b⟩)(c:N7 K L a=kt)(k:NK K (.ref f)=kt)(ld:K.Y d=Z o)(T:o.data=.seq items n):FunD K x a st f (NV x a (bO st) (bz st) (aq st) (.ref d) kV C B p L ct) items:=⟨⟨u,od,d,kV,C,B,p,L,ct,b,U,l,c,o,n,ld,T⟩,k⟩
def bt_abs:RS "abs"=Z (.builtin "abs"):=by decide
section
variable{prog:hx}{w:ix}{A:Around}{dO:eN->ff->Prop}{s:ff}{d:fc}
def Ent(h:fo)(d:fc)(es:kf DictEntry)(ep:R):Prop:=∃ o,h.Q d=Z o/\o.ExactDict/\o.data=.dict es ep
def Ent.ty{es:kf DictEntry}(x:Ent s.H d es ep):s.TypeIs (.ref d) "dict":=by
 let o eK O _:=x;erw[o,eK,O.1]
theorem BY(hd:(d == sysModules)=k9):MeetsIn prog w (j0.«dict.items» ⟨[.ref d],[]⟩) (λ_ ad s=>(∃ es ep,Ent s.H d es ep)/\ad (.ok (.ret (.ref s.H.M.J))) {s,s.H.e {cls:=.type "dict_items",data:=.fields #[.ref d]}}):=
 .of_wp λA ad s ⟨⟨es,ep,y⟩,h⟩=>by
  unfold j0.«dict.items» j0.Dict.noArgs;refine R4 (R4 (wpAny_notOrdered_dict y.ty ?_));show wpAny _ _ (pure d) _ _ s;refine R7 ?_;show wpAny _ _ (j0.Dict.showsAll d >>= _) _ _ s;unfold j0.Dict.showsAll;rw[Tj (by simp[hd])]
  exact R4 (R7 (R4 (SG (R7 ⟨_,U,h⟩))))
def BZ{v:fc}{es:kf DictEntry}(t:s.H.IsItemsView v d)(y:Ent s.H d es ep)(N:Q (.ref s.H.M.J) {s,s.H.e {cls:=.type "dict_itemiterator",data:=.fields #[.none,.bool k9,.ref d,.int 0 0,.int es.J 0,.int ep 0,.none,.none]}}):
  mi A (pyIter (.ref v)) Q dO s:=by
 let z eK O G:=id t;let o f l B:=y;refine wpAny_pyIter_slot t.typeIs F.slot_dict_items_iter (SH F.slot_dict_items_iter t.typeIs F.entry_dict_items_iter ?_ (F.args_dict_items_iter_1 _));show wpAny _ _ (j0.«dict_items.__iter__» _) _ _ s;unfold j0.«dict_items.__iter__» j0.Dict_items.dictOf j0.Dict_items.newIterator;refine R4 (R7 (R4 (R4 (wpAny_field eK G (x:=.ref d) U (R7 (R4 (R4 (wpAny_dictEntries f B (R4 (wpAny_dictEpoch f B ?_))))))))));simp -iota only[show SJ "dict_itemiterator"=kt by decide,if_true]
 refine SG (R7 ⟨_,U,"dict_itemiterator",_,⟨_,R9 _ U,U⟩,F.slot_dict_itemiterator_next.Y,?_⟩)
  (by simp only[sizeOk,j0.Dict_items.ownedTupleFields,NL,MP,OJ,OU,sizeLine_eq];lia)
 simpa[rawInt,j0.Dict_items.ownedTupleFields] using N
def rj{es:kf DictEntry}{ok ov:eN}{Q:j5 eN->ff->Prop}(t:IsItemIter s.H it d i es.J ep ok ov)(y:Ent s.H d es ep)(H:A.handled=lf)(hI:∀ e,es[i]?=Z e->∀ h',IsItemIterOut h' it d (i+1) es.J ep e.key e.val s.H.M.J->h'.Q s.H.M.J=Z {cls:=.type "tuple",data:=.seq #[e.key,e.val]}->(∀ b o,b≠it->s.H.Q b=Z o->h'.Q b=Z o)->Q (Z (.ref s.H.M.J)) {s,h'})(p:es[i]?=lf->∀ h',fo.ExtBut it s.H h'->Q lf {s,h'}):mi A (pyNext (.ref it)) Q dO s:=by
 let o f l B:=y;let C:s.TypeIs (.ref it) "dict_itemiterator":=⟨_,t,U⟩;let own:SJ "dict_itemiterator"=kt:=by rfl
 unfold pyNext;refine R4 (wpAny_attempt (SK (name:=fI.ofString "__next__") C F.slot_dict_itemiterator_next (SH F.slot_dict_itemiterator_next C F.entry_dict_itemiterator_next ?_ (F.args_dict_itemiterator_next_1 _))));refine R4 (R7 (R4 (R4 (R4 (SM C (R7 ?_))))));refine R4 (wpAny_fieldsOf t U ?_);simp -iota only[own,if_true];show wpAny _ _ (if(eN.ref d == eN.none)=kt then _ else _) _ _ _;rw[Tj (show ¬ ((eN.ref d == eN.none)=kt) from Nr)];refine R4 (R7 (R4 (wpAny_dictEntries f B ?_)));rw[Tj ∅]
 refine R4 (R7 (R4 (wpAny_dictEpoch f B ?_)));rw[Tj ∅]
 refine R7 ?_;let n0:¬ ((i:Y)<0):=by lia
 simp only[n0,if_false,MU]
 cases N:es[i]? with
 |none=>
  refine R4 (R4 (SM C (R7 ?_)));show wpAny _ _ (setField (.ref it) 2 .none >>= _) _ _ s;refine R4 (wpAny_setField t U ∅ ?_)
  show wpAny _ _ (newExc (.type "StopIteration") [] >>= _) _ _ _;refine R4 ?_;simp only[newExc,newTuple];refine R4 (SG (R4 (m:=firstArgMember _ _) (wpAny_of_eq (a:=eN.none) (by rfl) (SG ?_ (by size_fits)))) (by size_fits))
  simp -iota only[raiseNew];refine R4 (wpAny_handled ?_);rw[show A.in1.handled=lf from H];refine R4 (R7 (wpAny_throw ?_));refine R4 (SD (T:="StopIteration") (b:=kt) ⟨_,R9 _ U,U⟩ isSubtype_stop (R7 ?_));exact p N _ (((SN ..).U.e _).e _)
 |some e=>
  refine R4 (R4 (SM C (R7 ?_)));refine R4 (SO C ?_);show wpAny _ _ (setField (.ref it) 3 (rawInt ((i:Y)+1)) >>= _) _ _ s;refine R4 (SQ t ∅ λL j D=>?_)
  let c1:((i+1:R):Y)=(i:Y)+1:=by lia
  let J:IsItemIter L it d (i+1) es.J ep ok ov:=by
   unfold IsItemIter;rw[c1];simpa[rawInt] using j
  let lt:it<s.H.M.J:=RP t;let k:L.M.J=s.H.M.J:=D.1;let h:ff.TypeIs {s,L} (.ref it) "dict_itemiterator":=⟨_,J,U⟩;refine R4 (R5 (R4 (SO h (R4 (SO h ?_)))));show wpAny _ _ (SR (.ref it) 6 e.key e.val) _ _ {s,L};unfold SR j0.Dict_items.ownedTupleIsFree;refine R4 (wpAny_newTuple ?_);let n:IsItemIter (L.e {cls:=.type "tuple",data:=.seq #[e.key,e.val]}) it d (i+1) es.J ep ok ov:=R8 _ J;let I:(L.e {cls:=.type "tuple",data:=.seq #[e.key,e.val]}).Q s.H.M.J=Z {cls:=.type "tuple",data:=.seq #[e.key,e.val]}:=by rw[← k];exact R9 _ U
  let u:∀ b o,b≠it->s.H.Q b=Z o->(L.e {cls:=.type "tuple",data:=.seq #[e.key,e.val]}).Q b=Z o:=λb o M q=>R8 _ (D.U b o M q);rw[k];generalize L.e {cls:=.type "tuple",data:=.seq #[e.key,e.val]}=v at n I u;show wpAny _ _ (_ >>= _) _ _ {s,v};refine R4 (R4 (wpAny_field n U (x:=.none) U (R7 ?_)));simp -iota only[if_true];refine R4 (wpAny_field n U (x:=ok) U (R4 (wpAny_field n U (x:=ov) U ?_)));refine R4 (SQ n ∅ λeK z k3=>?_)
  replace z:IsItemIter eK it d (i+1) es.J ep e.key ov:=z;refine R4 (SQ z ∅ λg c k4=>?_)
  replace c:IsItemIter g it d (i+1) es.J ep e.key e.val:=c;refine R4 (SQ c ∅ λG O k5=>?_)
  replace O:IsItemIterOut G it d (i+1) es.J ep e.key e.val s.H.M.J:=O;refine R4 (SQ O ∅ λg6 r k6=>?_)
  replace r:IsItemIterOut g6 it d (i+1) es.J ep e.key e.val s.H.M.J:=r;let up:∀ b o,b≠it->v.Q b=Z o->g6.Q b=Z o:=λb o M q=>k6.U b o M (k5.U b o M (k4.U b o M (k3.U b o M q)));exact R4 (SS (R7 (R7 ⟨_,U,R7 (hI e N g6 r (up _ _ (N9 lt) I) λb o M q=>up b o M (u b o M q))⟩)))
end
def jz(v d:fc):HO:=.ext λh=>h.IsItemsView v d
def KvA(H:Hp)(u:HO)(i:R)(x y:V):Prop:=(∃ G k,u=.dK G/\G[i]?=Z (k,y)/\x=kV k)∨∃ G k t,u=.dT G/\G[i]?=Z (k,y)/\x=.ref t/\H t=Z (.tup (k.Z kV))
def dlen:HO->R
 |.dK G=>G.L
 |.dT G=>G.L
 |_=>0
def xO:HO->Prop
 |.dK _=>True
 |.dT _=>True
 |_=>False
theorem ng{α j:Type}{F:α->j->Prop}:∀{c:E α}{d:E j},Paired F c d->∀{i:R}{b:j},d[i]?=Z b->∃ a,c[i]?=Z a/\F a b:=by
 intro c d h;induction h with
 |nil=>intro i b e;simp at e
 |cons r t ih=>
  intro i b e;cases i with
  |zero=>cases e;exact⟨_,U,r⟩
  |succ i=>exact ih (i:=i) e
def nO{d:fc}{u:HO}(hd:xO u)(x:bC P w H h d u):(d == sysModules)=k9/\∃ es ep,Ent h d es ep/\es.J=dlen u/\∀ i e,es[i]?=Z e->∃ x y,KvA H u i x y/\RelV x e.key/\RelV y e.val:=by
 cases u with
 |dK G=>
  let T lo m M o es ep eK O I p s n:=x;let a:G.L=m.L:=Paired.length M;let sz:es.J=m.L:=by rw[← s.L,NB]
  erw[lo,es,ep,⟨o,eK,O,I⟩,by rw[sz];exact a.X,λi e N=>?_]
  let J:i<m.L:=by
   let:i<es.J:=(P6.mp N).1;lia
  let{k v}l:∃ q,m[i]?=Z q:=⟨_,MG J⟩;let D aa:=s.Q (e:=e) (by rw[NZ];exact N) l
  let{b y}dO L c:=ng M l;let Q:b=k:=L;subst Q;erw[kV b,y,.inl ⟨G,b,U,dO,U⟩,3,by rw[aa];exact c]
  rcases bj (show qT b e.key=kt from D) with⟨j,t,f,A⟩|⟨z,t,f,A⟩
  .rw[f,A];erw[t,U]
  .rw[f,A];erw[t,U]
 |dT G=>
  let T lo C r o es ep eK O I p s:=x;let sz:es.J=C.L:=by rw[← NB,p,MI]
  erw[lo,es,ep,⟨o,eK,O,I⟩,by rw[sz];exact r.L.X,λi e N=>?_]
  let f:es.l[i]?=Z e:=by rw[NZ];exact N
  rw[p,MO]at f
  cases B:C[i]? with
  |none=>rw[B]at f;cases f
  |some q=>
   rw[B]at f
   cases f
   let{k y}dO L g c:=ng r B;erw[.ref q.2.1,y,.inr ⟨G,k,q.2.1,U,dO,U,g⟩,U,c]
 |_=>exact hd.elim
section
variable{X:Cx}{pins:E (fc×ii)}{σ:St}{H:Hp}{s:ff}{d:fc}{u:HO}{o:ii}
def xO.notT(h:xO u):(∀ xs,u≠.tup xs)/\(∀ o v,u≠.frz o v)/\(∀ ps,u≠.tbl ps)/\∀ a,u≠.own a:=by
 cases u<;>first|exact h.elim|erw[λ_=>by simp,λ_ _=>by simp,λ_=>by simp,λ_=>by simp]
theorem HOk.frz{P:hx}{w:ix}{h:fo}(x:HOk P w H h)(hd:H d=Z u)(f:xO u)(e:h.Q d=Z o):HOk P w (upd H d (.frz o u)) h:=λb v q=>by
 let J g dO i:=f.notT;let l:∀ c y,H c=Z (.own y)->upd H d (.frz o u) c=Z (.own y):=λc y r=>by rw[aw (Co r hd λz=>i y z.X)];exact r
 let a:∀ c D,H c=Z (.tup D)->upd H d (.frz o u) c=Z (.tup D):=λc D r=>by rw[aw (Co r hd λz=>J D z.X)];exact r
 by_cases M:b=d
 .subst M;rw[ag]at q
  cases q
  erw[e,(x b u hd).stay (λ_ _ _ r=>r) (λc r=>l c b r) a]
 .rw[aw M]at q;exact(x b v q).stay (λ_ _ _ r=>r) (λc r=>l c b r) a
def Inv.freeze(I:Inv X pins σ H s)(hd:H d=Z u)(f:xO u)(e:s.H.Q d=Z o):Inv X pins σ (upd H d (.frz o u)) s:=by
 let J g dO i:=f.notT;exact I.step (H':=upd H d (.frz o u)) (h':=s.H) (g':=s.gens) (d':=s.drawn) (t':=s.u) (ch:=[]) (λ_ z=>nomatch z) (λb _ _ _ _ q _=>q) (λb T _ _ _ q _=>⟨T.slots,q⟩)
  (λb _ _ _ n=>by rw[aw (aH hd n).X];exact n) (λb T _ q=>⟨T,q⟩) (λb D r=>by rw[aw (Co r hd λz=>J D z.X)];exact r)
  (λb T v r=>by rw[aw (Co r hd λz=>g T v z.X)];exact r) (λb N r=>⟨#[],by rw[aw (Co r hd λz=>dO N z.X),r];simp⟩) (λ_ q=>q) (I.hok.frz hd f e) I.bare
def Iw:MtR X "dict.items" (λx xs H Q=>∃ d u,x=.ref d/\xs=[]/\H d=Z u/\xO u/\∀ v,H v=lf->Q (.ref v) (upd H v (jz v d))):=by
 intro pins s σ H x xs v z Q I G rv h;let d u rfl rfl hd f q:=h
 cases G
 let a:=rv.zero;subst a;let lo L j y _:=nO f (I.hok d _ hd);refine call_meetsIn PB y.ty RA (Rt _) (BY lo) ⟨⟨L,j,y⟩,?_⟩;let t:(s.H.e {cls:=.type "dict_items",data:=.fields #[.ref d]}).IsItemsView s.H.M.J d:=⟨_,R9 _ U,U,U⟩;erw[.ref s.H.M.J,_,I.laid (t':=s.u) (λb o e=>R8 _ e) (MN _) ?_,U,q _ (I.hok.fresh (MN _))];erw[t,⟨_,R9 _ U⟩,λeK O x k=>let ⟨o,D,r⟩:=x;⟨o,k _ D,r⟩]
end
def Itd(o:ii)(u:HO)(d:fc):It:=
 ⟨λi H=>H d=Z (.frz o u)/\i<dlen u,
  λi H v l=>∃ T x y,H T=lf/\v=.ref T/\l=upd H T (.tup [x,y])/\KvA H u i x y,
  λi H=>H d=Z (.frz o u)/\dlen u<=i⟩
theorem Cc{el:E hb}{kk:R}(o:ii)(u:HO)(d I:fc)(f:xO u)(es:kf DictEntry)(ep:R)(G:o.ExactDict)(g:o.data=.dict es ep):Turn P w K (.Tuple el kk pos) (Itd o u d) [I] I
  (λi h=>∃ ok ov,IsItemIter h I d i es.J ep ok ov) where
 mem:=by simp
 obj:=λi h st b M=>by
  let ok ov N:=st;rw[MQ.mp M];erw[_,N,λv z=>by contradiction]
 keep:=λi h h' st kk=>by
  let ok ov N:=st;erw[ok,ov,kk I ∅ _ N]
 item:=by
  intro X hP eK hK l i B s L H dO Iv A st a;subst hP eK hK;let hd J:=a;let ok ov N:=st;let m g2:=(show bC X.i X.w H s.H d (.frz o u) from Iv.hok d _ hd);let _ aa ah{o' j r q3}sz al:=nO f g2;rw[m]at j
  cases j
  rw[g]at q3
  cases q3
  let lt:I<s.H.M.J:=RP N;refine rj N ⟨o,m,G,g⟩ (Iv.ok.hd l) (λe am h' k C D=>?_) (λz=>by simp!)
  erw[57];refine wpAny_letOwnedTupleGo_items k λO an ab=>?_;let x y kv n c:=al i e am;let ac:H s.H.M.J=lf:=Iv.hok.fresh (MN _);let I0:nw (upd H s.H.M.J (.tup [x,y])) {s with heap:=s.H.e {cls:=.type "tuple",data:=.seq #[e.key,e.val]},toks:=s.u}:=
   Iv.laid (t':=s.u) (λb u e=>R8 _ e) (MN _) ⟨by show 2<=RO;decide,[e.key,e.val],.cons n (.cons c .nil),⟨_,R9 _ U,U,_,U⟩⟩
  let T:∀ b∈[I],upd H s.H.M.J (.tup [x,y]) b=lf:=λb M=>by
   rw[aw (by rw[MQ.mp M];exact Nh lt)]
   exact(A b M).1
  let p:nw (upd H s.H.M.J (.tup [x,y])) {s with heap:=O,toks:=s.u}:=Inv.turnedL (s:={s with heap:=s.H.e {cls:=.type "tuple",data:=.seq #[e.key,e.val]},toks:=s.u}) (h':=O) I0 (t':=s.u) (fp:=[I]) (λb t M q=>by
   let nb:b≠I:=λz=>M (by simp[z])
   refine(ab.2 b nb).P ?_;rcases fo.get?_push_cases q with⟨z1,Q⟩|q
   .rw[z1,Q];exact C
   .exact D b t nb q) λb M=>⟨T b M,(A b M).2⟩
  erw[.ref s.H.M.J,_,p,U,⟨s.H.M.J,x,y,ac,U,U,kv⟩,⟨_,_,an⟩,T]
 done:=by
  intro X hP eK hK l i B s L H dO Iv A st a;subst hP eK hK;let hd J:=a;let ok ov N:=st;let m g2:=(show bC X.i X.w H s.H d (.frz o u) from Iv.hok d _ hd);let _ aa ah{o' j r q3}sz al:=nO f g2;rw[m]at j
  cases j
  rw[g]at q3
  cases q3
  let f0 f1 f2 f3 f4 f5:=A I ∅
  refine rj N ⟨o,m,G,g⟩ (Iv.ok.hd l) (λe am=>by simp!) (λ_ h' D=>⟨U,Iv.turned (t':=s.u) (λb o M e=>D b o M e) f0 f1 f3 f4 f5⟩)
 self:=λ_ _ _ _ _ st h=>by
  let ok ov N:=st;exact PySem.W.kcp_self N h
def FP{u:HO}{d:fc}{g:TG}(Pv:R->St->Hp->Prop)(A:Pv 0 O H)(hl:∀ i O H,i<=dlen u->Pv i O H->H d=Z (.frz o u))(k:∀ i x y O H T,i<dlen u->KvA H u i x y->Pv i O H->H T=lf->g (.ref T) O (upd H T (.tup [x,y])) λh H2=>tb (D.lop (Pv (i+1))) h H2)(hd:∀ O H,Pv (dlen u) O H->D.nx O H):
  ∃ W:R->R->St->Hp->Prop,(∃ m,W 0 m O H)/\∀ i m O H,W i m O H ->
   ((Itd o u d).stop i H/\D.nx O H)∨((Itd o u d).go i H/\∃ N:St->Hp->Prop,(∀ σ' H',N σ' H'->∃ f,f<m/\W (i+1) f σ' H')/\∀ x H',(Itd o u d).yld i H x H'->g x O H' λh H2=>tb (D.lop (N)) h H2):=by
 erw[λi m O H=>m=dlen u-i/\i<=dlen u/\Pv i O H,⟨dlen u,by simp,ND _,A⟩,3]
 rintro i m O H ⟨rfl,J,p⟩;let q:=hl i O H J p;by_cases Q:i<dlen u
 .refine .inr ⟨⟨q,Q⟩,Pv (i+1),λσ' H' B=>⟨dlen u-(i+1),∅,U,Q,B⟩,λv H' y=>?_⟩
  let T x z C rfl rfl w:=y;exact k i x z O _ T Q w p C
 .let e:i=dlen u:=by lia
  subst e;exact .inl ⟨⟨q,MN _⟩,hd O H p⟩
section
open PySem.W
end
section
open PySem.W
variable{prog:hx}{w:ix}{A:Around}{dO:eN->ff->Prop}{s:ff}
def PrV(h:fo)(v:eN):Prop:=∃ a o n x y i ty,v=.ref a/\h.Q a=Z o/\o.cls=.type "tuple"/\o.data=.seq #[.int x i,.int y ty] n
def PrV.keep{v:eN}(p:PrV h v)(k:∀ b o,v=.ref b->h.Q b=Z o->h'.Q b=Z o):PrV h' v:=by
 let a o n x y i ty rfl eK r m:=p;erw[a,o,n,x,y,i,ty,U,k _ _ U eK,r,m]
theorem Bz{M:Model}:∀{vs:E eN},(∀ v∈vs,PrV s.H v)->∃ fs,KatTups s.H vs fs/\fs.L=vs.L/\∀ v∈fs,Looks M s.H (typeOf v) (.type "int")
 |[],_=>⟨[],trivial,U,λv t=>nomatch t⟩
 |v::vs,h=>by
  let fs eK O G:=Bz (M:=M) (vs:=vs) λu f=>h u (M6 _ f);let a o n x y i ty rfl D w k3:=h v (M7 ..);erw[.int x i::fs,KatTups.cons D w k3 U eK,by simp[*],λu f=>?_]
  obtain rfl|f:=MY.mp f
  .exact .now
  .exact G u f
end
theorem A9:∀{ys:E V}{us:E eN},Vals ys us->∀ u∈us,∃ y∈ys,RelV y u:=by
 intro ys us h;induction h with
 |nil=>intro u h;cases h
 |cons r t ih=>
  intro u h;obtain rfl|h:=MY.mp h
  .erw[_,M7 ..,r]
  .let z f b:=ih u h;erw[z,M6 _ f,b]
theorem wG{ys:E V}{us:E eN}(r:Vals ys us):∀{out:E eN},(∀ u∈out,u∈us)->∃ zs,Vals zs out/\zs.L=out.L/\∀ z∈zs,z∈ys
 |[],_=>⟨[],.nil,U,λz h=>nomatch h⟩
 |u::out,h=>by
  let zs J t Q:=wG r (out:=out) λx B=>h x (M6 _ B);let y j c:=A9 r u (h u (M7 ..))
  erw[y::zs,.cons c J,by simp[*],λz f=>by
   obtain rfl|f:=MY.mp f
   .exact j
   .exact Q z f]
section
variable{prog:hx}{w:ix}{K:Type} [DecidableEq K] {knd:KeyKind prog w K} {A:Around} {dO:eN->ff->Prop} {s:ff}
end
section
variable{X:Cx}{o e f:hb}{apos cpos:Pos}{td ty tx:TE}
end
def Itk(o:ii)(kvs:E (Key×V))(d:fc):It:=
 ⟨λi H=>H d=Z (.frz o (.dK kvs))/\i<kvs.L,λi H v l=>∃ k y,kvs[i]?=Z (k,y)/\v=kV k/\l=H,λi H=>H d=Z (.frz o (.dK kvs))/\kvs.L<=i⟩
def tN{d:fc}{es:kf DictEntry}(x:bC P w H h d (.frz o (.dK kvs)))(N:o.data=.dict es ep):(d == sysModules)=k9/\∃ vs,KV kvs vs/\h.DictAt (bF P w) d vs ep:=by
 let L f lo vs A C i l eK O G r:=x;rw[L]at eK
 cases eK
 rw[N]at G
 cases G
 erw[lo,vs,A,o,es,L,O,N,r]
theorem DF{tg:hb}(o:ii)(kvs:E (Key×V))(d it:fc)(es:kf DictEntry)(ep:R)(N:o.data=.dict es ep):Turn P w K tg (Itk o kvs d) [it] it (λi h=>h.IsKeyIter it d i kvs.L ep) where
 mem:=by simp
 obj:=λi h st b M=>by
  let e:b=it:=by simpa using M
  subst e;let o e c d:=st;erw[o,e,λv z=>by simp!]
 keep:=λi h O st k=>by
  let o e r:=st;erw[o,k it ∅ o e,r]
 item:=by
  intro X hP T hK l i B s L H dO I A st a;subst hP T hK;let hd J:=a;let lo m rk ac:=tN (I.hok d _ hd) N;let p:kvs.L=m.L:=Paired.length rk;let f0 f x f3 f4 f5:=A it ∅
  let{k v}G:∃ q,m[i]?=Z q:=⟨_,MG ∅⟩
  let{k' y}n ek g:=ng rk G;let ah:k'=k:=ek;subst ah;refine wpAny_pyNext_dict_item (p▸st) ac G λaa O D ab sb=>?_;let eK:nw H {s,O}:=I.turned (t':=s.u) (λb o M e=>(sb.2 b M).P e) f0 f f3 f4 f5;let o2 e c dd:=id ab;erw[aa,U,FL (s:={s,O}) e c dd ∅ ⟨kV k',H,eK,?_,⟨k',y,n,U,U⟩,p.X▸ab,λb M=>(A b M).1⟩]
  rcases bj (show qT k' aa=kt from D) with⟨j,t,rfl,rfl⟩|⟨z,t,rfl,rfl⟩
  .erw[t,U]
  .erw[t,U]
 done:=by
  intro X hP T hK l i B s L H dO I A st a;subst hP T hK;let hd J:=a;let lo m rk ac:=tN (I.hok d _ hd) N;let p:kvs.L=m.L:=Paired.length rk;let f0 f x f3 f4 f5:=A it ∅
  exact wpAny_pyNext_dict_end (I.ok.hd l) (p▸st) ac (N3 ∅) λO u=>⟨U,I.turned (t':=s.u) (λb o M e=>u b o M e) f0 f f3 f4 f5⟩
 self:=λ_ _ s Q _ st h=>by
  let C:s.TypeIs (.ref it) "dict_keyiterator":=st.typeIs;refine wpAny_pyIter_slot C F.slot_dict_keyiterator_iter (SH F.slot_dict_keyiterator_iter C F.entry_dict_keyiterator_iter ?_ (F.args_dict_keyiterator_iter_1 _));show wpAny _ _ (ret (.ref it)) _ _ s;exact R7 ⟨_,U,"dict_keyiterator",_,C,F.slot_dict_keyiterator_next.Y,h⟩
def iKeys(r:TE):TI:=λL H ad=>r L H λx j=>∃ d G,x=.ref d/\j d=Z (.dK G)/\∀ o,ad (Itk o G d) (upd j d (.frz o (.dK G)))
def Lr{c:hb}(N:PE X e eK):PI X c e (iKeys eK):=by
 intro B s L H ad I h;refine thn (N B s L H _ I h) λv C T=>?_;let x j i J dO:=T;let d G rfl hd q:=dO
 cases J
 let _ g r y sz _:=nO (u:=.dK G) True.intro (i.hok d _ hd);let o dO n z:=id y;let p:=i.freeze hd True.intro dO;let lo m A l:=tN (p.hok d _ ag) z;let t:G.L=m.L:=Paired.length A;refine wpAny_pyIter_dict lo l ?_;erw[C.H.M.J,[C.H.M.J],5,upd j d (.frz o (.dK G)),U,p.kept (t':=C.u) λb u e=>R8 _ e,DF o G d _ g r z,⟨_,R9 _ U,U,by rw[t];rfl⟩,λb M=>?_,q o]
 rw[MQ.mp M];exact p.fpOk (MN _) (p.hok.fresh (MN _))
section
variable{prog:hx}{w:ix}{A:Around}{dO:eN->ff->Prop}{s:ff}{T:String}{r d:fc}{n:R}{P:R->eN->Prop}{OK:fo->Prop}
end
abbrev bP(h:fo)(T:fc)(a b c:eN):Prop:=h.Q T=Z {cls:=.type "tuple",data:=.seq #[a,b,c]}
section
variable{prog:hx}{w:ix}{A:Around}{dO:eN->ff->Prop}{s:ff}
def cK{T:fc}{a b c x:eN}{k:R}{Q:Unit->ff->Prop}(C:bP s.H T a b c)(h:∀ h',h'.Q T=Z {cls:=.type "tuple",data:=.seq ((#[a,b,c]:kf eN).setIfInBounds k x)}->RU T s.H h'->Q () {s,h'}):
  mi A (S4 T (·.setIfInBounds k x)) Q dO s:=by
 refine S5 C U (h _ ?_ (SN ..));rw[Ss _ C U];simp[Sr]
structure Z3(z TI TO i1 i2 i3 l1 l2 l3:fc):Prop where
 zs:∀ x∈[TI,TO,i1,i2,i3,l1,l2,l3],x≠z
 ts:∀ x∈[TI,i1,i2,i3,l1,l2,l3],x≠TO
 is1:∀ x∈[TI,i2,i3,l1,l2,l3],x≠i1
 is2:∀ x∈[TI,i1,i3,l1,l2,l3],x≠i2
 is3:∀ x∈[TI,i1,i2,l1,l2,l3],x≠i3
def KI{z TI TO:fc}{k:R}{xs ys zs:kf eN}{x y v a b c:eN}(D:Z3 z TI TO i1 i2 i3 p f C)(hz:IsZip s.H z TI TO .none)(a0:bP s.H TI (.ref i1) (.ref i2) (.ref i3))(a1:bP s.H TO a b c)(eK:s.H.IsListIter i1 p k)(h2:s.H.IsListIter i2 f k)(G:s.H.IsListIter i3 C k)(aa:s.H.IsList p xs)(O:s.H.IsList f ys)(ab:s.H.IsList C zs)(B:xs[k]?=some x)(j:ys[k]?=some y)(t:zs[k]?=some v)(hQ:∀ h',IsZip h' z TI TO (rawInt s.H.M.J)->bP h' TO x y v->h'.IsListIter i1 p (k+1)->h'.IsListIter i2 f (k+1)->h'.IsListIter i3 C (k+1)->bP h' s.H.M.J x y v->h'.M.J=s.H.M.J+1 ->
   (∀ c o,c∉[z,TO,i1,i2,i3]->s.H.Q c=Z o->h'.Q c=Z o)->Q (.ref s.H.M.J) {s,h'}):
  mi A (j0.«zip.__next__» ⟨[.ref z],[]⟩) (λd s'=>∃ v,d=.done (.ret v)/\Q v s') dO s:=by
 let a9 bb a2 bd be:=D;simp only[MY,N4,or_false,forall_eq_or_imp,forall_eq]at a9 bb a2 bd be;let cW av aL aS a8 bB bG bY:=a9;let ci aI al ar cl a5 aT:=bb;let cm bH b0 cn a6 bf:=a2;let co cq b5 cs ct bg:=bd;let cu cv cw cy cz cB:=be;show wpAny _ _ (field (.ref z) 2 >>= _) _ _ _;refine R4 (wpAny_field hz U (x:=.bool k9) U ?_);show wpAny _ _ (field (.ref z) 3 >>= _) _ _ _;refine R4 (wpAny_field hz U (x:=.ref TI) U ?_);refine R4 (S2 a0 U ?_);show wpAny _ _ (j0.SmallTypes.ownedTupleIsFree (.ref z) >>= _) _ _ _;refine R4 ?_;unfold j0.SmallTypes.ownedTupleIsFree;refine R4 (wpAny_field hz U (x:=.none) U (R7 ?_));simp only[if_true];refine R4 (wpAny_rule ?_);refine R4 (wpAny_field hz U (x:=.ref TO) U ?_);refine R4 (SQ hz ∅ λL u g=>?_)
 replace u:IsZip L z TI TO .ellipsis:=u;refine R4 ?_;simp only[List.zipIdx_cons,List.zipIdx_nil,List.forIn_cons,List.forIn_nil];refine R4 (R4 (wpAny_onRaise ?_));show wpAny _ _ (j0.SmallTypes.nextOf (.ref i1) >>= _) _ _ _;refine R4 (wpAny_nextOf_list_item (eK.U g.U aL) (aa.U g.U bB) B λq bi i=>R7 ?_);let ac:bP q TO a b c:=i.U _ _ aI.X (g.U _ _ av a1);refine R4 (S2 ac U ?_);refine R4 (cK ac λN I l=>?_);replace I:bP N TO x b c:=I;refine R4 (SS (R7 ?_));refine R4 (R4 (wpAny_onRaise ?_));show wpAny _ _ (j0.SmallTypes.nextOf (.ref i2) >>= _) _ _ _
 refine R4 (wpAny_nextOf_list_item (((h2.U g.U aS).U i.U bH).U l.U al)
  (((O.U g.U bG).U i.U a6).U l.U a5) j λan bm m=>R7 ?_)
 let ah:bP an TO x b c:=m.U _ _ al.X I;refine R4 (S2 ah U ?_);refine R4 (cK ah λap H n=>?_);replace H:bP ap TO x y c:=H;refine R4 (SS (R7 ?_));refine R4 (R4 (wpAny_onRaise ?_));show wpAny _ _ (j0.SmallTypes.nextOf (.ref i3) >>= _) _ _ _
 refine R4 (wpAny_nextOf_list_item (((((G.U g.U a8).U i.U b0).U l.U ar).U m.U b5).U n.U ar)
  (((((ab.U g.U bY).U i.U bf).U l.U aT).U m.U bg).U n.U aT) t λbn b6 M=>R7 ?_)
 let a7:bP bn TO x y c:=M.U _ _ ar.X H;refine R4 (S2 a7 U ?_);refine R4 (cK a7 λr am T=>?_);replace am:bP r TO x y v:=am;refine R4 (SS (R7 (R7 ?_)));refine R4 (S2 am U ?_);refine R4 (wpAny_newTuple ?_);let h:r.M.J=s.H.M.J:=by rw[T.1,M.1,n.1,m.1,l.1,i.1,g.1]
 let bv:IsZip r z TI TO .ellipsis:=T.U _ _ av.X (M.U _ _ a8.X (n.U _ _ av.X (m.U _ _ aS.X (l.U _ _ av.X (i.U _ _ aL.X u)))));let ca:∀ c o,c∉[z,TO,i1,i2,i3]->s.H.Q c=Z o->r.Q c=Z o:=λc o J e=>by
  simp only[MY,N4,or_false,not_or]at J;let c1 c2 c3 c4 c5:=J;exact T.U _ _ c2 (M.U _ _ c5 (n.U _ _ c2 (m.U _ _ c4 (l.U _ _ c2 (i.U _ _ c3 (g.U _ _ c1 e))))))
 let cb:r.IsListIter i1 p (k+1):=((((bi.U l.U aI).U m.U cq).U n.U aI).U M.U cv).U T.U aI;let cc:r.IsListIter i2 f (k+1):=((bm.U n.U al).U M.U cw).U T.U al;let cd:r.IsListIter i3 C (k+1):=b6.U T.U ar;let bR:z<r.M.J:=RP bv;show wpAny _ _ (j0.SmallTypes.ownedTupleHandOut (.ref z) (.ref r.M.J) >>= _) _ _ _;refine R4 ?_;unfold j0.SmallTypes.ownedTupleHandOut;let ce:IsZip (r.e {cls:=.type "tuple",data:=.seq #[x,y,v]}) z TI TO .ellipsis:=R8 _ bv;refine R4 (SQ ce ∅ λcR a3 a4=>?_)
 replace a3:IsZip cR z TI TO (rawInt r.M.J):=a3;refine SQ a3 ∅ λhA bQ ch=>?_
 replace bQ:IsZip hA z TI TO (rawInt r.M.J):=bQ;let up:∀ c o,c≠z->r.Q c=Z o->hA.Q c=Z o:=λc o c1 e=>ch.U _ _ c1 (a4.U _ _ c1 (R8 _ e));let cT:bP hA r.M.J x y v:=ch.U _ _ (N9 bR) (a4.U _ _ (N9 bR) (R9 _ U));let bU:hA.M.J=r.M.J+1:=by rw[ch.1,a4.1,Sj]
 rw[h]at bQ cT bU;refine R7 ⟨_,U,?_⟩;show Q (.ref r.M.J) _;rw[h];exact hQ hA bQ (up _ _ av am) (cb.at λo e=>up _ o aL e) (cc.at λo e=>up _ o aS e) (cd.at λo e=>up _ o a8 e) cT bU λc o J e=>up c o (λz=>J (by simp[z])) (ca c o J e)
def z3_end{z TI TO:fc}{k:R}{xs ys zs:kf eN}{a b c:eN}{Q:Fin->ff->Prop}(H:A.handled=lf)(D:Z3 z TI TO i1 i2 i3 p f C)(hz:IsZip s.H z TI TO .none)(a3:bP s.H TI (.ref i1) (.ref i2) (.ref i3))(a4:bP s.H TO a b c)(eK:s.H.IsListIter i1 p k)(h2:s.H.IsListIter i2 f k)(G:s.H.IsListIter i3 C k)(ac:s.H.IsList p xs)(O:s.H.IsList f ys)(ah:s.H.IsList C zs)(d:xs[k]?=lf∨ys[k]?=lf∨zs[k]?=lf)(hE:∀ h' e,(∀ c o,c∉[z,TO,i1,i2,i3]->s.H.Q c=Z o->h'.Q c=Z o)->(∃ o,h'.Q e=Z o/\o.cls=.type "StopIteration")->dO (.ref e) {s,h'}):
  mi A (j0.«zip.__next__» ⟨[.ref z],[]⟩) Q dO s:=by
 let a9 bb a5 bd be:=D;simp only[MY,N4,or_false,forall_eq_or_imp,forall_eq]at a9 bb a5 bd be;let cu aL aT a0 a8 bQ bR bY:=a9;let ca aS an av cb a6 a1:=bb;let cc bU b0 cd a7 bf:=a5;let ce ch b5 ci cl bg:=bd;let cm cn co cq cs ct:=be;let b6:∀ c,c∉[z,TO,i1,i2,i3]->c≠z/\c≠TO/\c≠i1/\c≠i2/\c≠i3:=λc J=>by
  simp only[MY,N4,or_false,not_or]at J;exact J
 show wpAny _ _ (field (.ref z) 2 >>= _) _ _ _;refine R4 (wpAny_field hz U (x:=.bool k9) U ?_);show wpAny _ _ (field (.ref z) 3 >>= _) _ _ _;refine R4 (wpAny_field hz U (x:=.ref TI) U ?_);refine R4 (S2 a3 U ?_);show wpAny _ _ (j0.SmallTypes.ownedTupleIsFree (.ref z) >>= _) _ _ _;refine R4 ?_;unfold j0.SmallTypes.ownedTupleIsFree;refine R4 (wpAny_field hz U (x:=.none) U (R7 ?_));simp only[if_true];refine R4 (wpAny_rule ?_);refine R4 (wpAny_field hz U (x:=.ref TO) U ?_);refine R4 (SQ hz ∅ λL u g=>?_)
 replace u:IsZip L z TI TO .ellipsis:=u;refine R4 ?_;simp only[List.zipIdx_cons,List.zipIdx_nil,List.forIn_cons,List.forIn_nil];refine R4 (R4 (wpAny_onRaise ?_));show wpAny _ _ (j0.SmallTypes.nextOf (.ref i1) >>= _) _ _ _
 cases B:xs[k]? with
 |none=>
  refine R4 (wpAny_nextOf_list_end H (eK.U g.U aT) (ac.U g.U bQ) B λv e i N=>?_);let oe aI a2:=N;let bv:IsZip v z TI TO .ellipsis:=i _ _ aT.X u;let bB:e≠z:=λx=>by subst x;rw[bv]at aI;cases aI;simp at a2
  exact SQ bv ∅ λab _ l=>hE ab e (λc o J x=>have q:=b6 c J;l.U _ _ q.1 (i _ _ q.2.2.1 (g.U _ _ q.1 x))) ⟨oe,l.U _ _ bB aI,a2⟩
 |some x=>
  refine R4 (wpAny_nextOf_list_item (eK.U g.U aT) (ac.U g.U bQ) B λv bi i=>R7 ?_);let al:bP v TO a b c:=i.U _ _ aS.X (g.U _ _ aL a4);refine R4 (S2 al U ?_);refine R4 (cK al λab I l=>?_);replace I:bP ab TO x b c:=I;refine R4 (SS (R7 ?_));refine R4 (R4 (wpAny_onRaise ?_));show wpAny _ _ (j0.SmallTypes.nextOf (.ref i2) >>= _) _ _ _
  cases j:ys[k]? with
  |none=>
   refine R4 (wpAny_nextOf_list_end H (((h2.U g.U a0).U i.U bU).U l.U an)
    (((O.U g.U bR).U i.U a7).U l.U a6) j λap e m N=>?_)
   let oe aI a2:=N;let bG:IsZip ap z TI TO .ellipsis:=m _ _ a0.X (l.U _ _ aL.X (i.U _ _ aT.X u));let bB:e≠z:=λx=>by subst x;rw[bG]at aI;cases aI;simp at a2
   exact SQ bG ∅ λar _ n=>hE ar e (λc o J x=>have q:=b6 c J;n.U _ _ q.1 (m _ _ q.2.2.2.1 (l.U _ _ q.2.1 (i.U _ _ q.2.2.1 (g.U _ _ q.1 x))))) ⟨oe,n.U _ _ bB aI,a2⟩
  |some y=>
   let t:zs[k]?=lf:=by
    obtain h|h|h:=d
    .rw[B]at h;cases h
    .rw[j]at h;cases h
    .exact h
   refine R4 (wpAny_nextOf_list_item (((h2.U g.U a0).U i.U bU).U l.U an)
    (((O.U g.U bR).U i.U a7).U l.U a6) j λap bm m=>R7 ?_)
   let am:bP ap TO x b c:=m.U _ _ an.X I;refine R4 (S2 am U ?_);refine R4 (cK am λar aa n=>?_);replace aa:bP ar TO x y c:=aa;refine R4 (SS (R7 ?_));refine R4 (R4 (wpAny_onRaise ?_));show wpAny _ _ (j0.SmallTypes.nextOf (.ref i3) >>= _) _ _ _
   refine R4 (wpAny_nextOf_list_end H (((((G.U g.U a8).U i.U b0).U l.U av).U m.U b5).U n.U av)
    (((((ah.U g.U bY).U i.U bf).U l.U a1).U m.U bg).U n.U a1) t λbn e M N=>?_)
   let oe aI a2:=N;let bH:IsZip bn z TI TO .ellipsis:=M _ _ a8.X (n.U _ _ aL.X (m.U _ _ a0.X (l.U _ _ aL.X (i.U _ _ aT.X u))));let bB:e≠z:=λx=>by subst x;rw[bH]at aI;cases aI;simp at a2
   exact SQ bH ∅ λr _ T=>hE r e (λc o J x=>have q:=b6 c J;T.U _ _ q.1 (M _ _ q.2.2.2.2 (n.U _ _ q.2.1 (m.U _ _ q.2.2.2.1 (l.U _ _ q.2.1 (i.U _ _ q.2.2.1 (g.U _ _ q.1 x))))))) ⟨oe,T.U _ _ bB aI,a2⟩
def KH{z TI TO:fc}{k:R}{xs ys zs:kf eN}{x y v a b c:eN}{Q:j5 eN->ff->Prop}(D:Z3 z TI TO i1 i2 i3 p f C)(hz:IsZip s.H z TI TO .none)(L:bP s.H TI (.ref i1) (.ref i2) (.ref i3))(M:bP s.H TO a b c)(eK:s.H.IsListIter i1 p k)(h2:s.H.IsListIter i2 f k)(G:s.H.IsListIter i3 C k)(m:s.H.IsList p xs)(O:s.H.IsList f ys)(i:s.H.IsList C zs)(B:xs[k]?=some x)(j:ys[k]?=some y)(t:zs[k]?=some v)(N:∀ h',IsZip h' z TI TO (rawInt s.H.M.J)->bP h' TO x y v->h'.IsListIter i1 p (k+1)->h'.IsListIter i2 f (k+1)->h'.IsListIter i3 C (k+1)->bP h' s.H.M.J x y v->h'.M.J=s.H.M.J+1 ->
   (∀ c o,c∉[z,TO,i1,i2,i3]->s.H.Q c=Z o->h'.Q c=Z o)->Q (Z (.ref s.H.M.J)) {s,h'}):
  mi A (pyNext (.ref z)) Q dO s:=by
 let n:s.TypeIs (.ref z) "zip":=⟨_,hz,U⟩;unfold pyNext
 exact R4 (wpAny_attempt (SK (name:=fI.ofString "__next__") n F.slot_zip_next
  (SH F.slot_zip_next n F.entry_zip_next
   (KI D hz L M eK h2 G m O i B j t λh' r u I q d e g h=>R7 (N h' r u I q d e g h)) (F.args_zip_next_1 _))))
def KJ{z TI TO:fc}{k:R}{xs ys zs:kf eN}{a b c:eN}{Q:j5 eN->ff->Prop}(H:A.handled=lf)(D:Z3 z TI TO i1 i2 i3 p f C)(hz:IsZip s.H z TI TO .none)(L:bP s.H TI (.ref i1) (.ref i2) (.ref i3))(M:bP s.H TO a b c)(eK:s.H.IsListIter i1 p k)(h2:s.H.IsListIter i2 f k)(G:s.H.IsListIter i3 C k)(m:s.H.IsList p xs)(O:s.H.IsList f ys)(i:s.H.IsList C zs)(d:xs[k]?=lf∨ys[k]?=lf∨zs[k]?=lf)(h:∀ h',(∀ c o,c∉[z,TO,i1,i2,i3]->s.H.Q c=Z o->h'.Q c=Z o)->Q lf {s,h'}):mi A (pyNext (.ref z)) Q dO s:=by
 let n:s.TypeIs (.ref z) "zip":=⟨_,hz,U⟩;unfold pyNext
 refine R4 (wpAny_attempt (SK (name:=fI.ofString "__next__") n F.slot_zip_next
  (SH F.slot_zip_next n F.entry_zip_next (z3_end H D hz L M eK h2 G m O i d λh' e l N=>?_) (F.args_zip_next_1 _))))
 let o g J:=N;refine R4 (SD (T:="StopIteration") (b:=kt) ⟨o,g,J⟩ isSubtype_stop ?_);exact R7 (h _ l)
end
def r8(a b c:eN):checkTypeCall "zip" ⟨[a,b,c],[]⟩=pure ():=by kernel_rfl
def uZ(a b c:eN):checkBuiltinCall "zip.__new__" ⟨[.type "zip",a,b,c],[]⟩=pure ():=by kernel_rfl
def A5(a b c d:eN):argsOk "object.__init__" ⟨[a,b,c,d],[]⟩:=by
 unfold argsOk;rw[signature?_of (id:="object.__init__") (n:=['_','_','t','i','n','i','_','_']) (o:=['t','c','e','j','b','o']) (by kernel_rfl) PySem.F.owner_object];kernel_rfl
abbrev li3(l:fc):ii:={cls:=.type "list_iterator",data:=.fields #[.ref l,.int 0 0]}
abbrev z3H3(h:fo)(t Q j:fc):fo:=((h.e (li3 t)).e (li3 Q)).e (li3 j)
abbrev z3H4(h:fo)(t Q j:fc):fo:=(z3H3 h t Q j).e {cls:=.type "tuple",data:=.seq #[.ref h.M.J,.ref (h.e (li3 t)).M.J,.ref ((h.e (li3 t)).e (li3 Q)).M.J]}
abbrev z3H5(h:fo)(t Q j:fc):fo:=(z3H4 h t Q j).e {cls:=.type "tuple",data:=.seq #[.none,.none,.none]}
abbrev z3H6(h:fo)(t Q j:fc):fo:=(z3H5 h t Q j).e {cls:=.type "zip",data:=.fields #[.none,.bool k9,.bool k9,.ref (z3H3 h t Q j).M.J,.ref (z3H4 h t Q j).M.J]}
theorem Cp(t Q j:fc)(xs ys zs:kf eN):
  Meets (j0.«zip.__new__» ⟨[.type "zip",.ref t,.ref Q,.ref j],[]⟩) (λ_ ad s=>s.H.IsList t xs/\s.H.IsList Q ys/\s.H.IsList j zs /\
   ad (.ok (.ret (.ref (z3H5 s.H t Q j).M.J))) {s,z3H6 s.H t Q j}):=
 .of_wp λf w A ad s h=>by
  let G g d m os:=s;let a O i h:=h;let L:=sub_zip;let c:fo.IsList (ff.heap ⟨G,g,d,m,os⟩) t xs:=a;let e:fo.IsList (ff.heap ⟨G.e {cls:=.type "list_iterator",data:=.fields #[.ref t,.int 0 0]},g,d,m,os⟩) Q ys:=fo.IsList.push O _;let b:fo.IsList (ff.heap ⟨(G.e {cls:=.type "list_iterator",data:=.fields #[.ref t,.int 0 0]}).e {cls:=.type "list_iterator",data:=.fields #[.ref Q,.int 0 0]},g,d,m,os⟩) j zs:=fo.IsList.push (fo.IsList.push i _) _;wp_walk using wpAny_pyIter_list c,wpAny_pyIter_list e,wpAny_pyIter_list b;erw[9,h]
def GC{s:ff}{xs ys zs:kf eN}(m:s.H.IsList a xs)(O:s.H.IsList p ys)(i:s.H.IsList f zs)(h:∀ h',IsZip h' (s.H.M.J+5) (s.H.M.J+3) (s.H.M.J+4) .none->bP h' (s.H.M.J+3) (.ref s.H.M.J) (.ref (s.H.M.J+1)) (.ref (s.H.M.J+2)) ->
   bP h' (s.H.M.J+4) .none .none .none->h'.IsListIter s.H.M.J a 0->h'.IsListIter (s.H.M.J+1) p 0->h'.IsListIter (s.H.M.J+2) f 0 ->
   (∀ c o,s.H.Q c=Z o->h'.Q c=Z o)->Q (.ref (s.H.M.J+5)) {s,h'}):
  mi A (call (.type "zip") [.ref a,.ref p,.ref f]) Q dO s:=by
 refine callType_new PySem.F.called_zip ∅ (r8 _ _ _) (uZ _ _ _) (λt=>A5 t _ _ _) PySem.F.entry_zip_new
  (Cp a p f xs ys zs) ⟨m,O,i,?_⟩
 let k:(s.H.e (li3 a)).M.J=s.H.M.J+1:=Sj ..;let D:((s.H.e (li3 a)).e (li3 p)).M.J=s.H.M.J+2:=by rw[Sj,k]
 let l:(z3H3 s.H a p f).M.J=s.H.M.J+3:=by rw[Sj,D]
 let b:(z3H4 s.H a p f).M.J=s.H.M.J+4:=by rw[Sj,l]
 let n:(z3H5 s.H a p f).M.J=s.H.M.J+5:=by rw[Sj,b]
 let d:(z3H6 s.H a p f).Q (z3H5 s.H a p f).M.J=Z _:=R9 _ U;let G:(z3H6 s.H a p f).Q (z3H4 s.H a p f).M.J=Z _:=R8 _ (R9 _ U);let r:(z3H6 s.H a p f).Q (z3H3 s.H a p f).M.J=Z _:=R8 _ (R8 _ (R9 _ U));let eK:(z3H6 s.H a p f).Q ((s.H.e (li3 a)).e (li3 p)).M.J=Z _:=R8 _ (R8 _ (R8 _ (R9 _ U)));let v:(z3H6 s.H a p f).Q (s.H.e (li3 a)).M.J=Z _:=R8 _ (R8 _ (R8 _ (R8 _ (R9 _ U))));let L:(z3H6 s.H a p f).Q s.H.M.J=Z _:=R8 _ (R8 _ (R8 _ (R8 _ (R8 _ (R9 _ U)))));show _/\_;rw[l,b,n]at d;rw[b]at G;rw[l,k,D]at r;rw[D]at eK;rw[k]at v;rw[n]
 erw[⟨_,d,U⟩,h _ d r G ⟨_,L,U,U⟩ ⟨_,v,U,U⟩ ⟨_,eK,U,U⟩ λc o x=>
  R8 _ (R8 _ (R8 _ (R8 _ (R8 _ (R8 _ x)))))]
def Itz3(K:MJ)(a b c:fc):It:=
 ⟨λi H=>∃ D k I x y z,pi a D/\pi b k/\pi c I/\D[i]?=Z x/\k[i]?=Z y/\I[i]?=Z z,
  λi H v l=>∃ T x y z,H T=lf/\v=.ref T/\l=upd H T (.tup [x,y,z])/\(∀ D,pi a D->D[i]?=Z x)/\(∀ k,pi b k->k[i]?=Z y)/\∀ I,pi c I->I[i]?=Z z,
  λi H=>∃ D k I,pi a D/\pi b k/\pi c I/\(D.L<=i∨k.L<=i∨I.L<=i)⟩
theorem DD{es:E hb}{k:R}(a b c z TI TO i1 i2 i3:fc)(D:Z3 z TI TO i1 i2 i3 a b c):Turn P w K (.Tuple es k pos) (Itz3 K a b c) [z,TI,TO,i1,i2,i3] z
  (λi h=>IsZip h z TI TO .none/\bP h TI (.ref i1) (.ref i2) (.ref i3)/\(∃ u v w,bP h TO u v w)/\h.IsListIter i1 a i/\h.IsListIter i2 b i/\h.IsListIter i3 c i) where
 mem:=by simp
 obj:=λi h st d hd=>by
  let kz kI{u v w kO}{o1 f c1 d1}{o2 q2 c2 d2}{o3 q3 c3 d3}:=st;simp only[MY,N4,or_false]at hd;obtain rfl|rfl|rfl|rfl|rfl|rfl:=hd
  .erw[_,kz,λv z=>by contradiction]
  .erw[_,kI,λv z=>by contradiction]
  .erw[_,kO,λv z=>by contradiction]
  .erw[o1,f,λv z=>by simp!]
  .erw[o2,q2,λv z=>by simp!]
  .erw[o3,q3,λv z=>by simp!]
 keep:=λi h h' st N=>by
  let kz kI{u v w kO}k1 k2 k3:=st;erw[N _ ∅ _ kz,N _ ∅ _ kI,⟨u,v,w,N _ ∅ _ kO⟩,k1.at λo q=>N i1 ∅ o q,k2.at λo q=>N i2 ∅ o q,k3.at λo q=>N i3 ∅ o q]
 item:=by
  intro X hP hw hK J i B s L H dO I hf st hg;subst hP hw hK;let C m T x y t n g j G r hv:=hg;let Q rv p hz:=I.list n;let ac an p2 av:=I.list g;let aL aI p3 a0:=I.list j;let u A ru:=rv.get G;let u2 aS ap:=an.get r;let u3 a9 aT:=aI.get hv;let kz kI{o1 o2 o3 kO}k1 k2 k3:=st;refine KH D kz kI kO k1 k2 k3 p.isList p2.isList p3.isList (x:=u) (y:=u2) (v:=u3) (by simpa using A) (by simpa using aS) (by simpa using a9) λh' a1 a2 a3 a4 a5 a6 a7 l=>?_
  erw[57];refine wpAny_letOwnedTupleGo_zip a1 λO g1 al=>?_;let aa:RU z h' O:=al;let ar:∀ d∈[z,TI,TO,i1,i2,i3],d<s.H.M.J:=λd hd=>by
   simp only[MY,N4,or_false]at hd;obtain rfl|rfl|rfl|rfl|rfl|rfl:=hd
   .exact RP kz
   .exact RP kI
   .exact RP kO
   .let _ q _:=k1;exact RP q
   .let _ q _:=k2;exact RP q
   .let _ q _:=k3;exact RP q
  let am:H s.H.M.J=lf:=I.hok.fresh (MN _);let I0:nw (upd H s.H.M.J (.tup [x,y,t])) {s with heap:=s.H.e {cls:=.type "tuple",data:=.seq #[u,u2,u3]},toks:=s.u}:=
   I.laid (t':=s.u) (λb u e=>R8 _ e) (MN _) ⟨by show 3<=RO;decide,[u,u2,u3],.cons ru (.cons ap (.cons aT .nil)),⟨_,R9 _ U,U,_,U⟩⟩
  let eK:∀ d∈[z,TI,TO,i1,i2,i3],upd H s.H.M.J (.tup [x,y,t]) d=lf:=λd hd=>by
   rw[aw (Nh (ar d hd))];exact(hf d hd).1
  let a8:∀ d,d∉[z,TI,TO,i1,i2,i3]->d∉[z,TO,i1,i2,i3]:=λd hd q=>hd (by
   simp only[MY,N4,or_false]at q ⊢
   obtain q|q|q|q|q:=q<;>simp[q])
  let I2:nw (upd H s.H.M.J (.tup [x,y,t])) {s with heap:=O,toks:=s.u}:=Inv.turnedL (s:={s with heap:=s.H.e {cls:=.type "tuple",data:=.seq #[u,u2,u3]},toks:=s.u}) (h':=O) I0 (t':=s.u) (fp:=[z,TI,TO,i1,i2,i3]) (λd o hd q=>by
   let n1:d≠z:=λe=>hd (by simp[e])
   refine(aa.2 d n1).P ?_;rcases fo.get?_push_cases q with⟨z1,z2⟩|q
   .rw[z1,z2];exact a6
   .exact l d o (a8 d hd) q) λd hd=>⟨eK d hd,(hf d hd).2⟩
  let bb:TI∉[z,TO,i1,i2,i3]:=by
   simp only[MY,N4,or_false,not_or];erw[D.zs _ ∅,D.ts _ ∅,D.is1 _ ∅,D.is2 _ ∅,D.is3 _ ∅]
  erw[.ref s.H.M.J,_,I2,U,⟨s.H.M.J,x,y,t,am,U,U,λT h=>by rw[I.list_inj h n];exact G,λT h=>by rw[I.list_inj h g];exact r,λT h=>by rw[I.list_inj h j];exact hv⟩,3,eK]
  erw[g1,(aa.2 TI (D.zs _ ∅)).P (l _ _ bb kI),⟨_,_,_,(aa.2 TO (D.zs _ ∅)).P a2⟩,a3.at λo q=>(aa.2 i1 (D.zs _ ∅)).P q,a4.at λo q=>(aa.2 i2 (D.zs _ ∅)).P q,a5.at λo q=>(aa.2 i3 (D.zs _ ∅)).P q]
 done:=by
  intro X hP hw hK J i B s L H dO I hf st hg;subst hP hw hK;let C m T n g j G:=hg;let Q rv p hz:=I.list n;let ac an p2 av:=I.list g;let aL aI p3 a0:=I.list j;let kz kI{o1 o2 o3 kO}k1 k2 k3:=st;let M:=rv.L;let ab:=an.L;let ah:=aI.L
  refine KJ (I.ok.hd J) D kz kI kO k1 k2 k3 p.isList p2.isList p3.isList ?_ λh' eb=>⟨U,Inv.turnedL I (t':=s.u) (λd o hd e=>eb d o (λq=>hd (by
   grind)) e) hf⟩
  simp!
 self:=λ_ _ _ _ _ st h=>wpAny_pyIter_zip st.1 h
def GX(n a b c:R)(O:a<n)(M:b<n)(J:c<n):Z3 (n+5) (n+3) (n+4) n (n+1) (n+2) a b c:=by
 erw[1023]<;>(simp only[MY,N4,or_false,forall_eq_or_imp,forall_eq])
 .grind
 .grind
 .grind
 .lia
 .lia
def vals3{a b c:V}(h:Vals [a,b,c] us):∃ u v w,us=[u,v,w]/\RelV a u/\RelV b v/\RelV c w:=by
 cases h with
 |cons J t=>cases t with
  |cons N t=>cases t with
   |cons f t=>cases t;erw[149,J,N,f]
def iZip3(K:MJ)(l:TA):TI:=λL H ad=>l L H λm j=>∃ a b c,m=[.ref a,.ref b,.ref c]/\(∃ D,SqL K j a D)/\(∃ k,SqL K j b k)/\(∃ I,SqL K j c I)/\ad (Itz3 K a b c) j
def Lq{t M l3:hb}{l:TA}{es:E hb}{k:R}{p:Pos}(N:Gl X "zip")(y:X.mg "zip"=lf)(O:PA X [t,M,l3] l)(r:uP_ (RV [t,M,l3] X.j=(k9,eval t X.j)::RV [M,l3] X.j) uR_)(ab:uP_ ((backTo pos (RV [M,l3] X.j)).any (·.1)=k9) uR_):
  PI X (.Tuple es k tp) (.Call (.Name "zip" p) [t,M,l3] [] pos) (iZip3 X.K l):=by
 intro B s L H ad I h;refine Call_ (iB I N y Kr (Sa (thn (O pos B s L H _ I h) λz C ⟨o,j,eK,J,dO⟩=>?_) r ab));let a b c e{x n}{m g}{T i}q:=dO;subst e;let u u2 u3 rfl ru al ar:=vals3 J
 cases ru
 cases al
 cases ar
 let Q rv p A:=eK.list n;let aa ah G am:=eK.list g;let ap an p3 av:=eK.list i;let la:a<C.H.M.J:=by let _ _ q _:=p;exact RP q
 let lb:b<C.H.M.J:=by let _ _ q _:=G;exact RP q
 let lc:c<C.H.M.J:=by let _ _ q _:=p3;exact RP q
 refine GC p.isList G.isList p3.isList λf kz kI kO v w k3 D=>?_;refine wpAny_pyIter_zip kz ?_
 erw[C.H.M.J+5,[C.H.M.J+5,C.H.M.J+3,C.H.M.J+4,C.H.M.J,C.H.M.J+1,C.H.M.J+2],5,j,U,eK.kept (t':=C.u) D,
  DD a b c (C.H.M.J+5) (C.H.M.J+3) (C.H.M.J+4) C.H.M.J (C.H.M.J+1) (C.H.M.J+2) (GX _ a b c la lb lc),⟨kz,kI,⟨_,_,_,kO⟩,v,w,k3⟩,λd hd=>?_,q]
 let ac:C.H.M.J<=d:=by
  simp only[MY,N4,or_false]at hd;obtain rfl|rfl|rfl|rfl|rfl|rfl:=hd
  .exact Ot _ _
  .exact Ot _ _
  .exact Ot _ _
  .exact MN _
  .exact Ot _ _
  .exact Ot _ _
 exact eK.fpOk ac (eK.hok.fresh ac)
def IV{b c:fc}{g:TG}(n:R)(Pv:R->St->Hp->Prop)(A:Pv 0 O H)(eK:n<=xs.L)(h2:n<=ys.L)(G:zs.L=n)(hl:∀ i O H,i<=n->Pv i O H->pi a xs/\pi b ys/\pi c zs)(k:∀ i x y z O H T,xs[i]?=Z x->ys[i]?=Z y->zs[i]?=Z z->Pv i O H->H T=lf->g (.ref T) O (upd H T (.tup [x,y,z])) λh H2=>tb (D.lop (Pv (i+1))) h H2)(hd:∀ O H,Pv n O H->D.nx O H):
  ∃ W:R->R->St->Hp->Prop,(∃ m,W 0 m O H)/\∀ i m O H,W i m O H ->
   ((Itz3 K a b c).stop i H/\D.nx O H)∨((Itz3 K a b c).go i H/\∃ N:St->Hp->Prop,(∀ σ' H',N σ' H'->∃ f,f<m/\W (i+1) f σ' H')/\∀ x H',(Itz3 K a b c).yld i H x H'->g x O H' λh H2=>tb (D.lop (N)) h H2):=by
 erw[λi m O H=>m=n-i/\i<=n/\Pv i O H,⟨n,by simp,ND _,A⟩,3]
 rintro i m O H ⟨rfl,J,p⟩;let dO r l:=hl i O H J p;by_cases Q:i<n
 .let t:i<xs.L:=by lia
  let d:i<ys.L:=by lia
  let j:i<zs.L:=by lia
  refine .inr ⟨⟨xs,ys,zs,xs[i],ys[i],zs[i],dO,r,l,by simp,by simp,by simp⟩,Pv (i+1),λσ' H' B=>⟨n-(i+1),∅,U,Q,B⟩,λv H' y=>?_⟩
  let T x y z C rfl rfl u M o:=y;exact k i x y z O _ T (u xs dO) (M ys r) (o zs l) p C
 .let e:i=n:=by lia
  subst e;exact .inl ⟨⟨xs,ys,zs,dO,r,l,.inr (.inr ∅)⟩,hd O H p⟩
abbrev tJ(p:Pos):Arguments:={posonlyargs:=[],args:=[{arg:="each",annotation:=lf,pos:=p}],vararg:=lf,kwonlyargs:=[],kw_defaults:=[],kwarg:=lf,defaults:=[]}
abbrev zZ:io:={kind:=.function,names:=[("each",.local),("told",.free)],isGenerator:=k9,isCoroutine:=k9,more:=[]}
abbrev Cy(p1 G j:Pos):hb:=.Subscript (.Name "told" p1) (.Name "each" G) j
section
variable{prog:hx}{w:ix}{A:Around}{dO:eN->ff->Prop}{s:ff}
def L5{c' ct t:fc}{a:fI}{p0 p1 G j:Pos}{g v:eN}{its:kf eN}{k:Y}{tk:Tok}(m:A.depth<recursionLimit)(r:s.H.Q f=Z (Qs "<lambda>" a (tJ p0) (Cy p1 G j) zZ [("told",ct)] u c' g))(n:s.H.CodeRec (.ref c') a)(h:s.H.NoLimit)(J:s.H.IsCell ct (Z (.ref t)))(hl:s.H.IsList t its)(k0:0<=k)(p:k<2^63)(d:its[k.R]?=Z v)(N:∀ h' y,(∀ b o,s.H.Q b=Z o->h'.Q b=Z o)->Q v {s with heap:=h',toks:=y}):
  mi A (call (.ref f) [.int k tk]) Q dO s:=by
 refine wpAny_call (PySem.W.kla_callFunE m r U U U U n ?_);let M:bindArgs (PySem.W.kla_fn "<lambda>" a (tJ p0) (Cy p1 G j) zZ [("told",ct)] u (.ref c') g) ⟨[.int k tk],[]⟩=(pure [(("each" : fI),eN.int k tk)]:Sem (E (fI×eN))):=rfl;rw[M];refine R7 (wpAny_newFunctionEnv (λx B=>?_) (λx B=>?_) (λeK z q=>?_) U)
 .let l:x=(("each" : fI),NameKind.local)∨x=(("told" : fI),NameKind.free):=by simpa using B
  obtain rfl|rfl:=l<;>simp!
 .rw[MQ.mp B];rfl
 let i:∀ b o,s.H.Q b=Z o->eK.Q b=Z o:=λb o e=>q.U b o (Nh (RP e)) (R8 _ e);erw[h.keeps i,PySem.W.kla_codeExpr ?_];refine Subscript_ (wpAny_Name (wpAny_loadName_free (c:=ct) U U U (J.keeps i) ?_));refine wpAny_Name (wpAny_loadName_local U U z U ?_);exact item_listR (hl.at λo e=>i _ _ e) k0 p d (N _ _ i)
abbrev Kp(h h':fo):Prop:=∀ b o,h.Q b=Z o->h'.Q b=Z o
theorem Kp.but{g:fo}(k:Kp g h)(n:g.Q I=lf)(m:∀ b o,b∉[I]->h.Q b=Z o->h'.Q b=Z o):Kp g h':=λb o e=>m b o (λz=>by simp!) (k b o e)
theorem Kp.same{g:fo}{S:fc}(k:Kp g h)(n:g.Q S=lf)(m:RU S h h'):Kp g h':=λb o e=>(m.2 b (λz=>by simp!)).P (k b o e)
def Iz{S:fc}{P:R->eN->Prop}{St:R->fo->Prop}{g:fo}(W:Walks prog w A.in1 a fp [a] n P St)(gJ:g.Q a=lf)(gS:g.Q S=lf)(am:S≠a)(ac:S∉fp)(turn:∀ i v,i<n->P i v->∀(h:fo)(tk:R)(Q:eN->ff->Prop)(dO:eN->ff->Prop),Kp g h->(∀ nv t h' y,Kp h h'->Q (.int nv t) {s with heap:=h',toks:=y})->mi A.in1 (call (.ref q) [v]) Q dO {s with heap:=h,toks:=tk})(d:∀ i v h' y,i<n->P i v->Kp g h'->ad (.ok (.ret v)) {s with heap:=h',toks:=y}):
  ∀(r j i:R)(h:fo)(tk:R)(vb:eN)(nb:Y)(tb:Tok)(c:R),n-(j+1)=r->j+1<=n->Kp g h->h.Q S=Z (SU "list" #[vb,.int nb tb] c)->St (j+1) h->i<n->P i vb ->
   Si (model prog w) A (.builtin "min.loop" ⟨[.ref a,.ref q,.ref S],[]⟩) ad {s with heap:=h,toks:=tk}:=by
 let p:(toString "min"++toString ".loop" : String) = "min.loop":=by rfl
 intro r;induction r with
 |zero=>
  intro j i h tk vb nb tb c er L kg H st N f;let k:j+1=n:=by lia
  refine SY OV ?_;rw[S1 NN _];refine R4 (m:=seqItems? (.ref S)) (S2 H U ?_);show wpAny _ A.in1 (tryCatch (pyNext (.ref a)) _ >>= _) _ _ _;refine R4 (S3 (W.done _ _ _ (by rw[← k];exact st) λh' y l=>?_))
  let ap:=kg.but gJ l;let T:=l S _ (by simpa using am) H
  let su:=SN h' S (Sr λ_=>(#[]:kf eN));refine R4 (m:=S4 S λ_=>#[]) (S5 T U (R4 (SS (R7 ?_))));exact d i vb _ _ N f (ap.same gS su)
 |succ r C=>
  intro j i h tk vb nb tb c er L kg H st N f;let lt:j+1<n:=by lia
  refine SY OV ?_;rw[S1 NN _];refine R4 (m:=seqItems? (.ref S)) (S2 H U ?_);show wpAny _ A.in1 (tryCatch (pyNext (.ref a)) _ >>= _) _ _ _;refine R4 (S3 (W.item (j+1) _ _ _ lt st λv eK ah G ab D=>?_));let aa:=kg.but gJ D;let B:=D S _ (by simpa using am) H
  show wpAny _ A.in1 (tryCatch (holding [v] (call (.ref q) [v])) _ >>= _) _ _ _;refine R4 (S3 (R5 (turn (j+1) v lt G eK ah _ _ aa λnv t O ar u=>?_)));let an:Kp g O:=λb o e=>u b o (aa b o e);let I:=u _ _ B;let x:=W.frame _ _ O ab λb _ o e=>u b o e;show wpAny _ A.in1 (tryCatch (holding [v,.int nv t] (richCompare .Lt (.int nv t) (.int nb tb) >>= _)) _ >>= _) _ _ _;refine R4 (S3 (R5 (R4 (CmpOf.ints_lt (prog:=prog) (w:=w) (A:=A.in1) (P:=λ(i:R) v=>∃ t,v=.int (if i=0 then nv else nb) t) (λi=>if i=0 then nv else nb) (λi v h=>h) 0 1 _ _ _ _ _ ⟨t,U⟩ ⟨tb,U⟩ ?_))));refine R4 (R5 (RY (R4 (SS (R7 ?_)))));by_cases cc:nv<nb
  .let su:=SN O S (Sr λ_=>#[v,.int nv t])
   let c2 al:∃ c2,(O.update S (Sr λ_=>#[v,.int nv t])).Q S=Z (SU "list" #[v,.int nv t] c2):=⟨_,SV I λ_=>#[v,.int nv t]⟩;simp[cc];refine R4 (S5 I U (R4 (SS ?_)));refine R7 ⟨S6 NN _,C (j+1) (j+1) _ _ v nv t c2 ∅ lt (an.same gS su) al (W.frame _ _ _ x λb M o e=>(su.2 b (λz=>ac (z▸M))).P e) lt G⟩
  .simp[cc];refine R4 (SS (R7 ?_));erw[S6 NN _,C (j+1) i _ _ vb nb tb c ∅ lt an I x N f]
def LV{d:fc}{KK:Type}[DecidableEq KK]{knd:PySem.KeyKind prog w KK}{kvs:E (KK×eN)}(I:A.handled=lf)(hd:fo.DictAt knd s.H d kvs ep)(ds:(d == sysModules)=k9)(C:0<kvs.L)(turn:∀(i:R)(v:eN)(k:KK)(x:eN),kvs[i]?=Z (k,x)->knd.is k v=kt->∀(h:fo)(tk:R)(Q:eN->ff->Prop)(dO:eN->ff->Prop),Kp s.H h->(∀ J t h' y,Kp h h'->Q (.int J t) {s with heap:=h',toks:=y})->mi A.in1 (call (.ref q) [v]) Q dO {s with heap:=h,toks:=tk})(a:∀(i:R)(v:eN)(k:KK)(x:eN)(h':fo)(y:R),kvs[i]?=Z (k,x)->knd.is k v=kt->Kp s.H h'->Q v {s with heap:=h',toks:=y}):
  mi A (call (.builtin "min") [.ref d] [(fI.ofString "key",.ref q)]) Q dO s:=by
 let p:(toString "min"++toString ".loop" : String) = "min.loop":=by rfl
 let c _ ap _:=id hd;let dl:d<s.H.M.J:=RP ap;refine kmk_tree PySem.F.kind_min PySem.F.plain_min PySem.F.entry_min (kmk_min_key _ _) ?_;show wpAny _ A.in1 (S7 "min" ["key","default"] 0 ⟨[],[(fI.ofString "key",.ref q)]⟩ >>= _) _ _ s;refine R4 (wpAny_of_eq (show S7 "min" ["key","default"] 0 ⟨[],[(fI.ofString "key",.ref q)]⟩=pure [Z (.ref q),lf] from rfl) (R4 (R7 (R4 (wpAny_pyIter_dict ds hd ?_)))));refine R4 (SW ?_ (ND _));rw[p];let T ab:∃ T:ii,T={cls:=eN.type "dict_keyiterator",data:=Data.fields #[eN.ref d,eN.int 0 0,eN.int (kvs.L:Y) 0,eN.int (ep:Y) 0]}:=⟨_,U⟩;rw[← ab];let sz:(s.H.e T).M.J=s.H.M.J+1:=by rw[Sj]
 let al:(s.H.e T).M.J≠s.H.M.J:=by lia
 let av:d≠s.H.M.J:=Nh dl;let r:∀ b,s.H.M.J<=b->s.H.Q b=lf:=λb M=>RT M;let g:Kp s.H ((s.H.e T).e (SU "list" #[] 0)):=λb o e=>R8 _ (R8 _ e);let H:((s.H.e T).e (SU "list" #[] 0)).Q (s.H.e T).M.J=Z (SU "list" #[] 0):=R9 _ U;let hJ:((s.H.e T).e (SU "list" #[] 0)).Q s.H.M.J=Z T:=R8 _ (R9 _ (by rw[ab];rfl))
 let W:=Walks.dictKeys (prog:=prog) (w:=w) (knd:=knd) (A:=A.in1) I s.H.M.J d av kvs ep;let am:∀(i:R)(v:eN),i<kvs.L->(∃ k,∃ x,kvs[i]?=Z (k,x)/\knd.is k v=kt)->∀(h:fo)(tk:R)(Q:eN->ff->Prop)(dO:eN->ff->Prop),Kp s.H h->(∀ J t h' y,Kp h h'->Q (.int J t) {s with heap:=h',toks:=y})->mi A.in1 (call (.ref q) [v]) Q dO {s with heap:=h,toks:=tk}:=λi v _ ⟨k,x,f,l⟩=>turn i v k x f l;refine R7 ⟨S6 NN _,SY OV ?_⟩;rw[S1 NN _];refine R4 (m:=seqItems? (.ref (s.H.e T).M.J)) (S2 H U ?_);show wpAny _ A.in1 (tryCatch (pyNext (.ref s.H.M.J)) _ >>= _) _ _ _;refine R4 (S3 (W.item 0 _ _ _ C ⟨⟨T,hJ,by rw[ab],by simp!⟩,hd.at' λo e=>g _ _ e⟩ λv eK ac G aa D=>?_))
 let L:=g.but (r _ (MN _)) D;let B:=D _ _ ∅ H
 show wpAny _ A.in1 (tryCatch (holding [v] (call (.ref q) [v])) _ >>= _) _ _ _;refine R4 (S3 (R5 (am 0 v C G eK ac _ _ L λJ t O ar u=>?_)));let an:Kp s.H O:=λb o e=>u b o (L b o e);let n:=u _ _ B;let j:=W.frame _ _ O aa λb _ o e=>u b o e;let su:=SN O (s.H.e T).M.J (Sr λ_=>#[v,.int J t]);let c2 ah:∃ c2,(O.update (s.H.e T).M.J (Sr λ_=>#[v,.int J t])).Q (s.H.e T).M.J=Z (SU "list" #[v,.int J t] c2):=⟨_,SV n λ_=>#[v,.int J t]⟩;let nf:(s.H.e T).M.J∉[s.H.M.J,d]:=λz=>by
  obtain z|z:=MY.mp z
  .exact al z
  .grind
 refine R4 (m:=S4 _ λ_=>#[v,.int J t]) (S5 n U ?_);rw[p];refine R7 ⟨S6 NN _,Iz W (r _ (MN _)) (r _ ∅) al nf am (λi v h' y _ ⟨k,x,f,l⟩ N=>a i v k x h' y f l N) _ 0 0 _ _ v J t c2 U C (an.same (r _ ∅) su) ah (W.frame _ _ _ j λb M o e=>(su.2 b (λz=>nf (z▸M))).P e) C G⟩
end
section
variable{X:Cx}{pins:E (fc×ii)}{σ:St}{H:Hp}{s:ff}{h':fo}{T:fc}{ps more:kf eN}{t':R}
def Inv.tab(I:Inv X pins σ H s)(e:H T=Z (.tbl ps))(B:∀ b o,b≠T->s.H.Q b=Z o->h'.Q b=Z o)(C:h'.Q T=Z {cls:=.none,data:=.fields (ps++more)}):
  mu σ (upd H T (.tbl (ps++more))) {s with heap:=h',toks:=t'}:=by
 let ne:∀{b:fc}{o:j5 HO},H b=o->o≠Z (.tbl ps)->b≠T:=λq n z=>n (by rw[← q,z,e])
 refine I.un ⟨λb o g n _ _=>B b o (ne n ∅) g,λb o g n _ _=>⟨o.slots,B b o (ne n ∅) g⟩,λb o g n _=>?_,λb o g _=>?_,λb D q=>?_,λb o u q=>?_,λb p q=>?_⟩ λb u q=>?_
 .rw[aw (ne n ∅)]
  exact n
 .by_cases z:b=T
  .rw[z];erw[_,C]
  .erw[o,B b o z g]
 .rw[aw (ne q ∅)]
  exact q
 .rw[aw (ne q ∅)]
  exact q
 .by_cases z:b=T
  .subst z;rw[e]at q
   cases q
   erw[more,ag]
  .erw[#[],by rw[aw z,q];simp]
 .by_cases z:b=T
  .subst z;rw[ag]at q
   cases q
   exact C
  .rw[aw z]at q;refine(I.hok b u q).stay (λc o J g=>B c o (λy=>?_) g) (λc g=>?_) λc o g=>?_
   .simp!
   .rw[aw (ne g ∅)];exact g
   .rw[aw (ne g ∅)];exact g
end
def codO(c:fc)(q:fI):HO:=.ext λh=>h.CodeRec (.ref c) q
def Tb(q:fI)(x:Pos)(T:fc)(H:Hp):Prop:=H T=Z (.tbl #[])∨∃ c,H T=Z (.tbl #[rawInt x.line,rawInt x.col,.ref c])/\H c=Z (codO c q)
def TbS(T:fc)(H H':Hp):Prop:=∀ b o,b≠T->H b=Z o->H' b=Z o
structure Lam(X:Cx)(c T ct:fc)(lq:fI):Prop where
 code:X.j.code=.ref c
 hd:Pb X.base c T
 bm:∃ bm,∃ o,(X.mg "__builtins__"=Z (.ref bm)/\bm≠builtinsNs/\X.base.Q bm=Z o/\o.cls=.type "module"/\o.dict=Z builtinsNs/\o.data=.plain)
 kind:X.j.kindOf "told"=Z .cell
 cl:closureFor zZ X.j=pure [(("told" : fI),ct)]
 cell:X.j.cells.Y ("told" : fI)=Z ct
 q:X.j.qual++"<lambda>"=lq
theorem L7{a:Type}:∀{kvs:E (a×V)}{vs:E (a×eN)},KV kvs vs->∀{i:R}{k:a}{y:eN},vs[i]?=Z (k,y)->∃ kv,kv∈kvs/\k=kv.1:=by
 intro kvs vs h;induction h with
 |nil=>intro i k y e;simp at e
 |cons h r ih=>
  intro i k y e;cases i with
  |zero=>cases e;exact⟨_,M7 ..,h.1.X⟩
  |succ i=>let kv m L:=ih (i:=i) (show _=Z (k,y) from e);erw[kv,M6 _ m,L]
def tMinK(b:fI)(x:Pos)(T:fc)(it:R)(t:TA):TE:=λL H Q=>t L H λm j=>∃ d G a D,m=[.ref d]/\j d=Z (.dK G)/\G≠[]/\L[it]?=Z (Z (.ref a))/\j a=Z (.lst D)/\Tb b x T j /\
 (∀ w∈G,∃(k:R)(n:Y),w.1=.inl (k:Y)/\D[k]?=Z (.int n))/\∀ w∈G,∀ l,TbS T j l->Tb b x T l->Q (kV w.1) l
def Lu{c T ct:fc}{lq:fI}{it:R}{t:TA}{xp p0 p1 p2 p3 lp kp:Pos}(L:Lam X c T ct lq)(G:X.ex=[])(hc:X.calm=kt)(g:Room 0 X.A)(hN:X.N[it]?=Z ("told" : fI))(hv:Vis X.j.scope "told")(hg:Gl X "min")(hm:X.mg "min"=lf)(ha:PA X [.Name x xp] t):
  PE X (.Call (.Name "min" np) [.Name x xp] [⟨Z "key",.Lambda (tJ p0) (Cy p1 p2 p3) zZ lp,kp⟩] pos) (tMinK lq lp T it t):=by
 intro B s D H Q I h;refine Sn (iB I hg hm oW ?_);refine callWith_kw (thn (ha pos B s D H _ I h) λus C ⟨vs,J,I1,r1,q1⟩=>?_);let d kvs a xs rfl hd ab a9 dO tb l q:=q1;let u rfl ru:=lu r1
 cases ru
 refine kws_cons (PySem.W.kla_eval U ?_);rw[L.q];let bv:0<kvs.L:=P2.mpr ab;let go:∀(M:Hp)(s2:ff)(f c':fc)(pm av:eN),Inv X B D M s2->s2.H.Q f=Z (Qs "<lambda>" lq (tJ p0) (Cy p1 p2 p3) zZ [("told",ct)] pm c' av)->s2.H.CodeRec (.ref c') lq->M d=Z (.dK kvs)->M a=Z (.lst xs)->(∀ kv∈kvs,Q (kV kv.1) M) ->
   mj X.A (call (.builtin "min") [.ref d] [(fI.ofString "key",.ref f)]) (EP X B D Q) X.xe s2:=by
  intro M s2 f c' pm av I2 hf a2 aS al q2;let _ ds vs a0 od p ep a3:=x9 I2.hok aS;let vl:=a0.L;refine LV (knd:=bF X.i X.w) (kvs:=vs) (ep:=ep) (I2.ok.hd hc) ⟨od,p,a3⟩ ds ∅ ?_ ?_
  .intro i v k y r e2 h' tk Q' E' kk bb;let{k1 w1}m1 ek:=L7 a0 r;let j n ej hn:=l _ m1;let aL:k=.inl (j:Y):=ek.P ej;subst aL;let sh:∃ t,v=eN.int (j:Y) t:=by
    rcases bj (show qT (.inl (j:Y)) v=kt from e2) with⟨i',t',z1,z2⟩|⟨_,_,z1,_⟩
    .cases z1;erw[t',z2]
    .cases z1
   let tv rfl:=sh;let hz its bn rv bd:=I2.hok a _ al;let wv be am:=rv.get hn;let tn rfl:=am;let jl:j<xs.L:=(MF.mp hn).1;let bB:=tH;let m a1 a4:=I2.loc;let u ru lk:=a4 it "told" (.ref a) hN a9 hv
   cases ru
   let ar:s2.H.IsCell ct (Z (.ref a)):=by
    rcases lk with⟨kl,_⟩|⟨_,c2,ec,z⟩
    .exact Tn kl (by rw[L.kind];intro z;cases z)
    .rw[L.cell]at ec;cases ec;exact z
   refine L5 (A:=X.A.in1) (f:=f) (c':=c') (t:=a) (its:=its.toArray) (k:=(j:Y)) ?_ (kk _ _ hf) (a2.keeps kk) (I2.nolimit.keeps kk) (ar.keeps kk) ⟨_,kk _ _ bd,U,_,U⟩ ∅ ∅ (by rw[MU];simpa using be) λh3 bG k3=>bb _ _ _ _ k3
   let:=g.dp;show X.A.depth<recursionLimit;lia
  .intro i v k y h' tk r e2 kk;let kv m1 ek:=L7 a0 r;erw[kV k,M,I2.kept kk,3,by rw[ek];exact q2 kv m1]
   rcases bj (show qT k v=kt from e2) with⟨i',t',rfl,rfl⟩|⟨y',t',rfl,rfl⟩
   .erw[t',U]
   .erw[t',U]
 let a6:C.H.BuiltinsAt X.mg T:=by
  let bm o b1 b2 b3 b4 b5 b6:=L.bm;let o1 ah bf g1 g2 _:=id I1.mod.glob;let hT:J T≠lf:=by
   obtain z|⟨_,z,_⟩:=tb<;>rw[z]<;>simp
  erw[bm,o,b1,b2,λz=>?_,λz=>?_,I1.bk _ _ b3,b4,b5,b6]
  .simp!
  .rw[z]at b3;exact hT (I1.bs _ _ b3).2
 let neT:RQ≠T:=λz=>by
  let o1 ah bf g1 g2 _:=id I1.mod.glob;let:=(I1.bs _ _ g1).2;rw[z]at this;obtain y|⟨_,y,_⟩:=tb<;>rw[y]at this<;>contradiction
 let a7:=I1.mod.glob.keeps I1.bk;obtain hT|⟨c',hT,a8⟩:=tb
 .let gT:C.H.Q T=Z (Rr #[]):=I1.hok T _ hT
  refine PySem.W.kla_makeFunction (mg:=X.mg) L.cl I1.ok.glob a7 L.code (L.hd.keeps I1.bk) gT trivial U neT a6 λc' av h' tk bg a5 aa an ap=>kws_nil ?_;let cT:c'≠T:=λz=>by
   let:=RP gT;rw[← z]at this;exact Tn this (Qn a5)
  let I2:=I1.tab (more:=#[rawInt lp.line,rawInt lp.col,.ref c']) (t':=tk) hT (λb o n e=>bg b o n e) ∅
  let e0:(#[]:kf eN)++#[rawInt lp.line,rawInt lp.col,.ref c']=#[rawInt lp.line,rawInt lp.col,.ref c']:=by simp
  rw[e0]at I2;let fr:C.H.Q c'=lf:=RT a5;let bi:J c'=lf:=I1.hok.none_of fr;let c3 oc bH t3 ec g1 g2 g3:=id an
  cases ec
  let I3:=I2.xtrack (a:=c') (o:=codO c' lq) (I1.xok G fr (by rw[aw cT];exact bi)) ⟨an,⟨oc,g1⟩,λeK O ⟨c4,o4,v4,t4,z1,z2,z3,z4⟩ kk=>by cases z1;erw[_,o4,v4,t4,U,kk o4 z2,z3,z4]⟩
  let aI:Kp h' (h'.e (Qs "<lambda>" lq (tJ p0) (Cy p1 p2 p3) zZ [("told",ct)] ((X.mg "__name__").v .none) c' av)):=λb o e=>R8 _ e;let I4:=I3.kept (t':=tk) aI;let dT:d≠T:=λz=>by simp!
  let aT:a≠T:=λz=>by simp!
  let dc:d≠c':=λz=>by simp!
  let ac:a≠c':=λz=>by simp!
  let sm:TbS T J (upd (upd J T (.tbl #[rawInt lp.line,rawInt lp.col,.ref c'])) c' (codO c' lq)):=λb o n e=>by
   rw[aw (λz=>by simp!),aw n]
   exact e
  refine go _ _ h'.M.J c' _ _ I4 (R9 _ U) (an.keeps aI) (sm _ _ dT hd) (sm _ _ aT dO) λkv m=>q kv m _ sm (.inr ⟨c',by rw[aw (Ne.X cT)];exact ag,ag⟩)
 .let gT:C.H.Q T=Z (Rr #[rawInt lp.line,rawInt lp.col,.ref c']):=I1.hok T _ hT
  let an _ _:=(show bC X.i X.w J C.H c' (codO c' lq) from I1.hok c' _ a8);refine PySem.W.kla_makeFunctionHit (mg:=X.mg) (cv:=.ref c') L.cl I1.ok.glob a7 L.code (L.hd.keeps I1.bk) gT trivial (by simp[codeAmong,rawInt]) a6 λav h' tk kk sz=>kws_nil ?_
  let aI:Kp C.H (h'.e (Qs "<lambda>" lq (tJ p0) (Cy p1 p2 p3) zZ [("told",ct)] ((X.mg "__name__").v .none) c' av)):=λb o e=>R8 _ (kk b o e);let I4:=I1.kept (t':=tk) aI;exact go _ _ h'.M.J c' _ _ I4 (R9 _ U) (an.keeps aI) hd dO λkv m=>q kv m _ (λb o _ e=>e) (.inr ⟨c',hT,a8⟩)
abbrev Bm(mg:fI->j5 eN)(h:fo):Prop:=∃ a,∃ o,(mg "__builtins__"=Z (.ref a)/\a≠builtinsNs/\h.Q a=Z o/\o.cls=.type "module"/\o.dict=Z builtinsNs/\o.data=.plain)
def Fh{mb:fI->j5 eN}{CX:CXT}{k:R}{c T:fc}{s:ff}(KX:K.In s.H)(N:s.H.Ns RQ mg)(M:s.H.Ns builtinsNs mb)(a0:∀ x:fI,x≠"__name__"->mb x=RS x)(al:s.H.NoLimit)(gens:s.gens=#[])(J:Pb s.H c T)(C:s.H.Q T=Z (Rr #[]))(nT:K.Y T=lf)(am:Bm mg s.H)(l:s.H.Q a=Z {cls:=.type "list",data:=.seq vs.toArray})(hi:Sw vs ns)(hl:ns.L<=RO)(j:Room k callerA)(F:∀ base:fo,K.In base->base.Ns RQ mg->Pb base c T->Bm mg base->FnOk P w K mg base CX k p fd [x] sp)(bind:∀(s:ff)(u:eN),BindsTo s fd ⟨[u],[]⟩ [(x,u)])(ab:∀ H:Hp,H T=Z (.tbl #[])->pi a (ns.Z V.int)->sp [.ref a] H (λv _=>v=.bl kt) λ_ _ _=>False)(av:∀ H e s',CX [] H s (λ_ _ _=>False) e s'->False):
  Si (model P w) callerA (.call (.ref p) ⟨[.ref a],[]⟩) (λr s'=>r=.ok (.ret (.bool kt))/\OldK s.H s'.H/\s'.os=s.os/\AllBare s'.gens) s:=by
 let rv:=wH hi;let aT:a≠T:=λz=>by lia
 let H eT eS aa only frz:∃ H:Hp,H T=Z (.tbl #[])/\pi a (ns.Z V.int)/\HOk P w H s.H/\(∀ b,H b≠lf->(b=T∨b=a)/\K.Y b=lf)/\(∀ b u,H b=Z u->b≠T->∃ o G,u=.frz o (.lst G)):=by
  cases D:K.Y a with
  |some o=>
   let e:=KX a o D;rw[l]at e
   cases e
   erw[upd (λ_=>lf) T (.tbl #[]),ag,.inr ⟨_,vs.toArray,_,D,U,U,U,by rw[NL,hi.L];exact hl,by simpa using rv⟩,λb u z=>?_,λb z=>?_,λb u z n=>?_]
   .by_cases y:b=T
    .subst y;rw[ag]at z;cases z;exact C
    .rw[aw y]at z;cases z
   .by_cases y:b=T
    .erw[.inl y,y▸nT]
    .rw[aw y]at z;exact Tn U z
   .rw[aw n]at z;cases z
  |none=>
   erw[upd (upd (λ_=>lf) a (.frz {cls:=.type "list",data:=.seq vs.toArray} (.lst (ns.Z V.int)))) T (.tbl #[]),ag,.inl (.inr ⟨{cls:=.type "list",data:=.seq vs.toArray},by rw[aw aT];exact ag⟩),λb u z=>?_,λb z=>?_,λb u z n=>?_]
   .by_cases y:b=T
    .subst y;rw[ag]at z;cases z;exact C
    .rw[aw y]at z;by_cases y2:b=a
     .subst y2;rw[ag]at z;cases z;erw[l,by simp[*],vs,_,rv,l]
     .rw[aw y2]at z;cases z
   .by_cases y:b=T
    .erw[.inl y,y▸nT]
    .rw[aw y]at z;by_cases y2:b=a
     .erw[.inr y2,y2▸D]
     .rw[aw y2]at z;exact Tn U z
   .rw[aw n]at z;by_cases y2:b=a
    .subst y2;rw[ag]at z;cases z;erw[37]
    .rw[aw y2]at z;cases z
 let aL:∀{b:fc}{o:ii},s.H.Q b=Z o->o.cls≠.none->o.cls≠.type "list"->H b=lf:=λ{b o} e n1 n2=>by
  grind
 let a1:∀{b:fc}{o:ii}{L:kf DictEntry}{B:R},s.H.Q b=Z o->o.data=.dict L B->H b=lf:=λ{b o L B} e d=>by
  cases q:H b with
  |none=>rfl
  |some u=>
   rcases(only b (by rw[q];simp)).1 with z|z
   .rw[z,C]at e;lia
   .rw[z,l]at e;grind
 let an:∀{b:fc}{m:fI->j5 eN},s.H.Ns b m->(hidT s.H H).Ns b m:=λ{b m} ⟨o,L,B,e,d,r⟩=>⟨o,L,B,pY e (a1 e d),d,r⟩
 let kB:K.In (hidT s.H H):=λb o e=>pY (KX b o e) (by
  grind)
 let cB:Pb (hidT s.H H) c T:=by
  let o v2 aS tf aI tg ap text tt f A r:=J;erw[o,v2,aS,tf,aI,tg,ap,text,tt,pY f (aL f (by rw[A];simp) (by lia)),A,r]
 let bB:Bm mg (hidT s.H H):=by
  let bm o b1 b2 b3 b4 r:=am;erw[bm,o,b1,b2,pY b3 (aL b3 (by rw[b4];simp) (by lia)),b4,r]
 let md:Mod K mg (hidT s.H H):=⟨kB,an N,⟨mb,an M,a0⟩,let ⟨mc,eK,O⟩:=al;⟨mc,an eK,O⟩⟩;let e0:Env0 P w K mg (hidT s.H H) callerA [] s H:=⟨U,md,λb o e=>LS e,QS (FF _ _),trivial,λb z=>Tn (show b∈([]:E fc) from z) ∅,aa,.of_eq gens⟩
 refine Sm ((F _ kB (an N) cB bB).run callerA [] s H ⟨[.ref a],[]⟩ [.ref a] [.ref a] _ _ j e0 (bind s (.ref a)) (.cons U .nil) (ab H eT eS)) λr s' h=>?_
 cases r with
 |error e=>exact(av H e s' h).elim
 |ok fl=>
  cases fl with
  |next=>exact False.elim h
  |brk=>exact False.elim h
  |cont=>exact False.elim h
  |ret u=>
   let v i os ah un ar I q:=h;let q':v=.bl kt:=q;subst q';obtain rfl:u=eN.bool kt:=I;let nil:∀ b:fc,b∉frs []:=λb z=>Tn (show b∈([]:E fc) from z) ∅
   let gT:∃ ac,s'.H.Q T=Z {cls:=.none,data:=.fields (#[]++ac)}:=by
    let ac e:=un.tbls T _ eT;erw[ac,ar T _ e]
   let kp:∀ b o,b≠T->s.H.Q b=Z o->s'.H.Q b=Z o:=λb o n e=>by
    cases q:H b with
    |none=>exact un.keep b o e q (nil b) ∅
    |some u=>
     let t G rfl:=frz b u q n;let Q:=un.frzs b t _ q;let dO _:=aa b _ q;let g2 _:=ar b _ Q;simp!
   erw[U,⟨λb o e=>?_,λb o e=>?_⟩,os,ah]
   .by_cases z:b=T
    .subst z;rw[C]at e
     cases e
     let ac g:=gT;exact .inr (.inl ⟨(J.tab C).isCodeTable,U,#[],ac,U,g⟩)
    .exact .inl (kp b o z e)
   .by_cases z:b=T
    .subst z;let ac g:=gT;erw[_,g]
    .erw[o,kp b o z e]
def walk_ofT{l:Rh}{k:R}{q:hx}{L:E fI}{XP:(fI->j5 eN)->fo->Prop}{YP:ix->fo->Prop}{d df:DefRec}{K:Params->MJ}{CX:CXT}{sp:MJ->fc->Sp}{fn:fI}(p:l.most=some n)(ac:n<=RO)(ab:d.params.defaults=[])(j:Room k callerA)(hY:∀(w:ix)(h:fo),YP w h->(K w.params).In h)(y:(recsOf q).find? (λe=>e.name == fn)=some df)(F:∀(w:ix)(mg:fI->j5 eN)(A:fc)(h:fo),(K w.params).In h->h.Ns RQ mg->mg d.name=some (.ref A)->∃ fd:ge,(∀(s:ff)(u:eN),BindsTo s fd ⟨[u],[]⟩ [(x,u)]) /\
   ∃ c T,Pn (K w.params) fn=Z (c,T)/\(K w.params).Y T=lf/\∀ base:fo,(K w.params).In base->base.Ns RQ mg->Pb base c T->Bm mg base->FnOk l.i w (K w.params) mg base CX k A fd [x] (sp (K w.params) T))(r:∀(K:MJ)(T:fc)(H:Hp)(a:fc)(ns:E Y),ns.L<=n->H T=Z (.tbl #[])->pi a (ns.Z V.int)->sp K T [.ref a] H (λv _=>v=.bl kt) λ_ _ _=>False)(al:∀(H:Hp)(s:ff)(e:eN)(s':ff),CX [] H s (λ_ _ _=>False) e s'->False):
  PySem.W.WalkO q L XP YP l.row.toRowW d [] (λf vs=>PySem.call f vs):=by
 refine Att.attach_call p ab λw am J mg mb A o B cd C a vs ns G eK D hd z ah Q aa t N=>?_;let KX:=hY w _ eK;let fd M c T i nT hF:=F w mg A _ KX G.T.g ah;let dO I:=PySem.W.tab_of G.T KX y i;exact Fh KX G.T.g G.T.b G.T.builtins G.T.nolimit N dO I nT G.T.bmain Q aa (NH t ac) j hF M (λH m O=>r _ T H a ns t m O) λH e s'=>al H J e s'
def op_neE(C:X.A.units+64<cLine):OpR X (RX .NotEq) (λx y H Q=>∃ a b kvs,x=.ref a/\y=.ref b/\H a=Z (.dK kvs)/\H b=Z (.dK [])/\Q (.bl (!kvs.isEmpty)) H):=by
 intro B s L H x y v u Q I G c h;let a b kvs rfl rfl O M q:=h
 cases G
 cases c
 let _ i m w J:=x9 I.hok O;let _ k n g j:=x9 I.hok M;let t:=w.L;let d:=g.L;let l:n=[]:=OL d.X;subst l;refine PySem.W.keq_ne (r:=kt) i k J j ∅ (λe=>?_) ⟨.bl (!(m.L == 0&&kt)),H,I,U,?_⟩
 .let f:m=[]:=OL e
  subst f;exact .nil
 .cases kvs with
  |nil=>
   cases m with
   |nil=>exact q
   |cons p r=>cases t
  |cons p r=>
   cases m with
   |nil=>cases t
   |cons p r=>exact q
def lexB:E (Y×Y)->ke
 |[]=>k9
 | (x,y)::r=>if x=y then lexB r else decide (x<y)
section
variable{prog:hx}{w:ix}{A:Around}{dO:eN->ff->Prop}{s:ff}
def Ps:E (eN×eN)->E (Y×Y)->Prop
 |[],[]=>True
 | (u,v)::r,(x,y)::q=>(∃ t,u=.int x t)/\(∃ t,v=.int y t)/\Ps r q
 |_,_=>False
def KW{b:fc}{oa:ii}{us vs:kf eN}{nb:R}{ps:E (Y×Y)}{P:PySem.Fin->ff->Prop}(C:s.H.Q a=Z oa)(f:oa.data=.seq us N)(m:s.H.Q b=Z ob)(p:ob.cls=.type "tuple")(k:ob.data=.seq vs nb)(G:Ps (us.l.zip vs.l) ps)(hl:us.J=vs.J)(h:P (.done (.ret (.bool (lexB ps)))) s):mi A (j0.«tuple.__lt__» ⟨[.ref a,.ref b],[]⟩) P dO s:=by
 show wpAny _ _ (isInstance (.ref b) (.type "tuple") >>= _) _ _ s;refine R4 (SD (T:="tuple") ⟨ob,m,p⟩ isSubtype_tuple_tuple ?_);simp only[PZ,N8,if_false];refine R4 (wpAny_tupleItemsOf C f (R4 (wpAny_tupleItemsOf m k (R4 ?_))));refine wpAny_forIn_list _ (λrest r o=>r.1=lf/\o=s/\∃ q,Ps rest q/\lexB q=lexB ps) _ ?_ ?_ _ _ ⟨U,U,ps,G,U⟩
 .rintro⟨u,v⟩ rest r o ⟨g,rfl,q,n,e⟩;match q,n with
  | (x,y)::q,⟨⟨t,eK⟩,⟨d,O⟩,D⟩=>
   subst eK;subst O;refine R4 (wpAny_eqBool_int ?_);by_cases c:x=y
   .let:(x == y)=kt:=by simp[c]
    rw[this];simp only[PZ,N8,if_false];refine R7 ⟨U,U,q,D,?_⟩;rw[← e];show lexB q=if x=y then lexB q else decide (x<y);rw[Ti c]
   .let:(x == y)=k9:=by simp[c]
    rw[this];simp only[ke.not_false,if_true];let l:lexB ps=decide (x<y):=by
     rw[← e];show(if x=y then lexB q else decide (x<y))=_;rw[Tj c]
    rw[l]at h;refine R4 (wpAny_rule (R4 (CmpOf.ints_lt (prog:=prog) (w:=w) (A:=A) (P:=λ(i:R) v=>∃ t,v=.int (if i=0 then x else y) t) (λi=>if i=0 then x else y) (λi v h=>h) 0 1 _ _ _ _ _ ⟨t,U⟩ ⟨d,U⟩ ?_)));exact R4 (R7 (R7 (R7 h)))
 .rintro⟨J,I⟩ o ⟨g,rfl,q,n,e⟩;simp only at g;subst g;let j:q=[]:=by
   cases q with
   |nil=>rfl
   |cons z q=>exact n.elim
  subst j;let B:j0.Tuple.tupleCompareSizes CmpOp.Lt us.J vs.J=eN.bool (lexB ps):=by
   rw[← e,hl];show eN.bool (decide (vs.J<vs.J))=eN.bool k9;simp!
  show wpAny _ _ (ret (j0.Tuple.tupleCompareSizes CmpOp.Lt us.J vs.J)) _ _ _;rw[B];exact R7 h
def tup_lt{b:fc}{oa:ii}{us vs:kf eN}{nb:R}{ps:E (Y×Y)}(C:s.H.Q a=Z oa)(d:oa.cls=.type "tuple")(i:oa.data=.seq us N)(m:s.H.Q b=Z ob)(p:ob.cls=.type "tuple")(k:ob.data=.seq vs nb)(G:Ps (us.l.zip vs.l) ps)(hl:us.J=vs.J)(f:A.units<cLine)(h:Q (.bool (lexB ps)) s):mi A (richCompare .Lt (.ref a) (.ref b)) Q dO s:=by
 refine wpAny_richCompare_same_room (op:=.Lt) (T:="tuple") ⟨oa,C,d⟩ ⟨ob,m,p⟩ PySem.F.slot_tuple_lt (SH PySem.F.slot_tuple_lt ⟨oa,C,d⟩ PySem.F.entry_tuple_lt ?_ (PySem.F.args_tuple_lt_2 _ _)) f;exact KW C i m p k G hl ⟨_,U,(λz=>by cases z),h⟩
def E9{S:fc}{P:R->eN->Prop}{St:R->fo->Prop}{g:fo}(W:Walks prog w A.in1 a fp [a] n P St)(bt:R->R->ke)(gJ:g.Q a=lf)(gS:g.Q S=lf)(ac:S≠a)(q:S∉fp)(ab:∀ i j u v,i<n->j<n->P i u->P j v->∀(h:fo)(tk:R)(Q:eN->ff->Prop)(dO:eN->ff->Prop),Kp g h->Q (.bool (bt i j)) {s with heap:=h,toks:=tk}->mi A.in1 (richCompare .Lt u v) Q dO {s with heap:=h,toks:=tk})(d:∀ v h' y,P (argBest bt (n-1)) v->Kp g h'->ad (.ok (.ret v)) {s with heap:=h',toks:=y}):
  ∀(r j:R)(h:fo)(tk:R)(p:eN)(c:R),n-(j+1)=r->j+1<=n->Kp g h->h.Q S=Z (SU "list" #[p,p] c)->St (j+1) h->P (argBest bt j) p->argBest bt j<n ->
   Si (model prog w) A (.builtin "min.loop" ⟨[.ref a,.none,.ref S],[]⟩) ad {s with heap:=h,toks:=tk}:=by
 intro r;induction r with
 |zero=>
  intro j h tk p c I L kg H st l M;let G:j+1=n:=by lia
  refine SY OV ?_;rw[S1 NN _];refine R4 (m:=seqItems? (.ref S)) (S2 H U ?_);show wpAny _ A.in1 (tryCatch (pyNext (.ref a)) _ >>= _) _ _ _;refine R4 (S3 (W.done _ _ _ (by rw[← G];exact st) λh' y N=>?_))
  let ah:=kg.but gJ N;let k:=N S _ (by simpa using ac) H
  let O:=SN h' S (Sr λ_=>(#[]:kf eN));refine R4 (m:=S4 S λ_=>#[]) (S5 k U (R4 (SS (R7 ?_))));exact d p _ _ (by rw[← G];exact l) (ah.same gS O)
 |succ r C=>
  intro j h tk p c I L kg H st l M;let lt:j+1<n:=by lia
  refine SY OV ?_;rw[S1 NN _];refine R4 (m:=seqItems? (.ref S)) (S2 H U ?_);show wpAny _ A.in1 (tryCatch (pyNext (.ref a)) _ >>= _) _ _ _;refine R4 (S3 (W.item (j+1) _ _ _ lt st λv eK T t x D=>?_));let f:=kg.but gJ D;let B:=D S _ (by simpa using ac) H
  show wpAny _ A.in1 (tryCatch (holding [v,v] (richCompare .Lt v p >>= _)) _ >>= _) _ _ _;refine R4 (S3 (R5 (R4 (ab (j+1) (argBest bt j) v p lt M t l eK T _ _ f ?_))));refine R4 (R5 (RY (R4 (SS (R7 ?_)))));let eA:argBest bt (j+1)=if bt (j+1) (argBest bt j)=kt then j+1 else argBest bt j:=rfl
  cases cc:bt (j+1) (argBest bt j) with
  |true=>
   let O:=SN eK S (Sr λ_=>#[v,v]);let c2 aa:∃ c2,(eK.update S (Sr λ_=>#[v,v])).Q S=Z (SU "list" #[v,v] c2):=⟨_,SV B λ_=>#[v,v]⟩;simp;refine R4 (S5 B U (R4 (SS ?_)));rw[Ti cc]at eA;refine R7 ⟨S6 NN _,C (j+1) _ _ v c2 ∅ lt (f.same gS O) aa (W.frame _ _ _ x λb M o e=>(O.2 b (λz=>q (z▸M))).P e) (by rw[eA];exact t) (by rw[eA];exact lt)⟩
  |false=>
   simp;rw[Tj (by rw[cc];simp)]at eA
   refine R4 (SS (R7 ?_));erw[S6 NN _,C (j+1) _ _ p c ∅ lt f B x (by rw[eA];exact l) (by rw[eA];exact M)]
def IA{l:fc}(bt:R->R->ke)(I:A.handled=lf)(hl:s.H.IsList l vs.toArray)(C:0<vs.L)(ab:∀(i j:R)(u v:eN),vs[i]?=Z u->vs[j]?=Z v->∀(h:fo)(tk:R)(Q:eN->ff->Prop)(dO:eN->ff->Prop),Kp s.H h->Q (.bool (bt i j)) {s with heap:=h,toks:=tk}->mi A.in1 (richCompare .Lt u v) Q dO {s with heap:=h,toks:=tk})(d:∀ v h' y,vs[argBest bt (vs.L-1)]?=Z v->Kp s.H h'->Q v {s with heap:=h',toks:=y}):
  mi A (call (.builtin "min") [.ref l]) Q dO s:=by
 let p:(toString "min"++toString ".loop" : String) = "min.loop":=by decide
 let J ah _:=id hl;let c:l<s.H.M.J:=RP ah;refine kmk_tree PySem.F.kind_min PySem.F.plain_min PySem.F.entry_min (PySem.F.args_min1 _) ?_;show wpAny _ A.in1 (S7 "min" ["key","default"] 0 ⟨[],[]⟩ >>= _) _ _ s;refine R4 (wpAny_of_eq (show S7 "min" ["key","default"] 0 ⟨[],[]⟩=pure [lf,lf] from rfl) (R4 (R7 (R4 (wpAny_pyIter_list hl ?_)))));refine R4 (SW ?_ (ND _));rw[p];let T k:∃ T:ii,T={cls:=eN.type "list_iterator",data:=Data.fields #[eN.ref l,eN.int 0 0]}:=⟨_,U⟩;rw[← k];let sz:(s.H.e T).M.J=s.H.M.J+1:=by rw[Sj]
 let aa:(s.H.e T).M.J≠s.H.M.J:=by lia
 let L:l≠s.H.M.J:=Nh c;let r:∀ b,s.H.M.J<=b->s.H.Q b=lf:=λb M=>RT M;let g:Kp s.H ((s.H.e T).e (SU "list" #[] 0)):=λb o e=>R8 _ (R8 _ e);let H:((s.H.e T).e (SU "list" #[] 0)).Q (s.H.e T).M.J=Z (SU "list" #[] 0):=R9 _ U;let hJ:((s.H.e T).e (SU "list" #[] 0)).Q s.H.M.J=Z T:=R8 _ (R9 _ (by rw[k];rfl))
 let W:=Walks.list (prog:=prog) (w:=w) (A:=A.in1) I s.H.M.J l L vs.toArray;let al:vs.toArray.J=vs.L:=NL ..;rw[al]at W;let ac:∀ i j u v,i<vs.L->j<vs.L->vs.toArray[i]?=Z u->vs.toArray[j]?=Z v->∀(h:fo)(tk:R)(Q:eN->ff->Prop)(dO:eN->ff->Prop),Kp s.H h->Q (.bool (bt i j)) {s with heap:=h,toks:=tk}->mi A.in1 (richCompare .Lt u v) Q dO {s with heap:=h,toks:=tk}:=λi j u v _ _ eK O=>ab i j u v (by simpa using eK) (by simpa using O)
 refine R7 ⟨S6 NN _,SY OV ?_⟩;rw[S1 NN _];refine R4 (m:=seqItems? (.ref (s.H.e T).M.J)) (S2 H U ?_);show wpAny _ A.in1 (tryCatch (pyNext (.ref s.H.M.J)) _ >>= _) _ _ _;refine R4 (S3 (W.item 0 _ _ _ C ⟨⟨T,hJ,by rw[k],by rw[k];rfl⟩,hl.at λo e=>g _ _ e⟩ λv eK q t x D=>?_))
 let f:=g.but (r _ (MN _)) D;let B:=D _ _ (by simpa using aa) H
 let n:=SN eK (s.H.e T).M.J (Sr λ_=>#[v,v]);let c2 G:∃ c2,(eK.update (s.H.e T).M.J (Sr λ_=>#[v,v])).Q (s.H.e T).M.J=Z (SU "list" #[v,v] c2):=⟨_,SV B λ_=>#[v,v]⟩;let a:(s.H.e T).M.J∉[s.H.M.J,l]:=λz=>by
  obtain z|z:=MY.mp z
  .exact aa z
  .let z':=MQ.mp z
   exact Tn c (by rw[← z',sz];exact Qn (OH _))
 refine R4 (m:=S4 _ λ_=>#[v,v]) (S5 B U ?_);rw[p];refine R7 ⟨S6 NN _,E9 W bt (r _ (MN _)) (r _ ∅) aa a ac (λv h' y e N=>d v h' y (by simpa using e) N) _ 0 _ _ v c2 U C (f.same (r _ ∅) n) G (W.frame _ _ _ x λb M o e=>(n.2 b (λz=>a (z▸M))).P e) t C⟩
end
abbrev T3:=Y×Y×Y
def TrA(H:Hp)(v:V)(t:T3):Prop:=∃ a,v=.ref a/\H a=Z (.tup [.int t.1,.int t.2.1,.int t.2.2])
def lt3(a b:T3):ke:=lexB [(a.1,b.1),(a.2.1,b.2.1),(a.2.2,b.2.2)]
def lt3_le{a b:T3}(h:lt3 a b=kt):a.1<=b.1:=by
 unfold lt3 lexB at h;by_cases c:a.1=b.1
 .lia
 .rw[Tj c]at h;let:=S8 h;lia
def lt3_ge{a b:T3}(h:lt3 a b=k9):b.1<=a.1:=by
 unfold lt3 lexB at h;by_cases c:a.1=b.1
 .lia
 .rw[Tj c]at h;let:=of_decide_eq_false h;lia
theorem best3(W:R->T3):∀ k,argBest (λi j=>lt3 (W i) (W j)) k<=k/\∀ j,j<=k->(W (argBest (λi j=>lt3 (W i) (W j)) k)).1<=(W j).1
 |0=>by
  erw[MN _,λj L=>?_];let e:j=0:=by lia
  rw[e];exact N6 _
 |k+1=>by
  let eK O:=best3 W k;let e:argBest (λi j=>lt3 (W i) (W j)) (k+1)=if lt3 (W (k+1)) (W (argBest (λi j=>lt3 (W i) (W j)) k))=kt then k+1 else argBest (λi j=>lt3 (W i) (W j)) k:=rfl;rw[e]
  cases c:lt3 (W (k+1)) (W (argBest (λi j=>lt3 (W i) (W j)) k)) with
  |true=>
   rw[Ti U];let G:=lt3_le c;erw[MN _,λj L=>?_];by_cases z:j=k+1
   .subst z;exact N6 _
   .let:=O j ∅;lia
  |false=>
   rw[Tj Nr];let G:=lt3_ge c;erw[4,λj L=>?_]
   by_cases z:j=k+1
   .subst z;exact G
   .exact O j ∅
inductive rMin3X(K:MJ)(xs:E V)(H:L2.Hp)(Q:L2.VK):Prop
 |mk (p ys ws:_) (_:xs=[.ref p])(_:pi p ys)(_:LsAt TrA H ys ws)(_:ws≠[])(_:∀(y:V),ys[argBest (λi j=>lt3 (ws.v i (0,0,0)) (ws.v j (0,0,0))) (ws.L-1)]?=Z y->Q y H)
def tS(l:X.calm=kt)(f:X.A.units+64<cLine):iF X (.builtin "min") (rMin3X X.K):=by
 intro B s L H D w Q I r h;let p k ws rfl hS hL aa q:=h;let u rfl G:=lu r
 cases G
 let d rv C _:=I.list hS;let yl:=hL.1;let il:=rv.L;let wp:0<ws.L:=P2.mpr aa;let W eW Wi:∃ W:R->T3,W=(λi=>ws.v i (0,0,0))/\∀ i t,ws[i]?=Z t->W i=t:=⟨_,U,λi t e=>by show ws.v i (0,0,0)=t;rw[MX,e];rfl⟩
 let q:∀ y,k[argBest (λi j=>lt3 (W i) (W j)) (ws.L-1)]?=Z y->Q y H:=λy z=>q y (by rw[eW]at z;exact z)
 let look:∀(i:R)(v:eN),d[i]?=Z v->∃ a o y1 y2 y3 n,v=.ref a/\s.H.Q a=Z o/\o.cls=.type "tuple"/\o.data=.seq #[y1,y2,y3] n/\(∃ t,y1=.int (W i).1 t)/\(∃ t,y2=.int (W i).2.1 t)/\(∃ t,y3=.int (W i).2.2 t):=λi v e=>by
  let J:i<k.L:=by rw[il];exact(MF.mp e).1
  let t g a ea O:=hL.get (MG J);let v' ev al:=rv.get (MG J);rw[e]at ev
  cases ev
  rw[ea]at al;obtain rfl:v=.ref a:=al;let _ an rt o c ac n hd:=I.hok a _ O;rw[Wi i t g];let y1 u1 rfl M c1:=Vals.unc rt;let y2 u2 rfl r2 c2:=Vals.unc c1;let y3 u3 rfl r3 c3:=Vals.unc c2;cases c3
  erw[a,o,y1,y2,y3,n,U,c,ac,hd,M,r2,r3]
 refine IA (vs:=d) (λi j=>lt3 (W i) (W j)) (I.ok.hd l) C.isList ∅ ?_ ?_
 .intro i j u v ah ab h T Q' E' N hQ;let am:X.A.in1.units<cLine:=by
   let e:X.A.in1.units<=X.A.units+64:=by simp[Around.in1]
   lia
  let a oa y1 y2 y3 n rfl ga ca da M r2 r3:=look i u ah;let b ob z1 z2 z3 m rfl gb cb db dO x q3:=look j v ab;exact tup_lt (N _ _ ga) ca da (N _ _ gb) cb db (ps:=[((W i).1,(W j).1),((W i).2.1,(W j).2.1),((W i).2.2,(W j).2.2)]) ⟨M,dO,r2,x,r3,q3,trivial⟩ U am hQ
 .intro v eK T e N;let J:argBest (λi j=>lt3 (W i) (W j)) (d.L-1)<k.L:=by
   let:=(MF.mp e).1;lia
  let v' ev al:=rv.get (MG J);rw[e]at ev
  cases ev
  erw[_,H,I.kept N,al,q _ ?_];rw[show ws.L-1=d.L-1 by lia]
  exact MG J
inductive rMin3(K:MJ)(xs:E V)(H:L2.Hp)(Q:L2.VK):Prop
 |mk (p ys ws:_) (_:xs=[.ref p])(_:pi p ys)(_:LsAt TrA H ys ws)(_:ws≠[])(_:∀(i:R)(y:V)(t:T3),ys[i]?=Z y->ws[i]?=Z t->(∀ t'∈ws,t.1<=t'.1)->Q y H)
def yy(J:X.calm=kt)(f:X.A.units+64<cLine):iF X (.builtin "min") (rMin3 X.K):=by
 intro B s L H D o Q I r h;let p k x rfl b d C q:=h;let wp:0<x.L:=P2.mpr C;refine tS J f B s L H _ o Q I r ⟨p,k,x,U,b,d,C,λy dO=>?_⟩;let b1 b2:=best3 (λi=>x.v i (0,0,0)) (x.L-1);let t g _:=d.get dO;refine q _ _ t dO g λa e=>?_;let j c G:=List.getElem_of_mem e;let:=b2 j ∅
 rw[MX,MX,g,MG c,G]at this;exact this
def Jp{xs:kf R}(T:xs.l.f (· < ·)):∀(g lo hi:R),hi-lo<=g->lo<=hi->hi<=xs.J->(∀ i,i<lo->xs.v i j<j)->(∀ i,hi<=i->i<xs.J->j<=xs.v i j) ->
  (∀ i,i<j3.below.go xs j g lo hi->xs.v i j<j)/\(∀ i,j3.below.go xs j g lo hi<=i->i<xs.J->j<=xs.v i j)/\j3.below.go xs j g lo hi<=xs.J:=by
 let up:∀ a b,a<b->b<xs.J->xs.v a j<xs.v b j:=λa b o M=>by
  let l:a<xs.J:=OW o M;let:=NW.mp T a b ∅ ∅ o
  simp!
 intro g;induction g with
 |zero=>
  intro lo hi eK O G dO s;let:lo=hi:=by lia
  subst this;erw[dO,s,G]
 |succ g C=>
  intro lo hi eK O G dO s;unfold j3.below.go;by_cases c:lo<hi
  .rw[Ti c];let Q:lo<=(lo+hi)/2:=by lia
   let v:(lo+hi)/2<hi:=by lia
   dsimp only;by_cases d:xs.v ((lo+hi)/2) j<j
   .rw[Ti d];refine C _ _ ∅ ∅ G (λi w=>?_) s
    by_cases e:i=(lo+hi)/2
    .rw[e];exact d
    .exact OW (up i _ ∅ ∅) d
   .rw[Tj d];refine C _ _ ∅ ∅ ∅ dO λi w t=>?_
    by_cases e:i=(lo+hi)/2
    .rw[e];lia
    .let:=up _ i (show(lo+hi)/2<i by lia) t
     lia
  .rw[Tj c];let:lo=hi:=by lia
   subst this;erw[dO,s,G]
theorem B7{xs:kf R}(T:xs.l.f (· < ·))(j:R):(∀ i,i<S9 xs j->xs.v i j<j)/\(∀ i,S9 xs j<=i->i<xs.J->j<=xs.v i j)/\S9 xs j<=xs.J:=
 Jp T xs.J 0 xs.J ∅ (ND _) (MN _) (λi h=>Tn h (NM _)) λi eK O=>Tn O ∅
def SetT(t:j3):Prop:=t.place.l.f (· < ·)/\t.dummies=#[]
theorem SetT.fresh(a b:R)(r:ke):SetT (.fresh a b r):=⟨List.Pairwise.nil,U⟩
theorem SetT.standIn(t:j3)(n:R):SetT (t.standIn n):=⟨by
 show(kf.range n).l.f (· < ·);rw[kf.toList_range]
 exact Qr,U⟩
def FJ(j:R):j3.has #[] j=k9:=by
 rfl
def SetT.put{t:j3}(h:SetT t)(L:t.slot j=.empty):SetT (t.put j).1:=by
 let T hd:=h;let b1 b2 b3:=B7 T j;let ne:t.place[S9 t.place j]?≠Z j:=λz=>by
  unfold j3.slot at L;simp!
 erw[15]
 .show(j3.insertAt t.place (S9 t.place j) j).l.f (· < ·);rw[j3.toList_insertAt];let c:∀ a∈t.place.l.x (S9 t.place j),a<j:=λa O=>by
   let i J:=Ou.mp O;let q:i<S9 t.place j:=by
    let:=(MF.mp J).1;rw[NQ]at this;lia
   rw[QI,Ti q]at J;let:=b1 i q;rw[NZ]at J;rw[P4,J]at this;exact this
  let f:∀ b∈t.place.l.drop (S9 t.place j),j<b:=λb M=>by
   let i J:=Ou.mp M;rw[Qc,NZ]at J;let q:S9 t.place j+i<t.place.J:=by
    let z _:=P6.mp J;exact z
   let eK:=b2 _ (Ot _ i) q;rw[P4,J]at eK;let g:j<=b:=eK;obtain z|z:=Qa j b
   .exact z
   .let e:b=j:=by lia
    subst e;by_cases d:i=0
    .subst d;exact Tn J ne
    .let A:=b2 (S9 t.place b) (MN _) ∅
     let:=NW.mp T (S9 t.place b) (S9 t.place b+i) (by simp;lia) (by simpa using q) ∅
     let k D:=P6.mp J;let dO:t.place.v (S9 t.place b) b=t.place[S9 t.place b]'∅:=by rw[P4,OF];rfl
     rw[dO]at A;simp only[kf.getElem_toList]at this;rw[D]at this;lia
  refine List.pairwise_append.mpr ⟨T.sublist (PK _ _),Qb.mpr ⟨f,T.sublist (List.drop_sublist _ _)⟩,λa O b M=>?_⟩;obtain z|z:=MY.mp M
  .rw[z];exact c a O
  .exact OW (c a O) (f b z)
 .show(if j3.has t.dummies j=kt then j3.eraseAt t.dummies (S9 t.dummies j) else t.dummies)=#[];rw[hd,FJ,Tj Nr]
def Hz{t:j3}{f:R->Y}{h:Y}(hd:t.dummies=#[]):∀(g:R)(p:j3.Probe),p.dummy=lf->∀ j d,j3.probe.go t f h g p=Z (.empty j d)->t.slot j=.empty/\d=lf:=by
 intro g;let nd:∀ j,t.slot j≠.dummy:=λj z=>by
  unfold j3.slot at z;rw[hd,FJ]at z;grind
 induction g with
 |zero=>intro p _ j d e;cases e
 |succ g C=>
  intro p G j d e;let a:(t.advance p).dummy=lf:=by
   unfold j3.advance;split<;>exact G
  unfold j3.probe.go at e;split at e
  .lia
  .simp!
  .split at e
   .cases e
   .exact C _ a j d e
def SetT.layNew{t:j3}(h:SetT t)(es:kf (Y×eN))(H:Y)(x:eN):SetT (layNew t es H x).2.1/\(layNew t es H x).2.1.led=t.led:=by
 unfold PySem.layNew;split
 .rename_i a c e;unfold j3.freeSlot at e;split at e
  .rename_i j b A;let k D:=Hz h.2 _ _ U j b A;subst D;let B:(j,k9)=(a,c):=Ny e
   cases B
   dsimp only;unfold j3.orStandIn;split
   .erw[h.put k,U]
   .erw[SetT.standIn _ _,U]
  .contradiction
 .erw[SetT.standIn _ _,U]
def Al(n:R)(g:R->j5 R):(((Nf n).filterMap λj=>(g j).Z (j,·)).Z (·.1)).f (· < ·):=by
 let:((Nf n).filterMap λj=>(g j).Z (j,·)).Z (·.1)=(Nf n).filter λj=>(g j).isSome:=by
  induction (Nf n) with
  |nil=>rfl
  |cons a l C=>
   cases e:g a with
   |none=>simp[e,C]
   |some b=>simp[e,C]
 rw[this];exact List.pairwise_lt_range.filter _
def SetT.relayAll(t:j3)(es:kf (Y×eN))(a:R):SetT (relayAll t es a).2.1/\(relayAll t es a).2.1.led=t.led:=by
 unfold PySem.relayAll;split
 .rename_i d b e;dsimp only;split
  .unfold j3.relaid j3.laid at e
   cases D:j3.layClean (j3.sizeAbove a-1) (es.Z (·.1)) with
   |none=>rw[D]at e;cases e
   |some c=>
    rw[D]at e
    cases e
    erw[⟨?_,U⟩,U];show(List.toArray _).l.f (· < ·);rw[List.toList_toArray];exact Al _ _
  .erw[SetT.standIn _ _,U]
 .erw[SetT.standIn _ _,U]
def qV(p:us.Perm vs):∀{ns:E Y},Sw vs ns->∃ ms,Sw us ms/\ms.Perm ns:=by
 let go:∀{us vs:E eN},us.Perm vs->∀{ns:E Y},Sw us ns->∃ ms,Sw vs ms/\ms.Perm ns:=by
  intro us vs p;induction p with
  |nil=>exact λh=>⟨_,h,.rfl⟩
  |cons x _ C=>
   intro ns h
   cases h with
   |cons n t h=>
    let ms eK O:=C h;erw[n::ms,.cons n t eK,O.cons n]
  |swap x y l=>
   intro ns h
   cases h with
   |cons n t h=>
    cases h with
    |cons j d h=>exact⟨j::n::_,.cons j d (.cons n t h),Rv _ _ _⟩
  |trans _ _ a b=>
   intro ns h;let ms eK O:=a h;let v G dO:=b eK;erw[v,G,dO.P O]
 exact λ{ns} h=>go p.X h
def Fw(h:Sw vs ns)(k:Y)(t:Tok):Sw (vs++[.int k t]) (ns++[k]):=by
 induction h with
 |nil=>exact .cons k t .nil
 |cons n d _ C=>exact .cons n d C
def BM(h:Sw vs ns):(∀ v∈vs,∃ n t,v=.int n t/\n∈ns)/\∀ n∈ns,∃ t,eN.int n t∈vs:=by
 induction h with
 |nil=>simp
 |cons n t _ C=>
  erw[λv G=>?_,λm y=>?_]
  .obtain z|z:=MY.mp G
   .erw[n,t,z,M7 ..]
   .let a b c d:=C.1 v z;erw[a,b,c,M6 _ d]
  .obtain z|z:=MY.mp y
   .subst z;erw[t,M7 ..]
   .let b c:=C.2 m z;erw[b,M6 _ c]
def byT(w:ix):ke:=w.params.followText "set-order"
def SetG(P:hx)(w:ix)(h:fo)(a:fc)(l:E Y):Prop:=∃ o O j t,h.Q a=Z o/\o.ExactSet/\o.data=.set O j t/\ElemsOf (intKind P w) O.l/\(∃ J,Sw (O.l.Z (·.2)) J/\J.Perm l)/\l.h/\O.J<scanBound/\t.fits O.J=kt/\SetT t/\t.led = !byT w
def SetG.keeps{l:E Y}(g:SetG P w h a l)(k:∀ o,h.Q a=Z o->h'.Q a=Z o):SetG P w h' a l:=by
 let o O j t L v eK r:=g;erw[o,O,j,t,k o L,v,eK,r]
def addN(l:E Y)(k:Y):E Y:=if k∈l then l else l++[k]
def Bq{es i:kf (Y×eN)}{t t':j3}{l:E Y}(go:h.Q a=Z o)(T:o.ExactSet)(D:o.data=.set es ep t)(el:ElemsOf (intKind P w) i.l)(H:∃ ns,Sw (i.l.Z (·.2)) ns/\ns.Perm l)(nd:l.h)(sz:i.J<scanBound)(d:t'.fits i.J=kt)(u:SetT t')(ld:t'.led = !byT w):
  SetG P w (h.update a (ii.putSet i t')) a l/\∃ o2,(h.update a (ii.putSet i t')).Q a=Z o2/\o2.ExactSet/\o2.data=.set i (ep+1) t':=by
 let N:=Ss (ii.putSet i t') go (by rw[putSet_of i t' D];rfl)
 rw[putSet_of i t' D]at N;erw[⟨_,i,ep+1,t',N,T,U,el,H,nd,sz,d,u,ld⟩,_,N,T,U]
section
variable{prog:hx}{w:ix}{A:Around}{dO:eN->ff->Prop}{s:ff}
def putInS{l:E Y}{k:Y}{tk:Tok}{Q:ke->ff->Prop}(g:SetG prog w s.H a l)(aL:l.L+1<scanBound)(q:∀(b:ke)(h':fo),RU a s.H h'->SetG prog w h' a (addN l k)->Q b {s,h'}):mi A (setAddHashed a (.int k tk) ((intKind prog w).hash k)) Q dO s:=by
 let o L ep t go gx gd el{J ia pm}nd sz ft tg ld:=id g;let aS:(intKind prog w).is k (.int k tk)=kt:=intKind_is _ _ _ _;let len:L.J=l.L:=by
  let eK:∀{D:E eN}{J:E Y},Sw D J->D.L=J.L:=λh=>by
   induction h with
   |nil=>rfl
   |cons _ _ _ d=>simp[*]
  let:=eK ia;rw[MI,NB,pm.length_eq]at this;exact this
 let gw:∀(b:ke){aa:ff}{Q':Unit->ff->Prop},Q' () aa->mi A (match b with|true=>rule "set.scan.the-table-gave-way" | k9=>pure ()) Q' dO aa:=λb=>by
  intro C Q' c
  cases b
  .exact R7 c
  .exact wpAny_rule c
 unfold setAddHashed setAddHashedIn;refine R5 (R4 (Ta go gd ft ?_));dsimp only;rw[byScan_of (knd:=intKind prog w) U sz el];simp only[↓reduceIte];unfold setAddByScan;refine R4 (R4 (wpAny_rule (R4 (wpAny_setScan_of (knd:=intKind prog w) aS go gd ft el ?_))))
 cases fr:List.findIdx? (λe=>(intKind prog w).is k e.2) L.l with
 |some j=>
  let jl jp _:=List.findIdx?_eq_some_iff_getElem.mp fr;let am:k∈l:=by
   let n t' T y:=(BM ia).1 _ (Oc (f:=(·.2)) (Px jl));let e3:(L.l[j]).2=.int n t':=T;rw[e3]at jp;let:k=n:=(intKind prog w).inj _ k n jp (intKind_is _ _ _ _);rw[this];exact pm.mem_iff.mp y
  refine R7 (R7 ?_);let e:addN l k=l:=Ti am;let:=q k9 s.H (fo.SameBut.refl a s.H) (by rw[e];exact g)
  exact this
 |none=>
  let ap:k∉l:=λz=>by
   let t' m:=(BM ia).2 k (pm.mem_iff.mpr z);let e v y:=Nc.mp m;let:=List.findIdx?_eq_none_iff.mp fr e v;rw[y,intKind_is]at this;lia
  let ea:addN l k=l++[k]:=Tj ap;let aT:(l++[k]).h:=NP.mpr ⟨nd,Nt.mpr ⟨N4,NU⟩,λa u b M e=>ap (by rw[MQ.mp M]at e;exact e▸u)⟩
  let G:=layNew_perm t L ((intKind prog w).hash k) (.int k tk);let B:=layNew_fits t L ((intKind prog w).hash k) (.int k tk);let i p:=tg.layNew L ((intKind prog w).hash k) (.int k tk);dsimp only;generalize layNew t L ((intKind prog w).hash k) (.int k tk)=N at G B i p ⊢;let ab t1 wd gv:=N;dsimp only at G B i p ⊢;rw[QP]at G;let a0:ElemsOf (intKind prog w) ab.l:=(el.e aS U).perm G;let a1:∃ ms,Sw (ab.l.Z (·.2)) ms/\ms.Perm (l++[k]):=by
   let p2:=G.Z (·.2);rw[M0]at p2;let ms eK O:=qV p2 (Fw ia k tk);erw[ms,eK,O.P (pm.append_right _)]
  let ar:ab.J<scanBound:=by rw[← NB,G.length_eq,MP,NB,len];exact aL
  let a7:t1.led = !byT w:=p.P ld;refine R4 (gw _ ?_)
  let an:∀ t2:j3,t2.fits ab.J=kt->SetT t2->t2.led = !byT w->mi A (do
    storeSet a ab t2
    if(!wd&&t2.tooFull)=kt then do
      (match(relayAll t2 ab (Tc ab.J)).2.2 with|true=>rule "set.scan.the-table-gave-way" | k9=>pure ())
      storeSet a (relayAll t2 ab (Tc ab.J)).1 (relayAll t2 ab (Tc ab.J)).2.1
      pure (Z kt)
     else pure (Z kt)) (λr s'=>∃ b:ke,r=Z b/\Q b s') dO s:=by
   intro t2 f2 g2 l2;let G1 o2 a2 a8 a3:=Bq (P:=prog) (w:=w) go gx gd a0 a1 aT ar f2 g2 l2;let a4:=SN s.H a (ii.putSet ab t2);refine R4 (wpAny_storeSet_of go gd ?_ (fits_of_scanBound ar));split
   .let ah:=relayAll_perm t2 ab (Tc ab.J)
    let av:=relayAll_fits t2 ab (Tc ab.J);let al ac:=SetT.relayAll t2 ab (Tc ab.J);generalize relayAll t2 ab (Tc ab.J)=N2 at ah av al ac ⊢;let a5 t3 bb:=N2;dsimp only at ah av al ac ⊢;let a9:∃ ms,Sw (a5.l.Z (·.2)) ms/\ms.Perm (l++[k]):=by
     let m1 eK O:=a1;let ms I H:=qV (ah.Z (·.2)) eK;erw[ms,I,H.P O]
    let a6:a5.J<scanBound:=by rw[← NB,ah.length_eq,NB];exact ar
    refine R4 (gw _ (R4 (wpAny_storeSet_of a2 a3 ?_ (fits_of_scanBound a6))));let G2 _:=Bq (P:=prog) (w:=w) a2 a8 a3 (a0.perm ah) a9 aT a6 av al (ac.P l2);refine R7 ⟨kt,U,?_⟩;exact q kt _ (a4.P (SN _ a _)) (by rw[ea];exact G2)
   .refine R7 ⟨kt,U,?_⟩;exact q kt _ a4 (by rw[ea];exact G1)
  let all:=an t1 B i a7
  let step:∀(r:j5 ke)(s':ff),(∃ b:ke,r=Z b/\Q b s')->mi A (match r with
    |some aI=>pure aI
    |none=>setAddHashedIn a (eN.int k tk) ((intKind prog w).hash k) 99999) Q dO s':=λr s' ⟨b,e,z⟩=>by
   subst e;exact R7 z
  split
  .refine R4 ?_;rw[hashByValue_scannable 8 (x:=eN.int k tk) U];refine R7 ?_;exact RW all step λ_ _ z=>z
  .refine R4 (R7 ?_);exact RW all step λ_ _ z=>z
def B8(l:E Y)(k:Y):(addN l k).L<=l.L+1:=by
 unfold addN;split
 .lia
 .simp
def G8{S:fc}{wr:E fc}{P:R->eN->Prop}{St:R->fo->Prop}(W:Walks prog w A.in1 I fp wr n P St)(H:S∉fp)(ns:E Y)(nl:ns.L=n)(G:∀ i v,P i v->∃ t,v=.int (ns.v i 0) t)(M:n+1<scanBound):
  ∀(r i:R)(h:fo)(tk:R)(l:E Y),n-i=r->i<=n->St i h->SetG prog w h S l->l.L<=i ->
   (∀ h' y,(∀ b o,b≠S->b∉wr->h.Q b=Z o->h'.Q b=Z o)->SetG prog w h' S ((ns.drop i).foldl addN l)->ad (.ok (.ret .none)) {s with heap:=h',toks:=y}) ->
   Si (model prog w) A (.builtin "set.update.loop" ⟨[.ref S,.ref I],[]⟩) ad {s with heap:=h,toks:=tk}:=by
 let p:S∉wr:=λz=>H (W.sub _ z);intro r;induction r with
 |zero=>
  intro i h tk l B J st g c d;let dO:i=n:=by lia
  subst dO;refine SY PyProof.Rows.F.entry_set_update_loop ?_;rw[S1 Td _];show wpAny _ A.in1 (pyNext (.ref I) >>= _) _ _ _;refine R4 (W.done _ _ _ st λh' y N=>?_);show wpAny _ A.in1 (ret eN.none) _ _ _;refine R7 (d h' y (λb o _ T e=>N b o T e) ?_);rw[List.drop_of_length_le ∅]
  exact g.keeps λo e=>N _ _ p e
 |succ r C=>
  intro i h tk l B J st g c d;let q:i<n:=by lia
  refine SY PyProof.Rows.F.entry_set_update_loop ?_;rw[S1 Td _];show wpAny _ A.in1 (pyNext (.ref I) >>= _) _ _ _;refine R4 (W.item i _ _ _ q st λv eK f pv x D=>?_);let t rfl:=G i v pv;let L:=g.keeps λo e=>D _ _ p e;show wpAny _ A.in1 (holding [eN.int (ns.v i 0) t] (setAdd S (.int (ns.v i 0) t)) >>= _) _ _ _;refine R4 (R5 ?_);unfold setAdd;refine R5 (R4 ((intKind prog w).pyHash (k:=ns.v i 0) (intKind_is _ _ _ _) ?_));refine putInS (l:=l) L ∅ λb O m a=>?_
  let u:∀ b o,b≠S->eK.Q b=Z o->O.Q b=Z o:=λb o n e=>(m.2 b n).P e;let j:ns.drop i=ns.v i 0::ns.drop (i+1):=by simp[*]
  refine R7 ⟨S6 Td _,C (i+1) _ _ (addN l (ns.v i 0)) ∅ q (W.frame _ _ _ x λb M o e=>u b o (λz=>H (z▸M)) e) a (by let:=B8 l (ns.v i 0);lia) λh' y N Q=>?_⟩
  refine d h' y (λb o n T e=>N b o n T (u b o n (D b o T e))) ?_;rw[j,Rl];exact Q
def zR(a:eN){Q₁:eN->ff->Prop}(h:Q₁ (.ref s.H.M.J) {s,s.H.e {cls:=.type "set",dict:=lf,data:=.set #[] 0 (.fresh 0 0 (!byT w))}}):
  Si (model prog w) A (.call (.builtin "set.__new__") ⟨[.type "set",a],[]⟩) (wants Q₁ dO) s:=by
 refine codeAny_of_tree ?_;show wpAny _ A.in1 (do checkBuiltinCall "set.__new__" ⟨[.type "set",a],[]⟩;again (.builtin "set.__new__" ⟨[.type "set",a],[]⟩)) _ _ s
 refine R4 (wpAny_of_eq (PySem.F.newCall_set_1 a) (R7 ⟨S6 PySem.F.plain_set_new _,SY PySem.F.entry_set_new ?_⟩));rw[S1 PySem.F.plain_set_new _];unfold j0.«set.__new__» j0.Frozenset.newClass;let L:=PySem.sub_set_self;let G Q J m os:=s;dsimp only;wp_walk;refine Te (R7 ?_);dsimp only;simp only[newObj];exact R4 (wpAny_alloc (R7 (R7 h)))
theorem gp:∀{vs:E eN}{ns:E Y},Sw vs ns->vs.L=ns.L/\∀(i:R)(v:eN),vs[i]?=Z v->∃ t,v=.int (ns.v i 0) t:=by
 intro vs ns h;induction h with
 |nil=>exact⟨U,λi v e=>by simp at e⟩
 |cons n t r ih=>
  let eK O:=ih;erw[by simp[*],λi v e=>?_]
  match i,e with
  |0,e=>cases e;erw[t,U]
  |i+1,e=>exact O i v e
abbrev newO(w:ix):ii:={cls:=.type "set",dict:=lf,data:=.set #[] 0 (.fresh 0 0 (!byT w))}
theorem newG(e:h.Q a=Z (newO w)):SetG P w h a []:=
 ⟨_,#[],0,_,e,⟨U,U,U⟩,U,λx B=>by simp at B,⟨[],.nil,.rfl⟩,NU,∅,U,SetT.fresh _ _ _,U⟩
def y8{lst:fc}{its:kf eN}(H:A.handled=lf)(hl:s.H.IsList lst its)(g:Sw its.l ns)(M:its.J+1<scanBound)(q:∀(h':fo)(tk:R),SetG prog w h' s.H.M.J (ns.foldl addN [])->(∀ b o,s.H.Q b=Z o->h'.Q b=Z o)->Q (.ref s.H.M.J) {s with heap:=h',toks:=tk}):
  mi A (call (.type "set") [.ref lst]) Q dO s:=by
 let cc tl I:=PySem.F.called_set.mro;let ah:=PySem.F.called_set.made;let L:=PySem.F.called_set.sub;let k eK:=gp g;let aa:ns.L=its.J:=by simp!
 refine wpAny_call (codeAny_of_tree ?_);show wpAny _ _ (callAny (.type "set") _) _ _ _;refine R7 ⟨Code.quiet_builtin _ ∅,SY PySem.F.entry_type_call ?_⟩
 rw[Around.under_plain (weight_type_call_type "set" [.ref lst] []) U];let p:=PySem.F.called_set.notType;let x:=PySem.F.called_set.canCreate;let D:=PySem.F.typeCall_set_1 (.ref lst);repeat (any_goals (first|assumption|wp_step))
 refine Sm (zR (.ref lst) (dO:=dO) (Q₁:=λt J=>t=.ref s.H.M.J/\J={s,s.H.e (newO w)}) ⟨U,U⟩) λr J u=>?_
 cases r with
 |error e=>exact u
 |ok T=>
  cases T with
  |next=>exact u.elim
  |brk=>exact u.elim
  |cont=>exact u.elim
  |ret t=>
   let rfl rfl:=u;let gS:(s.H.e (newO w)).Q s.H.M.J=Z (newO w):=R9 _ U;let c:ff.TypeIs {s,s.H.e (newO w)} (.ref s.H.M.J) "set":=⟨_,gS,U⟩;let d:=PySem.F.called_set.init.lookup;let a:=PySem.F.called_set.init.bind (.ref s.H.M.J);repeat (any_goals (first|assumption|wp_step))
   refine Sm (codeAny_call_builtin (R:=wants (λr G=>r=.none/\∃ h' tk,G={s with heap:=h',toks:=tk}/\SetG prog w h' s.H.M.J (ns.foldl addN [])/\∀ b o,s.H.Q b=Z o->h'.Q b=Z o) dO) PySem.F.called_set.init.plain PySem.F.entry_set_init (check_set_init_1 c ?_)) λac G l=>?_
   .let O go gc B f:=hl;let c0 n an h:=O;simp only at gc f;subst gc;subst f;let al:(s.H.e (newO w)).Q lst=Z {cls:=.type "list",dict:=n,data:=.seq its B,slots:=h}:=R8 _ go;let f6:=PySem.F.sub_list_set;let f7:=PySem.F.sub_list_frozenset;let C:(eN.type "list" == eN.type "dict")=k9:=by decide
    let m:(s.H.e (newO w)).IsList lst its:=⟨_,al,U,B,U⟩;unfold j0.«set.__init__» noKeywords j0.Frozenset.updateFrom;generalize eP:pyIter=PI;wp_walk;subst eP;refine wpAny_pyIter_list m (R4 (wpAny_runValue ?_));let lS:lst<s.H.M.J:=RP go;let nI:lst≠(s.H.e (newO w)).M.J:=by rw[Sj];exact Nh (OB lS)
    let nS:s.H.M.J∉[(s.H.e (newO w)).M.J,lst]:=by
     rw[Sj];intro z;obtain z|z:=MY.mp z
     .exact Tn z (Nh (Oe _))
     .rw[MQ]at z;exact Tn z.X (Nh lS)
    let am:A.in1.in1.in1.handled=lf:=by simp[H]
    refine G8 (s:=s) (Walks.list am _ lst nI its) nS ns aa (λi v pv=>eK i v (by rw[NZ];exact pv)) M its.J 0 _ s.u [] ∅ (ND _) ⟨⟨_,R9 _ U,U,U⟩,m.e _⟩ (newG (R8 _ gS)) (MN _) λh' y N gg=>?_
    refine R7 ?_;show wpAny _ _ (ret eN.none) _ _ _;refine R7 ⟨U,h',y,U,gg,λb o e=>?_⟩;let bl:=RP e;refine N b o (Nh bl) (λz=>?_) (R8 _ (R8 _ e));rw[MQ,Sj]at z;exact Tn z (Nh (OB bl))
   .cases ac with
    |error e=>exact l
    |ok ab=>
     cases ab with
     |next=>exact l.elim
     |brk=>exact l.elim
     |cont=>exact l.elim
     |ret r=>
      let rfl h' tk rfl g' j:=l;repeat (any_goals (first|assumption|wp_step))
      exact q _ _ g' j
end
def bt_set:RS "set"=Z (.type "set"):=by rfl
theorem AB:entryFor table "set.__iter__"=Z j0.«frozenset.__iter__»:=entryFor_alias (id':="frozenset.__iter__") (by kernel_rfl) U ∅ (by kernel_rfl)
theorem dv:Slot "set_iterator" "__next__" "set_iterator.__next__":=
 Slot.of (owner:="set_iterator") (n:="__next__") (by rfl) (by rfl) (by rfl) ∅ (by first|exact .inl (by rfl)|exact .inr ∅) (by rfl)
theorem tP:entryFor table "set_iterator.__next__"=Z j0.«set_iterator.__next__»:=entryFor_of_tree (by kernel_rfl)
def ow_si:Manifest.owners.lookup (String.ofList ['r','o','t','a','r','e','t','i','_','t','e','s'].y)=Z Manifest.sig_set_iterator:=by kernel_rfl
def tU(a:eN):argsOk "set_iterator.__next__" ⟨[a],[]⟩:=by
 unfold argsOk;rw[signature?_of (id:="set_iterator.__next__") (n:=['_','_','t','x','e','n','_','_']) (o:=['r','o','t','a','r','e','t','i','_','t','e','s']) (by kernel_rfl) ow_si]
 kernel_rfl
theorem tD:Slot "set_iterator" "__iter__" "set_iterator.__iter__":=
 Slot.of (owner:="set_iterator") (n:="__iter__") (by rfl) (by rfl) (by rfl) (by rfl) (by first|exact .inl (by rfl)|exact .inr ∅) (by rfl)
theorem CU:entryFor table "set_iterator.__iter__"=Z j0.«dict_keyiterator.__iter__»:=entryFor_alias (id':="dict_keyiterator.__iter__") (by kernel_rfl) U ∅ (by kernel_rfl)
def Dn(a:eN):argsOk "set_iterator.__iter__" ⟨[a],[]⟩:=by
 unfold argsOk;rw[signature?_of (id:="set_iterator.__iter__") (n:=['_','_','r','e','t','i','_','_']) (o:=['r','o','t','a','r','e','t','i','_','t','e','s']) (by kernel_rfl) ow_si]
 kernel_rfl
theorem Az{α:Type}:∀{l:E α}{i:R}(h:i<l.L),(l[i]::l.eraseIdx i).Perm l
 |x::l,0,_=>List.Perm.refl _
 |x::l,i+1,h=>by
  let C:=Az (l:=l) (i:=i) (by simpa using h)
  show(l[i]'(by simpa using h)::x::l.eraseIdx i).Perm (x::l)
  exact(Rv x _ _).P (C.cons x)
theorem Ey{α:Type}(next:R->R):∀(g k:R)(left:E α)(out:kf α),left.L=g->(pickOrder.go next g k left out).l.Perm (out.l++left)
 |0,k,left,out,h=>by
  let:left=[]:=O5.mp h;subst this;unfold pickOrder.go;rw[NT]
 |g+1,k,left,out,h=>by
  let M:next k%left.L<left.L:=Pc _ ∅
  unfold pickOrder.go;rw[MG M];dsimp only;refine(Ey next g (k+1) _ _ (by rw[P5 M];lia)).P ?_
  rw[QP,Qk];refine List.Perm.append_left _ ?_;exact Az M
def xh(next:R->R)(xs:kf α):(pickOrder next xs).l.Perm xs.l:=by
 let:=Ey next xs.J 0 xs.l #[] ∅
 assumption
section
variable{prog:hx}{w:ix}{A:Around}{dO:eN->ff->Prop}{s:ff}
theorem Df{a:Source}{Q:R->ff->Prop}(T:n≠0)(h:∀ i d,i<n->Q i {s with drawn:=d}):mi A (choose a n) Q dO s:=λ_ _ _=>⟨T,h _ _ (Pc _ (Nat.pos_of_ne_zero T))⟩
theorem B0{α:Type}:∀(n:R)(xs:E α)(s:ff)(Q:E α->ff->Prop),xs.L=n->(∀ ys d,ys.Perm xs->Q ys {s with drawn:=d})->mi A (drawOrder n xs) Q dO s
 |0,xs,s,Q,h,q=>by
  let:xs=[]:=O5.mp h;subst this;unfold drawOrder;exact R7 (q [] s.drawn .rfl)
 |n+1,[],s,Q,h,q=>by cases h
 |n+1,x::xs,s,Q,h,q=>by
  unfold drawOrder;refine R4 (Df ∅ λi d J=>?_)
  rw[MG J];dsimp only;refine R4 (B0 n _ _ _ (by rw[P5 J];simp at h ⊢;lia) λys a p=>R7 ?_)
  exact q _ a ((p.cons _).P (Az J))
end
def slA(t:j3)(i:R):R:=if i=0 then 0 else t.place.v (i-1) 0+1
def ItAt(P:hx)(w:ix)(h:fo)(I a tp:fc)(ord:E Y)(i:R):Prop:=∃ o O r t first m,h.Q a=Z o/\o.ExactSet/\o.data=.set O r t/\t.fits O.J=kt/\SetT t/\t.led = !byT w /\
 h.Q I=Z {cls:=.type "set_iterator",data:=.fields #[first,rawInt (i:Y),.ref a,rawInt (O.J:Y),rawInt (r:Y)]}/\Sw m ord/\m.L=O.J /\
 ((byT w=kt/\(∃ z:R,first=rawInt (z:Y))/\m=(pickOrder (w.params.setOrder a r) O).l.Z (·.2)) ∨
  (byT w=k9/\(!t.plain&&decide (O.J > 1))=k9/\first=rawInt (slA t i:Y)/\m=O.l.Z (·.2)) ∨
  (byT w=k9/\∃(y:E R)(g:ii)(c:R),first=.ref tp/\tp≠I/\tp≠a/\h.Q tp=Z g/\g.data=.seq (y.Z λp:R=>rawInt (p:Y)).toArray c/\y.L=O.J/\∀(j p:R),y[j]?=Z p->∃ x,O[p]?=Z x/\m[j]?=Z x.2))
section
variable{prog:hx}{w:ix}{A:Around}{dO:eN->ff->Prop}{s:ff}
def xP{es:kf (Y×eN)}{l:E Y}(H:Sw (es.l.Z (·.2)) ns)(B:ns.Perm l){ys:E (Y×eN)}(p:ys.Perm es.l):∃ ms,Sw (ys.Z (·.2)) ms/\ms.Perm l:=by
 let ms eK O:=qV (p.Z (·.2)) H;erw[ms,eK,O.P B]
def Hq{l:E Y}(g:SetG prog w s.H a l)(q:∀(I tp:fc)(h':fo)(d:_)(ord:E Y),(∀ b o,s.H.Q b=Z o->h'.Q b=Z o)->s.H.M.J<=I->I<h'.M.J->s.H.M.J<=tp->tp<h'.M.J->ord.Perm l->ItAt prog w h' I a tp ord 0->Q (.ref I) {s with heap:=h',drawn:=d}):
  mi A (pyIter (.ref a)) Q dO s:=by
 let o L r t go T D n{J H B}nd sz x u ld:=id g;let N:s.TypeIs (.ref a) "set":=⟨o,go,T.1⟩;let al:a<s.H.M.J:=RP go;let aa:=(gp H).1;let G:L.J<=RO:=M4 (OW sz ∅)
 refine wpAny_pyIter_slot N PySem.F.slot_set_iter (SH PySem.F.slot_set_iter N AB ?_ (PySem.F.args_set_iter_1 _));unfold j0.«frozenset.__iter__» j0.Frozenset.slot0 slotArgs;simp -iota only[QZ,PZ,N8,↓reduceIte,bind_assoc,OU,bne_self_eq_false];unfold j0.Frozenset.addrOf j0.Frozenset.sizeOf;refine R4 (R7 ?_);try dsimp only
 refine R4 (R7 (R4 (R4 (wpAny_setEntries_of go D x (R7 ?_)))));unfold setDrawn setsByText;refine R4 (R4 (Ta go D x ?_));dsimp only;refine R4 (R4 (Te (R7 (R7 ?_))));let n0:∀ I:fc,s.H.M.J<=I->a≠I:=λI hI z=>Tn al (by simp[*])
 split
 .rename_i ab;let v:(!byT w&&(!t.plain&&decide (L.J > 1)))=kt:=ab;let bt:byT w=k9:=by
   cases y:byT w with
   |false=>rfl
   |true=>rw[y]at v;cases v
  refine R4 (B0 L.J (Nf L.J) _ _ Nl λk d p=>?_);let yl:k.L=L.J:=by rw[p.length_eq,Nl]
  refine R4 (wpAny_newTuple ?_ (by simp[*]))
  unfold setEpoch;let m:(s.H.e {cls:=.type "tuple",data:=.seq (k.Z λi:R=>rawInt (i:Y)).toArray}).Q a=Z o:=R8 _ go;refine R4 (R4 (Ta m D x (R7 ?_)));unfold newFields;refine R4 (SG ?_ (by size_fits))
  let em:(Nf L.J).Z (λj=>L.v j (0,eN.none))=L.l:=by
   refine Ra ∅ λj eK O=>?_
   let c:j<L.J:=by lia
   simp[QR,c]
  let pv:(k.Z λj=>L.v j (0,eN.none)).Perm L.l:=by
   rw[← em];exact p.Z _
  let f M i2:=xP H B pv;refine R7 ⟨_,U,"set_iterator",_,⟨_,R9 _ U,U⟩,dv.Y,?_⟩;refine q _ s.H.M.J _ d f (λb o e=>R8 _ (R8 _ e)) ∅ (RP (R9 _ U)) (MN _) (by rw[Sj,Sj];exact OB (Oe _)) i2 ?_
  erw[o,L,r,t,_,(k.Z λj=>L.v j (0,eN.none)).Z (·.2),R8 _ m,T,D,x,u,ld,R9 _ U,M,by rw[MI,MI,yl],.inr (.inr ⟨bt,k,_,_,U,?_,N9 al,R8 _ (R9 _ U),U,yl,λj h c=>?_⟩)]
  .simp
  .let C:h<L.J:=Nk.mp (p.mem_iff.mp (MH c))
   erw[L[h],OF C,3];simp[*]
 .rename_i ab;let v:¬ (!byT w&&(!t.plain&&decide (L.J > 1)))=kt:=ab;refine R4 (R7 ?_);unfold setEpoch;refine R4 (R4 (Ta go D x (R7 ?_)));unfold newFields;refine R4 (SG ?_ (by size_fits))
  refine R7 ⟨_,U,"set_iterator",_,⟨_,R9 _ U,U⟩,dv.Y,?_⟩
  cases bt:byT w with
  |true=>
   let f M i2:=xP H B (xh (w.params.setOrder a r) L);refine q _ s.H.M.J _ s.drawn f (λb o e=>R8 _ e) (MN _) ∅ (MN _) ∅ i2 ?_
   erw[o,L,r,t,5,R8 _ go,T,D,x,u,ld,R9 _ U,M,by rw[MI,(xh _ _).length_eq,NB],.inl ⟨bt,⟨0,U⟩,U⟩]
  |false=>
   rw[bt]at v;let c2:(!t.plain&&decide (L.J > 1))=k9:=by
    cases y:(!t.plain&&decide (L.J > 1)) with
    |false=>rfl
    |true=>contradiction
   refine q _ s.H.M.J _ s.drawn J (λb o e=>R8 _ e) (MN _) ∅ (MN _) ∅ B ?_
   erw[o,L,r,t,5,R8 _ go,T,D,x,u,ld,R9 _ U,H,by simp,.inr (.inl ⟨bt,c2,U,U⟩)]
def xR{t:j3}(h:t.fits n=kt):t.place.J=n:=by
 unfold j3.fits at h;rw[Py]at h;exact eq_of_beq h.1
def yH{t:j3}(u:SetT t)(hi:i<=t.place.J):S9 t.place (slA t i)=i:=by
 let b1 b2 b3:=B7 u.1 (slA t i);let up:∀ a b,a<b->b<t.place.J->t.place.v a (slA t i)<t.place.v b (slA t i):=λa b o M=>by
  let l:a<t.place.J:=OW o M;let:=NW.mp u.1 a b ∅ ∅ o
  simp!
 let h:∀ k,i=k+1->slA t i=t.place.v k (slA t i)+1:=λk e=>by
  let D:k<t.place.J:=by lia
  let f:slA t i=t.place.v k 0+1:=by
   unfold slA;rw[Tj ∅,e,QH]
  let A:t.place.v k 0=t.place.v k (slA t i):=by simp[QR,D]
  rw[← A];exact f
 generalize M:S9 t.place (slA t i)=b at b1 b2 b3;obtain z|z|z:=QM b i
 .let k rfl:∃ k,i=k+1:=⟨i-1,∅⟩
  let eK:=b2 b (MN _) ∅
  let O:=h k U;by_cases e:b=k
  .subst e;lia
  .let:=up b k ∅ ∅
   lia
 .exact z
 .let eK:=b1 i z
  cases i with
  |zero=>have e:slA t 0=0:=rfl;rw[e]at eK;lia
  |succ k=>
   let O:=h k U;let:=up k (k+1) ∅ ∅
   lia
theorem Br{eK h2:fo}(x:RU I h eK)(y:RU I eK h2):RU I h h2:=⟨y.1.P x.1,λb M=>(y.2 b M).P (x.2 b M)⟩
def Mb{tp:fc}{n:Y}{Q:j5 eN->ff->Prop}(h:ItAt prog w s.H I a tp ord i)(T:ord[i]?=Z n)(aI:a≠I)(q:∀(t:Tok)(h':fo),ItAt prog w h' I a tp ord (i+1)->RU I s.H h'->Q (Z (.int n t)) {s,h'}):mi A (pyNext (.ref I)) Q dO s:=by
 let o es j t first m go g D d u ld gI H vl md:=h;let N:s.TypeIs (.ref I) "set_iterator":=⟨_,gI,U⟩;unfold pyNext;refine R4 (wpAny_attempt (SK (name:=fI.ofString "__next__") N dv (SH dv N tP ?_ (tU _))));unfold j0.«set_iterator.__next__» slotArgs;simp -iota only[QZ,PZ,N8,↓reduceIte,bind_assoc,OU,bne_self_eq_false];refine R4 (R7 ?_);try dsimp only
 refine R4 (wpAny_fieldsOf gI U ?_);dsimp only[rawInt];refine R4 (wpAny_setEntries_of go D d ?_);rw[Tj ∅]
 let k:i<ord.L:=(MF.mp T).1;let J:=(gp H).1;let al:i<m.L:=by lia
 let tk l:∃ tk,m[i]?=Z (.int n tk):=by
  let tk e:=(gp H).2 i _ (MG al);erw[tk,3];rw[MG al,e,MX,T];rfl
 let an:=xR d;let ci:((i:Y)+1)=((i+1:R):Y):=by lia
 rcases md with⟨bt,⟨z,rfl⟩,rfl⟩|⟨bt,dr,rfl,rfl⟩|⟨bt,y,ot,c,rfl,tI,f,gt,ah,aa,p⟩
 .dsimp only[rawInt];unfold setNext setsByText setWalk setsByText;refine R4 (R4 (Ta go D d ?_));dsimp only;refine R4 (R4 (Te (R7 ?_)));let ab:w.params.followText "set-order"=kt:=bt;rw[show(Setting.params ⟨(model prog w).i,(model prog w).w.params⟩).followText "set-order"=kt from ab,Ti U,Tj ∅]
  refine R4 (R4 (Ta go D d ?_));dsimp only;refine R4 (R4 (Te (R7 ?_)));rw[show(Setting.params ⟨(model prog w).i,(model prog w).w.params⟩).followText "set-order"=kt from ab,Ti U];refine R4 (Te (R7 (R7 ?_)));let G:(pickOrder (w.params.setOrder a j) es)[i]?.map (·.2)=Z (.int n tk):=by rw[← NZ,← MO];exact l
  let x B M:=MZ.mp G;rw[MU,MU,show(pickOrder ((Setting.params ⟨(model prog w).i,(model prog w).w.params⟩).setOrder a j) es)[i]?=Z x from B];dsimp only[j5.map];refine R4 (SQ gI ∅ λeK L C=>?_)
  refine R4 (SQ (s:={s,eK}) L ∅ λO v b=>?_)
  let r:=Br C b;rw[M];refine R7 ⟨_,U,R7 (q tk O ?_ r)⟩;erw[o,es,j,t,5,(r.2 a aI).P go,g,D,d,u,ld,v.P ?_,H,vl,.inl ⟨bt,⟨z,U⟩,U⟩];rw[ci];rfl
 .dsimp only[rawInt];unfold setNext setsByText;refine R4 (R4 (Ta go D d ?_));dsimp only;refine R4 (R4 (Te (R7 ?_)));let ab:w.params.followText "set-order"=k9:=bt;rw[show(Setting.params ⟨(model prog w).i,(model prog w).w.params⟩).followText "set-order"=k9 from ab,Tj ∅]
  refine SA (λc=>Tn (show(!t.plain&&decide (es.J > 1))=kt from c) (by rw[dr];simp)) λ_=>?_
  let ac:t.led=kt:=by rw[ld,bt];rfl
  refine R4 ?_;show wpAny _ _ (if(!t.led&&!es.isEmpty)=kt then _ else _) _ _ _;rw[ac];refine R7 (R7 ?_);rw[MU,yH u ∅]
  let ie:i<es.J:=by lia
  let ip:i<t.place.J:=by lia
  let M:es[i].2=.int n tk:=by simp!
  rw[OF ie,OF ip];dsimp only;refine R4 (SQ gI ∅ λeK L C=>?_)
  refine R4 (SQ (s:={s,eK}) L ∅ λO v b=>?_)
  let r:=Br C b;rw[M];refine R7 ⟨_,U,R7 (q tk O ?_ r)⟩;erw[o,es,j,t,5,(r.2 a aI).P go,g,D,d,u,ld,v.P ?_,H,vl,.inr (.inl ⟨bt,dr,U,U⟩)];let es:slA t (i+1)=t.place[i]+1:=by
   unfold slA;rw[Tj ∅,QH]
   simp[QR,ip]
  rw[ci,es];rfl
 .dsimp only[rawInt];refine R4 (S2 gt ah ?_);dsimp only;let ip:i<y.L:=by lia
  let x B am:=p i _ (MG ip);let M:x.2=.int n tk:=Ny (am.X.P l);rw[MU,List.getElem?_toArray,MO,MG ip];dsimp only[j5.map,rawInt];unfold setNextDrawn;refine R4 (R4 (Ta go D d ?_));dsimp only;rw[MU,MU,Tj ∅,B]
  refine R7 ?_;refine R4 (SQ gI ∅ λeK L C=>?_)
  rw[M];refine R7 ⟨_,U,R7 (q tk eK ?_ C)⟩;erw[o,es,j,t,_,m,(C.2 a aI).P go,g,D,d,u,ld,L.P ?_,H,vl,.inr (.inr ⟨bt,y,ot,c,U,tI,f,(C.2 tp tI).P gt,ah,aa,p⟩)];rw[ci];rfl
def yS{k:R}{Q:j5 eN->ff->Prop}{vs:kf eN}(H:A.handled=lf)(J:s.H.Q I=Z {cls:=.type "set_iterator",data:=.fields vs})(D:k<vs.J)(q:∀(h':fo),fo.ExtBut I s.H h'->Q lf {s,h'}):
  mi A.in1 (setField (.ref I) k .none >>= λ_=>newExc (.type "StopIteration") [] >>= λe=>raiseNew e) (λ(d:Fin) s'=>∃ v,d=Fin.done (Flow.ret v)/\mi A (pure (Z v)) Q dO s')
  (λe s'=>mi A (do if ← isInstance e (.type "StopIteration") then pure lf else throw e) Q dO s') s:=by
 refine R4 (wpAny_setField J U D ?_);refine R4 ?_;simp only[newExc,newTuple];refine R4 (SG ?_ (by size_fits))
 refine R4 (m:=firstArgMember _ _) (wpAny_of_eq (a:=eN.none) (by rfl) ?_)
 refine SG ?_ (by size_fits)
 simp -iota only[raiseNew];refine R4 (wpAny_handled ?_);rw[show A.in1.handled=lf from H];refine R4 (R7 (wpAny_throw ?_));refine R4 (SD (T:="StopIteration") (b:=kt) ⟨_,R9 _ U,U⟩ isSubtype_stop ?_);exact R7 (q _ (((SN ..).U.e _).e _))
def Mc{tp:fc}{Q:j5 eN->ff->Prop}(H:A.handled=lf)(h:ItAt prog w s.H I a tp ord i)(T:i=ord.L)(aI:a≠I)(q:∀(h':fo),fo.ExtBut I s.H h'->Q lf {s,h'}):mi A (pyNext (.ref I)) Q dO s:=by
 let o es j t first m go f D d u ld J g G v:=h;let N:s.TypeIs (.ref I) "set_iterator":=⟨_,J,U⟩;unfold pyNext;refine R4 (wpAny_attempt (SK (name:=fI.ofString "__next__") N dv (SH dv N tP ?_ (tU _))));unfold j0.«set_iterator.__next__» slotArgs;simp -iota only[QZ,PZ,N8,↓reduceIte,bind_assoc,OU,bne_self_eq_false];refine R4 (R7 ?_);try dsimp only
 refine R4 (wpAny_fieldsOf J U ?_);dsimp only[rawInt];refine R4 (wpAny_setEntries_of go D d ?_);rw[Tj ∅]
 let O:=(gp g).1;let ab:i=m.L:=by lia
 let ac:=xR d;rcases v with⟨bt,⟨z,rfl⟩,rfl⟩|⟨bt,dr,rfl,rfl⟩|⟨bt,y,ot,c,rfl,tI,l,gt,aa,k,p⟩
 .dsimp only[rawInt];unfold setNext setsByText setWalk setsByText;refine R4 (R4 (Ta go D d ?_));dsimp only;refine R4 (R4 (Te (R7 ?_)));let n:w.params.followText "set-order"=kt:=bt;rw[show(Setting.params ⟨(model prog w).i,(model prog w).w.params⟩).followText "set-order"=kt from n,Ti U,Tj ∅]
  refine R4 (R4 (Ta go D d ?_));dsimp only;refine R4 (R4 (Te (R7 ?_)));rw[show(Setting.params ⟨(model prog w).i,(model prog w).w.params⟩).followText "set-order"=kt from n,Ti U];refine R4 (Te (R7 (R7 ?_)));let B:(pickOrder (w.params.setOrder a j) es)[i]?=lf:=by simp!
  rw[MU,MU,show(pickOrder ((Setting.params ⟨(model prog w).i,(model prog w).w.params⟩).setOrder a j) es)[i]?=lf from B];exact yS H J ∅ q
 .dsimp only[rawInt];unfold setNext setsByText;refine R4 (R4 (Ta go D d ?_));dsimp only;refine R4 (R4 (Te (R7 ?_)));let n:w.params.followText "set-order"=k9:=bt;rw[show(Setting.params ⟨(model prog w).i,(model prog w).w.params⟩).followText "set-order"=k9 from n,Tj ∅]
  refine SA (λc=>Tn (show(!t.plain&&decide (es.J > 1))=kt from c) (by rw[dr];simp)) λ_=>?_
  let r:t.led=kt:=by rw[ld,bt];rfl
  refine R4 ?_;show wpAny _ _ (if(!t.led&&!es.isEmpty)=kt then _ else _) _ _ _;rw[r];refine R7 (R7 ?_);let ie:i=es.J:=by lia
  rw[MU,yH u ∅]
  rw[kf.getElem?_eq_none (by lia:es.J<=i),kf.getElem?_eq_none (by lia:t.place.J<=i)]
  exact yS H J ∅ q
 .dsimp only[rawInt];refine R4 (S2 gt aa ?_);dsimp only;let ip:y.L<=i:=by lia
  rw[MU,List.getElem?_toArray,MO,N3 ip];dsimp only[j5.map];refine R4 (SQ J ∅ λeK L C=>?_)
  exact yS (s:={s,eK}) H L ∅ λh' x=>q h' λb o M e=>x b o M ((C.2 b M).P e)
def Fs{tp:fc}(x:ItAt prog w h I a tp ord i)(k:∀ b∈[I,a,tp],∀ o,h.Q b=Z o->h'.Q b=Z o):ItAt prog w h' I a tp ord i:=by
 let o O j t first m go T D d u ld J H G v:=x;erw[o,O,j,t,first,m,k a ∅ _ go,T,D,d,u,ld,k I ∅ _ J,H,G,3]
 obtain z|z|⟨bt,y,g,c,e,p,l,n,r,N,f⟩:=v
 .exact .inl z
 .exact .inr (.inl z)
 .exact .inr (.inr ⟨bt,y,g,c,e,p,l,k tp ∅ _ n,r,N,f⟩)
theorem IK(H:A.handled=lf)(I a tp:fc)(p:a≠I)(ord:E Y):Walks prog w A I [I,a,tp] [I] ord.L (λi v=>∃ t n,ord[i]?=Z n/\v=.int n t) (λi h=>ItAt prog w h I a tp ord i) where
 sub:=λb M=>by simp!
 frame:=λ_ _ _ st D=>Fs st D
 item:=λi s Q dO J st N=>by
  refine Mb st (MG J) p λt eK q r=>?_;exact N _ eK s.u ⟨t,_,MG J,U⟩ q λb o M e=>r.U b o (λh=>M (by simp[h])) e
 done:=λs Q dO st N=>Mc H st U p λeK u=>N eK s.u λb o M e=>u b o (λh=>M (by simp[h])) e
 self:=λ_ s Q _ st h=>by
  let o O j t first m go T f d c ld l g G k:=st;let C:s.TypeIs (.ref I) "set_iterator":=⟨_,l,U⟩;refine wpAny_pyIter_slot C tD (SH tD C CU ?_ (Dn _));show wpAny _ _ (ret (.ref I)) _ _ s;exact R7 ⟨_,U,"set_iterator",_,C,dv.Y,h⟩
def IM{r:fc}{Q:ke->ff->Prop}(C:s.TypeIs (.ref r) "set")(h:Q k9 s):mi A (Sz (.ref r)) Q dO s:=by
 unfold Sz;refine R4 (Sy C PySem.F.slot_set_len.lookup ?_);generalize hid:("set.__len__" : String)=a;wp_delta;rw[show splitId a=Z ("set","__len__") from by subst hid;rfl]
 subst hid;refine R4 (SD (T:="set") (b:=kt) C (by rfl) ?_)
 refine SA (λo=>Tn o ∅) (λ_=>?_)
 refine SA (λ_=>?_) (λo=>Tn (by rfl) o)
 refine R4 (wpAny_typeOf C ?_);exact R7 h
def SetG.len{l:E Y}(g:SetG prog w h a l):l.L<scanBound:=by
 let o O j t go T D s{J H B}nd sz d u ld:=g;let:=(gp H).1;rw[MI,NB,B.length_eq]at this;lia
def SetG.typ{l:E Y}(g:SetG prog w s.H a l):s.TypeIs (.ref a) "set":=by
 let o O j t go T r:=g;erw[o,go,T.1]
def SetG.lt{l:E Y}(g:SetG prog w h a l):a<h.M.J:=by
 let o O j t go T r:=g;exact RP go
def A0{l:E Y}{Q:E eN->ff->Prop}(hh:A.handled=lf)(g:SetG prog w s.H a l)(h:∀(h':fo)(tk:R)(d:Drawn)(u:kf eN)(ord:E Y),(∀ b o,s.H.Q b=Z o->h'.Q b=Z o)->s.H.M.J<h'.M.J->ord.Perm l->ItemsOf (λi v=>∃ t n,ord[i]?=Z n/\v=.int n t) u ord.L->Q u.l {s with heap:=h',toks:=tk,drawn:=d}):mi A (collect (.ref a)) Q dO s:=by
 unfold collect;refine R4 (wpAny_runValue (SY entry_proto_collect' ?_));show wpAny _ _ (do again (.builtin "list.__iadd__" ⟨[← newList [],.ref a],[]⟩)) _ _ s
 refine R4 (SW (R7 ⟨Code.quiet_builtin _ ∅,SY entry_list_iadd' ?_⟩))
 rw[S1 PySem.F.plain_list_iadd _];show wpAny _ A.in1 (Tf (.ref s.H.M.J) (.ref a) (.ref s.H.M.J)) _ _ {s,s.H.e (SU "list" #[] 0)};let L:SetG prog w (s.H.e (SU "list" #[] 0)) a l:=g.keeps λo e=>R8 _ e;let aS:s.H.M.J≠a:=N9 g.lt;let H:(s.H.e (SU "list" #[] 0)).Q s.H.M.J=Z {cls:=.type "list",data:=.seq #[] 0}:=R9 _ U;unfold Tf;refine R4 (wpAny_typeOf (T:="set") L.typ ?_);let eK:Tg (.ref s.H.M.J) (.ref a)=k9:=by simp[Tg,aS]
 simp only[eK,show(eN.type "set" == eN.type "list")=k9 by decide,show(eN.type "set" == eN.type "tuple")=k9 by decide,O7,N8,if_false]
 refine R4 (Hq L λI tp O d ord k2 lI sI lt st q it=>?_);let N:(s.H.e (SU "list" #[] 0)).M.J=s.H.M.J+1:=Sj ..;rw[N]at lI lt;let SI:s.H.M.J≠I:=Nh lI;let ST:s.H.M.J≠tp:=Nh lt;let aI:a≠I:=Nh (OW g.lt lI);let ap:s.H.M.J∉[I,a,tp]:=by simp[*]
 let p:ord.L<=RO:=by
  rw[q.length_eq];exact M4 (OW g.len ∅)
 let aa:∀(G:fo)(am tk:R),ItAt prog w G I a tp ord 0->(∀ b o,b≠s.H.M.J->O.Q b=Z o->G.Q b=Z o) ->
   G.Q s.H.M.J=Z {cls:=.type "list",data:=.seq #[] am}->Si (model prog w) A (.builtin "list.extend.loop" ⟨[.ref s.H.M.J,.ref I,.ref s.H.M.J],[]⟩) (λr c=>∃ h' tk d x B,r=.ok (.ret (.ref s.H.M.J))/\c={s with heap:=h',toks:=tk,drawn:=d}/\(∀ b o,s.H.Q b=Z o->h'.Q b=Z o)/\h'.Q s.H.M.J=Z {cls:=.type "list",dict:=lf,data:=.seq x B,slots:=#[]}/\ItemsOf (λi v=>∃ t n,ord[i]?=Z n/\v=.int n t) x ord.L) {s with heap:=G,toks:=tk,drawn:=d}:=by
  intro G am tk ab D ac;refine codeAny_extend_loopS (IK (A:=A.in1) hh I a tp aI ord).toS p _ ap _ ord.L 0 _ #[] am U (ND _) ab ac (ItemsOf.nil _) λc x B j al m=>?_;rw[Moved.eq_with j];erw[c.H,c.u,d,x,B,10,λb o e=>j.H b o (λan=>?_) (D b o (Nh (RP e)) (k2 b o (R8 _ e))),al,m];obtain J|an:=MY.mp an
  .exact Tn (RP e) (by simp!)
  .exact Tn (RP e) (by rw[MQ.mp an];exact Qn (M4 lI))
 let k:∀(r:Result)(c:ff),(∃ h' tk d x B,r=.ok (.ret (.ref s.H.M.J))/\c={s with heap:=h',toks:=tk,drawn:=d}/\(∀ b o,s.H.Q b=Z o->h'.Q b=Z o)/\h'.Q s.H.M.J=Z {cls:=.type "list",dict:=lf,data:=.seq x B,slots:=#[]}/\ItemsOf (λi v=>∃ t n,ord[i]?=Z n/\v=.int n t) x ord.L)->∃ v,r=.ok (.ret v)/\v=.ref s.H.M.J/\mi A (do
   let o ← load s.H.M.J
   match o.data with
   |.seq C _=>pure C.l
   |_=>unsupported "internal:collect") Q dO c:=λr c ⟨h',tk,d,x,B,f,y,D,H,m⟩=>⟨_,f,U,by
  subst y;refine R4 (wpAny_load H ?_)
  exact R7 (h h' tk d x ord D (RP H) q m)⟩
 let ac:=k2 _ _ H;let g2:SetG prog w O a l:=L.keeps λo e=>k2 _ _ e;refine R4 (R5 (IM (s:={s with heap:=O,drawn:=d}) g2.typ ?_));refine SA (λ_=>?_) (λ_=>R7 ⟨S6 OE _,Sm (aa _ 0 _ it (λb o _ e=>e) ac) λr av q'=>?_⟩);rotate_left
 .let v f y z:=k _ _ q'
  cases f
  cases y
  exact z
 refine R4 (wpAny_rule ?_);refine R4 ?_;show wpAny _ _ (S4 s.H.M.J (·.push .none) >>= λ_=>S4 s.H.M.J (·.pop)) _ _ _;refine R4 (S5 ac U ?_);let ah:=Ss (Sr (·.push eN.none)) ac U;refine S5 (hz:=by seq_fits) ah U ?_
 let ar:=Ss (Sr (·.pop)) ah U;let oth:∀ b o,b≠s.H.M.J->O.Q b=Z o->((O.update s.H.M.J (Sr (·.push eN.none))).update s.H.M.J (Sr (·.pop))).Q b=Z o:=λb o M e=>(Su _ _ (Ne.X M)).P ((Su _ _ (Ne.X M)).P e);refine R7 ⟨S6 OE _,Sm (aa _ _ _ (Fs it λb M o e=>oth b o (λz=>ap (z▸M)) e) oth ar) λr av q'=>?_⟩;let v f y z:=k _ _ q'
 cases f
 cases y
 exact z
end
section
variable{X:Cx}{pins:E (fc×ii)}{σ:E (j5 V)}{H:Hp}{s:ff}
theorem Inv.drew{d:Drawn}(I:Inv X pins σ H s):Inv X pins σ H {s with drawn:=d}:=⟨I.ok,I.os,I.bare,I.base,I.loc,I.cell,I.free,I.freeC,I.pin,I.hok,I.len⟩
def setO(P:hx)(w:ix)(a:fc)(l:E Y):HO:=.ext λh=>SetG P w h a l
inductive rSetI(P:hx)(w:ix)(K:MJ)(xs:E V)(H:L2.Hp)(Q:L2.VK):Prop
 |mk (p:fc)(ns:E Y) (_:xs=[.ref p])(_:pi p (ns.Z V.int))(_:ns.L+1<4096)(_:∀ a:fc,H a=lf->Q (.ref a) (upd H a (setO P w a (ns.foldl addN []))))
def GD(l:X.calm=kt)(b:X.i=P)(a:X.w=w)(c:X.K=K):iF X (.type "set") (rSetI P w K):=by
 subst b a c;intro pins s σ H D z Q I r h;let p i rfl n few q:=h;let u rfl A:=lu r
 cases A
 let d rv y j:=I.list n;let J:=nA rv;let M:=rv.L;rw[MI]at M;refine y8 (I.ok.hd l) y.isList J (by rw[NL,← M];exact few) λf m g k=>?_
 erw[.ref s.H.M.J,_,I.laid (t':=m) k (MN _) (show bC X.i X.w _ _ _ (setO X.i X.w s.H.M.J (i.foldl addN [])) from⟨g,?_,λeK O dO v=>dO.keeps v⟩),U,q _ (I.hok.fresh (MN _))];let o L B t dO r:=g;erw[o,dO]
def Js(ns:E Y):∀(l:E Y)(x:Y),x∈ns.foldl addN l↔x∈l∨x∈ns:=by
 induction ns with
 |nil=>intro l x;simp
 |cons n ns C=>
  intro l x;rw[Rl,C,MY];unfold addN;split
  .rename_i c;erw[λz=>z.elim .inl λy=>.inr (.inr y),λz=>z.elim .inl λy=>y.elim (λe=>.inl (e▸c)) .inr]
  .rw[Ng,MQ];lia
end
inductive rSortT(P:hx)(w:ix)(xs:E V)(H:L2.Hp)(Q:L2.VK):Prop
 |mk (a:fc)(ms:E Y) (_:xs=[.ref a])(_:H a=Z (setO P w a ms))(_:ms.L<64)(_:∀(l:fc)(out:E Y),H l=lf->(∀ x,x∈out↔x∈ms)->out.f (· < ·)->Q (.ref l) (upd H l (.lst (out.Z V.int))))
def Dg(l:X.calm=kt)(eP:X.i=P)(eW:X.w=w):iF X (.builtin "sorted") (rSortT P w):=by
 subst eP eW;intro B s L H C i Q I r h;let a ms rfl T al q:=h;let u rfl ru:=lu r
 cases ru
 let g _ _:=(show bC X.i X.w H s.H a (setO X.i X.w a ms) from I.hok a _ T);let g:SetG X.i X.w s.H a ms:=g;let nd:ms.h:=let ⟨_,_,_,_,_,_,_,_,_,nd,_,_,_,_⟩:=g;nd;refine Calls.call_function_entry kind_sorted plain_sorted entry_sorted (args_sorted1 _) ?_;unfold j0.«sorted»;refine R4 (m:=checkCount "sorted" 1 1 _) (R7 ?_);refine R4 (A0 (I.ok.hd l) g λh' tk d z ar D p pm aa=>?_);let J:Sw z.l ar:=by
  let all:∀(M:E eN)(ns:E Y),M.L=ns.L->(∀(j:R) v,M[j]?=Z v->∃ t n,ns[j]?=Z n/\v=.int n t)->Sw M ns:=λM=>by
   induction M with
   |nil=>intro ns e _;rw[OL e.X];exact .nil
   |cons v M dO=>
    intro ns e k
    cases ns with
    |nil=>cases e
    |cons n ns=>
     let t m f A:=k 0 v U
     cases f
     rw[A];exact .cons _ _ (dO ns (Qu e) λj v e=>k (j+1) v e)
  exact all _ _ (by rw[NB];exact aa.1) λj v e=>aa.2 j v (by simp!)
 let ab:z.l.L<=RO:=by
  rw[NB,aa.1,pm.length_eq];exact M4 (OW g.len ∅)
 refine R4 (SW ?_ ab);let ah:(h'.e (SU "list" z.l.toArray 0)).Q h'.M.J=Z (SU "list" z.l.toArray 0):=R9 _ U;show wpAny _ _ _ _ _ {s with heap:=h'.e (SU "list" z.l.toArray 0),toks:=tk,drawn:=d};let an:∀(out:kf eN)(b:fc)(o:ii),s.H.Q b=Z o->(sortedHeap (h'.e (SU "list" z.l.toArray 0)) h'.M.J z.l out).Q b=Z o:=λout b o e=>by
  let A:=D b o e;rw[sortedHeap_old (Nh (RP A)) (by rw[Sj];exact OB (RP A))]
  exact R8 _ A
 let ac:s.H.M.J<=h'.M.J:=M4 p;refine R4 (R5 (SH slot_list_sort ⟨_,ah,U⟩ entry_list_sort (list_sort_tree ah J (by rw[NB,aa.1,pm.length_eq];exact al) λout am c G a3=>⟨_,U,?_⟩) (args_list_sort _)))
 let e N:=sortedHeap_at (out:=out) ah;let ap:=G.P pm;refine R7 ⟨_,U,?_⟩;erw[.ref h'.M.J,_,(I.laid (t':=tk) (an out) ac (show bC X.i X.w _ _ _ (.lst (am.Z V.int)) from⟨?_,out.l,e,wH c,?_⟩)).drew,U,q _ am (I.hok.fresh ac) (λx=>ap.mem_iff) ?_]
 .rw[MI,ap.length_eq];exact M4 (OW g.len ∅)
 .exact N
 .exact(List.Pairwise.and a3 (ap.nodup_iff.mpr nd)).imp λ{x y} ⟨eK,O⟩=>by
   lia
end L2
namespace L2.C2
open PySem PySem.Spec PyProof.Rows
section
variable{prog:hx}{w:ix}{A:Around}{dO:eN->ff->Prop}{s:ff}{d:fc}
theorem yP{Q:j5 ii->ff->Prop}(h:Q (s.H.Q a) s):mi A (loadIfAlive a) Q dO s:=λb p c=>by
 show Sem.wp _ _ (.loadIfAlive a _) _ _ _ _;rw[Sem.wp_loadIfAlive];exact(R7 (M:=model prog w) (A:=A) (E:=dO) h) b p c
def ItAt(h:fo)(it d:fc)(i n ep:R):Prop:=∃ g p j f,h.Q it=Z {cls:=.type "dict_itemiterator",dict:=lf,data:=.fields #[g,p,.ref d,.int i 0,.int n 0,.int ep 0,j,f],slots:=#[]}/\((g=.none/\p=.bool k9)∨∃(a:fc)(o:ii),g=rawInt a/\h.Q a=Z o/\a≠it)
def ItAt.keep(x:ItAt h it d i n ep)(t:∀ o,h.Q it=Z o->h'.Q it=Z o)(k:∀ b o,b≠it->h.Q b=Z o->∃ C,h'.Q b=Z C):ItAt h' it d i n ep:=by
 let g p j f e c:=x;erw[g,p,j,f,t _ e,3];obtain c|⟨a,o,c1,c2,c3⟩:=c
 .exact .inl c
 .let C q:=k a o c3 c2;exact .inr ⟨a,C,c1,q,c3⟩
def Fq{es:kf DictEntry}{Q:j5 eN->ff->Prop}(t:ItAt s.H it d i es.J ep)(y:Ent s.H d es ep)(H:A.handled=lf)(hI:∀ e,es[i]?=Z e->∀ h',ItAt h' it d (i+1) es.J ep->h'.Q s.H.M.J=Z {cls:=.type "tuple",data:=.seq #[e.key,e.val]}->(∀ b o,b≠it->s.H.Q b=Z o->h'.Q b=Z o)->Q (Z (.ref s.H.M.J)) {s,h'})(hE:es[i]?=lf->∀ h',fo.ExtBut it s.H h'->Q lf {s,h'}):mi A (pyNext (.ref it)) Q dO s:=by
 let g p ok ov t c:=t;rcases c with⟨rfl,rfl⟩|⟨a,oa,rfl,ab,aa⟩
 .refine rj (ok:=ok) (ov:=ov) t y H (λe N h' j n z=>hI e N h' ⟨_,_,_,_,j,.inr ⟨s.H.M.J,_,U,n,?_⟩⟩ n z) hE;exact N9 (RP t)
 let o f l B:=y;let C:s.TypeIs (.ref it) "dict_itemiterator":=⟨_,t,U⟩;let own:SJ "dict_itemiterator"=kt:=by rfl
 unfold pyNext;refine R4 (wpAny_attempt (SK (name:=fI.ofString "__next__") C F.slot_dict_itemiterator_next (SH F.slot_dict_itemiterator_next C F.entry_dict_itemiterator_next ?_ (F.args_dict_itemiterator_next_1 _))));refine R4 (R7 (R4 (R4 (R4 (SM C (R7 ?_))))));refine R4 (wpAny_fieldsOf t U ?_);simp -iota only[own,if_true];show wpAny _ _ (if(eN.ref d == eN.none)=kt then _ else _) _ _ _;rw[Tj (show ¬ ((eN.ref d == eN.none)=kt) from Nr)];refine R4 (R7 (R4 (wpAny_dictEntries f B ?_)));rw[Tj ∅]
 refine R4 (R7 (R4 (wpAny_dictEpoch f B ?_)));rw[Tj ∅]
 refine R7 ?_;let n0:¬ ((i:Y)<0):=by lia
 simp only[n0,if_false,MU]
 cases N:es[i]? with
 |none=>
  refine R4 (R4 (SM C (R7 ?_)));show wpAny _ _ (setField (.ref it) 2 .none >>= _) _ _ s;refine R4 (wpAny_setField t U ∅ ?_)
  show wpAny _ _ (newExc (.type "StopIteration") [] >>= _) _ _ _;refine R4 ?_;simp only[newExc,newTuple];refine R4 (SG (R4 (m:=firstArgMember _ _) (wpAny_of_eq (a:=eN.none) (by rfl) (SG ?_ (by size_fits)))) (by size_fits))
  simp -iota only[raiseNew];refine R4 (wpAny_handled ?_);rw[show A.in1.handled=lf from H];refine R4 (R7 (wpAny_throw ?_));refine R4 (SD (T:="StopIteration") (b:=kt) ⟨_,R9 _ U,U⟩ isSubtype_stop (R7 ?_));exact hE N _ (((SN ..).U.e _).e _)
 |some e=>
  refine R4 (R4 (SM C (R7 ?_)));refine R4 (SO C ?_);show wpAny _ _ (setField (.ref it) 3 (rawInt ((i:Y)+1)) >>= _) _ _ s;refine R4 (SQ t ∅ λL j D=>?_)
  let c1:((i+1:R):Y)=(i:Y)+1:=by lia
  let J:L.Q it=Z {cls:=.type "dict_itemiterator",dict:=lf,data:=.fields #[rawInt a,p,.ref d,.int ((i+1:R):Y) 0,.int es.J 0,.int ep 0,ok,ov],slots:=#[]}:=by assumption
  let lt:it<s.H.M.J:=RP t;let k:L.M.J=s.H.M.J:=D.1;let O:ff.TypeIs {s,L} (.ref it) "dict_itemiterator":=⟨_,J,U⟩;refine R4 (R5 (R4 (SO O (R4 (SO O ?_)))));show wpAny _ _ (SR (.ref it) 6 e.key e.val) _ _ {s,L};unfold SR j0.Dict_items.ownedTupleIsFree;refine R4 (wpAny_newTuple ?_);let n:(L.e {cls:=.type "tuple",data:=.seq #[e.key,e.val]}).Q it=Z {cls:=.type "dict_itemiterator",dict:=lf,data:=.fields #[rawInt a,p,.ref d,.int ((i+1:R):Y) 0,.int es.J 0,.int ep 0,ok,ov],slots:=#[]}:=R8 _ J;let I:(L.e {cls:=.type "tuple",data:=.seq #[e.key,e.val]}).Q s.H.M.J=Z {cls:=.type "tuple",data:=.seq #[e.key,e.val]}:=by rw[← k];exact R9 _ U
  let u:∀ b o,b≠it->s.H.Q b=Z o->(L.e {cls:=.type "tuple",data:=.seq #[e.key,e.val]}).Q b=Z o:=λb o M q=>R8 _ (D.U b o M q);rw[k];generalize L.e {cls:=.type "tuple",data:=.seq #[e.key,e.val]}=v at n I u;show wpAny _ _ (_ >>= _) _ _ {s,v};let G:v.Q ((a:Y).R)=Z oa:=by rw[MU];exact u a oa aa ab
  refine R4 (R4 (wpAny_field n U (x:=rawInt a) U ?_));show wpAny _ _ (loadIfAlive ((a:Y).R) >>= _) _ _ {s,v};refine R4 (yP ?_);show wpAny _ _ (if((v.Q ((a:Y).R)).isNone)=kt then _ else _) _ _ _;rw[G,Tj (show ¬ (Z oa).isNone=kt from Nr)];let h:∀ eK,eK.Q it=Z {cls:=.type "dict_itemiterator",dict:=lf,data:=.fields #[rawInt a,.bool kt,.ref d,.int ((i+1:R):Y) 0,.int es.J 0,.int ep 0,ok,ov],slots:=#[]}->(∀ b o,b≠it->v.Q b=Z o->eK.Q b=Z o)->Q (Z (.ref s.H.M.J)) {s,eK}:=λeK z k3 =>
   hI e N eK ⟨_,_,_,_,z,.inr ⟨a,oa,U,k3 a oa aa (u a oa aa ab),aa⟩⟩ (k3 _ _ (N9 lt) I) λb o M q=>k3 b o M (u b o M q)
  refine R4 (wpAny_field n U (x:=p) U ?_);by_cases r:p=.bool kt
  .rw[Tj (by rw[r];decide)]
   refine R7 ?_;subst r;exact R7 (R7 ⟨_,U,R7 (h v n λb o _ q=>q)⟩)
  .rw[Ti (by simpa using r)]
   refine R4 (SQ n ∅ λeK z k3=>?_)
   exact R7 (R7 (R7 ⟨_,U,R7 (h eK z λb o M q=>k3.U b o M q)⟩))
def Jv(h₀ h:fo)(es:kf DictEntry)(f:kf eN)(i:R):Prop:=f.J=i/\∀(j:R)(v:eN),f[j]?=Z v->∃(t:fc)(e:DictEntry),v=.ref t/\es[j]?=Z e/\h₀.M.J<=t/\h.Q t=Z {cls:=.type "tuple",data:=.seq #[e.key,e.val]}
def Dr(f:kf eN):Prop:=f.l.h
def FZ{S:fc}{es:kf DictEntry}{res:eN}{h₀:fo}(hh:A.handled=lf)(T:es.J<=RO)(av:S≠it)(an:S≠d)(aL:d≠it):
  ∀(k i:R)(s:ff)(f:kf eN)(c:R),es.J-i=k->i<=es.J->ItAt s.H it d i es.J ep->Ent s.H d es ep->s.H.Q S=Z {cls:=.type "list",dict:=lf,data:=.seq f c,slots:=#[]}->Jv h₀ s.H es f i->Dr f->h₀.M.J<=s.H.M.J ->
  (∀ h' x c',(∀ b o,b≠S->b≠it->s.H.Q b=Z o->h'.Q b=Z o)->h'.Q S=Z {cls:=.type "list",dict:=lf,data:=.seq x c',slots:=#[]}->Jv h₀ h' es x es.J->Dr x->ad (.ok (.ret res)) {s,h'}) ->
  Si (model prog w) A (.builtin "list.extend.loop" ⟨[.ref S,.ref it,res],[]⟩) ad s:=by
 intro k;induction k with
 |zero=>
  intro i s f c D J ab y H g am aa G;let ac:i=es.J:=by lia
  subst ac;refine SY F.entry_extend_loop ?_;rw[S1 F.plain_extend_loop _];show wpAny _ A.in1 (pyNext (.ref it) >>= _) _ _ s;refine R4 (Fq ab y hh (λe N=>?_) λ_ h' q=>?_)
  .simp!
  .refine R7 (G h' f c (λb o _ M e=>q b o M e) (q S _ av H) ⟨g.1,λj v L=>?_⟩ am);let t e r u I a4:=g.2 j v L;erw[t,e,r,u,I,q t _ (λz=>?_) a4];let _ _ _ _ p _:=ab;rw[z,p]at a4;lia
 |succ k C=>
  intro i s f c D J ab y H g am aa G;refine SY F.entry_extend_loop ?_;rw[S1 F.plain_extend_loop _];show wpAny _ A.in1 (pyNext (.ref it) >>= _) _ _ s;refine R4 (Fq ab y hh (λe N h' dO n eK=>?_) λN=>Tn N (by simp!))
  let al:=eK S _ av H;let lt:it<s.H.M.J:=by let _ _ _ _ z _:=ab;exact RP z
  let aI:=RP H;show wpAny _ A.in1 (S4 S (·.push (.ref s.H.M.J)) >>= _) _ _ _;refine R4 ?_;let ar:∀ b,b≠S->∀ o,h'.Q b=Z o->(h'.update S (Sr (·.push (.ref s.H.M.J)))).Q b=Z o:=λb M o e=>(Su _ _ (Ne.X M)).P e;let m:∀(O:fo),(∀ b o,b≠S->h'.Q b=Z o->O.Q b=Z o)->Jv h₀ O es (f.e (.ref s.H.M.J)) (i+1):=λO B=>by
   erw[by rw[kf.size_push,g.1],λj v L=>?_]
   rw[kf.getElem?_push]at L;split at L
   .rename_i ej
    cases L
    rw[g.1]at ej;subst ej;erw[s.H.M.J,e,U,N,aa,B _ _ (N9 aI) n]
   .let t Q r u I a4:=g.2 j v L;let ti:t≠it:=λz=>by
     let _ _ _ _ p _:=ab;lia
    erw[t,Q,r,u,I,B t _ (λz=>?_) (eK t _ ti a4)];rw[z,H]at a4;lia
  let ap:Dr (f.e (.ref s.H.M.J)):=by
   unfold Dr;rw[QP];refine NP.mpr ⟨am,by simp,λa l b M e=>?_⟩
   rw[MQ.mp M]at e;subst e;let j L:=Nx l;let t Q r _ _ a4:=g.2 j _ (by rw[← NZ];exact L)
   cases r
   exact Ob _ (RP a4)
  refine S5 al U (R7 ⟨S6 F.plain_extend_loop _,C (i+1) _ (f.e (.ref s.H.M.J)) _ ∅ ∅ ?_ ?_ (Ss _ al U) (m _ λb o M e=>ar b M o e) ap ?_ λaS x c' m1 h m3 m4=>?_⟩)
   (by rw[g.1];lia) (by show(f.e _).J<=RO+1;rw[kf.size_push,g.1];lia)
  .exact dO.keep (λo e=>ar it (Ne.X av) o e) λb o _ e=>by
    by_cases z:b=S
    .rw[z];erw[_,Ss _ al U]
    .erw[o,ar b z o e]
  .let o r u I:=y;erw[o,ar d (Ne.X an) o (eK d o aL r),u,I]
  .show h₀.M.J<=(h'.update _ _).M.J;rw[SX];exact NH aa (M4 (RP n))
  .exact G aS x c' (λb o M ah e=>m1 b o M ah (ar b M o (eK b o ah e))) h m3 m4
def Cz{r:fc}{Q:ke->ff->Prop}(C:s.TypeIs (.ref r) "dict_items")(h:Q k9 s):mi A (Sz (.ref r)) Q dO s:=by
 unfold Sz;refine R4 (Sy C PySem.F.slot_dict_items_len.lookup ?_);generalize hid:("dict_items.__len__" : String)=a;wp_delta;rw[show splitId a=Z ("dict_items","__len__") from by subst hid;rfl]
 subst hid;refine R4 (SD (T:="dict_items") (b:=kt) C (by rfl) ?_)
 refine SA (λo=>Tn o ∅) (λ_=>?_)
 refine SA (λ_=>?_) (λo=>Tn (by rfl) o)
 refine R4 (wpAny_typeOf C ?_);exact R7 h
def CS{S r:fc}{es:kf DictEntry}{res:eN}(I:A.handled=lf)(t:s.H.IsItemsView r d)(y:Ent s.H d es ep)(p:es.J<=RO)(al:S≠r)(aa:S≠d)(H:s.H.Q S=Z {cls:=.type "list",dict:=lf,data:=.seq #[] N,slots:=#[]})(G:∀ h' x c',(∀ b o,b≠S->s.H.Q b=Z o->h'.Q b=Z o)->h'.Q S=Z {cls:=.type "list",dict:=lf,data:=.seq x c',slots:=#[]}->Jv s.H h' es x es.J->Dr x->ad (.ok (.ret res)) {s,h'}):
  mi A.in1 (Tf (.ref S) (.ref r) res)
   (λk s'=>match k with | .done f=>ad (.ok f) s' | .again c'=>c'.quiet=kt/\Si (model prog w) A c' ad s') (λe s'=>ad (.error e) s') s:=by
 let D ah am ap:=id t;let i L ab ac:=id y;let dl:d<s.H.M.J:=RP L;let ar:S≠s.H.M.J:=Nh (RP H);let B:∀(g:fo)(u m:R),ItAt g s.H.M.J d 0 es.J ep->(∀ b o,b≠S->s.H.Q b=Z o->g.Q b=Z o)->s.H.M.J<=g.M.J ->
   g.Q S=Z {cls:=.type "list",dict:=lf,data:=.seq #[] u,slots:=#[]}->m=s.u->Si (model prog w) A (.builtin "list.extend.loop" ⟨[.ref S,.ref s.H.M.J,res],[]⟩) ad {s with heap:=g,toks:=m}:=λg u m dO n l q4 O=>by
  subst O;refine FZ (h₀:=s.H) I p ar aa (Nh dl) es.J 0 _ #[] u (P9 _) (ND _) dO ⟨i,n d i (Ne.X aa) L,ab,ac⟩ q4 ⟨U,λj v e=>by simp at e⟩ (by unfold Dr;simp) l λh' x c' Q h m3 m4=>?_
  exact G h' x c' (λb o M e=>Q b o M (Nh (RP e)) (n b o M e)) h m3 m4
 unfold Tf;refine R4 (wpAny_typeOf (T:="dict_items") t.typeIs ?_);let eK:Tg (.ref S) (.ref r)=k9:=by simp[Tg,al]
 let nl:(eN.type "dict_items" == eN.type "list")=k9:=by rfl
 let nt:(eN.type "dict_items" == eN.type "tuple")=k9:=by assumption
 simp only[eK,nl,nt,O7,N8,if_false];refine R4 (BZ t y ?_);let c:=R8 {cls:=.type "dict_itemiterator",data:=.fields #[.none,.bool k9,.ref d,.int 0 0,.int es.J 0,.int ep 0,.none,.none]} H;let an:ItAt (s.H.e {cls:=.type "dict_itemiterator",data:=.fields #[.none,.bool k9,.ref d,.int 0 0,.int es.J 0,.int ep 0,.none,.none]}) s.H.M.J d 0 es.J ep:=
  ⟨_,_,_,_,R9 _ U,.inl ⟨U,U⟩⟩
 let a:∀ b o,s.H.Q b=Z o->(s.H.e {cls:=.type "dict_itemiterator",data:=.fields #[.none,.bool k9,.ref d,.int 0 0,.int es.J 0,.int ep 0,.none,.none]}).Q b=Z o:=λb o e=>R8 _ e;let big:s.H.M.J<=(s.H.e {cls:=.type "dict_itemiterator",data:=.fields #[.none,.bool k9,.ref d,.int 0 0,.int es.J 0,.int ep 0,.none,.none]}).M.J:=by simp
 let av:(⟨s.H.e {cls:=.type "dict_itemiterator",data:=.fields #[.none,.bool k9,.ref d,.int 0 0,.int es.J 0,.int ep 0,.none,.none]},s.gens,s.drawn,s.u,s.os⟩:ff).TypeIs (.ref r) "dict_items":=⟨D,a _ _ ah,am⟩;generalize s.H.e {cls:=.type "dict_itemiterator",data:=.fields #[.none,.bool k9,.ref d,.int 0 0,.int es.J 0,.int ep 0,.none,.none]}=J at c an a big av;refine R4 (R5 (Cz av ?_));refine SA (λ_=>?_) (λ_=>R7 ⟨S6 OE _,B J _ s.u an (λb o _ e=>a b o e) big c U⟩);refine R4 (wpAny_rule ?_);refine R4 ?_;show wpAny _ _ (S4 S (·.push .none) >>= λ_=>S4 S (·.pop)) _ _ _;refine R4 (S5 c U ?_);let q:=Ss (Sr (·.push eN.none)) c U;refine S5 (hz:=by seq_fits) q U ?_
 let C:=Ss (Sr (·.pop)) q U;let ne:∀ b,b≠S->∀ o,J.Q b=Z o->((J.update S (Sr (·.push eN.none))).update S (Sr (·.pop))).Q b=Z o:=λb M o e=>(Su _ _ (Ne.X M)).P ((Su _ _ (Ne.X M)).P e);refine R7 ⟨S6 OE _,B _ _ s.u (an.keep (λo e=>ne _ (Ne.X ar) o e) λb o _ e=>?_) (λb o M e=>ne b M o (a b o e)) (by rw[SX,SX];exact big) C U⟩
 by_cases z:b=S
 .rw[z];erw[_,C]
 .erw[o,ne b z o e]
end
end L2.C2
namespace L2
open PySem PySem.Spec PyProof.Rows
section
open PySem.W
variable{f:R->Y}{n:R}
def QOk{α:Type}(f:R->Y)(n:R):KasT α->(α->Prop)->Prop
 |.ret a,P=>P a
 |.ask i j k,P=>i<n/\j<n/\∀ b:ke,(b=kt->f i<=f j)->(b=k9->f j<=f i)->QOk f n (k b) P
theorem QOk.bind{α j:Type}{g:α->KasT j}{P:j->Prop}:∀{t:KasT α},QOk f n t (λa=>QOk f n (g a) P)->QOk f n (t.bind g) P
 |.ret _,h=>h
 |.ask _ _ _,h=>⟨h.1,h.2.1,λb x y=>QOk.bind (h.2.2 b x y)⟩
theorem QOk.imp{α:Type}{P c:α->Prop}(G:∀ a,P a->c a):∀{t:KasT α},QOk f n t P->QOk f n t c
 |.ret _,h=>G _ h
 |.ask _ _ _,h=>⟨h.1,h.2.1,λb x y=>QOk.imp G (h.2.2 b x y)⟩
theorem QOk.wp{α:Type}{P:α->Prop}{s:ff}{c:R->R->(ke->ff->Prop)->ff->Prop}{Q:α->ff->Prop}(J:∀ i j C,i<n->j<n->(∀ b:ke,(b=kt->f i<=f j)->(b=k9->f j<=f i)->C b s)->c i j C s)(g:∀ a,P a->Q a s):∀{t:KasT α},QOk f n t P->t.kasWp c Q s
 |.ret _,h=>g _ h
 |.ask i j k,h=>J i j _ h.1 h.2.1 λb x y=>QOk.wp J g (h.2.2 b x y)
def Pmn(n:R)(p:kf R):Prop:=p.Perm (Nf n).toArray
def Pmn.size{p:kf R}(h:Pmn n p):p.J=n:=by rw[kf.Perm.size_eq h];simp
def Pmn.lt{p:kf R}(h:Pmn n p)(hi:i<n):p.v i 0<n:=by
 let:p.v i 0=p[i]'(by rw[h.J];exact hi):=by simp[QR,h.J,hi]
 rw[this];let:=(Rq.mp h).mem_iff.mp (kf.getElem_mem_toList (by rw[h.J];exact hi))
 simp!
def kyA(f:R->Y)(p:kf R)(i:R):Y:=f (p.v i 0)
def xF{p q:kf R}(h:p[i]?=q[j]?):kyA f p i=kyA f q j:=by
 unfold kyA;simp[*]
def Sin(f:R->Y)(p:kf R)(m:R):Prop:=∀ i j,i<=j->j<m->kyA f p i<=kyA f p j
def Nin(f:R->Y)(p:kf R)(m:R):Prop:=∀ i j,i<=j->j<m->kyA f p j<=kyA f p i
theorem Sin.up{p:kf R}(h:Sin f p m)(c:kyA f p (m-1)<=kyA f p m):Sin f p (m+1):=λi j eK O=>by
 by_cases z:j<m
 .exact h i j eK z
 .let e:j=m:=by lia
  by_cases y:i=j
  .rw[y];exact N6 _
  .let:=h i (m-1) ∅ ∅
   rw[e];lia
theorem Nin.up{p:kf R}(h:Nin f p m)(c:kyA f p m<=kyA f p (m-1)):Nin f p (m+1):=λi j eK O=>by
 by_cases z:j<m
 .exact h i j eK z
 .let e:j=m:=by lia
  by_cases y:i=j
  .rw[y];exact N6 _
  .let:=h i (m-1) ∅ ∅
   rw[e];lia
def xE{p:kf R}(L:j<=p.J)(k:R):kyA f (kas_rev p i j) k=if i<=k/\k<j then kyA f p (i+j-1-k) else kyA f p k:=by
 let e:=getElem?_mirror_all (i:=i) L k;split
 .rw[Ti (by assumption)]at e;exact xF e
 .rw[Tj (by assumption)]at e;exact xF e
theorem Pmn.rev{p:kf R}(h:Pmn n p)(i j:R):Pmn n (kas_rev p i j):=kf.Perm.trans (mirror_perm _ _ _ _) h
theorem Ln{p:kf R}(h:Pmn n p):∀ g m,1<=m->m+g<=n->Sin f p m->QOk f n (kas_asc p g m) λr=>m<=r/\r<=m+g/\Sin f p r/\(r<m+g->kyA f p r<=kyA f p (r-1))
 |0,m,_,_,s=>⟨MN _,MN _,s,λz=>Tn z (Ob _)⟩
 |g+1,m,Q,k,s=>⟨h.lt ∅,h.lt ∅,λb x y=>by
  cases b with
  |true=>exact⟨MN _,Ot ..,s,λ_=>x U⟩
  |false=>exact(Ln h g (m+1) ∅ ∅ (s.up (y U))).imp λr z=>⟨∅,∅,z.2.2.1,λw=>z.2.2.2 ∅⟩⟩
def Rnq(f:R->Y)(p:kf R)(m q:R):Prop:=∀ i,m-(q+1)<=i->i<m->kyA f p i=kyA f p (m-1)
def Rnq.rev{p:kf R}{q:R}(h:Rnq f p m q)(y:m<=p.J)(k:R):kyA f (kas_rev p (m-(q+1)) m) k=kyA f p k:=by
 rw[xE y];split
 .rw[h k ∅ ∅,h _ ∅ ∅]
 .rfl
structure Dsq(f:R->Y)(n m:R)(r:kf R×R×R):Prop where
 p:Pmn n r.1
 a:m<=r.2.1
 b:r.2.1<=n
 s:Nin f r.1 r.2.1
 q:Rnq f r.1 r.2.1 r.2.2
theorem Bw:∀ g p m q,1<=m->m+g<=n->Pmn n p->Nin f p m->Rnq f p m q->QOk f n (kas_desc g p m q) (Dsq f n m)
 |0,p,m,q,_,k,h,s,e=>⟨h,MN _,k,s,e⟩
 |g+1,p,m,q,Q,k,h,s,e=>⟨h.lt ∅,h.lt ∅,λb x y=>by
  let up:∀{r},Dsq f n (m+1) r->Dsq f n m r:=λz=>⟨z.p,by let:=z.a;lia,z.b,z.s,z.q⟩
  cases b with
  |true=>
   let one:∀ B:kf R,Rnq f B (m+1) 0:=λB i eK O=>by grind
   show QOk f n (if q > 0 then _ else _) _;split
   .refine(Bw g _ (m+1) 0 ∅ ∅ (h.rev _ _) ?_ (one _)).imp λr=>up
    let l:=e.rev (by rw[h.J];lia)
    let t:=s.up (x U);exact λi j eK O=>by rw[l,l];exact t i j eK O
   .exact(Bw g p (m+1) 0 ∅ ∅ h (s.up (x U)) (one _)).imp λr=>up
  |false=>exact⟨h.lt ∅,h.lt ∅,λd u v=>by
    cases d with
    |true=>exact⟨h,MN _,by grind,s,e⟩
    |false=>
     refine(Bw g p (m+1) (q+1) ∅ ∅ h (s.up (v U)) λi eK O=>?_).imp λr=>up
     let N:kyA f p (m-1)=kyA f p m:=Rm (y U) (v U);by_cases c:i=m
     .simp!
     .rw[e i ∅ ∅];exact N⟩⟩
structure Cnq(f:R->Y)(n:R)(r:R×kf R):Prop where
 p:Pmn n r.2
 a:1<=r.1
 b:r.1<=n
 s:Sin f r.2 r.1
def JV{p:kf R}(h:Pmn n p)(Q:1<=m)(k:m<=n)(s:Nin f p m):QOk f n (kas_tail3 m n p) (Cnq f n):=by
 refine QOk.bind ((Ln (h.rev 0 m) (n-m) m Q ∅ λi j eK O=>?_).imp λr z=>⟨h.rev 0 m,by lia,∅,z.2.2.1⟩)
 rw[xE (by rw[h.J];exact k),xE (by rw[h.J];exact k),Ti ∅,Ti ∅]
 exact s _ _ ∅ ∅
def JW{p:kf R}(h:Pmn n p)(k:m<n)(s:Nin f p (m+1)):QOk f n (kas_descPart m n p) (Cnq f n):=by
 refine QOk.bind ((Bw (n-(m+1)) p (m+1) 0 ∅ ∅ h s λi eK O=>by grind).imp λr z=>?_)
 let b d a I v:=z;show QOk f n (if r.2.2 > 0 then _ else _) _;split
 .refine JV (b.rev _ _) ∅ a λi j eK O=>?_
  rw[v.rev (by rw[b.J];exact a),v.rev (by rw[b.J];exact a)]
  exact I i j eK O
 .exact JV b ∅ a I
def Lm{p:kf R}(T:2<=n)(h:Pmn n p):QOk f n (kas_count n p) (Cnq f n):=by
 refine QOk.bind ((Ln h (n-1) 1 (MN _) ∅ λi j eK O=>by simp!).imp λm z=>?_)
 let d a I g:=z;show QOk f n (if(m == n)=kt then _ else if m > 1 then _ else _) _;split
 .erw[h,d,by lia,I]
 .rename_i c;let k:m<n:=by lia
  let c0:=g ∅
  split
  .erw[h.lt ∅,h.lt ∅,λb x y=>?_]
   cases b with
   |true=>exact⟨h,d,by show m<=n;lia,I⟩
   |false=>
    let e:∀ i,i<m->kyA f p i=kyA f p 0:=λi J=>Rm (Qy (I i (m-1) ∅ ∅) (y U)) (I 0 i (ND _) J)
    refine JW (h.rev 0 m) k λi j eK O=>?_;rw[xE (by rw[h.J];lia),xE (by rw[h.J];lia)]
    by_cases c1:j<m
    .rw[Ti ∅,Ti ∅,e (0+m-1-j) ∅,e (0+m-1-i) ∅];exact N6 _
    .grind
  .let e:m=1:=by lia
   subst e;exact JW h k λi j eK O=>by
    rcases(show i=j∨(i=0/\j=1) by lia)with z|⟨z,y⟩
    .rw[z];exact N6 _
    .rw[z,y];exact c0
theorem zv{p:kf R}{k:R}(h:Pmn n p)(c:k<n)(s:Sin f p k):∀ g l r,l<=r->r<=k->r-l<=g->(∀ i,i<l->kyA f p i<=kyA f p k)->(∀ i,r<=i->i<k->kyA f p k<=kyA f p i) ->
  QOk f n (kas_place p k g l r) λl=>l<=k/\(∀ i,i<l->kyA f p i<=kyA f p k)/\∀ i,l<=i->i<k->kyA f p k<=kyA f p i
 |0,l,r,eK,O,G,lo,J=>⟨∅,lo,λi a b=>J i ∅ b⟩
 |g+1,l,r,eK,O,G,lo,J=>by
  show QOk f n (if l ≥ r then _ else _) _;split
  .erw[4,lo,λi a b=>J i ∅ b]
  .erw[h.lt c,h.lt ∅,λb x y=>?_]
   cases b with
   |true=>exact zv h c s g _ _ ∅ ∅ ∅ lo λi a b=>Qy (x U) (s _ _ a b)
   |false=>exact zv h c s g _ _ ∅ ∅ ∅ (λi a=>Qy (s i ((l+r)/2) ∅ ∅) (y U)) J
theorem q_bin:∀ g p k,Pmn n p->k+g=n->Sin f p k->QOk f n (kas_bin g p k) λr=>Pmn n r/\Sin f r n
 |0,p,k,h,e,s=>⟨h,by rw[← e];exact s⟩
 |g+1,p,k,h,e,s=>QOk.bind ((zv h ∅ s k 0 k (ND _) (MN _) ∅ (λi z=>Tn z (NM _)) λi a b=>Tn a ∅).imp λl z=>by
  refine q_bin g _ (k+1) (kf.Perm.trans (bubble_perm _ _ _) h) ∅ ?_
  let m lo J:=z;let o:∀ i,kyA f (bubble p k (k-l)) i=if i=l then kyA f p k else if l<i/\i<=k then kyA f p (i-1) else kyA f p i:=λi=>by
   let e:=getElem?_bubble (show k<p.J by rw[h.J];lia) (k-l) ∅ i
   rw[show k-(k-l)=l by lia]at e
   by_cases c:i=l
   .rw[Ti c]at e ⊢;exact xF e
   .rw[Tj c]at e ⊢;by_cases d:l<i/\i<=k
    .rw[Ti d]at e ⊢;exact xF e
    .rw[Tj d]at e ⊢;exact xF e
  intro i j eK O;rw[o,o];repeat' split
  all_goals first
   | (lia)
   |exact N6 _
   |exact lo _ ∅
   |grind
   |exact s _ _ ∅ ∅)
def q_sort(f:R->Y)(T:2<=n):QOk f n (kas_sort n) λp=>Pmn n p/\Sin f p n:=by
 refine QOk.bind ((Lm T (kf.Perm.refl _)).imp λr z=>?_);let b d a I:=z;show QOk f n (if r.1<n then _ else _) _;split
 .rw[show max r.1 1=r.1 by lia]
  exact q_bin _ _ _ b ∅ I
 .erw[b,by rw[show n=r.1 by lia];exact I]
end
section
open PySem.W
variable{prog:hx}{w:ix}{A:Around}{dO:eN->ff->Prop}{s:ff}
def prOf(h:fo):eN->Y×Y
 |.ref a=>match h.Q a with
  |some o=>match o.data with
   |.seq D _=>match(D[0]? : j5 eN),(D[1]? : j5 eN) with
    |some (.int x _),Z (.int y _)=>(x,y)
    |_,_=>(0,0)
   |_=>(0,0)
  |none=>(0,0)
 |_=>(0,0)
def zC{x y:Y}{i ty:Tok}(eK:h.Q a=Z o)(G:o.data=.seq #[.int x i,.int y ty] n):prOf h (.ref a)=(x,y):=by
 unfold prOf;simp only[eK,G];rfl
def fiV(h:fo)(v:eN):Y:=(prOf h v).1
def BW{x y:Y}{i ty:Tok}(eK:h.Q a=Z o)(G:o.data=.seq #[.int x i,.int y ty] n):fiV h (.ref a)=x:=by
 unfold fiV;rw[zC eK G]
def prv_lo{v:eN}{b:ke}{Q:ke->ff->Prop}(f:PrV s.H u)(t:PrV s.H v)(M:b=kt)(h:∀ c:ke,(c=kt->fiV s.H u<=fiV s.H v)->(c=k9->fiV s.H v<=fiV s.H u)->Q c s):mi A (keyLt' (tuples' b) u v) Q dO s:=by
 let a o n x y i ty rfl eK O G:=f;let N C j m d k p rfl D B k3:=t;subst M;rw[BW eK G,BW D k3]at h;refine kat_lt eK G D k3 (kat_cons (wpAny_eqBool_int (kat_go (λe=>?_) λe=>kat_no (oneLt_int (h _ (λz=>Int.le_of_lt (S8 z)) λz=>Int.not_lt.mp (of_decide_eq_false z))))));let l:x=m:=by simpa using e
 let g:∀ c,Q c s:=λc=>h c (λ_=>by rw[l];exact N6 _) λ_=>by rw[l];exact N6 _
 exact kat_yes (kat_cons (wpAny_eqBool_int (kat_go (λ_=>kat_yes (kat_nil (g _))) λ_=>kat_no (kat_one _ _ (PyProof.Rows.lt_int (show PySem.W.BoolBack Q (.bool _) s from g _))))))
def BV{v:eN}(p:PrV h v)(k:∀ b o,v=.ref b->h.Q b=Z o->h'.Q b=Z o):fiV h' v=fiV h v:=by
 let a o n x y i ty rfl eK _ G:=p;rw[BW eK G,BW (k _ _ U eK) G]
def yX{P:PySem.Fin->ff->Prop}(D:s.H.Q a=Z (SU "list" vs.toArray n))(m:∀ v∈vs,PrV s.H v)(al:vs.L<64)(h:∀ out:E eN,out.Perm vs->out.f (λu v=>fiV s.H u<=fiV s.H v)->P (.done (.ret .none)) {s,sortedHeap s.H a vs out.toArray}):mi A (j0.«list.sort» ⟨[.ref a],[]⟩) P dO s:=by
 let line:vs.L<=RO:=by rw[sizeLine_eq];lia
 let N av:∃ N,(s.H.update a (Sr λ_=>(#[]:kf eN))).Q a=Z (SU "list" #[] N):=⟨_,SV D λ_=>#[]⟩;let an:(((s.H.update a (Sr λ_=>(#[]:kf eN))).e (SU "tuple" vs.toArray 0)).e (SU "list" #[] 0)).Q a=Z (SU "list" #[] N):=R8 _ (R8 _ av);let ar:∀ v∈vs,∀ b o,v=.ref b->s.H.Q b=Z o->(((s.H.update a (Sr λ_=>(#[]:kf eN))).e (SU "tuple" vs.toArray 0)).e (SU "list" #[] 0)).Q b=Z o:=λv t b o eb e=>by
  refine R8 _ (R8 _ ?_);let nb:b≠a:=λz=>by
   let a' o' n' x y tx ty rfl I k2 _:=m v t;lia
  rw[fo.get?_update_ne _ _ _ _ nb];exact e
 let am:=λv t=>(m v t).keep (ar v t);let ah:=λv t=>BV (m v t) (ar v t);clear ar;rw[list_sort_plain];refine R4 (listItems_at D U (R4 (listUpdate_at D U (R4 (seqEpoch_at av U (R4 (wpAny_newTuple (R4 (SW (R5 ?_) (ND _))) line)))) ∅ (ND _))))
 show mi A _ P dO {s,((s.H.update a (Sr λ_=>(#[]:kf eN))).e (SU "tuple" vs.toArray 0)).e (SU "list" #[] 0)};let d:∀ out:E eN,sortedHeap s.H a vs out.toArray=(((s.H.update a (Sr λ_=>(#[]:kf eN))).e (SU "tuple" vs.toArray 0)).e (SU "list" #[] 0)).update a (Sr λ_=>out.toArray):=λ_=>rfl;generalize ((s.H.update a (Sr λ_=>(#[]:kf eN))).e (SU "tuple" vs.toArray 0)).e (SU "list" #[] 0)=h6 at an am d ah;dsimp only;by_cases O:vs.toArray.J<2
 .rw[Ti O,Ti O];refine R4 (R7 ?_);rw[StateT.run_pure];refine R4 (R7 (R4 (seqEpoch_at an U ?_)));dsimp only;let eo:(arrOf (SortSt.mk' general' (vs.toArray.zip vs.toArray) #[] 7 lf)).Z (·.2)=vs.toArray:=by
   show(vs.toArray.zip vs.toArray).Z (·.2)=vs.toArray;apply kf.ext
   .simp
   .intro i eK O;simp
  rw[eo];refine R4 (listUpdate_at an U ?_ (ND _) (by rw[NL];exact OQ line))
  simp only[bne_self_eq_false,N8,if_false];refine R7 ?_;rw[NL]at O;let:=h vs (List.Perm.refl _) (NW.mpr λi j J L ap=>by lia)
  rw[d]at this;exact this
 .rw[Tj O,Tj O];rw[NL]at O;let fs f1 H f3:=Bz (s:={s,h6}) (M:=model prog w) am;refine R4 (kat_kind f1 ∅ f3 ∅ ?_)
  let aI:(eN.type "int" != eN.type "tuple")=kt:=by rfl
  let ac:∀ i,i<vs.L->vs.v i eN.none∈vs:=λi J=>by simp[*]
  refine R4 (RW (kat_run (ks:=vs) (vs:=vs) (Q:=λab l=>l={s,h6}/\failedOf ab=lf/\∃ p:kf R,(Pmn vs.L p/\Sin (λi=>fiV h6 (vs.v i eN.none)) p vs.L)/\arrOf ab=p.Z (kas_item (vs.toArray.zip vs.toArray))) (G:=λp l=>l={s,h6}/\Pmn vs.L p/\Sin (λi=>fiV h6 (vs.v i eN.none)) p vs.L) U ∅ al (λp ab l r q a3 a4=>⟨a4.1,a3,p,a4.2,q⟩) (QOk.wp (f:=λi=>fiV h6 (vs.v i eN.none)) (λi j C J L hC=>?_) (λp g=>⟨U,g⟩) (q_sort _ ∅))) ?_ λ_ _ e=>e)
  .exact prv_lo (am _ (ac i J)) (am _ (ac j L)) aI hC
  rintro⟨⟨⟩,ab⟩ l ⟨rfl,B,p,⟨aa,T⟩,aS⟩;dsimp only;let aL:=kat_snds (ks:=vs) (vs:=vs) U aS;rw[aL];let k:(p.l.Z λi=>vs.v i eN.none).Perm vs:=by
   let z:=(Rq.mp aa).Z λi=>vs.v i eN.none
   rwa[show(Nf vs.L).toArray.l.Z (λi=>vs.v i eN.none)=vs from Pp λi=>by
    show((Nf vs.L).Z _)[i]?=_;rw[MO];by_cases c:i<vs.L
    .simp[*]
    .simp[*]]at z
  refine R4 (seqEpoch_at an U (R4 (listUpdate_at an U ?_ (ND _) (by rw[NL,k.length_eq];exact OQ line))))
  rw[B];simp only[bne_self_eq_false,N8,if_false];refine R7 ?_
  let:=h _ k (OC.mpr (NW.mpr λi j J L ap=>by
   rw[NB,aa.J]at J L;let z:fiV h6 _<=fiV h6 _:=T i j (M4 ap) L;let ei:∀ i (J:i<p.l.L),p.v i 0=p.l[i]:=λi J=>by
    rw[NB]at J;simp[QR,J]
   rw[ah _ (ac _ (aa.lt J)),ah _ (ac _ (aa.lt L)),ei,ei]at z
   exact z))
  rw[d]at this;exact this
def ug{l:fc}(hl:s.H.IsList l vs.toArray)(G:∀ v∈vs,PrV s.H v)(c:vs.L<64)(h:∀ out:E eN,out.Perm vs->out.f (λu v=>fiV s.H u<=fiV s.H v)->Q (.ref (s.H.M.J+1)) {s,sortedAll s.H vs out.toArray}):mi A (call (.builtin "sorted") [.ref l]) Q dO s:=by
 refine Calls.call_function_entry kind_sorted plain_sorted entry_sorted (args_sorted1 _) ?_;unfold j0.«sorted»;refine R4 (m:=checkCount "sorted" 1 1 _) (R7 ?_);refine R4 (collect_list hl ?_ (by rw[sizeLine_eq];lia))
 refine R4 (SW ?_ (by rw[sizeLine_eq];lia))
 let d:((s.H.e (SU "list" #[] 0)).update s.H.M.J (Sr (·++vs.toArray))).M.J=s.H.M.J+1:=by simp
 let a:(((s.H.e (SU "list" #[] 0)).update s.H.M.J (Sr (·++vs.toArray))).e (SU "list" vs.toArray 0)).Q (s.H.M.J+1)=Z (SU "list" vs.toArray 0):=by rw[← d];exact R9 _ U
 show wpAny _ _ _ _ _ {s,((s.H.e (SU "list" #[] 0)).update s.H.M.J (Sr (·++vs.toArray))).e (SU "list" vs.toArray 0)};rw[d];let i:∀(b:fc)(o:ii),s.H.Q b=Z o->(((s.H.e (SU "list" #[] 0)).update s.H.M.J (Sr (·++vs.toArray))).e (SU "list" vs.toArray 0)).Q b=Z o:=λb o q=>by
  let O:b<s.H.M.J:=RP q;rw[fo.get?_push_ne _ _ _ (by rw[d];exact Nh (OB O)),fo.get?_update_ne _ _ _ _ (Nh O),fo.get?_push_ne _ _ _ (Nh O)]
  exact q
 refine R4 (R5 (SH slot_list_sort ⟨_,a,U⟩ entry_list_sort (yX a (λv t=>(G v t).keep λb o _ q=>i b o q) c λout r g=>⟨_,U,?_⟩) (args_list_sort _)));let e:=λv t=>BV (G v t) λb o _ q=>i b o q;exact R7 ⟨_,U,h out r (RD (λ{u v} f t q=>by rw[← e u (r.mem_iff.mp f),← e v (r.mem_iff.mp t)];exact q) g)⟩
end
def PAt(H:Hp)(ys:E V)(ps:E (Y×Y)):Prop:=ys.L=ps.L/\∀(i:R)(p:Y×Y),ps[i]?=Z p->∃ t,ys[i]?=Z (.ref t)/\H t=Z (.tup [.int p.1,.int p.2])
theorem PAt.mono{ps:E (Y×Y)}(h:PAt H ys ps)(s:∀ b o,H b=Z o->H' b=Z o):PAt H' ys ps:=⟨h.1,λi p e=>by
 let t a b:=h.2 i p e
 erw[t,a,s _ _ b]⟩
theorem PAt.nil(H:Hp):PAt H [] []:=⟨U,λi p e=>by simp at e⟩
theorem PAt.app{ps qs:E (Y×Y)}(h:PAt H ys ps)(g:PAt H zs qs):PAt H (ys++zs) (ps++qs):=⟨by rw[MP,MP,h.1,g.1],λi p e=>by
 by_cases c:i<ps.L
 .rw[MT c]at e;let t a b:=h.2 i p e;erw[t,by rw[MT (by grind)];exact a,b]
 .rw[MR ∅]at e
  let t a b:=g.2 _ p e
  erw[t,by rw[MR (by let:=h.1;lia),h.1];exact a,b]⟩
theorem PAt.one{t:fc}{p:Y×Y}(h:H t=Z (.tup [.int p.1,.int p.2])):PAt H [.ref t] [p]:=⟨U,λi q e=>by
 match i,e with
 |0,e=>cases e;erw[t,U,h]⟩
theorem PAt.rev{ps:E (Y×Y)}(h:PAt H ys ps):PAt H ys.y ps.y:=⟨by rw[O4,O4,h.1],λi p e=>by
 let J:=(MF.mp e).1;rw[O4]at J;rw[OX J]at e;let t a b:=h.2 _ p e
 erw[t,by rw[OX (by rw[h.1];exact J),h.1];exact a,b]⟩
inductive rSortQ(K:MJ)(xs:E V)(H:L2.Hp)(Q:L2.VK):Prop
 |mk (p:fc)(ys:E V)(ps:E (Y×Y)) (_:xs=[.ref p])(_:pi p ys)(_:PAt H ys ps)(_:ys.L<64)(_:∀(l:fc)(out:E V)(ps':E (Y×Y)),H l=lf->ps'.Perm ps->ps'.f (λa b=>a.1<=b.1)->PAt H out ps'->Q (.ref l) (upd H l (.lst out)))
def Dh:iF X (.builtin "sorted") (rSortQ X.K):=by
 intro B s L H D f Q I r h;let p k ps rfl c hL am q:=h;let u rfl ru:=lu r
 cases ru
 let d rv C A:=I.list c;let M:=rv.L;let ah:∀(i:R)(v:eN),d[i]?=Z v->∃(a:fc)(o:ii)(n:R)(tx ty:Tok)(r:Y×Y),v=.ref a/\ps[i]?=Z r/\k[i]?=Z (.ref a)/\H a=Z (.tup [.int r.1,.int r.2])/\s.H.Q a=Z o/\o.cls=.type "tuple"/\o.data=.seq #[.int r.1 tx,.int r.2 ty] n:=λi v t=>by
  let J:i<d.L:=(MF.mp t).1;let an g:∃ r,ps[i]?=Z r:=⟨_,MG (by let:=hL.1;lia)⟩
  let a ya l:=hL.2 i an g;let v' al aa:=rv.get ya;rw[t]at al
  cases al
  cases (show v=eN.ref a from aa)
  let _ ac m ob b1 b2 nb b3:=(show bC X.i X.w H s.H a (.tup [.int an.1,.int an.2]) from I.hok a _ l);let u1 u2 rfl{t1 rfl}{t2 rfl}:=G4 m;erw[a,ob,nb,t1,t2,an,U,g,ya,l,b1,b2,b3]
 let ap:∀ v∈d,∃ i,d[i]?=Z v:=λv t=>Nx t;let av:∀ v∈d,PrV s.H v:=λv t=>by
  let i J:=ap v t;let a o n tx ty r rfl g _ _ eK O G:=ah i v J;erw[a,o,n,r.1,r.2,tx,ty,U,eK,O,G]
 let aI:∀(i:R)(v:eN)(r:Y×Y),d[i]?=Z v->ps[i]?=Z r->prOf s.H v=r:=λi v r t g=>by
  let a o n tx ty r' rfl ab _ _ eK O G:=ah i v t;rw[g]at ab
  cases ab
  exact zC eK G
 refine ug C.isList av ∅ λout pm up=>?_
 let ar:d.Z (prOf s.H)=ps:=by
  refine Pp λi=>?_;rw[MO];by_cases J:i<d.L
  .let r g:∃ r,ps[i]?=Z r:=⟨_,MG (by let:=hL.1;lia)⟩
   rw[g,MG J];show Z _=_;rw[aI i _ r (MG J) g]
  .rw[N3 ∅,N3 (by let:=hL.1;lia)]
   rfl
 let T r3 l3 m3:=wG rv (out:=out) λv t=>pm.mem_iff.mp t;let e N:=sortedAll_at s.H d out.toArray
 let LO:PAt H T (out.Z (prOf s.H)):=⟨by rw[l3,MI],λi r g=>by
  rw[MO]at g;let v t rfl:=MZ.mp g;let j x:=ap v (pm.mem_iff.mp (MH t));let a o n tx ty r' rfl ab _ l eK O G:=ah j v x;let y dO:∃ y,T[i]?=Z y:=⟨_,MG (by rw[l3];exact(MF.mp t).1)⟩
  let v' al aa:=r3.get dO;rw[t]at al
  cases al
  erw[a,3,by rw[zC eK G];exact l]
  rw[dO]
  cases y with
  |ref b=>cases (show eN.ref a=eN.ref b from aa);rfl
  |int _=>obtain⟨_,z⟩:=aa;cases z
  |str _=>obtain⟨_,z⟩:=aa;cases z
  |byt _=>obtain⟨_,z⟩:=aa;cases z
  |flt _=>obtain⟨_,z⟩:=aa;cases z
  |non=>cases aa
  |bl _=>cases aa
  |ty _=>cases aa⟩
 let pr:(out.Z (prOf s.H)).Perm ps:=by
  let:=pm.Z (prOf s.H);rwa[ar]at this
 let pw:(out.Z (prOf s.H)).f (λa b=>a.1<=b.1):=OC.mpr up;erw[.ref (s.H.M.J+1),_,I.laid (t':=s.u) (λ_ _=>sortedAll_old) (OH _) (show bC X.i X.w _ _ _ (.lst T) from⟨?_,out,e,r3,N⟩),U,q _ T _ (I.hok.fresh (OH _)) pr pw LO];let:=pm.length_eq;exact M4 (ax ∅)
end L2
namespace L2.C2
open PySem PySem.Spec PyProof.Rows
section
variable{prog:hx}{w:ix}{A:Around}{dO:eN->ff->Prop}{s:ff}{d:fc}
def list_itemsT{r:fc}{es:kf DictEntry}(I:A.handled=lf)(G:s.H.IsItemsView r d)(y:Ent s.H d es ep)(T:es.J<=RO)(N:∀ h' x c',(∀ b o,s.H.Q b=Z o->h'.Q b=Z o)->h'.Q s.H.M.J=Z {cls:=.type "list",dict:=lf,data:=.seq x c',slots:=#[]}->(x.J=es.J/\∀(j:R)(v:eN),x[j]?=Z v->∃(t:fc)(e:DictEntry),v=.ref t/\es[j]?=Z e/\s.H.M.J<t/\h'.Q t=Z {cls:=.type "tuple",data:=.seq #[e.key,e.val]})->x.l.h->Q (.ref s.H.M.J) {s,h'}):
  mi A (call (.type "list") [.ref r]) Q dO s:=by
 let z B M eK:=id G;let i h p u:=id y;refine callType_codes (Q₁:=λf J=>f=.ref s.H.M.J/\J={s,s.H.e {cls:=.type "list",data:=.seq #[]}}) PySem.F.called_list (RH _) RI
  (code_list_new _ ⟨U,U⟩) λf J L=>?_
 let rfl rfl:=L;let H:(s.H.e {cls:=.type "list",data:=.seq #[]}).Q s.H.M.J=Z {cls:=.type "list",data:=.seq #[]}:=R9 _ U;let C:s.H.M.J≠r:=N9 (RP B);let m:s.H.M.J≠d:=N9 (RP h);erw[⟨_,H,U⟩,RB _ _,3];show wpAny _ _ (do let a ← Th (.ref s.H.M.J);j0.List.listUpdate (.ref s.H.M.J) (λ_=>#[]);letGo a.l.y;Tf (.ref s.H.M.J) (.ref r) .none) _ _ _
 refine R4 ?_;unfold Th;refine R4 (S2 H U (R7 ?_));show wpAny _ _ (S4 s.H.M.J (λ_=>#[]) >>= λ_=>letGo (#[]:kf eN).l.y >>= λ_=>Tf (.ref s.H.M.J) (.ref r) .none) _ _ _;refine R4 (S5 H U ?_);let q:=Ss (Sr (λ_=>(#[]:kf eN))) H U;let oth:∀ b o,s.H.Q b=Z o->((s.H.e {cls:=.type "list",data:=.seq #[]}).update s.H.M.J (Sr (λ_=>(#[]:kf eN)))).Q b=Z o:=
  λb o e=>(Su _ _ (N9 (RP e))).P (R8 _ e)
 refine R4 (SS ?_);refine CS (A:=A.in1) I ⟨z,oth _ _ B,M,eK⟩ ⟨i,oth _ _ h,p,u⟩ T C m q λh' x c' D k g O=>?_
 erw[U,N h' x c' (λb o e=>D b o (Nh (RP e)) (oth b o e)) k ⟨g.1,λj v G=>by
  let t e l n c x4:=g.2 j v G;erw[t,e,l,n,3,x4];rw[SX,size_push']at c
  exact c⟩ O]
end
end L2.C2
namespace L2.AT
open PySem PySem.Spec PyProof.Rows
section
variable{X:Cx}{pins:E (fc×ii)}{σ:St}{H H':Hp}{s:ff}{h':fo}
def Inv.many(I:Inv X pins σ H s)(k:∀ b o,s.H.Q b=Z o->h'.Q b=Z o)(T:∀ b,b<s.H.M.J->H' b=H b)(new:∀ b u,s.H.M.J<=b->H' b=Z u->bC X.i X.w H' h' b u):Inv X pins σ H' {s with heap:=h',toks:=t'}:=by
 let up:∀ b u,H b=Z u->H' b=Z u:=λb u e=>by rw[T b (I.hok.lt e)];exact e
 refine I.un ⟨λb o e n _ _=>k b o e,λb o e n _ _=>⟨o.slots,k b o e⟩,λb o e n _=>by rw[T b (RP e)];exact n,λb o e _=>⟨o,k b o e⟩,λb D e=>up b _ e,λb o u e=>up b _ e,λb N e=>⟨#[],by rw[up b _ e];simp⟩⟩ λb u e=>?_
 by_cases z:b<s.H.M.J
 .rw[T b z]at e;exact(I.hok b u e).stay (λc v _ q=>k c v q) (λc q=>up c _ q) λc D q=>up c _ q
 .exact new b u (Qo z) e
def IE{l:E (fc×α)}{x:α}(nd:(l.Z (·.1)).h)(h:(a,x)∈l):l.Y a=Z x:=by
 induction l with
 |nil=>cases h
 |cons p r C=>
  rw[NF,Nt]at nd;obtain e|h:=MY.mp h
  .subst e;simp[Ql]
  .let ne:(a == p.1)=k9:=beq_eq_false_iff_ne.mpr λz=>nd.1 (z▸Nc.mpr ⟨_,h,U⟩)
   simp only[Ql,ne];exact C nd.2 h
def Fd{l:E (fc×α)}{x:α}(h:l.Y a=Z x):(a,x)∈l:=by
 induction l with
 |nil=>cases h
 |cons p r C=>
  simp only[Ql]at h;split at h
  .rename_i e
   cases h
   let:=beq_iff_eq.mp e;rw[this];exact M7
  .exact M6 _ (C h)
def adr:eN->fc
 |.ref a=>a
 |_=>0
end
end L2.AT
namespace L2
open PySem PySem.Spec PyProof.Rows AT
inductive rListT(xs:E V)(H:L2.Hp)(Q:L2.VK):Prop
 |mk (v d:fc)(kvs:E (Key×V))(ps:E (Y×Y)) (_:xs=[.ref v])(_:H v=Z (jz v d))(_:H d=Z (.dK kvs))(_:kvs=ps.Z (λe=>(Sum.inl e.1,V.int e.2)))(_:∀(l:fc)(out:E V)(H':Hp),(∀ b u,H b=Z u->H' b=Z u)->H l=lf->H' l=Z (.lst out)->out.L=ps.L->(∀(i:R)(e:Y×Y),ps[i]?=Z e->∃ t,out[i]?=Z (.ref t)/\H' t=Z (.tup [.int e.1,.int e.2]))->Q (.ref l) H')
def Di(y:X.calm=kt):iF X (.type "list") rListT:=by
 intro B s L H C us Q I r h;let v d f ps rfl hv hd ek q:=h;let u rfl ru:=lu r
 cases ru
 let vw _ _:=(show bC X.i X.w H s.H v (jz v d) from I.hok v _ hv);let _ n ep ap ar aL:=nO (P:=X.i) (w:=X.w) (H:=H) (h:=s.H) (d:=d) (u:=.dK f) True.intro (I.hok d _ hd);let hz _:=(show bC X.i X.w H s.H d (.dK f) from I.hok d _ hd);let av:n.J=ps.L:=by
  rw[ar];show f.L=_;rw[ek,MI]
 let kl:f.L=ps.L:=by rw[ek,MI]
 let aS:∀(j:R)(e:DictEntry),n[j]?=Z e->∃ x tx ty,ps[j]?=Z x/\e.key=.int x.1 tx/\e.val=.int x.2 ty:=λj e N=>by
  let a b c1 c2 c3:=aL j e N;rcases c1 with⟨ab,k,T,A,e3⟩|⟨_,_,_,T,_⟩
  .cases T;rw[ek,MO]at A;let x G e4:=MZ.mp A
   cases e4
   subst e3;let tx e5:=(show ∃ t,e.key=eN.int x.1 t from c2);let ty e6:=(show ∃ t,e.val=eN.int x.2 t from c3);erw[x,tx,ty,G,e5,e6]
  .cases T
 refine C2.list_itemsT (I.ok.hd y) vw ap (by rw[ar];exact hz) λg aa c D hS am ac=>?_
 let tk:∀ w∈aa.l,∃(j:R)(t:fc)(x:Y×Y)(tx ty:Tok),aa.l[j]?=Z w/\w=.ref t/\ps[j]?=Z x/\s.H.M.J<t/\g.Q t=Z {cls:=.type "tuple",data:=.seq #[.int x.1 tx,.int x.2 ty]}:=λw hw=>by
  let j o:=Nx hw;let t e a1 a2 a3 a4:=am.2 j w (by rw[← NZ];exact o)
  let x tx ty b1 b2 b3:=aS j e a2;rw[b2,b3]at a4;erw[j,t,x,tx,ty,o,a1,b1,a3,a4]
 let al:aa.l.L=ps.L:=by rw[NB,am.1,av]
 let an:(aa.l.Z adr).Z eN.ref=aa.l:=by
  rw[NX];refine(Od (g:=id) λw hw=>?_).P (Rk _);let _ t _ _ _ _ a2 _:=tk w hw;rw[a2];rfl
 let aT:(aa.l.Z adr).h:=by
  rw[← an]at ac;exact(OC.mp ac).imp λh e=>h (by rw[e])
 let zk:((aa.l.Z adr).zip ps).Z (·.1)=aa.l.Z adr:=List.map_fst_zip (by rw[MI,al];exact MN _)
 let p ah:∃ p:Hp,p=λb=>if b=s.H.M.J then Z (.lst ((aa.l.Z adr).Z V.ref)) else match((aa.l.Z adr).zip ps).Y b with|some e=>Z (.tup [.int e.1,.int e.2])|none=>H b:=⟨_,U⟩
 let low:∀ b,b<s.H.M.J->p b=H b:=λb M=>by
  rw[ah];show(if b=s.H.M.J then _ else _)=_;rw[Tj (Nh M)]
  cases z:((aa.l.Z adr).zip ps).Y b with
  |none=>rfl
  |some e=>
   let m:=Fd z;let w hw ew:=Nc.mp (Qv m).1;let _ t _ _ _ _ a2 _ a4 _:=tk w hw;subst a2;let:t=b:=ew;subst this;exact Tn M (Qn (M4 a4))
 let aI:∀(i:R)(e:Y×Y),ps[i]?=Z e->∃ t tx ty,aa.l[i]?=Z (.ref t)/\s.H.M.J<t/\p t=Z (.tup [.int e.1,.int e.2])/\g.Q t=Z {cls:=.type "tuple",data:=.seq #[.int e.1 tx,.int e.2 ty]}:=λi e N=>by
  let J:i<aa.l.L:=by rw[al];exact(MF.mp N).1
  let j t x tx ty a1 a2 a3 a4 a5:=tk _ (Px J);let ej:i=j:=(QN J ac).mp ((MG J).P a1.X);subst ej;rw[N]at a3
  cases a3
  rw[a2]at a1;erw[t,tx,ty,a1,a4,3,a5];rw[ah];show(if t=s.H.M.J then _ else _)=_;rw[Tj (N9 a4),IE (by rw[zk];exact aT) (x:=e) (MH (i:=i) (by rw[Ru];erw[by rw[MO,a1];rfl,N]))]
 let I2:nw p {s,g}:=by
  refine Inv.many (t':=s.u) I D low λb u M hu=>?_;by_cases zb:b=s.H.M.J
  .subst zb;let A:p s.H.M.J=Z (.lst ((aa.l.Z adr).Z V.ref)):=by rw[ah];exact Ti U
   rw[A]at hu
   cases hu
   erw[by rw[MI,MI,al,← kl];exact hz,aa.l,c,15]
   .let:∀ l:E fc,Vals (l.Z V.ref) (l.Z eN.ref):=λl=>by
     induction l with
     |nil=>exact .nil
     |cons a l dO=>exact .cons U dO
    let z:=this (aa.l.Z adr);rw[an]at z;exact z
   .exact hS
  .let A:p b=(match((aa.l.Z adr).zip ps).Y b with|some e=>Z (.tup [.int e.1,.int e.2])|none=>H b):=by rw[ah];exact Tj zb
   rw[A]at hu
   cases z:((aa.l.Z adr).zip ps).Y b with
   |none=>
    rw[z]at hu;let:=I.hok.lt (show H b=Z u from hu);exact Tn M (Nat.not_le_of_lt this)
   |some e=>
    rw[z]at hu
    cases hu
    let m:=Fd z;let i J:=Nx m;let eK O:=Ru.mp J;rw[MO]at eK;let t tx ty b1 b2 b3 b4:=aI i e O;rw[b1]at eK
    cases eK
    erw[(by decide:(2:R)<=RO),[.int e.1 tx,.int e.2 ty],.cons ⟨tx,U⟩ (.cons ⟨ty,U⟩ .nil),_,b4,38]
 erw[.ref s.H.M.J,p,I2,U,q s.H.M.J _ p (λb u e=>by rw[low b (I.hok.lt e)];exact e) (I.hok.fresh (MN _)) (by rw[ah];exact Ti U) (by rw[MI,MI,al]) λi e N=>?_]
 let t _ _ b1 _ b2 _:=aI i e N;erw[t,by rw[MO,MO,b1];rfl,b2]
end L2
namespace L2
open PySem PySem.Spec PyProof.Rows
structure DK(h h':fo):Prop where
 le:h.M.J<=h'.M.J
 d:∀(e:fc)(o':ii),e<h.M.J->h'.Q e=Z o'->∃ o,h.Q e=Z o/\o'.dict=o.dict
theorem DK.rfl'(h:fo):DK h h:=⟨MN _,λ_ C _ q=>⟨C,q,U⟩⟩
theorem DK.trans{a b c:fo}(x:DK a b)(y:DK b c):DK a c:=⟨NH x.le y.le,λe C N q=>by
 let g dO T:=y.d e C (Ni N x.le) q;let o j n:=x.d e g N dO
 erw[o,j,T.P n]⟩
def DK.upd{f:ii->ii}(O:(h.Q a).isSome)(A:∀ o,(f o).dict=o.dict):DK h (h.update a f):=by
 erw[QS (SX ..).X,λe C N q=>?_];by_cases z:a=e
 .subst z;let o j:=Qg.mp O;let dO _:=fo.get?_some_iff.mp q;let n _:=fo.get?_some_iff.mp j;erw[o,j,3]
  cases h
  simp only[fo.update,kf.getElem?_modify,if_true]at dO;simp only at n;rw[n]at dO
  cases dO
  exact A o
 .rw[Su _ _ z]at q;erw[C,q,U]
def DK.psh(h:fo)(o:ii):DK h (h.e o):=by
 erw[by rw[Sj];exact OH _,λe C N q=>?_]
 rw[fo.get?_push_ne _ _ _ (Nh N)]at q;erw[C,q,U]
def aV{α:Type}:Sem α->Prop
 |.pure _=>True
 |.raise _=>True
 |.unsupported _=>True
 |.finish _=>True
 |.rule _ k=>aV (k ())
 |.at _ k=>aV (k ())
 |.load _ _ k=>∀ o,aV (k o)
 |.update _ _ f k=>(∀ o,(f o).dict=o.dict)/\aV (k ())
 |.alloc _ k=>∀ a,aV (k a)
 |.loadIfAlive _ k=>∀ o,aV (k o)
 |.point _ k=>aV (k ())
 |.register _ _=>True
 |.fresh k=>∀ t,aV (k t)
 |.ask k=>∀ t,aV (k t)
 |.choose _ _ k=>∀ t,aV (k t)
 |.os _ _ k=>∀ t,aV (k t)
 |.call _ _ _ _ _=>False
 |.handled _ k=>∀ t,aV (k t)
 |.newGen _ k=>∀ t,aV (k t)
 |.genState _ k=>∀ t,aV (k t)
 |.resume _ _ _ _=>False
 |.yield _ _ _ _=>True
 |.stack k=>∀ t,aV (k t)
 |.fork _ _=>True
 |.thread k=>∀ t,aV (k t)
 |.await _ _ _ _ _=>True
def aV.bind{α j:Type}{m:Sem α}{f:α->Sem j}(y:aV m)(A:∀ a,aV (f a)):aV (m >>= f):=by
 show aV (m.bind f);induction m with
 |pure a=>exact A a
 |raise e=>exact True.intro
 |unsupported w=>exact True.intro
 |finish e=>exact True.intro
 |rule t k C=>exact C () y
 | «at» p k C=>exact C () y
 |load a p k C=>exact λo=>C o (y o)
 |update a p g k C=>exact⟨y.1,C () y.2⟩
 |alloc o k C=>exact λa=>C a (y a)
 |loadIfAlive a k C=>exact λo=>C o (y o)
 |point l k C=>exact C () y
 |register a k C=>exact True.intro
 |fresh k C=>exact λo=>C o (y o)
 |ask k C=>exact λo=>C o (y o)
 |choose s n k C=>exact λo=>C o (y o)
 |os q l k C=>exact λo=>C o (y o)
 |call c h g l k C=>exact y.elim
 |handled o k C=>exact λo=>C o (y o)
 |newGen c k C=>exact λo=>C o (y o)
 |genState g k C=>exact λo=>C o (y o)
 |resume g r l k C=>exact y.elim
 |yield v g l k C=>exact True.intro
 |stack k C=>exact λo=>C o (y o)
 |fork c k C=>exact True.intro
 |thread k C=>exact λo=>C o (y o)
 |await a t d l k C=>exact True.intro
def Jc{M:Model}{b:PySem.Ctx}(m:Sem α)(y:aV m)(Q:α->Pos->ff->Prop)(dO:eN->Pos->ff->Prop)(p:Pos)(s:ff)(h:Sem.wp M b m Q dO p s):
  Sem.wp M b m (λa B s'=>Q a B s'/\DK s.H s'.H) (λe B s'=>dO e B s'/\DK s.H s'.H) p s:=by
 let go:∀{m:Sem α}{p:Pos}{s s1:ff},DK s.H s1.H->Sem.wp M b m (λa B s'=>Q a B s'/\DK s1.H s'.H) (λe B s'=>dO e B s'/\DK s1.H s'.H) p s1->Sem.wp M b m (λa B s'=>Q a B s'/\DK s.H s'.H) (λe B s'=>dO e B s'/\DK s.H s'.H) p s1:=
  λ{m p s s1} d z=>Sem.wp_mono M b m (λa B s' q=>⟨q.1,d.P q.2⟩) (λa B s' q=>⟨q.1,d.P q.2⟩) p s1 z
 induction m generalizing p s with
 |pure a=>rw[Sem.wp]at h ⊢;erw[h,DK.rfl' _]
 |raise e=>rw[Sem.wp]at h ⊢;erw[h,DK.rfl' _]
 |unsupported w=>rw[Sem.wp]at h;exact h.elim
 |finish e=>rw[Sem.wp]at h;exact h.elim
 |rule t k C=>rw[Sem.wp]at h ⊢;exact C () y p s h
 | «at» B k C=>rw[Sem.wp]at h ⊢;exact C () y B s h
 |load a pt k C=>rw[Sem.wp]at h ⊢;let o e h:=h;erw[o,e,C o (y o) p s h]
 |update a pt g k C=>rw[Sem.wp]at h ⊢;erw[h.1,go (DK.upd h.1 y.1) (C () y.2 p _ h.2)]
 |alloc o k C=>rw[Sem.wp]at h ⊢;exact go (DK.psh _ _) (C _ (y _) p _ h)
 |loadIfAlive a k C=>rw[Sem.wp]at h ⊢;exact C _ (y _) p s h
 |point l k C=>rw[Sem.wp]at h ⊢;exact C () y p s h
 |register a k C=>rw[Sem.wp]at h;exact h.elim
 |fresh k C=>rw[Sem.wp]at h ⊢;exact C _ (y _) p _ h
 |ask k C=>rw[Sem.wp]at h ⊢;exact C _ (y _) p s h
 |choose f n k C=>rw[Sem.wp]at h ⊢;erw[h.1,C _ (y _) p _ h.2]
 |os q l k C=>rw[Sem.wp]at h ⊢;exact C _ (y _) p _ h
 |call c H g l k C=>exact y.elim
 |handled o k C=>rw[Sem.wp]at h ⊢;exact C _ (y _) p s h
 |newGen c k C=>rw[Sem.wp]at h ⊢;exact C _ (y _) p _ h
 |genState g k C=>rw[Sem.wp]at h ⊢;let o e h:=h;erw[o,e,C _ (y _) p s h]
 |resume g r l k C=>exact y.elim
 |yield v g l k C=>rw[Sem.wp]at h;exact h.elim
 |stack k C=>rw[Sem.wp]at h ⊢;exact C _ (y _) p s h
 |fork c k C=>rw[Sem.wp]at h;exact h.elim
 |thread k C=>rw[Sem.wp]at h ⊢;exact C _ (y _) p s h
 |await a t d l k C=>rw[Sem.wp]at h;exact h.elim
theorem GZ{M:Model}{m:Sem α}(y:aV m){Q:α->ff->Prop}{s:ff}(h:wpAny M A m Q dO s):wpAny M A m (λa s'=>Q a s'/\DK s.H s'.H) (λe s'=>dO e s'/\DK s.H s'.H) s:=
 λb p c=>Jc m y _ _ p s (h b p c)
theorem bw(a:α):aV (pure a:Sem α):=True.intro
theorem x8(w:String):aV (PySem.unsupported w:Sem α):=True.intro
def dj{c:Prop}[Decidable c]{a b:Sem α}(O:aV a)(M:aV b):aV (if c then a else b):=by split<;>assumption
theorem oI(a:fc):aV (load a):=λ_=>True.intro
theorem mG:aV stack:=λ_=>True.intro
def sP(v:eN):aV (fieldsOf v):=by
 unfold fieldsOf
 cases v with
 |ref a=>
  refine aV.bind (oI a) λo=>?_
  cases o.data<;>exact True.intro
 |_=>exact True.intro
def jt(v:eN)(i:R):aV (field v i):=by
 unfold field;refine aV.bind (sP v) λm=>?_
 cases m[i]?<;>exact True.intro
def iw(v:eN)(i:R)(x:eN):aV (setField v i x):=by
 unfold setField
 cases v with
 |ref a=>
  show aV (updateField a i x);unfold updateField;refine aV.bind (oI a) λo=>?_
  cases o.data with
  |fields m=>
   refine dj ?_ (x8 _);erw[λo=>?_,True.intro];unfold ii.mapFields;split<;>rfl
  |_=>exact True.intro
 |_=>exact True.intro
def rq(e:eN)(f:j5 fc):aV (setFlight e f):=by
 unfold setFlight;refine aV.bind (jt e 1) λi=>?_;exact dj (iw _ _ _) (bw _)
theorem rD:∀ l:E ih,aV (readyFrames l)
 |[]=>True.intro
 |j::eK=>by
  unfold readyFrames
  cases j.frame with
  |none=>exact True.intro
  |some f=>
   refine aV.bind (oI f) λo=>?_;refine dj (bw _) ?_;refine aV.bind ?_ λi=>aV.bind ?_ λb=>aV.bind ⟨λo=>rfl,True.intro⟩ λ_=>rD eK
   .unfold behindIsImport;refine dj (bw _) (dj (bw _) (aV.bind (jt _ _) λ_=>bw _))
   .unfold keptBack
    cases eK with
    |nil=>exact dj (bw _) (aV.bind (by unfold underTheClaimsCaller;exact aV.bind mG λ_=>bw _) λ_=>bw _)
    |cons c r=>exact bw _
def vH(env:ih):aV (RE env):=by
 unfold RE frameObject frameEnvs;refine aV.bind (aV.bind mG λ_=>bw _) λl=>aV.bind ?_ λo=>?_
 .cases (l.dropWhile λx=>x.frame != env.frame) with
  |nil=>exact bw _
  |cons e r=>exact aV.bind (rD _) λ_=>bw _
 .cases o<;>exact True.intro
def AE(f:fc)(b:ke):aV (entryPlaceOf f b):=by
 unfold entryPlaceOf;refine aV.bind mG λa=>?_;split<;>exact True.intro
def rE(e:eN)(env:ih):aV (noteFrame e env):=by
 unfold noteFrame
 cases env.frame with
 |none=>exact True.intro
 |some f=>
  refine aV.bind (jt _ _) λc=>?_
  let h:aV (do
    let a ← RE env
    let y ← entryPlaceOf f (c != .none)
    let b ← EntryCells.newEntry c a .none (rawInt f) .none y
    setField e 1 b):=by
   refine aV.bind (vH env) λa=>aV.bind (AE _ _) λy=>aV.bind ?_ λb=>iw _ _ _;unfold EntryCells.newEntry newFields newObj;dsimp only;let g:∀ d:Data,aV (newObjAsIs (.type "traceback") d):=λd=>aV.bind (λ_=>True.intro) λ_=>bw _;exact dj (aV.bind (x8 _) λ_=>g _) (g _)
  refine dj (aV.bind (jt _ _) λz=>dj (bw _) (aV.bind (iw _ _ _) λ_=>h)) h
theorem vG(env:ih)(e:eN):aV (leaving env e):=aV.bind (rE e env) λ_=>rq e lf
def Xd(h:fo)(x:fc)(d:j5 fc):Prop:=∃ f,h.Q x=Z f/\f.dict=d
def Xd.dk{x:fc}{d:j5 fc}(z:Xd h x d)(k:DK h h')(ex:∃ o,h'.Q x=Z o):Xd h' x d:=by
 let f e hd:=z;let C Q:=ex;let o A a:=k.d x C (RP e) Q;rw[e]at A
 cases A
 erw[C,Q,a.P hd]
def Trc.there{x T:fc}{C:eN}(t:Trc h x C T):∃ o,h.Q x=Z o:=by
 let f _ _ _ _ N _:=t;erw[f,N]
def CXd(P:hx)(w:ix):CXT:=λeK H s dO e c=>∃(x:fc)(C:eN)(T:fc)(l:Hp)(d:j5 fc),e=.ref x/\c.os=s.os/\AllBare c.gens/\Un (frs eK) [] H l s.H c.H/\HOk P w l c.H /\
 s.H.Q x=lf/\s.H.Q T=lf/\l x=lf/\l T=lf/\Trc c.H x C T/\Xd c.H x d/\dO C d l
abbrev WKD:=eN->j5 fc->St->Hp->Prop
def WshD(X:Cx)(W:WKD):Prop:=∀(B:E (fc×ii))(L:St)(H:Hp)(s:ff)(x:fc)(C:eN)(d:j5 fc),nw H s->XA X B H s x C->Xd s.H x d->W C d L H->X.xe (.ref x) s
theorem KN{N:E fI}{a:fI}{s₀:ff}{H₀:Hp}{dO:XK}:
  WshD (cxOf (CXd P w) P w K mg base N a scope f u A outer s₀ H₀ dO) (λC d _ H=>dO C d H):=λB L H s x C d I xa z p=>by
 show wpAny (model P w) (A.deeper (envOfC a scope s₀.H.M.J f u)) (leaving (envOfC a scope s₀.H.M.J f u) (.ref x)) _ _ s;refine RW (GZ (vG _ _) (Inv.leave (Q:=λ_ c=>∃ O T,c={s,O}/\Inv (cxOf (CXd P w) P w K mg base N a scope f u A outer s₀ H₀ dO) B L H {s,O}/\XOk (cxOf (CXd P w) P w K mg base N a scope f u A outer s₀ H₀ dO) B H x/\XOk (cxOf (CXd P w) P w K mg base N a scope f u A outer s₀ H₀ dO) B H T/\Trc O x C T) (dO:=λ_ _=>False) I U U U xa λO T l t k i=>⟨O,T,U,l,t,k,i⟩)) ?_ (λ_ _ q=>q.1.elim);rintro _ c ⟨⟨O,T,rfl,l,t,k,i⟩,dk⟩;erw[x,C,T,H,d,U,l.os,l.bare,l.base,l.hok,t.old,k.old,t.trk,k.trk,i,z.dk dk i.there,p]
structure CalD(P:hx)(w:ix)(K:MJ)(mg:fI->j5 eN)(base:fo)(k:R)(x:fI)(ps:E fI)(sp:Sp)(f:fc)(fd:ge):Prop where
 ok:FnOk P w K mg base (CXd P w) k f fd ps sp
 bn:gz K fd ps []
 mg:mg x=Z (.ref f)
 kp:NK K (.ref f)=kt
section
variable{X:Cx}{k:R}{f C:fc}{fd:ge}{ps:E fI}{sp:Sp}{dvs:E V}{ds:E eN}{W:WKD}{x m:fI}{p pos apos:Pos}{e o:hb}{es:E hb}{ta:TE}{t:TA}
def tCallD(sp:Sp)(dvs:E V)(W:WKD)(t:TA):TE:=λL H Q=>t L H λm j=>sp (m++dvs) j Q λC d l=>W C d L l
end
def K3(C:fc)(W:WKD)(t:TA):TS:=λ_ L H=>t L H λm j=>m.L<=RO/\W (.ref C) lf L j
def Er{es:E hb}{t:TA}{W:WKD}{k:Pos}(n:ExC X.K C)(w:X.mg x=Z (.ref C))(a:Gl X x)(ws:WshD X W)(G:X.ex=[])(J:X.calm=kt)(O:PA X (e::es) t)(v:uP_ (RV (e::es) X.j=(k9,eval e X.j)::RV es X.j) uR_)(d:uP_ ((backTo k (RV es X.j)).any (·.1)=k9) uR_)(l:uP_ ((x == ("__debug__" : fI))=k9) uD_):
  PS X (.Raise (Z (.Call (.Name x np) (e::es) [] k)) lf pos) (K3 C W t):=by
 intro B s L H D I h;let tl N nm A bs hdct sn sub ab col dd k0 k1 k2 k3 k5 mN hC c dO T _:=F0 n I.ok.mod.kin;let aa:(backTo k (RV (e::es) X.j)).any (·.1)=k9:=by
  rw[v];show(k9||(backTo k (RV es X.j)).any (·.1))=k9
  rw[d];rfl
 refine wpAny_Raise_call_subT (C:=C) (nm:=nm) (q:=A) (N:=N) (bs:=bs) (bm:=tl) (hdct:=hdct) (sn:=sn) (sub:=sub) (ab:=ab) (col:=col) (dd:=dd) (k0:=k0) (k1:=k1) (k2:=k2) (k3:=k3) (k5:=k5) Ro (mN:=mN) (T.hasType Ro.hasBase) (I.ok.hd J) aa dO (oE I a w ⟨U,?_⟩ l);let z:=O k B s L H _ I h;rw[v]at z ⊢;refine Calls.evalArgs_plain (RW z (λo b zz=>?_) λ_ _ y=>y);let m j p r f q:=zz;erw[U,by rw[← r.L];exact f,p.bk _ _ hC,c.keeps p.bk,T.keeps p.bk,λeK Q u=>?_]
 let M i _ _:=u.there;let g:nw j {b,eK}:=p.kept (t':=b.u) u.keeps;exact ws B L j _ Q (.ref C) lf g ⟨p.xok G u.new (p.hok.none_of u.new),.inl ⟨_,_,_,i,U,U,U,U⟩⟩ ⟨_,i,U⟩ q
def WshTD(X:Cx)(W:WKD):Prop:=∀(B:E (fc×ii))(L:St)(H:Hp)(s:ff)(x T:fc)(C:eN)(d:j5 fc),nw H s->XOk X B H x->XOk X B H T->Trc s.H x C T->Xd s.H x d->W C d L H->X.xe (.ref x) s
section
variable{X:Cx}{k:R}{f:fc}{fd:ge}{ps:E fI}{sp:Sp}{dvs:E V}{ds:E eN}{W:WKD}{x:fI}{p pos:Pos}{e:hb}{es:E hb}{t:TA}
def xk(F:FnOk X.i X.w X.K X.mg X.base (CXd X.i X.w) k f fd ps sp)(g:Room k X.A)(a:Gl X x)(y:X.mg x=Z (.ref f))(D:NK X.K (.ref f)=kt)(M:gz X.K fd ps ds)(hd:Vals dvs ds)(ws:WshTD X W)(G:X.ex=[])(O:PA X (e::es) t)(aa:uP_ ((x == ("__debug__" : fI))=k9) uD_)(N:uP_ (RV (e::es) X.j=(k9,eval e X.j)::RV es X.j) uR_)(eK:uP_ ((backTo pos (RV es X.j)).any (·.1)=k9) uR_):
  PE X (.Call (.Name x p) (e::es) [] pos) (tCallD sp dvs W t):=by
 intro B s L H Q I h;refine Sn (oE I a y ?_ aa);refine P7 (h₀:=X.base) I.ok.mod.kin D (thn (O pos B s L H _ I h) λo v ⟨m,j,i,r,q⟩=>⟨i.kIn,?_⟩) N eK;let J:Vals (m++dvs) (o++ds):=r.append hd;let dO:(o++ds).L=ps.L:=by rw[← J.L];exact F.len _ _ _ _ q
 refine wpAny_call (Sm (F.run X.A X.stack v j ⟨o,[]⟩ (o++ds) (m++dvs) Q _ g i.env0 (M v o i.kIn dO) J q) λr c n=>?_)
 cases r with
 |error e=>
  let x C T l d rfl os ac un ab nx nT tx tT tr z q':=n;let I':nw l c:=i.call' os un ab ac λb z=>Tn z ∅
  exact ws B L l c x T C d I' (i.xok G nx tx) (i.xok G nT tT) tr z q'
 |ok fl=>
  cases fl with
  |ret u=>exact i.after n
  |next=>exact False.elim n
  |brk=>exact False.elim n
  |cont=>exact False.elim n
end
section
variable{M:Model}{A:Around}{dO:eN->ff->Prop}{h:fo}{g:kf GenState}{d:Drawn}{t:R}{os:OsState}
def Mp{D:fc}{r s:fI}{u l:E eN}{e:ke}{v:E fI}{o:E eN}{w:ke}{p:j5 ke}{j:j5 fc}{q y G B H:j5 eN}{z:String}{x:fc}{Q:ke->ff->Prop}(b:h.Q D=Z (excClassObj r s D a u l e v o w p j q y G B H z))(f:h.Q x=Z ob)(c:ob.cls=.ref C)(k:(eN.ref D::l).contains (.type "BaseException")=kt)(m:PySem.W.Looks M h (isSubtype (.ref C) (.ref D)) kt)(n:Q kt ⟨h,g,d,t,os⟩):wpAny M A (excMatches (.ref x) (.ref D)) Q dO ⟨h,g,d,t,os⟩:=by
 let i:=tc_notTuple;unfold excMatches;repeat (first|(with_reducible refine wpAny_loadPart_at f ?_;rw[c])|with_reducible refine wpAny_loadPart_at b ?_|(with_reducible refine wpAny_isSubtype_exc b ?_;rw[k])|with_reducible refine m.at ?_|wp_step)
 exact n
end
section
variable{X:Cx}{pins:E (fc×ii)}{σ:St}{H H':Hp}{s s':ff}{b:fc}
end
section
variable{M:Model}{A:Around}{dO:eN->ff->Prop}{s:ff}
end
section
variable{X:Cx}{pins:E (fc×ii)}{σ:St}{H:Hp}{s:ff}{x T:fc}{C:eN}{dO:eN->ff->Prop}
theorem JB{x T:fc}(t:XOk X pins H x)(k:XOk X pins H T):∀ b∈[x,T],XOk X pins H b:=λb M=>by
 obtain e|M:=MY.mp M
 .rw[e];exact t
 .let e:b=T:=by simpa using M
  rw[e];exact k
end
section
variable{X:Cx}{k:R}{f:fc}{fd:ge}{ps:E fI}{sp:Sp}{dvs:E V}{ds:E eN}{W:WKD}{x:fI}{p pos:Pos}{e:hb}{es:E hb}{t:TA}
end
section
variable{X:Cx}{pins:E (fc×ii)}{σ:St}{H:Hp}{s:ff}{x T L:fc}{C:eN}{d:j5 fc}{ad:eN->ff->Prop}{fenv cenv:ih}{outer:E ih}
end
section
variable{X:Cx}{scope:io}{fr:E (fI×R)}{xs:E fI}{elt iter tg:hb}{ifs:E hb}{pos:Pos}{tt:TT}{tgt:TG}{wi:TI}
end
def tTryN(Cs:fc->Prop)(tb:WKD->TS)(ts:TS):TS:=λa L H=>tb (λC _ x j=>∃ c,C=.ref c/\Cs c/\ts {nx:=λh d=>a.nx h d,rt:=a.rt} x j) a L H
def Lp{ab:E hr}{b0:hr}{aI:E hr}{dn:fI}{a2:Pos}{D:fc}{Cs:fc->Prop}{tb:WKD->TS}{ts:TS}(G:X.ex=[])(ac:X.stack=X.j::X.outer)(am:X.j.frame=Z X.j.locals)(bg:Gl X dn)(bi:X.mg dn=Z (.ref D))(eD:ExC X.K D)(a6:∀ c,Cs c->PX X.K c (.ref D)=Z kt)(M:∀ B XE W,WshTD (X.tried B XE) W->PSs (X.tried B XE) ab (tb W))(k:∀ v,PSs (X.marked v) (b0::aI) ts)(ah:uP_ ((dn == ("__debug__" : fI))=k9) uD_):
  PS X (.Try ab [.ExceptHandler (Z (.Name dn np)) lf (b0::aI) a2] [] [] pos) (tTryN Cs tb ts):=by
 intro B s L H Ds I h;refine wpAny_Try_except ?_;refine RW (M B (λe aa=>mj X.A (noteFrame e X.j) (λ_ an=>mj X.A (setFlight e lf) (λ_ al=>mj X.A (handleBy e X.j [.ExceptHandler (Z (.Name dn np)) lf (b0::aI) a2]) (SP X B Ds) X.xe al) X.xe an) X.xe aa) _ ?_ [] s L H Ds I.tried h) (λf s1 q=>?_) λ_ _ z=>z
 .intro ar ap j s1 x T C d i xx xT tr zd hw;let c rfl l bm:=hw;let O:Inv X B ap j s1:=i.untried;let x2:XOk X B j x:=xx.untried;let T2:XOk X B j T:=xT.untried;let aT:X.A.frames=Z (X.j::X.outer):=by rw[← ac];exact O.ok.frames
  let a9:∀{h:fo}{T:fc},Inv X B ap j {s1,h}->Trc h x (.ref c) T->∃ a0,fo.FlyingW (hidX X h [x,T]) (X.j::X.outer) x (.ref c) a0 h:=λ{h T} J tr=>by
   let oe m a0 oT ts N av p hd eK aS n aL t:=tr;erw[a0,FE _ _,nB ∅,ac▸J.hidF [x,T],⟨oe,m,T,oT,ts,N,⟨av,p⟩,hd,eK,nB ∅,aS,n,aL,t⟩]
  let a0 fl:=a9 (h:=s1.H) O tr;refine RW (wpAny_looks_onW (Q:=λ_ o=>∃ r,o={s1,r}/\fo.HeldW (hidX X s1.H [x,T]) (X.j::X.outer) x (.ref c) a0 X.j.locals r/\s1.H.UpToSlots r) (E:=λ_ _=>False) aT am fl λr a b=>⟨r,U,a,b⟩) ?_ (λ_ _ q=>q.elim);rintro _ s4 ⟨r,rfl,a7,bn⟩;refine RW (wpAny_landsW (Q:=λ_ o=>∃ h5,o={s1,h5}/\fo.FlyingW (hidX X s1.H [x,T]) (X.j::X.outer) x (.ref c) a0 h5/\r.UpToSlots h5) (E:=λ_ _=>False) a7 λh5 a b=>⟨h5,U,a,b⟩) ?_ (λ_ _ q=>q.elim);rintro _ g ⟨h5,rfl,bb,a1⟩;let I5 T5 bv bd:=O.left G (JB x2 T2) bb.1 bb.2.2.2 (bn.P a1);refine wpAny_handleBy_cons (codeAny_handlers_test (Calls.Name_function_global I5.ok.kind bg (Calls.loadGlobal_global (by rw[I5.ok.glob];exact I5.mod.glob.keeps I5.bk) bi ?_) ah)) (by intro q;cases q)
  let _ _ _ _ _ _ _ _ _ _ _ _ _ _ _ _ _ hD _ _ TD _:=F0 eD I5.kIn;let a4:=TD.hasType (X:="BaseException") (b:=kt) U;let y _ _ _ _ a3 av _:=id bd;refine Mp hD a3 av (by rw[List.contains_cons,a4,ke.or_true]) (PySem.W.looks_mroIn I5.kIn (a6 c l)) ?_
  refine codeAny_handlers_suite ?_;let a5 be:=a9 I5 bd;refine RW (lands_againW (Q:=λ_ o=>∃ h6,o={s1,h6}/\fo.FlyingW (hidX X h5 [x,T5]) (X.j::X.outer) x (.ref c) a5 h6/\h5.UpToSlots h6) (E:=λ_ _=>False) (s:={s1,h5}) be λh6 a b=>⟨h6,U,a,b⟩) ?_ (λ_ _ q=>q.elim);rintro _ s6 ⟨h6,rfl,bf,bB⟩;let I6 T6 bG bH:=I5.left G (JB x2 bv) bf.1 bf.2.2.2 bB;refine RW (k (.ref x) B _ _ _ _ (I6.marked _) bm) (λf s9 q9=>?_) λ_ _ z=>z.elim
  cases f with
  |next=>
   let a8 H9 I9 q9:=q9;erw[a8,H9,Inv.unmarked (hd:=O.ok.hd) (fr:=O.ok.frames) I9,q9]
  |brk=>obtain⟨_,_,_,z⟩:=q9;exact z.elim
  |cont=>obtain⟨_,_,_,z⟩:=q9;exact z.elim
  |ret u=>
   let v9 a8 H9 I9 r9 q9:=q9;erw[v9,a8,H9,Inv.unmarked (hd:=O.ok.hd) (fr:=O.ok.frames) I9,r9,q9]
 .let q':=SP.untried q
  cases f with
  |next=>exact wpAny_execs_nil q'
  |brk=>exact q'
  |cont=>exact q'
  |ret u=>exact q'
def Itw(o:ii)(kvs:E (Key×V))(d:fc):It:=
 ⟨λi H=>H d=Z (.frz o (.dK kvs))/\i<kvs.L,λi H v l=>∃ k,kvs[i]?=Z (k,v)/\l=H,λi H=>H d=Z (.frz o (.dK kvs))/\kvs.L<=i⟩
theorem yR{tg:hb}(o:ii)(kvs:E (Key×V))(d it:fc)(es:kf DictEntry)(ep:R)(N:o.data=.dict es ep):Turn P w K tg (Itw o kvs d) [it] it (λi h=>h.IsValIter it d i kvs.L ep) where
 mem:=by simp
 obj:=λi h st b M=>by
  let e:b=it:=by simpa using M
  subst e;let o e c d:=st;erw[o,e,λv z=>by simp!]
 keep:=λi h O st k=>by
  let o e r:=st;erw[o,k it ∅ o e,r]
 item:=by
  intro X f T hK l i B s L H dO I A st a;subst f T hK;let hd J:=a;let lo m rk ab:=tN (I.hok d _ hd) N;let t:kvs.L=m.L:=Paired.length rk;let f0 p x D f4 f5:=A it ∅
  let{k v}G:∃ q,m[i]?=Z q:=⟨_,MG ∅⟩
  let{k' y}j ek g:=ng rk G;refine wpAny_pyNext_values_item (t▸st) ab G λO aa sb=>?_;let eK:nw H {s,O}:=I.turned (t':=s.u) (λb o M e=>(sb.2 b M).P e) f0 p D f4 f5;let o2 e c n:=id aa;erw[v,U,FL (s:={s,O}) e c n ∅ ⟨y,H,eK,g,⟨k',j,U⟩,t.X▸aa,λb M=>(A b M).1⟩]
 done:=by
  intro X f T hK l i B s L H dO I A st a;subst f T hK;let hd J:=a;let lo m rk ab:=tN (I.hok d _ hd) N;let t:kvs.L=m.L:=Paired.length rk;let f0 p x D f4 f5:=A it ∅
  exact wpAny_pyNext_values_end (I.ok.hd l) (t▸st) ab (N3 ∅) λO u=>⟨U,I.turned (t':=s.u) (λb o M e=>u b o M e) f0 p D f4 f5⟩
 self:=λ_ _ s Q _ st h=>by
  let C:s.TypeIs (.ref it) "dict_valueiterator":=st.typeIs;refine wpAny_pyIter_slot C F.slot_dict_valueiterator_iter (SH F.slot_dict_valueiterator_iter C entry_dict_valueiterator_iter ?_ (F.args_dict_valueiterator_iter_1 _));show wpAny _ _ (ret (.ref it)) _ _ s;exact R7 ⟨_,U,"dict_valueiterator",_,C,F.slot_dict_valueiterator_next.Y,h⟩
def lG(v d:fc):HO:=.ext λh=>h.IsValuesView v d
def E3:MtR X "dict.values" (λx xs H Q=>∃ d kvs,x=.ref d/\xs=[]/\H d=Z (.dK kvs)/\∀ v,H v=lf->Q (.ref v) (upd H v (lG v d))):=by
 intro B s L H x xs v z Q I G rv h;let d kvs rfl rfl hd q:=h
 cases G
 let a:=rv.zero;subst a;let _ lo m _ y:=x9 I.hok hd;refine call_meetsIn Rz y.typeIs PySem.F.entry_dict_values (PySem.F.args_dict_values_1 _) (meets_dict_values (bF X.i X.w) d lo) ⟨⟨m,y⟩,?_⟩;let t:(s.H.e {cls:=.type "dict_values",data:=.fields #[.ref d]}).IsValuesView s.H.M.J d:=⟨_,R9 _ U,U,U⟩;erw[.ref s.H.M.J,_,I.laid (t':=s.u) (λb o e=>R8 _ e) (MN _) ?_,U,q _ (I.hok.fresh (MN _))];erw[t,⟨_,R9 _ U⟩,λeK O x k=>let ⟨o,D,r⟩:=x;⟨o,k _ D,r⟩]
def Me(r:TE):TI:=λL H ad=>r L H λx j=>∃ a d G,x=.ref a/\j a=Z (lG a d)/\j d=Z (.dK G)/\∀ o,ad (Itw o G d) (upd j d (.frz o (.dK G)))
def EA{c:hb}(N:PE X e eK):PI X c e (Me eK):=by
 intro B s L H ad I h;refine thn (N B s L H _ I h) λv C T=>?_;let x j i J dO:=T;let a d G rfl l hd q:=dO
 cases J
 let D _ _:=(show bC X.i X.w j C.H a (lG a d) from i.hok a _ l);let _ g r y sz _:=nO (u:=.dK G) True.intro (i.hok d _ hd);let o dO n z:=id y;let p:=i.freeze hd True.intro dO;let lo m A f:=tN (p.hok d _ ag) z;let t:G.L=m.L:=Paired.length A;refine wpAny_pyIter_values D f ?_;erw[C.H.M.J,[C.H.M.J],5,upd j d (.frz o (.dK G)),U,p.kept (t':=C.u) λb u e=>R8 _ e,yR o G d _ g r z,⟨_,R9 _ U,U,by rw[t];rfl⟩,λb M=>?_,q o]
 rw[MQ.mp M];exact p.fpOk (MN _) (p.hok.fresh (MN _))
def sZ(J:X.calm=kt):iF X (.type "list") (λxs H Q=>∃ d kvs,xs=[.ref d]/\H d=Z (.dK kvs)/\∀ p,H p=lf->Q (.ref p) (upd H p (.lst (kvs.Z λq=>kV q.1)))):=by
 intro B s L H xs o Q I r h;let d kvs rfl hd q:=h;let u rfl G:=lu r
 cases G
 let f lo m A y:=x9 I.hok hd;let ep l:=y.dictAt;let M:kvs.L=m.L:=Paired.length A;refine PySem.W.kdl_call (PySem.W.kdl_dict (knd:=bF X.i X.w) (kvs:=m) (ep:=ep) lo) (I.ok.hd J) l (by rw[← M];exact f) λO a x T D b g=>?_
 let c:Vals (kvs.Z λq=>kV q.1) x.l:=xG (P:=X.i) (w:=X.w) A (by rw[NB];exact g.1) λj v k=>let ⟨_,_,p,q⟩:=g.2 j v (by rw[← NZ];exact k);⟨_,_,p,q⟩
 erw[.ref s.H.M.J,_,I.laid (t':=a) D (MN _) ?_,U,q _ (I.hok.fresh (MN _))];erw[by rw[MI];exact f,x.l,T,c,by rw[kf.toArray_toList];exact b]
def CB{d:fc}{g:TG}(Pv:R->St->Hp->Prop)(A:Pv 0 O H)(hl:∀ i O H,i<=kvs.L->Pv i O H->H d=Z (.frz o (.dK kvs)))(T:∀ i k y O H,kvs[i]?=Z (k,y)->Pv i O H->g y O H λh H2=>tb (D.lop (Pv (i+1))) h H2)(hd:∀ O H,Pv kvs.L O H->D.nx O H):
  ∃ W:R->R->St->Hp->Prop,(∃ m,W 0 m O H)/\∀ i m O H,W i m O H ->
   ((Itw o kvs d).stop i H/\D.nx O H)∨((Itw o kvs d).go i H/\∃ N:St->Hp->Prop,(∀ σ' H',N σ' H'->∃ f,f<m/\W (i+1) f σ' H')/\∀ x H',(Itw o kvs d).yld i H x H'->g x O H' λh H2=>tb (D.lop (N)) h H2):=by
 erw[λi m O H=>m=kvs.L-i/\i<=kvs.L/\Pv i O H,⟨kvs.L,by simp,ND _,A⟩,3]
 rintro i m O H ⟨rfl,J,p⟩;let q:=hl i O H J p;by_cases Q:i<kvs.L
 .refine .inr ⟨⟨q,Q⟩,Pv (i+1),λσ' H' B=>⟨kvs.L-(i+1),∅,U,Q,B⟩,λv H' y=>?_⟩
  let k j rfl:=y;exact T i k v O _ j p
 .let e:i=kvs.L:=by lia
  subst e;exact .inl ⟨⟨q,MN _⟩,hd O H p⟩
def DRd(H:Hp)(d:fc)(u:HO):Prop:=xO u/\(H d=Z u∨∃ o,H d=Z (.frz o u))
def DRd.ok{d:fc}{u:HO}(x:DRd H d u)(k:HOk P w H h):bC P w H h d u:=by
 obtain⟨_,x|⟨o,x⟩⟩:=x
 .exact k d _ x
 .exact(k d _ x).2
def E4:MtR X "dict.items" (λx xs H Q=>∃ d u,x=.ref d/\xs=[]/\DRd H d u/\∀ v,H v=lf->Q (.ref v) (upd H v (jz v d))):=by
 intro B s L H x xs v z Q I G rv h;let d u rfl rfl hd q:=h
 cases G
 let a:=rv.zero;subst a;let lo n j y _:=nO hd.1 (hd.ok I.hok);refine call_meetsIn PB y.ty RA (Rt _) (BY lo) ⟨⟨n,j,y⟩,?_⟩;let t:(s.H.e {cls:=.type "dict_items",data:=.fields #[.ref d]}).IsItemsView s.H.M.J d:=⟨_,R9 _ U,U,U⟩;erw[.ref s.H.M.J,_,I.laid (t':=s.u) (λb o e=>R8 _ e) (MN _) ?_,U,q _ (I.hok.fresh (MN _))];erw[t,⟨_,R9 _ U⟩,λeK O x k=>let ⟨o,D,r⟩:=x;⟨o,k _ D,r⟩]
def Mf(r:TE):TI:=λL H ad=>r L H λx j=>∃ a d u,x=.ref a/\j a=Z (jz a d)/\DRd j d u/\∀ o,(∀ C,j d=Z (.frz C u)->C=o)->ad (Itd o u d) (upd j d (.frz o u))
def EB{es:E hb}{k:R}(N:PE X e eK):PI X (.Tuple es k tp) e (Mf eK):=by
 intro B s L H ad I h;refine thn (N B s L H _ I h) λv s1 T=>?_;let x H1 i J dO:=T;let a d u rfl t hd q:=dO
 cases J
 let D _ _:=(show bC X.i X.w H1 s1.H a (jz a d) from i.hok a _ t);let _ g j y sz _:=nO hd.1 (hd.ok i.hok);let o dO n l:=id y;refine BZ D y ?_;let p:nw (upd H1 d (.frz o u)) s1:=by
  obtain⟨C,hd|⟨c,hd⟩⟩:=hd
  .exact i.freeze hd C dO
  .let f:=(show bC X.i X.w H1 s1.H d (.frz c u) from i.hok d _ hd).1
   rw[dO]at f
   cases f
   let:upd H1 d (.frz o u)=H1:=by
    funext b;by_cases z:b=d
    .rw[z,ag,hd]
    .rw[aw z]
   rw[this];exact i
 let m:∀ c,H1 d=Z (.frz c u)->c=o:=λc O=>by
  let f:=(show bC X.i X.w H1 s1.H d (.frz c u) from i.hok d _ O).1;rw[dO]at f;exact(Ny f).X
 let ne:d≠s1.H.M.J:=Nh (RP dO);erw[s1.H.M.J,[s1.H.M.J],5,upd H1 d (.frz o u),U,p.kept (t':=s1.u) λb u e=>R8 _ e,Cc o u d _ hd.1 g j n l,⟨_,_,R9 _ U⟩,λb M=>?_,q o m];rw[MQ.mp M];exact p.fpOk (MN _) (p.hok.fresh (MN _))
def K5(a:TE):TE:=λL H Q=>a L H λx j=>∃ d u,x=.ref d/\DRd j d u/\∀ v,j v=lf->Q (.ref v) (upd j v (jz v d))
def ED{o:hb}{b k:Pos}(D:PE X o eK)(c:uP_ (attributeBase o "items" X.j (eval o X.j)=eval o X.j) uR_)(w:uP_ ((b.endLine == k.line)=kt) uR_):PE X (.Call (.Attribute o "items" b) [] [] k) (K5 eK):=by
 intro B s L H Q I h;refine wpAny_Call_method0_late c w (thn (D B s L H _ I h) λv C ⟨x,j,i,J,d,u,M,hd,q⟩=>?_);subst M;obtain rfl:v=eN.ref d:=J;let _ O r{T f A g}_:=nO hd.1 (hd.ok i.hok);erw["dict","dict.items",O3,PB,RG,⟨T,f,A.1⟩,λa z=>by cases z;erw[T,f,A.2.1],Sv U (PySem.evalArgs_none (E4 B C L j (.ref d) [] (.ref d) [] Q i U .nil ⟨d,u,U,U,hd,q⟩))]
def Itq(K:MJ)(a:fc)(n:R):It:=
 ⟨λi H=>i<n/\∃ D,pi a D/\D.L=n,λi H x l=>l=H/\∀ D,pi a D->D[n-1-i]?=Z x,λi _=>n<=i⟩
theorem He{tg:hb}(a it:fc)(n:R):Turn P w K tg (Itq K a n) [it] it (λi h=>i<=n/\h.IsRevIter it a ((n:Y)-1-(i:Y))) where
 mem:=by simp
 obj:=λi h st b M=>by
  let e:b=it:=by simpa using M
  subst e;let _ o e c d:=st;erw[o,e,λv z=>by rw[d]at z;cases z]
 keep:=λi h O st k=>⟨st.1,st.2.at λo e=>k it ∅ o e⟩
 item:=by
  intro X hP q hK l i B s L H dO I r st N;subst hP q hK;let J D g G:=N;let Q rv p T:=I.list g;let x ab:∃ x,D[n-1-i]?=Z x:=⟨_,MG ∅⟩
  let u C ru:=rv.get ab;let f0 f1 y f3 f4 f5:=r it ∅
  let t:=st.2;let f:(n:Y)-1-(i:Y)=((n-1-i:R):Y):=by lia
  rw[f]at t;refine wpAny_pyNext_rev_item t p.isList (x:=u) (by simpa using C) λO aa sb=>?_
  let eK:nw H {s,O}:=I.turned (t':=s.u) (λb o M e=>(sb.2 b M).P e) f0 f1 f3 f4 f5;let A:((n-1-i:R):Y)-1=(n:Y)-1-((i+1:R):Y):=by lia
  rw[A]at aa;let o e c d:=id aa;erw[u,U,FL (s:={s,O}) e c d ∅ ⟨x,H,eK,ru,⟨U,λm j=>by rw[I.list_inj j g];exact ab⟩,⟨J,aa⟩,λb M=>(r b M).1⟩]
 done:=by
  intro X hP q hK l i B s L H dO I r st N;subst hP q hK;let ac:n<=i:=N;let f0 f1 y f3 f4 f5:=r it ∅
  let t:=st.2;let J:=st.1;let f:(n:Y)-1-(i:Y) = -1:=by lia
  rw[f]at t;exact wpAny_pyNext_rev_end (I.ok.hd l) t λO eb=>⟨U,I.turned (t':=s.u) (λb o M e=>eb b o M e) f0 f1 f3 f4 f5⟩
 self:=λ_ _ _ _ _ st h=>wpAny_pyIter_revIter st.2 h
section
variable{X:Cx}{tg:hb}
def iRev(K:MJ)(r:TE):TI:=λL H ad=>r L H λx j=>∃ a D,x=.ref a/\SqL K j a D/\ad (Itq K a D.L) j
def pi_rev{G a:Pos}(g:Gl X "reversed")(c:X.mg "reversed"=lf)(N:PE X e eK)(h2:uP_ (RV [e] X.j=(k9,eval e X.j)::RV [] X.j) uR_):
  PI X tg (.Call (.Name "reversed" G) [e] [] a) (iRev X.K eK):=by
 intro B s L H ad I h;refine Sn (iB I g c rQ ?_);refine Sa ?_ h2 U;rw[h2];refine Sl (thn (N B s L H _ I h) λu C ⟨x,j,i,J,dO⟩=>?_);let l k rfl n q:=dO
 cases J
 refine Sk ?_;let d rv y f:=i.list n;let T:d.toArray.J=k.L:=by rw[NL,rv.L]
 refine call_reversed_list y.isList ?_;let p:nw j {C,C.H.e (revObj l ((d.toArray.J:Y)-1))}:=i.kept (t':=C.u) λb o e=>R8 _ e;let t:(C.H.e (revObj l ((d.toArray.J:Y)-1))).IsRevIter C.H.M.J l ((d.toArray.J:Y)-1):=⟨_,R9 _ U,U,U⟩;refine wpAny_pyIter_revIter t ?_;rw[T]at t;erw[C.H.M.J,[C.H.M.J],5,j,U,p,He l _ k.L,⟨ND _,by rw[T];simpa using t⟩,λb M=>?_,q]
 let e:b=C.H.M.J:=by simpa using M
 subst e;exact i.fpOk (MN _) (i.hok.fresh (MN _))
end
def Mh{g:TG}(Pv:R->St->Hp->Prop)(A:Pv 0 O H)(hl:∀ i O H,i<=xs.L->Pv i O H->pi a xs)(T:∀ i x O H,xs.y[i]?=Z x->Pv i O H->g x O H λh H2=>tb (D.lop (Pv (i+1))) h H2)(hd:∀ O H,Pv xs.L O H->D.nx O H):
  ∃ W:R->R->St->Hp->Prop,(∃ m,W 0 m O H)/\∀ i m O H,W i m O H ->
   ((Itq K a xs.L).stop i H/\D.nx O H)∨((Itq K a xs.L).go i H/\∃ N:St->Hp->Prop,(∀ σ' H',N σ' H'->∃ f,f<m/\W (i+1) f σ' H')/\∀ x H',(Itq K a xs.L).yld i H x H'->g x O H' λh H2=>tb (D.lop (N)) h H2):=by
 erw[λi m O H=>m=xs.L-i/\i<=xs.L/\Pv i O H,⟨xs.L,by simp,ND _,A⟩,3]
 rintro i m O H ⟨rfl,J,p⟩;let q:=hl i O H J p;by_cases Q:i<xs.L
 .refine .inr ⟨⟨Q,xs,q,U⟩,Pv (i+1),λσ' H' B=>⟨xs.L-(i+1),∅,U,Q,B⟩,λv H' y=>?_⟩
  let rfl j:=y;refine T i v O _ ?_ p;rw[OX Q];exact j xs q
 .let e:i=xs.L:=by lia
  subst e;exact .inl ⟨MN _,hd O H p⟩
def Be.g{J:It}(h:Be eK O J H1 QQ):jE (sy 0) tYes eK 1 O J H1 QQ:=by
 let W Q st:=h;erw[W,Q,λi m k H w=>?_];let l h:=st i m k H w;erw[l,h.imp id λ⟨go,N,a,h⟩=>⟨go,λI d=>∃ y,I=k++[y]/\N y d,λI d ⟨y,e,n⟩=>e▸a y d n,λx p b=>⟨U,yesT ?_⟩⟩]
 let e:(λy c=>∃ f,k++[y]=k++[f]/\N f c)=N:=funext λy=>funext λc=>propext ⟨λ⟨f,e,n⟩=>by
  let:y=f:=by simpa using e
  rw[this];exact n,λn=>⟨y,U,n⟩⟩
 rw[e];exact h x p b
theorem cX(Pv:R->E V->Hp->Prop)(hz:xs.L<=RO)(A:Pv 0 [] H1)(hl:∀ i ys H,i<=xs.L->Pv i ys H->pi a xs)(T:∀ i x ys H,xs[i]?=Z x->Pv i ys H->eK (Z x::O) H λy H2=>Pv (i+1) (ys++[y]) H2)(hd:∀ ys H,ys.L=xs.L->Pv xs.L ys H->QQ ys H):jE (sy 0) tYes eK 1 O (Itl K a) H1 QQ:=(Gz Pv hz A hl T hd).g
theorem cA{lo:Y}(Pv:R->E V->Hp->Prop)(hz:n<=RO)(A:Pv 0 [] H1)(T:∀ i ys H,i<n->Pv i ys H->eK (Z (.int (lo+i))::O) H λy H2=>Pv (i+1) (ys++[y]) H2)(hd:∀ ys H,ys.L=n->Pv n ys H->QQ ys H):jE (sy 0) tYes eK 1 O (Itr lo n) H1 QQ:=(Dd Pv hz A T hd).g
section
variable{X:Cx}{scope:io}{fr:E (fI×R)}{xs:E fI}{elt iter tg:hb}{ifs:E hb}{pos:Pos}{tt:TT}{tgt:TG}{wi:TI}{te:TE}
end
section
variable{prog:hx}{w:ix}{A:Around}{dO:eN->ff->Prop}{s:ff}
def Ff{Pv:R->eN->Prop}{Sq:R->fo->Prop}{T:String}(W:Walks prog w A.in1.in1 I fp [I] n Pv Sq)(p:n<=RO)(st:Sq 0 s.H)(z:I∈fp)(aa:∀ b∈fp,b<s.H.M.J)(C:∀ h,Sq 0 h->∃ o,h.Q I=Z o/\o.cls=.type T)(v:(eN.type T == eN.type "list")=k9)(t2:(eN.type T == eN.type "tuple")=k9)(hint:∀(h:fo)(u:ke->ff->Prop)(E':eN->ff->Prop),Sq 0 h->(∀ tk,u k9 {s with heap:=h,toks:=tk})->mi A.in1.in1 (Sz (.ref I)) u E' {s,h})(N:∀ h' tk x c',(∀ b o,b≠I->s.H.Q b=Z o->h'.Q b=Z o)->h'.Q s.H.M.J=Z {cls:=.type "list",dict:=lf,data:=.seq x c',slots:=#[]}->ItemsOf Pv x n->Q (.ref s.H.M.J) {s with heap:=h',toks:=tk}):
  mi A (call (.type "list") [.ref I]) Q dO s:=by
 refine callType_codes (Q₁:=λt J=>t=.ref s.H.M.J/\J={s,s.H.e {cls:=.type "list",data:=.seq #[]}}) PySem.F.called_list (RH _) RI
  (code_list_new _ ⟨U,U⟩) λt J L=>?_
 let rfl rfl:=L;let H:(s.H.e {cls:=.type "list",data:=.seq #[]}).Q s.H.M.J=Z {cls:=.type "list",data:=.seq #[]}:=R9 _ U;let q:s.H.M.J∉fp:=λy=>Ob _ (aa _ y);erw[⟨_,H,U⟩,RB _ _,3];show wpAny _ _ (Th (.ref s.H.M.J) >>= λa=>j0.List.listUpdate (.ref s.H.M.J) (λ_=>#[]) >>= λ_=>letGo a.l.y >>= λ_=>Tf (.ref s.H.M.J) (.ref I) .none) _ _ _;refine R4 ?_;unfold Th;refine R4 (S2 H U (R7 ?_));show wpAny _ _ (S4 s.H.M.J (λ_=>#[]) >>= λ_=>letGo (#[]:kf eN).l.y >>= λ_=>Tf (.ref s.H.M.J) (.ref I) .none) _ _ _;refine R4 (S5 H U ?_);let f:=Ss (Sr (λ_=>(#[]:kf eN))) H U;let oth:∀ b o,s.H.Q b=Z o->((s.H.e {cls:=.type "list",data:=.seq #[]}).update s.H.M.J (Sr (λ_=>(#[]:kf eN)))).Q b=Z o:=λb o e=>(Su _ _ (N9 (RP e))).P (R8 _ e);refine R4 (SS ?_);generalize ((s.H.e {cls:=.type "list",data:=.seq #[]}).update s.H.M.J (Sr (λ_=>(#[]:kf eN))))=O at f oth;let j:=W.frame 0 s.H O st λb _ o e=>oth b o e;let B:∀(h:fo)(c1 tk:R),(∀ b o,s.H.Q b=Z o->h.Q b=Z o)->h.Q s.H.M.J=Z {cls:=.type "list",data:=.seq #[] c1}->Si (model prog w) A.in1 (.builtin "list.extend.loop" ⟨[.ref s.H.M.J,.ref I,.none],[]⟩) (wants (λr G=>r=eN.none/\Q (.ref s.H.M.J) G) dO) {s with heap:=h,toks:=tk}:=by
  intro h c1 tk D d;refine codeAny_extend_loopS W.toS p s.H.M.J q .none n 0 _ #[] c1 U (ND _) (W.frame 0 s.H h st λb _ o e=>D b o e) d (ItemsOf.nil _) λc x c' y k g=>?_;rw[Moved.eq_with y];erw[U,N c.H c.u x c' (λb o M e=>y.H b o (λi=>?_) (D b o e)) k g];obtain l|i:=MY.mp i
  .exact Nh (RP e) l
  .exact M (MQ.mp i)
 unfold Tf;refine R4 (wpAny_typeOf (T:=T) (C _ j) ?_);let eK:Tg (.ref s.H.M.J) (.ref I)=k9:=by
  let:s.H.M.J≠I:=λe=>q (e▸z);simp[Tg,this]
 simp only[eK,v,t2,O7,N8,if_false];refine R4 (W.self 0 _ _ _ j (R4 (R5 (hint _ _ _ j λtk=>?_))));refine SA (λ_=>?_) (λ_=>R7 ⟨S6 OE _,B _ _ _ oth f⟩);refine R4 (wpAny_rule (R4 ?_));show wpAny _ _ (S4 s.H.M.J (·.push .none) >>= λ_=>S4 s.H.M.J (·.pop)) _ _ _;refine R4 (S5 f U ?_);let m:=Ss (Sr (·.push eN.none)) f U;refine S5 (hz:=by seq_fits) m U ?_
 let ab:=Ss (Sr (·.pop)) m U;exact R7 ⟨S6 OE _,B _ _ _ (λb o e=>(Su _ _ (N9 (RP e))).P ((Su _ _ (N9 (RP e))).P (oth b o e))) ab⟩
end
def KQ{f:kf eN}(rv:Vals ys its)(h:ItemsOf (λi v=>its.toArray[its.toArray.J-1-i]?=Z v) f its.toArray.J):Vals ys.y f.l:=by
 let e:f.l=its.y:=by
  apply Pp;intro i;by_cases J:i<its.L
  .let g:i<f.J:=by rw[h.1];simpa using J
   let q:=h.2 i f[i] (OF g);rw[NZ,OF g,OX J,← q];simp
  .rw[N3 (by rw[NB,h.1];simpa using J),N3 (by simp!)]
 rw[e];exact rv.y
def qK{p p2 ac:Pos}(J:X.calm=kt)(t:Gl X "list")(y:X.mg "list"=lf)(al:Gl X "reversed")(ah:X.mg "reversed"=lf)(N:PE X e eK)(m:uP_ (RV [.Call (.Name "reversed" p2) [e] [] ac] X.j=[(k9,eval (.Call (.Name "reversed" p2) [e] [] ac) X.j)]) uR_)(h2:uP_ (RV [e] X.j=(k9,eval e X.j)::RV [] X.j) uR_):
  PE X (.Call (.Name "list" p) [.Call (.Name "reversed" p2) [e] [] ac] [] pos) (λL H Q=>eK L H λx H1=>∃ l ys,x=.ref l/\SqL X.K H1 l ys/\∀ q,H1 q=lf->Q (.ref q) (upd H1 q (.lst ys.y))):=by
 intro B s L H Q I h;refine Sn (iB I t y jv ?_);refine Sa ?_ m U;rw[m];refine Sl ?_;refine Sn (iB I al ah rQ ?_);refine Sa ?_ h2 U;rw[h2];refine Sl (thn (N B s L H _ I h) λu C ⟨x,H1,i,w,dO⟩=>?_);let l ys rfl g q:=dO
 cases w
 refine Sk ?_;let d rv j hz:=i.list g;let a:d.toArray.J=ys.L:=by rw[NL,rv.L]
 refine call_reversed_list j.isList ?_;refine Sk ?_;let O:l<C.H.M.J:=by
  let o n f _:=j;exact RP f
 let G:nw H1 {C,C.H.e (revObj l ((d.toArray.J:Y)-1))}:=i.kept (t':=C.u) λb o e=>R8 _ e;let ab:(C.H.e (revObj l ((d.toArray.J:Y)-1))).IsRevIter C.H.M.J l ((d.toArray.J:Y)-1):=⟨_,R9 _ U,U,U⟩;refine Ff (T:="list_reverseiterator") (Walks.listRev (A:=X.A.in1.in1) (I.ok.hd J) C.H.M.J l (Nh O) d.toArray) (by rw[a];exact hz) ⟨ND _,by simpa using ab,j.isList.e _⟩ ∅ (λb M=>?fp) (λh z=>let ⟨o,c,J,_⟩:=z.2.1;⟨o,c,J⟩) ∅ ∅ (λh Q' E' z k=>IP z.2.1.typeIs (k C.u)) λh' tk r v D hS aa=>?_
 case fp=>
  rw[Sj];obtain e|e:=MY.mp M
  .rw[e];exact Oe _
  .rw[MQ.mp e];exact OB O
 let f0 f1 f2 f3 f4 f5:=i.fpOk (H':=H1) (MN _) (i.hok.fresh (MN _));let I3:nw H1 {C with heap:=h',toks:=tk}:=G.turned (t':=tk) (λb o M e=>D b o M e) f0 f1 f3 f4 f5;let fS:=G.fpOk (H':=H1) (MN _) (G.hok.fresh (MN _));let I4:=I3.track (o:=.lst ys.y) fS ⟨by rw[O4];exact hz,r.l,v,KQ rv aa,by rw[kf.toArray_toList];exact hS⟩
 erw[.ref _,_,I4,U,q _ fS.1]
section
variable{X:Cx}{k n:R}{f:fc}{fd:ge}{ps:E fI}{sp:Sp}{x:fI}{p pos:Pos}{e:hb}{es:E hb}{t:TA}
theorem Cal.c(G:Cal X.i X.w X.K X.mg X.base k x ps sp f fd)(u:Room n X.A)(O:PA X (e::es) t)(a:uP_ (Gl X x) uR_)(hl:k<=n:=by first|decide|lia)(l:uP_ ((x == ("__debug__" : fI))=k9) uD_)(N:uP_ (RV (e::es) X.j=(k9,eval e X.j)::RV es X.j) uR_)(d:uP_ ((backTo pos (RV es X.j)).any (·.1)=k9) uR_):PE X (.Call (.Name x p) (e::es) [] pos) (Hi sp [] E0 t):=
 Lw G.ok (u.mono hl) a G.mg G.kp G.bn .nil iX O l N d
theorem Cal.d(G:Cal X.i X.w X.K X.mg X.base k x ps sp f fd)(u:Room n X.A)(a:uP_ (Gl X x) uR_)(hl:k<=n:=by first|decide|lia)(l:uP_ ((x == ("__debug__" : fI))=k9) uD_):PE X (.Call (.Name x p) [] [] pos) (Hi sp [] E0 tNil):=
 HL G.ok (u.mono hl) a G.mg G.kp G.bn .nil iX l
end
section
variable{X:Cx}{a b:hb}{ta tb:TE}{pos:Pos}
theorem ba(O:PE X a ta)(M:PE X b tb)(T:rT b:=by exact λ_ _=>rfl):PE X (.Subscript a b pos) (tOp (rIxL X.K) ta tb):=xj oG O M T
theorem bV(O:PE X a ta)(M:PE X b tb)(T:rT b:=by exact λ_ _=>rfl):PE X (.Subscript a b pos) (tOp (rIxT X.K) ta tb):=xj Ki O M T
theorem pB(K:MJ)(O:PE X a ta)(M:PE X b tb)(T:rT b:=by exact λ_ _=>rfl)(h:uP_ (X.K=K) uR_):PE X (.Subscript a b pos) (tOp (rIxL K) ta tb):=xj (IJ h) O M T
theorem pA(K:MJ)(O:PE X a ta)(M:PE X b tb)(T:rT b:=by exact λ_ _=>rfl)(h:uP_ (X.K=K) uR_):PE X (.Subscript a b pos) (tOp (rIxT K) ta tb):=xj (Ma h) O M T
theorem aA(i:R){c:Pos}(a:X.N.h)(v:PE X e eK)(hi:uP_ (X.N[i]?=Z x) uR_)(B:Loc X.j.scope x:=by first|exact .inl rfl|exact .inr U)(T:uP_ (swapsWith e (Z (.Name x c)) pos.line X.j=pure k9) uR_)(A:X.fn x=kt∨X.j.scope.names.Y x=Z .local:=by first|exact .inl rfl|exact .inr rfl|assumption):
  PS X (.Assign [.Name x c] e pos) (tAsg eK (sy i)):=ps_set a hi B v T A
theorem bq(i:R)(a:X.N.h)(hi:uP_ (X.N[i]?=Z x) uR_)(B:Loc X.j.scope x:=by first|exact .inl rfl|exact .inr U)(A:X.fn x=kt∨X.j.scope.names.Y x=Z .local:=by first|exact .inl rfl|exact .inr rfl|assumption):PG X (.Name x pos) (sy i):=aY a hi B A
end
def AllL{α:Type}(Q:α->Prop):E α->Prop
 |[]=>True
 |x::r=>Q x/\AllL Q r
theorem AllL.mem{α:Type}{Q:α->Prop}:∀{l:E α},AllL Q l->∀ x∈l,Q x
 |_::_,h,_,.head _=>h.1
 |_::_,h,_,.tail _ m=>AllL.mem h.2 _ m
section
variable{X:Cx}{scope:io}{elt iter tg:hb}{ifs:E hb}{pos:Pos}{tt:TT}{tgt:TG}{wi:TI}{te:TE}
theorem pN.au{xs:E fI}(clos:uP_ (closureFor scope X.j=pure (clOf X.j fr)) uR_)(cell:uP_ (∀ y∈scope.names,y.2≠.cell) uD_)(kind:uP_ (scope.kind=.function) uR_)(names:uP_ (∀ y∈scope.names,y.2=.local->scope.names.Y y.1=Z .local) uD_)(slot:AllL (λp=>X.N[p.2]?=Z p.1/\X.j.kindOf p.1=Z .cell) fr:=by repeat (first|exact True.intro|erw[⟨rfl,rfl⟩,3]))(a:uP_ (∀ z∈scope.names,z.2=.free->z.1∈fr.Z (·.1)) uD_)(frk:AllL (λp=>(relabel scope X.j).names.Y p.1=Z .cell) fr:=by repeat (first|exact True.intro|erw[rfl,3])):pN X scope fr xs:=
 .of clos cell kind names slot.mem a frk.mem
theorem cM(fr:E (fI×R))(xs:E fI)(hi:PI X tg iter wi)(b:∀ C ex s H,PG (cxG X scope fr xs C ex s H) tg tgt)(g:∀ C ex s H,PTs (cxG X scope fr xs C ex s H) ifs tt)(N:∀ C ex s H,PE (cxG X scope fr xs C ex s H) elt te)(J:uP_ (X.calm=kt) uR_)(O:pN X scope fr xs:=by exact .au)(T:∀ x,Sb iter X.j x=pure x:=by intro _;rfl):PE X (.ListComp elt [⟨tg,iter,ifs,0⟩] scope pos) (JD wi tgt tt te xs.L fr):=
 HK J O hi b g N T
theorem lY(i:R)(fr:E (fI×R))(xs:E fI){y:fI}{d c:Pos}(a:X.N.h)(hi:PI X tg iter wi)(b:∀ C ex s H,PG (cxG X scope fr xs C ex s H) tg tgt)(g:∀ C ex s H,PTs (cxG X scope fr xs C ex s H) ifs tt)(v:∀ C ex s H,PE (cxG X scope fr xs C ex s H) elt te)(J:uP_ (X.calm=kt) uR_)(w:uP_ (X.N[i]?=Z y) uR_)(j:uP_ (X.j.scope.names.Y y=Z .local) uR_)(O:pN X scope fr xs:=by exact .au)(e:uP_ (swapsWith (.ListComp elt [⟨tg,iter,ifs,0⟩] scope pos) (Z (.Name y d)) c.line X.j=pure kt) uR_)(T:∀ x,Sb iter X.j x=pure x:=by intro _;rfl):
  PS X (.Assign [.Name y d] (.ListComp elt [⟨tg,iter,ifs,0⟩] scope pos) c) (wK i wi tgt tt te xs.L fr):=
 zy J a w j O hi b g v e T
theorem pg_c{xs:E fI}(a:uP_ ((xs++fr.Z (·.1)).h) uD_)(p:uP_ ((xs++fr.Z (·.1))[0]?=Z x) uR_)(B:∀ C ex s H,Loc (cxG X scope fr xs C ex s H).j.scope x:=by exact λ_ _ _ _=>.inl U)(A:∀ C ex s H,(cxG X scope fr xs C ex s H).fn x=kt∨(cxG X scope fr xs C ex s H).j.scope.names.Y x=Z .local:=by exact λ_ _ _ _=>.inr U):
  ∀ C ex s H,PG (cxG X scope fr xs C ex s H) (.Name x pos) (sy 0):=λC ex s H=>aY (X:=cxG X scope fr xs C ex s H) a p (B C ex s H) (A C ex s H)
theorem pt_c{xs:E fI}:∀ C ex s H,PTs (cxG X scope fr xs C ex s H) [] tYes:=λ_ _ _ _=>Lo
end
end L2
local macro_rules|`(#[$xs,*])=>do `(⟨$[$(←hA (xs.getElems.map λe=>e.raw))],*⟩)
namespace K2
def S:E R->R
 |[]=>0
 |p::r=>2^p+S r
def MC{p:R}(h:n.O p=k9)(i:R):(n+2^p).O i=(n.O i||decide (i=p)):=by
 let e:n+2^p=n|||2^p:=by
  let f:n&&&2^p=0:=by
   apply NC;intro j;rw[NA,Nu,NI];by_cases L:p=j
   .subst L;simp[h]
   .simp[L]
  let q:∀ m k:R,(m|||k)+(m&&&k)=m+k:=by
   intro m;induction m using Nat.strongRecOn with
   |ind m C=>
    intro n;by_cases A:m=0
    .simp[*]
    .let a:=C (m/2) ∅ (n/2)
     rw[← Nat.or_div_two,← Nat.and_div_two]at a;let g:=@Nat.or_mod_two_eq_one m n;let r:=@Nat.and_mod_two_eq_one m n;lia
  let:=q n (2^p);rw[f]at this;lia
 rw[e,NS,Nu];congr 1;exact decide_eq_decide.mpr #[λh=>h.X,λh=>h.X]
theorem S_bit:∀{D:E R},D.h->∀ i,(S D).O i=decide (i∈D)
 |[],_,i=>by simp[S]
 |p::r,nd,i=>by
  let ⟨eK,O⟩:=Nt.mp nd;let G:(S r).O p=k9:=by rw[S_bit O];exact RN eK
  let e:S (p::r)=S r+2^p:=Nat.add_comm _ _;rw[e,MC G,S_bit O];grind
def bitsF(k n:R):E R:=if h:n=0 then[] else(if n%2=1 then[k] else[])++bitsF (k+1) (n/2)
termination_by n
decreasing_by lia
def bitsF_zero(k:R):bitsF k 0=[]:=by rw[bitsF];simp
def bitsF_odd{k:R}(h:n%2=1):bitsF k n=k::bitsF (k+1) (n/2):=by
 rw[bitsF,dif_neg ∅,Ti h];rfl
def bitsF_even{k:R}(A:n≠0)(h:¬ n%2=1):bitsF k n=bitsF (k+1) (n/2):=by
 rw[bitsF,dif_neg A,Tj h];rfl
theorem wx:∀(f n k:R),n<=f->∀ p∈bitsF k n,k<=p
 |0,n,k,h=>by
  let z:n=0:=by lia
  subst z;rw[bitsF_zero];simp
 |f+1,n,k,h=>by
  intro p G;by_cases z:n=0
  .subst z;rw[bitsF_zero]at G;cases G
  .by_cases o:n%2=1
   .rw[bitsF_odd o]at G;obtain e|G:=MY.mp G
    .lia
    .let:=wx f (n/2) (k+1) ∅ p G;lia
   .rw[bitsF_even z o]at G;let:=wx f (n/2) (k+1) ∅ p G;lia
theorem bitsF_sorted:∀(f n k:R),n<=f->(bitsF k n).f (· < ·)
 |0,n,k,h=>by
  let z:n=0:=by lia
  subst z;rw[bitsF_zero];simp
 |f+1,n,k,h=>by
  by_cases z:n=0
  .subst z;rw[bitsF_zero];simp
  .by_cases o:n%2=1
   .rw[bitsF_odd o];exact List.Pairwise.cons (λp G=>wx f (n/2) (k+1) ∅ p G) (bitsF_sorted f (n/2) (k+1) ∅)
   .rw[bitsF_even z o];exact bitsF_sorted f (n/2) (k+1) ∅
theorem bitsF_sum:∀(f n k:R),n<=f->S (bitsF k n)=n*2^k
 |0,n,k,h=>by
  let z:n=0:=by lia
  subst z;rw[bitsF_zero];simp[S]
 |f+1,n,k,h=>by
  by_cases z:n=0
  .subst z;rw[bitsF_zero];simp[S]
  .let C:=bitsF_sum f (n/2) (k+1) ∅
   let e:n/2*2^(k+1)=(2*(n/2))*2^k:=by rw[Nat.pow_succ,Nat.mul_comm (2^k) 2,← Nat.mul_assoc,Nat.mul_comm (n/2) 2]
   by_cases o:n%2=1
   .rw[bitsF_odd o];show 2^k+S (bitsF (k+1) (n/2))=_;rw[C,e];let:n=2*(n/2)+1:=by lia
    let A:n*2^k=(2*(n/2)+1)*2^k:=by rw[← this]
    rw[A,Nat.add_mul,Nat.one_mul];lia
   .rw[bitsF_even z o,C,e];let:n=2*(n/2):=by lia
    let A:n*2^k=(2*(n/2))*2^k:=by rw[← this]
    rw[A]
theorem bitsF_lt:∀(m n k:R),n<2^m->∀ p∈bitsF k n,p<k+m
 |0,n,k,h=>by
  let z:n=0:=by lia
  subst z;rw[bitsF_zero];intro p G;cases G
 |m+1,n,k,h=>by
  intro p G;let O:n/2<2^m:=by rw[Nat.pow_succ]at h;lia
  by_cases z:n=0
  .subst z;rw[bitsF_zero]at G;cases G
  .by_cases o:n%2=1
   .rw[bitsF_odd o]at G;obtain e|G:=MY.mp G
    .lia
    .let:=bitsF_lt m (n/2) (k+1) O p G;lia
   .rw[bitsF_even z o]at G;let:=bitsF_lt m (n/2) (k+1) O p G;lia
theorem bitsF_len:∀(m n k:R),n<2^m->(bitsF k n).L<=m
 |0,n,k,h=>by
  let z:n=0:=by lia
  subst z;rw[bitsF_zero];exact MN _
 |m+1,n,k,h=>by
  let O:n/2<2^m:=by rw[Nat.pow_succ]at h;lia
  by_cases z:n=0
  .subst z;rw[bitsF_zero];exact ND _
  .by_cases o:n%2=1
   .rw[bitsF_odd o];let:=bitsF_len m (n/2) (k+1) O;simp[*]
   .rw[bitsF_even z o];let:=bitsF_len m (n/2) (k+1) O;lia
theorem nodup_of_lt(h:l.f (· < ·)):l.h:=h.imp λh=>Nh h
end K2
namespace KF
open PySem L2
def top(i:R):hr:=PySem.Challenge.pw_spinfloor_k80_whole_rings.main.body.getD i (.Pass #[00,00,00,00])
abbrev mY:hr:=top 17
abbrev pU:hr:=top 19
abbrev kJ:hr:=top 20
abbrev jN:hr:=top 21
abbrev pR:hr:=top 22
abbrev ux:hr:=top 23
abbrev Bt:hr:=top 12
abbrev Bs:hr:=top 13
abbrev Ht:hr:=top 14
abbrev mZ:hr:=top 15
abbrev dQ:hr:=top 26
abbrev iU:hr:=top 27
abbrev cp:hr:=top 28
abbrev iQ:hr:=top 29
abbrev pS:hr:=top 30
abbrev mX:hr:=top 31
abbrev m5:hr:=top 32
abbrev m6:hr:=top 49
abbrev pT:hr:=top 50
abbrev uB:hr:=top 51
abbrev iP:hr:=top 34
abbrev Lk:=R×R×Y
def bey(l:Lk)(r:R):R:=if r=l.1 then l.2.1 else l.1
def nu(l:Lk)(r:R):Prop:=r=l.1∨r=l.2.1
def My{l:Lk}{r:R}(h:nu l r):nu l (bey l r):=by
 unfold bey;split
 .exact .inr U
 .exact .inl U
def Mz{l:Lk}{r:R}(h:nu l r):bey l (bey l r)=r:=by
 unfold bey;by_cases c:r=l.1
 .simp!
 .rw[Tj c,Ti U];obtain h|h:=h
  .contradiction
  .exact h.X
def bey_lt{l:Lk}{r:R}(eK:l.1<n)(h2:l.2.1<n):bey l r<n:=by
 unfold bey;split<;>assumption
def Crs(ls:E Lk):Prop:=∀ l∈ls,l.1<2/\l.2.1<2/\l.1≠l.2.1
def Crs.bey{ls:E Lk}(C:Crs ls){l:Lk}(hl:l∈ls){r:R}(u:r<2):nu l r/\bey l r=1-r:=by
 let eK O G:=C l hl;unfold nu KF.bey;split<;>lia
def Crs.end{ls:E Lk}(C:Crs ls){l:Lk}(hl:l∈ls){r:R}(h:nu l r):r<2:=by
 let eK O G:=C l hl;unfold nu at h;lia
theorem BI:∀(n:R)(c:E R),c.h->(∀ x∈c,x<n)->c.L<=n
 |0,c,_,h=>by
  cases c with
  |nil=>exact MN _
  |cons x r=>exact Tn (h x (M7 ..)) (NM _)
 |n+1,c,nd,h=>by
  let eK:=BI n (c.erase n) (nd.erase _) λx B=>by
   let y:=List.mem_of_mem_erase B;let:=h x y;grind
  grind
def vOf(B:R)(o:j5 Y):R:=match o with|none=>B|some x=>x.R
def wgt(B:R)(T:E (j5 Y)):R:=(T.Z (vOf B)).sum
theorem DN{α:Type}(f:α->R):∀(l:E α)(i:R)(x y:α),l[i]?=Z x->((l.set i y).Z f).sum+f x=(l.Z f).sum+f y
 |a::l,0,x,y,e=>by
  cases e
  grind
 |a::l,i+1,x,y,e=>by
  let:=DN f l i x y e;grind
 |[],i,x,y,e=>by contradiction
structure FI(n:R)(ls:E Lk)(s:R)(M:R)(T:E (j5 Y))(vv:E (j5 R))(W:E R)(ex:R->R->Prop):Prop where
 w0:∀ l∈ls,0<=l.2.2/\l.2.2<=(M:Y)
 n2:n=2
 cr:Crs ls
 tl:T.L=n
 vl:vv.L=n
 st:T[s]?=Z (Z 0)
 vs:vv[s]?=Z lf
 pr:∀(r k:R),vv[r]?=Z (Z k)->∃ l:Lk,ls[k]?=Z l/\T[r]?=Z (Z l.2.2)
 hv:∀(r:R)(x:Y),T[r]?=Z (Z x)->r≠s->∃ k,vv[r]?=Z (Z k)
 rl:∀(r:R)(x:Y)(i:R)(l:Lk),T[r]?=Z (Z x)->r∉W->ls[i]?=Z l->nu l r->ex r i∨∃ y:Y,T[bey l r]?=Z (Z y)/\y<=x+l.2.2
 wk:∀ r∈W,∃ x:Y,T[r]?=Z (Z x)
def Bp{l:E α}{x:α}(hi:i<l.L):(l.set i x)[j]?=if i=j then Z x else l[j]?:=by
 rw[OS];simp[*]
def FI.nn{ls:E Lk}{s:R}{H:E (j5 R)}(I:FI n ls s M T H W ex){r:R}{x:Y}(h:T[r]?=Z (Z x)):0<=x/\x<=(M:Y):=by
 by_cases c:r=s
 .rw[c,I.st]at h
  cases h
  lia
 .let k D:=I.hv r x h c;let l e q:=I.pr r k D;rw[h]at q
  cases q
  exact I.w0 l (MH e)
def FI.mend{ls:E Lk}{s:R}{H:E (j5 R)}{W':E R}(I:FI n ls s M T H W ex){k:R}{l:Lk}{x:Y}{o:j5 Y}(hl:ls[k]?=Z l)(w:nu l m)(B:T[m]?=Z (Z x))(D:T[bey l m]?=Z o)(Q:∀ y,o=Z y->x+l.2.2<y)(p:∀ r,r∈W'↔r∈W∨r=bey l m)(aa:∀ r i,ex r i->ex' r i∨(r=m/\i=k)):
  FI n ls s M (T.set (bey l m) (Z (x+l.2.2))) (H.set (bey l m) (Z k)) W' ex':=by
 let ab:=MH hl;let A:=I.w0 l ab;let t:bey l m<T.L:=(MF.mp D).1;let tl:=I.tl;let q:=I.vl;let g:=I.n2;let x0:=I.nn B;let v:=I.cr.end ab w;let C:=(I.cr.bey ab v).2;let b:s<T.L:=(MF.mp I.st).1;let J:bey l m≠s:=λe=>by
  rw[e,I.st]at D;let:=Q 0 (Ny D).X;lia
 let f:m=s:=by lia
 let ac:x=0:=by
  rw[f,I.st]at B
  cases B
  rfl
 let N:∀ r:R,(T.set (bey l m) (Z (x+l.2.2)))[r]?=if bey l m=r then Z (Z (x+l.2.2)) else T[r]?:=λr=>Bp t;let gV:∀ r:R,(H.set (bey l m) (Z k))[r]?=if bey l m=r then Z (Z k) else H[r]?:=λr=>Bp ∅
 let low:∀(r:R)(y:Y),T[r]?=Z (Z y)->∃ z:Y,(T.set (bey l m) (Z (x+l.2.2)))[r]?=Z (Z z)/\z<=y:=λr y e=>by
  rw[N];by_cases c:bey l m=r
  .rw[Ti c];rw[← c,D]at e
   cases e
   erw[9,Int.le_of_lt (Q y U)]
  .rw[Tj c];erw[y,e,N6 _]
 erw[I.w0,g,I.cr,by simp[*],by simp[*],by rw[N,Tj J];exact I.st,by rw[gV,Tj J];exact I.vs,λr j e=>?_,λr y e u=>?_,λr y i L e u a d=>?_,λr u=>?_]
 .rw[gV]at e;rw[N];by_cases c:bey l m=r
  .rw[Ti c]at e ⊢
   cases e
   erw[l,hl,by rw[ac,N1]]
  .rw[Tj c]at e ⊢;exact I.pr r j e
 .rw[N]at e;rw[gV];by_cases c:bey l m=r
  .rw[Ti c];erw[k,U]
  .rw[Tj c]at e ⊢;exact I.hv r y e u
 .let nr:r∉W/\r≠bey l m:=#[λz=>u ((p r).mpr (.inl z)),λz=>u ((p r).mpr (.inr z))]
  rw[N,Tj (Ne.X nr.2)]at e;obtain h|⟨z,eK,O⟩:=I.rl r y i L e nr.1 a d
  .obtain h|⟨eK,O⟩:=aa r i h
   .exact .inl h
   .simp!
  .let z' G dO:=low _ _ eK;exact .inr #[z',G,4]
 .rcases(p r).mp u with h|h
  .let y e:=I.wk r h;let z G _:=low _ _ e;erw[z,G]
  .rw[h];erw[_,by rw[N,Ti U]]
theorem FI.leave{ls:E Lk}{s:R}{H:E (j5 R)}(I:FI n ls s M T H W ex){k:R}{l:Lk}{x y:Y}(hl:ls[k]?=Z l)(B:T[m]?=Z (Z x))(j:T[bey l m]?=Z (Z y))(b:y<=x+l.2.2)(c:∀ r i,ex r i->ex' r i∨(r=m/\i=k)):FI n ls s M T H W ex':=
 #[I.w0,I.n2,I.cr,I.tl,I.vl,I.st,I.vs,I.pr,I.hv,λr z i o e u a d=>by
  obtain h|h:=I.rl r z i o e u a d
  .obtain h|⟨eK,O⟩:=c r i h
   .exact .inl h
   .simp!
  .exact .inr h,I.wk]
def G0{ls:E Lk}{s:R}{H:E (j5 R)}(I:FI n ls s M T H W ex){t:R}{x w:Y}{o:j5 Y}(a:0<=w)(b:w<=(M:Y))(B:T[m]?=Z (Z x))(D:T[t]?=Z o)(Q:∀ y,o=Z y->x+w<y):
  wgt (n*M+1) (T.set t (Z (x+w)))+1<=wgt (n*M+1) T:=by
 let e:=DN (vOf (n*M+1)) T t o (Z (x+w)) D;let C:=I.nn B;let g:=I.n2;let f:vOf (n*M+1) (Z (x+w))=(x+w).R:=rfl;unfold wgt;rw[f]at e
 cases o with
 |none=>
  let A:vOf (n*M+1) lf=n*M+1:=rfl;rw[A,g]at e;rw[g];lia
 |some z=>
  let:=Q z U;let A:vOf (n*M+1) (Z z)=z.R:=rfl;grind
def FI.first{ls:E Lk}{s:R}(Q:∀ l∈ls,0<=l.2.2/\l.2.2<=(M:Y))(g:n=2)(cr:Crs ls)(T:s<n):FI n ls s M ((MV n lf).set s (Z 0)) (MV n lf) [s] (λ_ _=>False):=by
 let N:∀ r:R,((MV n (lf:j5 Y)).set s (Z 0))[r]?=if s=r then Z (Z 0) else(MV n lf)[r]?:=λr=>Bp (by rw[NR];exact T)
 let b:∀{a:Type}(r:R)(x:a),(MV n (lf:j5 a))[r]?≠Z (Z x):=λr x e=>by
  let:=MH e;simp!
 let one:∀(r:R)(x:Y),((MV n (lf:j5 Y)).set s (Z 0))[r]?=Z (Z x)->r=s:=λr x e=>by
  rw[N]at e;by_cases c:s=r
  .exact c.X
  .rw[Tj c]at e;exact Tn e (b r x)
 erw[Q,g,cr,by rw[N5,NR],NR,by rw[N,Ti U],by rw[Ow,Ti T],λr k e=>Tn e (b r k),λr x e h=>Tn (one r x e) h,λr x i l e u=>Tn (MQ.mpr (one r x e)) u,λr u=>?_]
 rw[MQ.mp u];erw[00,by rw[N,Ti U]]
theorem FI.take{ls:E Lk}{s:R}{H:E (j5 R)}{W':E R}(I:FI n ls s M T H W (λ_ _=>False))(p:∀ r,r∈W'↔r∈W/\r≠m):FI n ls s M T H W' (λr _=>r=m):=
 #[I.w0,I.n2,I.cr,I.tl,I.vl,I.st,I.vs,I.pr,I.hv,λr x i l e u t d=>by
  by_cases c:r=m
  .exact .inl c
  .rcases I.rl r x i l e (λz=>u ((p r).mpr ⟨z,c⟩)) t d with h|h
   .exact h.elim
   .exact .inr h,λr u=>I.wk r ((p r).mp u).1]
theorem FI.exw{ls:E Lk}{s:R}{H:E (j5 R)}(I:FI n ls s M T H W ex)(h:∀ r i l,ls[i]?=Z l->nu l r->ex r i->ex' r i):FI n ls s M T H W ex':=
 #[I.w0,I.n2,I.cr,I.tl,I.vl,I.st,I.vs,I.pr,I.hv,λr x i l e u t d=>by
  obtain z|z:=I.rl r x i l e u t d
  .exact .inl (h r i l t d z)
  .exact .inr z,I.wk]
structure Mn(ls:E Lk)(d:Y):Prop where
 ex:∃ l∈ls,l.2.2=d
 le:∀ l∈ls,d<=l.2.2
def Mn.uniq{ls:E Lk}{d d':Y}(h:Mn ls d)(g:Mn ls d'):d=d':=by
 let l M e:=h.ex;let o a Q:=g.ex;let:=h.le o a;let:=g.le l M;lia
def D2(d:Y)(i j:R):Y:=if i=j then 0 else d
def FI.two{ls:E Lk}{s:R}{H:E (j5 R)}(I:FI n ls s M T H [] (λ_ _=>False))(ne:0<ls.L):∃(d:Y)(k:R)(l:Lk),Mn ls d/\ls[k]?=Z l/\H[1-s]?=Z (Z k)/\∀ r,r<2->T[r]?=Z (Z (D2 d s r)):=by
 let b:s<T.L:=(MF.mp I.st).1;let tl:=I.tl;let g:=I.n2;let B:∀ l∈ls,∃ y:Y,T[1-s]?=Z (Z y)/\y<=l.2.2:=λl t=>by
  let i J:=Nx t;let b1 b2:=I.cr.bey t (show s<2 by lia)
  obtain h|⟨y,eK,O⟩:=I.rl s 0 i l I.st ∅ J b1
  .exact h.elim
  .erw[y,by rw[← b2];exact eK,4]
 let y eK _:=B ls[0] (Px ne);let k D:=I.hv _ y eK ∅
 let l e q:=I.pr _ k D;rw[eK]at q
 cases q
 erw[l.2.2,k,l,#[#[l,MH e,U],λo a=>?_],e,D,λr u=>?_]
 .let f L v:=B o a;rw[eK]at L
  cases L
  exact v
 .unfold D2;by_cases c:s=r
  .rw[Ti c,← c];exact I.st
  .rw[Tj c,show r=1-s by lia];exact eK
theorem aj(h:H p=lf)(o:HO):Same H (upd H p o):=λb u q=>by rw[aw (aH q h)];exact q
theorem aK{l:fc}(h:Same H H2)(hl:H l=lf)(o:HO):Same H (upd H2 l o):=λb u q=>by rw[aw (aH q hl)];exact h b u q
def fM(s:o5)(h:H' p=lf):H p=lf:=by
 cases y:H p with
 |none=>rfl
 |some o=>rw[s _ _ y]at h;cases h
def iV(p:R):V:=.int (p:Y)
theorem at0{x:V}:atI [x,y] 0=Z x:=rfl
theorem at1{x:V}:atI [x,y] 1=Z y:=rfl
theorem a30{x z:V}:atI [x,y,z] 0=Z x:=rfl
theorem a31{x z:V}:atI [x,y,z] 1=Z y:=rfl
theorem a32{x z:V}:atI [x,y,z] 2=Z z:=rfl
def LkAt(H:Hp)(v:V)(l:Lk):Prop:=∃ t,v=.ref t/\H t=Z (.tup [.int (l.1:Y),.int (l.2.1:Y),.int l.2.2])
def LnAt(H:Hp)(v:V)(ls:E Lk):Prop:=∃ a k,v=.ref a/\H a=Z (.lst k)/\LsAt LkAt H k ls
def LkAt.mono{p:Lk}(h:LkAt H v p)(s:o5):LkAt H' v p:=by
 let t e z:=h;erw[t,e,s _ _ z]
def LnAt.mono{H H':Hp}{v:V}{r:E Lk}(h:LnAt H v r)(s:o5):LnAt H' v r:=by
 let a k e z l:=h;erw[a,k,e,s _ _ z,l.imp λ_ _ q=>q.mono s]
def MM:R:=10^31
structure Lok(n:R)(ls:E Lk):Prop where
 n1:n<=40
 l9:ls.L<=60
 sm:∀ l∈ls,l.1<n/\l.2.1<n
 w0:∀ l∈ls,0<=l.2.2/\l.2.2<=(MM:Y)
def bK(S:fc->Prop)(H:Hp)(xs:E V)(ts:oD):Prop:=xs.L=ts.L/\∀(i:R)(l:E R),ts[i]?=Z l->∃ p,xs[i]?=Z (.ref p)/\¬ S p/\H p=Z (.lst (l.Z iV))
theorem bK.mono{S:fc->Prop}(h:bK S H xs ts)(s:∀ b u,¬ S b->H b=Z u->H' b=Z u):bK S H' xs ts:=#[h.1,λi e q=>by
 let p a n b:=h.2 i e q
 erw[p,a,n,s _ _ n b]]
def bK.snoc{S:fc->Prop}(h:bK S H xs ts)(n:¬ S q)(e:H q=Z (.lst (l.Z iV))):bK S H (xs++[.ref q]) (ts++[l]):=by
 erw[by rw[MP,MP,h.1];rfl,λj k G=>?_]
 by_cases L:j<ts.L
 .rw[MT L]at G;let p r u I:=h.2 j k G;erw[p,by rw[MT (by rw[h.1];exact L)];exact r,u,I]
 .rw[MR (Qo L)]at G;let b:j=ts.L:=by
   let:=(MF.mp G).1;rw[M9]at this;lia
  subst b;rw[Nz]at G
  cases G
  erw[q,by rw[← h.1,MR (MN _),Nz];rfl,n,e]
def Dist(xs:E V):Prop:=∀(i j:R)(p:fc),xs[i]?=Z (.ref p)->xs[j]?=Z (.ref p)->i=j
def bK.set{S:fc->Prop}(h:bK S H xs ts)(D:Dist xs)(e:xs[i]?=Z (.ref p)):bK S (upd H p (.lst (l'.Z iV))) xs (ts.set i l'):=by
 erw[by rw[N5];exact h.1,λj l z=>?_]
 let J:i<ts.L:=by rw[← h.1];exact(MF.mp e).1
 rw[OS]at z;by_cases L:i=j
 .subst L;rw[Ti U,Ti J]at z
  cases z
  let B r u I:=h.2 i _ (MG J);rw[e]at r
  cases r
  erw[p,e,u,ag]
 .rw[Tj L]at z;let B r u I:=h.2 j l z;erw[B,r,u,by rw[aw (λy=>by rw[y]at r;exact L (D i j p e r))];exact I]
def rF{S:fc->Prop}(h:bK S H xs ts)(D:Dist xs)(n:H q=lf):Dist (xs++[.ref q]):=by
 let a:∀ i p,xs[i]?=Z (V.ref p)->p≠q:=λi p e z=>by
  let J:i<ts.L:=by rw[← h.1];exact(MF.mp e).1
  let B r _ I:=h.2 i _ (MG J);simp!
 let b:∀ i p,(xs++[V.ref q])[i]?=Z (V.ref p)->(xs[i]?=Z (V.ref p))∨(i=xs.L/\p=q):=λi p e=>by
  by_cases c:i<xs.L
  .rw[MT c]at e;exact .inl e
  .rw[MR (Qo c)]at e;let O:=(MF.mp e).1;rw[M9]at O;let G:i-xs.L=0:=by lia
   rw[G]at e;grind
 intro i j p f A;obtain eK|⟨eK,g⟩:=b i p f
 .obtain O|⟨O,v⟩:=b j p A
  .exact D i j p eK O
  .exact Tn v (a i p eK)
 .grind
structure AtM(n c:R)(rows:oD)(mem:R->R->Prop):Prop where
 len:rows.L=n
 mm:∀(r:R)(row:E R),rows[r]?=Z row->∀ j,j∈row↔mem r j
 few:∀ row∈rows,row.L<=c
def AtM.put{c:R}{rows:oD}{mem:R->R->Prop}(h:AtM n c rows mem){a:R}(hl:rows[a]?=Z l):AtM n (c+1) (rows.set a (l++[i])) (λr j=>mem r j∨(r=a/\j=i)):=by
 let O:=(MF.mp hl).1;erw[by rw[N5];exact h.len,λr row e j=>?_,λrow u=>?_]
 .rw[Bp O]at e;by_cases z:a=r
  .rw[Ti z]at e
   cases e
   subst z;rw[Ng,MQ,h.mm a l hl j];lia
  .rw[Tj z]at e;rw[h.mm r row e j];erw[.inl,λy=>y.elim id λy=>Tn y.1.X z]
 .obtain y|y:=Pr u
  .let:=h.few row y;lia
  .let:=h.few l (MH hl)
   simp[*]
def memL(ls:E Lk)(r j:R):Prop:=∃ l,ls[j]?=Z l/\nu l r
structure Txt(mg:fI->j5 eN):Prop where
 n_len:mg "len"=lf
 n_int:mg "int"=lf
 n_bool:mg "bool"=lf
 n_list:mg "list"=lf
 n_tuple:mg "tuple"=lf
 n_range:mg "range"=lf
 n_min:mg "min"=lf
 n_abs:mg "abs"=lf
 n_enumerate:mg "enumerate"=lf
 n_isinstance:mg "isinstance"=lf
inductive Lb
 |mk (v:V)(l:Lk)(r:R) (_:vs=[v,.int (r:Y)])(_:LkAt H v l)(_:Q (.int ((bey l r:R):Y)) H)
inductive spAt
 |mk (v:V)(n:R)(ls:E Lk) (_:vs=[.int (n:Y),v])(_:LnAt H v ls)(_:Lok n ls)(_:∀(p:fc)(ys:E V)(rows:oD) H',o5->H p=lf->H' p=Z (.lst ys)->bK (λq=>q=p∨H q≠lf) H' ys rows->AtM n 120 rows (memL ls)->Q (.ref p) H')
def Ei:az ["link","room"] ["link","room"] (aq pU):=by ac_nf
def ok_bey(F:Fun K "beyond" "beyond" pU f fd):li 1 f fd ["link","room"] Lb:=by
 refine F.ok Ei λL A eK s H m Q dO u h=>?_
 let v l r rfl{t rfl g}q:=h;intro J y;erw[_,(ao (aG (fk (aD cH (pv 1) (bV (pv 0) ak) (aJ _)) (bV (pv 0) ak) (bV (pv 0) ak)))),3];erw[153,t,_,00,41,SqT.of g,a30,230];refine ite2 (λc=>?_) (λc=>?_)
 .let B:r=l.1:=by lia
  let e:bey l r=l.2.1:=by unfold bey;rw[Ti B]
  rw[e]at q;erw[9,t,_,01,41,SqT.of g,a31,q]
 .let B:¬ r=l.1:=λz=>c (Sx (congrArg V.int ∅))
  let e:bey l r=l.1:=by unfold bey;rw[Tj B]
  rw[e]at q;erw[9,t,_,00,41,SqT.of g,a30,q]
def iJ:az ["many","links","at","number","link"] ["many","links"] (aq kJ):=by ac_nf
def ok_at(F:Fun K "links_at" "links_at" kJ f fd)(T:Txt mg):li 1 f fd ["many","links"] spAt:=by
 refine F.ok iJ λN A I s H m Q dO g h=>?_
 let v n ls rfl{a xs rfl hA hL}ok o:=h;let n1:=ok.n1;let l9:=ok.l9;let xl:=hL.1
 intros;erw[_,(af (lY 2 [] ["room"] iJ.nd (aP U T.n_range (ae (pv 0) ai)) pg_c pt_c (λC ex s H=>(bX ai)))
   (af (mx (lZ U T.n_enumerate (ae (pv 1) ai)) (iA U (aC (bq 3 iJ.nd) (aC (bq 4 iJ.nd) bx))) (af (aW (eF Na Nq Np aX (ba (pv 2) (bV (pv 4) ak)) (ae (pv 3) ai)))
   (ao (aW (eF Na Nq Np aX (ba (pv 2) (bV (pv 4) ak)) (ae (pv 3) ai))))))
   (ao (aG (pv 2))))),3]
 erw[5273,cA (n:=(n:Y).R) (λi k d=>Same H d/\bK (λp=>H p≠lf) d k (MV i [])/\Dist k) (by rw[MU];exact M4 (ax ∅)) #[λ_ _ e=>e,#[U,λi l e=>by simp at e],λi j p e=>by contradiction] ?_ ?_]
 .rintro i k d J ⟨q,rx,D⟩;erw[∅,λl M=>?_]
  let s3:=aj M (.lst []);erw[q.P s3,3,rF rx D M];rw[Of];exact(rx.mono λb u _ z=>s3 _ _ z).snoc (λz=>z (fM q M)) ag
 rintro k d a4 ⟨q,rx,D⟩ pn ah;rw[MU]at rx;let s3:=aj ah (.lst k);let a9:H pn=lf:=fM q ah
 let bd:bK (λp=>p=pn∨H p≠lf) (upd d pn (.lst k)) k (MV n []):=#[rx.1,λi l z=>by
  let p a1 a2 a3:=rx.2 i l z;let n2:p≠pn:=aH a3 ah
  erw[p,a1,by rintro(y|y);exact n2 y;exact a2 y,s3 _ _ a3]]
 let m0:AtM n 0 (MV n []) (memL (ls.x 0)):=#[NR,λr row e j=>by
  let:=(List.mem_replicate.mp (MH e)).2;subst this
  erw[(λz=>nomatch z),λ⟨l,z,_⟩=>by contradiction],λrow g=>by simp!]
 erw[9,a,U,#[_,SqL.of ((q.P s3) _ _ hA)],vt (K:=K) (xs:=xs) (λi L H5=>∃ v4 v5 rows,L=[Z (.int (n:Y)),Z (.ref a),Z (.ref pn),v4,v5]/\Same H H5/\H5 pn=Z (.lst k)/\bK (λp=>p=pn∨H p≠lf) H5 k rows/\AtM n (2*i) rows (memL (ls.x i)))
  #[149,q.P s3,ag,bd,m0] (λi L H5 _ aa=>by let _ _ _ _ z _:=aa;exact SqL.of (z _ _ hA)) ?_ ?_]
 .rintro i x L H5 T2 B ⟨v4,v5,rows,rfl,s5,ap,ar,am⟩ ac;let l M p rfl G:=hL.get B;let b1 b2:=ok.sm l (MH M);let sT:=aj ac (.tup [.int (i:Y),.ref p]);let s6:=s5.P sT;let a5:=s6 _ _ G;let bb:=am.len;let bn:i<ls.L:=(MF.mp M).1;let r1 ab:∃ r,rows[l.1]?=Z r:=#[_,MG ∅]
  let a6:bK (λp=>p=pn∨H p≠lf) (upd H5 T2 (.tup [.int (i:Y),.ref p])) k rows:=ar.mono λb u _ z=>sT _ _ z;let p1 y1 y2 y3:=a6.2 _ _ ab;let aS:∀{p:fc},¬ (p=pn∨H p≠lf)->H p=lf/\p≠pn:=λ{p} n=>by
   simp!
  let av be:=aS y2;let f1:=am.few r1 (MH ab);let aT:=sT _ _ ap;erw[T2,9,SqT.of ag,238998];erw[153,p,_,00,41,SqT.of a5,a30,pn,k,165,SqL.of aT,aF y1,.inl #[6,SqL.of y3],9,p1,165,y3,ax (by rw[MI];lia),3]
  let an:(r1.Z iV)++[V.int (i:Y)]=(r1++[i]).Z iV:=by rw[M0];rfl
  rw[an];let bi:=a6.set D y1 (l':=r1++[i]);let bm:=am.put (i:=i) ab;let s7:Same H (upd (upd H5 T2 (.tup [.int (i:Y),.ref p])) p1 (.lst ((r1++[i]).Z iV))):=aK s6 av _;let a8:=s7 _ _ G;let a0:(upd (upd H5 T2 (.tup [.int (i:Y),.ref p])) p1 (.lst ((r1++[i]).Z iV))) pn=Z (.lst k):=by rw[aw be.X];exact aT
  let r2 aL:∃ r,(rows.set l.1 (r1++[i]))[l.2.1]?=Z r:=#[_,MG (by simp[*])]
  let p2 z1 z2 z3:=bi.2 _ _ aL;let al bf:=aS z2;let f2:=bm.few r2 (MH aL);erw[153,p,_,01,41,SqT.of a8,a31,pn,k,165,SqL.of a0,aF z1,.inl #[6,SqL.of z3],9,p2,165,z3,ax (by grind),3]
  let aI:(r2.Z iV)++[V.int (i:Y)]=(r2++[i]).Z iV:=by rw[M0];rfl
  rw[aI];let bg:=bm.put (i:=i) aL;erw[5,(rows.set l.1 (r1++[i])).set l.2.1 (r2++[i]),U,aK s7 al _,by rw[aw bf.X];exact a0,bi.set D z1,bg.len,λr row e j=>?_,λrow g=>?_]
  .rw[bg.mm r row e j];unfold memL;rw[M5,M];let a7:(ls.x i).L=i:=by rw[NQ];lia
   constructor
   .rintro((⟨l',eK,O⟩|⟨eK,O⟩)|⟨eK,O⟩)
    .erw[l',by rw[MT (MF.mp eK).1];exact eK,O]
    .subst O;erw[l,by rw[MR ∅,a7,Nz];rfl,.inl eK]
    .subst O;erw[l,by rw[MR ∅,a7,Nz];rfl,.inr eK]
   .rintro⟨l',eK,O⟩;by_cases c:j<i
    .rw[MT ∅]at eK
     exact .inl (.inl #[l',eK,O])
    .rw[MR ∅]at eK
     let t:=(MF.mp eK).1;let h4:j=i:=by
      let:(j5.toList (Z l)).L=1:=rfl;lia
     subst h4;rw[a7,Nz]at eK
     cases eK
     obtain O|O:=O
     .exact .inl (.inr #[O,U])
     .exact .inr #[O,U]
  .let:=bg.few row g;lia
 .rintro L H5 ⟨v4,v5,rows,rfl,s5,ap,ar,am⟩;rw[xl,M8]at am;erw[9,o pn k rows H5 s5 a9 ap ar #[am.len,am.mm,λrow g=>by let:=am.few row g;lia]]
inductive spBits
 |mk (n:Y) (_:vs=[.int n])(_:0<=n)(_:n<1208925819614629174706176)(_:∀ r H',o5->H r=lf->H' r=Z (.lst ((K2.bitsF 0 n.R).Z iV))->Q (.ref r) H')
def n6:az ["mask","numbers","number","rest"] ["mask"] (aq Bt):=by ac_nf
def ok_bits(F:Fun K "bits" "bits" Bt f fd):li 1 f fd ["mask"] spBits:=by
 refine F.ok n6 λN A g s H m Q dO u h=>?_
 let n rfl p eK k:=h
 intro x D;erw[_,(af (aA 1 n6.nd (bX ai))
   (af (aA 2 n6.nd ak)
   (af (aA 3 n6.nd (pv 0))
   (af (gC PassesOwn.never (aD Ck (pv 3) ak (aJ _)) (af (bJ (aD cH (ay eI (pv 3) ak) ak (aJ _)) (ao (aW (eF Na Nq Np aX (pv 1) (ae (pv 2) ai)))) aN)
   (af (aA 3 n6.nd (ay qO (pv 3) ak))
   (ao (aA 2 n6.nd (ay cg (pv 2) ak))))))
   (ao (aG (pv 1))))))),3]
 erw[(by show 0<=RO;decide),λl t=>?_]
 let aa:(2:R)^80=1208925819614629174706176:=by decide
 let I:(K2.bitsF 0 n.R).L<=80:=K2.bitsF_len 80 n.R 0 ∅
 erw[9,iH (λL d=>∃(kn rn:R)(pre:E R),L=[Z (.int n),Z (.ref l),Z (.int (kn:Y)),Z (.int (rn:Y))]/\d l=Z (.lst (pre.Z iV))/\pre++K2.bitsF kn rn=K2.bitsF 0 n.R/\Same H d)
  (λL _=>match L with | [_,_,_,Z (.int r)]=>r.R|_=>0) #[00,n.R,[],3,ag,U,aj t _] ?_ ?_]
 .let e:((n.R:R):Y)=n:=by lia
  rw[e];rfl
 .rintro L d ⟨kn,rn,pre,rfl,G,M,T⟩;erw[236121];refine ite2 (λc=>?_) (λc=>?_)
  .let B:(0:Y)<(rn:Y):=S8 c
   let d2:((rn:Y)/2)=((rn/2:R):Y):=by lia
   let ab:pre.L<=80:=by
    let:=congrArg List.length M;rw[MP]at this;lia
   walk_at "rd";refine ite2 (λo=>?_) (λo=>?_)
   .let C:(rn:Y)%2=1:=V.int.inj (S8 o)
    erw[9,.inl #[6,SqL.of G],9,l,165,G,ax (by rw[MI];lia),3]
    walk_at "rd";erw[#[kn+1,rn/2,pre++[kn],255],3]
    .show[Z (V.int n),Z (V.ref l),Z (V.int ((kn:Y)+1)),Z (V.int ((rn:Y)/2))]=_;rw[d2];rfl
    .rw[ag,M0];rfl
    .rw[Qk,← M];let z:=K2.bitsF_odd (k:=kn) (n:=rn) ∅
     rw[z];rfl
    .exact aK T t _
    .show((rn:Y)/2).R<((rn:R):Y).R;lia
   .let C:¬ (rn:Y)%2=1:=λz=>o (Sx (congrArg V.int z))
    walk_at "rd";erw[#[kn+1,rn/2,pre,3,G,3,T],3]
    .show[Z (V.int n),Z (V.ref l),Z (V.int ((kn:Y)+1)),Z (V.int ((rn:Y)/2))]=_;rw[d2];rfl
    .rw[← M,K2.bitsF_even (k:=kn) (n:=rn) ∅ ∅]
    .show((rn:Y)/2).R<((rn:R):Y).R;lia
  .let B:¬ (0:Y)<(rn:Y):=λz=>c (Sx z)
   let z:rn=0:=by lia
   subst z;rw[K2.bitsF_zero,NT]at M;erw[57];exact k l d T t (by rw[G,M])
 .rintro L d Q1 Q2 J ⟨v,e,i,j,a,b,O,y,q⟩;erw[v,e,i,j,a,b,O,y,J _ _ q]
end KF
variable{ls:E KF.Lk}
namespace KF
open PySem L2
def lpF:Pos:=#[071,032,071,055]
def Fun.okT{a:fI}{st:hr}{c TT:fc}{N ps:E fI}{k:R}(F:Fun K x a st f fd)(S:az N ps (aq st))(g:Pn K x=some (c,TT))(T:NJ K RQ x=some (some (.ref f)))(len:∀ vs H Q dO,sp vs H Q dO->vs.L=ps.L)(G:∀(A:Around)(outer:E ih)(s:ff)(H:Hp)(vs:E V)(Q:VK)(dO:XK),Room k (A.deeper (PyProof.Rows.envOfC a (aq st) s.H.M.J f (.ref c)))->sp vs H Q dO ->
   let X:=(cxOf CX0 P w K mg base N a (aq st) f (.ref c) A outer s H dO).nox;let D:Ends:={nx:=λ_ H'=>Q .non H',rt:=Q};∃ t,PSs X (bz st) t/\t D (qA N vs) H):li (k+1) f fd ps sp:=by
 let l i kV C B p L j b rfl m z:=F.ex;let e:L=.ref c:=by
  unfold Pn at g;rw[T]at g;simp only[m]at g
  cases L<;>first|(contradiction)|skip
  simp only at g;split at g
  .split at g
   .simp!
   .contradiction
  .cases g
 subst e;refine IW m z S len λA outer s H vs Q dO u r=>?_;let t h q:=G A outer s H vs Q dO u r;erw[t,h.nox,q]
def oV:j5 Y->V|none=>.non|some x=>.int x
def oN:j5 R->V|none=>.non|some k=>.int (k:Y)
def kw(r:R):Key×V:=(Sum.inl (r:Y),.bl kt)
def lqF:fI:=("fares" : fI)++".<locals>."++"<lambda>"
def sF(l va wd TT p:fc):Prop:=p=TT∨p=l∨p=va∨p=wd
def KpS(S:fc->Prop)(H H':Hp):Prop:=∀ b o,¬ S b->H b=Z o->H' b=Z o
theorem KpS.upd{S:fc->Prop}(a:KpS S H H1)(G:S p)(o:HO):KpS S H (L2.upd H1 p o):=λc u n h=>by
 rw[aw (λz=>n (by rw[z];exact G))]
 exact a c u n h
inductive spFares(TT:fc)
 |mk (v:V)(n s:R)(ls:E Lk) (_:vs=[.int (n:Y),v,.int (s:Y)])(_:LnAt H v ls)(_:Lok n ls)(_:(n<=2/\2<=n))(_:Crs ls)(_:s<n)(_:Tb lqF lpF TT H)(_:∀(t ta va:fc)(TL:E (j5 Y))(VL:E (j5 R)) H',TbS TT H H'->Tb lqF lpF TT H'->H ta=lf->H va=lf->H' t=Z (.tup [.ref ta,.ref va])->H' ta=Z (.lst (TL.Z oV))->H' va=Z (.lst (VL.Z oN))->FI n ls s MM TL VL [] (λ_ _=>False)->Q (.ref t) H')
structure FH(ta va wd TT:fc)(n s:R)(ls:E Lk)(H1:Hp)(TL:E (j5 Y))(VL:E (j5 R))(W:E R)(ex:R->R->Prop)(H:Hp):Prop where
 kp:KpS (sF ta va wd TT) H1 H
 ht:H ta=Z (.lst (TL.Z oV))
 hv:H va=Z (.lst (VL.Z oN))
 hw:H wd=Z (.dK (W.Z kw))
 tb:Tb lqF lpF TT H
 fi:FI n ls s MM TL VL W ex
 nd:W.h
def vW(n:R)(v:V):R:=match v with | .int x=>x.R|_=>n*MM+1
def mesH(n:R)(l wd:fc)(H:Hp):R:=match H l,H wd with
 |some (.lst D),Z (.dK G)=>(D.Z (vW n)).sum*(n+1)+G.L
 |_,_=>0
def FH.mes{TT:fc}{s:R}{f:E (j5 R)}(h:FH a va wd TT n s ls H1 T f W ex H):mesH n a wd H=wgt (n*MM+1) T*(n+1)+W.L:=by
 unfold mesH wgt;rw[h.ht,h.hw];let e:(T.Z oV).Z (vW n)=T.Z (vOf (n*MM+1)):=by
  rw[NX];refine Od λo _=>?_
  cases o<;>rfl
 simp[*]
theorem FH.wlen{TT:fc}{s:R}{f:E (j5 R)}(h:FH a va wd TT n s ls H1 T f W ex H):W.L<=n:=
 BI n W h.nd λx B=>by
  let y j:=h.fi.wk x B;let:=(MF.mp j).1;rw[h.fi.tl]at this;exact this
def Kd{r s:R}(h:(kw r).1=(kw s).1):r=s:=by
 let:(r:Y)=(s:Y):=by injection h
 lia
theorem DA{r:R}:∀{W:E R},r∈W->valV (W.Z kw) (.inl (r:Y))=Z (.bl kt)
 |w::W,h=>by
  rw[NF];by_cases c:(kw w).1=Sum.inl (r:Y)
  .rw[bZ c];rfl
  .rw[bI c];refine DA ?_;obtain h|h:=MY.mp h
   .exact Tn (by rw[h];rfl) c
   .exact h
theorem no_kw{r:R}:∀{W:E R},r∉W->valV (W.Z kw) (.inl (r:Y))=lf
 |[],_=>rfl
 |w::W,h=>by
  rw[NF,bI (λc=>h (by rw[Kd (r:=w) (s:=r) c];exact M7 ..))]
  exact no_kw λz=>h (M6 _ z)
theorem AF(r:R):∀ W:E R,pH (W.Z kw) (.inl (r:Y))=(W.filter (λx=>decide (x≠r))).Z kw
 |[]=>rfl
 |w::W=>by
  rw[NF];by_cases c:w=r
  .rw[F2 (by rw[c];rfl),AF r W,OP (by simpa using c)]
  .rw[F3 (k:=Sum.inl (r:Y)) (λz=>c (Kd (r:=w) (s:=r) z)),AF r W,OO (by simp!),NF]
def put_kw{t:R}(nd:W.h):∃ W':E R,putK (W.Z kw) (.inl (t:Y)) (.bl kt)=W'.Z kw/\W'.h/\∀ r,r∈W'↔r∈W∨r=t:=by
 by_cases c:t∈W
 .erw[W,3,nd,λr=>#[.inl,λz=>z.elim id λz=>z▸c]];unfold putK;rw[iI,DA c,j5.isSome_some,Ti U];rw[NX];refine Od λx _=>?_;show(if(kw x).1=Sum.inl (t:Y) then((kw x).1,V.bl kt) else kw x)=kw x;split<;>rfl
 .erw[W++[t],by rw[uD _ (no_kw c),M0];rfl,EZ nd c,λr=>by simp]
structure Sg(la aa ta va wd TT:fc)(n s:R)(ls:E Lk)(xs ys:E V)(rows:oD)(H1:Hp):Prop where
 hA:H1 la=Z (.lst xs)
 hL:LsAt LkAt H1 xs ls
 ok:Lok n ls
 hR:H1 aa=Z (.lst ys)
 rx:bK (sF ta va wd TT) H1 ys rows
 am:AtM n 120 rows (memL ls)
 nla:¬ sF ta va wd TT la
 naa:¬ sF ta va wd TT aa
 tt:∀ t o,H1 t=Z (.tup o)->¬ sF ta va wd TT t
 ntv:ta≠va
 ntw:ta≠wd
 nvw:va≠wd
 nTt:ta≠TT
 nTv:va≠TT
 nTw:wd≠TT
def tZ{q:fI}{x:Pos}{TT:fc}(h:Tb q x TT H)(k:∀ b,(b=TT∨∃ c,H b=Z (codO c q))->H' b=H b):Tb q x TT H':=by
 obtain h|⟨c,eK,O⟩:=h
 .exact .inl ((k TT (.inl U)).P h)
 .exact .inr #[c,(k TT (.inl U)).P eK,(k c (.inr #[c,O])).P O]
def FH.new{TT:fc}{s:R}{f:E (j5 R)}(h:FH a va wd TT n s ls H1 T f W ex H)(G:H p=lf)(o:HO):FH a va wd TT n s ls H1 T f W ex (upd H p o):=by
 let sm:=aj G o;erw[λb u d e=>sm _ _ (h.kp b u d e),sm _ _ h.ht,sm _ _ h.hv,sm _ _ h.hw,tZ h.tb λb M=>aw λz=>?_,h.fi,h.nd];subst z;obtain M|⟨c,M⟩:=M
 .subst M;obtain y|⟨_,y,_⟩:=h.tb<;>rw[G]at y<;>cases y
 .simp!
theorem FH.tab{TT:fc}{s:R}{f:E (j5 R)}(h:FH a va wd TT n s ls H1 T f W ex H)(g:a≠TT)(i:va≠TT)(c:wd≠TT)(sm:TbS TT H H')(tb:Tb lqF lpF TT H'):FH a va wd TT n s ls H1 T f W ex H':=
 #[λb u d e=>sm _ _ (λz=>d (.inl z)) (h.kp b u d e),sm _ _ g h.ht,sm _ _ i h.hv,sm _ _ c h.hw,tb,h.fi,h.nd]
def FrI(b h l va wd TT:fc)(n s:R)(ls:E Lk)(H1:Hp)(L:St)(H:Hp):Prop:=∃(c e g a:j5 V)(d:E (j5 Y))(f:E (j5 R))(W:E R),
 L=[Z (.int (n:Y)),Z (.ref b),Z (.int (s:Y)),Z (.ref h),Z (.ref l),Z (.ref va),Z (.ref wd),c,e,g,a]/\FH l va wd TT n s ls H1 d f W (λ_ _=>False) H
def InI(b h l va wd TT:fc)(n s:R)(ls:E Lk)(row:E R)(m Q w:R)(H1:Hp)(i:R)(L:St)(H:Hp):Prop:=∃(e g a:j5 V)(d:E (j5 Y))(f:E (j5 R))(W:E R),
 L=[Z (.int (n:Y)),Z (.ref b),Z (.int (s:Y)),Z (.ref h),Z (.ref l),Z (.ref va),Z (.ref wd),Z (.int (m:Y)),e,g,a]/\FH l va wd TT n s ls H1 d f W (λr j=>r=m/\j∉row.x i) H/\(∃ x,d[m]?=Z (Z x)) /\
 ((wgt (n*MM+1) d=Q/\W.L<w)∨wgt (n*MM+1) d<Q)
inductive restF(la TT:fc)(n s:R)(ls:E Lk)(D:L2.Ends)(σ:L2.St)(H:L2.Hp):Prop
 |mk (aa ta va wd:fc)(xs ys:E V)(rows:oD)(H1:Hp)(v8 v9 v10:j5 V)(TL:E (j5 Y))(VL:E (j5 R))(W:E R)(m l0:R) (_:Sg la aa ta va wd TT n s ls xs ys rows H1)(_:σ=[Z (.int (n:Y)),Z (.ref la),Z (.int (s:Y)),Z (.ref aa),Z (.ref ta),Z (.ref va),Z (.ref wd),Z (.int (m:Y)),v8,v9,v10])(_:FH ta va wd TT n s ls H1 TL VL W (λr _=>r=m) H)(_:(∃ x,TL[m]?=Z (Z x)))(_:W.L<l0)(_:∀ σ' H',FrI la aa ta va wd TT n s ls H1 σ' H'->mesH n ta wd H'<wgt (n*MM+1) TL*(n+1)+l0->D.nx σ' H')
inductive restM(la TT:fc)(n s:R)(ls:E Lk)(D:L2.Ends)(σ:L2.St)(H:L2.Hp):Prop
 |mk (aa ta va wd:fc)(xs ys:E V)(rows:oD)(H1:Hp)(TL:E (j5 Y))(VL:E (j5 R))(W:E R)(m w0 l0 i k:R)(row:E R)(l:Lk)(x:Y)(o:j5 Y) (_:Sg la aa ta va wd TT n s ls xs ys rows H1)(_:σ=[Z (.int (n:Y)),Z (.ref la),Z (.int (s:Y)),Z (.ref aa),Z (.ref ta),Z (.ref va),Z (.ref wd),Z (.int (m:Y)),Z (.int (k:Y)),Z (.int ((bey l m:R):Y)),Z (.int (x+l.2.2))])(_:FH ta va wd TT n s ls H1 TL VL W (λr j=>r=m/\j∉row.x i) H)(_:ls[k]?=Z l)(_:nu l m)(_:TL[m]?=Z (Z x))(_:TL[bey l m]?=Z o)(_:(∀ y,o=Z y->x+l.2.2<y))(_:row[i]?=Z k)(_:((wgt (n*MM+1) TL=w0/\W.L<l0)∨wgt (n*MM+1) TL<w0))(_:∀ σ' H',InI la aa ta va wd TT n s ls row m w0 l0 H1 (i+1) σ' H'->D.nx σ' H')
theorem F1{row:E R}{k:R}(D:row[i]?=Z k):∀ r j,(r=m/\j∉row.x i)->(r=m/\j∉row.x (i+1))∨(r=m/\j=k):=λr j ⟨eK,O⟩=>by
 by_cases c:j=k
 .exact .inr #[eK,c]
 .refine .inl #[eK,λz=>?_];rw[M5,D]at z;simp!
def zQ{r:R}{o:j5 Y}(h:T[r]?=Z o):(T.Z oV)[r]?=Z (oV o):=by simp[*]
def fj:az ["many","links","start","at","told","via","waiting","room","number","there","fare"] ["many","links","start"] (aq jN):=by ac_nf
def ok_fares{f2 c TT:fc}(F:Fun K "fares" "fares" jN f fd)(T:Txt mg)(ht:Pn K "fares"=Z (c,TT))(hn:NJ K RQ "fares"=Z (Z (.ref f)))(aT:Pb base c TT)(bR:Bm mg base)(a9:lw 1 "links_at" ["many","links"] spAt I G)(a4:lw 1 "beyond" ["link","room"] Lb f2 J):li 2 f fd ["many","links","start"] (spFares TT):=by
 refine Fun.okT F fj ht hn (λvs H Q dO h=>?_) (λA j s H vs Q dO u h=>?_)
 .let v n aI ls rfl _:=h;rfl
 let v n aI ls rfl{la xs rfl hA hL}ok n2 cr hs a6 kk:=h;let hu:=pG u;let ap:=u.units;let n1:=ok.n1;let l9:=ok.l9;let LM:∀ N,Lam (cxOf CX0 P w K mg base N "fares" (aq jN) f (.ref c) A j s H dO).nox c TT (s.H.M.J+1) lqF:=λN=>#[U,aT,bR,170]
 intros;erw[_,(af (aA 3 fj.nd (a9.c u (ae (pv 0) (ae (pv 1) ai))))
   (af (aA 4 fj.nd (cM [] ["room"] (aP U T.n_range (ae (pv 0) ai)) pg_c pt_c (λC ex s H=>fZ)))
   (af (lY 5 [] ["room"] fj.nd (aP U T.n_range (ae (pv 0) ai)) pg_c pt_c (λC ex s H=>fZ))
   (af (lD ak (m9 (pv 4) (pv 2) e9))
   (af (aA 6 fj.nd (uN (pV (pv 2) oA uE) U U (λz=>by cases z) ∅))
   (af (gC PassesOwn.never (aD (op_neE ap) (pv 6) gE (aJ _)) (af (aA 7 fj.nd (Lu (it:=4) (LM _) U U (u.mono ∅) U (Or.inr (Or.inl U)) U T.n_min (ae (pv 6) ai)))
   (af (aW (HH (pv 6) (pv 7) #[170]))
   (fX (t2:=restF la TT n aI ls) (ao (mx (aM (ba (pv 3) (pv 7))) (bq 8 fj.nd) (af (aA 9 fj.nd (a4.c u (ae (ba (pv 1) (pv 8)) (ae (pv 7) ai))))
   (af (aA 10 fj.nd (ay cg (ba (pv 4) (pv 7)) (bV (ba (pv 1) (pv 8)) ak)))
   (ao (bJ (PW.pt (zw (aD BD (ba (pv 4) (pv 9)) fZ (aJ _)) (qJ (aD uO (pv 10) (ba (pv 4) (pv 9)) (aJ _))))) (fX (t2:=restM la TT n aI ls) (af (lD (pv 10) (m9 (pv 4) (pv 9) e9))
   (af (lD (pv 8) (m9 (pv 5) (pv 9) e9))
   (ao (ig hu (pv 6) (pv 9) oA U)))) (λD0 S0 H0 h0=>?restm)) aN)))))) (λD0 S0 H0 h0=>?restf)))))
   (ao (aG (bN (ae (pv 4) (ae (pv 5) ai))))))))))),3]
 case restm=>
  let aa ta va wd xs ys rows H1 TL VL W m w0 l0 i k row l x o sg rfl fh hl hm B ho ac D bG kn:=h0;let tl:=fh.fi.tl;let vl:=fh.fi.vl;let tt:bey l m<n:=by rw[← tl];exact(MF.mp ho).1
  let cd:=(fh.fi.w0 l (MH hl));let bH:=sg.ntv;let bb:=sg.ntw;let bg:=sg.nvw;let bv:=sg.nTt;let bB:=sg.nTv;let bf:=sg.nTw;erw[2457,ta,5,bey l m,10,fh.ht,iu (by simp[*]),3]
  erw[2457,va,5,bey l m,10,by rw[aw (Ne.X bH)];exact fh.hv,iu (by simp[*]),3]
  let cl:(upd (upd H0 ta (.lst ((TL.Z oV).set (bey l m) (.int (x+l.2.2))))) va (.lst ((VL.Z oN).set (bey l m) (.int (k:Y))))) wd=Z (.dK (W.Z kw)):=by rw[aw (Ne.X bg),aw (Ne.X bb)];exact fh.hw
  let wl:=fh.wlen;erw[153,wd,9,DPut.k (k:=.inl ((bey l m:R):Y)) (v:=.bl kt) cl (by rw[MI];exact ax ∅),3]
  let W' eW cb mW:=put_kw (t:=bey l m) fh.nd;rw[eW];let e1:(TL.Z oV).set (bey l m) (.int (x+l.2.2))=(TL.set (bey l m) (Z (x+l.2.2))).Z oV:=by rw[QV];rfl
  let e2:(VL.Z oN).set (bey l m) (.int (k:Y))=(VL.set (bey l m) (Z k)).Z oN:=by rw[QV];rfl
  rw[e1,e2];let cm:=fh.fi.mend (W':=W') hl hm B ho ac mW (F1 D);let cq:=G0 fh.fi cd.1 cd.2 B ho ac;let nm:bey l m≠m:=λe=>by
   rw[e,B]at ho
   cases ho
   lia
  refine kn _ _ #[341,W',U,#[((fh.kp.upd (.inr (.inl U)) _).upd (.inr (.inr (.inl U))) _).upd (.inr (.inr (.inr U))) _,15,ag,3,cm,cb],#[x,by simp[*]],.inr (by grind)]
  .rw[aw bb,aw bH];exact ag
  .rw[aw bg];exact ag
  .refine tZ fh.tb λb M=>?_;rw[aw (λz=>?_),aw (λz=>?_),aw (λz=>?_)]
   .obtain M|⟨c',M⟩:=M
    .exact bv (z▸M)
    .rw[z,fh.ht]at M;cases M
   .obtain M|⟨c',M⟩:=M
    .exact bB (z▸M)
    .rw[z,fh.hv]at M;cases M
   .obtain M|⟨c',M⟩:=M
    .exact bf (z▸M)
    .rw[z,fh.hw]at M;cases M
 case restf=>
  let aa ta va wd xs ys rows H1 v8 v9 an TL VL W m l0 sg rfl fh{x B}a7 kn:=h0;let mn:m<n:=by rw[← fh.fi.tl];exact(MF.mp B).1
  let rl:=sg.am.len;let row ar:∃ row,rows[m]?=Z row:=#[_,MG ∅]
  let pr r1 r2 r3:=sg.rx.2 _ _ ar;let hR:=fh.kp _ _ sg.naa sg.hR;let cn:=fh.kp _ _ r2 r3;let few:=sg.am.few row (MH ar);erw[153,aa,661,SqL.of hR,aF r1,pr,U,#[_,SqL.of cn],br (K:=K) (xs:=row.Z iV) (InI la aa ta va wd TT n aI ls row m (wgt (n*MM+1) TL) l0 H1) #[21,TL,VL,W,U,#[fh.kp,fh.ht,fh.hv,fh.hw,fh.tb,fh.fi.exw λr i l _ _ z=>#[z,by simp],fh.nd],#[x,B],.inl #[U,a7]] (λi L H2 _ z=>?_) ?_ ?_]
  .let _ _ _ _ _ _ _ f2 _:=z;exact SqL.of (f2.kp _ _ r2 r3)
  .rintro i y L H2 hy ⟨v8,v9,an,bd,bQ,W2,rfl,f2,⟨x2,be⟩,bG⟩;rw[MO]at hy;let k D rfl:=MZ.mp hy;let l hl av:=(sg.am.mm m row ar k).mp (MH D);let lv b0 bi:=sg.hL.2 k l hl;let lt rfl b5:=bi;let b6:=f2.kp _ _ (sg.tt _ _ b5) b5;let ce:=f2.kp _ _ sg.nla sg.hA;let b1 b2:=sg.ok.sm l (MH hl);let tt:bey l m<n:=bey_lt b1 b2;let cs:=f2.fi.tl;let o ho:∃ o,bd[bey l m]?=Z o:=#[_,MG ∅]
   erw[153,la,661,SqL.of ce,aF b0,9,.ref lt,l,m,U,#[lt,U,b6],3];erw[153,ta,661,SqL.of f2.ht,aF (zQ be),153,la,661,SqL.of ce,aF b0,lt,_,02,41,SqT.of b6,a32,933];erw[153,ta,661,SqL.of f2.ht,aF (zQ ho),230]
   cases o with
   |none=>
    refine iteT (iteT ?_);erw[aa,ta,va,wd,xs,ys,rows,H1,bd,bQ,W2,m,wgt (n*MM+1) TL,l0,i,k,row,l,x2,lf,sg,U,f2,hl,av,be,ho,(λy e=>nomatch e),D,bG,λal H' z=>z]
   |some y0=>
    refine iteF ?_;erw[2457,ta,661,SqL.of f2.ht,aF (zQ ho),14757];refine ite2 (λc=>?_) (λc=>?_)
    .let c':x2+l.2.2<y0:=S8 c
     erw[aa,ta,va,wd,xs,ys,rows,H1,bd,bQ,W2,m,wgt (n*MM+1) TL,l0,i,k,row,l,x2,Z y0,sg,U,f2,hl,av,be,ho,(λy e=>by simp!),D,bG,λal H' z=>z]
    .let c':¬ x2+l.2.2<y0:=λz=>c (Sx z)
     erw[21,bd,bQ,W2,U,#[f2.kp,f2.ht,f2.hv,f2.hw,f2.tb,f2.fi.leave hl be ho ∅ (F1 D),f2.nd],#[x2,be],bG]
  .rintro L H2 ⟨v8,v9,an,bd,bQ,W2,rfl,f2,_,bG⟩
   let ah:FH ta va wd TT n aI ls H1 bd bQ W2 (λ_ _=>False) H2:=#[f2.kp,f2.ht,f2.hv,f2.hw,f2.tb,f2.fi.exw λr i l hl av ⟨z1,z2⟩=>by
    subst z1;rw[MI,M8]at z2
    exact z2 ((sg.am.mm r row ar i).mpr #[l,hl,av]),f2.nd]
   refine kn _ _ #[85,bd,bQ,W2,U,ah] ?_;rw[ah.mes];let wl:=ah.wlen;rcases bG with⟨d1,d2⟩|d
   .simp!
   .let eK:(wgt (n*MM+1) bd+1)*(n+1)<=wgt (n*MM+1) TL*(n+1):=Nat.mul_le_mul_right _ d
    lia
 erw[153,.ref la,n,ls,U,#[la,xs,U,hA,hL],ok,λaa ys rows Ha sa ch co rx am=>?_];erw[5273,cA (n:=(n:Y).R) (λi zs H2=>H2=Ha/\zs=MV i V.non) (by rw[MU];exact M4 (ax ∅)) #[10] ?_ ?_]
 .rintro i zs H2 g ⟨rfl,rfl⟩;erw[U,by rw[Of]]
 rintro zs H2 _ ⟨rfl,rfl⟩ ta a0;rw[MU];let z1:=aj a0 (.lst (MV n V.non));erw[5273,cA (n:=(n:Y).R) (λi zs H3=>H3=upd H2 ta (.lst (MV n V.non))/\zs=MV i V.non) (by rw[MU];exact M4 (ax ∅)) #[10] ?_ ?_]
 .rintro i zs H3 g ⟨rfl,rfl⟩;erw[U,by rw[Of]]
 rintro zs H3 _ ⟨rfl,rfl⟩ va a8;rw[MU];let bH:ta≠va:=λz=>by rw[← z,ag]at a8;contradiction
 let z2:=aj a8 (.lst (MV n V.non));erw[153,ta,5,aI,10,by rw[aw bH];exact ag,iu (by simp[*]),3]
 intro wd cc;erw[9,ag,[kw aI],U,(by show 1<=15;decide),3]
 let bb:ta≠wd:=λz=>by rw[← z,ag]at cc;contradiction
 let bU:H2 va=lf:=fM z1 a8;let ca:(upd (upd H2 ta (.lst (MV n V.non))) va (.lst (MV n V.non))) wd=lf:=by rw[aw (Ne.X bb)]at cc;exact cc
 let bg:va≠wd:=λz=>by rw[← z,ag]at ca;contradiction
 let bn:H2 wd=lf:=fM (z1.P z2) ca;let ci:H TT≠lf:=by obtain y|⟨_,y,_⟩:=a6<;>rw[y]<;>simp
 let aS:H2 TT≠lf:=by
  cases y:H TT with
  |none=>contradiction
  |some o=>rw[sa _ _ y];simp
 let bv:ta≠TT:=λz=>aS (z▸a0);let bB:va≠TT:=λz=>aS (z▸bU);let bf:wd≠TT:=λz=>aS (z▸bn);let aL:Same H2 (upd (upd (upd (upd (upd H2 ta (.lst (MV n V.non))) va (.lst (MV n V.non))) ta (.lst ((MV n V.non).set aI (.int 0)))) wd (.dK [])) wd (.dK (eY [] [kw aI]))):=aK (aK (aK (z1.P z2) a0 _) bn _) bn _;let eT:((MV n V.non).set aI (.int 0))=((MV n (lf:j5 Y)).set aI (Z 0)).Z oV:=by rw[QV,List.map_replicate];rfl
 let eV:(MV n V.non)=(MV n (lf:j5 R)).Z oN:=by rw[List.map_replicate];rfl
 let g1:(upd (upd (upd (upd (upd H2 ta (.lst (MV n V.non))) va (.lst (MV n V.non))) ta (.lst ((MV n V.non).set aI (.int 0)))) wd (.dK [])) wd (.dK (eY [] [kw aI]))) ta=Z (.lst (((MV n (lf:j5 Y)).set aI (Z 0)).Z oV)):=by
  rw[aw bb,aw bb,← eT];exact ag
 let g2:(upd (upd (upd (upd (upd H2 ta (.lst (MV n V.non))) va (.lst (MV n V.non))) ta (.lst ((MV n V.non).set aI (.int 0)))) wd (.dK [])) wd (.dK (eY [] [kw aI]))) va=Z (.lst ((MV n (lf:j5 R)).Z oN)):=by
  rw[aw bg,aw bg,aw (Ne.X bH),← eV];exact ag
 let g3:(upd (upd (upd (upd (upd H2 ta (.lst (MV n V.non))) va (.lst (MV n V.non))) ta (.lst ((MV n V.non).set aI (.int 0)))) wd (.dK [])) wd (.dK (eY [] [kw aI]))) wd=Z (.dK ([aI].Z kw)):=ag;generalize (upd (upd (upd (upd (upd H2 ta (.lst (MV n V.non))) va (.lst (MV n V.non))) ta (.lst ((MV n V.non).set aI (.int 0)))) wd (.dK [])) wd (.dK (eY [] [kw aI])))=H1 at aL g1 g2 g3;let sH:Same H H1:=sa.P aL;let nS:∀ b,H2 b≠lf->b≠TT->¬ sF ta va wd TT b:=λb M nT z=>by
  obtain z|z|z|z:=z
  .exact nT z
  .exact M (z▸a0)
  .exact M (z▸bU)
  .exact M (z▸bn)
 let sg:Sg la aa ta va wd TT n aI ls xs ys rows H1:=#[sH _ _ hA,hL.imp λ_ _ q=>q.mono sH,ok,aL _ _ co,#[rx.1,λi l e=>by
   let p p1 p2 p3:=rx.2 i l e;erw[p,p1,nS p (by grind) (λz=>p2 (.inr (z▸ci))),aL _ _ p3]],am,nS la (by rw[sa _ _ hA];simp) (λz=>by obtain y|⟨_,y,_⟩:=a6<;>rw[← z,hA]at y<;>cases y),nS aa (by simp!) (λz=>ci (z▸ch)),(λt o e z=>by
   obtain z|z|z|z:=z
   .rw[z]at e;obtain y|⟨_,y,_⟩:=a6<;>rw[sH _ _ y]at e<;>cases e
   .rw[z,g1]at e;cases e
   .simp!
   .rw[z,g3]at e;cases e),bH,bb,bg,bv,bB,bf]
 let a2:Tb lqF lpF TT H1:=by
  obtain y|⟨c',y1,y2⟩:=a6
  .exact .inl (sH _ _ y)
  .exact .inr #[c',sH _ _ y1,sH _ _ y2]
 refine iH (FrI la aa ta va wd TT n aI ls H1) (λ_ H'=>mesH n ta wd H') #[1365,[aI],U,#[λ_ _ _ e=>e,g1,g2,g3,a2,FI.first ok.w0 (Nat.le_antisymm n2.1 n2.2) cr hs,Nt.mpr #[∅,NU]]] ?_ ?_
 .rintro L H3 ⟨v7,v8,v9,an,TL,VL,W,rfl,fh⟩;erw[9,λp O=>?_];let bm:=fh.new O (.dK []);erw[wd,p,W.Z kw,10,bm.hw,ag,57];refine ite2 (λc=>?_) (λc=>?_)
  .let ne:W.Z kw≠[]:=λz=>by simp!
   erw[9,wd,W.Z kw,ta,9,bm.hw,ne,U,bm.ht,bm.tb,λkv bY=>?_,λkv bY H4 a5 a3=>?_]
   .let r u rfl:=Nc.mp bY;let x B:=bm.fi.wk r u;erw[r,x,U,zQ B]
   let r u rfl:=Nc.mp bY;let a1:=bm.tab bv bB bf a5 a3;let x B:=a1.fi.wk r u;erw[9,wd,U,.inl #[_,.inl a1.hw],9,W.Z kw,.inl (r:Y),.bl kt,a1.hw,U,DA u,3];rw[AF];let mW:∀ y,y∈W.filter (λx=>decide (x≠r))↔y∈W/\y≠r:=λy=>by simp
   let lW:(W.filter (λx=>decide (x≠r))).L<W.L:=by simp[*]
   erw[aa,ta,va,wd,xs,ys,rows,H1,21,TL,VL,_,r,W.L,sg,U,#[a1.kp.upd (.inr (.inr (.inr U))) _,by rw[aw bb];exact a1.ht,by rw[aw bg];exact a1.hv,ag,tZ a1.tb λb M=>aw λz=>?_,a1.fi.x mW,a1.nd.filter _],#[x,B],lW,λal H' y1 y2=>#[y1,by rw[fh.mes];exact y2]]
   obtain M|⟨c',M⟩:=M
   .exact bf (z▸M)
   .rw[z,a1.hw]at M;cases M
  .let e0:W=[]:=by simp!
   subst e0;erw[153,(by show 2<=RO;decide),λt ht=>?_]
   let a1:=bm.new ht (.tup [.ref ta,.ref va]);refine kk t ta va TL VL _ (λb o nb e=>?_) a1.tb (fM sa a0) (fM sa bU) ag a1.ht a1.hv a1.fi;exact a1.kp _ _ (nS b (by rw[sa _ _ e];simp) nb) (sH _ _ e)
 .rintro L H4 Q1 Q2 g ⟨v1,e1,h⟩;erw[v1,e1,λp O=>?_];let a b ab q1 q2 q3 q4 c' q5 q6:=h p O;erw[a,b,ab,q1,q2,q3,q4,c',q5,g _ _ q6]
def andN(a b:R):Se (a:Y) (b:Y)=((a&&&b:R):Y):=by
 rfl
def shlN(p:R):(1:Y)*2^((p:R):Y).R=((2^p:R):Y):=by
 simp
def xa(m n:R):(m^^^n)+2*(m&&&n)=m+n:=by
 let h:=PyProof.Rows.nat_or_add_and m n;let O:(m|||n)=(m^^^n)+(m&&&n):=by
  let e:(m^^^n)+(m&&&n)=(m^^^n)|||(m&&&n):=by
   let q:=PyProof.Rows.nat_or_add_and (m^^^n) (m&&&n);let z:(m^^^n)&&&(m&&&n)=0:=by
    apply NC;intro i;simp only[NA,P1,NI]
    cases m.O i<;>cases n.O i<;>rfl
   lia
  rw[e];apply NC;intro i;simp only[NA,P1,NS]
  cases m.O i<;>cases n.O i<;>rfl
 lia
def xorN(a b:R):Sh (a:Y) (b:Y)=((a^^^b:R):Y):=by
 rw[PyProof.Rows.bitXor_and,andN];let q:=xa a b;lia
def bl(c:R):E R:=K2.bitsF 0 c
theorem GL(c:R):(bl c).f (· < ·):=K2.bitsF_sorted c c 0 (MN _)
theorem bl_nd(c:R):(bl c).h:=K2.nodup_of_lt (GL c)
def mem_bl{c x:R}:x∈bl c↔c.O x=kt:=by
 let e:K2.S (K2.bitsF 0 c)=c:=by
  let:=K2.bitsF_sum c c 0 (MN _);rw[this,Nat.pow_zero,Nat.mul_one]
 let b:=K2.S_bit (bl_nd c) x;unfold bl at b ⊢;simp!
def bl_lt{c x:R}(h:c<2^m)(B:x∈bl c):x<m:=by
 let:=K2.bitsF_lt m c 0 h x B;lia
abbrev k0:Key:=.inl ((0:R):Y)
abbrev k3:Key:=.inl ((3:R):Y)
inductive restR(tb:fc)(Q:VK)(D0:L2.Ends)(σ:L2.St)(H:L2.Hp):Prop
 |mk (bv:V)(c:R)(v4 v5 v6 v7 v8:j5 V)(kvs:E (Key×V))(v:V) (_:σ=[Z bv,Z (.int (c:Y)),Z (.ref tb),v4,v5,v6,v7,v8])(_:H tb=Z (.dK kvs))(_:valV kvs (.inl (c:Y))=Z v)(_:Q v H)(_:∀ x H',Q x H'->D0.rt x H')
def LpI(d:V)(tb r wa M:fc)(x:Y)(a:Hp)(i:R)(L:St)(H:Hp):Prop:=∃(c e:j5 V)(k:E V),L=[Z d,Z (.int ((3:R):Y)),Z (.ref tb),Z (.ref r),Z (.int ((0:R):Y)),Z (.ref wa),c,e]/\(∀ b o,b≠wa->a b=Z o->H b=Z o)/\H wa=Z (.lst k)/\LsAt TrA H k (MV i (x,(0:Y),(1:Y)))
inductive wQ(j:R)
 |mk (bv:V)(tb t0:fc)(c:R)(x:Y) (_:vs=[bv,.int (c:Y),.ref tb])(_:H tb=Z (.dK [(k0,.ref t0)]))(_:H t0=Z (.tup [.int 0,.non,.non]))(_:((c=0/\1<=j)∨(c=3/\2<=j)))(_:(c=3->∃(b p:fc)(ys xs:E V),bv=.ref b/\H b=Z (.lst ys)/\ys[0]?=Z (.ref p)/\H p=Z (.lst xs)/\xs[1]?=Z (.int x)))(_:∀(t:fc)(w:Y)(y z:V) H',TbS tb H H'->H' t=Z (.tup [.int w,y,z])->((c=0/\w=0/\H' tb=Z (.dK [(k0,.ref t0)]))∨(c=3/\w=x/\y=.int 0/\z=.int 1/\H' tb=Z (.dK [(k0,.ref t0),(k3,.ref t)])))->Q (.ref t) H')
def bL:az ["between","chosen","table","numbers","first","ways","mate","rest"] ["between","chosen","table"] (aq cp):=by ac_nf
def Ih(F:Fun K "laid_in_pairs" "laid_in_pairs" cp f fd)(T:Txt mg)(ab:lw 1 "bits" ["mask"] spBits C G)(ac:lw (j+2) "laid_in_pairs" ["between","chosen","table"] (wQ j) f fd):li (j+3) f fd ["between","chosen","table"] (wQ (j+1)):=by
 refine F.ok bL λN A eK s H D Q dO u h=>?_
 let bv tb t0 c x rfl hT ap l a8 O:=h;let hu:=pG u;let am:=u.units
 intros;erw[_,(af (bJ (By (qN hu (pv 1) (pv 2))) (af (aA 3 bL.nd (ab.c u (ae (pv 1) ai)))
   (af (aA 4 bL.nd (ba (pv 3) ak))
   (af (aA 5 bL.nd (bX ai))
   (af (mx (aM (uJ yY (pv 3) (zD ak) zE)) (bq 6 bL.nd) (af (aA 7 bL.nd (ay eX (ay eX (pv 1) (ay bA ak (pv 4))) (ay bA ak (pv 6))))
   (ao (aW (eF Na Nq Np aX (pv 5) (ae (bN (ae (ay cg (ba (ba (pv 0) (pv 4)) (pv 6)) (bV (ac.c u (ae (pv 0) (ae (pv 7) (ae (pv 2) ai)))) ak)) (ae (pv 4) (ae (pv 6) ai)))) ai))))))
   (ao (ig hu (pv 2) (pv 1) (aE (yy U am) (by rfl) T.n_min oW (ae (pv 5) ai)) U)))))) aN)
   (fX (t2:=restR tb Q) (ao (aG (iW hu (pv 2) (pv 1) (λ_ _=>rfl)))) (λD0 S0 H0 h0=>?restr))),3]
 case restr=>
  let be c' v4 v5 v6 v7 v8 ah v rfl a2 hv q kq:=h0;erw[153,tb,v,U,by let:=DGet.k (k:=.inl ((c':R):Y)) a2;rw[hv]at this;exact this,3]
  exact kq _ _ q
 erw[153,tb,9,DGet.k (k:=.inl ((c:R):Y)) hT,57];rcases l with⟨rfl,j1⟩|⟨rfl,j2⟩
 .exact iteF #[_,00,38229,hT,U,O t0 0 _ _ H (λ_ _ _ e=>e) ap (.inl #[10,hT]),λ_ _ z=>z]
 let b p g xs rfl M hy m B:=a8 U;refine iteT ?_;erw[9,((3:R):Y),82,λr J t a5 al=>?_]
 let e3:(K2.bitsF 0 ((3:R):Y).R).Z iV=[.int ((0:R):Y),.int ((1:R):Y)]:=by decide
 rw[e3]at al;erw[9,r,_,00,41,SqL.of al,at0,3];erw[∅,λwa aS=>?_]
 let n:=aj aS (.lst []);erw[153,r,9,SqL.of (n _ _ al),λsl a3=>?_];let a6:cutV [V.int ((0:R):Y),.int ((1:R):Y)] (Z 1) lf=[.int ((1:R):Y)]:=by rfl
 rw[a6];let s3:=aj a3 (.lst [.int ((1:R):Y)]);let an:Same H (upd (upd J wa (.lst [])) sl (.lst [.int ((1:R):Y)])):=t.P (n.P s3);let ar:wa≠sl:=λz=>by rw[← z,ag]at a3;contradiction
 let g1:(upd (upd J wa (.lst [])) sl (.lst [.int ((1:R):Y)])) wa=Z (.lst []):=by rw[aw ar];exact ag
 let g2:=ag (H:=upd J wa (.lst [])) (a:=sl) (o:=.lst [.int ((1:R):Y)]);let a9:H wa=lf:=fM t aS;generalize (upd (upd J wa (.lst [])) sl (.lst [.int ((1:R):Y)]))=Hb at an g1 g2;let ne:∀{b o},H b=Z o->b≠wa:=λe z=>by rw[z,a9]at e;cases e
 erw[sl,U,#[_,SqL.of g2],br (K:=K) (xs:=[V.int ((1:R):Y)]) (LpI (.ref b) tb r wa t0 x Hb) #[5,[],U,λ_ _ _ e=>e,g1,LsAt.nil] (λi L d _ aa=>by let _ _ _ _ z _:=aa;exact SqL.of (z _ _ (Ne.X ar) g2)) ?_ ?_]
 .rintro i y L d aL ⟨v7,v8,I,rfl,k2,av,hL⟩;let i0:i=0:=by
   let:=(MF.mp aL).1;rw[M9]at this;lia
  subst i0
  cases aL
  let up:∀ c o,H c=Z o->d c=Z o:=λc o e=>k2 _ _ (ne e) (an _ _ e);erw[42393,#[by decide,4,by decide],678309,#[by decide,4,by decide],933]
  let ec:Sh (Sh ((3:R):Y) (1*2^((0:R):Y).R)) (1*2^((1:R):Y).R)=((0:R):Y):=by decide
  simp only[ec];erw[9,.inl #[6,SqL.of av],153,b,661,SqL.of (up _ _ M),aF hy,9,p,661,SqL.of (up _ _ m),aF B,2457,.ref b,tb,t0,00,00,U,up _ _ hT,up _ _ ap,.inl #[18],(λz=>by cases z),λt1 w1 y1 z1 H3 a7 a4 hw=>?_]
  let _ rfl aT:=hw.resolve_right λz=>by cases z.1
  erw[t1,_,00,41,SqT.of a4,a30,39333,(by show 3<=RO;decide),λt3 aI=>?_]
  let s4:=aj aI (.tup [.int (x+0),.int ((0:R):Y),.int ((1:R):Y)]);let e0:I=[]:=OL hL.1;subst e0;let bb:wa≠tb:=λz=>by rw[z,up _ _ hT]at av;cases av
  let a1:=a7 _ _ bb av;erw[wa,[],41,s4 _ _ a1,ax ∅,3]
  let n3:t3≠wa:=λz=>by rw[z,a1]at aI;cases aI
  erw[5,[.ref t3],U,λc o nc e=>?_,ag,3]
  .rw[aw nc];refine s4 _ _ ?_;by_cases q:c=tb
   .rw[q]at e ⊢;rw[aT,← an _ _ hT,e]
   .exact a7 _ _ q (k2 _ _ nc e)
  .refine(LsAt.nil (ad:=TrA)).snoc (y:=.ref t3) (x:=(x,(0:Y),(1:Y))) #[t3,14];rw[aw n3,ag];show Z (HO.tup [V.int (x+0),.int 0,.int 1])=Z (HO.tup [V.int x,.int 0,.int 1]);rw[Qe]
 .rintro L d ⟨v7,v8,I,rfl,k2,av,hL⟩;erw[9,wa,I,9,SqL.of av,hL,(λz=>by cases z),λa0 y t3 aL aI _=>?_]
  let bf bd a rfl ha:=hL.get aL;let i0:a0=0:=by
   let:=(MF.mp aI).1;rw[NR,M9]at this;lia
  subst i0
  cases bd
  let up:∀ c o,H c=Z o->d c=Z o:=λc o e=>k2 _ _ (ne e) (an _ _ e);erw[153,tb,9,DPut.k (k:=k3) (v:=.ref a) (up _ _ hT) (by show 1<RO;decide),3]
  let ep:putK [(k0,V.ref t0)] k3 (.ref a)=[(k0,.ref t0),(k3,.ref a)]:=by rfl
  rw[ep];let na:a≠tb:=λz=>by rw[z,up _ _ hT]at ha;cases ha
  erw[_,03,1365,.ref a,U,ag,U,O a x _ _ _ (λc o nc e=>?_) ?_ (.inr #[170,ag]),λ_ _ z=>z]
  .rw[aw nc];exact up _ _ e
  .rw[aw na];exact ha
theorem ok_laid{f p:fc}{fd a:ge} (F:Fun K "laid_in_pairs" "laid_in_pairs" cp f fd) (T:Txt mg) (b:lw 1 "bits" ["mask"] spBits p a) (c:gz K fd ["between","chosen","table"] []) (y:mg "laid_in_pairs"=Z (.ref f)) (i:NK K (.ref f)=kt):∀ j,li (j+2) f fd ["between","chosen","table"] (wQ j)
 |0=>#[λm H Q dO h=>by
   obtain⟨_,_,_,_,_,_,_,_,⟨_,z⟩|⟨_,z⟩,_⟩:=h<;>lia,λA eK s H u o m Q dO _ _ _ _ h=>by
   obtain⟨_,_,_,_,_,_,_,_,⟨_,z⟩|⟨_,z⟩,_⟩:=h<;>lia]
 |j+1=>Ih F T b #[ok_laid F T b c y i j,c,y,i]
def Io{f:E (j5 R)}{r:R}{o:j5 R}(h:f[r]?=Z o):(f.Z oN)[r]?=Z (oN o):=by simp[*]
inductive Pth(ls:E Lk)(vv:E (j5 R))(s:R):R->E R->Prop where
 |root:Pth ls vv s s []
 |step {r k:R} {l:Lk} {ks:E R} (hv:vv[r]?=Z (Z k)) (hl:ls[k]?=Z l) (h:Pth ls vv s (bey l r) ks):Pth ls vv s r (k::ks)
def lkA(ls:E Lk)(k:R):Lk:=ls.v k (0,0,0)
def lkA_is{k:R}{l:Lk}(h:ls[k]?=Z l):lkA ls k=l:=by unfold lkA;simp[*]
def endX(l:Lk):R:=2^l.1^^^2^l.2.1
def oddE(ls:E Lk)(u:R):R->R
 |0=>0
 |i+1=>if u.O i=kt then oddE ls u i^^^endX (lkA ls i) else oddE ls u i
inductive Wk(ls:E Lk):R->R->Y->Prop where
 |nil (a:R):Wk ls a a 0
 |step {a b i:R} {x:Y} {l:Lk} (h:Wk ls a b x) (hl:ls[i]?=Z l) (he:nu l b):Wk ls a (bey l b) (x+l.2.2)
def Wk.trans{a b c:R}{x y:Y}(h:Wk ls a b x)(g:Wk ls b c y):Wk ls a c (x+y):=by
 induction g with
 |nil=>rw[Qe];exact h
 |step _ M N C=>
  rw[← Int.add_assoc];exact .step C M N
def Wk.link{a:R}{l:Lk}(hl:ls[i]?=Z l)(N:nu l a):Wk ls a (bey l a) l.2.2:=by
 let:=Wk.step (.nil a) hl N;rw[N1]at this;exact this
def Wk.rev{a b:R}{x:Y}(h:Wk ls a b x):Wk ls b a x:=by
 induction h with
 |nil=>exact .nil _
 | @step b i x l h M N C=>
  let g:=Wk.link M (My N);rw[Mz N]at g;rw[Int.add_comm];exact g.P C
def Conn(n:R)(ls:E Lk):Prop:=∀ b,b<n->∃ x,Wk ls 0 b x
def Cq(ks:E R):R:=ks.foldl (λm k=>m|||2^k) 0
theorem BF(ls:E Lk)(k:R):∀ i,oddE ls (2^k) i=if k<i then endX (lkA ls k) else 0
 |0=>by rfl
 |i+1=>by
  unfold oddE;rw[BF ls k i,Nu];by_cases c:k=i
  .subst c;simp
  .lia
theorem oddE_zero(ls:E Lk):∀ i,oddE ls 0 i=0
 |0=>rfl
 |i+1=>by unfold oddE;rw[NI,Tj Nr];exact oddE_zero ls i
theorem Crs.conn(C:Crs ls)(ne:0<ls.L):Conn 2 ls:=λb M=>by
 rcases(show b=0∨b=1 by lia)with e|e
 .rw[e];erw[00,.nil 0]
 .let g:=C.bey (Px ne) (show 0<2 by decide)
  let z:=Wk.link (MG ne) g.1;rw[g.2]at z;rw[e];erw[_,z]
theorem Crs.of(ok:Lok 2 ls)(g:∀ l∈ls,l.1≠l.2.1):Crs ls:=λl M=>#[(ok.sm l M).1,(ok.sm l M).2,g l M]
def Crs.odd(C:Crs ls){k:R}(D:k<ls.L):oddE ls (2^k) ls.L=3:=by
 rw[BF,Ti D,lkA_is (MG D)];let eK O G:=C _ (Px D);unfold endX;rcases(show(ls[k].1=0/\ls[k].2.1=1)∨(ls[k].1=1/\ls[k].2.1=0) by lia) with⟨x,y⟩|⟨x,y⟩<;>rw[x,y]<;>rfl
theorem Mn.of:∀{ls:E Lk},0<ls.L->∃ d,Mn ls d
 |[l],_=>#[l.2.2,#[l,MQ.mpr U,U],λx B=>by rw[MQ.mp B];exact N6 _]
 |l::o::r,_=>by
  let d{x B e}lo:=Mn.of (ls:=o::r) ∅
  by_cases c:l.2.2<=d
  .erw[_,#[l,M7 ..,U],λy j=>(MY.mp j).elim (λz=>by rw[z];exact N6 _) λz=>Qy c (lo y z)]
  .erw[_,#[x,M6 _ B,e],λy j=>(MY.mp j).elim (λz=>by rw[z];lia) λz=>lo y z]
def AA(l:Lk):R:=2^l.1|||2^l.2.1
def one1(m:R)(l:Lk):R:=if m&&&AA l=0 then m else m|||AA l
def cY(ls:E Lk)(m:R):R:=ls.foldl one1 m
inductive Run(ls:E Lk):R->R->R->Prop where
 |stop {m:R}:Run ls m m m
 |go {m a r:R} (h:m≠a) (n:Run ls (cY ls m) m r):Run ls m a r
def EJ(m:R)(l:Lk):m<=one1 m l:=by
 unfold one1;split
 .exact MN _
 .exact Nat.left_le_or
def EI{l:Lk}(h:m<2^n)(eK:l.1<n)(h2:l.2.1<n):one1 m l<2^n:=by
 unfold one1 AA;split
 .exact h
 .exact PJ h (PJ (OM ∅ eK) (OM ∅ h2))
def xo{l:Lk}(h:ls[i]?=Z l):cY (ls.x (i+1)) m=one1 (cY (ls.x i) m) l:=by
 unfold cY;rw[M5,h,PM];rfl
def orN(a b:R):Sf (a:Y) (b:Y)=((a|||b:R):Y):=by
 rw[PyProof.Rows.bitOr_and,andN];let q:=PyProof.Rows.nat_or_add_and a b;lia
def endsV(l:Lk):Sf (1*2^((l.1:R):Y).R) (1*2^((l.2.1:R):Y).R)=((AA l:R):Y):=by rw[shlN,shlN,orN];rfl
def PaAt(H:Hp)(v:V)(l:Lk):Prop:=∃ t,v=.ref t/\H t=Z (.tup [.int (l.1:Y),.int (l.2.1:Y)])
theorem F5(a b:Y):decide (V.int a=V.int b)=decide (a=b):=decide_eq_decide.mpr #[V.int.inj,congrArg V.int]
inductive spReach
 |mk (a:fc)(ys:E V)(n:R)(ls:E Lk) (_:vs=[.int 0,.ref a])(_:H a=Z (.lst ys))(_:LsAt PaAt H ys ls)(_:Lok n ls)(_:1<=n)(_:∀ r:R,Run ls 1 0 r->Q (.int (r:Y)) H)
inductive spWhl
 |mk (v:V)(n:R)(ls:E Lk) (_:vs=[.int (n:Y),v])(_:LnAt H v ls)(_:Lok n ls)(_:1<=n)(_:∀(r:R) H',Run ls 1 0 r->o5->Q (.bl (decide ((r:Y)=1*2^((n:R):Y).R-1))) H')
structure TxtR(mg:fI->j5 eN):Prop where
 n_list:mg "list"=lf
 n_reversed:mg "reversed"=lf
def cO:az ["start","pairs","mask","ahead","one","two","ends"] ["start","pairs"] (aq mY):=by ac_nf
def mRz(n:R)(L:St):R:=match L with | [_,_,Z (.int M),Z (.int a),_,_,_]=>2*((2^n:R)-M).R+(if M=a then 0 else 1)|_=>0
def ok_reached(F:Fun K "reached" "reached" mY f fd):li 1 f fd ["start","pairs"] spReach:=by
 refine F.ok cO λI A eK s H D Q dO u h=>?_
 let a k n C rfl hA hL ok n1 O:=h;let aa:=ok.n1
 intros;erw[_,(af (aA 2 cO.nd (ay bA ak (pv 0)))
   (af (aA 3 cO.nd ak)
   (af (gC PassesOwn.never (aD l7 (pv 2) (pv 3) (aJ _)) (af (aA 3 cO.nd (pv 2))
   (ao (mx (aM (pv 1)) (iA U (aC (bq 4 cO.nd) (aC (bq 5 cO.nd) bx))) (af (aA 6 cO.nd (ay jB (ay bA ak (pv 4)) (ay bA ak (pv 5))))
   (ao (bJ (aD l7 (ay cV (pv 2) (pv 6)) ak (aJ _)) (ao (aA 2 cO.nd (ay jB (pv 2) (pv 6)))) aN)))))))
   (ao (aG (pv 2)))))),3]
 erw[2649,#[by decide,4,by decide],3]
 refine iH (λL d=>∃(M Ah:R),∃ v4 v5 v6,d=H/\L=[Z (.int 0),Z (.ref a),Z (.int (M:Y)),Z (.int (Ah:Y)),v4,v5,v6]/\M<2^n/\∀ r,Run C M Ah r->Run C 1 0 r)
  (λL _=>mRz n L) #[01,00,661,Nat.one_lt_two_pow ∅,λr z=>z] ?_ ?_
 .rintro L d ⟨M,Ah,v4,v5,v6,rfl,rfl,hM,run⟩;erw[59033];by_cases v:M=Ah
  .subst v;refine xM U ?_;erw[9,O M (run M .stop)]
  refine ite2 (λc=>?_) (λc=>Tn (by rw[F5,RN (λz=>v ∅)];rfl) c)
  erw[57];erw[9,a,U,#[_,SqL.of hA],br (K:=K) (xs:=k) (λi L q=>∃ v4 v5 v6,q=d/\L=[Z (.int 0),Z (.ref a),Z (.int ((cY (C.x i) M:R):Y)),Z (.int (M:Y)),v4,v5,v6]/\cY (C.x i) M<2^n/\M<=cY (C.x i) M) #[661,hM,MN _] (λi L q _ j=>by let _ _ _ z _:=j;rw[z];exact SqL.of hA) ?_ ?_]
  .rintro i x L q B ⟨v4,v5,v6,rfl,rfl,ac,ah⟩;let l t p rfl G:=hL.get B;let b1 b2:=ok.sm l (MH t);erw[p,9,SqT.of G,238998];erw[2649,#[20,by decide],2649,#[20,by decide],933]
   simp only[endsV];erw[15115673];let ps:=xo (m:=M) t;let ab:=EI ac b1 b2;let al:=EJ (cY (C.x i) M) l;simp only[andN];by_cases z:cY (C.x i) M&&&AA l=0
   .refine xM (by rw[z];rfl) ?_
    let e:one1 (cY (C.x i) M) l=cY (C.x i) M:=by unfold one1;rw[Ti z]
    erw[149,by rw[ps,e];rfl,by rw[ps];exact ab,by rw[ps];lia]
   .refine ite2 (λ_=>?_) (λc=>Tn (by rw[F5,RN (λy=>z ∅)];rfl) c)
    let e:one1 (cY (C.x i) M) l=cY (C.x i) M|||AA l:=by unfold one1;rw[Tj z]
    erw[239001];simp only[orN];erw[149,by rw[ps,e];rfl,by rw[ps];exact ab,by rw[ps];lia]
  .rintro L q ⟨v4,v5,v6,rfl,rfl,ac,ah⟩;rw[hL.1,M8]at ac ah ⊢;erw[#[_,M,661,ac,λr z=>run r (.go v z)],3];show 2*(((2^n:R):Y)-((cY C M:R):Y)).R+(if((cY C M:R):Y)=(M:Y) then 0 else 1)<2*(((2^n:R):Y)-(M:Y)).R+(if(M:Y)=(Ah:Y) then 0 else 1);rw[Tj (show ¬ (M:Y)=(Ah:Y) from λz=>v ∅)]
   generalize (2^n:R)=N at hM ac;split<;>lia
 .rintro L g Q1 Q2 J ⟨v1,T,v2,o,e3,b,e4,q'⟩;erw[v1,T,v2,o,e3,b,e4,J _ _ q']
def Hr:az ["many","links"] ["many","links"] (aq ux):=by ac_nf
def ok_whl(F:Fun K "whole" "whole" ux f fd)(aa:lw 1 "reached" ["start","pairs"] spReach q G):li 2 f fd ["many","links"] spWhl:=by
 refine F.ok Hr λL A eK s H o Q dO u h=>?_
 let v n y rfl{a xs rfl hA hL}ok n1 N:=h;let ac:=ok.n1;let l9:=ok.l9;let xl:=hL.1;intro J j;erw[_,(ao (aG (l4 cH (aa.c u (ae ak (ae (cM [] ["link"] (aM (pv 1)) pg_c pt_c (λC T s H=>(bN (ae (pA K (pv 0) ak) (ae (pA K (pv 0) ak) ai))))) ai))) (ay gF (ay bA ak (pv 0)) ak) (aJ _)))),3];erw[9,a,U,#[_,SqL.of hA],cX (K:=K) (xs:=xs) (λi I d=>Same H d/\LsAt PaAt d I (y.x i)) (M4 (ax ∅)) #[λ_ _ e=>e,LsAt.nil] (λi I d _ z=>SqL.of (z.1 _ _ hA)) ?_ ?_]
 .rintro i x I d B ⟨b,hZ⟩;let l M p rfl m:=hL.get B;let ab:=b _ _ m;erw[9,p,_,00,41,SqT.of ab,a30,9,p,_,01,41,SqT.of ab,a31,(by show 2<=RO;decide),λt g=>?_]
  let k:=aj g (.tup [.int (l.1:Y),.int (l.2.1:Y)]);erw[b.P k,3];rw[M5,M];exact(hZ.imp λ_ _ ⟨t,e,z⟩=>#[t,e,k _ _ z]).snoc #[t,U,ag]
 rintro I d _ ⟨b,hZ⟩ D O;rw[xl,M8]at hZ;let k:=aj O (.lst I);erw[D,I,n,y,U,ag,hZ.imp λ_ _ ⟨t,e,z⟩=>#[t,e,k _ _ z],ok,n1,λr run=>?_];erw[2649,#[20,by decide],3749]
 rw[F5];exact N r _ run (b.P k)
structure TxtM(mg:fI->j5 eN):Prop where
 most:∃ t,mg "MOST_MARKS"=Z (.int 14 t)
def Hc{p q:R}:(M&&&(2^p|||2^q)=0↔M.O p=k9/\M.O q=k9)/\(M|||(2^p|||2^q)=M->M.O p=kt/\M.O q=kt):=by
 let b1:∀ i,(2^p|||2^q).O i=(decide (p=i)||decide (q=i)):=λi=>by rw[NS,Nu,Nu]
 erw[#[λh=>?_,λ⟨eK,O⟩=>?_],λh=>?_]
 .let eK:=congrArg (λz=>QE z p) h
  let O:=congrArg (λz=>QE z q) h;simp only[NA,b1,NI]at eK O;constructor
  .simpa using eK
  .simpa using O
 .refine NC λi=>?_;rw[NA,b1,NI];lia
 .let eK:=congrArg (λz=>QE z p) h
  grind
def FO(h:M<2^m)(k:∀ p,p<m->M.O p=kt):M=2^m-1:=by
 refine NC λi=>?_;rw[Ri];by_cases z:i<m
 .simp[*]
 .rw[RN z];exact Pd (Ni h (Ol ∅ ∅))
def uM{n:Y}(a:Gl X x)(y:∃ t,X.mg x=Z (.int n t))(hd:uP_ ((x == ("__debug__" : fI))=k9) uD_):PE X (.Name x pos) (tC (.int n)):=by
 let t h:=y;exact Lv a h #[t,U] hd
theorem oQ:∀ i,m<=cY (ls.x i) m/\cY (ls.x i) m<=cY ls m:=λi=>by
 let n:∀(l:E Lk)(m:R),m<=cY l m:=λl=>by
  induction l with
  |nil=>intro m;exact MN _
  |cons x l C=>intro m;exact NH (EJ m x) (C _)
 erw[n _ _,3];let e:cY ls m=cY (ls.drop i) (cY (ls.x i) m):=by
  unfold cY;rw[← PM,PQ]
 simp[*]
def A1{r:R}(h:cY ls r=r){l:Lk}(hl:l∈ls):r.O l.1=r.O l.2.1:=by
 let i J e:=List.getElem_of_mem hl;let w:ls[i]?=Z l:=by simp[*]
 let v:=oQ (ls:=ls) (m:=r) i;let I:=oQ (ls:=ls) (m:=r) (i+1);let f:cY (ls.x i) r=r:=by lia
 let A:cY (ls.x (i+1)) r=r:=by lia
 rw[xo w,f]at A;let b1 b2:=Hc (M:=r) (p:=l.1) (q:=l.2.1);unfold one1 AA at A;split at A
 .simp!
 .let k D:=b2 A;simp!
def Run.shut{a r:R}(h:Run ls m a r)(hl:∀ l∈ls,l.1<n/\l.2.1<n):(m=a->cY ls m=m)->m<2^n->cY ls r=r/\r<2^n/\(m.O 0=kt->r.O 0=kt):=by
 induction h with
 |stop=>intro eK O;erw[eK U,O,id]
 | @go m a r h d C=>
  intro _ O;let lt:∀(k:E Lk),(∀ l∈k,l.1<n/\l.2.1<n)->∀ m,m<2^n->cY k m<2^n:=λk=>by
   induction k with
   |nil=>intro _ m y;exact y
   |cons x k b=>
    intro D m y;let b1 b2:=D x (M7 ..);exact b (λl hl=>D l (M6 _ hl)) _ (EI y b1 b2)
  let bit:∀(k:E Lk)(m:R),m.O 0=kt->(cY k m).O 0=kt:=λk=>by
   induction k with
   |nil=>intro m y;exact y
   |cons x k b=>
    intro m y;refine b _ ?_;unfold one1;split
    .exact y
    .rw[NS,y];rfl
  let L v j:=C (λe=>by rw[e];exact e) (lt ls hl m O)
  erw[L,v,λz=>j (bit ls m z)]
def run_full{r:R}(h:Run ls 1 0 r)(hl:∀ l∈ls,l.1<n/\l.2.1<n)(n1:1<=n)(J:Conn n ls):r=2^n-1:=by
 let L v eK:=h.shut hl (λz=>by cases z) (Nat.one_lt_two_pow ∅)
 refine FO v λp G=>?_;let x B:=J p G;let d:∀{a b:R}{x:Y},Wk ls a b x->r.O a=r.O b:=λh=>by
  induction h with
  |nil=>rfl
  | @step b i x l O c N C=>
   rw[C];let e:=A1 L (MH c);unfold bey;obtain z|z:=N
   .rw[Ti z,z];exact e
   .simp!
 rw[← d B];exact eK ∅
inductive spOnes
 |mk (n:R) (_:vs=[.int (n:Y)])(_:n<2^40)(_:∀ H',o5->Q (.int (((bl n).L:R):Y)) H')
inductive spOdd
 |mk (n:R) (_:vs=[.int (n:Y)])(_:n<2^40)(_:∀ H',o5->Q (.int (((bl n).L:R)%2:Y)) H')
def mP(K:MJ):Sp:=λm H Q _=>∃(a:fc),∃(v:E R),(m=[.ref a]/\pi a (v.Z iV)/\(∀ k∈v,k<80)/\Q (.int ((Cq v:R):Y)) H)
inductive La
 |mk (v:V)(n mk:R)(ls:E Lk) (_:vs=[.int (n:Y),v,.int (mk:Y)])(_:LnAt H v ls)(_:Lok n ls)(_:1<=n)(_:Conn n ls)(_:mk<2^n)(_:(bl mk).L%2=0)(_:(bl mk).L<=14)(_:∀ H',o5->Q .non H')
def Le:az ["mask"] ["mask"] (aq Bs):=by ac_nf
def ok_ones(F:Fun K "ones" "ones" Bs f fd)(T:Txt mg)(b:lw 1 "bits" ["mask"] spBits a G):li 2 f fd ["mask"] spOnes:=by
 refine F.ok Le λL A eK s H m Q dO u h=>?_
 let n rfl p N:=h;let e:(2:R)^40=1099511627776:=by rfl
 intro J y;erw[_,(ao (aG (aE aB (by rfl) T.n_len bE (ae (b.c u (ae (pv 0) ai)) ai)))),3]
 erw[5273,λr j C _ d=>?_]
 erw[r,9,.inl (SqL.of d),3];rw[MI,MU];exact N _ C
def sc_odd:az ["mask"] ["mask"] (aq Ht):=by ac_nf
def ok_odd(F:Fun K "odd" "odd" Ht f fd)(x:lw 2 "ones" ["mask"] spOnes a G):li 3 f fd ["mask"] spOdd:=by
 refine F.ok sc_odd λL A eK s H m Q dO u h=>?_
 let n rfl T N:=h;intro J y;erw[_,(ao (aG (ay eI (x.c u (ae (pv 0) ai)) ak))),3];erw[9,n,U,T,λj C=>#[165,(by show(0:Y)<2;decide),N _ C]]
def kH:az ["places","mask","place"] ["places"] (aq mZ):=by ac_nf
def ok_mask(F:Fun K "mask_of" "mask_of" mZ f fd):li 1 f fd ["places"] (mP K):=by
 refine F.ok kH λN A eK s H m Q dO u h=>?_
 let a v rfl b g q:=h
 intro J y;erw[_,(af (aA 1 kH.nd ak)
   (af (mx (aM (pv 0)) (bq 2 kH.nd) (ao (aA 1 kH.nd (ay jB (pv 1) (ay bA ak (pv 2))))))
   (ao (aG (pv 1))))),3]
 erw[9,a,U,#[_,b],br (K:=K) (xs:=v.Z iV) (λi L d=>∃ M,L=[Z (.ref a),Z (.int ((Cq (v.x i):R):Y)),M]/\d=H) #[41] (λi L d _ ⟨_,_,z⟩=>by rw[z];exact b) ?_ ?_]
 .rintro i x L d B ⟨M,rfl,rfl⟩;rw[MO]at B;let k D rfl:=MZ.mp B;let c:=g k (MH D);erw[42393,#[by lia,by lia,by decide],933]
  let e:Sf ((Cq (v.x i):R):Y) (1*2^((k:R):Y).R)=((Cq (v.x (i+1)):R):Y):=by
   rw[shlN,orN];unfold Cq;rw[M5,D,PM];rfl
  simp only[e];erw[41]
 .rintro L d ⟨M,rfl,rfl⟩;rw[MI,M8];erw[9,q]
def qC:az ["many","links","marks"] ["many","links","marks"] (aq dQ):=by ac_nf
def ok_ref{I:ge}(F:Fun K "refuse_marks" "refuse_marks" dQ f fd)(T:TxtM mg)(ac:lw 3 "odd" ["mask"] spOdd a G)(aa:lw 2 "whole" ["many","links"] spWhl p J)(x:lw 2 "ones" ["mask"] spOnes C I):li 4 f fd ["many","links","marks"] La:=by
 refine F.ok qC λL A eK s H m Q dO u h=>?_
 let v n mk y rfl hV ok e l ab O few N:=h;let o:=ok.n1;let ah:mk<2^40:=Ni ab (Ol ∅ o)
 let tM M:=T.most
 intro g D;erw[_,(af (bJ (aD cH (ac.c u (ae (pv 2) ai)) ak (aJ _)) (ao cG) aN)
   (af (bJ (m7 (lC (aa.c u (ae (pv 0) (ae (pv 1) ai))))) (ao cG) aN)
   (ao (bJ (aD Ck (x.c u (ae (pv 2) ai)) (uM U T.most) (aJ _)) (ao cG) aN)))),3]
 erw[9,mk,U,ah,λj t=>?_];erw[38,ite2 (λz=>Tn (V.int.inj (S8 z)) ∅) (λ_=>?_)]
 erw[153,v,n,y,U,hV.mono t,ok,e,λr d run b=>?_];let B:=run_full run ok.sm e l
 let i:decide ((r:Y)=1*2^((n:R):Y).R-1)=kt:=Sx (by
  rw[shlN,B];let:=Ph n
  lia)
 rw[i];erw[9,iteF ?_];erw[9,mk,U,ah,λq k=>?_];erw[2469,ite2 (λz=>Tn (S8 z) (by grind)) (λ_=>?_)]
 exact N _ (t.P (b.P k))
inductive spRow
 |mk (v:V)(va:fc)(r s:R)(ls:E Lk)(VL:E (j5 R))(ks:E R) (_:vs=[v,.ref va,.int (r:Y)])(_:LnAt H v ls)(_:H va=Z (.lst (VL.Z oN)))(_:VL[s]?=Z lf)(_:Pth ls VL s r ks)(_:ks.L<=40)(_:∀ q H',o5->H' q=Z (.lst (ks.y.Z iV))->Q (.ref q) H')
def mR:az ["links","via","room","back","here"] ["links","via","room"] (aq pR):=by ac_nf
def ok_row(F:Fun K "row_to" "row_to" pR f fd)(T:TxtR mg)(ab:lw 1 "beyond" ["link","room"] Lb p G):li 2 f fd ["links","via","room"] spRow:=by
 refine F.ok mR λN A eK s H o Q dO u h=>?_
 let v va r s0 ls VL x rfl{a D rfl hA hL}ac ah hP aI O:=h
 intros;erw[_,(af (aA 3 mR.nd (bX ai))
   (af (aA 4 mR.nd (pv 2))
   (af (gC PassesOwn.never (aD EG (ba (pv 1) (pv 4)) fZ (aJ _)) (af (aW (eF Na Nq Np aX (pv 3) (ae (ba (pv 1) (pv 4)) ai)))
   (ao (aA 4 mR.nd (ab.c u (ae (ba (pv 0) (ba (pv 1) (pv 4))) (ae (pv 4) ai)))))))
   (ao (aG (qK U U T.n_list U T.n_reversed (pv 3))))))),3]
 erw[∅,λl M=>?_]
 let lv:l≠va:=λz=>by simp!
 erw[9,iH (λL d=>∃(here:R)(pre rest:E R),L=[Z (.ref a),Z (.ref va),Z (.int (r:Y)),Z (.ref l),Z (.int (here:Y))]/\d l=Z (.lst (pre.Z iV))/\pre++rest=x/\Pth ls VL s0 here rest/\Same H d)
  (λ_ d=>match d l with|some (.lst I)=>100-I.L|_=>0) #[r,[],x,U,ag,U,hP,aj M _] ?_ ?_]
 .rintro L d ⟨here,pre,rest,rfl,m,ar,y,b⟩;let aa:pre.L+rest.L<=40:=by
   let:=congrArg List.length ar;rw[MP]at this;lia
  let am:=b _ _ ac
  cases y with
  |root=>
   erw[153,va,661,SqL.of am,aF (Io ah),38,iteF ?_];rw[NT]at ar;subst ar;erw[9,l,9,SqL.of m,λq n=>?_];refine O q _ (b.P (aj n _)) ?_;rw[ag,List.map_reverse]
  | @step _ k lk av t al an=>
   let aL ap lt rfl C:=hL.2 k lk al;erw[153,va,661,SqL.of am,aF (Io t),38,iteT ?_];rw[OJ]at aa;erw[9,.inl #[6,SqL.of m],153,va,661,SqL.of am,aF (Io t),l,165,m,ax (by rw[MI];lia),3]
   let g:=aK b M (.lst (pre.Z iV++[.int (k:Y)]));erw[2457,va,661,SqL.of (g _ _ ac),aF (Io t),a,661,SqL.of (g _ _ hA),aF ap,9,.ref lt,lk,here,U,#[lt,U,g _ _ C],3];erw[#[bey lk here,pre++[k],av,62,an,g],3]
   .rw[ag,M0];rfl
   .rw[Qk];exact ar
   .rw[m];show(match(upd d l (.lst (pre.Z iV++[.int (k:Y)]))) l with|some (.lst I)=>100-I.L|_=>0)<100-(pre.Z iV).L
    rw[ag];show 100-(pre.Z iV++[V.int (k:Y)]).L<100-(pre.Z iV).L;rw[MP,MI,M9];lia
 .rintro L d Q1 Q2 J ⟨v',e,i,j,a',b',B,d',f',g',h',i',j',k',l',q⟩;erw[v',e,i,j,a',b',B,d',f',g',h',i',j',k',l',J _ _ q]
inductive uf
 |mk (ta r:fc)(xs vals:E V)(ks:E R) (_:vs=[.ref ta,.ref r])(_:H ta=Z (.lst xs))(_:H r=Z (.lst (ks.Z iV)))(_:vals.L=ks.L)(_:ks.L<=900)(_:(∀(i k:R),ks[i]?=Z k->∃ y,xs[k]?=Z y/\vals[i]?=Z y))(_:∀ q H',o5->H q=lf->H' q=Z (.lst vals)->Q (.ref q) H')
def yU:Sp:=λm H Q _=>m=[]/\∀ p t l,Same H l->H p=lf->l p=Z (.dK [(.inl ((0:R):Y),.ref t)])->l t=Z (.tup [.int 0,.non,.non])->Q (.ref p) l
def wZ:az ["entries","numbers"] ["entries","numbers"] (aq iU):=by ac_nf
def ok_chosen(F:Fun K "chosen_of" "chosen_of" iU f fd):li 1 f fd ["entries","numbers"] uf:=by
 refine F.ok wZ λL A g s H m Q dO u h=>?_
 let l r xs c v rfl b a e j t N:=h;intro J G;erw[_,(ao (aG (cM [("entries",0)] ["number"] (aM (pv 1)) pg_c pt_c (λC M s H=>(pB K (pv 1) (pv 0)))))),3];erw[9,r,U,#[_,SqL.of a],cX (K:=K) (xs:=v.Z iV) (λi I d=>d=H/\I=c.x i) (M4 (ax (by grind))) #[10] (λi I d _ z=>by rw[z.1];exact SqL.of a) ?_ ?_]
 .rintro i x I d B ⟨rfl,rfl⟩;rw[MO]at B;let k D rfl:=MZ.mp B;let y eK O:=t i k D;erw[153,l,661,SqL.of b,aF eK,14];rw[M5,O];rfl
 rintro I d _ ⟨rfl,rfl⟩ q n;rw[MI,← e,M8];exact N q _ (aj n _) n ag
def wX:az [] [] (aq iQ):=by ac_nf
def ok_table(F:Fun K "new_table" "new_table" iQ f fd):li 1 f fd [] yU:=by
 refine F.ok wX (λL A eK s H m Q dO u h=>?_) (λm H Q dO h=>by rw[h.1];rfl)
 let rfl N:=h;intro J y;erw[_,(ao (aG (uN (pV ak (bN (ae ak (ae fZ (ae fZ ai)))) uE) U U (λz=>by cases z) ∅))),3]
 intro p G;erw[(by show 3<=RO;decide),λt g=>?_]
 let k:=aj G (.dK []);let D:=aj g (.tup [.int 0,.non,.non]);let pt:p≠t:=λz=>by rw[← z,ag]at g;cases g
 erw[by rw[aw pt];exact ag,[(.inl ((0:R):Y),.ref t)],U,(by show 1<=15;decide),3]
 refine N p t _ (aK (k.P D) G _) G ag ?_;rw[aw (Ne.X pt)];exact ag
def FdAt(n:R)(ls:E Lk)(H:Hp)(v:V)(s:R):Prop:=∃ t l a d f,v=.ref t/\H t=Z (.tup [.ref l,.ref a])/\H l=Z (.lst (d.Z oV))/\H a=Z (.lst (f.Z oN))/\FI n ls s MM d f [] (λ_ _=>False)
def tb_same{q:fI}{x:Pos}{TT:fc}(h:Tb q x TT H)(s:o5):Tb q x TT H':=by
 obtain y|⟨v,u,M⟩:=h
 .exact .inl (s _ _ y)
 .exact .inr #[v,s _ _ u,s _ _ M]
theorem tb_ne{q:fI}{x:Pos}{TT:fc}(h:Tb q x TT H){b:fc}{o:HO}(e:H b=Z o)(n:∀ ps,o≠.tbl ps):b≠TT:=λz=>by
 rw[z]at e;obtain y|⟨_,y,_⟩:=h<;>rw[y]at e<;>cases e<;>exact n _ U
def SmT(H H':Hp):Prop:=∀ b o,(∀ N,o≠.tbl N)->H b=Z o->H' b=Z o
theorem SmT.trans(a:SmT H H1)(b:SmT H1 H2):SmT H H2:=λc o n e=>b c o n (a c o n e)
theorem SmT.of(s:o5):SmT H H':=λc o _ e=>s c o e
theorem TbS.smT{q:fI}{x:Pos}{TT:fc}(s:TbS TT H H')(h:Tb q x TT H):SmT H H':=λb o n e=>s b o (tb_ne h e n) e
theorem SmT.lst{H H':Hp}(s:SmT H H'){b:fc}{xs:E V}(e:H b=Z (.lst xs)):H' b=Z (.lst xs):=s _ _ (λN z=>by cases z) e
theorem SmT.tup{H H':Hp}(s:SmT H H'){b:fc}{xs:E V}(e:H b=Z (.tup xs)):H' b=Z (.tup xs):=s _ _ (λN z=>by cases z) e
def FdAt.mono{s:R}(h:FdAt n ls H v s)(sm:SmT H H'):FdAt n ls H' v s:=by
 let t l a d f e eK O G dO:=h;erw[t,l,a,d,f,e,sm.tup eK,sm.lst O,sm.lst G,dO]
def LnAt.smT{r:E Lk}(h:LnAt H v r)(s:SmT H H'):LnAt H' v r:=by
 let a k e z l:=h;erw[a,k,e,s.lst z,l.imp λ_ _ ⟨t,e,q⟩=>#[t,e,s.tup q]]
def LT(H H':Hp):Prop:=(∀ b D,H b=Z (.lst D)->H' b=Z (.lst D))/\∀ b D,H b=Z (.tup D)->H' b=Z (.tup D)
theorem LT.same(s:o5):LT H H':=#[λ_ _ e=>s _ _ e,λ_ _ e=>s _ _ e]
theorem LT.tbS{tb:fc}(s:TbS tb H H')(h:H tb=Z (.dK kvs)):LT H H':=#[λb D e=>s _ _ (λz=>by simp!) e,λb D e=>s _ _ (λz=>by simp!) e]
def FdAt.lt{s:R}(h:FdAt n ls H v s)(sm:LT H H'):FdAt n ls H' v s:=by
 let t l a d f e eK O G dO:=h;erw[t,l,a,d,f,e,sm.2 _ _ eK,sm.1 _ _ O,sm.1 _ _ G,dO]
def PrI(v:V)(mk:R)(ls:E Lk)(r A d tb:fc)(t:Y)(H8:Hp)(L:St)(H:Hp):Prop:=∃(c u:R)(a b:j5 V),L=[Z (.int ((2:R):Y)),Z v,Z (.int (mk:Y)),Z (.ref r),Z (.ref A),Z (.ref d),Z (.ref tb),Z (.int (c:Y)),Z (.int t),Z (.int (u:Y)),a,b]/\Same H8 H/\((c=mk/\u=0)∨(c=0/\∃ k,k<ls.L/\u=2^k))
inductive spPaired(TT:fc)
 |mk (v:V)(mk:R)(ls:E Lk) (_:vs=[.int ((2:R):Y),v,.int (mk:Y)])(_:LnAt H v ls)(_:Lok 2 ls)(_:Crs ls)(_:0<ls.L)(_:(mk=0∨mk=3))(_:Tb lqF lpF TT H)(_:∀(t:fc)(cost:Y)(u:R) H',SmT H H'->Tb lqF lpF TT H'->H' t=Z (.tup [.int cost,.int (u:Y)])->((mk=0/\cost=0)∨(mk=3/\Mn ls cost/\∃ k,k<ls.L/\u=2^k))->Q (.ref t) H')
def RwA(d:Y)(mk:R)(H:Hp)(v:V)(s:R):Prop:=∃ p,v=V.ref p/\H p=Z (.lst ((bl mk).Z λx=>V.int (D2 d s x)))
theorem DJ{TT tb:fc}(h:Tb lqF lpF TT H)(a:H tb=Z (.dK kvs))(f:TbS tb H H'):Tb lqF lpF TT H':=tZ h λb M=>by
 let T:∃ o,H b=Z o/\b≠tb:=by
  obtain rfl|⟨v,M⟩:=M
  .obtain q|⟨_,q,_⟩:=h
   .erw[_,q,λz=>by simp!]
   .erw[_,q,λz=>by simp!]
  .erw[_,M,λz=>by rw[z,a]at M;cases M]
 let o eK O:=T;rw[eK];exact f _ _ O eK
def wJ{mk:R}(h:mk=0∨mk=3):mk<2^2/\(bl mk).L%2=0/\(bl mk).L<=2/\2^(bl mk).L-1=mk:=by obtain rfl|rfl:=h<;>decide
def bl3:bl 3=[0,1]:=by decide
def b8:az ["many","links","marks","rooms","found","between","table","left","cost","used","first","mate"] ["many","links","marks"] (aq pS):=by ac_nf
def mPz(L:St):R:=match L with | [_,_,_,_,_,_,_,Z (.int c),_,_,_,_]=>c.R|_=>0
def ok_paired{TT f3 f4 f5 f6 f7 f8:fc}{bG bY ce ch cR ci:ge}(F:Fun K "paired" "paired" pS f fd)(T:Txt mg)(an:lw 4 "refuse_marks" ["many","links","marks"] La a G)(ac:lw 1 "bits" ["mask"] spBits I J)(a6:lw 2 "fares" ["many","links","start"] (spFares TT) f3 bG)(ar:lw 1 "chosen_of" ["entries","numbers"] uf f4 bY)(av:lw 1 "new_table" [] yU f5 ce)(ah:lw 10 "laid_in_pairs" ["between","chosen","table"] (wQ 8) f6 ch)(ab:lw 1 "mask_of" ["places"] (mP K) f7 cR)(bU:lw 2 "row_to" ["links","via","room"] spRow f8 ci):li 11 f fd ["many","links","marks"] (spPaired TT):=by
 refine F.ok b8 λaa A m s H vs Q dO g h=>?_
 let v mk ls rfl hV ok cr ne cb bd kk:=h;let hu:=pG g;let cT:=ok.l9;let d md:=Mn.of ne;let m4 m1 m2 mf:=wJ cb;let bH:∀ x∈bl mk,x<2:=λx B=>bl_lt m4 B
 intros;erw[_,(af (aW (an.c g (ae (pv 0) (ae (pv 1) (ae (pv 2) ai)))))
   (af (aA 3 b8.nd (ac.c g (ae (pv 2) ai)))
   (af (lY 4 [("many",0),("links",1)] ["room"] b8.nd (aM (pv 3)) pg_c pt_c (λC ex s H=>(a6.c g (ae (pv 1) (ae (pv 2) (ae (pv 0) ai))))))
   (af (lY 5 [("rooms",3)] ["told","via"] b8.nd (aM (pv 4)) (λC ex s H=>(dD (n:=2) (K:=K) U U (aC (aY (i:=0) (show(["told","via","rooms"]:E fI).h from by decide) U (Or.inl U)) (aC (aY (i:=1) (show(["told","via","rooms"]:E fI).h from by decide) U (Or.inl U)) bx)))) pt_c (λC ex s H=>(ar.c g (ae (pv 0) (ae (pv 2) ai)))))
   (af (aA 6 b8.nd (av.d g))
   (af (aA 7 b8.nd (ay gF (ay bA ak (aE aB (by rfl) T.n_len bE (ae (pv 3) ai))) ak))
   (af (aA 8 b8.nd (bV (ah.c g (ae (pv 5) (ae (pv 7) (ae (pv 6) ai)))) ak))
   (af (aA 9 b8.nd ak)
   (af (gC PassesOwn.never (aD l7 (pv 7) ak (aJ _)) (af (aA 10 b8.nd (bV (iW hu (pv 6) (pv 7) (λ_ _=>rfl)) ak))
   (af (aA 11 b8.nd (bV (iW hu (pv 6) (pv 7) (λ_ _=>rfl)) ak))
   (af (aA 9 b8.nd (ay eX (pv 9) (ab.c g (ae (bU.c g (ae (pv 1) (ae (bV (ba (pv 4) (pv 10)) ak) (ae (ba (pv 3) (pv 11)) ai)))) ai))))
   (ao (aA 7 b8.nd (ay eX (ay eX (pv 7) (ay bA ak (pv 10))) (ay bA ak (pv 11)))))))))
   (ao (aG (bN (ae (pv 8) (ae (pv 9) ai)))))))))))))),3]
 erw[2457,v,02,mk,ls,U,hV,ok,4,cr.conn ne,m4,m1,4,λH1 s1=>?_]
 erw[9,(mk:Y),82,λr M s2 cq bb=>?_]
 rw[MU]at bb;let al:=s1.P s2;let bg:=tb_same bd al;let a7:M r=Z (.lst ((bl mk).Z iV)):=bb;let a4:((bl mk).Z iV).L=(bl mk).L:=MI ..;erw[9,r,U,#[_,SqL.of a7],aZ (K:=K) (xs:=(bl mk).Z iV) (λi zs H3=>SmT M H3/\Tb lqF lpF TT H3/\LsAt (FdAt 2 ls) H3 zs ((bl mk).x i)) (M4 (ax ∅)) #[λ_ _ _ e=>e,bg,LsAt.nil] (λi zs H3 _ z=>SqL.of (z.1.lst a7)) ?_ ?_ ?_]
 .rintro i x zs H3 B ⟨a2,aL,hZ⟩;rw[MO]at B;let k D rfl:=MZ.mp B;erw[U,yesT #[2457,v,02,k,ls,U,LnAt.smT (hV.mono al) a2,ok,#[by decide,by decide],cr,bH k (MH D),aL,λt ta va TL VL H4 a5 aT _ _ ht ap be fi=>?_]]
  let bn:=TbS.smT a5 aL;erw[a2.P bn,aT,3];rw[M5,D];exact(hZ.imp λ_ _ q=>q.mono bn).snoc #[t,ta,va,TL,VL,U,ht,ap,be,fi]
 .rintro zs H3 ⟨a2,aL,hZ⟩ fa bB;rw[a4,M8]at hZ;let z4:=aj bB (.lst zs);let a8:SmT M (upd H3 fa (.lst zs)):=a2.P (.of z4);let aT:=tb_same aL z4;let bi:LsAt (FdAt 2 ls) (upd H3 fa (.lst zs)) zs (bl mk):=hZ.imp λ_ _ q=>q.mono (.of z4);let a0:(upd H3 fa (.lst zs)) fa=Z (.lst zs):=ag;generalize upd H3 fa (.lst zs)=H4 at a8 aT bi a0;let zl:=bi.1;let a9:=a8.lst a7;erw[9,fa,U,#[_,SqL.of a0],aZ (K:=K) (xs:=zs) (λi ws H5=>Same H4 H5/\LsAt (RwA d mk) H5 ws ((bl mk).x i)) (M4 (ax ∅)) #[λ_ _ e=>e,LsAt.nil] (λi ws H5 _ z=>SqL.of (z.1 _ _ a0)) ?_ ?_ ?_]
  .rintro i x ws H5 B ⟨s5,hW⟩;let s0 bf t ta va TL VL rfl ht ap be fi:=bi.get B;let cW:=bH s0 (MH bf);erw[t,9,SqT.of (s5 _ _ ht),173462,yesT #[153,ta,r,_,(bl mk).Z λx=>V.int (D2 d s0 x),bl mk,U,s5 _ _ ap,s5 _ _ a9,MI ..,4,λj k D=>?_,λq H6 s6 bQ hq=>?_]]
   .erw[.int (D2 d s0 k),3,by simp[*]]
    let d' _ _ b0 _ _ x2:=fi.two ne;rw[md.uniq b0];exact zQ (x2 k (bH k (MH D)))
   .erw[s5.P s6,3];rw[M5,bf];exact(hW.imp λ_ _ ⟨p,e,z⟩=>#[p,e,s6 _ _ z]).snoc #[q,U,hq]
  .rintro ws H5 ⟨s5,hW⟩ bv cl;rw[zl,M8]at hW;let z6:=aj cl (.lst ws);erw[U,λtb t0 H7 s7 b5 a3 aS=>?_];let a1:Same H4 H7:=s5.P (z6.P s7);let cn:LsAt (RwA d mk) H7 ws (bl mk):=hW.imp λ_ _ ⟨p,e,z⟩=>#[p,e,s7 _ _ (z6 _ _ z)];let cs:H7 bv=Z (.lst ws):=s7 _ _ ag;let aI:∀ i,i<(bl mk).L->(bl mk)[i]?=Z ((bl mk).v i 0):=λi N=>by simp[*]
   let b6:=a1 _ _ a9;let bm:=tb_same aT a1;let eL:(1:Y)*2^((((bl mk).Z iV).L:R):Y).R-1=(mk:Y):=by
    rw[a4,shlN];let:=Ph (bl mk).L;lia
   erw[9,r,9,.inl (SqL.of b6),165,#[20,by decide],933]
   simp only[eL];erw[2457,.ref bv,tb,t0,mk,d,U,a3,aS,cb.imp (λe=>#[e,by decide]) λe=>#[e,by decide],λe=>?_,λt cost y z H8 sT ht hc=>?_]
   .rw[e,bl3]at cn;let y hy p rfl hp:=cn.2 0 0 U;rw[bl3]at hp;erw[bv,p,ws,9,cs,hy,hp,U]
   let ca:=LT.tbS sT a3;erw[t,_,00,41,SqT.of ht,a30,3];let c5:Tb lqF lpF TT H8:=DJ bm a3 sT;let cd:SmT H H8:=λb o no e=>by
    let e4:=a8 b o no (al _ _ e);let e7:=a1 _ _ e4;refine sT _ _ (λz=>?_) e7;subst z;let:=fM (s5.P z6) b5;simp!
   let ct:LsAt (FdAt 2 ls) H8 zs (bl mk):=bi.imp λ_ _ q=>(q.lt (LT.same a1)).lt ca;let cu:=ca.1 _ _ (a1 _ _ a0);let cv:=ca.1 _ _ b6;let c6:LnAt H8 v ls:=(LnAt.smT hV cd);refine iH (PrI v mk ls r fa bv tb cost H8) (λL _=>mPz L) #[mk,00,37,λ_ _ e=>e,.inl #[10]] ?_ ?_
   .rintro L H9 ⟨c,u,am,bR,rfl,s9,cw⟩;erw[3689];by_cases c0:c=0
    .subst c0;refine xM U ?_;erw[153,(by show 2<=RO;decide),λt9 c7=>?_]
     let z9:=aj c7 (.tup [.int cost,.int (u:Y)]);refine kk t9 cost u _ (cd.P (.of (s9.P z9))) (tb_same c5 (s9.P z9)) ag ?_;rcases hc with⟨eK,O,_⟩|⟨eK,O,_⟩
     .exact .inl #[eK,O]
     .rcases cw with⟨z,_⟩|⟨_,z⟩
      .lia
      .exact .inr #[eK,O▸md,z]
    .refine ite2 (λ_=>?_) (λz=>Tn (by rw[RN (λy=>c0 (by let:=V.int.inj y;lia))];rfl) z)
     let cm u0:c=mk/\u=0:=cw.resolve_right λz=>c0 z.1;let e ec rfl rfl co:=hc.resolve_left λz=>c0 (cm.P z.1);rw[e]at cm;subst cm u0;let cy:=s9 _ _ ht;let dg:DGet H9 tb (.int ((3:R):Y)) (Z (.ref t)):=DGet.k (k:=k3) (s9 _ _ co);rw[e,bl3]at ct cv;erw[153,tb,9,dg,t,_,01,41,SqT.of cy,a31,3];erw[153,tb,9,dg,t,_,02,41,SqT.of cy,a32,3];let y hy tF dc c8 TL VL rfl c9 db cz fi:=ct.2 0 0 U;let d' k l _ D hv _:=fi.two ne;let kl:=(MF.mp D).1;let da:Pth ls VL 0 1 [k]:=.step hv D (by rw[(cr.bey (MH D) (show 1<2 by decide)).2];exact .root)
     erw[39321,fa,661,SqL.of (s9 _ _ cu),aF hy,tF,_,01,41,SqT.of (s9 _ _ c9),at1,153,r,661,SqL.of (s9 _ _ cv),at1,v,c8,01,00,ls,VL,[k],U,c6.mono s9,s9 _ _ cz,fi.vs,da,(show 1<=40 by decide),λq cB cc hq=>?_]
     erw[q,[k],U,SqL.of hq,λx B=>by rw[MQ.mp B];lia,933]
     let ex:Sh ((0:R):Y) ((Cq [k]:R):Y)=((2^k:R):Y):=by
      rw[xorN,Nat.zero_xor];refine congrArg _ ?_;show 0|||2^k=2^k
      exact Nat.zero_or _
     simp only[ex];erw[42393,#[by decide,4,by decide],678309,#[by decide,4,by decide],933]
     let ec:Sh (Sh ((3:R):Y) (1*2^((0:Y)).R)) (1*2^((1:Y)).R)=((0:R):Y):=by decide
     simp only[ec];erw[#[00,2^k,37,s9.P cc,.inr #[U,k,kl,U]],(show 0<3 by decide)]
   .rintro L H9 Q1 Q2 N ⟨v1,e1,e2,b,e3,q⟩;erw[v1,e1,e2,b,e3,N _ _ q]
  .rintro i ws H5 ⟨_,hW⟩;rw[hW.1,NQ];lia
 .rintro i zs H3 ⟨_,_,hZ⟩;rw[hZ.1,NQ];lia
structure TxtZ(mg:fI->j5 eN):Prop extends Txt mg where
 n_zip:mg "zip"=lf
def TdAt(n:R)(ls:E Lk)(H:Hp)(v:V)(s:R):Prop:=∃ l d f,v=.ref l/\H l=Z (.lst (d.Z oV))/\FI n ls s MM d f [] (λ_ _=>False)
def TdAt.lt{s:R}(h:TdAt n ls H v s)(k:∀ b xs,H b=Z (.lst xs)->H' b=Z (.lst xs)):TdAt n ls H' v s:=by
 let l d f e eK O:=h;erw[l,d,f,e,k _ _ eK,O]
def RwO(d:Y)(l:E R)(H:Hp)(v:V)(s:R):Prop:=∃ p,v=V.ref p/\H p=Z (.lst (l.Z λx=>V.int (D2 d s x)))
def DT:Sp:=λm H Q _=>m=[.int ((3:R):Y)]/\∀ l,Same H l->Q (.int ((0:R):Y)) l
inductive spHts(TT:fc)
 |mk (v:V)(ls:E Lk) (_:vs=[.int ((2:R):Y),v,.int ((3:R):Y)])(_:LnAt H v ls)(_:Lok 2 ls)(_:Crs ls)(_:0<ls.L)(_:Tb lqF lpF TT H)(_:∀(p:fc)(d:Y) H',SmT H H'->Tb lqF lpF TT H'->H' p=Z (.lst [.int 0,.int d])->Mn ls d->Q (.ref p) H')
def Cf:az ["marks"] ["marks"] (aq mX):=by ac_nf
def ok_root(F:Fun K "root_of" "root_of" mX f fd)(b:lw 1 "bits" ["mask"] spBits a G):li 2 f fd ["marks"] DT:=by
 refine F.ok Cf (λL A eK s H m Q dO u h=>?_) (λm H Q dO h=>by rw[h.1];rfl)
 let rfl N:=h;intro J y;erw[_,(ao (aG (fk (aD l7 (pv 0) ak (aJ _)) (ba (b.c u (ae (pv 0) ai)) ak) ak))),3];erw[617,iteT ?_];erw[9,((3:R):Y),82,λr j C _ d=>?_]
 rw[MU,show K2.bitsF 0 3=[0,1] from bl3]at d;erw[r,661,SqL.of d,at0,N j C]
def cf:az ["many","links","marks","root","others","found","between","table","everyone","rests","costs","room"] ["many","links","marks"] (aq m5):=by ac_nf
def ok_hts{TT f3 f4 f5 f6 f8:fc}{bB b0 cm cn co:ge}(F:Fun K "heights" "heights" m5 f fd)(T:TxtZ mg)(al:lw 4 "refuse_marks" ["many","links","marks"] La a G)(ab:lw 1 "bits" ["mask"] spBits I J)(a4:lw 2 "fares" ["many","links","start"] (spFares TT) f3 bB)(an:lw 1 "chosen_of" ["entries","numbers"] uf f4 b0)(ap:lw 1 "new_table" [] yU f5 cm)(ac:lw 10 "laid_in_pairs" ["between","chosen","table"] (wQ 8) f6 cn)(aT:lw 2 "root_of" ["marks"] DT f8 co):li 11 f fd ["many","links","marks"] (spHts TT):=by
 refine F.ok cf λaa A eK s H vs Q dO u h=>?_
 let v ls rfl hV ok cr ne a9 kk:=h;let hu:=pG u;let cB:=ok.l9;let d md:=Mn.of ne;let m4 m1 m2 mf:=wJ (.inr U)
 intros;erw[_,(af (aW (al.c u (ae (pv 0) (ae (pv 1) (ae (pv 2) ai)))))
   (af (aA 3 cf.nd (aT.c u (ae (pv 2) ai)))
   (af (aA 4 cf.nd (ab.c u (ae (ay eX (pv 2) (ay bA ak (pv 3))) ai)))
   (af (lY 5 [("many",0),("links",1)] ["room"] cf.nd (aM (pv 4)) pg_c pt_c (λC ex s H=>(pA K (a4.c u (ae (pv 1) (ae (pv 2) (ae (pv 0) ai)))) ak)))
   (af (aA 6 cf.nd (cM [("others",4)] ["told"] (aM (pv 5)) pg_c pt_c (λC ex s H=>(an.c u (ae (pv 0) (ae (pv 1) ai))))))
   (af (aA 7 cf.nd (ap.d u))
   (af (aA 8 cf.nd (ay gF (ay bA ak (aE aB (by rfl) T.n_len bE (ae (pv 4) ai))) ak))
   (af (lY 9 [("table",7),("everyone",8),("between",6)] ["number"] cf.nd (aP U T.n_range (ae (aE aB (by rfl) T.n_len bE (ae (pv 4) ai)) ai)) pg_c pt_c (λC ex s H=>(pA K (ac.c u (ae (pv 3) (ae (ay eX (pv 2) (ay bA ak (pv 0))) (ae (pv 1) ai)))) ak)))
   (af (aA 10 cf.nd (bX ai))
   (af (mx (aP U T.n_range (ae (pv 0) ai)) (bq 11 cf.nd) (ao (aW (eF Na Nq Np aX (pv 10) (ae (aE (rP U) (by rfl) T.n_min oW (ae (cM [("room",11)] ["told","rest"] (Ez U T.n_zip (ae (pv 5) (ae (pv 9) ai))) (λC ex s H=>(dD (n:=2) (K:=K) U U (aC (aY (i:=0) (show(["told","rest","room"]:E fI).h from by decide) U (Or.inl U)) (aC (aY (i:=1) (show(["told","rest","room"]:E fI).h from by decide) U (Or.inl U)) bx)))) pt_c (λC ex s H=>(ay cg (pB K (pv 0) (pv 2)) (pv 1)))) ai)) ai)))))
   (ao (aG (cM [("root",3),("costs",10)] ["cost"] (aM (pv 10)) pg_c pt_c (λC ex s H=>(ay gF (pB K (pv 2) (pv 1)) (pv 0)))))))))))))))),3]
 erw[2457,v,02,03,ls,U,hV,ok,4,cr.conn ne,m4,m1,4,λO g=>?_]
 erw[41,λc9 bn=>?_];let ex:Sh ((3:R):Y) (1*2^((0:R):Y).R)=((2:R):Y):=by decide
 erw[42393,#[by decide,4,by decide],933]
 simp only[ex];erw[((2:R):Y),82,λr M s2 cu a8=>?_]
 rw[MU,show K2.bitsF 0 2=[1] by decide]at a8
 let l el:∃ l,l=[1]:=#[9];let l1:l.L=1:=by rw[el];rfl
 let bG:∀ x∈l,x<2:=λx B=>by rw[el]at B;rw[MQ.mp B];decide
 let a5:M r=Z (.lst (l.Z iV)):=by rw[el];exact a8
 let ah:=g.P (bn.P s2);let be:=tb_same a9 ah;let a2:(l.Z iV).L=l.L:=MI ..;erw[9,r,U,#[_,SqL.of a5],aZ (K:=K) (xs:=l.Z iV) (λi zs H3=>SmT M H3/\Tb lqF lpF TT H3/\LsAt (TdAt 2 ls) H3 zs (l.x i)) (M4 (ax ∅)) #[λ_ _ _ e=>e,be,LsAt.nil] (λi zs H3 _ z=>SqL.of (z.1.lst a5)) ?_ ?_ ?_]
 .rintro i x zs H3 B ⟨a0,ar,hZ⟩;rw[MO]at B;let k D rfl:=MZ.mp B;erw[U,yesT #[2457,v,02,k,ls,U,LnAt.smT (hV.mono ah) a0,ok,#[by decide,by decide],cr,bG k (MH D),ar,λt ta va TL VL H4 a3 aI _ _ ht am bb fi=>?_]]
  let bi:=TbS.smT a3 ar;erw[t,_,00,41,SqT.of ht,at0,a0.P bi,aI,3];rw[M5,D];exact(hZ.imp λ_ _ q=>q.lt λ_ _ e=>bi.lst e).snoc #[ta,TL,VL,U,am,fi]
 .rintro zs H3 ⟨a0,ar,hZ⟩ fa bm;rw[a2,M8]at hZ;let z4:=aj bm (.lst zs);let a6:SmT M (upd H3 fa (.lst zs)):=a0.P (.of z4);let aI:=tb_same ar z4;let bf:LsAt (TdAt 2 ls) (upd H3 fa (.lst zs)) zs l:=hZ.imp λ_ _ q=>q.lt λ_ _ e=>z4 _ _ e;let aL:(upd H3 fa (.lst zs)) fa=Z (.lst zs):=ag;generalize upd H3 fa (.lst zs)=H4 at a6 aI bf aL;let zl:=bf.1;let a7:=a6.lst a5;erw[9,fa,U,#[_,SqL.of aL],cX (K:=K) (xs:=zs) (λi ws H5=>Same H4 H5/\LsAt (RwO d l) H5 ws (l.x i)) (M4 (ax ∅)) #[λ_ _ e=>e,LsAt.nil] (λi ws H5 _ z=>SqL.of (z.1 _ _ aL)) ?_ ?_]
  .rintro i x ws H5 B ⟨s5,hW⟩;let s0 bd ta TL VL rfl am fi:=bf.get B;let cR:=bG s0 (MH bd);erw[153,ta,r,_,l.Z λx=>V.int (D2 d s0 x),l,U,s5 _ _ am,s5 _ _ a7,MI ..,4,λj k D=>?_,λq H6 s6 bH hq=>?_]
   .erw[.int (D2 d s0 k),3,by rw[MO,D];rfl]
    let d' _ _ b5 _ _ x2:=fi.two ne;rw[md.uniq b5];exact zQ (x2 k (bG k (MH D)))
   .erw[s5.P s6,3];rw[M5,bd];exact(hW.imp λ_ _ ⟨p,e,z⟩=>#[p,e,s6 _ _ z]).snoc #[q,U,hq]
  .rintro ws H5 _ ⟨s5,hW⟩ bv cq;rw[zl,M8]at hW;let z6:=aj cq (.lst ws);erw[U,λtb t0 H7 s7 b6 a1 av=>?_];let aS:Same H4 H7:=s5.P (z6.P s7);let cs:LsAt (RwO d l) H7 ws l:=hW.imp λ_ _ ⟨p,e,z⟩=>#[p,e,s7 _ _ (z6 _ _ z)];let cb:=aS _ _ a7;let bg:=tb_same aI aS;let eL:(1:Y)*2^(((l.Z iV).L:R):Y).R-1=1:=by rw[a2,l1];rfl
   erw[9,r,9,.inl (SqL.of cb),165,#[4,by rw[a2,l1];decide,by decide],933]
   simp only[eL];erw[9,r,9,.inl (SqL.of cb),329,dI (k:=(l.Z iV).L) (λi ys H9=>TbS tb H7 H9/\H9 tb=Z (.dK [(k0,.ref t0)])/\ys=MV i (V.int 0)) (M4 (ax ∅)) #[λ_ _ _ e=>e,a1,U] ?_ ?_ ?_]
   .rintro i ys H9 N ⟨sT,ch,rfl⟩;rw[a2,l1]at N;let i0:i=0:=by lia
    subst i0;let cT:Sh 1 (1*2^((0:Y)+((0:R):Y)).R)=((0:R):Y):=by decide
    erw[U,yesT #[678297,#[by decide,4,by decide],933]]
    simp only[cT];erw[9,.ref bv,tb,t0,00,00,U,ch,sT _ _ (λz=>by rw[z,a1]at av;cases av) av,.inl #[U,by decide],(λz=>by cases z),λt w y z H8 cW ht hw=>?_]
    let _ rfl cl:=hw.resolve_right λz=>by cases z.1
    erw[t,_,00,41,SqT.of ht,a30,λb o n e=>cW b o n (sT b o n e),cl,U]
   .rintro ys H9 ⟨sT,ch,ey⟩ ra c5;rw[a2,l1]at ey;subst ey;let ci:=LT.tbS sT a1;let c6:=DJ bg a1 sT;let zA:=aj c5 (.lst (MV 1 (V.int 0)));let cc:upd H9 ra (.lst (MV 1 (V.int 0))) ra=Z (.lst (MV 1 (V.int 0))):=ag
    let bQ:SmT H (upd H9 ra (.lst (MV 1 (V.int 0)))):=(show SmT H H9 from λb o no e=>by
     let e4:=a6 b o no (ah _ _ e);refine sT _ _ (λz=>?_) (aS _ _ e4);subst z
     rw[fM (s5.P z6) b6]at e4;cases e4).P (.of zA)
    let cv:=tb_same c6 zA;let cd:upd H9 ra (.lst (MV 1 (V.int 0))) fa=Z (.lst zs):=zA _ _ (ci.1 _ _ (aS _ _ aL));let cw:LsAt (TdAt 2 ls) (upd H9 ra (.lst (MV 1 (V.int 0)))) zs l:=bf.imp λ_ _ q=>q.lt λ_ _ e=>zA _ _ (ci.1 _ _ (aS _ _ e));generalize upd H9 ra (.lst (MV 1 (V.int 0)))=HA at cc bQ cv cd cw;erw[(by show 0<=RO;decide),λca cy=>?_]
    let zB:=aj cy (.lst []);erw[5273,cL (n:=2) (λi L H3=>∃ bY:j5 V,L=[Z (.int ((2:R):Y)),Z v,Z (.int ((3:R):Y)),Z (.int ((0:R):Y)),Z (.ref r),Z (.ref fa),Z (.ref bv),Z (.ref tb),Z (.int 1),Z (.ref ra),Z (.ref ca),bY]/\Same HA H3/\H3 ca=Z (.lst ((Nf i).Z λx=>V.int (D2 d 1 x+0)))) #[9,zB,ag] ?_ ?_]
    .rintro i L H3 N ⟨bY,rfl,s3,bR⟩;let e0:(0:Y)+(i:Y)=(i:Y):=N1 _;rw[e0];erw[9,.inl #[6,SqL.of bR],153,fa,ra,U,#[_,SqL.of (s3 _ _ cd)],#[_,SqL.of (s3 _ _ cc)],yw (K:=K) (xs:=zs) (zs:=MV 1 (V.int 0)) (λj ys H5=>Same H3 H5/\ys=(MV j (D2 d 1 i+0)).Z V.int) (M4 (ax ∅)) (by rw[zl,l1];rfl) #[λ_ _ e=>e,U] (λj ys H5 _ z=>#[SqL.of (z.1 _ _ (s3 _ _ cd)),SqL.of (z.1 _ _ (s3 _ _ cc))]) ?_ ?_ ?_]
     .rintro j x z ys H5 T5 B hz ⟨ce,rfl⟩ c7;let s0 bd ta TL VL rfl am fi:=cw.get B;obtain rfl:z=V.int 0:=RC (MH hz);obtain rfl:s0=1:=by rw[el]at bd;exact MQ.mp (MH bd)
      let d' _ _ b5 _ _ x2:=fi.two ne;rw[← md.uniq b5]at x2;let s6:=aj c7 (.tup [.ref ta,.int 0]);erw[T5,9,SqT.of ag,173462,yesT #[153,ta,661,SqL.of (s6 _ _ (ce _ _ (s3 _ _ am))),aF (zQ (x2 i N)),2649,ce.P s6,3]];rw[Of,M0];rfl
     .rintro ys H5 ⟨ce,rfl⟩ q hq;let zq:=aj hq (.lst ((MV zs.L (D2 d 1 i+0)).Z V.int));erw[q,9,SqL.of ag,by rw[NR,zl,l1];decide,λm c8 bU=>?_]
      obtain rfl:m=D2 d 1 i+0:=RC c8;let cz:=zq _ _ (ce _ _ bR);erw[ca,165,cz,ax (by rw[MI,Nl];lia),3]
      erw[9,aK (s3.P (ce.P zq)) cy _,by rw[ag,Oq,M0];rfl]
     .rintro j ys H5 ⟨_,rfl⟩;rw[MI,NR];exact MN _
    .rintro L H3 ⟨bY,rfl,s3,bR⟩;let ct:H3 ca=Z (.lst ([d+0,0+0].Z V.int)):=bR;erw[9,ca,U,#[_,SqL.of ct],aZ (K:=K) (xs:=[d+0,0+0].Z V.int) (λi zs H4=>H4=H3/\zs=([d+0,0+0].x i).Z λc=>V.int (d+0-c)) (M4 (ax (show 2<=1000 by decide))) #[10] (λi zs H4 _ z=>by rw[z.1];exact SqL.of ct) ?_ ?_ ?_]
     .rintro i x zs H4 B ⟨rfl,rfl⟩;rw[MO]at B;let k D rfl:=MZ.mp B;erw[U,yesT #[153,ca,661,SqL.of ct,at0,59993]];rw[M5,D,M0];rfl
     .rintro zs H4 ⟨rfl,rfl⟩ p hp;let zp:=aj hp (.lst [.int (d+0-(d+0)),.int (d+0-(0+0))]);refine kk p d _ (bQ.P (.of (s3.P zp))) (tb_same cv (s3.P zp)) ?_ md;show upd H4 p (.lst [.int (d+0-(d+0)),.int (d+0-(0+0))]) p=_;rw[ag,Int.sub_self,show d+0-(0+0)=d by lia]
     .rintro i zs H4 ⟨_,rfl⟩;grind
   .rintro i ys H9 ⟨_,_,rfl⟩;rw[NR];exact MN _
 .rintro i zs H3 ⟨_,_,hZ⟩;rw[hZ.1,NQ];lia
def oX(u i:R):(Se ((u:Y)/2^((i:R):Y).R) 1=1)↔u.O i=kt:=by
 let f:(u:Y)/2^((i:R):Y).R=((u/2^i:R):Y):=by rfl
 let A:Se ((u/2^i:R):Y) 1=((u/2^i&&&1:R):Y):=andN _ 1;rw[f,A,Nat.and_one_is_mod,PF,decide_eq_true_iff];lia
def evs(n:R)(ls:E Lk)(h:R->Y):E (Y×Y):=(Nf n).Z (λv=>(2*h v,((2^v:R):Y)))++ls.Z λl=>(h l.1+h l.2.1-l.2.2,((2^l.1|||2^l.2.1:R):Y))
def pcs(ps:E R)(v:R):R:=ps.v v 0
def jn2(a:R->R)(P v:R):R:=if P.O v=kt then P else a v
def IU{b:fc}{g:TG}(n:R)(Pv:R->St->Hp->Prop)(A:Pv 0 O H)(eK:n<=xs.L)(G:zs.L=n)(hl:∀ i O H,i<=n->Pv i O H->pi a xs/\pi b zs)(k:∀ i x z O H T,xs[i]?=Z x->zs[i]?=Z z->Pv i O H->H T=lf->g (.ref T) O (upd H T (.tup [x,z])) λh H2=>tb (D.lop (Pv (i+1))) h H2)(hd:∀ O H,Pv n O H->D.nx O H):
  ∃ W:R->R->St->Hp->Prop,(∃ m,W 0 m O H)/\∀ i m O H,W i m O H ->
   ((Itz K a b).stop i H/\D.nx O H)∨((Itz K a b).go i H/\∃ N:St->Hp->Prop,(∀ σ' H',N σ' H'->∃ f,f<m/\W (i+1) f σ' H')/\∀ x H',(Itz K a b).yld i H x H'->g x O H' λh H2=>tb (D.lop (N)) h H2):=by
 erw[λi m O H=>m=n-i/\i<=n/\Pv i O H,#[n,by simp,ND _,A],3]
 rintro i m O H ⟨rfl,J,p⟩;let dO l:=hl i O H J p;by_cases Q:i<n
 .let t:i<xs.L:=by lia
  let j:i<zs.L:=by lia
  refine .inr #[#[xs,zs,xs[i],zs[i],dO,l,by simp,by simp],Pv (i+1),λσ' H' B=>#[n-(i+1),12,Q,B],λv H' y=>?_]
  let T x z C rfl rfl u o:=y;exact k i x z O _ T (u xs dO) (o zs l) p C
 .let e:i=n:=by lia
  subst e;exact .inl #[#[xs,zs,dO,l,.inr ∅],hd O H p]
def vV(xs:E V):cutV xs (Z 1) lf=xs.drop 1:=by
 unfold cutV;let q:=HT.sIx_nat xs.L 0 1;rw[show((1:R):Y)=(1:Y) from rfl]at q;rw[q,HT.sIx_none];rw[Oz ∅]
 by_cases h:1<=xs.L
 .rw[Rj h]
 .simp!
theorem Hs(s:Same H H2){l:fc}(hl:H l=lf)(o:HO):Same H (upd H2 l o):=λb u e=>by
 rw[aw (λz=>by simp!)]
 exact s _ _ e
theorem nd_len{α:Type} [DecidableEq α]:∀{l ps:E α},l.h->(∀ x∈l,x∈ps)->l.L<=ps.L
 |[],_,_,_=>ND _
 |x::l,ps,h,k=>by
  let eK O:=Nt.mp h;let m:=k x (M7 ..);let:=nd_len (l:=l) (ps:=ps.erase x) O λy j=>(List.mem_erase_of_ne (λ(e:y=x)=>eK (by rw[← e];exact j))).mpr (k y (M6 _ j))
  rw[List.length_erase_of_mem m]at this;let p:=Om m;rw[OJ];lia
structure TxtH(mg:fI->j5 eN):Prop extends TxtZ mg where
 n_reversed:mg "reversed"=lf
 n_sorted:mg "sorted"=lf
 n_set:mg "set"=lf
structure Drw(n:R)(ls:E Lk)(h:R->Y)(row:E (Y×Y)):Prop where
 rp:row.Perm (evs n ls h)
 srt:row.f λa b=>b.1<=a.1
inductive spDry
 |mk (v:V)(ta:fc)(n:R)(ls:E Lk)(tops:E Y) (_:vs=[v,.ref ta])(_:LnAt H v ls)(_:Lok n ls)(_:H ta=Z (.lst (tops.Z V.int)))(_:tops.L=n)(_:n+ls.L<64)(_:∀(q:fc)(out:E V)(row:E (Y×Y)) H',o5->H' q=Z (.lst out)->PAt H' out row->Drw n ls (λv=>tops.v v 0) row->Q (.ref q) H')
inductive JM
 |mk (p:fc)(n rm:R)(ps:E R) (_:vs=[.ref p,.int (rm:Y)])(_:H p=Z (.lst (ps.Z iV)))(_:ps.L=n)(_:(∀ x∈ps,x<2^n))(_:rm<2^n)(_:n<=40)(_:∀(q:fc)(qs:E R)(P:R) H',o5->H' q=Z (.lst (qs.Z iV))->qs.L=n->(∀ v,P.O v=kt↔(rm.O v=kt∨∃ k,rm.O k=kt/\(pcs ps k).O v=kt))->(∀ v,v<n->pcs qs v=jn2 (pcs ps) P v)->Q (.ref q) H')
def tE:az ["links","tops","found"] ["links","tops"] (aq m6):=by ac_nf
def ok_dry(F:Fun K "dryings" "dryings" m6 f fd)(T:TxtH mg):li 1 f fd ["links","tops"] spDry:=by
 refine F.ok tE λL A eK s H o Q dO u h=>?_
 let v ta n ls ah rfl hV ok al tl few O:=h;let ap:=ok.n1;let ab:=u.units;let la m rfl av hL:=id hV
 intros;erw[_,(af (lY 2 [] ["room","top"] tE.nd (lZ U T.n_enumerate (ae (pv 1) ai)) (λC ex s H=>(dD (n:=2) (K:=K) U U (aC (aY (i:=0) (show(["room","top"]:E fI).h from by decide) U (Or.inl U)) (aC (aY (i:=1) (show(["room","top"]:E fI).h from by decide) U (Or.inl U)) bx)))) pt_c (λC ex s H=>(bN (ae (ay gG ak (pv 1)) (ae (ay bA ak (pv 0)) ai)))))
   (af (aW (eF Na Ry Rx xC (pv 2) (ae (cM [("tops",1)] ["one","two","length"] (aM (pv 0)) (λC ex s H=>(dD (n:=3) (K:=K) U U (aC (aY (i:=0) (show(["one","two","length","tops"]:E fI).h from by decide) U (Or.inl U)) (aC (aY (i:=1) (show(["one","two","length","tops"]:E fI).h from by decide) U (Or.inl U)) (aC (aY (i:=2) (show(["one","two","length","tops"]:E fI).h from by decide) U (Or.inl U)) bx))))) pt_c (λC ex s H=>(bN (ae (ay gF (ay cg (pB K (pv 3) (pv 0)) (pB K (pv 3) (pv 1))) (pv 2)) (ae (ay jB (ay bA ak (pv 0)) (ay bA ak (pv 1))) ai))))) ai)))
   (ao (aG (qK U U T.n_list U T.n_reversed (aE Dh (by rfl) T.n_sorted iE (ae (pv 2) ai))))))),3]
 let a3:(ah.Z V.int).L=n:=by simp[*]
 erw[9,ta,U,#[_,SqL.of al],lr (K:=K) (xs:=ah.Z V.int) (λi I d=>Same H d/\PAt d I ((Nf i).Z λv=>(2*ah.v v 0,((2^v:R):Y)))) (M4 (ax ∅)) #[λ_ _ e=>e,PAt.nil _] (λi I d _ z=>SqL.of (z.1 _ _ al)) ?_ ?_ (λi I d z=>by let:=z.2.1;simp[*])]
 .rintro i x I d T2 B ⟨b,hZ⟩ ac;let J:i<n:=by rw[← a3];exact(MF.mp B).1
  let sT:=aj ac (.tup [.int (i:Y),x]);rw[MO]at B;let tp a5 rfl:=MZ.mp B;erw[T2,9,SqT.of ag,173462,yesT ?_];erw[2649,.inl #[by decide,by decide],2649,#[20,by decide],(by show 2<=RO;decide),λt7 aT=>?_]
  let s7:=sT.P (aj aT (.tup [.int (2*tp),.int (1*2^((i:R):Y).R)]));erw[b.P s7,3];rw[Oq,M0];refine(hZ.mono s7).app (PAt.one ?_);let et:ah.v i 0=tp:=by rw[MX,a5];rfl
  show _=Z (HO.tup [.int (2*ah.v i 0),.int ((2^i:R):Y)]);rw[et,← shlN i];exact ag
 rintro I d ⟨b,hZ⟩ fa ar;rw[a3]at hZ;let a6:H fa=lf:=fM b ar;let z3:=aj ar (.lst I);let a:=b.P z3;let a0:=hZ.mono z3;let an:(upd d fa (.lst I)) fa=Z (.lst I):=ag;generalize upd d fa (.lst I)=r at a a0 an;let aI:LsAt LkAt r m ls:=hL.imp λ_ _ y=>y.mono a;let yl:=aI.1;erw[9,.inl #[6,SqL.of an],9,la,U,#[_,SqL.of (a _ _ av)],aZ (K:=K) (xs:=m) (λi ws H4=>Same r H4/\PAt H4 ws ((ls.x i).Z λl=>(ah.v l.1 0+ah.v l.2.1 0-l.2.2,((2^l.1|||2^l.2.1:R):Y)))) (M4 (ax ∅)) #[λ_ _ e=>e,PAt.nil _] (λi ws H4 _ z=>SqL.of (z.1 _ _ (a _ _ av))) ?_ ?_ (λi ws H4 z=>by let:=z.2.1;grind)]
 .rintro i x ws H4 B ⟨s4,hW⟩;let l M t rfl j:=aI.get B;let l1 l2:=ok.sm l (MH M);let am:∀ k,k<n->(ah.Z V.int)[k]?=Z (.int (ah.v k 0)):=λk N=>by
   simp[*]
  let aS:=s4 _ _ (a _ _ al);erw[t,9,SqT.of (s4 _ _ j),11101590,yesT ?_];erw[153,ta,661,SqL.of aS,aF (am _ l1),153,ta,661,SqL.of aS,aF (am _ l2),3824037];erw[2649,#[20,by decide],2649,#[20,by decide],165,(by show 2<=RO;decide),λt7 aT=>?_]
  let ex:Sf (1*2^((l.1:R):Y).R) (1*2^((l.2.1:R):Y).R)=((2^l.1|||2^l.2.1:R):Y):=by rw[shlN,shlN,orN]
  let s7:=aj aT (.tup [.int (ah.v l.1 0+ah.v l.2.1 0-l.2.2),.int (Sf (1*2^((l.1:R):Y).R) (1*2^((l.2.1:R):Y).R))]);erw[s4.P s7,3];rw[M5,M,j5.toList_some,M0];refine(hW.mono s7).app (PAt.one ?_);show _=Z (HO.tup [.int (ah.v l.1 0+ah.v l.2.1 0-l.2.2),.int ((2^l.1|||2^l.2.1:R):Y)])
  rw[← ex];exact ag
 rintro ws H4 ⟨s4,hW⟩ D hD;rw[yl,M8]at hW;let zl:I.L=n:=by let:=a0.1;rw[MI,Nl]at this;exact this
 let wl:ws.L=ls.L:=by let:=hW.1;rw[MI]at this;exact this
 let sD:=aj hD (.lst ws);let fD:fa≠D:=λz=>by rw[← z,s4 _ _ an]at hD;cases hD
 let aL:=s4.P sD;erw[fa,D,I,ws,10,aL _ _ an,ag,M4 (ax ∅),3]
 let s6:Same H (upd (upd H4 D (.lst ws)) fa (.lst (I++ws))):=Hs (a.P aL) a6 _;let G:PAt (upd (upd H4 D (.lst ws)) fa (.lst (I++ws))) (I++ws) (evs n ls λv=>ah.v v 0):=by
  let g:=(a0.mono aL).app (hW.mono sD)
  erw[g.1,λi p e=>by
   let t a1 a2:=g.2 i p e
   erw[t,a1,by rw[aw (λz=>by rw[z,aL _ _ an]at a2;cases a2)];exact a2]]
 let a4:(upd (upd H4 D (.lst ws)) fa (.lst (I++ws))) fa=Z (.lst (I++ws)):=ag;generalize upd (upd H4 D (.lst ws)) fa (.lst (I++ws))=H6 at s6 G a4;let a8:(I++ws).L=n+ls.L:=by simp[*]
 erw[9,fa,I++ws,9,SqL.of a4,G,4,λl aa a7 M pm pw pa=>?_]
 let s7:=aj M (.lst aa);erw[l,aa,U,SqL.of ag,λq c=>?_];let s8:=aj c (.lst aa.y);refine O q aa.y a7.y _ (s6.P (s7.P s8)) ag (pa.rev.mono (s7.P s8)) #[(List.reverse_perm _).P pm,List.pairwise_reverse.mpr pw]
def mU:az ["pieces","rooms","piece","room"] ["pieces","rooms"] (aq pT):=by ac_nf
def ok_join(F:Fun K "joined" "joined" pT f fd)(T:Txt mg)(ab:lw 1 "bits" ["mask"] spBits a G):li 2 f fd ["pieces","rooms"] JM:=by
 refine F.ok mU λN A g s H o Q dO u h=>?_
 let p n rm ps rfl m pl pb rb an q:=h;let aS:(2:R)^40=1099511627776:=by rfl
 let eK:2^n<=2^40:=Ol ∅ an
 intros;erw[_,(af (aA 2 mU.nd (pv 1))
   (af (mx (aM (ab.c u (ae (pv 1) ai))) (bq 3 mU.nd) (ao (aA 2 mU.nd (ay jB (pv 2) (ba (pv 0) (pv 3))))))
   (ao (aG (cM [("piece",2)] ["room","before"] (lZ U T.n_enumerate (ae (pv 0) ai)) (λC ex s H=>(dD (n:=2) (K:=K) U U (aC (aY (i:=0) (show(["room","before","piece"]:E fI).h from by decide) U (Or.inl U)) (aC (aY (i:=1) (show(["room","before","piece"]:E fI).h from by decide) U (Or.inl U)) bx)))) pt_c (λC ex s H=>(fk (aD cH (ay cV (ay gf (pv 2) (pv 0)) ak) ak (aJ _)) (pv 2) (pv 1)))))))),3]
 erw[153,(rm:Y),82,λr j t _ ac=>?_]
 rw[MU]at ac;let ar:j r=Z (.lst ((bl rm).Z iV)):=ac;let am:=t _ _ m;let al:∀ k,k<n->(ps.Z iV)[k]?=Z (iV (ps.v k 0))/\ps.v k 0<2^n:=λk l=>by
  simp[*]
 erw[r,U,#[_,SqL.of ar],br (K:=K) (xs:=(bl rm).Z iV) (λi L d=>∃(v3:j5 V)(pc:R),L=[Z (.ref p),Z (.int (rm:Y)),Z (.int (pc:Y)),v3]/\d=j/\∀ v,pc.O v=kt↔(rm.O v=kt∨∃ k,k∈(bl rm).x i/\(pcs ps k).O v=kt)) #[_,rm,10,λv=>#[.inl,λz=>z.elim id λ⟨k,l,_⟩=>by simp at l]] (λi L d _ aa=>by let _ _ _ z _:=aa;rw[z];exact SqL.of ar) ?_ ?_]
 .rintro i x L d B ⟨v3,pc,rfl,rfl,ap⟩;rw[MO]at B;let k l rfl:=MZ.mp B;let kn:=bl_lt rb (MH l);let a1 a2:=al k kn;let ex:Sf (pc:Y) ((ps.v k 0:R):Y)=((pc|||ps.v k 0:R):Y):=orN _ _
  erw[2457,p,661,SqL.of am,aF a1,933];simp only[ex];erw[165,λv=>?_];rw[NS,Pm,ap,M5,l];constructor
  .rintro((z|⟨k',eK,O⟩)|z)
   .exact .inl z
   .exact .inr #[k',NG _ eK,O]
   .exact .inr #[k,Nj _ ∅,z]
  .rintro(z|⟨k',eK,O⟩)
   .exact .inl (.inl z)
   .obtain eK|eK:=Ng.mp eK
    .exact .inl (.inr #[k',eK,O])
    .let:k'=k:=by simpa using eK
     rw[this]at O;exact .inr O
 rintro L d ⟨v3,pc,rfl,rfl,ap⟩;rw[MI,M8]at ap;let aL:∀ v,pc.O v=kt↔(rm.O v=kt∨∃ k,rm.O k=kt/\(pcs ps k).O v=kt):=λv=>by
  rw[ap v];exact or_congr Iff.rfl #[λ⟨k,eK,O⟩=>#[k,mem_bl.mp eK,O],λ⟨k,eK,O⟩=>#[k,mem_bl.mpr eK,O]]
 let av:(ps.Z iV).L=n:=by simp[*]
 erw[9,p,U,#[_,SqL.of am],lr (K:=K) (xs:=ps.Z iV) (λi I H3=>Same d H3/\∃ qs:E R,I=qs.Z iV/\qs.L=i/\∀ v,v<i->pcs qs v=jn2 (pcs ps) pc v) (M4 (ax ∅)) #[λ_ _ e=>e,[],10,λv hv=>Tn hv (NM _)] (λi I H3 _ z=>SqL.of (z.1 _ _ am)) ?_ ?_ (λi I H3 aa=>by let _ qs e ql _:=aa;simp[*])]
 .rintro i x I H3 T2 B ⟨s3,qs,rfl,ql,qb⟩ ah;let J:i<n:=by rw[← av];exact(MF.mp B).1
  let sT:=aj ah (.tup [.int (i:Y),x]);rw[MO]at B;let b M rfl:=MZ.mp B;let bb:=pb b (MH M)
  let step:∀ y:R,y=jn2 (pcs ps) pc i->∃ aI:E R,qs.Z iV++[iV y]=aI.Z iV/\aI.L=i+1/\∀ v,v<i+1->pcs aI v=jn2 (pcs ps) pc v:=λy hy=>#[qs++[y],by rw[M0];rfl,by rw[MP,ql];rfl,λv hv=>by
   unfold pcs;rw[MX];by_cases c:v<i
   .rw[MT ∅,← MX]
    exact qb v c
   .let:v=qs.L:=by lia
    rw[this,MR (MN _),Nz,ql]
    exact hy]
  let eb:pcs ps i=b:=by unfold pcs;rw[MX,M];rfl
  erw[T2,9,SqT.of ag,173462,yesT ?_];erw[42393,(show(0:Y)<=(i:Y) by lia),9893,ite2 (λc=>?_) (λc=>?_)]
  .let c':pc.O i=kt:=(oX pc i).mp (V.int.inj (S8 c))
   erw[9,s3.P sT,step pc (by unfold jn2;rw[Ti c'])]
  .let c':¬ pc.O i=kt:=λz=>c (Sx (congrArg V.int ((oX pc i).mpr z)))
   erw[9,s3.P sT,step b (by unfold jn2;rw[Tj c',eb])]
 rintro I H3 ⟨s3,qs,rfl,ql,qb⟩ D hD;exact q D qs pc _ (t.P (s3.P (aj hD _))) ag (by rw[ql,av]) aL λv hv=>qb v (by rw[av];exact hv)
def bit01(u i:R):Se ((u:Y)/2^((i:R):Y).R) 1=0∨Se ((u:Y)/2^((i:R):Y).R) 1=1:=by
 let f:(u:Y)/2^((i:R):Y).R=((u/2^i:R):Y):=by rfl
 let A:Se ((u/2^i:R):Y) 1=((u/2^i&&&1:R):Y):=andN _ 1;grind
def Mq(ok:Lok 2 ls)(g:∀ l∈ls,l.1≠l.2.1){l:Lk}(hl:l∈ls):endX l=3/\2^l.1|||2^l.2.1=3:=by
 let C t:=ok.sm l hl;let:=g l hl;unfold endX;rcases(show(l.1=0/\l.2.1=1)∨(l.1=1/\l.2.1=0) by lia) with⟨a,b⟩|⟨a,b⟩<;>rw[a,b]<;>erw[10]
def Hv(ok:Lok 2 ls)(g:∀ l∈ls,l.1≠l.2.1){h:R->Y}{d:R}(T:0<d)(A:h 0=0)(eK:h 1=(d:Y))(n:∀ l∈ls,(d:Y)<=l.2.2)(ex:∃ l∈ls,l.2.2=(d:Y)){row:E (Y×Y)}(D:Drw 2 ls h row):
  row[0]?=Z (2*(d:Y),2)/\(∀(j:R)(e:Y×Y),0<j->row[j]?=Z e->e.1<=0/\(e.2=1∨e.2=3))/\(∃ j:R,row[j]?=Z (0,3))/\∃ j:R,0<j/\row[j]?=Z (0,1):=by
 let c:ls.Z (λl=>(h l.1+h l.2.1-l.2.2,((2^l.1|||2^l.2.1:R):Y)))=ls.Z λl=>((d:Y)-l.2.2,3):=Od λl M=>by
  let C t:=ok.sm l M;let:=g l M;rw[(Mq ok g M).2];rcases(show(l.1=0/\l.2.1=1)∨(l.1=1/\l.2.1=0) by lia) with⟨a,b⟩|⟨a,b⟩<;>rw[a,b,A,eK]
  .rw[N1];rfl
  .rw[Qe];rfl
 let O:evs 2 ls h=(0,1)::(2*(d:Y),2)::ls.Z λl=>((d:Y)-l.2.2,3):=by
  unfold evs;rw[c];show(2*h 0,_)::(2*h 1,_)::_=_;rw[A,eK];rfl
 let k:=D.rp;rw[O]at k;let D2:=D.srt;let w f o:=ex;let low:∀ e∈ls.Z (λl=>((d:Y)-l.2.2,(3:Y))),e.1<=0/\e.2=3:=λe N=>by
  let l M rfl:=Nc.mp N;let:=n l M;erw[by show(d:Y)-l.2.2<=0;lia,U]
 cases row with
 |nil=>have:=k.length_eq;simp at this
 |cons x tl=>
  let B:x=(2*(d:Y),2):=by
   rcases MY.mp (k.mem_iff.mpr (M6 _ (M7 ..)))with z|z
   .exact z.X
   .let eK:=(Qb.mp D2).1 _ z
    rcases MY.mp (k.mem_iff.mp (M7 ..))with y|y
    .rw[y]at eK;let:2*(d:Y)<=0:=eK;lia
    .obtain y|y:=MY.mp y
     .exact y
     .let:=(low _ y).1
      let:2*(d:Y)<=x.1:=eK;lia
  subst B;let pt:tl.Perm ((0,1)::ls.Z λl=>((d:Y)-l.2.2,3)):=(k.P (Rv ..)).cons_inv;erw[U,λj e L N=>?_,15]
  .let i rfl:∃ i,j=i+1:=#[j-1,4]
   let m:=pt.mem_iff.mp (MH (show tl[i]?=Z e from N));obtain z|z:=MY.mp m
   .rw[z];erw[N6 _,.inl U]
   .erw[(low _ z).1,.inr (low _ z).2]
  .let i J:=Nx (pt.mem_iff.mpr (M6 _ (Nc.mpr #[w,f,U])));erw[i+1,3];show tl[i]?=_;rw[J,o,Int.sub_self]
  .let i J:=Nx (pt.mem_iff.mpr (M7 ..));erw[i+1,Nat.succ_pos _,J]
def jnP(c a b:R):R:=c|||(if c.O 0=kt then a else 0)|||(if c.O 1=kt then b else 0)
def i5{a b P:R}{qs:E R}(c:N<4)(l:∀ v,P.O v=kt↔(N.O v=kt∨∃ k,N.O k=kt/\(pcs [a,b] k).O v=kt))(C:qs.L=2)(g:∀ v,v<2->pcs qs v=jn2 (pcs [a,b]) P v):qs=[jn2 (pcs [a,b]) (jnP N a b) 0,jn2 (pcs [a,b]) (jnP N a b) 1]:=by
 let e:P=jnP N a b:=NC λv=>by
  rw[PD,l v];unfold jnP;rw[NS,NS,Pm,Pm];constructor
  .rintro(h|⟨k,eK,O⟩)
   .exact .inl (.inl h)
   .match k,eK,O with
    |0,eK,O=>exact .inl (.inr (by rw[Ti eK];exact O))
    |1,eK,O=>exact .inr (by rw[Ti eK];exact O)
    |k+2,eK,_=>
     rw[Pd (Ni c (Ol (n:=2) ∅ (show 2<=k+2 by lia)))]at eK
     cases eK
  .rintro((h|h)|h)
   .exact .inl h
   .split at h
    .exact .inr #[00,by assumption,h]
    .rw[NI]at h;cases h
   .split at h
    .exact .inr #[01,by assumption,h]
    .rw[NI]at h;cases h
 rw[e]at g;match qs,C with
 |[x,y],_=>
  rw[← g 0 ∅,← g 1 ∅]
  rfl
def upK(kv:E (R×R))(M t:R):E (R×R):=if(kv.any λe=>decide (e.1=M))=kt then kv.Z (λe=>if e.1=M then(e.1,e.2+t) else e) else kv++[(M,t)]
def inP(r t y:R):ke:=decide (0<t)&&decide (y≠0)&&not (y.O r)
def lx(r t:R)(kv:E (R×R))(T:E R):E (R×R):=T.foldl (λkv y=>if inP r t y=kt then upK kv y t else kv) kv
theorem qq{r t:R}:∀{T:E R}{kv:E (R×R)},(∀ y∈T,inP r t y=k9)->lx r t kv T=kv
 |[],_,_=>rfl
 |y::T,kv,h=>by
  show lx r t (if inP r t y=kt then upK kv y t else kv) T=kv;rw[h y (M7 ..),Tj ∅]
  exact qq λz f=>h z (M6 _ f)
theorem xQ{r t M:R}(hi:inP r t M=kt):∀{T:E R},T.h->M∈T->(∀ y∈T,y≠M->inP r t y=k9)->lx r t [] T=[(M,t)]
 |y::T,nd,m,h=>by
  let J g:=Nt.mp nd;show lx r t (if inP r t y=kt then upK [] y t else[]) T=_;by_cases c:y=M
  .subst c;rw[Ti hi,qq λz f=>h z (M6 _ f) λe=>J (by rw[← e];exact f)]
   rfl
  .rw[h y (M7 ..) c,Tj ∅]
   exact xQ hi g ((MY.mp m).resolve_left λe=>c e.X) λz f=>h z (M6 _ f)
structure HJ(row:E (Y×Y))(d i:R)(ps:E R)(kv:E (R×R)):Prop where
 pl:ps.L=2
 pb:∀ x∈ps,x<4
 z:i=0->ps=[0,0]/\kv=[]
 s:0<i->kv=[(2,2*d)]/\(ps=[3,3]∨((ps=[0,2]∨ps=[1,2])/\∀(j:R)(e:Y×Y),j<i->row[j]?=Z e->e.2≠3))
def HJ.nd{row:E (Y×Y)}{d:R}(I:HJ row d i ps kv):(kv.Z (·.1)).h:=by
 by_cases c:i=0
 .rw[(I.z c).2];exact NU
 .rw[(I.s ∅).1];exact Nt.mpr #[(λz=>nomatch z),NU]
def HJ.step{row:E (Y×Y)}{d i:R}{ps qs:E R}{kv:E (R×R)}(I:HJ row d i ps kv)(m:0<d)(ab:row.f λa b=>b.1<=a.1)(eK:row[0]?=Z (2*(d:Y),2))(O:∀ (j:R) (e:Y×Y),0<j->row[j]?=Z e->e.1<=0/\(e.2=1∨e.2=3))(r3:∃ j:R,row[j]?=Z (0,3))(r1:∃ j:R,0<j/\row[j]?=Z (0,1)){e Q:Y×Y}(N:row[i]?=Z e)(H:row[i+1]?=Z Q){P:R}(l:∀ v,P.O v=kt↔(e.2.R.O v=kt∨∃ k,e.2.R.O k=kt/\(pcs ps k).O v=kt))(C:qs.L=2)(n:∀ v,v<2->pcs qs v=jn2 (pcs ps) P v){p:E R}(nd:p.h)(w:∀ y,y∈p↔y∈qs){t:R}(g:(e.1-Q.1).R=t):HJ row d (i+1) qs (lx 0 t kv p):=by
 let up:∀{j:R}{x:Y×Y},i+1<=j->row[j]?=Z x->x.1<=Q.1:=λ{j x} L B=>by
  let D J:=MF.mp H;let j1 j2:=MF.mp B;by_cases c:j=i+1
  .subst c;rw[H]at B
   cases B
   exact N6 _
  .let:=NW.mp ab (i+1) j D j1 ∅
   rw[J,j2]at this;exact this
 by_cases c:i=0
 .subst c;let rfl rfl:=I.z U;rw[eK]at N
  cases N
  let eq:=i5 (show(2:R)<4 by decide) l C n
  let eq:qs=[0,2]:=eq;let j L ac:=r1;let r:=up (show 0+1<=j by lia) ac
  let u:=(O _ _ (Nat.succ_pos _) H).1;let h:t=2*d:=by
   let r:(0:Y)<=Q.1:=r;let g:(2*(d:Y)-Q.1).R=t:=g;lia
  subst eq;let ef:lx 0 t [] p=[(2,t)]:=xQ (by unfold inP;rw[Sx (show 0<t by lia)];rfl) nd ((w 2).mpr ∅) λy dO ny=>by
   rcases MY.mp ((w y).mp dO)with z|z
   .rw[z];unfold inP;simp
   .exact Tn (MQ.mp z) ny
  erw[18,λz=>(nomatch z),λ_=>#[by rw[ef,h],.inr #[.inl U,λj e L N=>?_]]]
  let:j=0:=by lia
  rw[this,eK]at N
  cases N
  exact λz:(2:Y)=3=>by cases z
 .let rfl T:=I.s ∅
  let f A:=O _ _ ∅ N
  let aa:qs=[3,3]->HJ row d (i+1) qs (lx 0 t [(2,2*d)] p):=λq=>by
   subst q;erw[18,λz=>(nomatch z),λ_=>#[qq λy dO=>?_,.inl U]]
   let o:y=3:=by
    rcases MY.mp ((w y).mp dO)with z|z
    .exact z
    .exact MQ.mp z
   rw[o];unfold inP;rw[show QE 3 0=kt from rfl,PZ,Oi]
  obtain rfl|⟨G,no⟩:=T
  .obtain z|z:=A<;>rw[z]at l
   .exact aa (i5 (show(1:R)<4 by decide) l C n)
   .exact aa (i5 (show(3:R)<4 by decide) l C n)
  .obtain z|z:=A<;>rw[z]at l
   .let q:qs=[1,2]:=by
     obtain rfl|rfl:=G
     .exact i5 (show(1:R)<4 by decide) l C n
     .exact i5 (show(1:R)<4 by decide) l C n
    subst q;let j L:=r3;let jn:i+1<=j:=Decidable.byContradiction λy=>by
     by_cases c2:j=i
     .rw[c2,N]at L
      cases L
      cases z
     .exact no j _ ∅ L U
    let:=up jn L;let M:t=0:=by
     let:(0:Y)<=Q.1:=this;lia
    subst M;erw[18,λz=>(nomatch z),λ_=>#[qq λy _=>rfl,.inr #[.inr U,λj x L B=>?_]]]
    by_cases c2:j=i
    .rw[c2,N]at B
     cases B
     rw[z];decide
    .exact no j x ∅ B
   .refine aa ?_;obtain rfl|rfl:=G
    .exact i5 (show(3:R)<4 by decide) l C n
    .exact i5 (show(3:R)<4 by decide) l C n
def upK_nd{t:R}(h:(kv.Z (·.1)).h):((upK kv M t).Z (·.1)).h:=by
 unfold upK;split
 .rw[NX];let:kv.Z ((λe:R×R=>e.1)∘λe:R×R=>if e.1=M then(e.1,e.2+t) else e)=kv.Z λe:R×R=>e.1:=Od λe N=>by
   show(if e.1=M then(e.1,e.2+t) else e).1=e.1;split<;>rfl
  rw[this];exact h
 .rename_i c;rw[M0];refine NP.mpr #[h,Nt.mpr #[(λz=>nomatch z),NU],λx B y j e=>c ?_];let z f rfl:=Nc.mp B;exact Ox.mpr #[z,f,Sx (e.P (MQ.mp j))]
theorem vx{r t:R}:∀{T:E R}{kv:E (R×R)},(kv.Z (·.1)).h->((lx r t kv T).Z (·.1)).h
 |[],_,h=>h
 |y::T,kv,h=>by
  show((lx r t (if inP r t y=kt then upK kv y t else kv) T).Z (·.1)).h;split
  .exact vx (upK_nd h)
  .exact vx h
def toK(kv:E (R×R)):E (Key×V):=kv.Z λe=>(Sum.inl (e.1:Y),V.int (e.2:Y))
inductive spHills(TT:fc)
 |mk (v:V)(n mk:R)(ls:E Lk) (_:vs=[.int (n:Y),v,.int (mk:Y)])(_:n=2)(_:mk=3)(_:LnAt H v ls)(_:Lok 2 ls)(_:0<ls.L)(_:(∀ l∈ls,l.1≠l.2.1))(_:(∀ l∈ls,1<=l.2.2))(_:2+ls.L<64)(_:Tb lqF lpF TT H)(_:∀(p:fc)(ys:E V)(d:R) H',SmT H H'->Tb lqF lpF TT H'->H' p=Z (.lst ys)->PAt H' ys [(2,2*(d:Y))]->(∃ l∈ls,l.2.2=(d:Y))->(∀ l∈ls,(d:Y)<=l.2.2)->Q (.ref p) H')
def oldP(kv:E (R×R))(M:R):R:=((kv.find? λe=>decide (e.1=M)).Z (·.2)).v 0
def K0(kv:E (R×R))(M:R):(valV (toK kv) (.inl (M:Y))).v (.int 0)=V.int ((oldP kv M:R):Y):=by
 unfold valV toK oldP;rw[List.find?_map];let:((λkv:Key×V=>decide (kv.1=Sum.inl (M:Y)))∘λe:R×R=>((Sum.inl (e.1:Y):Key),V.int (e.2:Y)))=λe=>decide (e.1=M):=funext λe=>by
  show decide (Sum.inl (e.1:Y)=(Sum.inl (M:Y):Key))=_;exact decide_eq_decide.mpr #[λz=>O6 (Sum.inl.inj z),λz=>by rw[z]]
 rw[this]
 cases kv.find? λe=>decide (e.1=M)<;>rfl
theorem EK{M:R}:∀{kv:E (R×R)},(kv.Z (·.1)).h->∀ e∈kv,e.1=M->oldP kv M=e.2
 |x::kv,h,e,N,em=>by
  rw[NF]at h;let eK O:=Nt.mp h;unfold oldP;rw[Pj];by_cases c:x.1=M
  .rw[Sx c];obtain rfl|N:=MY.mp N
   .rfl
   .exact Tn (Nc.mpr #[e,N,em.P c.X]) eK
  .rw[RN c];obtain rfl|N:=MY.mp N
   .exact Tn em c
   .exact EK O e N em
def KY{t:R}(nd:(kv.Z (·.1)).h):putK (toK kv) (.inl (M:Y)) (V.int (((oldP kv M:R):Y)+(t:Y)))=toK (upK kv M t):=by
 let any:((toK kv).any λe=>decide (e.1=Sum.inl (M:Y)))=kv.any λe=>decide (e.1=M):=by
  unfold toK;rw[List.any_map];congr 1;funext e;show decide (Sum.inl (e.1:Y)=(Sum.inl (M:Y):Key))=_;exact decide_eq_decide.mpr #[λz=>O6 (Sum.inl.inj z),λz=>by rw[z]]
 unfold putK upK;rw[any];split
 .unfold toK;rw[NX,NX];refine Od λe N=>?_;show(if(Sum.inl (e.1:Y):Key)=Sum.inl (M:Y) then _ else _)=((Sum.inl (((if e.1=M then(e.1,e.2+t) else e).1:R):Y):Key),V.int (((if e.1=M then(e.1,e.2+t) else e).2:R):Y));by_cases c:e.1=M
  .rw[Ti (by rw[c]),Ti c,EK nd e N c]
   rfl
  .rw[Tj (show ¬ (Sum.inl (e.1:Y):Key)=Sum.inl (M:Y) from λz=>c (O6 (Sum.inl.inj z))),Tj c]
 .rename_i c;let a:oldP kv M=0:=by
   unfold oldP;rw[List.find?_eq_none.mpr λe N z=>c (Ox.mpr #[e,N,z])];rfl
  rw[a];unfold toK;simp
def CC{r t:R}{y:R}(h:l[j]?=Z y):lx r t kv (l.x (j+1))=if inP r t y=kt then upK (lx r t kv (l.x j)) y t else lx r t kv (l.x j):=by
 unfold lx;rw[M5,h,j5.toList_some,PM];rfl
theorem KZ(kv:E (R×R)):(toK kv).L=kv.L:=MI ..
def KR(kv:E (R×R))(M t:R):(upK kv M t).L<=kv.L+1:=by
 unfold upK;split
 .simp
 .simp
theorem yM:∀(ns l:E Y),(ns.foldl addN l).L<=l.L+ns.L
 |[],_=>MN _
 |k::ns,l=>by
  let:=yM ns (addN l k);let:=B8 l k;grind
def dM:az ["many","links","marks","row","root","pieces","prices","drying","lower","levels","piece"] ["many","links","marks"] (aq uB):=by ac_nf
def ok_hills{TT f1 f2 f3 f4:fc}{a7 bf:ge}(F:Fun K "hills" "hills" uB f fd)(T:TxtH mg)(a8:lw 11 "heights" ["many","links","marks"] (spHts TT) f1 G)(a9:lw 1 "dryings" ["links","tops"] spDry f2 J)(av:lw 2 "root_of" ["marks"] DT f3 a7)(bb:lw 2 "joined" ["pieces","rooms"] JM f4 bf):li 12 f fd ["many","links","marks"] (spHills TT):=by
 refine F.ok dM λaa A D s H vs Q dO u h=>?_
 let v n mk ls rfl rfl rfl hV ok ne tw w1 few a0 kk:=h;let hu:=pG u;let a3:2<=40:=by decide
 intros;erw[_,(af (aA 3 dM.nd (a9.c u (ae (pv 1) (ae (a8.c u (ae (pv 0) (ae (pv 1) (ae (pv 2) ai)))) ai))))
   (af (aA 4 dM.nd (av.c u (ae (pv 2) ai)))
   (af (lY 5 [] ["room"] dM.nd (aP U T.n_range (ae (pv 0) ai)) pg_c pt_c (λC ex s H=>ak))
   (af (aA 6 dM.nd gE)
   (af (mx (Ez U T.n_zip (ae (pv 3) (ae (uJ yY (pv 3) (zD ak) zE) ai))) (iA U (aC (bq 7 dM.nd) (aC (bq 8 dM.nd) bx))) (af (aA 5 dM.nd (bb.c u (ae (pv 5) (ae (bV (pv 7) ak) ai))))
   (af (aA 9 dM.nd (ay gF (bV (pv 7) ak) (bV (pv 8) ak)))
   (ao (mx (aM (aE (Dg U U U) (by rfl) T.n_sorted iE (ae (eE (GD U U U U) (by rfl) T.n_set bt_set (ae (pv 5) ai)) ai))) (bq 10 dM.nd) (ao (bJ (PW.pt (Bx (aD Ck (pv 9) ak (aJ _)) (Bx (aD l7 (pv 10) ak (aJ _)) (zx (aD cH (ay cV (ay gf (pv 10) (pv 4)) ak) ak (aJ _)))))) (ao (ig hu (pv 6) (pv 10) (ay cg (HI hu (pv 6) (pv 10) ak #[170]) (pv 9)) U)) aN)))))))
   (ao (aG (eE (Di U) (by rfl) T.n_list jv (ae (EE O3 PB RG Iw (pv 6)) ai))))))))),3]
 erw[39321,v,ls,U,hV,ok,Crs.of ok tw,ne,a0,λp d0 H1 al ar hp md=>?_];erw[v,p,02,ls,[0,d0],U,hV.smT al,ok,hp,U,few,λq ac row M s2 hq aS cc=>?_];let{l0 a1 e0}co:=md;let dh:=w1 l0 a1;let dd cR:∃ d:R,(d:Y)=d0:=#[d0.R,4]
 subst cR;let d1:0<dd:=by lia
 let r0 rr r3 r1:=Hv ok tw d1 (h:=λv=>[0,(dd:Y)].v v 0) U U co #[l0,a1,e0] cc;let bB:=cc.srt;let rl:row.L=2+ls.L:=by
  rw[cc.rp.length_eq];unfold evs;rw[MP,MI,MI,Nl]
 let ol:ac.L=row.L:=aS.1;erw[41,λH3 s3=>?_];erw[153,(by lia),(by ac_rfl),cA (n:=2) (λi zs H4=>H4=H3/\zs=(MV i 0).Z iV) (M4 (ax (by lia))) #[10] ?_ ?_]
 .rintro i zs H4 N ⟨rfl,rfl⟩;erw[14];rw[Of,M0];rfl
 rintro zs H4 _ ⟨rfl,rfl⟩ pp am;let s5:=aj am (.lst ((MV 2 0).Z iV));refine λd hd=>?_;let sd:=aj hd (.dK []);let a5:Same M (upd (upd H4 pp (.lst ((MV 2 0).Z iV))) d (.dK [])):=s3.P (s5.P sd);let ap:=a5 _ _ hq;let bR:=sd _ _ (show upd H4 pp (.lst ((MV 2 0).Z iV)) pp=_ from ag);let cT:M d=lf:=fM (s3.P s5) hd;let gd:(upd (upd H4 pp (.lst ((MV 2 0).Z iV))) d (.dK [])) d=Z (.dK []):=ag;let bU:=aS.mono a5;generalize upd (upd H4 pp (.lst ((MV 2 0).Z iV))) d (.dK [])=H6 at a5 ap bR gd bU;erw[2457,q,9,SqL.of ap,λq7 a2=>?_];rw[vV];let s7:=aj a2 (.lst (ac.drop 1));let cW:q7≠d:=λz=>by rw[z,gd]at a2;cases a2
 let bg:(upd H6 q7 (.lst (ac.drop 1))) q7=Z (.lst (ac.drop 1)):=ag;let bG:=s7 _ _ gd;let cd:=a5.P s7;let bY:=s7 _ _ bR;let bd:q≠d:=λz=>by rw[z,gd]at ap;cases ap
 let b0:=bU.mono s7;let bi:=s7 _ _ ap;generalize upd H6 q7 (.lst (ac.drop 1))=H7 at s7 bg bG cd bY b0 bi;let dl:(ac.drop 1).L=ac.L-1:=PU ..;let cq:∀{H9:Hp}{i:R}{e:Y×Y},TbS d H7 H9->row[i]?=Z e->∃ t,ac[i]?=Z (.ref t)/\H9 t=Z (.tup [.int e.1,.int e.2]):=λ{H9 i e} sT B=>by
  let t z1 z2:=b0.2 i e B;erw[t,z1,sT _ _ (λy=>by rw[y,bG]at z2;cases z2) z2]
 let dg:∀{i:R}{e:Y×Y},row[i]?=Z e->row.v i (0,0)=e:=λ{i e} h=>by rw[MX,h];rfl
 erw[q,q7,U,#[_,SqL.of bi],#[_,SqL.of bg],IU (K:=K) (xs:=ac) (zs:=ac.drop 1) (ac.L-1) (λi L H9=>∃(v7 v8 v9 ah:j5 V)(pa:fc)(ps:E R)(kv:E (R×R)),L=[Z (.int 2),Z v,Z (.int 3),Z (.ref q),Z (.int ((0:R):Y)),Z (.ref pa),Z (.ref d),v7,v8,v9,ah]/\TbS d H7 H9/\H9 d=Z (.dK (toK kv))/\kv.L<=40*i/\H9 pa=Z (.lst (ps.Z iV))/\HJ row dd i ps kv)
  #[85,pp,MV 2 0,[],U,λ_ _ _ e=>e,bG,MN _,bY,#[18,λ_=>#[10],λz=>Tn z (Ob 0)]] (Nat.sub_le _ _) dl (λi L H9 _ ab=>by let _ _ _ _ _ _ _ _ sT _:=ab;erw[SqL.of (sT _ _ bd bi),SqL.of (sT _ _ cW bg)]) ?_ ?_]
 .rintro i x z L H9 T9 B hz ⟨v7,v8,v9,ah,pa,ps,kv,rfl,sT,bm,kl,cs,I⟩ c5;let N:i<ac.L-1:=by rw[← dl];exact(MF.mp hz).1
  let e m:∃ e,row[i]?=Z e:=#[_,MG ∅]
  let e' aT:∃ e,row[i+1]?=Z e:=#[_,MG ∅]
  let tx aL ct:=cq sT m;let tz c6 c7:=cq sT aT;rw[B]at aL
  cases aL
  rw[Qc,Nat.add_comm,c6]at hz
  cases hz
  let e3:e.2=1∨e.2=2∨e.2=3:=by
   by_cases z:i=0
   .rw[z,r0]at m
    cases m
    exact .inr (.inl U)
   .rcases(rr _ _ ∅ m).2 with y|y
    .exact .inl y
    .exact .inr (.inr y)
  let c8:e.2.R<2^2:=by
   obtain y|y|y:=e3<;>rw[y]<;>decide
  let e4:V.int e.2=V.int ((e.2.R:R):Y):=by
   obtain y|y|y:=e3<;>rw[y]<;>rfl
  let di:e'.1<=e.1:=by
   let i1 i2:=MF.mp m;let j1 j2:=MF.mp aT;let:=NW.mp bB i (i+1) i1 j1 ∅
   rw[i2,j2]at this;exact this
  let s9:=aj c5 (.tup [.ref tx,.ref tz]);erw[T9,9,SqT.of ag,238998];erw[153,tx,_,01,41,SqT.of (s9 _ _ ct),at1,pa,02,e.2.R,ps,by rw[← e4];rfl,s9 _ _ cs,I.pl,I.pb,c8,a3,λqa qs PP HA sA bH ql c9 aI=>?_]
  let bQ:=s9.P sA;erw[9,tx,_,00,41,SqT.of (bQ _ _ ct),at0,9,tz,_,00,41,SqT.of (bQ _ _ c7),at0,933];let en:qs.Z iV=(qs.Z λx:R=>(x:Y)).Z V.int:=by rw[NX];rfl
  let nl:(qs.Z λx:R=>(x:Y)).L=2:=by rw[MI,ql]
  erw[9,qa,qs.Z λx:R=>(x:Y),U,SqL.of (by rw[bH,en]),4,λa ha=>?_]
  let ce:HA d=Z (.dK (toK kv)):=bQ _ _ bm;let ch:((qs.Z λx:R=>(x:Y)).foldl addN []).L<64:=by
   let:=yM (qs.Z λx:R=>(x:Y)) [];rw[OU]at this;lia
  erw[a,9,ag,ch,λl hs hl mem pw=>?_];let ld:l≠d:=λy=>by
   subst y;let O:=(aj ha (setO P w a ((qs.Z λx:R=>(x:Y)).foldl addN []))) _ _ ce
   cases (hl.X.P O)
  let qd:qa≠d:=λy=>by
   rw[y,ce]at bH;cases bH
  let b5:∀ x,x∈hs↔x∈qs.Z λx:R=>(x:Y):=λx=>by
   rw[mem x,Js];erw[λh=>h.elim (λh=>(nomatch h)) id,.inr]
  let hn da:∃ hn:E R,hn=hs.Z Int.toNat:=#[9];let ci:hs=hn.Z λx:R=>(x:Y):=by
   rw[da,NX];refine((Od (g:=id) λx B=>?_).P (Rk _)).X;let y _ rfl:=Nc.mp ((b5 x).mp B);rfl
  let cu:hn.h:=by
   rw[ci]at pw;exact(OC.mp pw).imp λh e=>by rw[e]at h;lia
  let cv:∀ y,y∈hn↔y∈qs:=λy=>by
   let:=b5 (y:Y);rw[ci,Nc,Nc]at this;constructor
   .intro h;let x eK O:=this.mp #[y,h,U];rw[← O6 O];exact eK
   .intro h;let x eK O:=this.mpr #[y,h,U];rw[← O6 O];exact eK
  let cb:hn.L<=2:=by
   let:=nd_len (l:=hn) (ps:=qs) cu λx B=>(cv x).mp B;lia
  let t ht:∃ t:R,(e.1-e'.1).R=t:=#[9];let et:e.1-e'.1=(t:Y):=by lia
  let db:(hs.Z V.int)=hn.Z iV:=by rw[ci,NX];rfl
  rw[db];erw[l,U,#[_,SqL.of ag],br (K:=K) (xs:=hn.Z iV) (λj L HX=>∃(ah:j5 V)(an:E (R×R)),L=[Z (.int 2),Z v,Z (.int 3),Z (.ref q),Z (.int ((0:R):Y)),Z (.ref qa),Z (.ref d),Z (.ref tx),Z (.ref tz),Z (.int (e.1-e'.1)),ah]/\TbS d HA HX/\HX l=Z (.lst (hn.Z iV))/\HX d=Z (.dK (toK an))/\an=lx 0 t kv (hn.x j)/\an.L<=40*i+j) #[_,kv,U,λb o _ e=>((aj ha _).P (aj hl _)) _ _ e,ag,((aj ha _).P (aj hl _)) _ _ ce,U,kl] (λj L HX _ ab=>by let _ _ _ _ z _:=ab;exact SqL.of z) ?_ ?_]
  .rintro j y L HX hy ⟨ah,an,rfl,sX,cw,be,a6,cy⟩;let hj:j<hn.L:=by
    let:=(MF.mp hy).1;rw[MI]at this;exact this
   rw[MO]at hy;let yv dc rfl:=MZ.mp hy;let cl:=CC (r:=0) (t:=t) (kv:=kv) dc;let no:inP 0 t yv=k9->∃(ah:j5 V)(an:E (R×R)),[Z (V.int 2),Z v,Z (.int 3),Z (.ref q),Z (.int ((0:R):Y)),Z (.ref qa),Z (.ref d),Z (.ref tx),Z (.ref tz),Z (.int (e.1-e'.1)),Z (iV yv)]=[Z (.int 2),Z v,Z (.int 3),Z (.ref q),Z (.int ((0:R):Y)),Z (.ref qa),Z (.ref d),Z (.ref tx),Z (.ref tz),Z (.int (e.1-e'.1)),ah]/\TbS d HA HX/\HX l=Z (.lst (hn.Z iV))/\HX d=Z (.dK (toK an))/\an=lx 0 t kv (hn.x (j+1))/\an.L<=40*i+(j+1):=λz=>#[_,an,U,sX,cw,be,by rw[cl,z,Tj ∅];exact a6,4]
   erw[39513,ite2 (λc1=>?_) (λc1=>no ?_)];rotate_left
   .unfold inP;rw[RN (λz=>c1 (Sx (by show(0:Y)<e.1-e'.1;lia)))]
    rfl
   let dm:(0:Y)<e.1-e'.1:=S8 c1;erw[617,ite2 (λc2=>?_) (λc2=>no ?_)];rotate_left
   .let:yv=0:=Decidable.byContradiction λz=>c2 (by
     rw[RN (show ¬ iV yv=V.int 0 from λy=>z (O6 (V.int.inj y)))]
     rfl)
    unfold inP;rw[this];simp
   let bn:yv≠0:=λz=>by
    rw[z]at c2;exact Tn c2 (by rw[Sx (show iV 0=V.int 0 from rfl)];decide)
   erw[42393,(show(0:Y)<=((0:R):Y) by lia),9893,ite2 (λc3=>?_) (λc3=>no ?_)]
   rotate_left
   .cases z:yv.O 0 with
    |true=>unfold inP;rw[z];simp
    |false=>
     exfalso;refine c3 (Sx (congrArg V.int ?_));let h0:=(oX yv 0);rw[z]at h0;let eK:=bit01 yv 0;obtain eK|eK:=eK
     .exact eK
     .exact Tn (h0.mp eK) ∅
   let de:yv.O 0=k9:=by
    cases z:yv.O 0 with
    |false=>rfl
    |true=>
     let h0:=(oX yv 0).mpr z;let eK:Se ((yv:Y)/2^((0:R):Y).R) 1=0:=V.int.inj (S8 c3);rw[h0]at eK
     cases eK
   let cm:inP 0 t yv=kt:=by
    unfold inP;rw[Sx (show 0<t by lia),Sx bn,de]
    rfl
   let big:(toK an).L<RO:=by
    rw[KZ];let:an.L<3000:=by lia
    exact OW this ∅
   let b6:=K0 an yv;let ca:(an.Z (·.1)).h:=by rw[a6];exact vx I.nd
   erw[9,d,U,.inl #[_,.inl be],25,DGet.k (k:=.inl (yv:Y)) be,89,b6,614,d,9,DPut.k (k:=.inl (yv:Y)) be big,3];rw[et,KY ca];erw[_,upK an yv t,U,(λb o nb e=>by rw[aw nb];exact sX b o nb e),by rw[aw ld];exact cw,ag,by rw[cl,cm,Ti U,a6],3]
   let:=KR an yv t;lia
  .rintro L HX ⟨ah,an,rfl,sX,_,be,a6,cy⟩;rw[MI]at cy;rw[MI,M8]at a6;let I3:=I.step d1 bB r0 rr r3 r1 m aT c9 ql aI cu cv ht;let I3:HJ row dd (i+1) qs (lx 0 t kv hn):=I3;rw[← a6]at I3;erw[85,qa,qs,an,U,λb o nb e=>sX b o nb (bQ _ _ (sT b o nb e)),be,4,sX _ _ qd bH,I3]
 .rintro L H9 ⟨v7,v8,v9,ah,pa,ps,kv,rfl,sT,bm,kl,cs,I⟩;let a6:=(I.s ∅).1
  subst a6;erw[9,.inr (.inr (.inl #[U,.inl #[_,bm]])),d,41,bm,True.intro,λvw bv=>?_];let sv:=aj bv (jz vw d);erw[vw,d,toK [(2,2*dd)],[(2,2*dd)].Z (λe=>((e.1:Y),(e.2:Y))),U,ag,sv _ _ bm,by unfold toK;rw[NX];rfl,λl ys cn cz hl cB yl df=>?_]
  let a4:Tb lqF lpF TT H7:=tb_same (tb_same ar s2) cd;refine kk l ys dd cn (λb o no e=>?_) (tb_same (DJ a4 bG sT) (sv.P cz)) cB #[yl,df] #[l0,a1,e0] co;let e2:=s2 _ _ (al b o no e);exact cz _ _ (sv _ _ (sT b o (λz=>by rw[z,cT]at e2;cases e2) (cd _ _ e2)))
structure TxtE(mg:fI->j5 eN):Prop extends TxtH mg where
 n_sum:mg "sum"=lf
def Pp2(H:Hp)(v:V)(d:R):Prop:=∃ a t,v=.ref a/\H a=Z (.lst [.ref t])/\H t=Z (.tup [.int 2,.int (2*(d:Y))])
def Pp2.mono{d:R}(h:Pp2 H v d)(s:o5):Pp2 H' v d:=by
 let a t e y z:=h;erw[a,t,e,s _ _ y,s _ _ z]
inductive spPaid
 |mk (v pv:V)(l:Lk)(d:R) (_:vs=[v,pv])(_:LkAt H v l)(_:l.1<2)(_:l.2.1<2)(_:l.1≠l.2.1)(_:Pp2 H pv d)(_:∀ H',o5->Q (.int (2*(d:Y))) H')
def wW:az ["link","paper"] ["link","paper"] (aq iP):=by ac_nf
def ok_paid(F:Fun K "paid_over" "paid_over" iP f fd)(T:TxtE mg):li 1 f fd ["link","paper"] spPaid:=by
 refine F.ok wW λL A eK s H m Q dO u h=>?_
 let v pv l d rfl{t rfl j}k p ne{a q rfl r g}N:=h;intro J G;erw[_,(ao (aG (aE (wj U) (by rfl) T.n_sum B6 (ae (cM [("link",0)] ["rooms","price"] (aM (pv 1)) (λC M s H=>(dD (n:=2) (K:=K) U U (aC (aY (i:=0) (show(["rooms","price","link"]:E fI).h from by decide) U (Or.inl U)) (aC (aY (i:=1) (show(["rooms","price","link"]:E fI).h from by decide) U (Or.inl U)) bx)))) (λC M s H=>(fV (aD cH (ay cV (ay eX (ay gf (pv 0) (pA K (pv 2) ak)) (ay gf (pv 0) (pA K (pv 2) ak))) ak) ak (aJ _)))) (λC M s H=>(pv 1))) ai)))),3]
 erw[9,a,U,#[_,SqL.of r],aZ (K:=K) (xs:=[.ref q]) (λi I o=>o=H/\I=([2*(d:Y)].x i).Z V.int) (M4 (ax ∅)) #[10] (λi I o _ z=>by rw[z.1];exact SqL.of r) ?_ ?_ ?_]
 .rintro i x I o B ⟨rfl,rfl⟩;let i0:i=0:=by
   let:i<1:=(MF.mp B).1;lia
  subst i0
  cases B
  erw[q,9,SqT.of g,959894];erw[153,t,_,00,41,SqT.of j,a30,165,(show(0:Y)<=(l.1:Y) by lia),153,t,_,01,41,SqT.of j,a31,165,(show(0:Y)<=(l.2.1:Y) by lia),239013]
  let e:Se (Sh ((2:Y)/2^((l.1:R):Y).R) (2/2^((l.2.1:R):Y).R)) 1=1:=by
   rcases(show(l.1=0/\l.2.1=1)∨(l.1=1/\l.2.1=0) by lia) with⟨x,y⟩|⟨x,y⟩<;>rw[x,y]<;>rfl
  dsimp only;rw[e];erw[38,ite2 (λ_=>#[169]) (λc=>Tn (Sx U) c)]
 .rintro I o ⟨rfl,rfl⟩ D b;let O:=N _ (aj b (.lst (([2*(d:Y)].x [V.ref q].L).Z V.int)));erw[D,[2*(d:Y)],U,SqL.of ag,3];rw[show[2*(d:Y)].sum=2*(d:Y) by simp]
  exact O
 .rintro i I o ⟨_,rfl⟩;rw[MI,NQ];exact O0 _ _
end KF
namespace L2
theorem len_0{l:E α}(h:l.L=0):l=[]:=O5.mp h
def Cw{l:E α}(h:l.L=n+1):∃ x r,l=x::r/\r.L=n:=by
 cases l with
 |nil=>cases h
 |cons x r=>exact#[x,r,U,Qu h]
def IF{l:E α}(h:l.L=1):∃ a,l=[a]:=by
 let a r rfl e:=Cw h;erw[a,by rw[len_0 e]]
def L4{l:E α}(h:l.L=2):∃ a b,l=[a,b]:=by
 let a r rfl e:=Cw h;let b rfl:=IF e;erw[a,b,U]
def len_3{l:E α}(h:l.L=3):∃ a b c,l=[a,b,c]:=by
 let a r rfl e:=Cw h;let b c rfl:=L4 e;erw[a,b,c,U]
def L3{l:E α}(h:l.L=4):∃ a b c d,l=[a,b,c,d]:=by
 let a r rfl e:=Cw h;let b c d rfl:=len_3 e;erw[a,b,c,d,U]
def len_5{l:E α}(h:l.L=5):∃ a b c d e,l=[a,b,c,d,e]:=by
 let a r rfl z:=Cw h;let b c d e rfl:=L3 z;erw[a,b,c,d,e,U]
def len_6{l:E α}(h:l.L=6):∃ a b c d e f,l=[a,b,c,d,e,f]:=by
 let a r rfl z:=Cw h;let b c d e f rfl:=len_5 z;erw[a,b,c,d,e,f,U]
end L2
namespace K8
def eJ{a:E R}(nd:a.h)(h:∀ x∈a,x<N):a.L<=N:=KF.BI N a nd h
def J2(nd:l.h){x:R}(hi:l[i]?=Z x)(L:l[j]?=Z x):i=j:=by
 let p:=NW.mp nd;let eK f:=MF.mp hi;let O A:=MF.mp L;obtain z|z|z:=QM i j
 .exact Tn (f.P A.X) (p i j eK O z)
 .exact z
 .exact Tn (A.P f.X) (p j i O eK z)
abbrev En:=E (R×R)
structure dJ(m:R)(es:En)(ts:oD):Prop where
 len:ts.L=m
 ends:∀ e∈es,e.1<m/\e.2<m/\e.1≠e.2
 nd:∀(p:R)(l:E R),ts[p]?=Z l->l.h
 mem:∀(p:R)(l:E R),ts[p]?=Z l->∀ t,t∈l↔∃ e,es[t]?=Z e/\(e.1=p∨e.2=p)
theorem Hf(m:R):dJ m [] (MV m []) where
 len:=by simp
 ends:=λe h=>by cases h
 nd:=λp l h=>by
  rw[Ow]at h;simp!
 mem:=λp l h t=>by
  rw[Ow]at h;simp!
def ins(l:E R)(k x:R):E R:=l.x k++x::l.drop k
def Ad{k x y:R}:y∈ins l k x↔y=x∨y∈l:=by
 unfold ins;rw[Ng,MY];let:=PQ k l;constructor
 .rintro(h|h|h)
  .exact .inr (QA h)
  .exact .inl h
  .exact .inr (List.mem_of_mem_drop h)
 .rintro(h|h)
  .exact .inr (.inl h)
  .rw[← this]at h;obtain z|z:=Ng.mp h
   .exact .inl z
   .exact .inr (.inr z)
def Fz{k x:R}(nd:l.h)(h:x∉l):(ins l k x).h:=by
 unfold ins;let e:=PQ k l;rw[← e]at nd;let a b c:=NP.mp nd;refine NP.mpr #[a,Nt.mpr #[λz=>h (List.mem_of_mem_drop z),b],λy j z f=>?_];obtain q|q:=MY.mp f
 .intro w;exact h (by rw[← q,← w];exact QA j)
 .exact c y j z q
def dJ.put{es:En}{one two k:R}(w:dJ m es ts)(eK:one<m)(h2:two<m)(T:one≠two)(e1:ts[one]?=Z l)(A:ts[two]?=Z l'):
  dJ m (es++[(one,two)]) ((ts.set one (ins l k es.L)).set two (ins l' j es.L)):=by
 let a:∀{p l},ts[p]?=Z l->es.L∉l:=λ{p l} e z=>by
  let x B _:=(w.mem p l e es.L).mp z;simp!
 let get:∀ p q,((ts.set one (ins l k es.L)).set two (ins l' j es.L))[p]?=Z q->(p=two/\q=ins l' j es.L)∨(p=one/\p≠two/\q=ins l k es.L)∨(p≠one/\p≠two/\ts[p]?=Z q):=λp q e=>by
  let L:two<(ts.set one (ins l k es.L)).L:=by rw[N5,w.len];exact h2
  let b:one<ts.L:=by rw[w.len];exact eK
  rw[OS]at e;by_cases z:two=p
  .rw[Ti z,Ti L]at e;exact .inl #[z.X,(Ny e).X]
  .rw[Tj z,OS]at e;by_cases y:one=p
   .simp!
   .rw[Tj y]at e;exact .inr (.inr #[Ne.X y,Ne.X z,e])
 let c:∀ t x,(es++[(one,two)])[t]?=Z x↔(es[t]?=Z x)∨(t=es.L/\x=(one,two)):=λt x=>by
  by_cases z:t<es.L
  .rw[MT z];constructor
   .exact .inl
   .lia
  .rw[MR ∅]
   constructor
   .intro y;grind
   .grind
 erw[by rw[N5,N5];exact w.len,λe N=>?_,λp q e=>?_,λp q e t=>?_]
 .obtain z|z:=Ng.mp N
  .exact w.ends e z
  .simp!
 .rcases get p q e with⟨_,rfl⟩|⟨_,_,rfl⟩|⟨_,_,y⟩
  .exact Fz (w.nd two l' A) (a A)
  .exact Fz (w.nd one l e1) (a e1)
  .exact w.nd p q y
 .rcases get p q e with⟨rfl,rfl⟩|⟨rfl,d,rfl⟩|⟨J,g,y⟩
  .rw[Ad,w.mem p l' A t];constructor
   .rintro(z|⟨x,B,G⟩)
    .erw[(one,p),(c _ _).mpr (.inr #[z,U]),.inr U]
    .erw[x,(c _ _).mpr (.inl B),G]
   .rintro⟨x,B,G⟩;rcases(c _ _).mp B with z|⟨z,_⟩
    .exact .inr #[x,z,G]
    .exact .inl z
  .rw[Ad,w.mem p l e1 t];constructor
   .rintro(z|⟨x,B,G⟩)
    .erw[(p,two),(c _ _).mpr (.inr #[z,U]),.inl U]
    .erw[x,(c _ _).mpr (.inl B),G]
   .rintro⟨x,B,G⟩;rcases(c _ _).mp B with z|⟨z,_⟩
    .exact .inr #[x,z,G]
    .exact .inl z
  .rw[w.mem p q y t];constructor
   .rintro⟨x,B,G⟩;erw[x,(c _ _).mpr (.inl B),G]
   .rintro⟨x,B,G⟩;rcases(c _ _).mp B with z|⟨z,rfl⟩
    .erw[x,z,G]
    .obtain G|G:=G
     .exact Tn G.X J
     .exact Tn G.X g
def hd(es:En)(d:R):R:=match es[d/2]? with|some e=>if d%2=0 then e.2 else e.1|none=>0
def tl(es:En)(d:R):R:=match es[d/2]? with|some e=>if d%2=0 then e.1 else e.2|none=>0
def leave(es:En)(t p:R):R:=match es[t]? with|some e=>if e.1=p then 2*t else 2*t+1|none=>0
def nxt(l:E R)(t:R):R:=(l[(l.idxOf t+1)%l.L]?).v 0
def fol(es:En)(ts:oD)(d:R):R:=leave es (nxt ((ts[hd es d]?).v []) (d/2)) (hd es d)
section
variable{m:R}{es:En}{ts:E (E R)}
def FD{t:R}(h:t∈l):l[l.idxOf t]?=Z t:=by
 let M:=Qi.mpr h;simp[*]
def uY{t:R}(h:t∈l):l[(l.idxOf t+1)%l.L]?=Z (nxt l t):=by
 let M:0<l.L:=Om h;let:=Pc (l.idxOf t+1) M;unfold nxt;simp[*]
def dJ.at(w:dJ m es ts){d:R}(h:d<2*es.L):∃ e l,es[d/2]?=Z e/\hd es d=(if d%2=0 then e.2 else e.1)/\tl es d=(if d%2=0 then e.1 else e.2)/\hd es d<m/\ts[hd es d]?=Z l/\d/2∈l:=by
 let M:d/2<es.L:=by lia
 let f:es[d/2]?=Z es[d/2]:=MG M;let q:=w.ends _ (MH f);generalize es[d/2]=e at f q;let eK:hd es d=(if d%2=0 then e.2 else e.1):=by unfold hd;rw[f]
 let O:tl es d=(if d%2=0 then e.1 else e.2):=by unfold tl;rw[f]
 let G:hd es d<m:=by lia
 let dO:ts[hd es d]?=Z (ts[hd es d]'(by rw[w.len];exact G)):=MG _
 erw[e,_,f,eK,O,G,dO,(w.mem _ _ dO _).mpr #[e,f,3]];rw[eK];split
 .exact .inr U
 .exact .inl U
def dJ.foll(w:dJ m es ts){d:R}(h:d<2*es.L):∃ l e,ts[hd es d]?=Z l/\d/2∈l/\es[nxt l (d/2)]?=Z e/\(e.1=hd es d∨e.2=hd es d)/\e.1≠e.2/\fol es ts d=(if e.1=hd es d then 2*nxt l (d/2) else 2*nxt l (d/2)+1)/\fol es ts d<2*es.L/\fol es ts d/2=nxt l (d/2)/\tl es (fol es ts d)=hd es d:=by
 let o l eK O I dO s n:=w.at h;let T:=uY n;let e N G:=(w.mem _ _ s _).mp (MH T);let Q:=(MF.mp N).1;let C:=(w.ends e (MH N)).2.2;let A:fol es ts d=(if e.1=hd es d then 2*nxt l (d/2) else 2*nxt l (d/2)+1):=by
  unfold fol;rw[s];show leave es (nxt l (d/2)) (hd es d)=_;unfold leave;rw[N]
 erw[l,e,s,n,N,G,C,A,63]
 .grind
 .lia
 .rw[A];by_cases z:e.1=hd es d
  .let r:2*nxt l (d/2)/2=nxt l (d/2):=by lia
   let u:2*nxt l (d/2)%2=0:=by lia
   rw[Ti z];unfold tl;simp!
  .let r:(2*nxt l (d/2)+1)/2=nxt l (d/2):=by lia
   let u:¬ (2*nxt l (d/2)+1)%2=0:=by lia
   rw[Tj z];unfold tl;rw[r,N];lia
def dJ.inj(w:dJ m es ts){a b:R}(O:a<2*es.L)(M:b<2*es.L)(h:fol es ts a=fol es ts b):a=b:=by
 let l e d G _ _ _ _ _ j T:=w.foll O;let o Q dO n _ _ _ _ _ z i:=w.foll M;let H:hd es a=hd es b:=by rw[← T,← i,h]
 rw[H,dO]at d
 cases d
 let B:nxt l (a/2)=nxt l (b/2):=by rw[← j,← z,h]
 let L:=uY G;let v:=uY n;rw[B]at L;let I:=J2 (w.nd _ _ dO) L v;let p:=Qi.mpr G;let s:=Qi.mpr n;let u:l.idxOf (a/2)=l.idxOf (b/2):=by
  generalize l.idxOf (a/2)=x at *;generalize l.idxOf (b/2)=y at *;by_cases k:x+1=l.L
  .by_cases D:y+1=l.L
   .lia
   .rw[k,O2,Nv ∅]at I;lia
  .by_cases D:y+1=l.L
   .rw[D,O2,Nv ∅]at I;lia
   .rw[Nv ∅,Nv ∅]at I;lia
 let g:a/2=b/2:=by
  let eK:=FD G;let r:=FD n;rw[u,r]at eK;exact(Ny eK).X
 let f _ J N _ _ _ _:=w.at O;let A _ C t _ _ _ _:=w.at M;rw[g,C]at J;let q:A=f:=Ny J;rw[q]at C t;let c:=(w.ends f (MH C)).2.2;rw[N,t]at H;lia
end
structure GU(f:R->R)(N:R):Prop where
 lt:∀ d,d<N->f d<N
 inj:∀ a b,a<N->b<N->f a=f b->a=b
structure Path(f:R->R)(N first:R)(r:E R):Prop where
 hd:r[0]?=Z first
 lt:∀ d∈r,d<N
 nd:r.h
 nx:∀ i x y,r[i]?=Z x->r[i+1]?=Z y->y=f x
theorem HM{f:R->R}{d:R}(h:d<N):Path f N d [d] where
 hd:=rfl
 lt:=λx B=>by simp!
 nd:=by simp
 nx:=λi x y eK O=>by
  contradiction
theorem Path.snoc{f:R->R}{d x:R}{r:E R}(p:GU f N)(h:Path f N d (r++[x]))(T:f x≠d):Path f N d (r++[x]++[f x]) where
 hd:=by rw[MT ∅];exact h.hd
 lt:=λy j=>by
  obtain z|z:=Ng.mp j
  .exact h.lt y z
  .let:y=f x:=by simpa using z
   rw[this];exact p.lt x (h.lt x ∅)
 nd:=by
  refine NP.mpr #[h.nd,by simp,λa l b M e=>?_]
  let C:b=f x:=by simpa using M
  subst C;let i J:=Ou.mp l;rw[e]at J;let c:=(MF.mp J).1;rw[MP,M9]at c
  cases i with
  |zero=>
   rw[h.hd]at J;exact T (Ny J).X
  |succ i=>
   let k:(r++[x])[i]?=Z ((r++[x])[i]'(by grind)):=MG _
   let:=h.nx i _ _ k J;let n:=h.lt _ (MH k);let o:=h.lt x ∅
   let A:=p.inj _ _ o n this;rw[← A]at k;let g:(r++[x])[r.L]?=Z x:=by rw[MR (MN _),Nz];rfl
   let:=J2 h.nd k g;lia
 nx:=λi a b eK O=>by
  let m:=(MF.mp O).1;rw[MP,MP,M9,M9]at m;rw[MT (by simp!)]at eK
  by_cases z:i+1<(r++[x]).L
  .rw[MT z]at O;exact h.nx i a b eK O
  .rw[MP,M9]at z;let dO:i=r.L:=by lia
   simp!
structure Ring(f:R->R)(N:R)(r:E R):Prop where
 lt:∀ d∈r,d<N
 nd:r.h
 ne:0<r.L
 nx:∀ i x,r[i]?=Z x->r[(i+1)%r.L]?=Z (f x)
theorem Path.ring{f:R->R}{d x:R}{r:E R}(p:GU f N)(h:Path f N d (r++[x]))(v:f x=d):Ring f N (r++[x]) where
 lt:=h.lt
 nd:=h.nd
 ne:=by simp
 nx:=λi y j=>by
  let M:=(MF.mp j).1;by_cases z:i+1=(r++[x]).L
  .rw[z,O2];let:i=r.L:=by simp!
   subst this;rw[MR (MN _),Nz]at j;let:x=y:=Ny j;subst this;rw[v];exact h.hd
  .let Q:i+1<(r++[x]).L:=by lia
   rw[Nv Q];let g:=MG Q;rw[g,h.nx i _ _ j g]
def Ring.back{f:R->R}{a:R}{r:E R}(p:GU f N)(h:Ring f N r)(O:a<N)(A:f a∈r):a∈r:=by
 let i J:=Ou.mp A;let M:=(MF.mp J).1;let B:∃ j,j<r.L/\(j+1)%r.L=i:=by
  cases i with
  |zero=>exact#[r.L-1,4,by let:=h.ne;rw[show r.L-1+1=r.L by lia,O2]]
  |succ i=>exact#[i,4,Nv M]
 let j L G:=B;let g:=MG L;let q:=h.nx j _ g;rw[G,J]at q;let b:=h.lt _ (MH g);let:=p.inj _ _ O b (Ny q);simp[*]
structure du(f:R->R)(N i:R)(rs:oD):Prop where
 ring:∀ r∈rs,Ring f N r
 hdl:∀ r∈rs,∀ h,r[0]?=Z h->h<i/\∀ d∈r,h<=d
 asc:∀(a b:R)(r r':E R)(h h':R),a<b->rs[a]?=Z r->rs[b]?=Z r'->r[0]?=Z h->r'[0]?=Z h'->h<h'
 nd:rs.flatten.h
 all:∀ d,d<i->d∈rs.flatten
theorem Ci(f:R->R)(N:R):du f N 0 [] where
 ring:=λr h=>by cases h
 hdl:=λr h=>by cases h
 asc:=λa b r m h O _ e=>by cases e
 nd:=by simp
 all:=λd h=>by lia
theorem du.skip{f:R->R}(w:du f N i rs)(h:i∈rs.flatten):du f N (i+1) rs where
 ring:=w.ring
 hdl:=λr u x B=>#[by let:=(w.hdl r u x B).1;lia,(w.hdl r u x B).2]
 asc:=w.asc
 nd:=w.nd
 all:=λd hd=>by
  by_cases z:d=i
  .rw[z];exact h
  .exact w.all d ∅
def du.put{f:R->R}{r:E R}(p:GU f N)(w:du f N i rs)(h:i∉rs.flatten)(hi:i<N)(u:Ring f N r)(A:Path f N i r):du f N (i+1) (rs++[r]):=by
 let apart:∀(k x:R),r[k]?=Z x->x∉rs.flatten:=λk=>by
  induction k with
  |zero=>
   intro x B;rw[A.hd]at B;grind
  |succ k C=>
   intro x B z;let t:=(MF.mp B).1;let g:=MG (show k<r.L by lia)
   let e:=A.nx k _ _ g B;let q n v:=OI.mp z;rw[e]at v;exact C _ g (OI.mpr #[q,n,(w.ring q n).back p (u.lt _ (MH g)) v])
 let j:∀ d∈r,i<=d:=λd hd=>by
  let k D:=Ou.mp hd;by_cases z:i<=d
  .exact z
  .exact Tn (w.all d ∅) (apart k d D)
 erw[λq n=>?_,λq n x B=>?_,λa b q G x m o O M B l=>?_,3,λd hd=>?_]
 .obtain z|z:=Ng.mp n
  .exact w.ring q z
  .let:q=r:=by simpa using z
   rw[this];exact u
 .obtain z|z:=Ng.mp n
  .let:=w.hdl q z x B
   grind
  .let e:q=r:=by simpa using z
   subst e;rw[A.hd]at B;simp!
 .let bl:=(MF.mp M).1
  rw[MP,M9]at bl;rw[MT ∅]at O
  by_cases z:b<rs.L
  .rw[MT z]at M;exact w.asc a b q G x m o O M B l
  .let c:b=rs.L:=by lia
   subst c;rw[MR (MN _),Nz]at M;let e:r=G:=Ny M;subst e;rw[A.hd]at l
   cases l
   exact(w.hdl q (MH O) x B).1
 .rw[Pz];let e : [r].flatten=r:=by simp
  rw[e];refine NP.mpr #[w.nd,u.nd,λa O b M e=>?_];let k D:=Ou.mp M;exact apart k b D (e▸O)
 .rw[Pz,Ng];by_cases z:d=i
  .right;rw[z];simp;exact MH A.hd
  .exact .inl (w.all d ∅)
def qX(nd:rs.flatten.h){a b:R}{r r':E R}{d:R}(O:rs[a]?=Z r)(M:rs[b]?=Z r')(eK:d∈r)(h2:d∈r'):a=b:=by
 induction rs generalizing a b with
 |nil=>cases O
 |cons q rs C=>
  rw[QO]at nd;let _ g dO:=NP.mp nd
  cases a with
  |zero=>
   cases b with
   |zero=>rfl
   |succ b=>
    let e:q=r:=Ny O;subst e;exact Tn U (dO d eK d (OI.mpr #[r',MH M,h2]))
  |succ a=>
   cases b with
   |zero=>
    let e:q=r':=Ny M;subst e;exact Tn U (dO d h2 d (OI.mpr #[r,MH O,eK]))
   |succ b=>exact congrArg Nat.succ (C g O M)
def pK(f:R->R):R->E R->R->Prop
 |x,[],z=>f x=z
 |x,y::l,z=>f x=y/\pK f y l z
theorem mI{f:R->R}:∀{x:R}{l:E R}{y:R}{k:E R}{z:R},pK f x (l++y::k) z↔pK f x l y/\pK f y k z
 |x,[],y,k,z=>Iff.rfl
 |x,a::l,y,k,z=>by
  show(f x=a/\pK f a (l++y::k) z)↔(f x=a/\pK f a l y)/\pK f y k z;rw[mI,and_assoc]
theorem rN{f:R->R}{S:R->Prop}:∀{x:R}{l:E R}{z:R},pK f x l z->(∀ t∈x::l,S t->S (f t))->S x->S z/\∀ t∈l,S t
 |x,[],z,h,k,s=>#[by let:=k x (M7 ..) s;rwa[show f x=z from h]at this,λt g=>nomatch g]
 |x,a::l,z,h,k,s=>by
  let C:S a:=by let:=k x (M7 ..) s;rwa[h.1]at this
  let eK O:=rN h.2 (λt g=>k t (M6 _ g)) C;simp!
structure CR(f:R->R)(N:R)(r:E R):Prop where
 ch:∃ x l,r=x::l/\pK f x l x
 lt:∀ d∈r,d<N
 nd:r.h
def CR.closed{f:R->R}{r:E R}(h:CR f N r):∀ d∈r,f d∈r:=by
 let x l rfl c:=h.ch;intro d hd;obtain y|y:=MY.mp hd
 .subst y
  cases l with
  |nil=>rw[show f d=d from c];lia
  |cons a l=>rw[c.1];simp
 .let A B rfl:=List.append_of_mem y;let c2:=(mI.mp c).2
  cases B with
  |nil=>rw[show f d=x from c2];exact M7 ..
  |cons a B=>rw[c2.1];simp
def CR.sub{f:R->R}{r:E R}{S:R->Prop}(h:CR f N r)(k:∀ t∈r,S t->S (f t)){d:R}(hd:d∈r)(s:S d):∀ t∈r,S t:=by
 let x l rfl c:=h.ch;let a:S x->∀ t∈x::l,S t:=λb t g=>by
  obtain y|y:=MY.mp g
  .rw[y];exact b
  .exact(rN c k b).2 t y
 obtain y|y:=MY.mp hd
 .exact a (y▸s)
 .let A B rfl:=List.append_of_mem y;let c2:=(mI.mp c).2;exact a (rN c2 (λt g=>k t (by simp[*])) s).1
theorem CR.same{f:R->R}{r r':E R}(h:CR f N r)(h':CR f N r'){d:R}(eK:d∈r)(h2:d∈r'):∀ t∈r,t∈r':=h.sub (S:=λt=>t∈r') (λt _=>h'.closed t) eK h2
def CR.ne{f:R->R}{r:E R}(h:CR f N r):∃ d,d∈r:=by
 let x l rfl _:=h.ch;erw[x,M7 ..]
structure Part(f:R->R)(N:R)(rs:oD):Prop where
 cr:∀ r∈rs,CR f N r
 nd:rs.flatten.h
 all:∀ d,d<N->d∈rs.flatten
def Part.same:∀{rs qs:oD}{f:R->R}{N:R},Part f N rs->Part f N qs->rs.L=qs.L:=by
 let n:∀(k:R){rs qs:oD}{f:R->R}{N:R},Part f N rs->Part f N qs->rs.L<=qs.L:=by
  intro _ rs qs f N p q;let g:∀ r∈rs,∃ i,i<qs.L/\∃ m,qs[i]?=Z m/\∀ t∈m,t∈r:=λr u=>by
   let c:=p.cr r u;let d hd:=c.ne;let m Q v:=OI.mp (q.all d (c.lt d hd));let i J:=Ou.mp Q;erw[i,(MF.mp J).1,m,J,(q.cr m Q).same c v hd]
  let:∀(l:oD),(∀ r∈l,r∈rs)->l.flatten.h->∃ x:E R,x.L=l.L/\x.h/\∀ i∈x,i<qs.L/\∃ r∈l,∃ m,qs[i]?=Z m/\∀ t∈m,t∈r:=λl=>by
   induction l with
   |nil=>intro _ _;erw[[],U,NU,λi J=>nomatch J]
   |cons r l C=>
    intro h nd;rw[QO]at nd;let e a dO:=NP.mp nd;let x T A B:=C (λr u=>h r (M6 _ u)) a;let i eK m O G:=g r (h r (M7 ..));erw[i::x,by simp[T],Nt.mpr #[λz=>?_,A],λj L=>?_]
    .let _ I v b s o:=B i z;rw[O]at s
     cases s
     let d hd:=(q.cr m (MH O)).ne;exact dO d (G d hd) d (OI.mpr #[I,v,o d hd]) U
    .obtain z|z:=MY.mp L
     .subst z;erw[eK,r,M7 ..,m,O,G]
     .let D I w k3:=B j z;erw[D,I,M6 _ w,k3]
  let x T A B:=this rs (λ_ h=>h) p.nd;rw[← T];exact eJ A λi J=>(B i J).1
 intro rs qs f N p q;exact Nat.le_antisymm (n 0 p q) (n 0 q p)
def Ring.cr{f:R->R}{r:E R}(h:Ring f N r):CR f N r:=by
 erw[3,h.lt,h.nd];let ne:=h.ne;match r,h,ne with
 |x::l,h,_=>
  erw[x,l,14];let B:∀(k i:R)(y:R),i+k+1=(x::l).L->(x::l)[i]?=Z y->pK f y ((x::l).drop (i+1)) x:=λk=>by
   induction k with
   |zero=>
    intro i y J j;let e:=h.nx i y j;rw[show(i+1)%(x::l).L=0 by simp[*]]at e
    rw[List.drop_of_length_le ∅]
    exact(Ny e).X
   |succ k C=>
    intro i y J j;let e:=h.nx i y j;rw[Nv ∅]at e
    let M A:=MF.mp e;rw[List.drop_eq_getElem_cons M,A];erw[U,C (i+1) (f y) ∅ e]
  exact B l.L 0 x ∅ U
theorem du.part{f:R->R}(w:du f N N rs):Part f N rs:=#[λr u=>(w.ring r u).cr,w.nd,w.all]
def par(S:R->ke):E R->ke
 |[]=>k9
 |d::l=>S (d/2) ^^ par S l
theorem bu(S:R->ke)(d:R)(l:E R):par S (d::l)=(S (d/2) ^^ par S l):=rfl
theorem zM(S:R->ke):∀ a b:E R,par S (a++b)=(par S a ^^ par S b)
 |[],b=>by show par S b=(k9 ^^ par S b);simp!
 |x::a,b=>by rw[Qq,bu,bu,zM S a b,Rw]
def BB(S:R->ke){a b:E R}(p:a.Perm b):par S a=par S b:=by
 induction p with
 |nil=>rfl
 |cons x _ C=>rw[bu,bu,C]
 |swap x y l=>rw[bu,bu,bu,bu,← Rw,← Rw,RL (S (y/2))]
 |trans _ _ a b=>exact a.P b
def GW(es:En)(S i:R->ke):Prop:=∀(t:R)(e:R×R),es[t]?=Z e->S t=(i e.1 ^^ i e.2)
def B4{es:En}{S i:R->ke}(h:GW es S i){d:R}(O:d<2*es.L):S (d/2)=(i (tl es d) ^^ i (hd es d)):=by
 let f:es[d/2]?=Z (es[d/2]'∅):=MG _
 rw[h _ _ f];unfold tl hd;rw[f];show _=(i (if d%2=0 then es[d/2].1 else es[d/2].2) ^^ i (if d%2=0 then es[d/2].2 else es[d/2].1));split
 .rfl
 .exact RL _ _
theorem B3{m:R}{es:En}{ts:oD}{S i:R->ke}(w:dJ m es ts)(h:GW es S i):∀{x:R}{l:E R}{z:R},pK (fol es ts) x l z->x<2*es.L->(∀ t∈l,t<2*es.L)->z<2*es.L->par S (l++[z])=(i (hd es x) ^^ i (hd es z))
 |x,[],z,c,B,_,f=>by
  let _ _ _ _ _ _ _ _ _ _ k:=w.foll B;let v:fol es ts x=z:=c;rw[List.nil_append,bu,B4 h f,← v,k];exact Qf _
 |x,a::l,z,c,B,M,f=>by
  let _ _ _ _ _ _ _ _ _ _ k:=w.foll B;let O:=M a (M7 ..);rw[Qq,bu,B3 w h c.2 O (λt g=>M t (M6 _ g)) f,B4 h O,← c.1,k];simp
structure Gr(m:R)(es:En)(ts:oD):Prop where
 w:dJ m es ts
 part:∃ rs,Part (fol es ts) (2*es.L) rs/\m+rs.L=es.L+2
 conn:∀ S:R->Prop,(∀ e∈es,S e.1↔S e.2)->∀ p q,p<m->q<m->S p->S q
 cut:∀ S:R->ke,(∀ r,CR (fol es ts) (2*es.L) r->par S r=k9)->∃ Pl:R->ke,GW es S Pl
section
variable{m:R}{es es2:En}{ts ts2:E (E R)}{π σ:R->R}
def Kc(w:dJ m es ts){p:R}(h:ts[p]?=Z l){t:R}(g:t∈l):t<es.L:=by
 let x B _:=(w.mem p l h t).mp g;exact(MF.mp B).1
end
end K8
variable{es:K8.En}
namespace K8
open PySem L2
def top(i:R):hr:=PySem.Challenge.pw_spinfloor_k80_whole_rings.main.body.getD i (.Pass #[00,00,00,00])
abbrev mZ:hr:=top 15
abbrev mY:hr:=top 17
abbrev uy:hr:=top 36
abbrev uz:hr:=top 37
abbrev jK:hr:=top 38
abbrev iM:hr:=top 39
abbrev lM:hr:=top 40
abbrev iT:hr:=top 42
abbrev oi:hr:=top 44
abbrev ox:hr:=top 45
abbrev kK:hr:=top 46
abbrev lK:hr:=top 47
abbrev oo:hr:=top 53
abbrev oj:hr:=top 56
abbrev zm:hr:=top 57
abbrev jH:hr:=top 59
abbrev iR:hr:=top 60
abbrev fT:hr:=top 61
abbrev hX:hr:=top 62
abbrev n9:hr:=top 63
abbrev fU:hr:=top 64
abbrev n8:hr:=top 65
abbrev jL:hr:=top 66
abbrev hG:hr:=top 67
abbrev lV:hr:=top 68
abbrev jO:hr:=top 69
abbrev dy:hr:=top 70
abbrev cU:hr:=mE (top 72) 0
abbrev fF:hr:=mE (top 72) 1
abbrev bT:hr:=mE (top 72) 2
abbrev cQ:hr:=mE (top 72) 4
abbrev cS:hr:=mE (top 72) 5
abbrev dz:hr:=mE (top 74) 0
abbrev El:hr:=top 76
abbrev qG:hr:=top 77
abbrev oy:hr:=top 78
abbrev jI:hr:=top 79
abbrev lL:hr:=top 80
abbrev og:hr:=top 81
abbrev iN:hr:=top 83
abbrev hO:hr:=top 84
abbrev fQ:hr:=top 85
abbrev cP:hr:=mE (top 86) 0
abbrev Ek:hr:=top 88
abbrev jJ:hr:=top 89
abbrev iO:hr:=top 90
abbrev ic:hr:=top 92
abbrev lU:hr:=top 93
abbrev qF:hr:=top 94
abbrev oh:hr:=top 95
abbrev ou:hr:=top 97
abbrev lR:hr:=top 98
abbrev lT:hr:=top 99
abbrev qH:hr:=top 100
abbrev jM:hr:=top 101
abbrev lP:hr:=top 102
abbrev lQ:hr:=top 103
abbrev oq:hr:=top 104
abbrev iS:hr:=top 105
abbrev uA:hr:=top 106
def tf(a b s:Y):E (fI×V):=putF "strength" (.int s) (putF "two" (.int b) (putF "one" (.int a) []))
def iz(a b s:Y):(tf a b s).Y ("one" : fI)=Z (.int a):=by
 rfl
def jD(a b s:Y):(tf a b s).Y ("two" : fI)=Z (.int b):=by
 rfl
def Bb(a b s:Y):(tf a b s).Y ("strength" : fI)=Z (.int s):=by
 rfl
def qy(a b s:Y){m:fI}(eK:¬ m = "strength")(h2:¬ m = "two")(G:¬ m = "one"):(tf a b s).Y m=lf:=by
 unfold tf;rw[aU,Tj eK,aU,Tj h2,aU,Tj G];simp!
def f1_len(a:Y):(putF "one" (.int a) []).L<1000:=by show 1<1000;decide
def f2_len(a b:Y):(putF "two" (.int b) (putF "one" (.int a) [])).L<1000:=by
 let e:(putF "two" (.int b) (putF "one" (.int a) []):E (fI×V))=([("one",.int a),("two",.int b)]:E (fI×V)):=by rfl
 rw[e];show 2<1000;decide
structure CT(K:MJ)(C:fc):Prop where
 cl:Cls K C
 n1:gZ K C "one"
 n2:gZ K C "two"
 n3:gZ K C "strength"
inductive tq(K:MJ)
 |mk (p C dx:fc)(a b s:Y) (_:vs=[.ref p,.int a,.int b,.int s])(_:H p=Z (.ins C dx []))(_:CT K C)(_:a≠b)(_:0<=a)(_:0<=b)(_:0<=s)(_:∀ H',H' p=Z (.ins C dx (tf a b s))->(∀ q o,H q=Z o->q≠p->H' q=Z o)->Q .non H')
theorem aj(h:H p=lf)(o:HO):Same H (upd H p o):=λb u q=>by rw[aw (aH q h)];exact q
theorem aK{l:fc}(h:Same H H2)(hl:H l=lf)(o:HO):Same H (upd H2 l o):=λb u q=>by rw[aw (aH q hl)];exact h b u q
def iV(p:R):V:=.int (p:Y)
theorem iV_at{k x:R}(h:l[k]?=Z x):atI (l.Z iV) (k:Y)=Z (iV x):=aF (by rw[MO,h];rfl)
def rZ(H:Hp)(ys:E V)(es:En):Prop:=ys.L=es.L/\∀(i:R)(e:R×R),es[i]?=Z e->∃ p,ys[i]?=Z (.ref p)/\H p=Z (.tup [iV e.1,iV e.2])
theorem rZ.mono(h:rZ H ys es)(s:o5):rZ H' ys es:=#[h.1,λi e q=>by
 let p a b:=h.2 i e q
 erw[p,a,s _ _ b]]
def e8(K:MJ)(H:Hp)(xs:E V)(es:En):Prop:=xs.L=es.L/\∀(i:R)(e:R×R),es[i]?=Z e->∃ p C B s,xs[i]?=Z (.ref p)/\H p=Z (.ins C B (tf (e.1:Y) (e.2:Y) s))/\CT K C
theorem e8.mono(t:e8 K H xs es)(h:o5):e8 K H' xs es:=#[t.1,λi e q=>by
 let p C B s a b d:=t.2 i e q
 erw[p,C,B,s,a,h _ _ b,d]]
def cC(H:Hp)(xs:E V)(ts:oD):Prop:=xs.L=ts.L/\∀(i:R)(l:E R),ts[i]?=Z l->∃ p,xs[i]?=Z (.ref p)/\H p=Z (.lst (l.Z iV))
theorem cC.mono(h:cC H xs ts)(s:o5):cC H' xs ts:=#[h.1,λi e q=>by
 let p a b:=h.2 i e q
 erw[p,a,s _ _ b]]
def cC.snoc(h:cC H xs ts)(e:H q=Z (.lst (l.Z iV))):cC H (xs++[.ref q]) (ts++[l]):=by
 erw[by rw[MP,MP,h.1];rfl,λj k G=>?_]
 by_cases L:j<ts.L
 .rw[MT L]at G;let p r u:=h.2 j k G;erw[p,by rw[MT (by rw[h.1];exact L)];exact r,u]
 .rw[MR ∅]at G
  let b:j=ts.L:=by
   let:=(MF.mp G).1;rw[M9]at this;lia
  subst b;rw[Nz]at G
  cases G
  erw[q,by rw[← h.1,MR (MN _),Nz];rfl,e]
def bK(S:fc->Prop)(H:Hp)(xs:E V)(ts:oD):Prop:=xs.L=ts.L/\∀(i:R)(l:E R),ts[i]?=Z l->∃ p,xs[i]?=Z (.ref p)/\(¬ S p/\H p=Z (.lst (l.Z iV)))
theorem bK.mono{S:fc->Prop}(h:bK S H xs ts)(s:∀ b u,¬ S b->H b=Z u->H' b=Z u):bK S H' xs ts:=#[h.1,λi e q=>by
 let p a n b:=h.2 i e q
 erw[p,a,n,s _ _ n b]]
theorem bK.off{S:fc->Prop}(h:bK S H xs ts):cC H xs ts:=#[h.1,λi e q=>by
 let p a n b:=h.2 i e q
 erw[p,a,b]]
def bK.snoc{S:fc->Prop}(h:bK S H xs ts)(n:¬ S q)(e:H q=Z (.lst (l.Z iV))):bK S H (xs++[.ref q]) (ts++[l]):=by
 erw[by rw[MP,MP,h.1];rfl,λj k G=>?_]
 by_cases L:j<ts.L
 .rw[MT L]at G;let p r u:=h.2 j k G;erw[p,by rw[MT (by rw[h.1];exact L)];exact r,u]
 .rw[MR ∅]at G
  let b:j=ts.L:=by
   let:=(MF.mp G).1;rw[M9]at this;lia
  subst b;rw[Nz]at G
  cases G
  erw[q,by rw[← h.1,MR (MN _),Nz];rfl,n,e]
theorem vy{f:R->R}(w:du f N i rs):rs.flatten.L<=N:=eJ w.nd λx B=>by
 let r eK O:=OI.mp B;exact(w.ring r eK).lt x O
def Bv{f:R->R}(w:du f N i rs):rs.L<=N:=by
 let h:∀(l:oD),(∀ r∈l,0<r.L)->l.L<=l.flatten.L:=λl=>by
  induction l with
  |nil=>intro _;exact MN _
  |cons a l C=>
   intro h;rw[QO,MP,OJ];let eK:=h a (M7 ..);let O:=C λr u=>h r (M6 _ u);lia
 exact NH (h rs λr u=>(w.ring r u).ne) (vy w)
structure TT(K:MJ)(H:Hp)(a b:fc)(m:R)(es:En)(ts:oD):Prop where
 xs:∃ xs,pi a xs/\e8 K H xs es
 ys:∃ ys,pi b ys/\cC H ys ts
 w:dJ m es ts
 few:es.L<=62
def TT.mono{K:MJ}{H H':Hp}{a b:fc}{m:R}{es:En}{ts:oD}(t:TT K H a b m es ts)(s:o5):TT K H' a b m es ts:=by
 let{D eK O}{k G dO}w f:=t;erw[#[D,s.seq eK,O.mono s],#[k,s.seq G,dO.mono s],w,f]
def Ca(w:dJ m es ts)(f:es.L<=62){p:R}(h:ts[p]?=Z l):(∀ t∈l,t<62)/\l.L<=62:=by
 let a:∀ t∈l,t<es.L:=λt g=>by
  let e N _:=(w.mem p l h t).mp g;exact(MF.mp N).1
 erw[λt g=>by let:=a t g;lia,NH (eJ (w.nd p l h) a) f]
theorem perm(w:dJ m es ts):GU (fol es ts) (2*es.L):=#[λd h=>by
 let _ _ _ _ _ _ _ _ z _:=w.foll h
 exact z,λa b O M h=>w.inj O M h]
inductive JN(K:MJ)
 |mk (a:fc)(xs:E V)(es:En)(d:R) (_:vs=[.ref a,.int (d:Y)])(_:pi a xs)(_:e8 K H xs es)(_:d<2*es.L)(_:Q (iV (hd es d)) H)
inductive JL(K:MJ)
 |mk (a:fc)(xs:E V)(es:En)(t p:R)(e:R×R) (_:vs=[.ref a,.int (t:Y),.int (p:Y)])(_:pi a xs)(_:e8 K H xs es)(_:es[t]?=Z e)(_:Q (iV (if e.1=p then 2*t else 2*t+1)) H)
inductive spFol(K:MJ)
 |mk (a b:fc)(m:R)(es:En)(ts:oD)(d:R) (_:vs=[.ref a,.ref b,.int (d:Y)])(_:TT K H a b m es ts)(_:d<2*es.L)(_:Q (iV (fol es ts d)) H)
inductive JO(K:MJ)
 |mk (a b:fc)(m:R)(es:En)(ts:oD)(d:R) (_:vs=[.ref a,.ref b,.int (d:Y)])(_:TT K H a b m es ts)(_:d<2*es.L)(_:∀ q r H',o5->H q=lf->H' q=Z (.lst (r.Z iV))->Path (fol es ts) (2*es.L) d r->Ring (fol es ts) (2*es.L) r->Q (.ref q) H')
inductive Bf(K:MJ)
 |mk (a b:fc)(m:R)(es:En)(ts:oD) (_:vs=[.ref a,.ref b])(_:TT K H a b m es ts)(_:∀ q ys rs H',o5->H' q=Z (.lst ys)->cC H' ys rs->du (fol es ts) (2*es.L) (2*es.L) rs->Q (.ref q) H')
def iy(H:Hp)(ys:E V)(n:R)(rs:oD):Prop:=ys.L=n/\∀ i,i<n->∃ p a b r m,ys[i]?=Z (.ref p)/\(H p=Z (.tup [iV a,iV b])/\(rs[a]?=Z r/\(2*i∈r/\(rs[b]?=Z m/\2*i+1∈m))))
inductive DS(K:MJ)
 |mk (a b:fc)(xs ys:E V)(es:En)(f:R->R)(rs:oD) (_:vs=[.ref a,.ref b])(_:pi a xs)(_:e8 K H xs es)(_:es.L<=62)(_:pi b ys)(_:cC H ys rs)(_:du f (2*es.L) (2*es.L) rs)(_:∀ q zs H',o5->H' q=Z (.lst zs)->iy H' zs es.L rs->Q (.ref q) H')
def cj(ns:E Y)(k:R):Y:=ns.v k 0
inductive D6(K:MJ)
 |mk (a:fc)(k:R)(ns:E Y) (_:vs=[.ref a,.int (k:Y)])(_:pi a (ns.Z V.int))(_:Q (.int (cj ns k)) H)
structure Txt(mg:fI->j5 eN):Prop where
 n_len:mg "len"=lf
 n_int:mg "int"=lf
 n_bool:mg "bool"=lf
 n_list:mg "list"=lf
 n_tuple:mg "tuple"=lf
 n_range:mg "range"=lf
 n_enumerate:mg "enumerate"=lf
 n_isinstance:mg "isinstance"=lf
 n_min:mg "min"=lf
 n_sum:mg "sum"=lf
 n_sorted:mg "sorted"=lf
def Eh:az ["ties","dart","tie"] ["ties","dart"] (aq El):=by ac_nf
def LI(F:Fun K "head" "head" El f fd):li 1 f fd ["ties","dart"] (JN K):=by
 refine F.ok Eh λL A eK s H m Q dO u h=>?_
 let a D O d rfl b n e k:=h;let M:d/2<O.L:=by lia
 let N:O[d/2]?=Z O[d/2]:=MG M;let p C B c t r j:=n.2 _ _ N;let I:hd O d=if d%2=0 then O[d/2].2 else O[d/2].1:=by unfold hd;rw[N]
 let g:(d:Y)/2=((d/2:R):Y):=by lia
 intro J y;erw[_,(af (aA 2 Eh.nd (ba (pv 0) (ay qO (pv 1) ak)))
   (ao (aG (fk (aD cH (ay eI (pv 1) ak) ak (aJ _)) (aQ (pv 2) U) (aQ (pv 2) U))))),3]
 erw[42393,#[by decide,by decide],a,D,165,b,(by rw[g];exact aF t),3]
 erw[2649,(by show(0:Y)<2;decide),230]
 refine ite2 (λq=>?_) (λq=>?_)
 .let G:(d:Y)%2=0:=V.int.inj (S8 q)
  erw[9,p,C,B,37,r,j.cl,j.n2,jD _ _ _,3];rw[I,Ti ∅]at k
  exact k
 .let G:¬ (d:Y)%2=0:=λz=>q (Sx (congrArg V.int z))
  erw[9,p,C,B,37,r,j.cl,j.n1,iz _ _ _,3];rw[I,Tj ∅]at k
  exact k
def Cg:az ["ties","number","place"] ["ties","number","place"] (aq qG):=by ac_nf
def Cn(F:Fun K "leaving" "leaving" qG f fd):li 1 f fd ["ties","number","place"] (JL K):=by
 refine F.ok Cg λL A eK s H m Q dO u h=>?_
 let a D O t y e rfl b n N k:=h;let p C B c l r j:=n.2 _ _ N;let v:CMul 2 (t:Y):=.inl #[by decide,by decide]
 intro J G;erw[_,(ao (aG (fk (aD cH (aQ (ba (pv 0) (pv 1)) U) (pv 2) (aJ _)) (ay gG ak (pv 1)) (ay cg (ay gG ak (pv 1)) ak)))),3];erw[153,a,D,165,b,aF l,p,C,B,37,r,j.cl,j.n1,iz _ _ _,3689];refine ite2 (λq=>?_) (λq=>?_)
 .let i:(e.1:Y)=(y:Y):=V.int.inj (S8 q)
  erw[2649,v,3];rw[Ti ∅]at k
  exact k
 .let i:¬ (e.1:Y)=(y:Y):=λz=>q (Sx (congrArg V.int z))
  erw[2649,v,933];rw[Tj ∅]at k
  exact k
def iL:az ["ties","turns","dart","place","about","behind"] ["ties","turns","dart"] (aq oy):=by ac_nf
def zN{fl:fc}(F:Fun K "follower" "follower" oy f fd)(T:Txt mg)(ah:lw 1 "head" ["ties","dart"] (JN K) C G)(ab:lw 1 "leaving" ["ties","number","place"] (JL K) fl J):li 2 f fd ["ties","turns","dart"] (spFol K):=by
 refine F.ok iL λN A g s H o Q dO u h=>?_
 let a b m L i d rfl tt ac k:=h;let{D eK O}{v I r}w' few:=tt;let l e p1 j p3 p4 p5 p6 p7 p8 p9:=w'.foll ac;let al len:=Ca w' few p1;let q B M:=r.2 _ _ p1;let ed:(d:Y)/2=((d/2:R):Y):=by lia
 intro x y;erw[_,(af (aA 3 iL.nd (ah.c u (ae (pv 0) (ae (pv 2) ai))))
   (af (aA 4 iL.nd (ba (pv 1) (pv 3)))
   (af (aA 5 iL.nd (ay eI (ay cg (eF Na PySem.F.slot_list_index PySem.F.type_list_index Iy (pv 4) (ae (ay qO (pv 2) ak) ai)) ak) (aE aB (by rfl) T.n_len bE (ae (pv 4) ai))))
   (ao (aG (ab.c u (ae (pv 0) (ae (ba (pv 4) (pv 5)) (ae (pv 3) ai))))))))),3]
 erw[153,a,D,L,d,U,eK,O,ac,3];erw[153,b,v,165,I,aF B,3];let t:(l.Z iV).L=l.L:=MI _;let aa:0<l.L:=Om j;let am:(((l.idxOf (d/2):R):Y)+1)%((l.Z iV).L:Y)=(((l.idxOf (d/2)+1)%l.L:R):Y):=by rw[t];rfl
 erw[9,.inl #[6,SqL.of M],2649,#[by decide,by decide],q,l,d/2,U,congrArg (λz=>[V.int z]) ed,SqL.of M,λp n=>by let:=al p n;lia,4,j,2469,q,9,.inl (SqL.of M),165,(by show(0:Y)<((l.Z iV).L:Y);rw[t];lia),3]
 erw[2457,q,661,SqL.of M,(by rw[am];exact iV_at (uY j)),9,a,D,L,nxt l (d/2),hd L d,e,U,eK,O,p3,3]
 rw[p6]at k;exact k
def fe:az ["ties","turns","first","row","dart"] ["ties","turns","first"] (aq jI):=by ac_nf
def LJ(F:Fun K "round_from" "round_from" jI f fd)(ab:lw 2 "follower" ["ties","turns","dart"] (spFol K) p G):li 3 f fd ["ties","turns","first"] (JO K):=by
 refine F.ok fe λN A eK s H M Q dO u h=>?_
 let a b m O g d rfl tt ac k:=h;let B:=perm tt.w
 intro T Dc;erw[_,(af (aA 3 fe.nd (bX (ae (pv 2) ai)))
   (af (aA 4 fe.nd (ab.c u (ae (pv 0) (ae (pv 1) (ae (pv 2) ai)))))
   (af (gC PassesOwn.never (aD l7 (pv 4) (pv 2) (aJ _)) (af (aW (eF Na Nq Np aX (pv 3) (ae (pv 4) ai)))
   (ao (aA 4 fe.nd (ab.c u (ae (pv 0) (ae (pv 1) (ae (pv 4) ai))))))))
   (ao (aG (pv 3)))))),3]
 erw[9,(by show 1<=RO;decide),λq n=>?_]
 let C:=aj n (.lst [.int (d:Y)]);erw[2457,a,b,m,O,g,d,U,tt.mono C,ac,3];refine iH (λL o=>∃(r:E R)(x:R),L=[Z (.ref a),Z (.ref b),Z (.int (d:Y)),Z (.ref q),Z (iV (fol O g x))]/\Same H o/\o q=Z (.lst ((r++[x]).Z iV))/\Path (fol O g) (2*O.L) d (r++[x]))
  (λL o=>match o q with|some (.lst D)=>200-D.L|_=>0) #[[],d,U,C,ag,HM ac] ?_ ?_
 .rintro L o ⟨r,x,rfl,t,aa,pa⟩;erw[59033];let few:=tt.few;let I:=eJ pa.nd pa.lt;refine ite2 (λc=>?_) (λc=>?_)
  .let v:fol O g x≠d:=λz=>by
    rw[Sx (show iV (fol O g x)=V.int (d:Y) by rw[z];rfl)]at c
    cases c
   let al:=pa.snoc B v;let am:=eJ al.nd al.lt;let ah:fol O g x<2*O.L:=al.lt _ ∅
   erw[9,.inl #[6,SqL.of aa],9,q,165,aa,ax (by rw[MI];lia),3]
   let j:=aK t n (.lst ((r++[x]).Z iV++[iV (fol O g x)]));erw[2457,a,b,m,O,g,fol O g x,U,tt.mono j,ah,3];erw[#[r++[x],fol O g x,U,j,3,al],3]
   .rw[ag,show((r++[x]++[fol O g x]).Z iV)=(r++[x]).Z iV++[iV (fol O g x)] from by rw[M0];rfl]
   .show(match(upd o q (.lst ((r++[x]).Z iV++[iV (fol O g x)]))) q with|some (.lst D)=>200-D.L|_=>0)<(match o q with|some (.lst D)=>200-D.L|_=>0)
    rw[ag,aa];show 200-((r++[x]).Z iV++[iV (fol O g x)]).L<200-((r++[x]).Z iV).L;rw[MP,MI,M9];lia
  .let v:fol O g x=d:=by
    by_cases z:fol O g x=d
    .exact z
    .exact Tn (by rw[RN (λy=>z (by let:=V.int.inj y;lia))];rfl) c
   erw[57];exact k q _ o t n aa pa (pa.ring B v)
 .rintro L o Q1 Q2 J ⟨v',e,b',l,i,v,e3,q'⟩;erw[v',e,b',l,i,v,e3,J _ _ q']
def cN:az ["ties","turns","rounds","seen","dart","row","gone"] ["ties","turns"] (aq lL):=by ac_nf
def EO(F:Fun K "rounds_of" "rounds_of" lL f fd)(T:Txt mg)(ar:lw 3 "round_from" ["ties","turns","first"] (JO K) C G):li 4 f fd ["ties","turns"] (Bf K):=by
 refine F.ok cN λaa A I s H vs Q dO u h=>?_
 let a b m t ts rfl tt k:=h;let hu:=pG u;let pm:=perm tt.w;let few:=tt.few;let xs eK O:=tt.xs
 intros;erw[_,(af (aA 2 cN.nd (bX ai))
   (af (aA 3 cN.nd gE)
   (af (mx (aP U T.n_range (ae (ay gG ak (aE aB (by rfl) T.n_len bE (ae (pv 0) ai))) ai)) (bq 4 cN.nd) (ao (bJ (By (qN hu (pv 4) (pv 3))) (af (aA 5 cN.nd (ar.c u (ae (pv 0) (ae (pv 1) (ae (pv 4) ai)))))
   (af (aW (eF Na Nq Np aX (pv 2) (ae (pv 5) ai)))
   (ao (mx (aM (pv 5)) (bq 6 cN.nd) (ao (ig hu (pv 3) (pv 6) oA U)))))) aN)))
   (ao (aG (pv 2)))))),3]
 erw[(by show 0<=RO;decide),λqr am=>λqs al=>?_]
 let v:=(aj am (.lst [])).P (aj al (.dK []));let aS:H qs=lf:=by
  cases z:H qs with
  |none=>rfl
  |some o=>rw[aj am (.lst []) qs o z]at al;cases al
 let ab:qr≠qs:=λz=>by rw[← z,ag]at al;cases al
 let an:xs.L=t.L:=O.1;let hN:(2*(xs.L:Y)).R=2*t.L:=by lia
 erw[9,a,xs,U,.inl (v.seq eK),165,.inl #[by decide,by decide],329,cL (n:=(2*(xs.L:Y)).R) (λi L M=>∃ v4 v5 v6 ys rs D,L=[Z (.ref a),Z (.ref b),Z (.ref qr),Z (.ref qs),v4,v5,v6]/\Same H M/\M qr=Z (.lst ys)/\bK (λp=>p=qr∨p=qs) M ys rs/\M qs=Z (.dK D)/\D.L<=rs.flatten.L/\(∀ d:R,(valV D (Sum.inl (d:Y))).isSome=kt↔d∈rs.flatten)/\du (fol t ts) (2*t.L) i rs)
  #[21,[],[],[],U,v,by rw[aw ab,ag],#[U,λi l e=>by simp at e],ag,MN _,λd=>by simp[valV],Ci _ _] ?_ ?_]
 .rintro i L M J ⟨v4,v5,v6,ys,rs,D,rfl,s2,N,rx,e2,kl,km,ro⟩;rw[hN]at J;let e0:(0:Y)+(i:Y)=(i:Y):=N1 _;rw[e0];let fl:=vy ro;let rl:=Bv ro;erw[9625,DGet.k (k:=Sum.inl (i:Y)) e2,57];refine ite2 (λc=>?_) (λc=>?_)
  .let aL:i∉rs.flatten:=λz=>by
    rw[(km i).mpr z]at c
    cases c
   erw[2457,a,b,m,t,ts,i,U,tt.mono s2,J,λq r H3 s3 hq ah pa ri=>?_];let a1:=s2.P s3;let nq:¬ (q=qr∨q=qs):=by
    rintro(z|z)
    .rw[z,N]at hq;cases hq
    .rw[z,e2]at hq;cases hq
   erw[9,.inl #[6,SqL.of (s3 _ _ N)],9,qr,165,s3 _ _ N,ax (by rw[rx.1];lia),3]
   let s4:=aK a1 am (.lst (ys++[.ref q]));let aT:∀{H5:Hp},bK (λp=>p=qr∨p=qs) H5 (ys++[.ref q]) (rs++[r])->H5 q=Z (.lst (r.Z iV)):=λh=>by
    let p z1 _ z2:=h.2 rs.L r (by rw[MR (MN _),Nz];rfl)
    rw[← rx.1,MR (MN _),Nz]at z1
    cases z1
    exact z2
   let a0:bK (λp=>p=qr∨p=qs) (upd H3 qr (.lst (ys++[.ref q]))) (ys++[.ref q]) (rs++[r]):=by
    refine(rx.mono λp o n z=>?_).snoc nq ?_
    .rw[aw (λz=>n (.inl z))];exact s3 _ _ z
    .rw[aw (λz=>nq (.inl z))];exact ah
   let rl:r.L<=2*t.L:=eJ ri.nd ri.lt
   erw[9,q,U,#[_,SqL.of (aT a0)],br (xs:=r.Z iV) (λj L H5=>∃ v6 ac,L=[Z (.ref a),Z (.ref b),Z (.ref qr),Z (.ref qs),Z (.int (i:Y)),Z (.ref q),v6]/\Same H H5/\H5 qr=Z (.lst (ys++[.ref q]))/\bK (λp=>p=qr∨p=qs) H5 (ys++[.ref q]) (rs++[r])/\H5 qs=Z (.dK ac)/\ac.L<=rs.flatten.L+j/\∀ d:R,(valV ac (Sum.inl (d:Y))).isSome=kt↔d∈rs.flatten∨d∈r.x j)
    #[_,D,U,s4,ag,a0,by rw[aw ab.X];exact s3 _ _ e2,kl,λd=>by rw[km d];simp] (λj L H5 _ p=>?_) ?_ ?_]
   .let _ _ _ _ _ z _:=p;exact SqL.of (aT z)
   .rintro j x L H5 B ⟨v6,ac,rfl,s5,f1,ap,f2,aI,av⟩;rw[MO]at B;let g hg rfl:=MZ.mp B;let a2:j<r.L:=(MF.mp hg).1;erw[153,qs,9,DPut.k (k:=Sum.inl (g:Y)) f2 (ax ∅),3]
    erw[37,aK s5 aS _,by rw[aw ab];exact f1,ap.mono λp o n z=>by rw[aw (λz=>n (.inr z))];exact z,ag,by let:=gm ac (Sum.inl (g:Y)) (V.bl kt);lia,λd=>?_]
    rw[tY];let tk:r.x (j+1)=r.x j++[g]:=by rw[M5,hg];rfl
    rw[tk];by_cases z:d=g
    .subst z;simp
    .rw[Tj (λy=>z (by let:=Sum.inl.inj y;lia)),av d]
     simp[z]
   .rintro L H5 ⟨v6,ac,rfl,s5,f1,ap,f2,aI,av⟩;rw[MI]at aI av;erw[85,rs++[r],ac,U,s5,f1,ap,f2,by rw[Pz,MP];simpa using aI,λd=>?_,ro.put pm aL J ri pa]
    rw[av d,M8,Pz,Ng];simp
  .let a3:i∈rs.flatten:=(km i).mp (by
    cases z:(valV D (Sum.inl (i:Y))).isSome with
    |true=>rfl
    |false=>exact Tn (by rw[z];rfl) c)
   erw[21,ys,rs,D,U,s2,N,rx,e2,kl,km,ro.skip a3]
 .rintro L M ⟨v4,v5,v6,ys,rs,D,rfl,s2,N,rx,e2,kl,km,ro⟩;rw[hN]at ro;erw[9,k qr ys rs M s2 N rx.off ro]
def fG:az ["ties","rounds","number_at","number","row","dart"] ["ties","rounds"] (aq og):=by ac_nf
def HU(F:Fun K "sides_of" "sides_of" og f fd)(T:Txt mg):li 1 f fd ["ties","rounds"] (DS K):=by
 refine F.ok fG λaa A eK s H vs Q dO u h=>?_
 let a b xs m O g rs rfl hS hT few hB hR ro k:=h;let hu:=pG u;let fl:=vy ro
 intros;erw[_,(af (aA 2 fG.nd gE)
   (af (mx (lZ U T.n_enumerate (ae (pv 1) ai)) (iA U (aC (bq 3 fG.nd) (aC (bq 4 fG.nd) bx))) (ao (mx (aM (pv 4)) (bq 5 fG.nd) (ao (ig hu (pv 2) (pv 5) (pv 3) U)))))
   (ao (aG (cM [("number_at",2)] ["i"] (aP U T.n_range (ae (aE aB (by rfl) T.n_len bE (ae (pv 0) ai)) ai)) pg_c pt_c (λC ex s H=>(bN (ae (iW hu (pv 1) (ay gG ak (pv 0)) (λ_ _=>rfl)) (ae (iW hu (pv 1) (ay cg (ay gG ak (pv 0)) ak) (λ_ _=>rfl)) ai))))))))),3]
 intro q n;let v:=aj n (.dK []);let kF:∀ i,(rs.x i).flatten.L<=rs.flatten.L:=λi=>by
  let:=congrArg (λz=>z.flatten.L) (PQ i rs);simp only[Pz,MP]at this;lia
 erw[9,b,U,#[_,v.seq hB],vt (K:=K) (xs:=m) (λi L o=>∃ v3 v4 v5 G,L=[Z (.ref a),Z (.ref b),Z (.ref q),v3,v4,v5]/\Same H o/\o q=Z (.dK G)/\G.L<=(rs.x i).flatten.L/\∀(d c:R)(r:E R),c<i->rs[c]?=Z r->d∈r->valV G (Sum.inl (d:Y))=Z (iV c))
  #[21,[],U,v,ag,ND _,λd c r z=>Tn z (NM _)] (λi L o _ ab=>by let _ _ _ _ _ s2 _:=ab;exact s2.seq hB) ?_ ?_]
 .rintro i x L o T2 B ⟨v3,v4,v5,G,rfl,s2,N,kl,km⟩ al;let aS:i<rs.L:=by
   let:=(MF.mp B).1;rw[hR.1]at this;exact this
  let ac:rs[i]?=Z rs[i]:=MG aS;let p x1 x2:=hR.2 i _ ac;rw[B]at x1
  cases x1
  generalize rs[i]=r at ac x2;let s3:Same H (upd o T2 (.tup [.int (i:Y),.ref p])):=s2.P (aj al _);let f1:(rs.x (i+1)).flatten=(rs.x i).flatten++r:=by rw[M5,ac];simp
  let f2:=kF (i+1);rw[f1,MP]at f2;erw[T2,9,SqT.of ag,238998]
  erw[9,p,U,#[_,SqL.of (s3 _ _ x2)],br (xs:=r.Z iV) (λj L H5=>∃ v5 ah,L=[Z (.ref a),Z (.ref b),Z (.ref q),Z (.int (i:Y)),Z (.ref p),v5]/\Same H H5/\H5 q=Z (.dK ah)/\ah.L<=(rs.x i).flatten.L+j/\(∀(d c:R)(r:E R),c<i->rs[c]?=Z r->d∈r->valV ah (Sum.inl (d:Y))=Z (iV c))/\∀ d∈r.x j,valV ah (Sum.inl (d:Y))=Z (iV i))
   #[_,G,U,s3,aj al _ _ _ N,kl,km,λd hd=>by simp at hd] (λj L H5 _ ab=>by let _ _ _ z _:=ab;exact SqL.of (z _ _ x2)) ?_ ?_]
  .rintro j x L H5 ap ⟨v5,ah,rfl,s5,g1,av,ar,aL⟩;rw[MO]at ap;let g hg rfl:=MZ.mp ap;let aT:j<r.L:=(MF.mp hg).1;erw[2457,q,9,DPut.k (k:=Sum.inl (g:Y)) g1 (ax ∅),3]
   erw[37,aK s5 n _,ag,by let:=gm ah (Sum.inl (g:Y)) (V.int (i:Y));lia,λd c r' l aI hd=>?_,λd hd=>?_]
   .rw[tY,Tj (λz=>?_)]
    .exact ar d c r' l aI hd
    .let z':d=g:=by let:=Sum.inl.inj z;lia
     subst z';let:=qX ro.nd aI ac hd (MH hg);lia
   .rw[tY];by_cases z:d=g
    .subst z;rw[Ti U];rfl
    .rw[Tj (λy=>z (by let:=Sum.inl.inj y;lia))]
     refine aL d ?_;rw[M5,hg]at hd;simpa[z] using hd
  .rintro L H5 ⟨v5,ah,rfl,s5,g1,av,ar,aL⟩;rw[MI]at av aL;rw[M8]at aL;erw[21,ah,U,s5,g1,by rw[f1,MP];exact av,λd c r' l aI hd=>?_]
   by_cases z:c=i
   .subst z;rw[ac]at aI
    cases aI
    exact aL d hd
   .exact ar d c r' ∅ aI hd
 .rintro L o ⟨v3,v4,v5,G,rfl,s2,N,kl,km⟩;rw[hR.1]at km;let get:∀ d,d<2*O.L->∃ c r,rs[c]?=Z r/\d∈r/\valV G (Sum.inl (d:Y))=Z (iV c):=λd hd=>by
   let r z1 z2:=OI.mp (ro.all d hd);let c z3:=Ou.mp z1;erw[c,r,z3,z2,km d c r (MF.mp z3).1 z3 z2]
  let am:xs.L=O.L:=hT.1;erw[9,a,xs,U,.inl (s2.seq hS),329,cA (λi I H3=>Same o H3/\iy H3 I i rs) (by rw[MU,am];exact M4 (ax ∅)) #[λ_ _ e=>e,U,λi J=>Tn J (NM _)] ?_ ?_]
  .rintro i I H3 J ⟨s3,sd⟩;let e0:(0:Y)+(i:Y)=(i:Y):=N1 _;rw[e0];rw[MU,am]at J;let c1 r1 z1 z2 z3:=get (2*i) ∅
   let c2 r2 y1 y2 y3:=get (2*i+1) ∅
   let m2:CMul 2 (i:Y):=.inl #[by decide,by decide]
   let d1:DGet H3 q (V.int (2*(i:Y))) (Z (iV c1)):=by
    rw[← z3,show((2*i:R):Y)=2*(i:Y) by lia]
    exact DGet.k (k:=Sum.inl (2*(i:Y))) (s3 _ _ N)
   let d2:DGet H3 q (V.int (2*(i:Y)+1)) (Z (iV c2)):=by
    rw[← y3,show((2*i+1:R):Y)=2*(i:Y)+1 by lia]
    exact DGet.k (k:=Sum.inl (2*(i:Y)+1)) (s3 _ _ N)
   erw[42393,m2,q,9,d1,42393,m2,165,q,9,d2,(by show 2<=RO;decide),λt M=>?_]
   let s4:=aj M (.tup [iV c1,iV c2]);erw[s3.P s4,by rw[MP,sd.1];rfl,λj hj=>?_]
   by_cases z:j=i
   .subst z;erw[t,c1,c2,r1,r2,by rw[← sd.1,MR (MN _),Nz];rfl,ag,z1,z2,y1,y2]
   .let p a' b' r r' w1 w2 w3:=sd.2 j ∅
    erw[p,a',b',r,r',by rw[MT (by rw[sd.1];lia)];exact w1,s4 _ _ w2,w3]
  .rintro I H3 an ⟨s3,sd⟩ D hD;rw[MU,am]at sd
   exact k D I _ ((s2.P s3).P (aj hD _)) ag #[sd.1,λi J=>by
    let p a' b' r r' w1 w2 w3:=sd.2 i J
    erw[p,a',b',r,r',w1,aj hD _ _ _ w2,w3]]
def uw:az ["self","one","two","strength"] ["self","one","two","strength"] (aq cU):=by ac_nf
def LH(F:Fun K "__init__" "Tie.__init__" cU f fd):li 1 f fd ["self","one","two","strength"] (tq K):=by
 refine F.ok uw λL A eK s H m Q dO u h=>?_
 let p C B a b st rfl G T x O M r k:=h
 intro J y;erw[_,(af (bJ (aD cH (pv 1) (pv 2) (aJ _)) (ao cG) aN)
   (af (bJ (PW.pt (zw (aD uO (pv 1) ak (aJ _)) (qJ (aD uO (pv 2) ak (aJ _))))) (ao cG) aN)
   (af (bJ (aD uO (pv 3) ak (aJ _)) (ao cG) aN)
   (af (oP (pv 0) (pv 1) U)
   (af (oP (pv 0) (pv 2) U)
   (ao (oP (pv 0) (pv 3) U))))))),3]
 walk_at "rd";refine ite2 (λc=>Tn (V.int.inj (S8 c)) x) (λ_=>?_);walk_at "rd";refine ite2 (λc=>Tn (S8 c) ∅) (λ_=>?_)
 walk_at "rd";refine ite2 (λc=>Tn (S8 c) ∅) (λ_=>?_)
 walk_at "rd";refine ite2 (λc=>Tn (S8 c) ∅) (λ_=>?_)
 erw[153,p,C,B,[],U,G,T.cl,T.n1,(by show 0<1000;decide),3]
 erw[153,p,C,B,9,ag,T.cl,T.n2,f1_len a,3];erw[153,p,C,B,9,ag,T.cl,T.n3,f2_len a b,3];exact k _ ag λq o e n=>by rw[aw n,aw n,aw n];exact e
def zg:az ["script","k"] ["script","k"] (aq ou):=by ac_nf
def LL(F:Fun K "_law_cell" "_law_cell" ou f fd)(T:Txt mg):li 1 f fd ["script","k"] (D6 K):=by
 refine F.ok zg λL A eK s H m Q dO u h=>?_
 let a k J rfl b q:=h
 intro g y;erw[_,(af (bJ (aD uO (pv 1) (aE aB (by rfl) T.n_len bE (ae (pv 0) ai)) (aJ _)) (ao (aG (ba (pv 0) (pv 1)))) aN)
   (ao (aG ak))),3]
 erw[153,a,9,.inl b,14757];refine ite2 (λc=>?_) (λc=>?_)
 .let v:(k:Y)<((J.Z V.int).L:Y):=S8 c
  rw[MI]at v;let D:k<J.L:=by lia
  let l:atI (J.Z V.int) (k:Y)=Z (.int (cj J k)):=aF (by rw[MO,MG D];unfold cj;rw[MX,MG D];rfl)
  erw[153,a,661,b,l,q]
 .let v:¬ (k:Y)<((J.Z V.int).L:Y):=λz=>c (Sx z)
  rw[MI]at v;let e:cj J k=0:=by unfold cj;rw[MX,N3 ∅];rfl
  rw[e]at q;exact q
theorem at0{u:V}:atI [u,v] 0=Z u:=rfl
theorem at1{u:V}:atI [u,v] 1=Z v:=rfl
def zT(h:pi a (ps.Z iV)):RdD K H (.ref a) (.list ((ps.Z λ(p:R)=>((p:R):Y)).Z hH.int)):=by
 refine RdD.lst h ∅ λi x d f A=>?_
 rw[MO]at f;rw[MO,MO]at A
 cases z:ps[i]? with
 |none=>rw[z]at f;cases f
 |some n=>
  rw[z]at f A
  cases f
  cases A
  exact .int _
def Fy(l:E Y):(hH.list (l.Z hH.int)).canLay0=kt/\(hH.list (l.Z hH.int)).depth<=10:=by
 let eK:∀ d∈l.Z hH.int,d.canLay0=kt/\d.depth<=1:=λd hd=>by
  let x _ rfl:=Nc.mp hd;erw[by simp[hH.canLay0],by simp[SE]]
 let O:=ka λd hd=>(eK d hd).1;let G:=mH λd hd=>(eK d hd).2;erw[by simp only[hH.canLay0];exact O,by simp only[SE];lia]
theorem i6(l:E Y):SeqAt.shaped (.list (l.Z hH.int))=kt:=lH λd hd=>by
 let x _ rfl:=Nc.mp hd;erw[by simp[hH.canLay0],by simp[SE]]
def rZ.snoc{e:R×R}(t:rZ H xs es)(h:H p=Z (.tup [iV e.1,iV e.2])):rZ H (xs++[.ref p]) (es++[e]):=by
 erw[by rw[MP,MP,t.1];rfl,λj k G=>?_]
 by_cases L:j<es.L
 .rw[MT L]at G;let p r u:=t.2 j k G;erw[p,by rw[MT (by rw[t.1];exact L)];exact r,u]
 .rw[MR ∅]at G
  let b:j=es.L:=by
   let:=(MF.mp G).1;rw[M9]at this;lia
  subst b;rw[Nz]at G
  cases G
  erw[p,by rw[← t.1,MR (MN _),Nz];rfl,h]
def Md{k:R}:(ins l k n).L=l.L+1:=by
 unfold ins;rw[MP,OJ,NQ,PU];lia
theorem Kb(X:Y)(n:R):0<=X%((n:Y)+1)/\X%((n:Y)+1)<=(n:Y):=#[Rn _ ∅,by let:=QJ X (show(0:Y)<(n:Y)+1 by lia);lia]
def Dist(xs:E V):Prop:=∀(i j:R)(p:fc),xs[i]?=Z (.ref p)->xs[j]?=Z (.ref p)->i=j
def bK.set{S:fc->Prop}(h:bK S H xs ts)(D:Dist xs)(e:xs[i]?=Z (.ref p)):bK S (upd H p (.lst (l'.Z iV))) xs (ts.set i l'):=by
 erw[by rw[N5];exact h.1,λj l z=>?_]
 let J:i<ts.L:=by rw[← h.1];exact(MF.mp e).1
 rw[OS]at z;by_cases L:i=j
 .subst L;rw[Ti U,Ti J]at z
  cases z
  let B r u I:=h.2 i _ (MG J);rw[e]at r
  cases r
  erw[p,e,u,ag]
 .rw[Tj L]at z;let B r u I:=h.2 j l z;erw[B,r,u,by rw[aw (λy=>by rw[y]at r;exact L (D i j p e r))];exact I]
def insV{k:R}:(l.Z iV).x k++V.int (n:Y)::(l.Z iV).drop k=(ins l k n).Z iV:=by
 unfold ins;rw[M0,NF,List.map_take,List.map_drop];rfl
def Eo(h:pi a xs)(G:cC H xs ts):RdD K H (.ref a) (.list (ts.Z λl=>hH.list ((l.Z λ(p:R)=>((p:R):Y)).Z hH.int))):=by
 refine RdD.lst h (by rw[MI];exact G.1) λi x d f A=>?_
 rw[MO]at A;let l M rfl:=MZ.mp A;let p r u:=G.2 i l M;rw[f]at r
 cases r
 exact zT (SqL.of u)
theorem zt(ts:oD):SeqAt.shaped (.list (ts.Z λl=>hH.list ((l.Z λ(p:R)=>((p:R):Y)).Z hH.int)))=kt:=lH λd hd=>by
 let l _ rfl:=Nc.mp hd;exact Fy _
end K8
namespace K8
open PySem L2
def oW:RS "min"=Z (.builtin "min"):=by decide
def rF{S:fc->Prop}(h:bK S H xs ts)(D:Dist xs)(n:H q=lf):Dist (xs++[.ref q]):=by
 let a:∀(j:R)(p:fc),j<xs.L->(xs++[V.ref q])[j]?=Z (.ref p)->xs[j]?=Z (.ref p)/\p≠q:=λj p L e=>by
  rw[MT L]at e;let B r _ I:=h.2 j _ (MG (by rw[← h.1];exact L))
  rw[e]at r
  cases r
  erw[e,aH I n]
 let new:∀(j:R)(p:fc),¬ j<xs.L->(xs++[V.ref q])[j]?=Z (.ref p)->j=xs.L/\p=q:=λj p L e=>by
  let:=(MF.mp e).1;rw[MP,M9]at this;let b:j=xs.L:=by lia
  subst b;rw[MR (MN _),Nz]at e
  cases e
  erw[10]
 intro j k p f A;by_cases L:j<xs.L
 .let t w:=a j p L f;by_cases l:k<xs.L
  .exact D j k p t (a k p l A).1
  .exact Tn (new k p l A).2 w
 .let t w:=new j p L f;by_cases l:k<xs.L
  .exact Tn w (a k p l A).2
  .rw[t,(new k p l A).1]
abbrev Kn:=E (Y×Y)
def gX(H:Hp)(ws:E V)(ks:Kn):Prop:=ws.L=ks.L/\∀(i:R)(k:Y×Y),ks[i]?=Z k->(k.1=0∨k.1=1)/\0<=k.2/\∃ p,ws[i]?=Z (.ref p)/\H p=Z (.tup [.int k.1,.int k.2])
theorem gX.mono{ks:Kn}(h:gX H ws ks)(s:o5):gX H' ws ks:=#[h.1,λi k z=>by
 let a b p c d:=h.2 i k z
 erw[a,b,p,c,s _ _ d]]
def Gr.two(g:Gr m es ts)(h:0<es.L):2<=m:=by
 let a b c:=g.w.ends _ (MH (MG h));lia
def Kk(g:Gr m es ts):m<=es.L+2:=by
 let k _ c:=g.part;lia
open KF (andN orN shlN xorN)
theorem kG:∀{a b:E Y},a.Perm b->a.f (·<=·)->b.f (·<=·)->a=b
 |[],b,h,_,_=>(List.nil_perm.mp h).X▸rfl
 |x::a,[],h,_,_=>Tn h.length_eq ∅
 |x::a,y::b,h,A,c=>by
  let r u:=Qb.mp A;let b1 b2:=Qb.mp c;let eK:x<=y:=by
   rcases MY.mp (h.mem_iff.mpr (M7 ..):y∈x::a)with z|z
   .rw[z];exact N6 _
   .exact r y z
  let O:y<=x:=by
   rcases MY.mp (h.mem_iff.mp (M7 ..):x∈y::b)with z|z
   .rw[z];exact N6 _
   .exact b1 x z
  let e:x=y:=Rm eK O;subst e;rw[kG (List.Perm.cons_inv h) u b2]
def cI(l:E R):E Y:=l.Z λ(p:R)=>((p:R):Y)
def cI_V(l:E R):(cI l).Z V.int=l.Z iV:=by unfold cI;rw[NX];rfl
def Lc{r:E R}{out:E Y}(G:out.Perm (cI l))(T:out.f (·<=·))(nl:l.h)(d:r.f (· < ·))(y:∀ t,t∈l↔t∈r):out=cI r:=by
 let c:r.h:=d.imp λh=>Nh h;let q:(cI l).Perm (cI r):=((Oy nl c).mpr y).Z _;refine kG (G.P q) T ?_;unfold cI;exact List.Pairwise.map _ (λa b h=>by lia) d
def FA:ins l l.L n=l++[n]:=by
 unfold ins;simp
inductive DV(K:MJ)
 |mk (a:fc)(xs:E V)(m:R)(es:En) (_:vs=[.int (m:Y),.ref a])(_:pi a xs)(_:e8 K H xs es)(_:(∀ e∈es,e.1<m/\e.2<m))(_:Q .non H)
inductive Bg(K:MJ)
 |mk (a b:fc)(xs zs:E V)(m:R)(es:En)(ts:oD) (_:vs=[.int (m:Y),.ref a,.ref b])(_:pi a xs)(_:e8 K H xs es)(_:pi b zs)(_:cC H zs ts)(_:dJ m es ts)(_:es.L<=40)(_:m<=40)(_:∀ H',o5->Q .non H')
inductive DU(K:MJ)
 |mk (a:fc)(xs:E V)(m:R)(es:En)(ts:oD) (_:vs=[.int (m:Y),.ref a])(_:pi a xs)(_:e8 K H xs es)(_:Gr m es ts)(_:2<=m)(_:m<=40)(_:es.L<=40)(_:∀ H',o5->Q .non H')
def lB:az ["many","ties","tie"] ["many","ties"] (aq iN):=by ac_nf
def HW(F:Fun K "refuse_ends" "refuse_ends" iN f fd):li 1 f fd ["many","ties"] (DV K):=by
 refine F.ok lB λI A eK s H o Q dO u h=>?_
 let a xs m O rfl b n y k:=h;intro g G;erw[_,(ao (mx (aM (pv 1)) (bq 2 lB.nd) (ao (bJ (PW.pt (zw (aD op_ge (aQ (pv 2) U) (pv 0) (aJ _)) (qJ (aD op_ge (aQ (pv 2) U) (pv 0) (aJ _))))) (ao cG) aN)))),3];erw[9,a,U,#[_,b],br (K:=K) (xs:=xs) (λi L d=>∃ M,L=[Z (.int (m:Y)),Z (.ref a),M]/\d=H) #[41] (λi L d _ ⟨_,_,z⟩=>z▸b) ?_ ?_]
 .rintro i x L d B ⟨M,rfl,rfl⟩;let J:i<O.L:=by rw[← n.1];exact(MF.mp B).1
  let e N:∃ e,O[i]?=Z e:=#[_,MG J];let p C j st t r q:=n.2 i e N;rw[B]at t
  cases t
  let T l:=y e (MH N);erw[9,p,C,j,37,r,q.cl,q.n1,iz _ _ _,236121];refine ite2 (λc=>Tn (S8 c) ∅) (λ_=>?_)
  erw[9,p,C,j,37,r,q.cl,q.n2,jD _ _ _,236121];refine ite2 (λc=>Tn (S8 c) ∅) (λ_=>?_)
  erw[41]
 .rintro L d ⟨M,rfl,rfl⟩;exact k
def cZ:az ["many","ties","turns","ending","number","tie"] ["many","ties","turns"] (aq hO):=by ac_nf
def EN(F:Fun K "refuse_turns" "refuse_turns" hO f fd)(T:Txt mg):li 1 f fd ["many","ties","turns"] (Bg K):=by
 refine F.ok cZ λaa A eK s H vs Q dO g h=>?_
 let a b xs I m O ts rfl hS hT hB hR w' few ac kk:=h;let am:=g.units
 intros;erw[_,(af (lY 3 [] ["place"] cZ.nd (aP U T.n_range (ae (pv 0) ai)) pg_c pt_c (λC ex s H=>(bX ai)))
   (af (mx (lZ U T.n_enumerate (ae (pv 1) ai)) (iA U (aC (bq 4 cZ.nd) (aC (bq 5 cZ.nd) bx))) (af (aW (eF Na Nq Np aX (ba (pv 3) (aQ (pv 5) U)) (ae (pv 4) ai)))
   (ao (aW (eF Na Nq Np aX (ba (pv 3) (aQ (pv 5) U)) (ae (pv 4) ai))))))
   (ao (bJ (aD (op_neD am) (cM [] ["about"] (aM (pv 2)) pg_c pt_c (λC ex s H=>(aE (yB (K:=K) U) (by rfl) T.n_sorted iE (ae (pv 0) ai)))) (pv 3) (aJ _)) (ao cG) aN)))),3]
 erw[5273,cA (n:=(m:Y).R) (λi v d=>Same H d/\bK (λp=>H p≠lf) d v (MV i [])/\Dist v) (by rw[MU];exact M4 (ax ∅)) #[λ_ _ e=>e,#[U,λi l e=>by simp at e],λi j p e=>by contradiction] ?_ ?_]
 .rintro i v d J ⟨s2,rx,D⟩;erw[∅,λl M=>?_]
  let s3:=aj M (.lst []);erw[s2.P s3,3,rF rx D M];rw[Of];refine(rx.mono λb u _ z=>s3 _ _ z).snoc (λz=>z ?_) ag
  cases y:H l with
  |none=>rfl
  |some o=>rw[s2 _ _ y]at M;cases M
 rintro v d a9 ⟨s2,rx,D⟩ pn ap;rw[MU]at rx;let s3:=aj ap (.lst v);let be:H pn=lf:=by
  cases y:H pn with
  |none=>rfl
  |some o=>rw[s2 _ _ y]at ap;lia
 let bg:bK (λp=>p=pn∨H p≠lf) (upd d pn (.lst v)) v (MV m []):=#[rx.1,λi l z=>by
  let p a1 a2 a3:=rx.2 i l z;let n2:p≠pn:=aH a3 ap
  erw[p,a1,by rintro(y|y);exact n2 y;exact a2 y,s3 _ _ a3]]
 erw[9,a,U,#[_,(s2.P s3).seq hS],vt (K:=K) (xs:=xs) (λi L H5=>∃ v4 v5 rows,L=[Z (.int (m:Y)),Z (.ref a),Z (.ref b),Z (.ref pn),v4,v5]/\Same H H5/\H5 pn=Z (.lst v)/\bK (λp=>p=pn∨H p≠lf) H5 v rows/\dJ m (O.x i) rows/\∀ r∈rows,r.f (· < ·))
  #[149,s2.P s3,ag,bg,Hf m,λr g=>by simp!] (λi L H5 _ ab=>by let _ _ _ _ z _:=ab;exact z.seq hS) ?_ ?_]
 .rintro i x L H5 T2 B ⟨v4,v5,rows,rfl,s5,aL,aS,w5,pw⟩ an;let J:i<O.L:=by rw[← hT.1];exact(MF.mp B).1
  let e N:∃ e,O[i]?=Z e:=#[_,MG J];let p C dx st x1 x2 x3:=hT.2 i e N;rw[B]at x1
  cases x1
  let sT:=aj an (.tup [.int (i:Y),.ref p]);let s6:=s5.P sT;let x6:=s6 _ _ x2;let c e2 e3:=w'.ends e (MH N);let bd:(O.x i).L=i:=by grind
  let bf:=w5.len;let l M:∃ l,rows[e.1]?=Z l:=#[_,MG ∅]
  let l' ar:∃ l,rows[e.2]?=Z l:=#[_,MG ∅]
  let bb:bK (λp=>p=pn∨H p≠lf) (upd H5 T2 (.tup [.int (i:Y),.ref p])) v rows:=aS.mono λb u _ z=>sT _ _ z;let p1 y1 y2 y3:=bb.2 _ _ M;let p2 z1 z2 z3:=bb.2 _ _ ar;let a5:∀{p:fc},¬ (p=pn∨H p≠lf)->H p=lf/\p≠pn:=λ{p} n=>by
   simp!
  let aT bi:=a5 y2;let av bm:=a5 z2;let bv:p2≠p1:=λy=>by rw[y]at z1;exact e3 (D _ _ p1 y1 z1)
  let ll:∀{q:R}{r:E R},rows[q]?=Z r->∀ t∈r,t<i:=λ{q r} h t ht=>by
   let:=Kc w5 h ht;lia
  let bn:∀{q:R}{r:E R},rows[q]?=Z r->r.L<=40:=λ{q r} h=>by
   let:=eJ (w5.nd _ _ h) (ll h);lia
  let f1:=bn M;let f2:=bn ar;let a6:=sT _ _ aL;erw[T2,9,SqT.of ag,238998];erw[153,p,C,dx,37,x6,x3.cl,x3.n1,iz _ _ _,pn,v,165,SqL.of a6,aF y1,.inl #[6,SqL.of y3],9,p1,165,y3,ax (by rw[MI];lia),3]
  let aI:(l.Z iV)++[V.int (i:Y)]=(l++[i]).Z iV:=by rw[M0];rfl
  rw[aI];let x7:(upd (upd H5 T2 (.tup [.int (i:Y),.ref p])) p1 (.lst ((l++[i]).Z iV))) p=Z (.ins C dx (tf (e.1:Y) (e.2:Y) st)):=by rw[aw (λz=>by rw[z]at x2;rw[x2]at aT;contradiction)];exact x6
  let a7:(upd (upd H5 T2 (.tup [.int (i:Y),.ref p])) p1 (.lst ((l++[i]).Z iV))) pn=Z (.lst v):=by rw[aw bi.X];exact a6
  let z7:(upd (upd H5 T2 (.tup [.int (i:Y),.ref p])) p1 (.lst ((l++[i]).Z iV))) p2=Z (.lst (l'.Z iV)):=by rw[aw bv];exact z3
  erw[153,p,C,dx,37,x7,x3.cl,x3.n2,jD _ _ _,pn,v,165,SqL.of a7,aF z1,.inl #[6,SqL.of z7],9,p2,165,z7,ax (by grind),3]
  let a0:(l'.Z iV)++[V.int (i:Y)]=(l'++[i]).Z iV:=by rw[M0];rfl
  rw[a0];erw[5,(rows.set e.1 (l++[i])).set e.2 (l'++[i]),U,aK (aK s6 aT _) av _,by rw[aw bm.X];exact a7,(bb.set D y1).set D z1,3,λr g=>?_]
  .let q:=w5.put (k:=l.L) (j:=l'.L) c e2 e3 M ar
   rw[FA,FA,bd]at q;rw[M5,N];exact q
  .let app:∀{q:R}{r:E R},rows[q]?=Z r->(r++[i]).f (· < ·):=λ{q r} h=>List.pairwise_append.mpr #[pw r (MH h),List.pairwise_singleton _ _,λx B y hy=>by
    let:=ll h x B
    simp!]
   obtain z|z:=Pr g
   .obtain z|z:=Pr z
    .exact pw r z
    .rw[z];exact app M
   .rw[z];exact app ar
 rintro L H5 ⟨v4,v5,rows,rfl,s5,aL,aS,w5,pw⟩;rw[hT.1,M8]at w5;let a4:I.L=m:=by rw[hR.1,w'.len]
 erw[9,b,U,#[_,s5.seq hB],cX (K:=K) (xs:=I) (λi vs H6=>Same H5 H6/\cC H6 vs (rows.x i)) (M4 (ax ∅)) #[λ_ _ e=>e,U,λi l e=>by simp at e] (λi vs H6 _ z=>(s5.P z.1).seq hB) ?_ ?_]
 .rintro i x vs H6 B ⟨s6,rz⟩;let J:i<ts.L:=by rw[← hR.1];exact(MF.mp B).1
  let l M:∃ l,ts[i]?=Z l:=#[_,MG J];let r ah:∃ r,rows[i]?=Z r:=#[_,MG (by rw[w5.len,← w'.len];exact J)]
  let p a1 a2:=(hR.mono (s5.P s6)).2 i l M;rw[B]at a1
  cases a1
  let bG:l.L<=40:=NH (eJ (w'.nd _ _ M) λt ht=>Kc w' M ht) few;erw[9,p,cI l,U,(by rw[cI_V];exact SqL.of a2),(by unfold cI;grind),λq al hq G hs=>?_]
  let eo:=Lc G hs (w'.nd _ _ M) (pw r (MH ah)) λt=>(w'.mem i l M t).P (w5.mem i r ah t).X;subst eo;let s7:=aj hq (.lst ((cI r).Z V.int));erw[s6.P s7,3];rw[show rows.x (i+1)=rows.x i++[r] by rw[M5,ah];rfl]
  exact(rz.mono s7).snoc (by rw[ag,cI_V])
 rintro vs H6 _ ⟨s6,rz⟩ D' bB;rw[a4,← w5.len,M8]at rz;let s7:=aj bB (.lst vs);let a8:=s6.P s7;erw[25,Eo (SqL.of ag) (rz.mono s7),Eo (SqL.of (a8 _ _ aL)) (aS.off.mono a8),zt rows,9,iteF ?_];exact kk _ (s5.P a8)
def pj:az ["many","ties"] ["many","ties"] (aq fQ):=by ac_nf
def HV{fr:fc}(F:Fun K "refuse_parted" "refuse_parted" fQ f fd)(ac:lw 1 "reached" ["start","pairs"] KF.spReach fr G):li 2 f fd ["many","ties"] (DU K):=by
 refine F.ok pj λL A eK s H o Q dO u h=>?_
 let a xs m O ts rfl hS n g m2 aa few y:=h;let am:xs.L=O.L:=n.1;intros;erw[_,(ao (bJ (aD l7 (ac.c u (ae ak (ae (cM [] ["tie"] (aM (pv 1)) pg_c pt_c (λC k s H=>(bN (ae (qL (K:=K) U (pv 0) U) (ae (qL (K:=K) U (pv 0) U) ai))))) ai))) (ay gF (ay bA ak (pv 0)) ak) (aJ _)) (ao cG) aN)),3];erw[9,a,U,#[_,hS],cX (K:=K) (xs:=xs) (λi I ah=>Same H ah/\rZ ah I (O.x i)) (M4 (ax ∅)) #[λ_ _ e=>e,U,λi l e=>by simp at e] (λi I ah _ z=>z.1.seq hS) ?_ ?_]
 .rintro i x I ah B ⟨al,ez⟩;let J:i<O.L:=by rw[← n.1];exact(MF.mp B).1
  let e N:∃ e,O[i]?=Z e:=#[_,MG J];let p C j st v q a3:=(n.mono al).2 i e N;rw[B]at v
  cases v
  erw[9,p,C,j,37,q,a3.cl,a3.n1,iz _ _ _,9,p,C,j,37,q,a3.cl,a3.n2,jD _ _ _,(by show 2<=RO;decide),λg d=>?_]
  let ab:=aj d (.tup [iV e.1,iV e.2]);erw[al.P ab,3];rw[show O.x (i+1)=O.x i++[e] by rw[M5,N];rfl]
  exact(ez.mono ab).snoc ag
 rintro I ah _ ⟨al,ez⟩ D hD;rw[n.1,M8]at ez;let ab:=aj hD (.lst I);let T:=ez.mono ab;let mem:∀ l∈O.Z (λe=>((e.1,e.2,0):KF.Lk)),l.1<m/\l.2.1<m:=λl t=>by
  let e N rfl:=Nc.mp t;let b1 b2 _:=g.w.ends e N;erw[b1,b2]
 let cn:KF.Conn m (O.Z λe=>((e.1,e.2,0):KF.Lk)):=λb M=>g.conn (λp=>∃ x,KF.Wk (O.Z λe=>(e.1,e.2,0)) 0 p x) (λe N=>by
  let i J:=Nx N;let lk:=KF.Wk.link (show(O.Z λe=>((e.1,e.2,0):KF.Lk))[i]?=Z (e.1,e.2,0) by simp[*]) (a:=e.1) (.inl U)
  rw[show KF.bey (e.1,e.2,0) e.1=e.2 from Ti U]at lk
  erw[λ⟨x,h⟩=>#[_,h.P lk],λ⟨x,h⟩=>#[_,h.P lk.rev]]) 0 b ∅ M #[00,.nil 0]
 erw[D,I,m,O.Z λe=>(e.1,e.2,0),U,ag,#[by simp[*],λi l t=>?_],#[aa,by grind,mem,λl t=>?_],4,λr u=>?_]
 .rw[MO]at t;let e N rfl:=MZ.mp t;let p x1 x2:=T.2 i e N;erw[_,x1,p,U,x2]
 .let e N rfl:=Nc.mp t;erw[N6 _,Pg _]
 rw[KF.run_full u mem ∅ cn]
 erw[2649,#[20,by decide],59045]
 refine xM ?_ (y _ (al.P ab));show V.int _=V.int _;rw[shlN];grind
def cls(j PS:fc)(d:ke):fc:=if d=kt then PS else j
def oM(j PS:fc)(H:Hp)(xs:E V)(es:En)(ks:Kn):Prop:=xs.L=es.L/\∀(i:R)(e:R×R)(k:Y×Y),es[i]?=Z e->ks[i]?=Z k->∃ p B,xs[i]?=Z (.ref p)/\H p=Z (.ins (cls j PS (decide (k.1=1))) B (tf (e.1:Y) (e.2:Y) k.2))
theorem oM.mono{PS:fc}{ks:Kn}(t:oM f PS H xs es ks)(h:o5):oM f PS H' xs es ks:=#[t.1,λi e k q r=>by
 let p B a b:=t.2 i e k q r
 erw[p,B,a,h _ _ b]]
structure CW(K:MJ)(C:fc):Prop where
 cl:Cls K C
 n1:gZ K C "many"
 n2:gZ K C "ties"
 n3:gZ K C "turns"
 n4:gZ K C "rounds"
 n5:gZ K C "sides"
def none_of{b:fc}(s:o5)(z:H' b=lf):H b=lf:=by
 cases y:H b with
 |none=>rfl
 |some o=>rw[s _ _ y]at z;cases z
structure WebG(S:fc->Prop)(H:Hp)(fs:E (fI×V))(m:R)(es:En)(ts rs:oD):Prop where
 many:fs.Y ("many" : fI)=Z (.int (m:Y))
 turns:∃ q z,fs.Y ("turns" : fI)=Z (.ref q)/\¬ S q/\H q=Z (.lst z)/\bK S H z ts
 rounds:∃ q z,fs.Y ("rounds" : fI)=Z (.ref q)/\H q=Z (.lst z)/\cC H z rs
 sides:∃ q z,fs.Y ("sides" : fI)=Z (.ref q)/\H q=Z (.lst z)/\iy H z es.L rs
 part:du (fol es ts) (2*es.L) (2*es.L) rs
theorem iy.mono{z:E V}(h:iy H z n rs)(s:o5):iy H' z n rs:=#[h.1,λi J=>by
 let t a b r m u M o:=h.2 i J
 erw[t,a,b,r,m,u,s _ _ M,o]]
def WebG.mono{S b:fc->Prop}{H H':Hp}{fs:E (fI×V)}{m:R}{es:En}{ts rs:oD}(h:WebG S H fs m es ts rs)(s:o5)(i:∀ a,b a->S a):WebG b H' fs m es ts rs:=by
 let a{q z b1 f b2 b3}{G eK c1 c2 c3}{n D T J O}e:=h;erw[a,#[q,z,b1,λy=>f (i _ y),s _ _ b2,b3.1,λj l y=>?_],#[G,eK,c1,s _ _ c2,c3.mono s],#[n,D,T,s _ _ J,O.mono s],e];let r u M o:=b3.2 j l y;erw[r,u,λx=>M (i _ x),s _ _ o]
inductive ub(K:MJ)
 |mk (p C dx qt qh:fc)(m:R)(xs zs:E V)(es:En)(ts:oD) (_:vs=[.ref p,.int (m:Y),.ref qt,.ref qh])(_:H p=Z (.ins C dx []))(_:CW K C)(_:H qt=Z (.lst xs))(_:e8 K H xs es)(_:H qh=Z (.lst zs))(_:cC H zs ts)(_:Gr m es ts)(_:0<es.L)(_:es.L<=40)(_:m<=40)(_:∀(fs:E (fI×V))(q1:fc)(rs:oD)(H':Hp),H' p=Z (.ins C dx fs)->WebG (λa=>H a≠lf) H' fs m es ts rs->H q1=lf->fs.Y ("ties" : fI)=Z (.ref q1)->H' q1=Z (.lst xs)->(∀ q o,H q=Z o->q≠p->H' q=Z o)->Q .non H')
theorem e8.keep{G:Hp}(t:e8 K H xs es)(m:H p=Z (.ins C f []))(k:∀ q u,q≠p->H q=Z u->G q=Z u):e8 K G xs es:=#[t.1,λi e z=>by
 let q c v s a b d:=t.2 i e z;erw[q,c,v,s,a,k _ _ (λz=>?_) b,d];rw[z,m]at b;let N:([]:E (fI×V))=tf (e.1:Y) (e.2:Y) s:=by
  injection b with b;injection b
 contradiction]
def mV:az ["self","many","ties","turns","rounds"] ["self","many","ties","turns"] (aq cP):=by ac_nf
def HQ{f2 f3 f4 f5:fc}{d2 d3 d4 d5:ge}(F:Fun K "__init__" "Web.__init__" cP f fd)(T:Txt mg)(av:lw 1 "refuse_ends" ["many","ties"] (DV K) I J)(ar:lw 1 "refuse_turns" ["many","ties","turns"] (Bg K) f2 d2)(ap:lw 2 "refuse_parted" ["many","ties"] (DU K) f3 d3)(aL:lw 4 "rounds_of" ["ties","turns"] (Bf K) f4 d4)(aT:lw 1 "sides_of" ["ties","rounds"] (DS K) f5 d5):
  li 5 f fd ["self","many","ties","turns"] (ub K):=by
 refine F.ok mV λaa A eK s H vs Q dO j h=>?_
 let p C dx qt qh m xs L es ts rfl k cw aS hT a7 hR g e0 few ab kk:=h;let w':=g.w;let m2:=g.two e0;let mf:=Kk g;let bv:xs.L=es.L:=hT.1;let aI:L.L=m:=by rw[hR.1,w'.len]
 let pl:∀{q:fc}{ys:E V},H q=Z (.lst ys)->q≠p:=λ{q ys} h z=>by simp!
 intros;erw[_,(af (aW (av.c j (ae (pv 1) (ae (pv 2) ai))))
   (af (aW (ar.c j (ae (pv 1) (ae (pv 2) (ae (pv 3) ai)))))
   (af (aW (ap.c j (ae (pv 1) (ae (pv 2) ai))))
   (af (aA 4 mV.nd (aL.c j (ae (pv 2) (ae (pv 3) ai))))
   (af (bJ (aD l7 (ay cg (ay gF (pv 1) (aE aB (by rfl) T.n_len bE (ae (pv 2) ai))) (aE aB (by rfl) T.n_len bE (ae (pv 4) ai))) ak (aJ _)) (ao cG) aN)
   (af (oP (pv 0) (pv 1) U)
   (af (oP (pv 0) (eE kc (by rfl) T.n_list jv (ae (pv 2) ai)) U)
   (af (oP (pv 0) (cM [] ["about"] (aM (pv 3)) pg_c pt_c (λC ex s H=>(eE (Dj (K:=K) U) (by rfl) T.n_list jv (ae (pv 0) ai)))) U)
   (af (oP (pv 0) (pv 4) U)
   (ao (oP (pv 0) (aT.c j (ae (pv 2) (ae (pv 4) ai))) U))))))))))),3]
 erw[153,qt,xs,m,es,U,SqL.of aS,hT,λe v=>#[(w'.ends e v).1,(w'.ends e v).2.1],3];erw[2457,qt,qh,xs,L,m,es,ts,U,SqL.of aS,hT,SqL.of a7,hR,w',few,4,λO M=>?_]
 erw[153,qt,xs,m,es,ts,U,SqL.of (M _ _ aS),hT.mono M,g,m2,4,few,λd s2=>?_]
 let ah:=M.P s2;erw[153,qt,qh,m,es,ts,U,#[#[xs,SqL.of (ah _ _ aS),hT.mono ah],#[L,SqL.of (ah _ _ a7),hR.mono ah],w',4],λqr vs rs H3 s3 an a4 ro=>?_]
 let al:=ah.P s3;let cnt:m+rs.L=es.L+2:=by
  let bB p' c:=g.part;rw[← p'.same ro.part];exact c
 let bn:vs.L=rs.L:=a4.1;erw[153,qt,xs,U,.inl (SqL.of (al _ _ aS)),2469,qr,vs,U,.inl (SqL.of an),59045];refine xM (congrArg V.int ∅) ?_
 let a5:=al _ _ k;erw[153,p,C,dx,[],U,a5,cw.cl,cw.n1,∅,3]
 let keep:∀{G:Hp}{o:HO}{q:fc}{u:HO},q≠p->G q=Z u->(upd G p o) q=Z u:=λn z=>by rw[aw n];exact z
 erw[9,qt,xs,U,.inl (SqL.of (keep (pl aS) (al _ _ aS))),λq1 ac=>?_];let a6:q1≠p:=λz=>by rw[z,ag]at ac;contradiction
 let t4:=aj ac (.lst xs);erw[9,p,C,dx,9,t4 _ _ ag,cw.cl,cw.n2,15]
 .let:=qQ "many" (.int (m:Y)) ([]:E (fI×V));grind
 let t1:∀ q u,q≠p->H3 q=Z u->(upd (upd (upd H3 p (.ins C dx (putF "many" (.int (m:Y)) []))) q1 (.lst xs)) p (.ins C dx (putF "ties" (.ref q1) (putF "many" (.int (m:Y)) [])))) q=Z u:=λq u n z=>keep n (t4 _ _ (keep n z));let bd:(upd (upd (upd H3 p (.ins C dx (putF "many" (.int (m:Y)) []))) q1 (.lst xs)) p (.ins C dx (putF "ties" (.ref q1) (putF "many" (.int (m:Y)) [])))) q1=Z (.lst xs):=keep a6 ag;let pa:(upd (upd (upd H3 p (.ins C dx (putF "many" (.int (m:Y)) []))) q1 (.lst xs)) p (.ins C dx (putF "ties" (.ref q1) (putF "many" (.int (m:Y)) [])))) p=Z (.ins C dx (putF "ties" (.ref q1) (putF "many" (.int (m:Y)) []))):=ag;generalize upd (upd (upd H3 p (.ins C dx (putF "many" (.int (m:Y)) []))) q1 (.lst xs)) p (.ins C dx (putF "ties" (.ref q1) (putF "many" (.int (m:Y)) [])))=H4 at t1 bd pa;let lk:(putF "ties" (.ref q1) (putF "many" (.int (m:Y)) []):E (fI×V)).Y ("ties" : fI)=Z (.ref q1):=by rfl
 let ln:(putF "ties" (.ref q1) (putF "many" (.int (m:Y)) []):E (fI×V)).L<=2:=by
  let a1:=qQ "many" (.int (m:Y)) ([]:E (fI×V));let a2:=qQ "ties" (.ref q1) (putF "many" (.int (m:Y)) ([]:E (fI×V)));simp only[OU]at a1;lia
 let be:(putF "ties" (.ref q1) (putF "many" (.int (m:Y)) []):E (fI×V)).Y ("many" : fI)=Z (.int (m:Y)):=by rfl
 generalize (putF "ties" (.ref q1) (putF "many" (.int (m:Y)) []):E (fI×V))=fs at pa lk ln be;let a8:=t1 _ _ (pl a7) (al _ _ a7);let a9:∀{b:fc},H4 b=lf->H b=lf:=λ{b} z=>by
  cases y:H b with
  |none=>rfl
  |some o=>
   by_cases n:b=p
   .simp!
   .rw[t1 _ _ n (al _ _ y)]at z;cases z
 let bf:H q1=lf:=by
  cases y:H q1 with
  |none=>rfl
  |some o=>rw[keep a6 (al _ _ y)]at ac;lia
 erw[9,qh,U,#[_,SqL.of a8],cX (K:=K) (xs:=L) (λi ys H5=>Same H4 H5/\bK (λa=>H a≠lf) H5 ys (ts.x i)) (M4 (ax ∅)) #[λ_ _ e=>e,U,λi l e=>by simp at e] (λi _ H5 _ z=>SqL.of (z.1 _ _ a8)) ?_ ?_]
 .rintro i x ys H5 B ⟨s5,rz⟩;let N:i<ts.L:=by rw[← hR.1];exact(MF.mp B).1
  let l hl:∃ l,ts[i]?=Z l:=#[_,MG N];let r a1 a2:=hR.2 i l hl;rw[B]at a1
  cases a1
  erw[9,r,9,.inl (SqL.of (s5 _ _ (t1 _ _ (pl a2) (al _ _ a2)))),λg hg=>#[s5.P (aj hg _),3]];rw[show ts.x (i+1)=ts.x i++[l] by rw[M5,hl];rfl]
  exact(rz.mono λb u _ z=>aj hg _ _ _ z).snoc (λz=>z (a9 (none_of s5 hg))) ag
 rintro ys H5 _ ⟨s5,rz⟩ D hD;rw[hR.1,M8]at rz;let bb:D≠p:=λz=>by rw[z,s5 _ _ pa]at hD;cases hD
 let s6:=s5.P (aj hD (.lst ys));erw[9,p,C,dx,fs,U,s6 _ _ pa,cw.cl,cw.n3,16]
 let bY:=qQ "turns" (.ref D) fs;let bG:(putF "turns" (.ref D) fs).Y ("ties" : fI)=Z (.ref q1):=by rw[aU,Tj ∅];exact lk
 erw[153,p,C,dx,9,ag,cw.cl,cw.n4,16]
 let bH:=qQ "rounds" (.ref qr) (putF "turns" (.ref D) fs);let bQ:(putF "rounds" (.ref qr) (putF "turns" (.ref D) fs)).Y ("ties" : fI)=Z (.ref q1):=by rw[aU,Tj ∅];exact bG
 let t7:∀ q u,q≠p->H3 q=Z u->(upd (upd (upd H5 D (.lst ys)) p (.ins C dx (putF "turns" (.ref D) fs))) p (.ins C dx (putF "rounds" (.ref qr) (putF "turns" (.ref D) fs)))) q=Z u:=λq u n z=>keep n (keep n (s6 _ _ (t1 q u n z)));let bg:(upd (upd (upd H5 D (.lst ys)) p (.ins C dx (putF "turns" (.ref D) fs))) p (.ins C dx (putF "rounds" (.ref qr) (putF "turns" (.ref D) fs)))) q1=Z (.lst xs):=keep a6 (keep a6 (s6 _ _ bd));let p7:(upd (upd (upd H5 D (.lst ys)) p (.ins C dx (putF "turns" (.ref D) fs))) p (.ins C dx (putF "rounds" (.ref qr) (putF "turns" (.ref D) fs)))) p=Z (.ins C dx (putF "rounds" (.ref qr) (putF "turns" (.ref D) fs))):=ag;let D7:(upd (upd (upd H5 D (.lst ys)) p (.ins C dx (putF "turns" (.ref D) fs))) p (.ins C dx (putF "rounds" (.ref qr) (putF "turns" (.ref D) fs)))) D=Z (.lst ys):=keep bb (keep bb ag);let u7:∀ q u,q≠p->H5 q=Z u->(upd (upd (upd H5 D (.lst ys)) p (.ins C dx (putF "turns" (.ref D) fs))) p (.ins C dx (putF "rounds" (.ref qr) (putF "turns" (.ref D) fs)))) q=Z u:=λq u n z=>keep n (keep n (aj hD _ _ _ z));generalize upd (upd (upd H5 D (.lst ys)) p (.ins C dx (putF "turns" (.ref D) fs))) p (.ins C dx (putF "rounds" (.ref qr) (putF "turns" (.ref D) fs)))=H7 at t7 bg p7 D7 u7;let a3:∀{q:fc}{ys:E V},H3 q=Z (.lst ys)->q≠p:=λ{q ys} h z=>by simp!
 let bR:cC H7 vs rs:=#[a4.1,λi l z=>by
  let r a1 a2:=a4.2 i l z
  erw[r,a1,t7 _ _ (a3 a2) a2]]
 let T7:e8 K H7 xs es:=(hT.mono al).keep a5 t7;erw[153,qt,qr,xs,vs,es,_,rs,U,SqL.of (t7 _ _ (pl aS) (al _ _ aS)),T7,4,SqL.of (t7 _ _ (a3 an) an),bR,ro,λq5 z5 H8 s8 am bi=>?_]
 erw[9,p,C,dx,9,s8 _ _ p7,cw.cl,cw.n5,16]
 let bU:q5≠p:=λz=>by rw[z,s8 _ _ p7]at am;simp!
 let bm:=t7 _ _ (a3 an) an;refine kk _ q1 rs _ ag #[3,#[D,ys,3,λz=>z (a9 (none_of s5 hD)),keep bb (s8 _ _ D7),rz.1,λi l z=>?_],#[qr,vs,3,keep (a3 an) (s8 _ _ bm),a4.1,λi l z=>?_],#[q5,z5,3,keep bU am,bi.1,λi N=>?_],ro] bf (by rw[aU,Tj ∅];exact bQ) (keep a6 (s8 _ _ bg)) λq o z n=>keep n (s8 _ _ (t7 q o n (al _ _ z)))
 .rw[aU,Tj ∅,aU,Tj ∅,aU,Tj ∅]
  exact be
 .rw[aU,Tj ∅,aU,Tj ∅,aU,Ti U]
 .let r a1 a0 a2:=rz.2 i l z;let nr:r≠p:=λz=>by simp!
  erw[r,a1,a0,keep nr (s8 _ _ (u7 r _ nr a2))]
 .rw[aU,Tj ∅,aU,Ti U]
 .let r a1 a2:=a4.2 i l z;erw[r,a1,keep (a3 a2) (s8 _ _ (t7 _ _ (a3 a2) a2))]
 .rw[aU,Ti U]
 .let t a b r r' y1 y2 y3:=bi.2 i N;erw[t,a,b,r,r',y1,keep (λz=>by rw[z,s8 _ _ p7]at y2;cases y2) y2,y3]
theorem oM.at{PS:fc}{ks:Kn}(t:oM f PS H xs es ks)(o:ks.L=es.L)(d:CT K f)(TS:CT K PS):e8 K H xs es:=#[t.1,λi e z=>by
 let J:=(MF.mp z).1;let k D:∃ k,ks[i]?=Z k:=#[_,MG ∅]
 let p B a b:=t.2 i e k z D;erw[p,_,B,k.2,a,b,3];unfold cls;split
 .exact TS
 .exact d]
def WebF(S:fc->Prop)(j PS T:fc)(H:Hp)(p:fc)(m:R)(es:En)(ts rs:oD)(ks:Kn):Prop:=∃ B fs dO D,H p=Z (.ins T B fs)/\WebG S H fs m es ts rs/\¬ S dO/\fs.Y ("ties" : fI)=Z (.ref dO)/\H dO=Z (.lst D)/\oM j PS H D es ks
def B6:RS "sum"=Z (.builtin "sum"):=by rfl
theorem Cj{t2:TE}(m:PE X e eK)(h2:PE X e t2):PE X e (λL H Q=>eK L H Q∨t2 L H Q):=λB s L H Q I h=>h.elim (m B s L H Q I) (h2 B s L H Q I)
def bit(l a:Y):Y:=l/2^a.R%2
def KL(x y:Y):Se (Sh x y) 1=(x%2+y%2)%2:=by
 let e:Se (Sh x y) 1=Sh x y%2:=O9 _ 1;rw[e,PyProof.Rows.bitXor_and];lia
def unp(d:ke)(a b l:Y):ke:=!decide (V.int ((bit l a+bit l b)%2)=V.int (if d=kt then 1 else 0))
inductive jx(push:ke)
 |mk (p:_) (_:vs=[.ref p])(_:Q (.int (if push=kt then 1 else 0)) H)
def MD(H:Hp)(p C:fc)(a b s:Y):Prop:=∃ B,H p=Z (.ins C B (tf a b s))
inductive qB(C:fc)(push:ke)
 |mk (p a b s l:_) (_:vs=[.ref p,.int l])(_:MD H p C a b s)(_:0<=a)(_:0<=b)(_:Q (.bl (unp push a b l)) H)
def upL(u:R->ke)(i:R):E R:=(Nf i).filter u
def pP(u:R->ke)(i:R):upL u (i+1)=if u i=kt then upL u i++[i] else upL u i:=by
 unfold upL;rw[Oq,OG];by_cases h:u i=kt
 .simp[*]
 .simp[*]
def u6(ps:E R):R:=ps.foldl (λm p=>m|||2^p) 0
def oB(ps:E R)(p:R):u6 (ps++[p])=u6 ps|||2^p:=by unfold u6;simp
def MK(u:R->ke):R->R
 |0=>0
 |i+1=>if u i=kt then MK u i|||2^i else MK u i
theorem qP(u:R->ke):∀ i,u6 (upL u i)=MK u i
 |0=>rfl
 |i+1=>by
  rw[pP];show _=if u i=kt then MK u i|||2^i else MK u i
  split
  .rw[oB,qP u i]
  .exact qP u i
theorem kA(u:R->ke)(k:R):∀ i,(MK u i).O k=(decide (k<i)&&u k)
 |0=>by show QE 0 k=_;simp
 |i+1=>by
  show(if u i=kt then MK u i|||2^i else MK u i).O k=_
  let C:=kA u k i;by_cases h:u i=kt
  .rw[Ti h,NS,C,Nu];by_cases z:i=k
   .subst z;simp[h]
   .grind
  .rw[Tj h,C];by_cases D:k<i
   .simp[D,OB D]
   .grind
def stg(ks:Kn)(t:R):Y:=match ks[t]? with|some k=>k.2|none=>0
def bitN(N a:R):bit (N:Y) (a:Y)=if N.O a=kt then 1 else 0:=by
 unfold bit;rw[MU,PF];let e:((N:Y)/2^a%2)=((N/2^a%2:R):Y):=by rfl
 rw[e];by_cases z:N/2^a%2=1
 .rw[z,Sx U];rfl
 .rw[RN z];let:N/2^a%2=0:=by lia
  rw[this];rfl
def mP(K:MJ):Sp:=λm H Q _=>∃(a:fc),∃(N:E R),(m=[.ref a]/\pi a (N.Z iV)/\(∀ p∈N,p<80)/\Q (.int ((u6 N:R):Y)) H)
def sm(l:E R)(g:R->R):R:=(l.Z g).sum
def D9(x:R)(l:E R)(g:R->R):sm (x::l) g=g x+sm l g:=by rfl
def WebT(j PS T:fc)(H:Hp)(p:fc)(m:R)(es:En)(ts:oD)(ks:Kn):Prop:=∃ B fs dO D z l,H p=Z (.ins T B fs)/\fs.Y ("many" : fI)=Z (.int (m:Y))/\fs.Y ("ties" : fI)=Z (.ref dO)/\H dO=Z (.lst D)/\oM j PS H D es ks/\fs.Y ("turns" : fI)=Z (.ref z)/\H z=Z (.lst l)/\cC H l ts
def WebT.mono{j PS T p:fc}{H H':Hp}{m:R}{es:En}{ts:oD}{ks:Kn}(h:WebT j PS T H p m es ts ks)(s:o5):WebT j PS T H' p m es ts ks:=by
 let B fs dO D z l a b c d e f g i:=h;erw[B,fs,dO,D,z,l,s _ _ a,b,c,s _ _ d,e.mono s,f,s _ _ g,i.mono s]
def WebF.t{S:fc->Prop}{PS:fc}{ks:Kn}(h:WebF S f PS C H p m es ts rs ks):WebT f PS C H p m es ts ks:=by
 let B fs dO D a b _ c d e:=h;let z l b1 _ b2 b3:=b.turns;erw[B,fs,dO,D,z,l,a,b.many,c,d,e,b1,b2,b3.off]
def zh:az ["self"] ["self"] (aq fF):=by ac_nf
def HP(F:Fun K "wish" "Tie.wish" fF f fd):li 1 f fd ["self"] (jx k9):=by
 refine F.ok zh λL A eK s H m Q dO u h=>?_
 let p rfl k:=h;erw[_,(ao (aG ak)),k]
def xc:az ["self"] ["self"] (aq dz):=by ac_nf
def HN(F:Fun K "wish" "Push.wish" dz f fd):li 1 f fd ["self"] (jx kt):=by
 refine F.ok xc λL A eK s H m Q dO u h=>?_
 let p rfl k:=h;erw[_,(ao (aG ak)),k]
def bt(M t:R):R:=M/2^t%2
def wq(M t:R):bt M t=if M.O t=kt then 1 else 0:=by
 unfold bt;rw[PF];by_cases z:M/2^t%2=1
 .simp!
 .simp!
def GJ(M t:R):Se ((M:Y)/2^((t:R):Y).R) 1=((bt M t:R):Y):=by
 let e:Se ((M:Y)/2^((t:R):Y).R) 1=((M:Y)/2^((t:R):Y).R)%2:=O9 _ 1;assumption
def parR(M:R)(r:E R):R:=sm r (λd=>bt M (d/2))%2
def Hj(l:E R)(g:R->R):(l.Z λd=>((g d:R):Y)).sum=((sm l g:R):Y):=by
 induction l with
 |nil=>rfl
 |cons x l C=>rw[NF,PY,C,D9];lia
def bp(ks:Kn)(t:R):ke:=match ks[t]? with|some k=>decide (k.1=1)|none=>k9
def oz{ks:Kn}{t:R}{k:Y×Y}(h:ks[t]?=Z k):bp ks t=decide (k.1=1):=by unfold bp;rw[h]
def oddU(M:R)(rs:oD)(k:R):ke:=decide (parR M (rs.v k [])=1)
def BO{k:R}{r:E R}(h:rs[k]?=Z r):rs.v k []=r:=by simp[*]
def WebR(j PS T:fc)(H:Hp)(p:fc)(es:En)(ks:Kn)(rs:oD):Prop:=∃ B fs dO D O n,H p=Z (.ins T B fs)/\fs.Y ("ties" : fI)=Z (.ref dO)/\H dO=Z (.lst D)/\oM j PS H D es ks/\fs.Y ("rounds" : fI)=Z (.ref O)/\H O=Z (.lst n)/\cC H n rs
def WebR.mono{j PS T:fc}{H H':Hp}{p:fc}{es:En}{ks:Kn}{rs:oD}(h:WebR j PS T H p es ks rs)(s:o5):WebR j PS T H' p es ks rs:=by
 let B fs dO D O n a b c d e f g:=h;erw[B,fs,dO,D,O,n,s _ _ a,b,s _ _ c,d.mono s,e,s _ _ f,g.mono s]
inductive DW(PL PS WC:fc)
 |mk (p:fc)(es:En)(ks:Kn)(rs:oD) (_:vs=[.ref p])(_:WebR PL PS WC H p es ks rs)(_:ks.L=es.L)(_:es.L<=40)(_:∀ H',o5->Q (.int ((MK (bp ks) es.L:R):Y)) H')
inductive uc(PL PS WC:fc)
 |mk (p:fc)(M k:R)(es:En)(ks:Kn)(rs:oD)(r:E R) (_:vs=[.ref p,.int (M:Y),.int (k:Y)])(_:WebR PL PS WC H p es ks rs)(_:rs[k]?=Z r)(_:r.L<=900)(_:∀ H',o5->Q (.int ((parR M r:R):Y)) H')
inductive JJ(PL PS WC:fc)
 |mk (p:fc)(es:En)(ks:Kn)(rs:oD) (_:vs=[.ref p])(_:WebR PL PS WC H p es ks rs)(_:ks.L=es.L)(_:es.L<=40)(_:rs.L<=70)(_:(∀ r∈rs,r.L<=900))(_:∀ H',o5->Q (.int ((MK (oddU (MK (bp ks) es.L) rs) rs.L:R):Y)) H')
def WebF.r{S:fc->Prop}{PS:fc}{ks:Kn}(h:WebF S f PS C H p m es ts rs ks):WebR f PS C H p es ks rs:=by
 let B fs dO D a g _ b c d:=h;let O n e s i:=g.rounds;erw[B,fs,dO,D,O,n,a,b,c,d,e,s,i]
def Ef:az ["web"] ["web"] (aq uy):=by ac_nf
def LD{PS f0 f1:fc}{d0:ge}(F:Fun K "pushes" "pushes" uy f fd)(T:Txt mg)(cw:CW K I)(TL:CT K q)(TS:CT K PS)(aa:lw 1 "mask_of" ["places"] (mP K) a G)(u0:Met P w K mg base 1 q "wish" ["self"] (jx k9) f0 d0)(u1:Met P w K mg base 1 PS "wish" ["self"] (jx kt) f1 J):
  li 2 f fd ["web"] (DW q PS I):=by
 refine F.ok Ef λL A eK s H o Q dO u h=>?_
 let p O ks rs rfl{dx fs j xs q5 z5 m ap ab tk _}kl few g:=h;let am:=TL.cl;let an:=TS.cl;let al:xs.L=O.L:=tk.1;intros;erw[_,(ao (aG (aa.c u (ae (cM [] ["number","tie"] (lZ U T.n_enumerate (ae (aQ (pv 0) U) ai)) (λC ex s H=>(dD (n:=2) (K:=K) U U (aC (aY (i:=0) (show(["number","tie"]:E fI).h from by decide) U (Or.inl U)) (aC (aY (i:=1) (show(["number","tie"]:E fI).h from by decide) U (Or.inl U)) bx)))) (λC ex s H=>(fV (aD cH (Cj (dU (pv 1) am u0.me u0.ok (u.mono ∅) u0.bn .nil iX) (dU (pv 1) an u1.me u1.ok (u.mono ∅) u1.bn .nil iX)) ak (aJ _)))) (λC ex s H=>(pv 0))) ai)))),3]
 erw[9,p,I,dx,fs,9,m,cw.cl,cw.n2,ap,j,U,#[_,SqL.of ab],lr (K:=K) (xs:=xs) (λi r d=>Same H d/\r=(upL (bp ks) i).Z iV) (M4 (ax ∅)) #[λ_ _ e=>e,U] (λi r d _ z=>SqL.of (z.1 _ _ ab)) ?_ ?_ ?_]
 .rintro i x r d T2 B ⟨t,rfl⟩ ah;let N:i<O.L:=by rw[← tk.1];exact(MF.mp B).1
  let e v:∃ e,O[i]?=Z e:=#[_,MG N];let k l:∃ k,ks[i]?=Z k:=#[_,MG ∅]
  let s3:=t.P (aj ah (.tup [.int (i:Y),x]));let p' ac x1 x2:=(tk.mono s3).2 i e k v l;rw[B]at x1
  cases x1
  erw[T2,9,SqT.of ag,959894];let hU:=oz l;let ar:∀ b:ke,b=bp ks i->(if b=kt then tVar 0 ([Z (.int (i:Y)),Z (.ref p')]:St) (upd d T2 (.tup [.int (i:Y),.ref p'])) (λy H4=>Same H H4/\(upL (bp ks) i).Z iV++[y]=(upL (bp ks) (i+1)).Z iV) else Same H (upd d T2 (.tup [.int (i:Y),.ref p']))/\(upL (bp ks) i).Z iV=(upL (bp ks) (i+1)).Z iV):=λb M=>by
   rw[pP,← M]
   cases b with
   |true=>
    refine iteT #[9,s3,3];rw[Ti U,M0];rfl
   |false=>
    refine iteF #[s3,3];rfl
  by_cases c:k.1=1
  .rw[Sx c]at x2 hU;refine .inr #[9,p',ac,9,x2,qy _ _ _ ∅ ∅ ∅,p',922]
   exact ar _ hU.X
  .rw[RN c]at x2 hU;refine .inl #[9,p',ac,9,x2,qy _ _ _ ∅ ∅ ∅,p',922]
   exact ar _ hU.X
 .rintro r d ⟨t,rfl⟩ D hD;rw[al];erw[D,upL (bp ks) O.L,U,SqL.of ag,λp m=>?_,3]
  .let:=Nk.mp (N0.mp m).1;lia
  .rw[qP];exact g _ (t.P (aj hD _))
 .rintro i r d ⟨_,rfl⟩;rw[MI];exact NH (Oa _ _) ∅
def Eg:az ["web","ties","number"] ["web","ties","number"] (aq uz):=by ac_nf
def Ia{PS:fc}(F:Fun K "odd_at" "odd_at" uz f fd)(T:Txt mg)(I:CW K q):li 1 f fd ["web","ties","number"] (uc a PS q):=by
 refine F.ok Eg λL A eK s H j Q dO u h=>?_
 let p M k O v g r rfl{J fs y xs q5 z5 G _ _ _ l5 aa hR}l t N:=h;let pr x1 n:=hR.2 k r l;intros;erw[_,(ao (aG (ay eI (aE (wj U) (by rfl) T.n_sum B6 (ae (cM [("ties",1)] ["dart"] (aM (ba (aQ (pv 0) U) (pv 2))) pg_c pt_c (λC c s H=>(ay cV (ay gf (pv 1) (ay qO (pv 0) ak)) ak))) ai)) ak))),3]
 erw[9,p,q,J,fs,9,G,I.cl,I.n4,l5,9,q5,z5,165,SqL.of aa,aF x1,pr,U,#[_,SqL.of n],cX (K:=K) (xs:=r.Z iV) (λi m o=>Same H o/\m=((r.x i).Z λd=>((bt M (d/2):R):Y)).Z V.int) (M4 (ax (by grind))) #[λ_ _ e=>e,U] (λi m o _ z=>SqL.of (z.1 _ _ n)) ?_ ?_]
 .rintro i x m o B ⟨b,rfl⟩;rw[MO]at B;let d ab rfl:=MZ.mp B;let ed:(d:Y)/2=((d/2:R):Y):=by lia
  erw[42393,#[by decide,by decide],165,(show(0:Y)<=(d:Y)/2 by lia),165,b,3]
  rw[M5,ab,M0,M0];show _++[V.int (Se ((M:Y)/2^((d:Y)/2).R) 1)]=_++[V.int ((bt M (d/2):R):Y)];rw[ed,GJ]
 rintro m o _ ⟨b,rfl⟩ D hD;rw[MI,M8];erw[D,9,SqL.of ag,165,(by show(0:Y)<2;decide),3]
 let e:(r.Z λd=>((bt M (d/2):R):Y)).sum%2=((parR M r:R):Y):=by
  rw[Hj r λd=>bt M (d/2)];unfold parR;lia
 show Q (V.int ((r.Z λd=>((bt M (d/2):R):Y)).sum%2)) _;rw[e];exact N _ (b.P (aj hD _))
def mS:az ["web","pushing"] ["web"] (aq jK):=by ac_nf
def LF{fp PS WC:fc}{ar:ge}(F:Fun K "odd_rounds" "odd_rounds" jK f fd)(T:Txt mg)(cw:CW K WC)(aa:lw 1 "mask_of" ["places"] (mP K) a G)(al:lw 2 "pushes" ["web"] (DW I PS WC) fp J)(ah:lw 1 "odd_at" ["web","ties","number"] (uc I PS WC) q ar):
  li 3 f fd ["web"] (JJ I PS WC):=by
 refine F.ok mS λL A eK s H o Q dO u h=>?_
 let p O ks rs rfl wb kl few av an l:=h
 intros;erw[_,(af (aA 1 mS.nd (al.c u (ae (pv 0) ai)))
   (ao (aG (aa.c u (ae (cM [("web",0),("pushing",1)] ["number"] (aP U T.n_range (ae (aE aB (by rfl) T.n_len bE (ae (aQ (pv 0) U) ai)) ai)) pg_c (λC ex s H=>(fV (aD cH (ah.c u (ae (pv 1) (ae (pv 2) (ae (pv 0) ai)))) ak (aJ _)))) (λC ex s H=>(pv 0))) ai))))),3]
 erw[9,p,O,ks,rs,U,wb,kl,few,λj v=>?_];let ap:=wb.mono v;let B fs y x q5 z5 m _ _ _ l5 ac hR:=id ap;let am:z5.L=rs.L:=hR.1;generalize hM:MK (bp ks) O.L=M;rw[hM]at l;erw[9,p,WC,B,fs,9,m,cw.cl,cw.n4,l5,q5,z5,U,.inl (SqL.of ac),329,dI (λi k d=>Same j d/\k=(upL (oddU M rs) i).Z iV) (M4 (ax ∅)) #[λ_ _ e=>e,U] ?_ ?_ ?_]
 .rintro i k d N ⟨b,rfl⟩;let e0:(0:Y)+(i:Y)=(i:Y):=N1 _;rw[e0];let r ab:∃ r,rs[i]?=Z r:=#[_,MG ∅]
  erw[9830,p,M,i,O,ks,rs,r,U,ap.mono b,ab,an r (MH ab),λn g=>#[230]];let t:oddU M rs i=decide (parR M r=1):=by unfold oddU;rw[BO ab]
  rw[pP,t];refine ite2 (λc=>?_) (λc=>?_)
  .let c':parR M r=1:=by lia
   erw[9,b.P g,3];rw[Ti (Sx c'),M0];rfl
  .let c':¬ parR M r=1:=λz=>c (Sx (congrArg V.int ∅))
   erw[b.P g,3];rw[Tj (by simpa using c')]
 .rintro k d ⟨b,rfl⟩ D hD;rw[MU,am];erw[D,upL (oddU M rs) rs.L,U,SqL.of ag,λp m=>?_,3]
  .let:=Nk.mp (N0.mp m).1;lia
  .rw[qP];exact l _ (v.P (b.P (aj hD _)))
 .rintro i k d ⟨_,rfl⟩;rw[MI];exact NH (Oa _ _) ∅
structure TxtZ(mg:fI->j5 eN):Prop extends Txt mg where
 n_zip:mg "zip"=lf
def WebS(j PS T:fc)(H:Hp)(p:fc)(es:En)(ks:Kn)(rs:oD):Prop:=∃ B fs dO D O n,H p=Z (.ins T B fs)/\fs.Y ("ties" : fI)=Z (.ref dO)/\H dO=Z (.lst D)/\oM j PS H D es ks/\fs.Y ("sides" : fI)=Z (.ref O)/\H O=Z (.lst n)/\iy H n es.L rs
def Dp(H:Hp)(zs:E V)(n:R)(ks:Kn)(rs:oD):Prop:=zs.L=n/\∀ i,i<n->∃ k t a b r m,ks[i]?=Z k/\(zs[i]?=Z (.ref t)/\(H t=Z (.tup [iV a,iV b,.int k.2])/\(rs[a]?=Z r/\(2*i∈r/\(rs[b]?=Z m/\2*i+1∈m)))))
theorem Dp.mono{ks:Kn}(h:Dp H zs n ks rs)(s:o5):Dp H' zs n ks rs:=#[h.1,λi J=>by
 let k t a b r m f u M o:=h.2 i J
 erw[k,t,a,b,r,m,f,u,s _ _ M,o]]
inductive ud(PL PS WC:fc)
 |mk (p:fc)(es:En)(ks:Kn)(rs:oD) (_:vs=[.ref p])(_:WebS PL PS WC H p es ks rs)(_:ks.L=es.L)(_:es.L<=62)(_:∀ q zs H',o5->H q=lf->H' q=Z (.lst zs)->Dp H' zs es.L ks rs->Q (.ref q) H')
def zf:az ["web"] ["web"] (aq oo):=by ac_nf
def Ie{PS:fc}(F:Fun K "links_of" "links_of" oo f fd)(T:TxtZ mg)(cw:CW K I)(TL:CT K q)(TS:CT K PS):li 1 f fd ["web"] (ud q PS I):=by
 refine F.ok zf λL A eK s H M Q dO u h=>?_
 let p O ks rs rfl{dx fs y xs q5 z5 G l1 aa tk l5 ah g}kl few kk:=h;let al:xs.L=O.L:=tk.1;let am:z5.L=O.L:=g.1;let ct:∀ b,CT K (cls q PS b):=λb=>by
  unfold cls;split
  .exact TS
  .exact TL
 intros;erw[_,(ao (aG (cM [] ["sides","tie"] (Ez U T.n_zip (ae (aQ (pv 0) U) (ae (aQ (pv 0) U) ai))) (λC ex s H=>(dD (n:=2) (K:=K) U U (aC (aY (i:=0) (show(["sides","tie"]:E fI).h from by decide) U (Or.inl U)) (aC (aY (i:=1) (show(["sides","tie"]:E fI).h from by decide) U (Or.inl U)) bx)))) pt_c (λC ex s H=>(bN (ae (pA K (pv 0) ak) (ae (pA K (pv 0) ak) (ae (qL (K:=K) U (pv 1) U) ai)))))))),3]
 erw[9,p,I,dx,fs,9,G,cw.cl,cw.n5,l5,9,p,I,dx,fs,9,G,cw.cl,cw.n2,l1,q5,y,U,#[_,SqL.of ah],#[_,SqL.of aa],yw (K:=K) (xs:=z5) (zs:=xs) (λi m d=>Same H d/\Dp d m i ks rs) (M4 (ax ∅)) ∅ #[λ_ _ e=>e,U,λi J=>by lia] (λi m d _ z=>#[SqL.of (z.1 _ _ ah),SqL.of (z.1 _ _ aa)]) ?_ ?_ ?_]
 .rintro i x z m d T2 B hz ⟨v,hY⟩ ac;let J:i<O.L:=by rw[← am];exact(MF.mp B).1
  let e N:∃ e,O[i]?=Z e:=#[_,MG J];let k l:∃ k,ks[i]?=Z k:=#[_,MG ∅]
  let t a b r r' y1 y2 y3 y4 y5 y6:=g.2 i J;rw[B]at y1
  cases y1
  let p' ab x1 x2:=tk.2 i e k N l;rw[hz]at x1
  cases x1
  let s3:=v.P (aj ac (.tup [.ref t,.ref p']));erw[T2,9,SqT.of ag,173462,yesT ?_];erw[9,t,_,00,41,SqT.of (s3 _ _ y2),at0,9,t,_,01,41,SqT.of (s3 _ _ y2),at1,9,p',_,ab,37,s3 _ _ x2,(ct _).cl,(ct _).n3,Bb _ _ _,(by show 3<=RO;decide),λt4 ap=>?_]
  let s4:=aj ap (.tup [iV a,iV b,.int k.2]);let an:=(aj ac (.tup [.ref t,.ref p'])).P s4;let ar:=hY.mono an;erw[v.P an,by rw[MP,hY.1];rfl,λj hj=>?_]
  by_cases c:j<i
  .let k' t' a' b' w1 w2 v0 v1 v2:=ar.2 j c;erw[k',t',a',b',w1,w2,v0,by rw[MT (by rw[hY.1];exact c)];exact v1,v2]
  .let:j=i:=by lia
   subst this;erw[k,t4,a,b,r,r',l,by rw[← hY.1,MR (MN _),Nz];rfl,ag,y3,y4,y5,y6]
 .rintro m d ⟨v,hY⟩ D hD;rw[am]at hY;let av:H D=lf:=by
   cases z:H D with
   |none=>rfl
   |some o=>rw[v _ _ z]at hD;cases hD
  exact kk D m _ (v.P (aj hD _)) av ag (hY.mono (aj hD _))
 .rintro i m d ⟨_,hY⟩;rw[hY.1];exact MN _
open KF (uM)
theorem zL(S T:R->ke):∀ l:E R,par (λt=>S t ^^ T t) l=(par S l ^^ par T l)
 |[]=>rfl
 |d::l=>by
  rw[bu,bu,bu,zL S T l]
  cases S (d/2)<;>cases T (d/2)<;>cases par S l<;>cases par T l<;>rfl
theorem f9{S T:R->ke}:∀{l:E R},(∀ d∈l,S (d/2)=T (d/2))->par S l=par T l
 |[],_=>rfl
 |d::l,h=>by rw[bu,bu,h d (M7 ..),f9 λx B=>h x (M6 _ B)]
theorem BC:∀ l:E R,par (λ_=>k9) l=k9
 |[]=>rfl
 |d::l=>by rw[bu,BC l];rfl
theorem EF(i:R):∀{l:E R},l.h->par (λt=>decide (t=i)) l=(decide (2*i∈l) ^^ decide (2*i+1∈l))
 |[],_=>rfl
 |d::l,nd=>by
  let J g:=Nt.mp nd;rw[bu,EF i g];by_cases c0:d=2*i
  .simp!
  .grind
structure Dl(N:R)(rs:oD)(ls:E KF.Lk):Prop where
 nd:rs.flatten.h
 all:∀ d,d<2*N->d∈rs.flatten
 lt:∀ r∈rs,∀ d∈r,d<2*N
 rn:∀ r∈rs,r.h
 ln:ls.L=N
 sd:∀(i:R)(l:KF.Lk),ls[i]?=Z l->(∃ r,rs[l.1]?=Z r/\2*i∈r)/\∃ r,rs[l.2.1]?=Z r/\2*i+1∈r
theorem Dl.odd{N:R}{rs:oD}{ls:E KF.Lk}(D:Dl N rs ls)(u:R){a:R}{ad:E R}(G:rs[a]?=Z ad):∀ i,i<=N->(KF.oddE ls u i).O a=par (λt=>u.O t&&decide (t<i)) ad
 |0,_=>by
  show(0:R).O a=_;rw[NI];exact((f9 λd _=>by simp!).P (BC ad)).X
 |i+1,h=>by
  let dO:=D.odd u G i ∅
  let l M:∃ l,ls[i]?=Z l:=#[_,MG (by rw[D.ln];lia)]
  let{r J I}{m C b}:=D.sd i l M;let e:=D.rn ad (MH G);let f:decide (2*i∈ad)=decide (l.1=a):=decide_eq_decide.mpr #[λz=>qX D.nd J G I z,λz=>by simp!]
  let b1:decide (2*i+1∈ad)=decide (l.2.1=a):=decide_eq_decide.mpr #[λz=>qX D.nd C G b z,λz=>by simp!]
  unfold KF.oddE;by_cases c:u.O i=kt
  .rw[Ti c,P1,dO,KF.lkA_is M];unfold KF.endX;rw[P1,Nu,Nu,← f,← b1,← EF i e,← zL];refine f9 λd _=>?_;by_cases z:d/2=i
   .simp!
   .rw[RN z,Qf];congr 1;exact decide_eq_decide.mpr ∅
  .rw[Tj c,dO];refine f9 λd _=>?_;by_cases z:d/2=i
   .simp!
   .congr 1;exact decide_eq_decide.mpr ∅
def Dl.oddN(D:Dl N rs ls)(u:R){a:R}{ad:E R}(G:rs[a]?=Z ad):(KF.oddE ls u N).O a=par (λt=>u.O t) ad:=by
 rw[D.odd u G N (MN _)];refine f9 λd hd=>?_;let:=D.lt ad (MH G) d hd;grind
theorem Dl.rooms(D:Dl N rs ls):∀ l∈ls,l.1<rs.L/\l.2.1<rs.L:=λl M=>by
 let i J:=Nx M;let{_ w _}{_ C _}:=D.sd i l J;erw[(MF.mp w).1,(MF.mp C).1]
theorem BE{n:R}{ls:E KF.Lk}(hl:∀ l∈ls,l.1<n/\l.2.1<n)(u:R):∀ i,i<=ls.L->KF.oddE ls u i<2^n
 |0,_=>Ph n
 |i+1,h=>by
  unfold KF.oddE;let C:=BE hl u i ∅
  split
  .let l e:∃ l,ls[i]?=Z l:=#[_,MG ∅]
   let t Q:=hl l (MH e);rw[KF.lkA_is e];exact QF C (QF (OM ∅ t) (OM ∅ Q))
  .exact C
theorem wu{x y:R}(B:x<2^n)(j:y<2^n)(h:∀ a,a<n->x.O a=y.O a):x=y:=NC λa=>by
 by_cases c:a<n
 .exact h a c
 .rw[Pd (Ni B (Ol ∅ ∅)),Pd (Ni j (Ol ∅ ∅))]
def Jl{S i:R->ke}(w:dJ m es ts)(h:GW es S i){r:E R}(c:CR (fol es ts) (2*es.L) r):par S r=k9:=by
 let x l rfl a:=c.ch;let B:=c.lt x (M7 ..);let:=B3 w h a B (λt g=>c.lt t (M6 _ g)) B;rw[zM]at this;rw[bu];let A:par S [x]=S (x/2):=by rw[bu];exact Qf _
 simp!
def ME(rs:oD)(S M:R):Prop:=∀(k:R)(r:E R),rs[k]?=Z r->parR S r=parR M r
theorem xq(S:R):∀ r:E R,par (λt=>S.O t) r=decide (parR S r=1)
 |[]=>rfl
 |d::r=>by
  let C:=xq S r;rw[bu,C];unfold parR;rw[D9,wq]
  cases S.O (d/2) with
  |true=>
   rw[Ti U,ke.true_xor];grind
  |false=>
   simp!
def UB(es:En)(ks:Kn)(L t:R):ke:=match es[t]? with|some e=>(L.O e.1 ^^ L.O e.2 ^^ bp ks t)|none=>k9
def UB_at{ks:Kn}{t:R}{e:R×R}(h:es[t]?=Z e):UB es ks L t=(L.O e.1 ^^ L.O e.2 ^^ bp ks t):=by unfold UB;rw[h]
structure Oth(m:R)(es:En)(ts:oD)(ks:Kn)(rs:oD)(ls:E KF.Lk):Prop where
 g:Gr m es ts
 ro:du (fol es ts) (2*es.L) (2*es.L) rs
 d:Dl es.L rs ls
 kl:ks.L=es.L
 ws:∀(i:R)(l:KF.Lk),ls[i]?=Z l->∃ k,ks[i]?=Z k/\l.2.2=k.2/\0<=k.2/\k.2<=10^(30:Y).R
 m2:2<=m
 few:es.L<=40
theorem Oth.cr{m:R}{es:En}{ts:oD}{ks:Kn}{rs:oD}{ls:E KF.Lk}(O:Oth m es ts ks rs ls):∀ r∈rs,CR (fol es ts) (2*es.L) r:=λr u=>(O.ro.ring r u).cr
def Oth.lay{ks:Kn}(O:Oth m es ts ks rs ls)(L:R):KF.oddE ls (MK (UB es ks L) es.L) es.L=KF.oddE ls (MK (bp ks) es.L) es.L:=by
 refine wu (n:=rs.L) (by rw[← O.d.ln];exact BE O.d.rooms _ _ (MN _)) (by rw[← O.d.ln];exact BE O.d.rooms _ _ (MN _)) λa l=>?_
 let G:=MG l;rw[O.d.oddN _ G,O.d.oddN _ G];let lt:=O.d.lt _ (MH G);let S H:∃ S:R->ke,GW es S (λp=>L.O p):=#[λs=>match es[s]? with|some x=>(L.O x.1 ^^ L.O x.2)|none=>k9,λs x B=>by simp!]
 let b:=Jl O.g.w H (O.cr _ (MH G));let:par (λt=>(MK (UB es ks L) es.L).O t) rs[a]=par (λt=>S t ^^ (MK (bp ks) es.L).O t) rs[a]:=f9 λd hd=>by
  let:=lt d hd;let e N:∃ e,es[d/2]?=Z e:=#[_,MG ∅]
  rw[kA,kA,Sx (show d/2<es.L by lia),Oj,Oj,UB_at N,H _ e N]
 rw[this,zL,b,ke.false_xor]
theorem Oth.lok1{ks:Kn}(O:Oth m es ts ks rs ls)(T:rs.L<=40):KF.Lok rs.L ls where
 n1:=T
 l9:=by
  let N:=O.d.ln;let G:=O.few;lia
 sm l hl:=O.d.rooms l hl
 w0 l hl:=by
  let i J:=Nx hl;let k _ e a b:=O.ws i l J;rw[e];erw[a,Qy b ?_];unfold KF.MM;decide
theorem bl_few{mk:R}(h:mk<2^n):(KF.bl mk).L<=n:=eJ (KF.bl_nd mk) λx B=>KF.bl_lt h B
def Dl.marks(D:Dl N rs ls)(M:R):MK (oddU M rs) rs.L=KF.oddE ls M N:=by
 refine wu (n:=rs.L) (Oo _ λi J=>by rw[kA,RN ∅,Pu]) (by rw[← D.ln];exact BE D.rooms _ _ (MN _)) λa O=>?_
 let G:=MG O;rw[D.oddN _ G,xq,kA,Sx O,Oj];unfold oddU;simp[*]
def zu(g:Gr m es ts)(w:du (fol es ts) (2*es.L) (2*es.L) rs):m+rs.L=es.L+2:=by
 let a p c:=g.part;rw[← p.same w.part];exact c
def Dl.lnk{ks:Kn}(D:Dl N rs ls)(ws:∀ (i:R) (l:KF.Lk),ls[i]?=Z l->∃ k,ks[i]?=Z k/\l.2.2=k.2)(h:Dp H zs N ks rs):LsAt KF.LkAt H zs ls:=by
 erw[by rw[h.1,D.ln],λi l M=>?_]
 let k t x y r m p eK O G dO s n:=h.2 i (by rw[← D.ln];exact(MF.mp M).1)
 let b f A:=ws i l M;rw[p]at f
 cases f
 let{J v u}I b1 b2:=D.sd i l M;let T:=qX D.nd v G u dO;let j:=qX D.nd b1 s b2 n;erw[_,eK,t,14];rw[O,A,T,j];rfl
def Ho{ks:Kn}(o:ks.L=N)(h:iy H zs N rs):∃ ls:E KF.Lk,ls.L=N/\∀(i:R)(l:KF.Lk),ls[i]?=Z l->((∃ r,rs[l.1]?=Z r/\2*i∈r)/\∃ r,rs[l.2.1]?=Z r/\2*i+1∈r)/\∃ k,ks[i]?=Z k/\l.2.2=k.2:=by
 let go:∀ n,n<=N->∃ ls:E KF.Lk,ls.L=n/\∀(i:R)(l:KF.Lk),ls[i]?=Z l->((∃ r,rs[l.1]?=Z r/\2*i∈r)/\∃ r,rs[l.2.1]?=Z r/\2*i+1∈r)/\∃ k,ks[i]?=Z k/\l.2.2=k.2:=λn=>by
  induction n with
  |zero=>exact λ_=>#[[],U,λi l z=>by contradiction]
  |succ n C=>
   intro T;let ls b c:=C ∅
   let p x y r m _ _ G dO s a:=h.2 n ∅
   let k D:∃ k,ks[n]?=Z k:=#[_,MG ∅]
   erw[ls++[(x,y,k.2)],by simp[*],λi l e=>?_]
   by_cases q:i<n
   .rw[MT ∅]at e
    exact c i l e
   .let:i=n:=by
     let:=(MF.mp e).1;rw[MP,b]at this;let:i<n+1:=this;lia
    subst this;rw[MR ∅,b,Nz]at e
    cases e
    erw[#[#[r,G,dO],#[m,s,a]],k,D,U]
 exact go N (MN _)
structure TxtO(mg:fI->j5 eN):Prop extends TxtZ mg where
 modd:∃ t,mg "MOST_ODD"=Z (.int 12 t)
inductive yW(PL PS WC:fc)
 |mk (p:fc)(es:En)(ks:Kn)(rs:oD) (_:vs=[.ref p])(_:WebR PL PS WC H p es ks rs)(_:ks.L=es.L)(_:es.L<=40)(_:rs.L<=12)(_:(∀ r∈rs,r.L<=900))(_:∀ H',o5->Q (.int ((MK (oddU (MK (bp ks) es.L) rs) rs.L:R):Y)) H')
def qE:az ["web","marks"] ["web"] (aq oj):=by ac_nf
def Ic{PS:fc}(F:Fun K "marks_of" "marks_of" oj f fd)(T:TxtO mg)(n:lw 3 "odd_rounds" ["web"] (JJ q PS I) a G)(x:lw 2 "ones" ["mask"] KF.spOnes C J):li 4 f fd ["web"] (yW q PS I):=by
 refine F.ok qE λL A eK s H m Q dO u h=>?_
 let p O e k rfl B o few D r l:=h
 intro g y;erw[_,(af (aA 1 qE.nd (n.c u (ae (pv 0) ai)))
   (af (bJ (aD Ck (x.c u (ae (pv 1) ai)) (uM U T.modd) (aJ _)) (ao cG) aN)
   (ao (aG (pv 1))))),3]
 erw[9,p,O,e,k,U,B,o,few,4,r,λj v=>?_]
 let t:=λd (b:Same j d)=>l d (v.P b);let lt:MK (oddU (MK (bp e) O.L) k) k.L<2^k.L:=Oo _ λi N=>by rw[kA,RN ∅,Pu]
 generalize MK (oddU (MK (bp e) O.L) k) k.L=mk at lt t ⊢;let M:=bl_few lt;erw[9,mk,U,Ni lt (Ol ∅ ∅),λd b=>?_]
 erw[2469,ite2 (λz=>Tn (S8 z) ∅) (λ_=>?_)]
 erw[9,t _ b]
inductive spRT(PL PS WC:fc)
 |mk (p:fc)(S:R)(es:En)(ks:Kn)(rs:oD) (_:vs=[.ref p,.int (S:Y)])(_:WebR PL PS WC H p es ks rs)(_:ks.L=es.L)(_:es.L<=40)(_:rs.L<=70)(_:(∀ r∈rs,r.L<=900))(_:ME rs S (MK (bp ks) es.L))(_:∀ H',o5->Q .non H')
inductive spLO(PL PS WC:fc)
 |mk (p:fc)(S m:R)(es:En)(ts:oD)(ks:Kn)(rs:oD) (_:vs=[.ref p,.int (S:Y)])(_:WebT PL PS WC H p m es ts ks)(_:WebR PL PS WC H p es ks rs)(_:Gr m es ts)(_:du (fol es ts) (2*es.L) (2*es.L) rs)(_:ks.L=es.L)(_:0<m)(_:m<=40)(_:es.L<=40)(_:(∀ k∈ks,k.1=0∨k.1=1))(_:ME rs S (MK (bp ks) es.L))(_:∀(L:R) H',o5->L<2^m->Q (.int (L:Y)) H')
def BN{x y:R}(h:(Sum.inl (x:Y):Key)=Sum.inl (y:Y)):x=y:=by
 lia
def sI(b:ke):Y:=if b=kt then 1 else 0
def kvS(i:R->ke)(ps:E R):E (Key×V):=ps.Z λ(p:R)=>((.inl ((p:R):Y):Key),V.int (sI (i p)))
def Fi{i:R->ke}{p:R}(nd:ps.h)(h:p∈ps):valV (kvS i ps) (.inl (p:Y))=Z (.int (sI (i p))):=by
 induction ps with
 |nil=>cases h
 |cons x r C=>
  rw[Nt]at nd;show valV (((.inl (x:Y):Key),V.int (sI (i x)))::kvS i r) _=_;obtain e|h:=MY.mp h
  .subst e;exact bZ U
  .let ne:¬ (Sum.inl (x:Y):Key)=Sum.inl (p:Y):=λz=>nd.1 (by rw[BN z];exact h)
   rw[bI ne];exact C nd.2 h
def Ke{i:R->ke}{p:R}(h:p∉ps):valV (kvS i ps) (.inl (p:Y))=lf:=by
 induction ps with
 |nil=>rfl
 |cons x r C=>
  show valV (((.inl (x:Y):Key),V.int (sI (i x)))::kvS i r) _=_;let ne:¬ (Sum.inl (x:Y):Key)=Sum.inl (p:Y):=λz=>h (by rw[← BN z];exact M7 ..)
  rw[bI ne];exact C λz=>h (M6 _ z)
def L8{i:R->ke}{p:R}(h:p∉ps)(b:ke):putK (kvS i ps) (.inl (p:Y)) (.int (sI b))=kvS (λz=>if z=p then b else i z) (ps++[p]):=by
 rw[uD _ (Ke h)];unfold kvS;rw[M0];refine congr (congrArg _ (Od λx B=>?_)) ∅
 simp only[Tj (show ¬ x=p from λz=>h (by simp!))]
def oth(e:R×R)(p:R):R:=if p=e.1 then e.2 else e.1
structure Met'(m:R)(ps wl:E R):Prop where
 nd:ps.h
 lt:∀ p∈ps,p<m
 wn:∀ p∈wl,p∈ps
def jQ(s:o5){b:fc}(h:H' b=lf):H b=lf:=by
 cases z:H b with
 |none=>rfl
 |some u=>rw[s _ _ z]at h;cases h
theorem gh(x:R):∀(n:R)(ps:E R),ps.L=n->(u6 ps).O x=decide (x∈ps)
 |0,ps,h=>by
  rw[O5.mp h];show(0:R).O x=_;rw[NI];rfl
 |n+1,ps,h=>by
  let ne:ps≠[]:=λe=>by rw[e]at h;cases h
  let C:ps.dropLast++[ps.getLast ne]=ps:=Rc ne;let M:ps.dropLast.L=n:=by rw[List.length_dropLast,h];rfl
  rw[← C,oB,NS,gh x n _ M,Nu];grind
def De{d:fc}{g:TG}{t:L2.TT}(Pv:R->E V->Hp->Prop)(hz:kvs.L<=RO)(A:Pv 0 [] H1)(hl:∀ i ys H,i<=kvs.L->Pv i ys H->H d=Z (.frz o (.dK kvs)))
  (T:∀ i k y ys H,kvs[i]?=Z (k,y)->Pv i ys H->g (kV k) (MV n lf++O) H λh H2=>h.drop n=O/\t h H2 λb H3=>if b=kt then eK h H3 (λy H4=>Pv (i+1) (ys++[y]) H4) else Pv (i+1) ys H3) (hd:∀ ys H,Pv kvs.L ys H->QQ ys H) (j:∀ i ys H,Pv i ys H->ys.L<=i)
  : jE g t eK n O (Itk o kvs d) H1 QQ:=by
 erw[λi m ys H=>m=kvs.L-i/\i<=kvs.L/\Pv i ys H,#[kvs.L,by simp,ND _,A],3]
 rintro i m ys H ⟨rfl,J,p⟩;let q:=hl i ys H J p;let c:=j i ys H p;erw[16]
 by_cases Q:i<kvs.L
 .refine .inr #[#[q,Q],λI H2=>Pv (i+1) I H2,λI H2 G=>#[kvs.L-(i+1),12,Q,G],λx l y=>?_]
  let k y f rfl rfl:=y;exact T i k y ys _ f p
 .let e:i=kvs.L:=by lia
  subst e;exact .inl #[#[q,MN _],hd ys H p]
def xor3(a b c:ke):Sh (Sh (sI a) (if b=kt then 1 else 0)) (sI c)=sI (a ^^ b ^^ c):=by cases a<;>cases b<;>cases c<;>decide
def bt_sI(S t:R):Se ((S:Y)/2^((t:R):Y).R) 1=sI (S.O t):=by
 rw[GJ,wq];unfold sI;split<;>rfl
theorem Ir(nd:ps.h)(h:∀ p∈ps,p<m):ps.L<=m:=eJ nd h
inductive mQ(C:fc)
 |mk (p a b s x:_) (_:vs=[.ref p,.int x])(_:MD H p C a b s)(_:Q (.int (if x=a then b else a)) H)
def Met'.new{wl:E R}{y:R}(h:Met' m ps wl)(c:y∉ps)(d:y<m):Met' m (ps++[y]) (wl++[y]):=by
 erw[NP.mpr #[h.nd,by simp,λa O b M z=>c (by rw[← MQ.mp M,← z];exact O)],λy j=>?_,λy j=>?_]
 .obtain z|z:=Ng.mp j
  .exact h.lt y z
  .rw[MQ.mp z];exact d
 .obtain z|z:=Ng.mp j
  .exact NG _ (h.wn y z)
  .exact Nj _ z
def g7:az ["web","ties","pushing","number"] ["web","ties"] (aq iM):=by ac_nf
def ok_rt{PS:fc}(F:Fun K "refuse_ties" "refuse_ties" iM f fd)(T:Txt mg)(cw:CW K I)(ah:lw 2 "pushes" ["web"] (DW q PS I) a G)(ac:lw 1 "odd_at" ["web","ties","number"] (uc q PS I) C J):li 3 f fd ["web","ties"] (spRT q PS I):=by
 refine F.ok g7 λb A eK s H o Q dO u h=>?_
 let p S O ks rs rfl wb kl few aI ar ev g:=h
 intros;erw[_,(af (aA 2 g7.nd (ah.c u (ae (pv 0) ai)))
   (ao (mx (aP U T.n_range (ae (aE aB (by rfl) T.n_len bE (ae (aQ (pv 0) U) ai)) ai)) (bq 3 g7.nd) (ao (bJ (aD l7 (ac.c u (ae (pv 0) (ae (pv 1) (ae (pv 3) ai)))) (ac.c u (ae (pv 0) (ae (pv 2) (ae (pv 3) ai)))) (aJ _)) (ao cG) aN))))),3]
 erw[9,p,O,ks,rs,U,wb,kl,few,λv t=>?_];let av:=wb.mono t;let B fs y D q5 z5 m _ _ _ l5 ab hR:=id av;let an:z5.L=rs.L:=hR.1;generalize hM:MK (bp ks) O.L=M at *;erw[9,p,I,B,fs,9,m,cw.cl,cw.n4,l5,q5,z5,U,.inl (SqL.of ab),329,cL (n:=(z5.L:Y).R) (λi L d=>∃ v3,L=[Z (.ref p),Z (.int (S:Y)),Z (.int (M:Y)),v3]/\Same v d/\∀ j r,j<i->rs[j]?=Z r->parR S r=parR M r) #[9,λ_ _ e=>e,λj r h=>Tn h (NM _)] ?_ ?_]
 .rintro i L d N ⟨v3,rfl,l,al⟩;let e0:(0:Y)+(i:Y)=(i:Y):=N1 _;rw[e0];let r aa:∃ r,rs[i]?=Z r:=#[_,MG ∅]
  erw[2457,p,S,i,O,ks,rs,r,U,av.mono l,aa,ar r (MH aa),λH3 k=>?_];erw[2457,p,M,i,O,ks,rs,r,U,av.mono (l.P k),aa,ar r (MH aa),λH4 s4=>?_];let ap:=(l.P k).P s4;erw[38,ite2 (λc=>?_) (λc=>?_)]
  .let c':parR S r≠parR M r:=λz=>by grind
   exact Tn (ev i r aa) c'
  .let c':parR S r=parR M r:=by grind
   erw[9,ap,λj r2 x am=>?_];by_cases e:j=i
   .grind
   .grind
 .rintro L d ⟨v3,rfl,l,al⟩;rw[MU,an]at al;exact g _ (t.P l)
def uv:az ["self","place"] ["self","place"] (aq cS):=by ac_nf
def xu(F:Fun K "across" "Tie.across" cS f fd)(T:CT K C):li 1 f fd ["self","place"] (mQ C):=by
 refine F.ok uv λL A eK s H m Q dO u h=>?_
 let p a b st x rfl{B G}k:=h;intro J y;erw[_,(ao (aG (fk (aD cH (pv 1) (aQ (pv 0) U) (aJ _)) (aQ (pv 0) U) (aQ (pv 0) U)))),3];erw[153,p,C,B,37,G,T.cl,T.n1,iz _ _ _,230];refine ite2 (λc=>?_) (λc=>?_)
 .erw[9,p,C,B,37,G,T.cl,T.n2,jD _ _ _,3];rw[Ti (V.int.inj (S8 c))]at k;exact k
 .erw[9,p,C,B,37,G,T.cl,T.n1,iz _ _ _,3];rw[Tj (λz=>c (Sx (by rw[z])))]at k
  exact k
def ck:az ["web","ties","signs","waiting","place","number","tie","there"] ["web","ties"] (aq lM):=by ac_nf
def ok_lo{f2 cu cv g0 g1 PL PS WC:fc}{d2 cy cz cB bd:ge}(F:Fun K "laying_of" "laying_of" lM f fd)(T:Txt mg)(cw:CW K WC)(TL:CT K PL)(TS:CT K PS)(bf:lw 3 "refuse_ties" ["web","ties"] (spRT PL PS WC) I J)(al:lw 1 "mask_of" ["places"] (mP K) f2 d2)(a0:Met P w K mg base 1 PL "across" ["self","place"] (mQ PL) cu cy)(a1:Met P w K mg base 1 PS "across" ["self","place"] (mQ PS) cv cz)(u0:Met P w K mg base 1 PL "wish" ["self"] (jx k9) g0 cB)(u1:Met P w K mg base 1 PS "wish" ["self"] (jx kt) g1 bd):li 4 f fd ["web","ties"] (spLO PL PS WC):=by
 refine F.ok ck λab A aa s H vs Q dO u h=>?_
 let p S m es ts ks rs rfl wt wr g ro kl m0 am few bR ev kk:=h;let hu:=pG u;let ar:=u.units;let bi:=TL.cl;let bm:=TS.cl;let mf:=Kk g;let b6:=Bv ro;let bH:∀ r∈rs,r.L<=900:=λr u=>by
  let:=eJ (ro.ring r u).nd (ro.ring r u).lt;lia
 let dx fs q1 xs q3 z3 hp lm l1 eK tk l3 h3 ca:=id wt
 intros;erw[_,(af (aW (bf.c u (ae (pv 0) (ae (pv 1) ai))))
   (af (aA 2 ck.nd (uN (pV ak ak uE) U U (λz=>by cases z) ∅))
   (af (aA 3 ck.nd (bX (ae ak ai)))
   (af (gC PassesOwn.never (aD (EH ar) (pv 3) (bX ai) (aJ _)) (af (aA 4 ck.nd (EE Na PySem.F.slot_list_pop PySem.F.type_list_pop mt_pop (pv 3)))
   (ao (mx (aM (ba (aQ (pv 0) U) (pv 4))) (bq 5 ck.nd) (af (aA 6 ck.nd (ba (aQ (pv 0) U) (pv 5)))
   (af (aA 7 ck.nd (Cj (uK (pv 6) bi a0.me a0.ok (u.mono ∅) a0.bn .nil iX (ae (pv 4) ai)) (uK (pv 6) bm a1.me a1.ok (u.mono ∅) a1.bn .nil iX (ae (pv 4) ai))))
   (ao (bJ (By (qN hu (pv 7) (pv 2))) (af (ig hu (pv 2) (pv 7) (ay eX (ay eX (iW hu (pv 2) (pv 4) (λ_ _=>rfl)) (Cj (dU (pv 6) bi u0.me u0.ok (u.mono ∅) u0.bn .nil iX) (dU (pv 6) bm u1.me u1.ok (u.mono ∅) u1.bn .nil iX))) (ay cV (ay gf (pv 1) (pv 5)) ak)) U)
   (ao (aW (eF Na Nq Np aX (pv 3) (ae (pv 7) ai))))) aN))))))))
   (ao (aG (al.c u (ae (cM [("signs",2)] ["place"] (Lr (pv 2)) pg_c (λC ex s H=>(fV (aD cH (iW hu (pv 1) (pv 0) (λ_ _=>rfl)) ak (aJ _)))) (λC ex s H=>(pv 0))) ai)))))))),3]
 let cnt:=zu g ro;erw[153,p,S,es,ks,rs,U,wr,kl,few,4,bH,ev,λH1 s1=>?_]
 intro d hd;erw[ag,[(.inl ((0:R):Y),.int 0)],U,(by show 1<=15;decide),3]
 let sd:Same H1 (upd (upd H1 d (.dK [])) d (.dK (eY [] [(.inl ((0:R):Y),.int 0)]))):=aK (aj hd _) hd _;let bG:(upd (upd H1 d (.dK [])) d (.dK (eY [] [(.inl ((0:R):Y),.int 0)]))) d=Z (.dK (kvS (λ_=>k9) [0])):=by
  rw[ag];rfl
 generalize upd (upd H1 d (.dK [])) d (.dK (eY [] [(.inl ((0:R):Y),.int 0)]))=n at sd bG;erw[(by show 1<=RO;decide),λq hq=>?_]
 let sq:=aj hq (.lst [.int 0]);let cb:q≠d:=λz=>by simp!
 let an:H1 q=lf:=jQ sd hq;erw[λmm L H'=>∃(Pl:R->ke)(ps wl:E R)(v4 v5 v6 v7:j5 V),mm=2*(m-ps.L)+wl.L/\mm<=80/\L=[Z (.ref p),Z (.int (S:Y)),Z (.ref d),Z (.ref q),v4,v5,v6,v7]/\Same H1 H'/\H' d=Z (.dK (kvS Pl ps))/\H' q=Z (.lst (wl.Z iV))/\Met' m ps wl,#[_,λ_=>k9,[0],[0],597,(by show 2*(m-1)+1<=80;lia),U,sd.P sq,sq _ _ bG,ag,#[∅,λx B=>by rw[MQ.mp B];exact m0,λx B=>B]],3]
 rintro mm L H3 ⟨Pl,ps,wl,v4,v5,v6,v7,rfl,cR,rfl,s3,bY,aL,mt⟩;erw[9,(by show 0<=RO;exact ND _),λl hl=>?_]
 let sl:=aj hl (.lst []);erw[5,zT (SqL.of (sl _ _ aL)),zT (ps:=[]) (SqL.of ag),i6 _,i6 _,57];rw[BX];let cc:=s3.P sl;let cd:=sl _ _ bY;let bv:=sl _ _ aL;generalize upd H3 l (.lst [])=H4 at cc cd bv;refine ite2 (λc=>?_) (λc=>?_)
 .let ne:wl≠[]:=λz=>by rw[z,Sx U]at c;cases c
  let co:wl.dropLast++[wl.getLast ne]=wl:=Rc ne;let x B:∃ x,x=wl.getLast ne:=#[9];let a8 hw:∃ a8,a8=wl.dropLast:=#[9];rw[← B,← hw]at co;subst co;clear B hw ne c;let cq:=mt.wn x ∅
  let xm:=mt.lt x cq;let row av:∃ row,ts[x]?=Z row:=#[_,MG (by rw[g.w.len];exact xm)]
  let cW:=Ir mt.nd mt.lt;erw[λac H'=>∃(Pl:R->ke)(aT a9:E R)(v4 v5 v6 v7:j5 V),2*(m-aT.L)+a9.L<2*(m-ps.L)+(a8++[x]).L/\ac=[Z (.ref p),Z (.int (S:Y)),Z (.ref d),Z (.ref q),v4,v5,v6,v7]/\Same H1 H'/\H' d=Z (.dK (kvS Pl aT))/\H' q=Z (.lst (a9.Z iV))/\Met' m aT a9,λac H' ⟨Pl,aT,a9,a4,a5,a6,a7,lt,e1,e2,e3,e4,e5⟩=>#[_,lt,Pl,aT,a9,a4,a5,a6,a7,U,NH (M4 lt) cR,e1,e2,e3,e4,e5],3];let ce:((a8++[x]).Z iV)[((a8++[x]).Z iV).L-1]?=Z (iV x):=by
   rw[M0,MP,MI];show(a8.Z iV++[iV x])[a8.L+1-1]?=_;rw[QH,MR (by rw[MI];exact MN _),MI,Nz]
   rfl
  erw[9,.inl #[6,SqL.of bv],q,_,iV x,10,bv,ce,3];let ch:((a8++[x]).Z iV).dropLast=a8.Z iV:=by
   rw[M0];exact List.dropLast_concat
  rw[ch];let s5:Same H1 (upd H4 q (.lst (a8.Z iV))):=aK cc an _;let cs:(upd H4 q (.lst (a8.Z iV))) d=Z (.dK (kvS Pl ps)):=by rw[aw (Ne.X cb)];exact cd
  let aS:(upd H4 q (.lst (a8.Z iV))) q=Z (.lst (a8.Z iV)):=ag;generalize upd H4 q (.lst (a8.Z iV))=H5 at s5 cs aS;let r r1 r2:=ca.2 x row av;let ci:=s1.P s5;let rl:row.L<=es.L:=eJ (g.w.nd x row av) λt ht=>by
   let e O _:=(g.w.mem x row av t).mp ht;exact(MF.mp O).1
  erw[9,p,WC,dx,fs,9,ci _ _ hp,cw.cl,cw.n3,l3,9,q3,z3,165,SqL.of (ci _ _ h3),aF r1,r,U,#[_,SqL.of (ci _ _ r2)],br (K:=K) (xs:=row.Z iV) (λj L H6=>∃(Pl:R->ke)(aT a9:E R)(v5 v6 v7:j5 V),L=[Z (.ref p),Z (.int (S:Y)),Z (.ref d),Z (.ref q),Z (iV x),v5,v6,v7]/\Same H1 H6/\H6 d=Z (.dK (kvS Pl aT))/\H6 q=Z (.lst (a9.Z iV))/\Met' m aT a9/\x∈aT/\2*(m-aT.L)+a9.L<2*(m-ps.L)+(a8++[x]).L) #[Pl,ps,a8,149,s5,cs,aS,#[mt.nd,mt.lt,λy hy=>mt.wn y (by simp[hy])],cq,by rw[MP,M9];lia] (λj L H6 _ ah=>by let _ _ _ _ _ _ _ z _:=ah;exact SqL.of (z _ _ (s1 _ _ r2))) ?_ ?_]
  .rintro j v L H6 bb ⟨Pl,aT,a9,v5,v6,v7,rfl,s6,bU,a3,bB,b0,b5⟩;rw[MO]at bb;let t ht rfl:=MZ.mp bb;let e O aI:=(g.w.mem x row av t).mp (MH ht);let k N:∃ k,ks[t]?=Z k:=#[_,MG (by let:=(MF.mp O).1;lia)]
   let cm:=s1.P s6;let p' ap x1 x2:=(tk.mono cm).2 t e k O N;let b1 b2 bne:=g.w.ends e (MH O);let om:oth e x<m:=by unfold oth;split<;>assumption
   let cT:=Ir bB.nd bB.lt;let ct:(if(x:Y)=(e.1:Y) then(e.2:Y) else(e.1:Y))=((oth e x:R):Y):=by
    unfold oth;by_cases c:x=e.1
    .rw[Ti ∅,Ti c]
    .rw[Tj ∅,Tj c]
   erw[9,p,WC,dx,fs,9,cm _ _ hp,cw.cl,cw.n2,l1,9,q1,xs,165,SqL.of (cm _ _ eK),aF x1,3];let bQ:∀ b:ke,oth e x∉aT->∃ G,putK (kvS Pl aT) (.inl ((oth e x:R):Y)) (.int (Sh (Sh (sI (Pl x)) (if b=kt then 1 else 0)) (Se ((S:Y)/2^((t:R):Y).R) 1)))=kvS G (aT++[oth e x]):=λb a2=>#[_,by rw[bt_sI,xor3];exact L8 a2 _]
   let bg:∀ o,(upd H6 d o) q=Z (.lst (a9.Z iV)):=λo=>by rw[aw cb];exact a3
   by_cases c:k.1=1
   case' pos=>rw[Sx c]at x2;let bQ:=bQ kt;refine .inr ?_
   case' neg=>rw[RN c]at x2;let bQ:=bQ k9;refine .inl ?_
   all_goals
    erw[9,p',ap,9,x2,qy _ _ _ ∅ ∅ ∅,9,p',21,(x:Y),U,#[ap,x2],3]
    rw[ct]
    erw[153,d,9,.inl #[_,.inl ((oth e x:R):Y),.inl bU,10],57]
    by_cases a2:oth e x∈aT
    .rw[Fi bB.nd a2]
     exact iteF #[Pl,aT,a9,149,s6,bU,a3,bB,b0,b5]
    let G eG:=bQ a2
    rw[Ke a2]
    refine iteT #[153,d,9,.inl #[_,.inl (x:Y),.inl bU,U,(Fi bB.nd b0).X],3]
    first
     |refine .inr #[9,p',ap,9,x2,qy _ _ _ ∅ ∅ ∅,p',43411094,(show(0:Y)<=(t:Y) by lia),239013]
     |refine .inl #[9,p',ap,9,x2,qy _ _ _ ∅ ∅ ∅,p',43411094,(show(0:Y)<=(t:Y) by lia),239013]
    erw[153,d,9,DPut.k (k:=.inl ((oth e x:R):Y)) bU (ax (by unfold kvS;rw[MI];lia)),3]
    erw[9,.inl #[6,SqL.of (bg _)],9,q,165,bg _,ax (by rw[MI];lia),3]
    erw[G,aT++[oth e x],a9++[oth e x],149,aK (aK s6 hd _) an _,15,bB.new a2 om,NG _ b0,3]
    .rw[aw (Ne.X cb),ag,eG]
    .rw[ag,M0];rfl
    .simp only[MP,M9]at b5 ⊢
     let:=Ir (NP.mpr #[bB.nd,∅,λa ha b M z=>a2 (by rw[← MQ.mp M,← z];exact ha)]:(aT++[oth e x]).h) (m:=m) (λy hy=>(Ng.mp hy).elim (bB.lt y) λz=>by rw[MQ.mp z];exact om)
     rw[MP,M9]at this
     lia
  .rintro L H6 ⟨Pl,aT,a9,v5,v6,v7,rfl,s6,bU,a3,bB,b0,b5⟩;erw[Pl,aT,a9,85,b5,U,s6,bU,a3,bB]
 .let e0:wl=[]:=by
   cases wl with
   |nil=>rfl
   |cons a b=>exact Tn (by rw[RN ∅];rfl) c
  subst e0;erw[9,d,9,cd,λo=>?_];let cT:=Ir mt.nd mt.lt;refine De (kvs:=kvS Pl ps) (d:=d) (o:=o) (λi ys H5=>H5=upd H4 d (.frz o (.dK (kvS Pl ps)))/\ys=((ps.x i).filter Pl).Z iV) (M4 (ax (by unfold kvS;rw[MI];lia))) #[10] (λi ys H5 _ z=>by rw[z.1];exact ag) ?_ ?_ ?_
  .rintro i ky y ys H5 cn ⟨rfl,rfl⟩;unfold kvS at cn;rw[MO]at cn;let x B e2:=MZ.mp cn
   cases e2
   let et:ps.x (i+1)=ps.x i++[x]:=by rw[M5,B];rfl
   erw[614,d,9,.inl #[_,.inl (x:Y),.inr #[o,ag],U,(Fi mt.nd (MH B)).X],230]
   cases be:Pl x with
   |true=>
    refine iteT #[233];rw[et,OG,M0,OO be];rfl
   |false=>
    refine iteF #[14];rw[et,OG,M0,OP (by rw[be];exact Nr)]
    simp
  .rintro ys H5 ⟨rfl,rfl⟩ D hD;let el:(kvS Pl ps).L=ps.L:=by unfold kvS;rw[MI]
   rw[el,M8];erw[D,ps.filter Pl,U,SqL.of ag,λx B=>?_,3]
   .let:=mt.lt x (N0.mp B).1
    lia
   .let sF:Same H1 (upd (upd H4 d (.frz o (.dK (kvS Pl ps)))) D (.lst (((ps.filter Pl)).Z iV))):=(aK cc hd _).P (aj hD _)
    exact kk _ _ (s1.P sF) (Oo _ λx B=>by rw[gh x _ _ U];exact RN λz=>by let:=mt.lt x (N0.mp z).1;lia)
  .rintro i ys H5 ⟨_,rfl⟩;rw[MI];exact NH (Oa _ _) (by rw[NQ];exact O0 _ _)
theorem cC.smT(h:cC H xs ts)(s:KF.SmT H H'):cC H' xs ts:=#[h.1,λi l e=>by
 let p a b:=h.2 i l e
 erw[p,a,s.lst b]]
theorem oM.smT{PS:fc}{ks:Kn}(h:oM f PS H xs es ks)(s:KF.SmT H H'):oM f PS H' xs es ks:=#[h.1,λi e k eK O=>by
 let p B a b:=h.2 i e k eK O
 erw[p,B,a,s _ _ (λN y=>by cases y) b]]
def WebR.smT{j PS T p:fc}{H H':Hp}{es:En}{ks:Kn}{rs:oD}(h:WebR j PS T H p es ks rs)(s:KF.SmT H H'):WebR j PS T H' p es ks rs:=by
 let B fs dO D O n a b c d e f g:=h;erw[B,fs,dO,D,O,n,s _ _ (λN y=>by cases y) a,b,s.lst c,d.smT s,e,s.lst f,g.smT s]
def WebT.smT{j PS T p:fc}{H H':Hp}{m:R}{es:En}{ts:oD}{ks:Kn}(h:WebT j PS T H p m es ts ks)(s:KF.SmT H H'):WebT j PS T H' p m es ts ks:=by
 let B fs dO D z l a b c d e f g i:=h;erw[B,fs,dO,D,z,l,s _ _ (λN y=>by cases y) a,b,c,s.lst d,e.smT s,f,s.lst g,i.smT s]
structure Rg(m:R)(es:En)(ts:oD)(ks:Kn)(rs:oD)(ls:E KF.Lk):Prop where
 o:Oth m es ts ks rs ls
 r2:rs.L=2
 tw:∀ l∈ls,l.1≠l.2.1
 w1:∀ l∈ls,1<=l.2.2
 od:MK (oddU (MK (bp ks) es.L) rs) rs.L=3
 few:es.L<=40
 m40:m<=40
 e2:2<=es.L
 kin:∀ k∈ks,k.1=0∨k.1=1
structure WebL(TT PL PS WC:fc)(H:Hp)(p m:R)(es:En)(ts rs:oD)(ks:Kn)(ls:E KF.Lk):Prop where
 wf:∃ S,WebF S PL PS WC H p m es ts rs ks
 rg:Rg m es ts ks rs ls
 tb:Tb KF.lqF KF.lpF TT H
inductive D3(TT PL PS WC:fc)
 |mk (p:fc)(m:R)(es:En)(ts rs:oD)(ks:Kn)(ls:E KF.Lk) (_:vs=[.ref p])(_:WebL TT PL PS WC H p m es ts rs ks ls)(_:∀(t:fc)(d:R)(v0 v1 v2:V)(H':Hp),KF.SmT H H'->Tb KF.lqF KF.lpF TT H'->H' t=Z (.tup [v0,v1,v2])->KF.Pp2 H' v2 d->(∃ l∈ls,l.2.2=(d:Y))->(∀ l∈ls,(d:Y)<=l.2.2)->Q (.ref t) H')
def mT:az ["web","marks","many","links","found"] ["web"] (aq zm):=by ac_nf
def Ig{TT f4 f5 PL PS WC:fc}{d3 d4 d5:ge}(F:Fun K "least" "least" zm f fd)(T:TxtO mg)(cw:CW K WC)(an:lw 4 "marks_of" ["web"] (yW PL PS WC) a G)(al:lw 1 "links_of" ["web"] (ud PL PS WC) C J)(ap:lw 11 "paired" ["many","links","marks"] (KF.spPaired TT) I d3)(a4:lw 4 "laying_of" ["web","ties"] (spLO PL PS WC) f4 d4)(bf:lw 12 "hills" ["many","links","marks"] (KF.spHills TT) f5 d5):li 13 f fd ["web"] (D3 TT PL PS WC):=by
 refine F.ok mT λaa A j s H vs Q dO u h=>?_
 let p m n ts rs ks ls rfl wl kk:=h;let{S wf}rg tb:=wl;let O:=rg.o;let a9:=rg.kin;let few:=rg.few;let ab:=rg.m40;let r2:=rg.r2;let g:=O.g;let kl:=O.kl;let ln:=O.d.ln;let aS:=rg.e2;let dx fs q1 xs e wg _ l2 ac tk:=id wf;let q5 z5 l5 am r5:=wg.rounds;let q6 z6 l6 ar r6:=wg.sides;let ro:=wg.part;let m2:=O.m2;let a6:∀ r∈rs,r.L<=900:=λr u=>by
  let:=eJ (ro.ring r u).nd (ro.ring r u).lt;lia
 let bg:z5.L=2:=r5.1.P r2
 intros;erw[_,(af (aA 1 mT.nd (an.c u (ae (pv 0) ai)))
   (af (aA 2 mT.nd (aE aB (by rfl) T.n_len bE (ae (aQ (pv 0) U) ai)))
   (af (aA 3 mT.nd (al.c u (ae (pv 0) ai)))
   (af (aA 4 mT.nd (ap.c u (ae (pv 2) (ae (pv 3) (ae (pv 1) ai)))))
   (ao (aG (bN (ae (bV (pv 4) ak) (ae (a4.c u (ae (pv 0) (ae (bV (pv 4) ak) ai))) (ae (bf.c u (ae (pv 2) (ae (pv 3) (ae (pv 1) ai)))) ai)))))))))),3]
 erw[9,p,n,ks,rs,U,wf.r,kl,20,a6,λv b=>?_]
 erw[9,p,WC,dx,fs,9,b _ _ e,cw.cl,cw.n4,l5,q5,z5,U,.inl (SqL.of (b _ _ am)),3];rw[bg];erw[9,p,n,ks,rs,U,#[dx,fs,q1,xs,q6,z6,b _ _ e,l2,b _ _ ac,tk.mono b,l6,b _ _ ar,r6.mono b],kl,4,λq y M s2 nq hq lk=>?_]
 let a7:=O.d.lnk (λi l B=>by
  let k eK N _:=O.ws i l B
  erw[k,eK,N]) lk
 let ah:=b.P s2;let a0:=KF.tb_same tb ah;let a8:=O.lok1 ∅
 rw[r2]at a8;let cr:=KF.Crs.of a8 rg.tw;rw[rg.od];let bv:KF.LnAt M (.ref q) ls:=#[q,y,U,hq,a7];erw[2457,.ref q,03,ls,U,bv,a8,cr,4,.inr U,a0,λr4 c4 u4 H4 aI av aL bi=>?_]
 let _ _ k4 a5 rfl:=bi.resolve_left λz=>by cases z.1
 let bm:=cr.odd a5;generalize 2^k4=u4 at aL bm;let bb:=(KF.SmT.of ah).P aI;let ev:ME rs u4 (MK (bp ks) n.L):=λk r D=>by
  let a1:=O.d.oddN u4 D;let a2:=O.d.oddN (MK (bp ks) n.L) D;let bB:=O.d.marks (MK (bp ks) n.L);rw[rg.od]at bB;rw[ln]at bm;rw[bm,bB,a2,xq,xq]at a1;let:=decide_eq_decide.mp a1;unfold parR at this ⊢;lia
 erw[9,r4,_,00,41,SqT.of aL,at0,153,r4,_,01,41,SqT.of aL,at1,p,u4,m,n,ts,ks,rs,U,wf.t.smT bb,wf.r.smT bb,g,ro,kl,84,a9,ev,λL H5 s5 ly=>?_]
 let be:=KF.tb_same av s5;let bd:=aI.P (KF.SmT.of s5);erw[2457,.ref q,02,03,ls,42,bv.smT bd,a8,4,rg.tw,rg.w1,4,be,λq7 bG d H7 bn a3 aT bH bQ bR=>?_]
 erw[(by show 3<=RO;decide),λt ht=>?_]
 let st:=aj ht (.tup [.int c4,.int (L:Y),.ref q7]);let t7 y7 z7:=bH.2 0 _ U;let e7:bG=[.ref t7]:=by
  match bG,bH.1,y7 with
  |[x],_,y7=>cases y7;rfl
 rw[e7]at aT;exact kk t d _ _ _ _ ((KF.SmT.of ah).P (bd.P (bn.P (KF.SmT.of st)))) (KF.tb_same a3 st) ag #[q7,t7,U,st _ _ aT,st _ _ z7] bQ bR
def WebS.smT{j PS T p:fc}{H H':Hp}{es:En}{ks:Kn}{rs:oD}(h:WebS j PS T H p es ks rs)(s:KF.SmT H H'):WebS j PS T H' p es ks rs:=by
 let B fs dO D O n a b c d e f g:=h;erw[B,fs,dO,D,O,n,s _ _ (λN y=>by cases y) a,b,s.lst c,d.smT s,e,s.lst f,g.1,λi J=>?_]
 let t x y r m u M o l k q:=g.2 i J;erw[t,x,y,r,m,u,s.tup M,o,l,k,q]
def tgD(ls:E KF.Lk)(d k:R):ke:=decide ((KF.lkA ls k).2.2=(d:Y))
inductive spTT(PL PS WC:fc)
 |mk (p:fc)(pv:V)(m:R)(es:En)(ts rs:oD)(ks:Kn)(ls:E KF.Lk)(d:R) (_:vs=[.ref p,pv])(_:WebS PL PS WC H p es ks rs)(_:Rg m es ts ks rs ls)(_:KF.Pp2 H pv d)(_:∀ H',o5->Q (.int ((MK (tgD ls d) es.L:R):Y)) H')
def uo:az ["web","paper"] ["web","paper"] (aq jH):=by ac_nf
def ok_tt{f3 PL PS WC:fc}{d3:ge}(F:Fun K "tight_ties" "tight_ties" jH f fd)(T:Txt mg)(ac:lw 1 "links_of" ["web"] (ud PL PS WC) a G)(al:lw 1 "paid_over" ["link","paper"] KF.spPaid I J)(ab:lw 1 "mask_of" ["places"] (mP K) f3 d3):li 2 f fd ["web","paper"] (spTT PL PS WC):=by
 refine F.ok uo λaa A g s H vs Q dO u h=>?_
 let p pw m L ts rs ks ls d rfl wb rg pp kk:=h;let O:=rg.o;let few:=rg.few;let ln:=O.d.ln;let r2:=rg.r2;intros;erw[_,(ao (aG (ab.c u (ae (cM [("paper",1)] ["number","link"] (lZ U T.n_enumerate (ae (ac.c u (ae (pv 0) ai)) ai)) (λC ex s H=>(dD (n:=2) (K:=K) U U (aC (aY (i:=0) (show(["number","link","paper"]:E fI).h from by decide) U (Or.inl U)) (aC (aY (i:=1) (show(["number","link","paper"]:E fI).h from by decide) U (Or.inl U)) bx)))) (λC ex s H=>(fV (aD cH (al.c u (ae (pv 1) (ae (pv 2) ai))) (ay gG ak (pA K (pv 1) ak)) (aJ _)))) (λC ex s H=>(pv 0))) ai)))),3]
 erw[9,p,L,ks,rs,U,wb,O.kl,4,λq y j v nq hq lk=>?_]
 let am:=O.d.lnk (λi l b=>by
  let k eK N _:=O.ws i l b
  erw[k,eK,N]) lk
 let zl:=am.1;let an:=pp.mono v;erw[q,U,#[_,SqL.of hq],lr (K:=K) (xs:=y) (λi r M=>Same j M/\r=(upL (tgD ls d) i).Z iV) (M4 (ax ∅)) #[λ_ _ e=>e,U] (λi r M _ z=>SqL.of (z.1 _ _ hq)) ?_ ?_ (λi r M z=>by rw[z.2,MI];unfold upL;exact NH (Oa _ _) ∅)]
 .rintro i x r M T2 B ⟨s2,rfl⟩ ah;let l b t rfl ht:=am.get B;let sT:=aj ah (.tup [.int (i:Y),.ref t]);let s3:=s2.P sT;let tg:tgD ls d i=decide (l.2.2=(d:Y)):=by unfold tgD;rw[KF.lkA_is b]
  erw[T2,9,SqT.of ag,959894];erw[153,.ref t,pw,l,d,U,#[t,U,s3 _ _ ht],(r2▸O.d.rooms l (MH b)).1,(r2▸O.d.rooms l (MH b)).2,rg.tw l (MH b),an.mono s3,λH4 s4=>?_];erw[9,t,_,02,41,SqT.of (s4 _ _ (s3 _ _ ht)),662,.inl #[by decide,by decide],230]
  rw[pP,tg];refine ite2 (λc=>?_) (λc=>?_)
  .let c':=V.int.inj (S8 c)
   rw[Ti (Sx (show l.2.2=(d:Y) by lia)),M0]
   erw[9,s3.P s4,U]
  .rw[Tj (λz=>c (Sx (congrArg V.int (by let:=S8 z;lia))))]
   erw[s3.P s4,U]
 .rintro r M ⟨s2,rfl⟩ D hD;erw[D,upL (tgD ls d) y.L,U,SqL.of ag,λx B=>?_,3]
  .let:=Nk.mp (N0.mp B).1
   lia
  .rw[qP,zl,ln];exact kk _ ((v.P s2).P (aj hD _))
def Nb(es:En)(x y:R):Prop:=∃ e∈es,(e.1=x/\e.2=y)∨(e.2=x/\e.1=y)
theorem zS{x y:R}:Nb es x y->Nb es y x:=λ⟨e,h,z⟩=>#[e,h,z.X.imp (λ⟨a,b⟩=>#[b,a]) λ⟨a,b⟩=>#[b,a]]
def LU{e:R×R}(N:es[i]?=Z e){x y:R}:Nb (es.x (i+1)) x y↔Nb (es.x i) x y∨(e.1=x/\e.2=y)∨(e.2=x/\e.1=y):=by
 unfold Nb;rw[M5,N];constructor
 .rintro⟨Q,h,z⟩;obtain h|h:=Ng.mp h
  .exact .inl #[Q,h,z]
  .rw[MQ.mp h]at z;exact .inr z
 .rintro(⟨Q,h,z⟩|z)
  .erw[Q,NG _ h,z]
  .erw[e,Nj _ (MQ.mpr U),z]
def Ed{ns:E R}{c d:R}(g:ns[c]?=Z n){x y:R}:((ns.set c (n|||2^d)).v x 0).O y=kt↔(ns.v x 0).O y=kt∨(x=c/\y=d):=by
 let e:=(MF.mp g).1;rw[MX,MX];by_cases z:x=c
 .subst z;rw[Pe e,g];show(n|||2^d).O y=kt↔n.O y=kt∨_
  rw[NS,Nu,Pm,decide_eq_true_iff];exact or_congr Iff.rfl #[λh=>#[U,h.X],λh=>h.2.X]
 .rw[Pq (λh=>z h.X)];erw[.inl,λh=>h.elim id λh=>Tn h.1 z]
def Ku{b:R}:n&&&b≠n↔∃ y,n.O y=kt/\b.O y=k9:=by
 constructor
 .refine λh=>NY λk=>h (NC λy=>?_);rw[NA]
  cases z:n.O y with
  |false=>rfl
  |true=>
   cases w:b.O y with
   |true=>rfl
   |false=>exact Tn #[y,z,w] k
 .rintro⟨y,eK,O⟩ e;let:=congrArg (λn=>n.O y) e;rw[NA,eK,O]at this
  cases this
def NrA(H:Hp)(a:fc)(m:R)(es:En)(ns:E R):Prop:=H a=Z (.lst (ns.Z iV))/\(ns.L=m/\((∀ n∈ns,n<2^m)/\∀ x y,(ns.v x 0).O y=kt↔Nb es x y))
def OnF(es:En)(B:R->Prop)(x:R):Prop:=B x/\∃ y,Nb es x y/\¬ B y
structure Cyc(m:R)(es:En)(pl:R->R):Prop where
 m2:2<=m
 lt:∀ i,pl i<m
 per:∀ i j,pl i=pl j↔i%m=j%m
 nb:∀ x y,Nb es x y↔∃ i,(x=pl i/\y=pl (i+1))∨(y=pl i/\x=pl (i+1))
 sur:∀{x},x<m->∃ i,x=pl i
def Arc(pl:R->R)(B:R->Prop)(s k:R):Prop:=∀ x,B x↔∃ j,j<k/\x=pl (s+j)
section
variable{m:R}{es:En}{pl:R->R}{B:R->Prop}{s k:R}
def Cyc.suc(C:Cyc m es pl)(h:pl i=pl j):pl (i+1)=pl (j+1):=by
 let:=(C.per i j).mp h;exact(C.per _ _).mpr (by rw[OY,this,← OY])
def Cyc.pre(C:Cyc m es pl)(h:pl (i+1)=pl (j+1)):pl i=pl j:=by
 let eK:=(C.per _ _).mp h;let O:=C.m2;refine(C.per _ _).mpr ?_;let G:(i+1+(m-1))%m=(j+1+(m-1))%m:=by rw[OY,eK,← OY]
 rw[show i+1+(m-1)=i+m by lia,show j+1+(m-1)=j+m by lia,OR,OR]at G
 exact G
def Cyc.ends(C:Cyc m es pl)(A:Arc pl B s k){x y:R}(G:B x)(h:Nb es x y)(dO:¬ B y):(x=pl s/\y=pl (s+m-1))∨(x=pl (s+(k-1))/\y=pl (s+k)):=by
 let v:=C.m2;let j L rfl:=(A x).mp G;obtain⟨i,⟨eK,rfl⟩|⟨rfl,eK⟩⟩:=(C.nb _ _).mp h
 .let e:=C.suc eK
  let:j+1=k:=NY λz=>dO ((A _).mpr #[j+1,4,e.X])
  subst this;exact .inr #[U,e.X]
 .by_cases c:j=0
  .subst c;refine .inl #[14];refine C.pre (eK.X.P ((C.per _ _).mpr ?_));rw[show s+m-1+1=s+m by lia,OR,Nat.add_zero]
  .let j rfl:∃ i,j=i+1:=#[j-1,4]
   exact Tn ((A _).mpr #[j,4,(C.pre eK).X]) dO
def Cyc.grow(C:Cyc m es pl)(A:Arc pl B s k){x q:R}(G:B x)(h:Nb es x q)(n:¬ B q):∃ s',Arc pl (λz=>B z∨z=q) s' (k+1):=by
 let v:=C.m2;rcases C.ends A G h n with⟨_,rfl⟩|⟨_,rfl⟩
 .erw[s+m-1,λz=>#[15]]
  .rintro(h|rfl)
   .let j L rfl:=(A z).mp h;erw[j+1,4,(C.per _ _).mpr (by rw[show s+m-1+(j+1)=s+j+m by lia,OR])]
   .erw[00,12]
  .rintro⟨j,L,rfl⟩;by_cases c:j=0
   .subst c;exact .inr U
   .let j rfl:∃ i,j=i+1:=#[j-1,4]
    exact .inl ((A _).mpr #[j,4,(C.per _ _).mpr (by rw[show s+m-1+(j+1)=s+j+m by lia,OR])])
 .erw[s,λz=>#[15]]
  .rintro(h|rfl)
   .let j L rfl:=(A z).mp h;erw[j,12]
   .erw[k,12]
  .rintro⟨j,L,rfl⟩;by_cases c:j=k
   .subst c;exact .inr U
   .exact .inl ((A _).mpr #[j,12])
def Cyc.next(C:Cyc m es pl)(A:Arc pl B s k)(D:0<k)(h:k<m):B (pl (s+(k-1)))/\Nb es (pl (s+(k-1))) (pl (s+k))/\¬ B (pl (s+k)):=by
 erw[(A _).mpr #[k-1,12],(C.nb _ _).mpr #[s+(k-1),.inl #[U,by rw[show s+(k-1)+1=s+k by lia]]],λz=>?_]
 let j L e:=(A _).mp z;let:=(C.per _ _).mp e;let eK:(s+k-(s+j))%m=0:=Pa this;rw[show s+k-(s+j)=k-j by lia,Nv ∅]at eK
 lia
def Cyc.own(C:Cyc m es pl){p:R}(h:Nb es p p):False:=by
 let v:=C.m2;let B:∀ i,pl i≠pl (i+1):=λi e=>by
  let eK:=Pa ((C.per _ _).mp e).X;rw[show i+1-i=1 by lia,Nv ∅]at eK
  cases eK
 obtain⟨i,⟨eK,O⟩|⟨eK,O⟩⟩:=(C.nb _ _).mp h<;>exact B i (eK.X.P O)
end
def le2(a b:T3):Prop:=a.1<b.1∨(a.1=b.1/\a.2.1<=b.2.1)
def lt3_2{a b:T3}:(lt3 a b=kt->le2 a b)/\(lt3 a b=k9->le2 b a):=by
 unfold lt3 lexB le2;by_cases c:a.1=b.1
 .rw[Ti c];unfold lexB;by_cases d:a.2.1=b.2.1
  .erw[λ_=>.inr #[c,4],λ_=>.inr #[c.X,4]]
  .rw[Tj d];erw[λh=>.inr #[c,by let:=S8 h;lia],λh=>.inr #[c.X,by let:=of_decide_eq_false h;lia]]
 .rw[Tj c];erw[λh=>.inl (S8 h),λh=>.inl (by let:=of_decide_eq_false h;lia)]
def Fg{a b c:T3}(h:le2 a b)(k:le2 b c):le2 a c:=by
 unfold le2 at *;lia
theorem best2(W:R->T3):∀ k,argBest (λi j=>lt3 (W i) (W j)) k<=k/\∀ j,j<=k->le2 (W (argBest (λi j=>lt3 (W i) (W j)) k)) (W j)
 |0=>#[MN _,λj L=>by
  let e:j=0:=by lia
  rw[e]
  exact .inr #[U,N6 _]]
 |k+1=>by
  let eK O:=best2 W k;let e:argBest (λi j=>lt3 (W i) (W j)) (k+1)=if lt3 (W (k+1)) (W (argBest (λi j=>lt3 (W i) (W j)) k))=kt then k+1 else argBest (λi j=>lt3 (W i) (W j)) k:=rfl;rw[e]
  cases c:lt3 (W (k+1)) (W (argBest (λi j=>lt3 (W i) (W j)) k)) with
  |true=>
   rw[Ti U];let G:=lt3_2.1 c;erw[MN _,λj L=>?_];by_cases z:j=k+1
   .rw[z];exact .inr #[U,N6 _]
   .exact Fg G (O j ∅)
  |false=>
   rw[Tj ∅]
   let G:=lt3_2.2 c;erw[4,λj L=>?_]
   by_cases z:j=k+1
   .rw[z];exact G
   .exact O j ∅
theorem KS{a b:R}(nd:l.h)(h:∀ x∈l,x=a∨x=b):l.L<=2:=KF.nd_len (ps:=[a,b]) nd λx B=>by
 obtain z|z:=h x B<;>rw[z]<;>simp
theorem LZ{a b:R}(eK:a∈l)(h2:b∈l)(ne:a≠b):2<=l.L:=KF.nd_len (l:=[a,b]) (Nt.mpr #[λz=>ne (MQ.mp z),Nt.mpr #[(λz=>nomatch z),NU]]) λx B=>by
 obtain z|z:=MY.mp B
 .rw[z];exact eK
 .rw[MQ.mp z];exact h2
def trp(es:En)(B:R->Prop)(t:T3)(x:R):Prop:=∃ N M:R,t.1=(((KF.bl N).L:R):Y)/\t.2.1 = -(((KF.bl M).L:R):Y)/\(∀ z,N.O z=kt↔OnF es (λy=>B y∨y=x) z)/\∀ z,M.O z=kt↔Nb es x z/\B z
def Cyc.beside{pl:R->R}{B:R->Prop}{s k:R}(C:Cyc m es pl)(A:Arc pl B s k)(D:0<k)(h:k<m){x:R}{t:T3}(G:trp es B t x)(r:x<m)(Q:¬ B x)(aa:∀ y,y<m->¬ B y->∃ u,trp es B u y/\le2 t u):∃ z,B z/\Nb es z x:=by
 refine NY λno=>?_;let b1 b2 b3:=C.next A D h;let u{N' M' g w l o}n:=aa _ (C.lt _) b3;let N M v q d dO:=G;let c A':=C.grow A b1 b2 b3;let p:(KF.bl N').L<=2:=KS (a:=pl c) (b:=pl (c+(k+1-1))) (KF.bl_nd _) λz f=>by
  let eK y O I:=(l z).mp (KF.mem_bl.mp f);exact(C.ends A' eK O I).imp And.left And.left
 let e:1<=(KF.bl M').L:=Om (KF.mem_bl.mpr ((o _).mpr #[zS b2,b1]));let L:(KF.bl M).L=0:=by
  obtain z|z:=Nat.eq_zero_or_pos (KF.bl M).L
  .exact z
  .let y j:=PV z;let eK O:=(dO y).mp (KF.mem_bl.mp j);exact Tn #[y,O,zS eK] no
 let H:2<=(KF.bl N).L:=by
  refine LZ (a:=x) (b:=pl (s+(k-1))) (KF.mem_bl.mpr ((d _).mpr #[.inr U,3])) (KF.mem_bl.mpr ((d _).mpr #[.inl b1,pl (s+k),b2,λz=>?_])) λz=>Q (by rw[z];exact b1)
  .let i J:=C.sur r;erw[pl (i+1),(C.nb _ _).mpr #[i,.inl #[J,U]],λz=>?_];let T:Nb es x (pl (i+1)):=(C.nb _ _).mpr #[i,.inl #[J,U]];obtain z|z:=z
   .exact no #[_,z,zS T]
   .rw[z]at T;exact C.own T
  .obtain z|z:=z
   .exact b3 z
   .exact no #[_,b1,z▸b2]
 unfold le2 at n;rw[v,q,g,w]at n;lia
inductive JK(PL PS WC:fc)
 |mk (p:fc)(m:R)(es:En)(ts:oD)(ks:Kn) (_:vs=[.ref p])(_:WebT PL PS WC H p m es ts ks)(_:ks.L=es.L)(_:dJ m es ts)(_:m<=40)(_:es.L<=100)(_:∀(q:fc)(ns:E R)(H':Hp),o5->NrA H' q m es ns->Q (.ref q) H')
inductive spKof
 |mk (a:fc)(m b f:R)(es:En)(ns:E R) (_:vs=[.ref a,.int (b:Y),.int (f:Y)])(_:NrA H a m es ns)(_:m<=40)(_:f<2^m)(_:∀(N:R)(H':Hp),o5->N<2^m->(∀ x,N.O x=kt↔f.O x=kt/\∃ y,Nb es x y/\b.O y=k9)->Q (.int (N:Y)) H')
def Two(es:En)(od:E R):Prop:=∀ k,k<=od.L->∃ a b,∀ x,OnF es (·∈od.x k) x->x=a∨x=b
inductive Bh(PL PS WC:fc)
 |mk (p:fc)(m:R)(es:En)(ts:oD)(ks:Kn) (_:vs=[.ref p])(_:WebT PL PS WC H p m es ts ks)(_:ks.L=es.L)(_:dJ m es ts)(_:m<=40)(_:es.L<=100)(_:(∃ pl,Cyc m es pl))(_:∀(q:fc)(od:E R)(H':Hp),o5->H' q=Z (.lst (od.Z iV))->od.Perm (Nf m)->Two es od->Q (.ref q) H')
theorem Es(h:m<=40)(T:n<2^m):n<2^40:=Ni T (Ol ∅ h)
theorem BJ(h:∀ p∈ps,p<m):u6 ps<2^m:=Oo _ λx B=>by
 rw[gh x _ ps U];exact RN λz=>by let:=h x z;lia
def oX(M t:R):Se ((M:Y)/2^((t:R):Y).R) 1=if M.O t=kt then 1 else 0:=by
 let e:Se ((M:Y)/2^((t:R):Y).R) 1=((bt M t:R):Y):=O9 _ 1;rw[e,wq];split<;>rfl
def IG(nd:od.h)(lt:∀ x∈od,x<m)(h:od.L<m):∃ x,x<m/\x∉od:=by
 refine NY λn=>?_;let:od.Perm (Nf m):=(Oy nd Qp).mpr λx=>#[λz=>Nk.mpr (lt x z),λz=>NY λy=>n #[x,Nk.mp z,y]];let:=this.length_eq;rw[Nl]at this;lia
theorem yL(nd:od.h)(lt:∀ x∈od,x<m)(h:¬ od.L<m):od.Perm (Nf m):=(Oy nd Qp).mpr λx=>#[λz=>Nk.mpr (lt x z),λz=>NY λy=>by
 let:=eJ (a:=x::od) (N:=m) (Nt.mpr #[y,nd]) (λb M=>by
  obtain rfl|M:=MY.mp M
  .exact Nk.mp z
  .exact lt b M)
 rw[OJ]at this
 lia]
theorem Cv{ws:E T3}(h:LsAt TrA H ys ws)(s:∀ b xs,H b=Z (.tup xs)->H' b=Z (.tup xs)):LsAt TrA H' ys ws:=h.imp λ_ _ ⟨a,x,y⟩=>#[a,x,s _ _ y]
theorem DH(h:H q=Z (.lst xs)):∀ b ys,H b=Z (.tup ys)->(upd H q (.lst zs)) b=Z (.tup ys):=λb ys e=>by
 rw[aw (λz=>by simp!)]
 exact e
def tO{b fr:R}(C:b=u6 od)(c:∀ x,fr.O x=kt↔OnF es (·∈od) x)(d:∀ x,N.O x=kt↔(fr|||2^j).O x=kt/\∃ y,Nb es x y/\(b|||2^j).O y=k9)(z:R):N.O z=kt↔OnF es (λy=>y∈od∨y=j) z:=by
 let h:∀ y,(b|||2^j).O y=k9↔¬ (y∈od∨y=j):=λy=>by
  rw[NS,Nu,C,gh y _ od U,← ke.not_eq_true,Pm,decide_eq_true_iff,decide_eq_true_iff,eq_comm (a:=j)]
 let O:(fr|||2^j).O z=kt↔OnF es (·∈od) z∨z=j:=by
  rw[NS,Nu,Pm,decide_eq_true_iff,c,eq_comm (a:=j)]
 rw[d,O];simp only[h];constructor
 .rintro⟨eK|eK,y,G,dO⟩
  .erw[.inl eK.1,y,G,dO]
  .erw[.inr eK,y,G,dO]
 .rintro⟨eK|eK,y,G,dO⟩
  .erw[.inl #[eK,y,G,λk=>dO (.inl k)],y,G,dO]
  .erw[.inr eK,y,G,dO]
def Iq{pl:R->R}(C:Cyc m es pl)(nd:od.h)(O:od.L<m)(d:0<od.L->∃ s,Arc pl (·∈od) s od.L){x:R}{t:T3}(f:trp es (·∈od) t x)(r:x<m)(Q:x∉od)(a:∀ y,y<m->y∉od->∃ u,trp es (·∈od) u y/\le2 t u):∃ s,Arc pl (·∈od++[x]) s (od++[x]).L:=by
 rw[MP,M9];let g:∀ z,z∈od++[x]↔(z∈od∨z=x):=λz=>by rw[Ng,MQ]
 obtain z|z:=Nat.eq_zero_or_pos od.L
 .let i J:=C.sur r;let o:od=[]:=OL z;subst o
  erw[i,λy=>#[λh=>#[00,4,by rw[MQ.mp h];exact J],λ⟨j,L,e⟩=>by
   let:j=0:=by
    let:j<1:=L;lia
   subst this
   exact MQ.mpr (e.P J.X)]]
 .let s A:=d z;let q dO n:=C.beside A z O f r Q a;let c b:=C.grow A dO n Q;erw[c,λy=>(g y).P (b y)]
theorem G9{pl:R->R}{x:R}(C:Cyc m es pl)(g:Two es od)(a:∃ s,Arc pl (·∈od++[x]) s (od++[x]).L):Two es (od++[x]):=λk D=>by
 rw[MP,M9]at D;by_cases c:k<=od.L
 .rw[QX c];exact g k c
 .let:k=(od++[x]).L:=by rw[MP,M9];lia
  rw[this,M8];let s A:=a;erw[pl s,pl (s+((od++[x]).L-1)),λy ⟨eK,z,O,G⟩=>(C.ends A eK O G).imp And.left And.left]
def jy:az ["self","laying","unlike"] ["self","laying"] (aq bT):=by ac_nf
def EM{d:ke}(F:Fun K "unpleased" "Tie.unpleased" bT f fd)(T:CT K C)(c:Met P w K mg base 1 C "wish" ["self"] (jx d) q G):li 2 f fd ["self","laying"] (qB C d):=by
 refine F.ok jy λL A eK s H o Q dO u h=>?_
 let p a b st l rfl{B m}O M k:=h;let g:=T.cl
 intro J y;erw[_,(af (aA 2 jy.nd (ay cV (ay eX (ay gf (pv 1) (aQ (pv 0) U)) (ay gf (pv 1) (aQ (pv 0) U))) ak))
   (ao (aG (l4 l7 (pv 2) (dU (pv 0) g c.me c.ok (u.mono ∅) c.bn .nil iX) (aJ _))))),3]
 erw[153,p,C,B,37,m,T.cl,T.n1,iz _ _ _,165,O,3];erw[153,p,C,B,37,m,T.cl,T.n2,jD _ _ _,165,M,3];erw[239013];erw[153,p,B,9,m,qy _ _ _ ∅ ∅ ∅,p,14]
 erw[14];let e:=KL (l/2^a.R) (l/2^b.R);let j:Q (V.bl (unp d a b l)) H:=k;unfold unp bit at j;rw[← e]at j;exact j
def g8:az ["web","near","tie"] ["web"] (aq iR):=by ac_nf
def LG{PS:fc}(F:Fun K "near_places" "near_places" iR f fd)(T:Txt mg)(cw:CW K I)(TL:CT K a)(TS:CT K PS):li 1 f fd ["web"] (JK a PS I):=by
 refine F.ok g8 λaa A eK s H vs Q dO u h=>?_
 let p m O ts ks rfl{dx fs q1 xs q3 z3 l lm l2 ah tk _}kl tn ac ar kk:=h;let ct:∀ b,CT K (cls a PS b):=λb=>by
  unfold cls;split
  .exact TS
  .exact TL
 intros;erw[_,(af (lY 1 [] ["place"] g8.nd (aP U T.n_range (ae (aQ (pv 0) U) ai)) pg_c pt_c (λC ex s H=>ak))
   (af (mx (aM (aQ (pv 0) U)) (bq 2 g8.nd) (af (lD (ay jB (ba (pv 1) (aQ (pv 2) U)) (ay bA ak (aQ (pv 2) U))) (m9 (pv 1) (aQ (pv 2) U) e9))
   (ao (lD (ay jB (ba (pv 1) (aQ (pv 2) U)) (ay bA ak (aQ (pv 2) U))) (m9 (pv 1) (aQ (pv 2) U) e9)))))
   (ao (aG (pv 1))))),3]
 erw[9,p,I,dx,fs,9,l,cw.cl,cw.n1,lm,(m:Y),82,cA (n:=(m:Y).R) (λi j o=>o=H/\j=(MV i 0).Z iV) (by rw[MU];exact M4 (ax ∅)) #[10] ?_ ?_]
 .rintro i j o J ⟨rfl,rfl⟩;erw[U,by rw[Of,M0];rfl]
 rintro j o hl ⟨rfl,rfl⟩ q hq;rw[MU]at *;let t:=aj hq (.lst ((MV m 0).Z iV));let an:xs.L=O.L:=tk.1
 erw[9,p,I,dx,fs,9,t _ _ l,cw.cl,cw.n2,l2,q1,U,#[_,SqL.of (t _ _ ah)],br (K:=K) (xs:=xs) (λi L H3=>∃ v2 ns,L=[Z (.ref p),Z (.ref q),v2]/\(Same o H3/\NrA H3 q m (O.x i) ns)) #[37,t,ag,NR,(λn hn=>by rw[(List.mem_replicate.mp hn).2];exact Ph m),λx y=>by
  rw[MX,Ow];erw[λz=>?_,λ⟨e,z,_⟩=>nomatch z];split at z
  .rw[show(Z 0).v 0=0 from rfl,NI]at z;cases z
  .rw[show(lf:j5 R).v 0=0 from rfl,NI]at z;cases z] (λi L H3 _ ab=>by let _ _ _ z _:=ab;exact SqL.of (z _ _ ah)) ?_ ?_]
 .rintro i x L H3 B ⟨v2,ns,rfl,s3,am,nl,nb,nx⟩;let J:i<O.L:=by rw[← an];exact(MF.mp B).1
  let e N:∃ e,O[i]?=Z e:=#[_,MG J];let k D:∃ k,ks[i]?=Z k:=#[_,MG ∅]
  let p' al x1 x2:=tk.2 i e k N D;let r e2 _:=tn.ends e (MH N);rw[B]at x1
  cases x1
  let x3:=s3 _ _ x2;let up1:∀ ys,Same o (upd H3 q (.lst ys)):=λys=>aK s3 hq _;let y3:∀ ys,(upd H3 q (.lst ys)) p'=_:=λys=>up1 ys _ _ x2;let at_:∀(ns:E R)(c:R),ns.L=m->c<m->∃ n,ns[c]?=Z n/\atI (ns.Z iV) (c:Y)=Z (.int (n:Y)):=λns c hl hc=>by
   let g:ns[c]?=Z ns[c]:=MG ∅
   erw[_,g,aF (by rw[MO,g];rfl)]
  let put:∀(ns:E R)(c d n:R),(∀ n∈ns,n<2^m)->n<2^m->d<m->∀ y∈ns.set c (n|||2^d),y<2^m:=λns c d n M hn hd y hy=>by
   obtain z|rfl:=Pr hy
   .exact M y z
   .exact PJ hn (OM ∅ hd)
  let n g1 a1:=at_ ns e.1 nl r;let n2:=nb n (MH g1);let aI:(ns.set e.1 (n|||2^e.2)).L=m:=by rw[N5];exact nl
  let n' g2 a2:=at_ (ns.set e.1 (n|||2^e.2)) e.2 aI e2
  let av:=put ns e.1 e.2 n nb n2 e2;let n3:=av n' (MH g2);let st:∀(ns:E R)(c v:R),(ns.Z iV).set c (.int (v:Y))=(ns.set c v).Z iV:=λns c v=>by rw[QV];rfl
  let sh:∀ d:R,Sf (n:Y) (1*2^((d:R):Y).R)=((n|||2^d:R):Y):=λd=>by rw[shlN,orN]
  let aL:∀ d:R,Sf (n':Y) (1*2^((d:R):Y).R)=((n'|||2^d:R):Y):=λd=>by rw[shlN,orN]
  erw[153,p',_,al,37,x3,(ct _).cl,(ct _).n1,iz _ _ _,q,_,(e.1:Y),41,SqL.of am,a1,3];erw[9,p',_,al,37,x3,(ct _).cl,(ct _).n2,jD _ _ _,165,#[20,by decide],933]
  erw[153,p',_,al,37,x3,(ct _).cl,(ct _).n1,iz _ _ _,q,_,(e.1:Y),e.1,10,am,iu (by rw[MI];lia),3]
  rw[show upd H3 q (.lst ((ns.Z iV).set e.1 (V.int (Sf (n:Y) (1*2^((e.2:R):Y).R)))))=upd H3 q (.lst ((ns.set e.1 (n|||2^e.2)).Z iV)) from by rw[sh,st]]
  let ap:(upd H3 q (.lst ((ns.set e.1 (n|||2^e.2)).Z iV))) q=_:=ag
  erw[153,p',_,al,37,y3 _,(ct _).cl,(ct _).n2,jD _ _ _,q,_,(e.2:Y),41,SqL.of ap,a2,3];erw[9,p',_,al,37,y3 _,(ct _).cl,(ct _).n1,iz _ _ _,165,#[20,by decide],933]
  erw[153,p',_,al,37,y3 _,(ct _).cl,(ct _).n2,jD _ _ _,q,_,(e.2:Y),e.2,10,ap,iu (by rw[MI];lia),3]
  rw[show ∀ G:Hp,upd G q (.lst (((ns.set e.1 (n|||2^e.2)).Z iV).set e.2 (V.int (Sf (n':Y) (1*2^((e.1:R):Y).R)))))=upd G q (.lst (((ns.set e.1 (n|||2^e.2)).set e.2 (n'|||2^e.1)).Z iV)) from λG=>by rw[aL,st]]
  erw[37,aK (up1 _) hq _,ag,by rw[N5];exact aI,put _ _ _ _ av n3 r,λx y=>by
   rw[Ed g2,Ed g1,nx,LU N,or_assoc]
   exact or_congr Iff.rfl (or_congr #[λz=>#[z.1.X,z.2.X],λz=>#[z.1.X,z.2.X]] #[λz=>#[z.1.X,z.2.X],λz=>#[z.1.X,z.2.X]])]
 rintro L H3 ⟨v2,ns,rfl,s3,nr⟩;rw[an,M8]at nr;erw[9,kk q ns H3 s3 nr]
def pq:az ["near","behind","front"] ["near","behind","front"] (aq fT):=by ac_nf
def ok_kof{f2:fc}(F:Fun K "kept_on_front" "kept_on_front" fT f fd)(ab:lw 1 "mask_of" ["places"] (mP K) I G)(ah:lw 1 "bits" ["mask"] KF.spBits f2 J):li 2 f fd ["near","behind","front"] spKof:=by
 refine F.ok pq λL A eK s H M Q dO u h=>?_
 let a m b f O ns rfl{T nl nb nx}ac fm N:=h;let an:=Es ac fm;intros;erw[_,(ao (aG (ab.c u (ae (cM [("near",0),("behind",1)] ["place"] (aM (ah.c u (ae (pv 2) ai))) pg_c (λC ex s H=>(fV (aD l7 (ay cV (pB K (pv 1) (pv 0)) (pv 2)) (pB K (pv 1) (pv 0)) (aJ _)))) (λC ex s H=>(pv 0))) ai)))),3];erw[5273,λq j v nq o=>?_]
 rw[MU]at o;let bm:∀ x∈K2.bitsF 0 f,x<m:=λx B=>KF.bl_lt fm B;let bl:(K2.bitsF 0 f).L<=m:=K2.bitsF_len m f 0 fm;let t:=v _ _ T;erw[q,U,#[_,SqL.of o],aZ (K:=K) (xs:=(K2.bitsF 0 f).Z iV) (λi k d=>d=j/\∃ ps:E R,k=ps.Z iV/\((∀ x∈ps,x<m)/\(ps.L<=i/\∀ x,x∈ps↔x∈(K2.bitsF 0 f).x i/\∃ y,Nb O x y/\b.O y=k9))) (by rw[MI];exact M4 (ax ∅)) #[U,[],U,(λx z=>nomatch z),MN _,λx=>#[(λz=>nomatch z),(λz=>nomatch z.1)]] (λi k d _ z=>by rw[z.1];exact SqL.of o) ?_ ?_ (λi k d aa=>by let _ ps z _ y _:=aa;rw[z,MI];exact y)]
 .rintro i x k d B ⟨rfl,ps,rfl,pm,pl,px⟩;rw[MO]at B;let y r rfl:=MZ.mp B;let ym:=bm y (MH r);let g:ns[y]?=Z ns[y]:=MG ∅
  let ty:(K2.bitsF 0 f).x (i+1)=(K2.bitsF 0 f).x i++[y]:=by rw[M5,r];rfl
  let am:∀ z,ns[y].O z=kt↔Nb O y z:=λz=>by
   let:=nx y z;rw[MX,g]at this;exact this
  generalize ns[y]=n at g am;let a1:atI (ns.Z iV) (y:Y)=Z (.int (n:Y)):=aF (by rw[MO,g];rfl)
  erw[614,a,_,(y:Y),41,SqL.of t,a1,629337,a,_,(y:Y),41,SqL.of t,a1,230];let dc:Se (n:Y) (b:Y)=((n&&&b:R):Y):=andN _ _;refine ite2 (λc=>?_) (λc=>?_)
  .let al:∃ z,Nb O y z/\b.O z=k9:=by
    let z z1 z2:=Ku.mp (show n&&&b≠n from λe=>by
     let c:(!decide (V.int (Se (n:Y) (b:Y))=V.int (n:Y)))=kt:=c;rw[dc,e]at c
     simp at c)
    erw[z,(am z).mp z1,z2]
   erw[41,ps++[y],by rw[M0];rfl,(λx B=>by
    obtain z|z:=Ng.mp B
    .exact pm x z
    .rw[MQ.mp z];exact ym),by rw[MP];exact QW pl,λx=>by
    rw[Ng,ty,Ng,px,MQ,or_and_right]
    exact or_congr Iff.rfl #[λz=>#[z,by rw[z];exact al],And.left]]
  .let no:¬ ∃ z,Nb O y z/\b.O z=k9:=λ⟨z,z1,z2⟩=>c (by
    let:=Ku.mpr #[z,(am z).mpr z1,z2];show(!decide (V.int (Se (n:Y) (b:Y))=V.int (n:Y)))=kt;rw[dc,RN (show ¬ V.int ((n&&&b:R):Y)=V.int (n:Y) from λe=>this (O6 (V.int.inj e)))]
    rfl)
   erw[U,ps,U,pm,OQ pl,λx=>by
    rw[px,ty,Ng,MQ,or_and_right]
    erw[.inl,λz=>z.elim id λz=>Tn (z.1▸z.2) no]]
 rintro k d ⟨rfl,ps,rfl,pm,pl,px⟩ D hD;rw[MI,M8]at px
 erw[D,ps,U,SqL.of ag,(λp l=>by let:=pm p l;lia),N _ _ (v.P (aj hD _)) (BJ pm) λx=>by
  rw[gh x _ ps U,decide_eq_true_iff,px]
  exact and_congr (KF.mem_bl (c:=f)) Iff.rfl]
def aR:az ["web","near","order","behind","front","choices","place","width"] ["web"] (aq hX):=by ac_nf
def ER{f2 f3 PL PS WC:fc}{d3:ge}(F:Fun K "narrow_order" "narrow_order" hX f fd)(T:Txt mg)(cw:CW K WC)(aI:lw 1 "near_places" ["web"] (JK PL PS WC) I G)(an:lw 2 "ones" ["mask"] KF.spOnes f2 J)(ap:lw 2 "kept_on_front" ["near","behind","front"] spKof f3 d3):li 3 f fd ["web"] (Bh PL PS WC):=by
 refine F.ok aR λaa A o s H vs Q dO r h=>?_
 let p m O ts ks rfl wt kl tn ab a0{pl C}kk:=h;let ah:=r.units;let bB:=wt;let dx fs _ _ _ _ hp lm _:=bB
 intros;erw[_,(af (aA 1 aR.nd (aI.c r (ae (pv 0) ai)))
   (af (aA 2 aR.nd (bX ai))
   (af (aA 3 aR.nd ak)
   (af (aA 4 aR.nd ak)
   (af (gC PassesOwn.never (aD uO (aE aB (by rfl) T.n_len bE (ae (pv 2) ai)) (aQ (pv 0) U) (aJ _)) (af (aA 5 aR.nd (bX ai))
   (af (mx (aP U T.n_range (ae (aQ (pv 0) U) ai)) (bq 6 aR.nd) (ao (bJ (aD cH (ay cV (ay gf (pv 3) (pv 6)) ak) ak (aJ _)) (af (aA 7 aR.nd (an.c r (ae (ap.c r (ae (pv 1) (ae (ay jB (pv 3) (ay bA ak (pv 6))) (ae (ay jB (pv 4) (ay bA ak (pv 6))) ai)))) ai)))
   (ao (aW (eF Na Nq Np aX (pv 5) (ae (bN (ae (pv 7) (ae (Ls DB (an.c r (ae (ay cV (ba (pv 1) (pv 6)) (pv 3)) ai))) (ae (pv 6) ai)))) ai))))) aN)))
   (af (aA 6 aR.nd (bV (aE (tS U ah) (by rfl) T.n_min oW (ae (pv 5) ai)) ak))
   (af (aW (eF Na Nq Np aX (pv 2) (ae (pv 6) ai)))
   (af (aA 3 aR.nd (ay jB (pv 3) (ay bA ak (pv 6))))
   (ao (aA 4 aR.nd (ap.c r (ae (pv 1) (ae (pv 3) (ae (ay jB (pv 4) (ay bA ak (pv 6))) ai))))))))))))
   (ao (aG (pv 2)))))))),3]
 erw[9,p,m,O,ts,ks,U,wt,kl,tn,ab,a0,λpn ns v s1 nr=>?_];erw[∅,λq hq=>?_]
 let s2:=aj hq (.lst []);refine iH (λD d=>∃(od:E R)(b fr:R)(v5 v6 v7:j5 V),D=[Z (.ref p),Z (.ref pn),Z (.ref q),Z (.int (b:Y)),Z (.int (fr:Y)),v5,v6,v7]/\(Same v d/\(d q=Z (.lst (od.Z iV))/\(od.h/\((∀ x∈od,x<m)/\(b=u6 od/\(fr<2^m/\((∀ x,fr.O x=kt↔OnF O (·∈od) x)/\(Two O od/\(0<od.L->∃ s,Arc pl (·∈od) s od.L)))))))))) (λ_ d=>match d q with|some (.lst l)=>m-l.L|_=>0) #[[],00,00,lf,lf,lf,U,s2,ag,NU,(λx z=>nomatch z),U,Ph m,(λx=>#[(λz=>by rw[NI]at z;cases z),(λz=>nomatch z.1)]),(λk e=>#[00,00,λx z=>by rw[Nat.le_zero.mp e]at z;exact nomatch z.1]),λz=>Tn z (Ob 0)] ?_ ?_
 .rintro D d ⟨od,b,fr,v5,v6,v7,rfl,s3,al,nd,lt,eb,fb,ef,tw,ar⟩;let aT:=s3 _ _ (s1 _ _ hp);let bb:b<2^m:=by rw[eb];exact BJ lt
  erw[9,q,9,.inl (SqL.of al),9,p,WC,dx,fs,9,aT,cw.cl,cw.n1,lm,14757];rw[MI];refine ite2 (λc=>?_) (λc=>?_)
  .let ol:od.L<m:=by let:=S8 c;lia
   erw[(by show 0<=RO;decide),λqc bi=>?_]
   let s4:=aj bi (.lst []);erw[9,p,WC,dx,fs,9,s4 _ _ aT,cw.cl,cw.n1,lm,(m:Y),82,cL (n:=(m:Y).R) (λj D H4=>∃(v6 v7:j5 V)(cs:E V)(L:E T3),D=[Z (.ref p),Z (.ref pn),Z (.ref q),Z (.int (b:Y)),Z (.int (fr:Y)),Z (.ref qc),v6,v7]/\(Same d H4/\(H4 qc=Z (.lst cs)/\(LsAt TrA H4 cs L/\(L.L<=j/\((∀ t∈L,∃ x:R,t.2.2=(x:Y)/\(x<m/\(x∉od/\trp O (·∈od) t x)))/\∀ x,x<j->x∉od->∃ t∈L,trp O (·∈od) t x)))))) #[v6,v7,[],[],U,s4,ag,LsAt.nil,MN _,(λt z=>nomatch z),λx z=>Tn z (NM x)] ?_ ?_]
   .rintro j D H4 hj ⟨v6,v7,cs,L,rfl,s5,aL,aS,Lj,bf,bd⟩;rw[N1];let hj:j<m:=by let:j<(m:Y).R:=hj;lia
    let bm:NrA H4 pn m O ns:=#[s5 _ _ (s3 _ _ nr.1),nr.2];let n g:∃ n,ns[j]?=Z n:=#[_,MG (by rw[nr.2.1];exact hj)]
    let gb:=nr.2.2.1 _ (MH g);let bG:∀ z,n.O z=kt↔Nb O j z:=λz=>by
     let:=nr.2.2.2 j z;rw[MX,g]at this;exact this
    let a1:atI (ns.Z iV) (j:Y)=Z (.int (n:Y)):=aF (by rw[MO,g];rfl)
    let tb:b.O j=decide (j∈od):=by rw[eb,gh j _ od U]
    let p2:(2:R)^j<2^m:=OM ∅ hj
    erw[15478597017]
    refine ite2 (λc=>?_) (λc=>?_)
    .let nj:j∉od:=λz=>by
      rw[Sx z]at tb;let:=V.int.inj (S8 c);rw[oX,Ti tb]at this
      cases this
     erw[678297,#[20,by decide],10852773,#[20,by decide],165,pn,m,b|||2^j,fr|||2^j,O,ns,by rw[← orN,← orN,← shlN];rfl,bm,ab,PJ fb p2,λN H6 s6 hN xN=>?_]
     let tr:trp O (·∈od) ((((KF.bl N).L:R):Y),-(((KF.bl (n&&&b)).L:R):Y),(j:Y)) j:=#[N,n&&&b,10,tO eb ef xN,λz=>by
      rw[NA,Py,bG,eb,gh z _ od U,decide_eq_true_iff]]
     erw[N,U,Es ab hN,λH7 s7=>?_];let av:=s6.P s7;erw[9,.inl #[6,SqL.of (av _ _ aL)],2457,pn,_,(j:Y),41,SqL.of (av _ _ bm.1),a1,2649,n&&&b,by rw[← andN];rfl,Es ab (QG Nat.and_le_left gb),λH8 s8=>?_]
     erw[153,(by show 3<=RO;decide),λt ht=>?_]
     let bn:=av.P s8;erw[qc,cs,41,aj ht _ _ _ (bn _ _ aL),ax (by rw[aS.1];lia),3]
     let sb:=bn.P (aj ht (.tup [.int (((KF.bl N).L:R):Y),.int (-(((KF.bl (n&&&b)).L:R):Y)),.int (j:Y)]));let tu:=DH (zs:=cs++[.ref t]) (sb _ _ aL)
     erw[5,cs++[.ref t],L++[((((KF.bl N).L:R):Y),-(((KF.bl (n&&&b)).L:R):Y),(j:Y))],U,aK (s5.P sb) bi _,ag,(Cv aS λb xs z=>tu _ _ (sb _ _ z)).snoc #[t,U,tu _ _ ag],by rw[MP];exact QW Lj,(λt ht=>by
      obtain z|z:=Ng.mp ht
      .exact bf t z
      .rw[MQ.mp z];erw[j,U,hj,nj,tr]),λx B hn=>by
      obtain z|z:=Qa x j
      .let u u1 u2:=bd x z hn;erw[u,NG _ u1,u2]
      .let:x=j:=by lia
       subst this
       erw[_,Nj _ (MQ.mpr U),tr]]
    .let yj:j∈od:=NY λz=>by
      rw[RN z]at tb;refine c (Sx ?_);show V.int (Se ((b:Y)/2^((j:R):Y).R) 1)=V.int 0;rw[oX,Tj (by rw[tb];decide)]
     erw[5,cs,L,U,s5,aL,aS,OQ Lj,bf,λx B hn=>by
      obtain z|z:=Qa x j
      .exact bd x z hn
      .let:x=j:=by lia
       subst this
       exact Tn yj hn]
   rintro D H4 ⟨v6,v7,cs,L,rfl,s5,aL,aS,Lj,bf,bd⟩;let x0 x1 x2:=IG nd lt ol;let ac:L≠[]:=λz=>by
    let u u1 _:=bd x0 (by show x0<(m:Y).R;lia) x2
    rw[z]at u1;cases u1
   let b3 b4:=best2 (λi=>L.v i (0,0,0)) (L.L-1);let lp:=P2.mpr ac;let gL:∃ t3,L[argBest (λi j=>lt3 (L.v i (0,0,0)) (L.v j (0,0,0))) (L.L-1)]?=Z t3:=#[_,MG ∅]
   let t3 gL:=gL;let x ex xm xn xt:=bf t3 (MH gL);let bg:∀ y,y<m->y∉od->∃ u,trp O (·∈od) u y/\le2 t3 u:=λy ym yn=>by
    let u u1 u2:=bd y (by show y<(m:Y).R;lia) yn
    let i eK:=Nx u1;let il:=(MF.mp eK).1;let h:=b4 i ∅
    simp only[MX]at h gL;rw[gL,eK]at h;erw[u,u2,h]
   let AR:∃ s,Arc pl (·∈od++[x]) s (od++[x]).L:=Iq C nd ol ar xt xm xn bg;let y0 e1 t rfl ht:=aS.2 _ t3 gL;let am:=s5 _ _ al;let be:∀ zs,Same v (upd H4 q (.lst zs)):=λzs=>aK (s3.P s5) hq _;let p2:(2:R)^x<2^m:=OM ∅ xm
   rw[ex]at ht;erw[9,qc,cs,L,U,SqL.of aL,aS,ac,λy hy=>?_];rw[e1]at hy
   cases hy
   erw[t,_,02,.int (x:Y),10,SqT.of ht,14];erw[9,.inl #[6,SqL.of am],9,q,165,am,ax (by rw[MI];lia),3]
   erw[42393,#[20,by decide],933]
   erw[10852761,#[20,by decide],165,pn,m,b|||2^x,fr|||2^x,O,ns,by rw[← orN,← orN,← shlN];rfl,#[be _ _ _ nr.1,nr.2],ab,PJ fb p2,λN H6 s6 hN xN=>?_]
   let fN:=tO eb ef xN;let bv:H6 q=Z (.lst ((od++[x]).Z iV)):=by rw[M0];exact s6 _ _ ag
   erw[#[od++[x],b|||2^x,N,21,by rw[← orN,← shlN];rfl,(be _).P s6,bv,NP.mpr #[nd,Nt.mpr #[(λz=>nomatch z),NU],λa ha b M=>by rw[MQ.mp M];exact λz=>xn (z▸ha)],(λy hy=>by
    obtain z|z:=Ng.mp hy
    .exact lt y z
    .rw[MQ.mp z];exact xm),by rw[oB,eb],hN,(λz=>by rw[fN z];unfold OnF;simp only[Ng,MQ]),G9 C tw AR,λ_=>AR],3]
   show(match H6 q with|some (.lst l)=>m-l.L|_=>0)<(match d q with|some (.lst l)=>m-l.L|_=>0)
   rw[bv,al];show m-((od++[x]).Z iV).L<m-(od.Z iV).L;rw[MI,MI,MP,M9];lia
  .erw[9,kk q od d (s1.P s3) al (yL nd lt λz=>c (Sx ∅)) tw]
 .rintro D H4 Q1 Q2 eK ⟨a1,a2,a3,a4,a5,a6,a7,a8,a9,bH,bQ,bR,bU,bY,b0,b5,b6,ca,cb,cc,cd,ce,ch,ci,h⟩;erw[a1,a2,a3,a4,a5,a6,a7,a8,a9,bH,bQ,bR,bU,bY,b0,b5,b6,ca,cb,cc,cd,ce,ch,ci,eK _ _ h]
def atF(N x:R)(e:R×R):ke:=(e.1 == x&&!N.O e.2)||(e.2 == x&&!N.O e.1)
def lA(es:En)(N M:R):Prop:=∀ x,M.O x=(N.O x&&es.any (atF N x))
theorem lA.z(N:R):lA [] N 0:=λx=>by rw[NI,List.any_nil,Oi]
def KU(a b x:R):(2^a|||2^b).O x=(a == x||b == x):=by
 rw[NS,Nu,Nu]
 cases h:a == x<;>cases O:b == x<;>simp!
theorem lA.put{e:R×R}(h:lA es N M)(one:N.O e.1≠N.O e.2):lA (es++[e]) N (M|||(N&&&(2^e.1|||2^e.2))):=λx=>by
 rw[NS,h x,NA,KU,List.any_append,RK,List.any_nil,O7];unfold atF;by_cases eK:e.1=x
 .by_cases O:e.2=x
  .rw[eK,O]at one;exact Tn U one
  .rw[eK]at one;let f:(e.1 == x)=kt:=by simpa using eK
   let A:(e.2 == x)=k9:=by simpa using O
   rw[f,A]
   cases z:N.O x
   .simp
   .rw[z]at one;let:N.O e.2=k9:=by cases y:N.O e.2 with|false=>rfl|true=>rw[y]at one;exact Tn U one
    rw[this];simp
 .let f:(e.1 == x)=k9:=by simpa using eK
  by_cases O:e.2=x
  .rw[O]at one;let A:(e.2 == x)=kt:=by simpa using O
   rw[f,A]
   cases z:N.O x
   .simp
   .rw[z]at one;let:N.O e.1=k9:=by cases y:N.O e.1 with|false=>rfl|true=>rw[y]at one;exact Tn U one
    rw[this];simp
  .let A:(e.2 == x)=k9:=by simpa using O
   rw[f,A];simp
theorem lA.skip{e:R×R}(h:lA es N M)(one:N.O e.1=N.O e.2):lA (es++[e]) N M:=λx=>by
 rw[h x,List.any_append,RK,List.any_nil,O7];unfold atF
 cases z:N.O x
 .simp
 .by_cases eK:e.1=x
  .rw[eK,z]at one;let:(e.2 == x&&!N.O e.1)=k9:=by rw[eK,z];simp
   rw[this,← one];simp
  .let f:(e.1 == x)=k9:=by simpa using eK
   by_cases O:e.2=x
   .rw[O,z]at one;rw[f,one];simp
   .let A:(e.2 == x)=k9:=by simpa using O
    rw[f,A];simp
def mk(l:E R):R:=l.foldl (λa x=>a|||2^x) 0
def E7(l:E R)(x:R):mk (l++[x])=mk l|||2^x:=by unfold mk;rw[PM];rfl
def rV(es:En)(od ms:E R):Prop:=ms.L=od.L+1/\∀ k M,ms[k]?=Z M->lA es (mk (od.x k)) M
theorem front0(es:En):lA es 0 0:=λx=>by rw[NI];rfl
def rV.snoc{x:R}(h:rV es od ms)(c:lA es (mk (od++[x])) M):rV es (od++[x]) (ms++[M]):=by
 erw[by rw[MP,MP,h.1];rfl,λk N e=>?_]
 by_cases D:k<ms.L
 .rw[MT D]at e;let a:k<=od.L:=by let:=h.1;lia
  rw[QX a];exact h.2 k N e
 .rw[MR ∅]at e
  let a:k=ms.L:=by
   let:=(MF.mp e).1;rw[M9]at this;lia
  subst a;rw[Nz]at e
  cases e
  rw[Oz (by rw[MP,M9,h.1];exact MN _)]
  exact c
def cJ(l:E R)(x:R):(mk l).O x=decide (x∈l):=by
 let go:∀(l:E R)(a:R),(l.foldl (λa x=>a|||2^x) a).O x=(a.O x||decide (x∈l)):=by
  intro l;induction l with
  |nil=>intro a;simp
  |cons y l C=>
   intro a;rw[Rl,C,NS,Nu];by_cases h:y=x
   .subst h;simp
   .let O:¬ x=y:=λe=>h e.X
    simp[h,O,MY]
 unfold mk;rw[go,NI,RM]
def insT(es:En)(B t:R):ke:=match es[t]? with|some e=>B.O e.1&&B.O e.2|none=>k9
def Ae{B t:R}{e:R×R}(h:es[t]?=Z e):insT es B t=(B.O e.1&&B.O e.2):=by unfold insT;rw[h]
def pL(es:En)(B:R)(row:E R):E R:=row.filter (insT es B)
def qI(ts:oD)(p:R):E R:=(ts[p]?).v []
def eU(es:En)(ts:oD)(od:E R)(i:R):oD:=(Nf i).Z λj=>pL es (mk (od.x (j+1))) (qI ts (od.v j 0))
def Dk(es:En)(ts:oD)(od:E R)(i:R):eU es ts od (i+1)=eU es ts od i++[pL es (mk (od.x (i+1))) (qI ts (od.v i 0))]:=by
 unfold eU;rw[Oq,M0];rfl
inductive JR(PL PS WC:fc)
 |mk (p o:fc)(m:R)(es:En)(ts:oD)(ks:Kn)(od:E R) (_:vs=[.ref p,.ref o])(_:WebT PL PS WC H p m es ts ks)(_:ks.L=es.L)(_:dJ m es ts)(_:m<=40)(_:es.L<=100)(_:H o=Z (.lst ((cI od).Z V.int)))(_:(∀ x∈od,x<m))(_:od.L<=40)(_:∀ q zs H',o5->H q=lf->H' q=Z (.lst zs)->bK (λa=>H a≠lf) H' zs (eU es ts od od.L)->Q (.ref q) H')
def Fx(h:pi a (ns.Z V.int)):RdD K H (.ref a) (.list (ns.Z hH.int)):=by
 refine RdD.lst h (by rw[MI,MI]) λi x d f A=>?_
 rw[MO]at f A
 cases q:ns[i]? with
 |none=>rw[q]at f;cases f
 |some z=>rw[q]at f A;cases f;cases A;exact .int _
def FunD.ok0{a:fI}{st:hr}{N ps:E fI}{k:R}(F:FunD K x a st f fd items)(S:az N ps (aq st))(len:∀ vs H Q dO,sp vs H Q dO->vs.L=ps.L)(G:∀(L:eN)(A:Around)(outer:E ih)(s:ff)(H:Hp)(vs:E V)(Q:VK)(dO:XK),Room k (A.deeper (PyProof.Rows.envOfC a (aq st) s.H.M.J f L))->sp vs H Q dO ->
   let X:=(cxOf CX0 P w K mg base N a (aq st) f L A outer s H dO).nox;let D:Ends:={nx:=λ_ H'=>Q .non H',rt:=Q};∃ t,PSs X (bz st) t/\t D (qA N vs) H):li (k+1) f fd ps sp:=by
 let l i d kV C B p L j b rfl m z _:=F.ex;refine IW m z S len λA outer s H vs Q dO u r=>?_;let t h q:=G L A outer s H vs Q dO u r;erw[t,h.nox,q]
theorem Hw(m:R):((Nf m).Z λ(i:R)=>((i:R):Y)).f (·<=·):=OC.mpr ((Qr (n:=m)).imp λz=>by lia)
inductive pQ(K:MJ)
 |mk (p C dx:fc)(a b s l:Y) (_:vs=[.ref p,.int l])(_:H p=Z (.ins C dx (tf a b s)))(_:CT K C)(_:0<=a)(_:0<=b)(_:Q (.int (bit l a+bit l b)) H)
structure WO(PL PS WC:fc)(H:Hp)(p o:fc)(m:R)(es:En)(ts:oD)(ks:Kn)(od:E R):Prop where
 wt:WebT PL PS WC H p m es ts ks
 kl:ks.L=es.L
 tn:dJ m es ts
 m40:m<=40
 few:es.L<=100
 ho:H o=Z (.lst (od.Z iV))
 pm:od.Perm (Nf m)
theorem WO.mono{j PS T p o:fc}{m:R}{H H':Hp}{es:En}{ts:oD}{ks:Kn}{od:E R}(h:WO j PS T H p o m es ts ks od)(s:o5):WO j PS T H' p o m es ts ks od:=#[h.wt.mono s,h.kl,h.tn,h.m40,h.few,s _ _ h.ho,h.pm]
def WO.len{PS o:fc}{ks:Kn}(h:WO a PS f H p o m es ts ks od):od.L=m:=by rw[h.pm.length_eq,Nl]
theorem WO.lt{PS o:fc}{ks:Kn}(h:WO a PS f H p o m es ts ks od):∀ x∈od,x<m:=λx B=>Nk.mp (h.pm.mem_iff.mp B)
inductive DY(PL PS WC:fc)
 |mk (p o:fc)(m:R)(es:En)(ts:oD)(ks:Kn)(od:E R) (_:vs=[.ref p,.ref o])(_:WO PL PS WC H p o m es ts ks od)(_:∀ q H',o5->H q=lf->H' q=Z (.lst (od.Z iV))->Q (.ref q) H')
inductive D5(PL PS WC:fc)
 |mk (p:fc)(N m:R)(es:En)(ts:oD)(ks:Kn) (_:vs=[.ref p,.int (N:Y)])(_:WebT PL PS WC H p m es ts ks)(_:ks.L=es.L)(_:dJ m es ts)(_:m<=40)(_:es.L<=100)(_:∀ M:R,lA es N M->Q (.int (M:Y)) H)
inductive ue(PL PS WC:fc)
 |mk (p o:fc)(m:R)(es:En)(ts:oD)(ks:Kn)(od:E R) (_:vs=[.ref p,.ref o])(_:WO PL PS WC H p o m es ts ks od)(_:∀(q:fc)(ms:E R)(H':Hp),o5->H' q=Z (.lst (ms.Z iV))->rV es od ms->Q (.ref q) H')
def sj:az ["tie","patch"] ["tie","patch"] (aq iT):=by ac_nf
def EL(F:Fun K "ends_within" "ends_within" iT f fd):li 1 f fd ["tie","patch"] (pQ K):=by
 refine F.ok sj λL A eK s H m Q dO u h=>?_
 let p C B a b st l rfl G T O M N:=h;intro J y;erw[_,(ao (aG (ay cg (ay cV (ay gf (pv 1) (aQ (pv 0) U)) ak) (ay cV (ay gf (pv 1) (aQ (pv 0) U)) ak)))),3];erw[153,p,C,B,37,G,T.cl,T.n1,iz _ _ _,165,O,39333,p,C,B,37,G,T.cl,T.n2,jD _ _ _,165,M,239013];let e:∀ x,Se x 1=x%2:=λx=>O9 _ 1;show Q (V.int (Se (l/2^a.R) 1+Se (l/2^b.R) 1)) H;rw[e,e];exact N
def qD:az ["web","order","places"] ["web","order"] (aq oi):=by ac_nf
def ok_ord{PS:fc}(F:Fun K "order_of" "order_of" oi f fd)(T:Txt mg)(I:CW K C):li 1 f fd ["web","order"] (DY a PS C):=by
 refine F.ok qD λL A eK s H M Q dO u h=>?_
 let p o m O g t d rfl wo N:=h;let B fs _ _ _ _ G lm _:=wo.wt;let j:=wo.m40;let ol:=wo.len;let aa:=u.units
 intro J y;erw[_,(af (aA 2 qD.nd (xi U U T.n_list U T.n_range (aQ (pv 0) U)))
   (af (bJ (aD BD (pv 1) fZ (aJ _)) (ao (aG (pv 2))) aN)
   (af (bJ (aD (EH aa) (aE ju (by rfl) T.n_sorted iE (ae (pv 1) ai)) (pv 2) (aJ _)) (ao cG) aN)
   (ao (aG (eE kc (by rfl) T.n_list jv (ae (pv 1) ai))))))),3]
 erw[9,p,C,B,fs,9,G,I.cl,I.n1,lm,m,18,λq n=>?_]
 rw[show((Nf m).Z λ(i:R)=>V.int ((i:R):Y))=((Nf m).Z λ(i:R)=>((i:R):Y)).Z V.int by rw[NX];rfl]
 let v:=aj n (.lst (((Nf m).Z λ(i:R)=>((i:R):Y)).Z V.int));erw[617,iteF ?_];erw[9,o,cI d,U,by rw[cI_V];exact SqL.of (v _ _ wo.ho),by unfold cI;rw[MI];lia,λl D ab ac k=>?_]
 let e:=kG (ac.P (wo.pm.Z _)) k (Hw m);subst e;let b:=aj ab (.lst (((Nf m).Z λ(i:R)=>((i:R):Y)).Z V.int));let z:=v.P b;erw[89,Fx (SqL.of ag),Fx (SqL.of (b _ _ ag)),i6 _,i6 _,57];rw[BX];refine ite2 (λc=>?_) (λ_=>?_)
 .rw[Sx U]at c;cases c
 erw[9,o,9,.inl (SqL.of (z _ _ wo.ho)),λr x=>N r _ (z.P (aj x _)) (jQ z x) ag]
def iK:az ["web","behind","front","tie"] ["web","behind"] (aq ox):=by ac_nf
def Ij{PS:fc}(F:Fun K "front_of" "front_of" ox f fd)(cw:CW K q)(TL:CT K C)(TS:CT K PS)(al:lw 1 "ends_within" ["tie","patch"] (pQ K) a G):li 2 f fd ["web","behind"] (D5 C PS q):=by
 refine F.ok iK λI A g s H o Q dO u h=>?_
 let p N m n ts t rfl{r fs j xs _ _ l _ ap ac tk _}kl tn ab few y:=h;let ar:∀ e∈n,e.1<m/\e.2<m:=λe v=>#[(tn.ends e v).1,(tn.ends e v).2.1];let an:xs.L=n.L:=tk.1;let ct:∀ b,CT K (cls C PS b):=λb=>by
  unfold cls;split
  .exact TS
  .exact TL
 intros;erw[_,(af (aA 2 iK.nd ak)
   (af (mx (aM (aQ (pv 0) U)) (bq 3 iK.nd) (ao (bJ (aD cH (al.c u (ae (pv 3) (ae (pv 1) ai))) ak (aJ _)) (ao (aA 2 iK.nd (ay jB (pv 2) (ay cV (pv 1) (ay jB (ay bA ak (aQ (pv 3) U)) (ay bA ak (aQ (pv 3) U))))))) aN)))
   (ao (aG (pv 2))))),3]
 erw[9,p,q,r,fs,9,l,cw.cl,cw.n2,ap,j,U,#[_,SqL.of ac],br (K:=K) (xs:=xs) (λi L d=>∃ v3 M,L=[Z (.ref p),Z (.int (N:Y)),Z (.int ((M:R):Y)),v3]/\d=H/\lA (n.x i) N M) #[_,00,10,lA.z N] (λi L d _ aa=>by let _ _ _ z _:=aa;rw[z];exact SqL.of ac) ?_ ?_]
 .rintro i x L d B ⟨v3,M,rfl,rfl,fr⟩;let J:i<n.L:=by rw[← tk.1];exact(MF.mp B).1
  let e v:∃ e,n[i]?=Z e:=#[_,MG J];let k D:∃ k,t[i]?=Z k:=#[_,MG ∅]
  let p' ah x1 x2:=tk.2 i e k v D;rw[B]at x1
  cases x1
  let b1 b2:=ar e (MH v);let et:n.x (i+1)=n.x i++[e]:=by rw[M5,v];rfl
  let am:(bit (N:Y) (e.1:Y)+bit (N:Y) (e.2:Y)=1)↔N.O e.1≠N.O e.2:=by
   rw[bitN,bitN]
   cases N.O e.1<;>cases N.O e.2<;>decide
  erw[153,p',_,ah,597,x2,ct _,3700]
  refine ite2 (λc=>?_) (λc=>?_)
  .let T:=am.mp (V.int.inj (S8 c))
   erw[2457,p',_,ah,37,x2,(ct _).cl,(ct _).n1,iz _ _ _,165,#[20,by decide],9,p',_,ah,37,x2,(ct _).cl,(ct _).n2,jD _ _ _,165,#[20,by decide],61187493]
   erw[Z (.ref p'),M|||(N&&&(2^e.1|||2^e.2)),11,by rw[et];exact fr.put T]
   let eo:Sf (M:Y) (Se (N:Y) (Sf (1*2^((e.1:R):Y).R) (1*2^((e.2:R):Y).R)))=((M|||(N&&&(2^e.1|||2^e.2)):R):Y):=by rw[shlN,shlN,orN,andN,orN]
   show[Z (V.ref p),Z (V.int (N:Y)),Z (V.int (Sf (M:Y) (Se (N:Y) (Sf (1*2^((e.1:R):Y).R) (1*2^((e.2:R):Y).R))))),Z (V.ref p')]=_;rw[eo]
  .let T:N.O e.1=N.O e.2:=by
    cases eK:N.O e.1<;>cases O:N.O e.2
    .rfl
    .exact Tn (Sx (congrArg V.int (am.mpr (by rw[eK,O];decide)))) c
    .exact Tn (Sx (congrArg V.int (am.mpr (by rw[eK,O];decide)))) c
    .rfl
   erw[Z (.ref p'),M,10,by rw[et];exact fr.skip T]
 rintro L d ⟨v3,M,rfl,rfl,fr⟩;rw[an,M8]at fr;erw[9,y M fr]
def jG:az ["web","order","found","behind","place"] ["web","order"] (aq kK):=by ac_nf
def ET{PS T:fc}(F:FunD K "fronts" "fronts" kK f fd [eN.none].toArray)(ap:lw 1 "order_of" ["web","order"] (DY I PS T) a G)(ar:lw 2 "front_of" ["web","behind"] (D5 I PS T) C J):li 3 f fd ["web","order"] (ue I PS T):=by
 refine FunD.ok0 F jG (λD H Q dO h=>?_) (λN A eK s H D Q dO u h=>?_)
 .let p o m O ts t od rfl _:=h;rfl
 let p o m O ts t od rfl wo l:=h;let ob:=wo.lt;let ol:=wo.len;let ab:=wo.m40
 intros;erw[_,(af (aA 2 jG.nd (bX (ae ak ai)))
   (af (aA 3 jG.nd ak)
   (af (mx (aM (ap.c u (ae (pv 0) (ae (pv 1) ai)))) (bq 4 jG.nd) (af (aA 3 jG.nd (ay jB (pv 3) (ay bA ak (pv 4))))
   (ao (aW (eF Na Nq Np aX (pv 2) (ae (ar.c u (ae (pv 0) (ae (pv 3) ai))) ai))))))
   (ao (aG (pv 2)))))),3]
 erw[(by show 1<=RO;decide),λqf an=>?_]
 let v:=aj an (.lst [.int 0]);erw[153,p,o,m,O,ts,t,od,U,wo.mono v,λq d b nq n=>?_];let av:q≠qf:=λz=>by rw[z,ag]at nq;cases nq
 let ac:=v.P b;erw[q,U,#[_,SqL.of n],br (K:=K) (xs:=od.Z iV) (λi L r=>∃ v4 ms,L=[Z (.ref p),Z (.ref o),Z (.ref qf),Z (.int ((mk (od.x i):R):Y)),v4]/\(Same H r/\(r q=Z (.lst (od.Z iV))/\(r qf=Z (.lst (ms.Z iV))/\rV O (od.x i) ms)))) #[_,[0],U,ac,n,b _ _ ag,U,λk M e=>?_] (λi L r _ aa=>by let _ _ _ _ z _:=aa;exact SqL.of z) ?_ ?_]
 .match k with
  |0=>cases e;exact front0 O
  |k+1=>cases e
 .rintro i x L r B ⟨v4,ms,rfl,j,al,am,fr⟩;rw[MO]at B;let y ah rfl:=MZ.mp B;let g:=ob y (MH ah);let et:od.x (i+1)=od.x i++[y]:=by rw[M5,ah];rfl
  let ml:ms.L<=41:=by
   let:=fr.1;rw[NQ]at this;lia
  erw[42393,#[20,by decide],933]
  let eo:Sf ((mk (od.x i):R):Y) (1*2^((y:R):Y).R)=((mk (od.x (i+1)):R):Y):=by rw[et,E7,shlN,orN]
  erw[9,.inl #[6,SqL.of am],153,p,mk (od.x (i+1)),m,O,ts,t,congrArg (λz=>[V.ref p,V.int z]) eo,wo.wt.mono j,wo.kl,wo.tn,ab,wo.few,λM hM=>?_];erw[qf,165,am,ax (by rw[MI];lia),3]
  erw[Z (.int (y:Y)),ms++[M],3,aK j an _,by rw[aw av];exact al,by rw[ag,M0];rfl,by rw[et]at hM ⊢;exact fr.snoc hM]
  show[Z (V.ref p),Z (V.ref o),Z (V.ref qf),Z (V.int (Sf ((mk (od.x i):R):Y) (1*2^((y:R):Y).R))),Z (V.int (y:Y))]=_;rw[eo]
 .rintro L r ⟨v4,ms,rfl,j,al,am,fr⟩;rw[MI,M8]at fr;erw[9,l qf ms r j am fr]
def eh:az ["web","order","found","behind","place"] ["web","order"] (aq lK):=by ac_nf
def LQ{PS WC:fc}(F:Fun K "ties_back" "ties_back" lK f fd)(cw:CW K WC)(TL:CT K I)(TS:CT K PS)(an:lw 1 "ends_within" ["tie","patch"] (pQ K) q G):li 2 f fd ["web","order"] (JR I PS WC):=by
 refine F.ok eh λaa A g s H vs Q dO u h=>?_
 let p o m O ts ks od rfl{dx fs q1 xs q3 z3 n lm l1 eK tk l3 h3 a0}kl tn ac aL ho ob a4 kk:=h;let aI:xs.L=O.L:=tk.1;let ct:∀ b,CT K (cls I PS b):=λb=>by
  unfold cls;split
  .exact TS
  .exact TL
 let ol:(cI od).L=od.L:=by unfold cI;rw[MI]
 intros;erw[_,(af (aA 2 eh.nd (bX ai))
   (af (aA 3 eh.nd ak)
   (af (mx (aM (pv 1)) (bq 4 eh.nd) (af (aA 3 eh.nd (ay jB (pv 3) (ay bA ak (pv 4))))
   (ao (aW (eF Na Nq Np aX (pv 2) (ae (cM [("web",0),("behind",3)] ["number"] (aM (ba (aQ (pv 0) U) (pv 4))) pg_c (λC ex s H=>(fV (aD cH (an.c u (ae (pB K (qL (K:=K) U (pv 1) U) (pv 0)) (ae (pv 2) ai))) ak (aJ _)))) (λC ex s H=>(pv 0))) ai))))))
   (ao (aG (pv 2)))))),3]
 erw[(by show 0<=RO;decide),λqf av=>?_]
 let d:=aj av (.lst []);erw[9,o,U,#[_,SqL.of (d _ _ ho)],br (K:=K) (xs:=(cI od).Z V.int) (λi L H3=>∃ v4 T,L=[Z (.ref p),Z (.ref o),Z (.ref qf),Z (.int ((mk (od.x i):R):Y)),v4]/\Same H H3/\H3 qf=Z (.lst T)/\bK (λa=>a=qf∨H a≠lf) H3 T (eU O ts od i)) #[_,[],U,d,ag,U,λi l e=>by simp[eU]at e] (λi L H3 _ ab=>by let _ _ _ z _:=ab;exact SqL.of (z _ _ ho)) ?_ ?_]
 .rintro i x L H3 B ⟨v4,T,rfl,s3,ar,rx⟩;rw[MO]at B;let y hy rfl:=MZ.mp B;unfold cI at hy;rw[MO]at hy;let pl am rfl:=MZ.mp hy;let M:=ob pl (MH am);let J:i<od.L:=(MF.mp am).1;let et:od.x (i+1)=od.x i++[pl]:=by rw[M5,am];rfl
  let gd:od.v i 0=pl:=by rw[MX,am];rfl
  erw[42393,#[20,by decide],933]
  let eo:Sf ((mk (od.x i):R):Y) (1*2^((pl:R):Y).R)=((mk (od.x (i+1)):R):Y):=by rw[et,E7,shlN,orN]
  let row al:∃ row,ts[pl]?=Z row:=#[_,MG (by rw[tn.len];exact M)]
  let r r1 r2:=a0.2 pl row al;let aS:qI ts (od.v i 0)=row:=by unfold qI;rw[gd,al];rfl
  let zl:T.L=i:=by rw[rx.1];unfold eU;rw[MI,Nl]
  let rl:row.L<=O.L:=by
   refine eJ (tn.nd pl row al) λt ht=>?_;let e v _:=(tn.mem pl row al t).mp ht;exact(MF.mp v).1
  erw[9,.inl #[6,SqL.of ar],9,p,WC,dx,fs,9,s3 _ _ n,cw.cl,cw.n3,l3,9,q3,z3,165,SqL.of (s3 _ _ h3),aF r1,r,U,#[_,SqL.of (s3 _ _ r2)],aZ (K:=K) (xs:=row.Z iV) (λj ys H4=>H4=H3/\ys=(pL O (mk (od.x (i+1))) (row.x j)).Z iV) (M4 (ax (by rw[MI];lia))) #[10] (λj ys H4 _ z=>by rw[z.1];exact SqL.of (s3 _ _ r2)) ?_ ?_ ?_]
  .rintro j x ys H4 B ⟨rfl,rfl⟩;rw[MO]at B;let t ht rfl:=MZ.mp B;let e v _:=(tn.mem pl row al t).mp (MH ht);let k N:∃ k,ks[t]?=Z k:=#[_,MG (by let:=(MF.mp v).1;lia)]
   let p' ah x1 x2:=tk.2 t e k v N;let aT:row.x (j+1)=row.x j++[t]:=by rw[M5,ht];rfl
   erw[38,p,WC,dx,fs,9,s3 _ _ n,cw.cl,cw.n2,l1,9,q1,xs,165,SqL.of (s3 _ _ eK),aF x1,9,p',_,ah,597,s3 _ _ x2,ct _,3700]
   let ap:(bit (Sf ((mk (od.x i):R):Y) (1*2^((pl:R):Y).R)) (e.1:Y)+bit (Sf ((mk (od.x i):R):Y) (1*2^((pl:R):Y).R)) (e.2:Y)=2)↔insT O (mk (od.x (i+1))) t=kt:=by
    rw[eo,bitN,bitN,Ae v]
    cases (mk (od.x (i+1))).O e.1<;>cases (mk (od.x (i+1))).O e.2<;>decide
   refine ite2 (λc=>?_) (λc=>?_)
   .let c':=ap.mp (V.int.inj (S8 c))
    erw[233];unfold pL;rw[aT,OG,OO c',M0];rfl
   .let c':¬ insT O (mk (od.x (i+1))) t=kt:=λz=>c (Sx (congrArg V.int (ap.mpr z)))
    erw[14];unfold pL;rw[aT,OG,OP c',Pk,NT]
  .rintro ys H4 ⟨rfl,rfl⟩ D hD;rw[MI,M8];let Dq:D≠qf:=λz=>by rw[z,ar]at hD;cases hD
   let s4:=aj hD (.lst ((pL O (mk (od.x (i+1))) row).Z iV));erw[qf,T,41,s4 _ _ ar,ax ∅,3]
   erw[Z (.int (pl:Y)),T++[.ref D],3,aK (s3.P s4) av _,ag,3]
   .show[Z (V.ref p),Z (V.ref o),Z (V.ref qf),Z (V.int (Sf ((mk (od.x i):R):Y) (1*2^((pl:R):Y).R))),Z (V.int (pl:Y))]=_;rw[eo]
   .rw[Dk,aS]
    let r0:bK (λa=>a=qf∨H a≠lf) (upd (upd H4 D (.lst ((pL O (mk (od.x (i+1))) row).Z iV))) qf (.lst (T++[.ref D]))) T (eU O ts od i):=#[rx.1,λj l e=>by
     let a a1 a2 a3:=rx.2 j l e
     erw[a,a1,a2,by rw[aw (λz=>a2 (.inl z))];exact s4 _ _ a3]]
    exact r0.snoc (λz=>z.elim Dq λy=>y (jQ s3 hD)) (by rw[aw Dq];exact ag)
  .rintro j ys H4 ⟨_,rfl⟩;rw[MI];unfold pL;exact NH (Oa _ _) (by rw[NQ];exact O0 _ _)
 .rintro L H3 ⟨v4,T,rfl,s3,ar,rx⟩;rw[MI,ol]at rx
  erw[9,kk qf T H3 s3 av ar #[rx.1,λi l e=>by
   let a a1 a2 a3:=rx.2 i l e
   erw[a,a1,λz=>a2 (.inr z),a3]]]
def UN(es:En)(ks:Kn)(L t:R):ke:=match es[t]? with|some e=>(L.O e.1 ^^ L.O e.2 ^^ bp ks t)|none=>k9
def Ju{ks:Kn}{t:R}{e:R×R}(h:es[t]?=Z e):UN es ks L t=(L.O e.1 ^^ L.O e.2 ^^ bp ks t):=by unfold UN;rw[h]
def DQ{ks:Kn}{t:R}{k:Y×Y}(h:ks[t]?=Z k):stg ks t=k.2:=by unfold stg;rw[h]
def wS(es:En)(ks:Kn)(L:R):R->Y
 |0=>0
 |i+1=>if UN es ks L i=kt then wS es ks L i+stg ks i else wS es ks L i
def wT(es:En)(ks:Kn)(L:R):Y:=wS es ks L es.L
def sumL{α:Type}(l:E α)(f:α->Y):Y:=(l.Z f).sum
theorem t6(f:α->Y):sumL [] f=0:=rfl
def b7(x:α)(l:E α)(f:α->Y):sumL (x::l) f=f x+sumL l f:=by unfold sumL;rw[NF,PY]
def nZ{l:E α}{f g:α->Y}(h:∀ x∈l,f x=g x):sumL l f=sumL l g:=by
 induction l with
 |nil=>rfl
 |cons x l C=>rw[b7,b7,h x ∅,C λy j=>h y (by simp[j])]
def t8(l r:E α)(f:α->Y):sumL (l++r) f=sumL l f+sumL r f:=by
 induction l with
 |nil=>rw[List.nil_append,t6,N1]
 |cons x l C=>rw[Qq,b7,b7,C];lia
abbrev M3:=R×R×Y
def wysL(b:R->j5 Y)(ms:E M3):E (Y×R×R):=ms.filterMap λt=>(b t.2.1).Z λx=>(t.2.2+x,t.1,t.2.1)
def lowW(ws:E (Y×R×R)):j5 Y:=(ws.Z (·.1)).min?
def aO(mv:R->R->E M3)(m:R):R->R->j5 Y
 |0,s=>if s=0 then Z 0 else lf
 |j+1,s=>lowW (wysL (aO mv m j) (mv (m-(j+1)) s))
def bstL(b h:R->j5 Y)(ms:E M3)(s:R):E (R×R):=((wysL h ms).filter λw=>decide (Z w.1=b s)).Z (·.2)
def begL(mv:R->R->E M3)(m:R):R->E (R×R)
 |0=>[(0,0)]
 |k+1=>(begL mv m k).flatMap λe=>(bstL (aO mv m (m-k)) (aO mv m (m-(k+1))) (mv k e.2) e.2).Z λw=>(e.1|||w.1,w.2)
def nY{b:R->j5 Y}{ms:E M3}{w:Y×R×R}:w∈wysL b ms↔∃ c x,(w.2.1,w.2.2,c)∈ms/\b w.2.2=Z x/\w.1=c+x:=by
 unfold wysL;rw[Pf];constructor
 .rintro⟨⟨o,t,c⟩,eK,O⟩;let x G rfl:=MZ.mp O;erw[c,x,eK,G,U]
 .rintro⟨c,x,eK,O,G⟩;erw[_,eK,3];show(b w.2.2).Z _=_;rw[O];show Z (c+x,w.2.1,w.2.2)=Z w;rw[← G]
def pW{ws:E (Y×R×R)}{x:Y}:lowW ws=Z x↔(∃ w∈ws,w.1=x)/\∀ w∈ws,x<=w.1:=by
 unfold lowW;rw[List.min?_eq_some_iff];constructor
 .rintro⟨eK,O⟩;let w G dO:=Nc.mp eK;erw[#[w,G,dO],λw T=>O _ (Oc T)]
 .rintro⟨⟨w,eK,rfl⟩,O⟩
  erw[Oc eK,λy j=>by
   let v G rfl:=Nc.mp j
   exact O v G]
def low_ex{ws:E (Y×R×R)}{w:Y×R×R}(h:w∈ws):∃ x,lowW ws=Z x/\x<=w.1:=by
 cases e:lowW ws with
 |none=>
  unfold lowW at e;rw[List.min?_eq_none_iff,List.map_eq_nil_iff]at e;rw[e]at h
  cases h
 |some x=>exact#[x,U,(pW.mp e).2 w h]
def rR{b h:R->j5 Y}{ms:E M3}{s o t:R}:(o,t)∈bstL b h ms s↔∃ c x,(o,t,c)∈ms/\h t=Z x/\b s=Z (c+x):=by
 unfold bstL;rw[Nc];constructor
 .rintro⟨w,eK,O⟩;let G dO:=N0.mp eK;let c x e n f:=nY.mp G;rw[O]at e n;erw[c,x,e,n,by rw[← f];exact(S8 dO).X]
 .rintro⟨c,x,eK,O,G⟩;erw[(c+x,o,t),N0.mpr #[nY.mpr #[c,x,eK,O,U],Sx G.X],U]
structure gY(mv:R->R->E M3)(m:R)(Ok:R->Prop)(W:R->Y)(sg pt ow:R->R->R)(cs:R->R->Y)(Pt:R->R->R->Y->Prop)(rs:R->R->R):Prop where
 go:∀ L,Ok L->∀ k,k<m->(ow k L,sg (k+1) L,cs k L)∈mv k (sg k L)/\pt (k+1) L=pt k L|||ow k L
 s0:∀ L,Ok L->sg 0 L=0/\pt 0 L=0/\sg m L=0/\pt m L=L
 wt:∀ L,Ok L->W L=((Nf m).Z λk=>cs k L).sum
 p0:Pt 0 0 0 0
 ps:∀ k l s a,k<m->Pt k l s a->∀ o t c,(o,t,c)∈mv k s->Pt (k+1) (l|||o) t (a+c)/\rs k (l|||o)=l
 pe:∀ l s a,Pt m l s a->Ok l/\s=0/\W l=a
 nd:∀ k l s a,k<m->Pt k l s a->((mv k s).Z λt=>l|||t.1).h
section
variable{mv:R->R->E M3}{m:R}{Ok:R->Prop}{W:R->Y}{sg pt ow rs:R->R->R}{cs:R->R->Y}{Pt:R->R->R->Y->Prop}
def wC{k:R}(h:k<m)(s:R):aO mv m (m-k) s=lowW (wysL (aO mv m (m-(k+1))) (mv k s)):=by
 let j rfl:∃ j,m=k+1+j:=#[m-(k+1),4]
 rw[show k+1+j-k=j+1 by lia,show k+1+j-(k+1)=j by lia]
 show lowW (wysL _ (mv (k+1+j-(j+1)) s))=_;rw[show k+1+j-(j+1)=k by lia]
def se(cs:R->R->Y)(L m k:R):Y:=((List.range' k (m-k)).Z λi=>cs i L).sum
def DL(cs:R->R->Y)(L:R){m k:R}(h:k<m):se cs L m k=cs k L+se cs L m (k+1):=by
 unfold se;rw[show m-k=(m-(k+1))+1 by lia,QY,NF,PY]
theorem gY.low(ad:gY mv m Ok W sg pt ow cs Pt rs){L:R}(h:Ok L):∀ j,j<=m->∃ b,aO mv m j (sg (m-j) L)=Z b/\b<=se cs L m (m-j)
 |0,_=>by
  erw[00,15]
  .rw[P9,(ad.s0 L h).2.2.1];rfl
  .unfold se;rw[P9,Nz];exact N6 _
 |j+1,c=>by
  let b eK O:=ad.low h j ∅
  let o:m-(j+1)<m:=by lia
  let e:m-j=m-(j+1)+1:=by lia
  let G _:=ad.go L h _ o;rw[e]at eK O;let x dO s:=low_ex (nY (w:=(cs (m-(j+1)) L+b,ow (m-(j+1)) L,sg (m-(j+1)+1) L)).mpr #[5,G,eK,U]);erw[x,dO,3];rw[DL cs L o];lia
theorem gY.beg(ad:gY mv m Ok W sg pt ow cs Pt rs){fl:Y}(A:aO mv m m 0=Z fl):∀ k,k<=m->∀ e∈begL mv m k,∃ a b,Pt k e.1 e.2 a/\aO mv m (m-k) e.2=Z b/\a+b=fl
 |0,_,e,N=>by
  cases MQ.mp N
  erw[00,fl,ad.p0,A,4]
 |k+1,D,e,N=>by
  let d eK O:=Pw.mp N;let{o t}G rfl:=Nc.mp O;let a b dO s n:=ad.beg A k ∅ d eK
  let c x f g h:=rR.mp G;rw[s]at h
  cases h
  erw[a+c,x,(ad.ps k _ _ _ ∅ dO _ _ _ f).1,g,4]
theorem gY.has(ad:gY mv m Ok W sg pt ow cs Pt rs){fl:Y}(A:aO mv m m 0=Z fl){L:R}(h:Ok L)(hw:W L=fl):∀ k,k<=m->(pt k L,sg k L)∈begL mv m k/\aO mv m (m-k) (sg k L)=Z (se cs L m k)
 |0,_=>by
  let eK O _:=ad.s0 L h;erw[by rw[eK,O];exact MQ.mpr U,3]
  rw[eK,P9,A,← hw,ad.wt L h];unfold se;rw[P9,Qz]
 |k+1,D=>by
  let eK O:=ad.has A h hw k ∅
  let G dO:=ad.go L h k ∅
  let b s n:=ad.low h (m-(k+1)) ∅
  rw[show m-(m-(k+1))=k+1 by lia]at s n
  let o:k<m:=by lia
  let M:=DL cs L o;let v:=O;rw[wC o]at v;let f:=(pW.mp v).2 _ (nY (w:=(cs k L+b,ow k L,sg (k+1) L)).mpr #[5,G,s,U]);let C:b=se cs L m (k+1):=by
   let:se cs L m k<=cs k L+b:=f;lia
  rw[C]at s;erw[Pw.mpr #[_,eK,Nc.mpr #[(ow k L,sg (k+1) L),rR.mpr #[5,G,s,3],3]],s]
  .rw[← M];exact O
  .show(pt k L|||ow k L,_)=_
   rw[← dO]
theorem gY.apart(ad:gY mv m Ok W sg pt ow cs Pt rs){fl:Y}(A:aO mv m m 0=Z fl):∀ k,k<=m->((begL mv m k).Z (·.1)).h
 |0,_=>Nt.mpr #[(λz=>nomatch z),NU]
 |k+1,D=>by
  let C:=ad.apart A k ∅
  let r:=ad.beg A k ∅
  show(((begL mv m k).flatMap _).Z _).h;generalize begL mv m k=B at C r;induction B with
  |nil=>exact NU
  |cons e B jh=>
   rw[Qj,M0];rw[NF]at C;let J g:=Nt.mp C;let a b eK O I:=r e (M7 ..);let l:∀ Q∈e::B,∀ y∈(bstL (aO mv m (m-k)) (aO mv m (m-(k+1))) (mv k Q.2) Q.2).Z (λw=>(Q.1|||w.1,w.2)),rs k y.1=Q.1:=λQ H y j=>by
    let{o t}dO rfl:=Nc.mp j;let c x s _:=rR.mp dO;let N h n _:=r Q H;exact(ad.ps k _ _ _ ∅ n _ _ _ s).2
   refine NP.mpr #[3,jh g (λQ H=>r Q (M6 _ H)),3]
   .let nd:=ad.nd k _ _ _ ∅ eK
    unfold bstL;rw[NX,NX];let sub:∀(f:E M3)(q:Y×R×R->ke),(f.Z λt=>e.1|||t.1).h->(((wysL (aO mv m (m-(k+1))) f).filter q).Z λw=>e.1|||w.2.1).h:=λf q T=>by
     refine List.Nodup.sublist ((List.filter_sublist).Z _) ?_;induction f with
     |nil=>exact NU
     |cons t f i=>
      rw[NF]at T;let d v:=Nt.mp T;unfold wysL;rw[Oh]
      cases u:aO mv m (m-(k+1)) t.2.1 with
      |none=>exact i v
      |some x=>
       refine Nt.mpr #[λz=>d ?_,i v];let w p M:=Nc.mp z;let c y L _:=nY.mp p;exact Nc.mpr #[_,L,M]
    exact sub _ _ nd
   .intro x G y j aa;let x' dO rfl:=Nc.mp G;let y' s rfl:=Nc.mp j;let Q n h7:=Pw.mp s;let h8:=l e (M7 ..) x' dO;let h9:=l Q (M6 _ n) y' h7;rw[aa,h9]at h8;exact J (by rw[← h8];exact Oc n)
def gY.grow(ad:gY mv m Ok W sg pt ow cs Pt rs){fl:Y}(A:aO mv m m 0=Z fl){k:R}(D:k<m):(begL mv m k).L<=(begL mv m (k+1)).L:=by
 let r:=ad.beg A k (M4 D);show _<=((begL mv m k).flatMap _).L;generalize begL mv m k=B at r;induction B with
 |nil=>exact MN _
 |cons e B d=>
  rw[Qj,MP,OJ,MI];let eK:=d λQ H=>r Q (M6 _ H);let a b _ O _:=r e (M7 ..);let v:=O;rw[wC D]at v;let{w G dO}_:=pW.mp v;let c x s n f:=nY.mp G;let g:(w.2.1,w.2.2)∈bstL (aO mv m (m-k)) (aO mv m (m-(k+1))) (mv k e.2) e.2:=rR.mpr #[c,x,s,n,by rw[O,← dO,f]]
  let:=Om g;lia
def gY.done(ad:gY mv m Ok W sg pt ow cs Pt rs)(h:Ok N):∃ fl,aO mv m m 0=Z fl/\(∀ L,Ok L->fl<=W L)/\((begL mv m m).Z (·.1)).h/\∀ L,L∈(begL mv m m).Z (·.1)↔Ok L/\W L=fl:=by
 let all:∀ L,Ok L->∃ b,aO mv m m 0=Z b/\b<=W L:=λL d=>by
  let b eK O:=ad.low d m (MN _);rw[Nz,(ad.s0 L d).1]at eK;erw[b,eK,3];rw[ad.wt L d,Qz];unfold se at O;rw[Nz,P9]at O;exact O
 let fl A _:=all N h;erw[fl,A,λL d=>?_,ad.apart A m (MN _),λL=>#[λz=>?_,λ⟨k,D⟩=>?_]]
 .let b eK O:=all L d;rw[A]at eK
  cases eK
  exact O
 .let e eK rfl:=Nc.mp z;let a b O G dO:=ad.beg A m (MN _) e eK;let s n f:=ad.pe _ _ _ O;rw[Nz,n]at G
  cases G
  erw[s,4]
 .let:=(ad.has A k D m (MN _)).1
  rw[(ad.s0 L k).2.2.2]at this;exact Nc.mpr #[_,this,U]
end
structure cD(m:R)(es:En)(ks:Kn)(ts:oD)(od ms:E R):Prop where
 mk9 ::
 pm:od.Perm (Nf m)
 tu:dJ m es ts
 fr:rV es od ms
def prU(es:En)(ks:Kn)(L t:R):Y:=if UN es ks L t=kt then stg ks t else 0
def bkL(es:En)(ts:oD)(od:E R)(k:R):E R:=pL es (mk (od.x (k+1))) (qI ts (od.v k 0))
def okB(es:En)(ks:Kn)(T:R)(bk:E R)(h:R):ke:=bk.all λt=>!(UN es ks h t)||T.O t
def sgL(p s:R):E R:=if p=0 then[s] else[s,s|||2^p]
def mvB(es:En)(ks:Kn)(T p:R)(bk:E R)(F s:R):E M3:=(sgL p s).filterMap λh=>if okB es ks T bk h=kt then Z (h&&&2^p,h&&&F,sumL bk (prU es ks h)) else lf
def mvL(es:En)(ks:Kn)(ts:oD)(od ms:E R)(T k s:R):E M3:=mvB es ks T (od.v k 0) (bkL es ts od k) (ms.v (k+1) 0) s
def OkL(es:En)(ks:Kn)(m T L:R):Prop:=L<2^m/\L.O 0=k9/\∀ t,t<es.L->UN es ks L t=kt->T.O t=kt
structure Pt39(es:En)(ks:Kn)(ts:oD)(od ms:E R)(T k l s:R)(a:Y):Prop where
 wi:∀ x,l.O x=kt->x∈od.x k
 up:l.O 0=k9
 st:s=l&&&ms.v k 0
 ok:∀ i,i<k->∀ t∈bkL es ts od i,UN es ks l t=kt->T.O t=kt
 co:a=((Nf k).Z λi=>sumL (bkL es ts od i) (prU es ks l)).sum
section
variable{m T:R}{es:En}{ks:Kn}{ts:E (E R)}{od ms:E R}
def cD.len(O:cD m es ks ts od ms):od.L=m:=by rw[O.pm.length_eq,Nl]
def cD.at_(O:cD m es ks ts od ms){k:R}(h:k<m):od[k]?=Z (od.v k 0):=by
 rw[MX,MG (by rw[O.len];exact h)];rfl
theorem cD.lt(O:cD m es ks ts od ms){k:R}(h:k<m):od.v k 0<m:=Nk.mp (O.pm.mem_iff.mp (MH (O.at_ h)))
theorem cD.nd(O:cD m es ks ts od ms):od.h:=O.pm.nodup_iff.mpr Qp
def cD.take(O:cD m es ks ts od ms){k:R}(h:k<m):od.x (k+1)=od.x k++[od.v k 0]:=by rw[M5,O.at_ h];rfl
theorem cD.new(O:cD m es ks ts od ms){k:R}(h:k<m):od.v k 0∉od.x k:=λz=>by
 let n:=(PK (k+1) od).nodup O.nd;rw[O.x h]at n;exact(NP.mp n).2.2 _ z _ (MQ.mpr U) U
def cD.fr_at(O:cD m es ks ts od ms){k:R}(h:k<=m):lA es (mk (od.x k)) (ms.v k 0):=by
 refine O.fr.2 k _ ?_;rw[MX,MG (by rw[O.fr.1,O.len];lia)];rfl
def cD.fr_in(O:cD m es ks ts od ms){k x:R}(h:k<=m)(B:(ms.v k 0).O x=kt):x∈od.x k:=by
 rw[O.fr_at h x,cJ]at B;exact S8 (ON.mp B).1
def cD.back(O:cD m es ks ts od ms){k t:R}(h:k<m):t∈bkL es ts od k↔∃ e,es[t]?=Z e/\(e.1=od.v k 0∨e.2=od.v k 0)/\e.1∈od.x (k+1)/\e.2∈od.x (k+1):=by
 let u:ts[od.v k 0]?=Z (qI ts (od.v k 0)):=by
  unfold qI;rw[MG (by rw[O.tu.len];exact O.lt h)];rfl
 unfold bkL pL;rw[N0,O.tu.mem _ _ u];constructor
 .rintro⟨⟨e,eK,N⟩,G⟩;rw[Ae eK,cJ,cJ]at G;let dO s:=ON.mp G;erw[e,eK,N,S8 dO,S8 s]
 .rintro⟨e,eK,N,G,dO⟩;erw[#[e,eK,N],3];rw[Ae eK,cJ,cJ,Sx G,Sx dO];rfl
def DC{es:En}{ks:Kn}{t L':R}{e:R×R}(h:es[t]?=Z e)(eK:L.O e.1=L'.O e.1)(h2:L.O e.2=L'.O e.2):UN es ks L t=UN es ks L' t:=by rw[Ju h,Ju h,eK,h2]
def cD.here(O:cD m es ks ts od ms){k t h:R}(D:k<m)(g:t∈bkL es ts od k)(G:h.O (od.v k 0)=L.O (od.v k 0))(f:∀ x,(ms.v k 0).O x=kt->h.O x=L.O x):UN es ks h t=UN es ks L t:=by
 let e N l p s:=(O.back D).mp g;let _ _ C:=O.tu.ends e (MH N);let i:∀ y,y∈od.x (k+1)->y≠od.v k 0->(e.1=y/\e.2=od.v k 0∨e.1=od.v k 0/\e.2=y)->(ms.v k 0).O y=kt:=λy j T J=>by
  rw[O.x D]at j;let b:y∈od.x k:=by
   obtain z|z:=Ng.mp j
   .exact z
   .exact Tn (MQ.mp z) T
  rw[O.fr_at (M4 D) y,cJ,Sx b,Oj];refine Ox.mpr #[e,MH N,3];let d:(mk (od.x k)).O (od.v k 0)=k9:=by rw[cJ];exact RN (O.new D)
  unfold atF;rcases J with⟨a,c⟩|⟨a,c⟩<;>rw[a,c,d]<;>simp
 obtain z|z:=l
 .exact DC N (by rw[z];exact G) (f _ (i e.2 s (λq=>C (z.P q.X)) (.inr #[z,U])))
 .exact DC N (f _ (i e.1 p (λq=>C (q.P z.X)) (.inl #[U,z]))) (by rw[z];exact G)
def cD.within(O:cD m es ks ts od ms){k t l:R}(D:k<m)(g:t∈bkL es ts od k)(f:∀ x∈od.x (k+1),l.O x=L.O x):UN es ks l t=UN es ks L t:=by
 let e N _ p s:=(O.back D).mp g;exact DC N (f _ p) (f _ s)
def cD.sub(O:cD m es ks ts od ms){k x:R}(D:k<m)(B:(ms.v (k+1) 0).O x=kt):x=od.v k 0∨(ms.v k 0).O x=kt:=by
 let eK:=O.fr_at (Nat.succ_le_of_lt D) x;rw[B,cJ,O.x D]at eK;let N G:=ON.mp eK.X;rcases Ng.mp (S8 N)with z|z
 .right;rw[O.fr_at (M4 D) x,cJ,Sx z,Oj];let e v q:=Ox.mp G;refine Ox.mpr #[e,v,3];unfold atF at q ⊢;let i:∀ y,(mk (od.x k++[od.v k 0])).O y=k9->(mk (od.x k)).O y=k9:=λy j=>by
   rw[cJ]at j ⊢;exact RN λz=>of_decide_eq_false j (NG _ z)
  obtain z|z:=ke.or_eq_true_iff.mp q
  .let a b:=ON.mp z;rw[a,i e.2 (by simpa using b)];rfl
  .let a b:=ON.mp z;rw[a,i e.1 (by simpa using b)];simp
 .exact .inl (MQ.mp z)
def cD.flat(O:cD m es ks ts od ms):((Nf m).flatMap (bkL es ts od)).Perm (Nf es.L):=by
 let C:∀{i j:R},i<m->j<m->od.v i 0∈od.x (j+1)->i<=j:=λ{i j} J L z=>by
  let n T:=Nx z;rw[QI]at T;split at T
  .rename_i Q;let f:=O.at_ J;let:=(QN (by rw[O.len];exact J) O.nd).mp (f.P T.X)
   lia
  .cases T
 refine(Oy ?_ Qp).mpr λt=>?_
 .refine List.pairwise_flatMap.mpr #[λk D=>?_,3]
  .let b:=Nk.mp D
   let u:ts[od.v k 0]?=Z (qI ts (od.v k 0)):=by
    unfold qI;rw[MG (by rw[O.tu.len];exact O.lt b)];rfl
   exact(O.tu.nd _ _ u).filter _
  .refine RD ?_ (Qr (n:=m));intro i j J L c t eK d N h;subst h;let w:=Nk.mp J;let A:=Nk.mp L;let e r _ I q:=(O.back w).mp eK;let l b1 b2 _:=(O.back A).mp N;rw[r]at b1
   cases b1
   obtain z|z:=b2
   .rw[z]at I;let:=C A w I;lia
   .rw[z]at q;let:=C A w q;lia
 .rw[Pw,Nk];constructor
  .rintro⟨k,D,g⟩;let e v _:=(O.back (Nk.mp D)).mp g;exact(MF.mp v).1
  .intro g;let v:=MG g;generalize es[t]=e at v;let a M _:=O.tu.ends e (MH v);let at_:∀ x,x<m->∃ k,k<m/\od.v k 0=x:=λx B=>by
    let k D:=Nx (O.pm.mem_iff.mpr (Nk.mpr B));let o:=(MF.mp D).1;rw[O.len]at o;rw[O.at_ o]at D;erw[k,o,Ny D]
   let up:∀{i j:R},i<=j->j<m->od.v i 0∈od.x (j+1):=λ{i j} c L=>by
    refine MH (i:=i) ?_;rw[QI,Ti ∅]
    exact O.at_ ∅
   let i p s:=at_ _ a;let j y G:=at_ _ M;obtain z|z:=Nat.le_total i j
   .erw[j,Nk.mpr y,(O.back y).mpr #[e,v,.inr G.X,by rw[← s];exact up z y,by rw[← G];exact up (MN _) y]]
   .erw[i,Nk.mpr p,(O.back p).mpr #[e,v,.inl s.X,by rw[← s];exact up (MN _) p,by rw[← G];exact up z p]]
theorem Jy(es:En)(ks:Kn)(L:R):∀ n,wS es ks L n=sumL (Nf n) (prU es ks L)
 |0=>rfl
 |n+1=>by
  rw[Oq,t8,b7,t6,wS,Jy es ks L n];unfold prU;split<;>lia
def DO{r:E R}(h:l.Perm r)(f:R->Y):sumL l f=sumL r f:=by
 induction h with
 |nil=>rfl
 |cons x _ C=>rw[b7,b7,C]
 |swap x y l=>rw[b7,b7,b7,b7];lia
 |trans _ _ a b=>exact a.P b
theorem wN(bk:R->E R)(f:R->Y):∀ l:E R,sumL (l.flatMap bk) f=(l.Z λk=>sumL (bk k) f).sum
 |[]=>rfl
 |k::l=>by rw[Qj,t8,wN bk f l,NF,PY]
def cD.cost(O:cD m es ks ts od ms)(L:R):wT es ks L=((Nf m).Z λk=>sumL (bkL es ts od k) (prU es ks L)).sum:=by
 unfold wT;rw[Jy,← wN,DO O.flat]
def J1{T:R}{bk:E R}{h:R}:okB es ks T bk h=kt↔∀ t∈bk,UN es ks h t=kt->T.O t=kt:=by
 unfold okB;rw[Rb];erw[λz t g f=>?_,λz t g=>?_]
 .let:=z t g
  rw[f]at this;exact this
 .cases e:UN es ks h t with
  |false=>rfl
  |true=>rw[z t g e];rfl
def E2{T p s:R}{bk:E R}{x:M3}:x∈mvB es ks T p bk F s↔∃ h∈sgL p s,okB es ks T bk h=kt/\x=(h&&&2^p,h&&&F,sumL bk (prU es ks h)):=by
 unfold mvB;rw[Pf];erw[λ⟨h,eK,O⟩=>?_,λ⟨h,eK,O,G⟩=>#[h,eK,by rw[Ti O,G]]]
 split at O
 .rename_i c;erw[h,eK,c,(Ny O).X]
 .cases O
def Bl{p s h:R}:h∈sgL p s↔h=s∨(p≠0/\h=s|||2^p):=by
 unfold sgL;split
 .rename_i c;simp[c]
 .rename_i c;simp[c]
def t5{f g:R->Y}(h:∀ x∈l,f x=g x):(l.Z f).sum=(l.Z g).sum:=by rw[Od h]
theorem cD.rows(O:cD m es ks ts od ms)(T:R):gY (mvL es ks ts od ms T) m (OkL es ks m T) (wT es ks) (λk L=>L&&&ms.v k 0) (λk L=>L&&&mk (od.x k)) (λk L=>L&&&2^od.v k 0) (λk L=>sumL (bkL es ts od k) (prU es ks L)) (Pt39 es ks ts od ms T) (λk l=>l&&&mk (od.x k)) where
 go:=λL ⟨_,l0,lo⟩ k D=>by
  let ac:=M4 D;let nF:(ms.v k 0).O (od.v k 0)=k9:=by
   cases e:(ms.v k 0).O (od.v k 0) with
   |false=>rfl
   |true=>exact Tn (O.fr_in ac e) (O.new D)
  let aa:∃ h∈sgL (od.v k 0) (L&&&ms.v k 0),∀ x,h.O x=if x=od.v k 0 then L.O x else(L.O x&&(ms.v k 0).O x):=by
   cases e:L.O (od.v k 0) with
   |false=>
    erw[_,Bl.mpr (.inl U),λx=>?_];rw[NA];split
    .rename_i c;rw[c,e];rfl
    .rfl
   |true=>
    erw[_,Bl.mpr (.inr #[λz=>?_,U]),λx=>?_]
    .rw[z,l0]at e;cases e
    rw[NS,NA,Nu];split
    .rename_i c;rw[c,e,nF];simp
    .rename_i c;rw[RN (λz=>c z.X),O7]
  let h eK N:=aa;let G:h.O (od.v k 0)=L.O (od.v k 0):=by rw[N,Ti U]
  let hF:∀ x,(ms.v k 0).O x=kt->h.O x=L.O x:=λx B=>by
   rw[N];split
   .rfl
   .rw[B,Qm]
  let un:∀ t∈bkL es ts od k,UN es ks h t=UN es ks L t:=λt g=>O.here D g G hF;erw[E2.mpr #[h,eK,J1.mpr λt g C=>?_,3],3]
  .rw[un t g]at C;let e v _:=(O.back D).mp g;exact lo t (MF.mp v).1 C
  .let f:L&&&2^od.v k 0=h&&&2^od.v k 0:=by
    apply NC;intro x;rw[NA,NA,Nu];by_cases c:od.v k 0=x
    .rw[← c,G]
    .rw[RN c,Oi,Oi]
   let A:L&&&ms.v (k+1) 0=h&&&ms.v (k+1) 0:=by
    apply NC;intro x;rw[NA,NA]
    cases z:(ms.v (k+1) 0).O x with
    |false=>rw[Oi,Oi]
    |true=>
     obtain q|q:=O.sub D z
     .rw[q,G]
     .rw[hF x q]
   let b:sumL (bkL es ts od k) (prU es ks L)=sumL (bkL es ts od k) (prU es ks h):=nZ λt g=>by unfold prU;rw[un t g]
   show(_,_,_)=(_,_,_);rw[f,A,b]
  .apply NC;intro x;show(L&&&mk (od.x (k+1))).O x=((L&&&mk (od.x k))|||(L&&&2^od.v k 0)).O x
   rw[NS,NA,NA,NA,Nu,cJ,cJ,O.x D]
   cases L.O x
   .rfl
   .rw[Oj,Oj,Oj];by_cases c:od.v k 0=x
    .rw[Sx c,ke.or_true];exact Sx (Nj _ (by rw[c];exact MQ.mpr U))
    .rw[RN c,O7];refine decide_eq_decide.mpr #[λz=>?_,λz=>NG _ z];obtain z|z:=Ng.mp z
     .exact z
     .exact Tn (MQ.mp z).X c
 s0:=λL ⟨lm,_,_⟩=>by
  let j:ms.v 0 0=0:=NC λx=>by
   rw[O.fr_at (ND m) x,cJ,NI];rfl
  let all:∀ x,x<m->x∈od:=λx B=>O.pm.mem_iff.mpr (Nk.mpr B);let d:od.x m=od:=Oz (by rw[O.len];exact MN _)
  let fm:ms.v m 0=0:=NC λx=>by
   rw[O.fr_at (MN m) x,d,NI];let:es.any (atF (mk od) x)=k9:=by
    cases e:es.any (atF (mk od) x) with
    |false=>rfl
    |true=>
     let a eK N:=Ox.mp e;let r u _:=O.tu.ends a eK;unfold atF at N;rw[cJ,cJ,Sx (all _ r),Sx (all _ u)]at N;simp at N
   rw[this,Oi]
  erw[by show L&&&_=0;rw[j,QT],by show L&&&mk []=0;exact QT L,by show L&&&_=0;rw[fm,QT],3]
  show L&&&mk (od.x m)=L;apply NC;intro x;rw[NA,cJ,d]
  cases e:L.O x with
  |false=>rfl
  |true=>
   rw[Oj];refine Sx (all x ?_);obtain z|z:=Qa x m
   .exact z
   .rw[Pd (Ni lm (Ol ∅ z))]at e
    cases e
 wt:=λL _=>O.cost L
 p0:=#[λx z=>(by rw[NI]at z;cases z),NI 0,by rw[Nat.zero_and],λi J=>Tn J (NM i),U]
 ps:=λk l s a D P o t c w=>by
  let h eK N I:=E2.mp w;let ac:=M4 D;let H:l.O (od.v k 0)=k9:=by
   cases e:l.O (od.v k 0) with
   |false=>rfl
   |true=>exact Tn (P.wi _ e) (O.new D)
  let sp:s.O (od.v k 0)=k9:=by rw[P.st,NA,H];rfl
  let so:∀ x,x≠od.v k 0->h.O x=s.O x:=λx B=>by
   obtain rfl|⟨_,rfl⟩:=Bl.mp eK
   .rfl
   .rw[NS,Nu,RN (λz=>B z.X),O7]
  injection I with Q dO;injection dO with ah y;let M:∀ x,o.O x=(decide (od.v k 0=x)&&h.O (od.v k 0)):=λx=>by
   rw[Q,NA,Nu];by_cases z:od.v k 0=x
   .rw[z,Sx U,Qm,Oj]
   .rw[RN z,Oi,Pu]
  let lb:∀ x,(l|||o).O x=(l.O x||(decide (od.v k 0=x)&&h.O (od.v k 0))):=λx=>by rw[NS,M]
  let ab:∀ x,x≠od.v k 0->(l|||o).O x=l.O x:=λx B=>by rw[lb,RN (λz=>B z.X),Pu,O7]
  let al:(l|||o).O (od.v k 0)=h.O (od.v k 0):=by rw[lb,H,Sx U];simp
  let inP:∀{x:R},x∈od.x k->x≠od.v k 0:=λ{x} B z=>O.new D (z▸B);let hF:∀ x,(ms.v k 0).O x=kt->h.O x=(l|||o).O x:=λx B=>by
   let n:=inP (O.fr_in ac B);rw[so x n,ab x n,P.st,NA,B,Qm]
  let un:∀ t∈bkL es ts od k,UN es ks h t=UN es ks (l|||o) t:=λt g=>O.here D g al.X hF
  let ul:∀ i,i<k->∀ t∈bkL es ts od i,UN es ks (l|||o) t=UN es ks l t:=λi J t g=>O.within ∅ g λx B=>ab x (inP ((List.take_sublist_take_left ∅).subset B))
  erw[#[λx B=>?_,15,λi J t g C=>?_,3],3]
  .rw[O.x D];by_cases z:x=od.v k 0
   .exact Nj _ (MQ.mpr z)
   .rw[ab x z]at B;exact NG _ (P.wi x B)
  .by_cases z:0=od.v k 0
   .rw[lb,P.up,RM];obtain e|⟨e,_⟩:=Bl.mp eK
    .rw[e,sp,Oi]
    .exact Tn z.X e
   .rw[ab 0 z,P.up]
  .rw[ah];apply NC;intro x;show(h&&&ms.v (k+1) 0).O x=((l|||o)&&&ms.v (k+1) 0).O x
   rw[NA,NA]
   cases z:(ms.v (k+1) 0).O x with
   |false=>rw[Oi,Oi]
   |true=>
    obtain q|q:=O.sub D z
    .rw[q,al]
    .rw[hF x q]
  .obtain z|z:=Qa i k
   .rw[ul i z t g]at C;exact P.ok i z t g C
   .let:i=k:=by lia
    subst this;rw[← un t g]at C;exact J1.mp N t g C
  .rw[Oq,M0,List.sum_append,NF,Qw,PY,List.sum_nil,Qe,P.co,y];congr 1
   .exact t5 λi J=>nZ λt g=>by unfold prU;rw[ul i (Nk.mp J) t g]
   .exact nZ λt g=>by unfold prU;rw[un t g]
  .apply NC;intro x;show((l|||o)&&&mk (od.x k)).O x=l.O x
   rw[NA,cJ];by_cases z:x∈od.x k
   .rw[Sx z,Qm,ab x (inP z)]
   .rw[RN z,Oi]
    cases e:l.O x with
    |false=>rfl
    |true=>exact Tn (P.wi x e) z
 pe:=λl s a P=>by
  let d:od.x m=od:=Oz (by rw[O.len];exact MN _)
  let lm:l<2^m:=Oo _ λx B=>by
   cases e:l.O x with
   |false=>rfl
   |true=>
    let:=P.wi x e;rw[d]at this;let:=Nk.mp (O.pm.mem_iff.mp this);lia
  let lo:∀ t,t<es.L->UN es ks l t=kt->T.O t=kt:=λt g C=>by
   let k eK N:=Pw.mp (O.flat.mem_iff.mpr (Nk.mpr g));exact P.ok k (Nk.mp eK) t N C
  let all:∀ x,x<m->x∈od:=λx B=>O.pm.mem_iff.mpr (Nk.mpr B);let fm:ms.v m 0=0:=NC λx=>by
   rw[O.fr_at (MN m) x,d,NI];let:es.any (atF (mk od) x)=k9:=by
    cases e:es.any (atF (mk od) x) with
    |false=>rfl
    |true=>
     let a eK N:=Ox.mp e;let r u _:=O.tu.ends a eK;unfold atF at N;rw[cJ,cJ,Sx (all _ r),Sx (all _ u)]at N;simp at N
   rw[this,Oi]
  erw[#[lm,P.up,lo],by rw[P.st,fm,QT],3]
  rw[O.cost l,P.co]
 nd:=λk l s a D P=>by
  let H:l.O (od.v k 0)=k9:=by
   cases e:l.O (od.v k 0) with
   |false=>rfl
   |true=>exact Tn (P.wi _ e) (O.new D)
  let sp:s.O (od.v k 0)=k9:=by rw[P.st,NA,H];rfl
  unfold mvL mvB;rw[List.map_filterMap];let p:l|||(s&&&2^od.v k 0)≠l|||((s|||2^od.v k 0)&&&2^od.v k 0):=λz=>by
   let:=congrArg (λn=>n.O (od.v k 0)) z;simp only[NS,NA,H,sp,Nat.testBit_two_pow_self]at this
   cases this
  unfold sgL;split
  .rw[Oh,Qd];split
   .exact NU
   .exact Nt.mpr #[(λz=>nomatch z),NU]
  .rw[Oh,Oh,Qd]
   cases okB es ks T (bkL es ts od k) s<;>cases okB es ks T (bkL es ts od k) (s|||2^od.v k 0)<;>simp
   exact p
end
def TkA(j PS:fc)(es:En)(ks:Kn)(T:R)(H:Hp)(y:V)(k:R):Prop:=∃(t p B:fc)(e:R×R)(N:Y×Y),y=.ref t/\H t=Z (.tup [.ref p,.bl (T.O k)])/\es[k]?=Z e/\ks[k]?=Z N/\H p=Z (.ins (cls j PS (decide (N.1=1))) B (tf (e.1:Y) (e.2:Y) N.2))
theorem qx{PS:fc}{ks:Kn}{T:R}{r:E R}(h:LsAt (TkA C PS es ks T) H ys r)(s:o5):LsAt (TkA C PS es ks T) H' ys r:=h.imp λ_ _ ⟨t,p,B,e,N,a,b,c,d,f⟩=>#[t,p,B,e,N,a,s _ _ b,c,d,s _ _ f]
def tb_eq(M t:R):decide (V.int (Se ((M:Y)/2^((t:R):Y).R) 1)=V.int 1)=M.O t:=by
 rw[GJ,wq]
 cases M.O t<;>rfl
def hid(q:fc)(H:Hp):Hp:=λb=>if b=q then lf else H b
def cx{b:fc}{u:HO}(h:H b=Z u)(n:b≠q):hid q H b=Z u:=by unfold hid;rw[Tj n];exact h
theorem i7(h:o5):Same (hid q H) (hid q H'):=λb u e=>by
 unfold hid at e ⊢;split at e
 .cases e
 .rename_i n;rw[Tj n];exact h b u e
theorem eZ(q:fc)(H:Hp):Same (hid q H) H:=λb u e=>by
 unfold hid at e;split at e
 .cases e
 .exact e
theorem Af(q:fc)(H:Hp)(o:HO):hid q (upd H q o)=hid q H:=funext λb=>by
 unfold hid;split
 .rfl
 .rename_i n;exact aw n
def StA(c:Hp)(j PS:fc)(es:En)(ks:Kn)(ts:oD)(od ms:E R)(T:R)(H:Hp)(z:V)(i:R):Prop:=∃(a b:fc)(D:E V),z=.ref a/\(H a=Z (.tup [.int ((od.v i 0:R):Y),.ref b,.int ((ms.v (i+1) 0:R):Y)])/\(c b=lf/\(H b=Z (.lst D)/\LsAt (TkA j PS es ks T) H D (bkL es ts od i))))
theorem StA.mono{c:Hp}{PS:fc}{ks:Kn}{T:R}(h:LsAt (StA c p PS es ks ts od ms T) H zs l)(s:o5):LsAt (StA c p PS es ks ts od ms T) H' zs l:=h.imp λ_ _ ⟨a,b,D,e,x,n,y,z⟩=>#[a,b,D,e,s _ _ x,n,s _ _ y,qx z s]
inductive JF(PL PS WC:fc)
 |mk (p o:fc)(m T:R)(es:En)(ts:oD)(ks:Kn)(od:E R) (_:vs=[.ref p,.ref o,.int (T:Y)])(_:WO PL PS WC H p o m es ts ks od)(_:∀(q:fc)(zs:E V)(ms:E R)(H':Hp),o5->H q=lf->H' q=Z (.lst zs)->rV es od ms->LsAt (StA H PL PS es ks ts od ms T) (hid q H') zs (Nf m)->Q (.ref q) H')
def dw:az ["web","order","tight","found","place","back","front","ties"] ["web","order","tight"] (aq n8):=by ac_nf
def Ly{PL PS WC:fc}(F:Fun K "stations" "stations" n8 f fd)(T:TxtZ mg)(cw:CW K WC)(aT:lw 2 "ties_back" ["web","order"] (JR PL PS WC) q G)(a4:lw 3 "fronts" ["web","order"] (ue PL PS WC) I J):li 4 f fd ["web","order","tight"] (JF PL PS WC):=by
 refine F.ok dw λaa A eK s H vs Q dO g h=>?_
 let p o m T' O ts ks od rfl wo kk:=h;let dx fs q1 xs _ _ r _ l2 ah tk _:=wo.wt;let ac:=wo.m40;let few:=wo.few;let kl:=wo.kl;let tn:=wo.tn;let ol:=wo.len;let ob:=wo.lt;let ho:=wo.ho
 intros;erw[_,(af (aA 3 dw.nd (bX ai))
   (af (mx (Lq U T.n_zip (ae (pv 1) (ae (aT.c g (ae (pv 0) (ae (pv 1) ai))) (ae (uJ yY (a4.c g (ae (pv 0) (ae (pv 1) ai))) (zD ak) zE) ai)))) (iA U (aC (bq 4 dw.nd) (aC (bq 5 dw.nd) (aC (bq 6 dw.nd) bx)))) (af (lY 7 [("web",0),("tight",2)] ["number"] dw.nd (aM (pv 5)) pg_c pt_c (λC ex s H=>(bN (ae (pB K (qL (K:=K) U (pv 1) U) (pv 0)) (ae (l4 cH (ay cV (ay gf (pv 2) (pv 0)) ak) ak (aJ _)) ai)))))
   (ao (aW (eF Na Nq Np aX (pv 3) (ae (bN (ae (pv 4) (ae (pv 7) (ae (pv 6) ai)))) ai))))))
   (ao (aG (pv 3))))),3]
 erw[(by show 0<=RO;decide),λqf aL=>?_]
 let M:=aj aL (.lst []);erw[2457,p,o,m,O,ts,ks,od,U,wo.wt.mono M,kl,tn,ac,few,by rw[cI_V];exact M _ _ ho,ob,4,λqb zb d s2 bB a7 bG=>?_]
 let al:=M.P s2;erw[153,p,o,m,O,ts,ks,od,U,wo.mono al,λqo ms H3 s3 bf fr=>?_];let ap:=al.P s3;let ml:=fr.1;erw[9,qo,9,SqL.of bf,λqs av=>?_];rw[KF.vV];let s4:=aj av (.lst ((ms.Z iV).drop 1));let a8:=ap.P s4;let bg:(upd H3 qs (.lst ((ms.Z iV).drop 1))) qs=Z (.lst ((ms.Z iV).drop 1)):=ag;let aS:=s3.P s4;erw[o,qb,qs,U,#[_,SqL.of (a8 _ _ ho)],#[_,SqL.of (aS _ _ a7)],#[_,SqL.of bg],3];generalize upd H3 qs (.lst ((ms.Z iV).drop 1))=H4 at a8 bg aS;let bH:H4 qf=Z (.lst []):=(s2.P aS) _ _ ag;let HC:Same H (hid qf H4):=λb u e=>cx (a8 _ _ e) (aH e aL);let bU:qb≠qf:=λz=>by rw[z,ag]at bB;cases bB
 let bY:qs≠qf:=λz=>by rw[z]at av;rw[(s2.P s3) _ _ ag]at av;cases av
 let b0:=cx (aS _ _ a7) bU;let b5:=cx bg bY;let bl:(eU O ts od od.L).L=m:=by unfold eU;rw[MI,Nl,ol]
 let bQ:zb.L=m:=by rw[bG.1,bl]
 let be:∀ i,i<m->∃ a,zb[i]?=Z (.ref a)/\hid qf H4 a=Z (.lst ((bkL O ts od i).Z iV)):=λi N=>by
  let e:(eU O ts od od.L)[i]?=Z (bkL O ts od i):=by
   unfold eU;rw[MO,Og ∅]
   rfl
  let a a1 a2 a3:=bG.2 i _ e;erw[a,a1,cx (aS _ _ a3) λz=>a2 (by rw[z];show upd H qf (.lst []) qf≠lf;rw[ag];exact λy=>by cases y)]
 let bi:∀ i,i<m->(∀ t∈bkL O ts od i,t<O.L)/\(bkL O ts od i).L<=100:=λi N=>by
  let hm:od.v i 0<m:=by
   rw[MX,MG ∅]
   exact ob _ (Px _)
  let row an:∃ row,ts[od.v i 0]?=Z row:=#[_,MG (by rw[tn.len];exact hm)]
  let bb:qI ts (od.v i 0)=row:=by unfold qI;rw[an];rfl
  let lt:∀ t∈bkL O ts od i,t<O.L:=λt ht=>by
   unfold bkL pL at ht;rw[bb]at ht;let e v _:=(tn.mem _ _ an t).mp (N0.mp ht).1;exact(MF.mp v).1
  erw[lt,NH (eJ ?_ lt) few];unfold bkL pL;rw[bb];exact(tn.nd _ _ an).filter _
 refine IV (K:=K) (xs:=od.Z iV) (ys:=zb) (zs:=(ms.Z iV).drop 1) m (λi L H5=>∃ v4 v5 v6 v7 zs,L=[Z (.ref p),Z (.ref o),Z (.int (T':Y)),Z (.ref qf),v4,v5,v6,v7]/\(Same (hid qf H4) H5/\(H5 qf=Z (.lst zs)/\LsAt (StA H PL PS O ks ts od ms T') (hid qf H5) zs (Nf i)))) #[85,[],U,eZ _ _,bH,LsAt.nil] (by rw[MI,ol];exact MN _) (QS bQ.X) (by rw[PU,MI,ml,ol];lia) (λi L H5 _ ab=>by let _ _ _ _ _ _ z _:=ab;erw[SqL.of (z _ _ (HC _ _ ho)),SqL.of (z _ _ b0),SqL.of (z _ _ b5)]) ?_ ?_
 .rintro i x y z L H5 T B hy hz ⟨v4,v5,v6,v7,zs,rfl,s5,bm,ls⟩ hT;let N:i<m:=by rw[← bQ];exact(MF.mp hy).1
  let zr e1 b6:=be i N;rw[hy]at e1
  cases e1
  let ca cb:=bi i N;let ex:x=.int ((od.v i 0:R):Y):=by
   rw[MO]at B;let a a1 rfl:=MZ.mp B;rw[MX,a1];rfl
  let ez:z=.int ((ms.v (i+1) 0:R):Y):=by
   rw[Qc,MO]at hz;let a a1 rfl:=MZ.mp hz;rw[MX,Nat.add_comm i 1,a1];rfl
  subst ex ez;let bR:=b6;let sT:=aj hT (.tup [.int ((od.v i 0:R):Y),.ref zr,.int ((ms.v (i+1) 0:R):Y)]);let s6:=s5.P sT;let a0:=sT _ _ bm;erw[T,9,SqT.of ag,15295894];generalize upd H5 T (.tup [.int ((od.v i 0:R):Y),.ref zr,.int ((ms.v (i+1) 0:R):Y)])=H6 at sT s6 a0;erw[9,zr,U,#[_,SqL.of (s6 _ _ bR)],aZ (K:=K) (xs:=(bkL O ts od i).Z iV) (λj ys H7=>Same H6 H7/\LsAt (TkA PL PS O ks T') H7 ys ((bkL O ts od i).x j)) (M4 (ax (by rw[MI];lia))) #[λ_ _ e=>e,LsAt.nil] (λj ys H7 _ z=>SqL.of (z.1 _ _ (s6 _ _ bR))) ?_ ?_ (λj ys H7 z=>by rw[z.2.1,NQ];exact O0 _ _)]
  .rintro j x' ys H7 aI ⟨s7,a5⟩;rw[MO]at aI;let t ht rfl:=MZ.mp aI;let tl:=ca t (MH ht);let e v:∃ e,O[t]?=Z e:=#[_,MG tl];let k l:∃ k,ks[t]?=Z k:=#[_,MG ∅]
   let p' am x1 x2:=tk.2 t e k v l;let bd:(bkL O ts od i).x (j+1)=(bkL O ts od i).x j++[t]:=by rw[M5,ht];rfl
   let sH:=(HC.P s6).P s7;erw[U,yesT #[9,p,WC,dx,fs,9,sH _ _ r,cw.cl,cw.n2,l2,9,q1,xs,165,SqL.of (sH _ _ ah),aF x1,42393,(show(0:Y)<=(t:Y) by lia),677,(by show 2<=RO;decide),λT2 ar=>?_]]
   let s8:=aj ar (.tup [.ref p',.bl (decide (V.int (Se ((T':Y)/2^((t:R):Y).R) 1)=V.int 1))]);erw[s7.P s8,3];rw[bd];exact(qx a5 s8).snoc #[T2,p',am,e,k,U,by rw[← tb_eq];exact ag,v,l,s8 _ _ (sH _ _ x2)]
  rintro ys H7 ⟨s7,a5⟩ D hD;rw[MI,M8]at a5;let s8:=aj hD (.lst ys);let bn:=s7.P s8;erw[9,.inl #[6,SqL.of (bn _ _ a0)],2457,(by show 3<=RO;decide),λT3 a9=>?_]
  let s9:=aj a9 (.tup [.int ((od.v i 0:R):Y),.ref D,.int ((ms.v (i+1) 0:R):Y)]);let f8:=bn _ _ a0;let Dq:D≠qf:=(aH (s7 _ _ a0) hD).X;let Tq:T3≠qf:=(aH f8 a9).X;let zl:zs.L=i:=by rw[ls.1,Nl]
  erw[qf,zs,41,s9 _ _ f8,ax ∅,3]
  let gD:=s9 _ _ (show(upd H7 D (.lst ys)) D=Z (.lst ys) from ag);let gT:(upd (upd H7 D (.lst ys)) T3 (.tup [.int ((od.v i 0:R):Y),.ref D,.int ((ms.v (i+1) 0:R):Y)])) T3=_:=ag;let a6:=qx a5 (s8.P s9);let bv:=sT.P (bn.P s9);generalize upd (upd H7 D (.lst ys)) T3 (.tup [.int ((od.v i 0:R):Y),.ref D,.int ((ms.v (i+1) 0:R):Y)])=H9 at s9 gD gT a6 bv;erw[85,zs++[.ref T3],U,λb u e=>?_,ag,3]
  .let nb:b≠qf:=λz=>by rw[z]at e;unfold hid at e;rw[Ti U]at e;cases e
   rw[aw nb];exact bv _ _ (s5 _ _ e)
  .rw[Af,Oq];refine(StA.mono ls (i7 bv)).snoc #[T3,D,ys,U,cx gT Tq,jQ ((HC.P s6).P s7) hD,cx gD Dq,a6.imp λy k ⟨t,p,dx,e,kk,u1,u2,u3,u4,u5⟩=>#[t,p,dx,e,kk,u1,cx u2 λn=>?_,u3,u4,cx u5 λn=>?_]]
   .rw[n,s9 _ _ f8]at u2;cases u2
   .rw[n,s9 _ _ f8]at u5;cases u5
 .rintro L H5 ⟨v4,v5,v6,v7,zs,rfl,s5,bm,ls⟩;erw[9,kk qf zs ms H5 (HC.P s5) aL bm fr ls]
def smM(es:En)(ks:Kn)(h:R)(r:E R):Y:=sumL r (prU es ks h)
def Ik(es:En)(ks:Kn)(T h:R)(l:E R)(k:R):okB es ks T (l++[k]) h=(okB es ks T l h&&(!(UN es ks h k)||T.O k)):=by
 unfold okB;rw[List.all_append,List.all_cons,List.all_nil,Qm]
def Hm(es:En)(ks:Kn)(h:R)(l:E R)(k:R):smM es ks h (l++[k])=smM es ks h l+if UN es ks h k=kt then stg ks k else 0:=by
 unfold smM;rw[t8,b7,t6,Qe];rfl
def unp_un{ks:Kn}{k:R}{e:R×R}{kk:Y×Y}(N:es[k]?=Z e)(D:ks[k]?=Z kk)(h:R):unp (decide (kk.1=1)) (e.1:Y) (e.2:Y) (h:Y)=UN es ks h k:=by
 rw[Ju N,oz D];unfold unp;rw[bitN,bitN]
 cases h.O e.1<;>cases h.O e.2<;>cases decide (kk.1=1)<;>rfl
def MvT(H:Hp)(v:V)(t:M3):Prop:=TrA H v ((t.1:Y),(t.2.1:Y),t.2.2)
theorem E1{ws:E M3}(h:LsAt MvT H ys ws)(s:∀ b xs,H b=Z (.tup xs)->H' b=Z (.tup xs)):LsAt MvT H' ys ws:=h.imp λ_ _ ⟨a,x,y⟩=>#[a,x,s _ _ y]
def mvH(es:En)(ks:Kn)(T p:R)(bk:E R)(F:R)(l:E R):E M3:=l.filterMap λh=>if okB es ks T bk h=kt then Z (h&&&2^p,h&&&F,smM es ks h bk) else lf
inductive DR
 |mk (p s:R) (_:vs=[.int (p:Y),.int (s:Y)])(_:p<60)(_:∀ q,H q=lf->Q (.ref q) (upd H q (.lst ((sgL p s).Z iV))))
inductive JP(PL PS:fc)
 |mk (b:fc)(xs:E V)(r:E R)(es:En)(ks:Kn)(T S:R) (_:vs=[.ref b,.int (S:Y)])(_:H b=Z (.lst xs))(_:LsAt (TkA PL PS es ks T) H xs r)(_:Q (if okB es ks T r S=kt then .int (smM es ks S r) else .non) H)
inductive DZ(PL PS:fc)
 |mk (b:fc)(p F s:R)(xs:E V)(r:E R)(es:En)(ks:Kn)(T:R) (_:vs=[.int (p:Y),.ref b,.int (F:Y),.int (s:Y)])(_:p<60)(_:H b=Z (.lst xs))(_:LsAt (TkA PL PS es ks T) H xs r)(_:∀ q ys H',o5->H q=lf->H' q=Z (.lst ys)->LsAt MvT H' ys (mvB es ks T p r F s)->Q (.ref q) H')
def y9:az ["place","signs"] ["place","signs"] (aq n9):=by ac_nf
def HS(F:Fun K "signings" "signings" n9 f fd):li 1 f fd ["place","signs"] DR:=by
 refine F.ok y9 λL A eK s H m Q dO u h=>?_
 let p s rfl G N:=h;intro J y;erw[_,(ao (aG (fk (aD cH (pv 0) ak (aJ _)) (bX (ae (pv 1) ai)) (bX (ae (pv 1) (ae (ay jB (pv 1) (ay bA ak (pv 0))) ai)))))),3];erw[617,ite2 (λc=>?_) (λc=>?_)]
 .let v:p=0:=by let:=V.int.inj (S8 c);lia
  unfold sgL at N;rw[Ti v]at N;erw[9,(by show 1<=RO;decide),λq n=>N q n]
 .let v:p≠0:=λz=>c (Sx (by rw[z];rfl))
  unfold sgL at N;rw[Tj v]at N;erw[678297,#[20,by decide],165,(by show 2<=RO;decide),λq n=>?_]
  let e:Sf (s:Y) (1*2^((p:R):Y).R)=((s|||2^p:R):Y):=by rw[shlN,orN]
  show Q (.ref q) (upd H q (.lst [V.int (s:Y),V.int (Sf (s:Y) (1*2^((p:R):Y).R))]));rw[e];exact N q n
def b9:az ["ties","signs","cost","tie","tight"] ["ties","signs"] (aq fU):=by ac_nf
def LK{PS:fc}{d0:ge}(F:Fun K "cost_if_tight" "cost_if_tight" fU f fd)(TL:CT K a)(TS:CT K PS)(u0:Met P w K mg base 2 a "unpleased" ["self","laying"] (qB a k9) C d0)(u1:Met P w K mg base 2 PS "unpleased" ["self","laying"] (qB PS kt) q G):li 3 f fd ["ties","signs"] (JP a PS):=by
 refine F.ok b9 λI A eK s H j Q dO u h=>?_
 let b xs r O v T S rfl M ls l:=h;let ab:=TL.cl;let ac:=TS.cl;let xl:=ls.1
 intros;erw[_,(af (aA 2 b9.nd ak)
   (af (mx (aM (pv 0)) (iA U (aC (bq 3 b9.nd) (aC (bq 4 b9.nd) bx))) (ao (bJ (lC (Cj (uK (pv 3) ab u0.me u0.ok (u.mono ∅) u0.bn .nil iX (ae (pv 1) ai)) (uK (pv 3) ac u1.me u1.ok (u.mono ∅) u1.bn .nil iX (ae (pv 1) ai)))) (af (bJ (m7 (lC (pv 4))) (ao (aG fZ)) aN)
   (ao (aA 2 b9.nd (ay cg (pv 2) (aQ (pv 3) U))))) aN)))
   (ao (aG (pv 2))))),3]
 erw[9,b,U,#[_,SqL.of M],br (K:=K) (xs:=xs) (λi L o=>∃ v3 v4,L=[Z (.ref b),Z (.int (S:Y)),Z (.int (smM O v S (r.x i))),v3,v4]/\o=H/\okB O v T (r.x i) S=kt) #[677] (λi L o _ aa=>by let _ _ _ z _:=aa;rw[z];exact SqL.of M) ?_ ?_]
 .rintro i x L o B ⟨v3,v4,rfl,rfl,ok⟩;let k D t p J e ah rfl g N al m:=ls.get B;let et:r.x (i+1)=r.x i++[k]:=by rw[M5,D];rfl
  erw[t,9,SqT.of g,238998];let un:unp (decide (ah.1=1)) (e.1:Y) (e.2:Y) ((S:R):Y)=UN O v S k:=unp_un N al S;let run:∀(ad:ke->Hp->Prop),ad (UN O v S k) o->tB (λL H Q=>Hh a "unpleased" (qB a k9) [] E0 (tVar 3) (K7 (tVar 1) tNil) L H Q∨Hh PS "unpleased" (qB PS kt) [] E0 (tVar 3) (K7 (tVar 1) tNil) L H Q) [Z (V.ref b),Z (V.int (S:Y)),Z (V.int (smM O v S (r.x i))),Z (V.ref p),Z (V.bl (T.O k))] o ad:=λad h=>by
   rw[← un]at h
   cases c:decide (ah.1=1) with
   |false=>
    rw[c]at m h;exact .inl #[9,p,J,9,m,qy _ _ _ ∅ ∅ ∅,9,p,597,#[J,m],164,h]
   |true=>
    rw[c]at m h;exact .inr #[9,p,J,9,m,qy _ _ _ ∅ ∅ ∅,9,p,597,#[J,m],164,h]
  let ct:∀ b,CT K (cls a PS b):=λb=>by
   unfold cls;split
   .exact TS
   .exact TL
  let sg:stg v k=ah.2:=by unfold stg;rw[al]
  let oS:=Ik O v T S (r.x i) k;let sS:=Hm O v S (r.x i) k;rw[← et,ok,Oj]at oS;rw[← et]at sS;refine run _ ?_
  cases c:UN O v S k with
  |false=>
   rw[c]at oS sS;refine iteF #[Z (.ref p),Z (.bl (T.O k)),11,by assumption]
   simp!
  |true=>
   rw[c]at oS sS
   cases d:T.O k with
   |false=>
    let no:okB O v T r S=k9:=by
     rw[d]at oS
     cases z:okB O v T r S with
     |false=>rfl
     |true=>
      unfold okB at z oS;let:((r.x (i+1)).all λk=>!(UN O v S k)||T.O k)=kt:=Rb.mpr λy n=>Rb.mp z y (QA n)
      rw[oS]at this;contradiction
    rw[no]at l;exact iteT #[153,iteT l]
   |true=>
    refine iteT #[153,iteF ?_];erw[153,p,_,J,37,m,(ct _).cl,(ct _).n3,Bb _ _ _,933];erw[Z (.ref p),Z (.bl kt),11,by rw[oS,d];rfl]
    rw[sS,← sg];rfl
 rintro L o ⟨v3,v4,rfl,rfl,ok⟩;rw[xl,M8]at ok ⊢;rw[Ti ok]at l;erw[9,l]
def fg:az ["place","back","front","signs","found","here","cost"] ["place","back","front","signs"] (aq jL):=by ac_nf
def Ib{PS:fc}(F:Fun K "moves_from" "moves_from" jL f fd)(al:lw 1 "signings" ["place","signs"] DR a G)(ah:lw 3 "cost_if_tight" ["ties","signs"] (JP I PS) C J):li 4 f fd ["place","back","front","signs"] (DZ I PS):=by
 refine F.ok fg λN A eK s H o Q dO u h=>?_
 let b p fr sg xs r O e T rfl m M ls y:=h
 intros;erw[_,(af (aA 4 fg.nd (bX ai))
   (af (mx (aM (al.c u (ae (pv 0) (ae (pv 3) ai)))) (bq 5 fg.nd) (af (aA 6 fg.nd (ah.c u (ae (pv 1) (ae (pv 5) ai))))
   (ao (bJ (aD EG (pv 6) fZ (aJ _)) (ao (aW (eF Na Nq Np aX (pv 4) (ae (bN (ae (ay cV (pv 5) (ay bA ak (pv 0))) (ae (ay cV (pv 5) (pv 2)) (ae (pv 6) ai)))) ai)))) aN))))
   (ao (aG (pv 4))))),3]
 erw[(by show 0<=RO;decide),λqf ac=>?_]
 let v:=aj ac (.lst []);erw[153,p,sg,U,m,λq n=>?_];let l:=v.P (aj n (.lst ((sgL p sg).Z iV)));let nq:qf≠q:=λz=>by rw[← z,ag]at n;cases n
 let l2:(sgL p sg).L<=2:=by
  unfold sgL;split
  .exact OH 1
  .exact MN _
 erw[q,U,#[_,SqL.of ag],br (K:=K) (xs:=(sgL p sg).Z iV) (λi L d=>∃ v5 v6 k,L=[Z (.int (p:Y)),Z (.ref b),Z (.int (fr:Y)),Z (.int (sg:Y)),Z (.ref qf),v5,v6]/\(Same H d/\(d q=Z (.lst ((sgL p sg).Z iV))/\(d qf=Z (.lst k)/\(LsAt MvT d k (mvH O e T p r fr ((sgL p sg).x i))/\k.L<=i))))) #[5,[],U,l,ag,by rw[aw nq];exact ag,LsAt.nil,MN _] (λi L d _ D=>by let _ _ _ _ _ z _:=D;exact SqL.of z) ?_ ?_]
 .rintro i x L d B ⟨v5,v6,k,rfl,j,aa,ab,am,yl⟩;rw[MO]at B;let h hS rfl:=MZ.mp B;let et:(sgL p sg).x (i+1)=(sgL p sg).x i++[h]:=by rw[M5,hS];rfl
  let i2:i<2:=Ni (MF.mp hS).1 l2;erw[153,b,xs,r,O,e,T,h,U,j _ _ M,qx ls j,3]
  cases c:okB O e T r h with
  |false=>
   erw[617,iteF #[5,k,U,j,aa,ab,3,OQ yl]];unfold mvH;rw[et,PR];let : [h].filterMap (λh=>if okB O e T r h=kt then Z (h&&&2^p,h&&&fr,smM O e h r) else lf)=[]:=by simp[c]
   rw[this,NT];exact am
  |true=>
   erw[617,iteT ?_];erw[9,.inl #[6,SqL.of ab],42393,#[20,by decide],161847717,(by show 3<=RO;decide),λt g=>?_]
   let ea:Se (h:Y) (1*2^((p:R):Y).R)=((h&&&2^p:R):Y):=by rw[shlN,andN]
   let eb:Se (h:Y) (fr:Y)=((h&&&fr:R):Y):=andN h fr;try dsimp only
   rw[ea,eb,Ti U];let s4:=aj g (.tup [.int ((h&&&2^p:R):Y),.int ((h&&&fr:R):Y),.int (smM O e h r)]);erw[qf,k,41,s4 _ _ ab,ax ∅,3]
   let tu:=DH (zs:=k++[.ref t]) (s4 _ _ ab);erw[5,k++[.ref t],U,aK (j.P s4) ac _,by rw[aw nq.X];exact s4 _ _ aa,ag,3,by simp[*]]
   unfold mvH;rw[et,PR];let : [h].filterMap (λh=>if okB O e T r h=kt then Z (h&&&2^p,h&&&fr,smM O e h r) else lf)=[(h&&&2^p,h&&&fr,smM O e h r)]:=by simp[c]
   rw[this];exact(E1 am λb xs z=>tu _ _ (s4 _ _ z)).snoc #[t,U,tu _ _ ag]
 rintro L d ⟨v5,v6,k,rfl,j,aa,ab,am,yl⟩;rw[MI,M8]at am;erw[9,y qf k d j ac ab am]
def G6(nd:(kvs.Z (·.1)).h){k:Key}(h:(k,v)∈kvs):valV kvs k=Z v:=by
 induction kvs with
 |nil=>cases h
 |cons p r C=>
  rw[NF,Nt]at nd;obtain e|h:=MY.mp h
  .rw[← e];exact bZ U
  .let ne:¬ p.1=k:=λz=>nd.1 (by rw[z];exact Nc.mpr #[_,h,U])
   rw[bI ne];exact C nd.2 h
def G7{k:Key}(h:valV kvs k=Z v):∃ j:R,kvs[j]?=Z (k,v):=by
 induction kvs with
 |nil=>cases h
 |cons p r C=>
  by_cases e:p.1=k
  .rw[bZ e]at h
   cases h
   erw[00,by rw[← e];rfl]
  .rw[bI e]at h;let j L:=C h;erw[j+1,L]
def DcAt{α:Type}(ad:V->α->Prop)(kvs:E (Key×V))(T:E (R×α)):Prop:=kvs.L=T.L/\∀(i:R)(s:R)(a:α),T[i]?=Z (s,a)->∃ v,kvs[i]?=Z ((.inl (s:Y):Key),v)/\ad v a
section
variable{α:Type}{ad R':V->α->Prop}{kvs:E (Key×V)}{T:E (R×α)}{s:R}{a:α}{v:V}{i:R}
theorem DcAt.imp(h:DcAt ad kvs T)(k:∀ v a,ad v a->R' v a):DcAt R' kvs T:=#[h.1,λi s a e=>by
 let v f A:=h.2 i s a e
 erw[v,f,k v a A]]
theorem DcAt.nil:DcAt ad [] ([]:E (R×α)):=#[U,λi s a e=>by simp at e]
def DcAt.keys(h:DcAt ad kvs T):kvs.Z (·.1)=(T.Z (·.1)).Z λ(x:R)=>(Sum.inl (x:Y):Key):=by
 apply Pp;intro i;rw[MO,MO,MO];by_cases J:i<T.L
 .let{s a}e:∃ e,T[i]?=Z e:=#[_,MG J];let v f _:=h.2 i s a e;rw[e,f];rfl
 .rw[N3 (by let:=h.1;lia),N3 ∅]
  rfl
def FC{x y:R}(h:(Sum.inl (x:Y):Key)=Sum.inl (y:Y)):x=y:=by
 let:=Sum.inl.inj h;lia
def DcAt.nd(h:DcAt ad kvs T)(n:(T.Z (·.1)).h):(kvs.Z (·.1)).h:=by
 rw[h.keys];exact List.Pairwise.map _ (λx y C e=>C (FC e)) n
def DcAt.atK(h:DcAt ad kvs T){k:Key}(e:kvs[i]?=Z (k,v)):∃(s:R)(a:α),k=.inl (s:Y)/\T[i]?=Z (s,a)/\ad v a:=by
 let J:i<T.L:=by rw[← h.1];exact(MF.mp e).1
 let{s a}A:∃ e,T[i]?=Z e:=#[_,MG J];let g B r:=h.2 i s a A;rw[e]at B;let d b:=Prod.mk.inj (Ny B);subst b;erw[s,a,d,A,r]
def DcAt.val(h:DcAt ad kvs T)(e:valV kvs (.inl (s:Y))=Z v):∃(i:R)(a:α),T[i]?=Z (s,a)/\kvs[i]?=Z ((.inl (s:Y):Key),v)/\ad v a:=by
 let i J:=G7 e;let c a f A r:=h.atK J;let:=FC f;subst this;erw[i,a,A,J,r]
theorem DcAt.no(h:DcAt ad kvs T)(e:valV kvs (.inl (s:Y))=lf):s∉T.Z (·.1):=λy=>by
 let:=G5 e;rw[h.keys]at this;exact this (Nc.mpr #[s,y,U])
def DcAt.get(h:DcAt ad kvs T)(n:(T.Z (·.1)).h)(e:(s,a)∈T):∃ v,valV kvs (.inl (s:Y))=Z v/\ad v a:=by
 let i J:=Nx e;let v f r:=h.2 i s a J;erw[v,G6 (h.nd n) (MH f),r]
def DcAt.snoc(h:DcAt ad kvs T)(r:ad v a):DcAt ad (kvs++[((.inl (s:Y):Key),v)]) (T++[(s,a)]):=by
 erw[by rw[MP,MP,h.1];rfl,λj c N e=>?_]
 by_cases L:j<T.L
 .rw[MT L]at e;let g f m:=h.2 j c N e;erw[g,by rw[MT (by rw[h.1];exact L)];exact f,m]
 .rw[MR ∅]at e
  let b:j=T.L:=by
   let:=(MF.mp e).1;rw[M9]at this;lia
  subst b;rw[Nz]at e
  cases e
  erw[v,by rw[← h.1,MR (MN _),Nz];rfl,r]
def DcAt.putN(h:DcAt ad kvs T)(e:valV kvs (.inl (s:Y))=j5.none)(r:ad v a):DcAt ad (putK kvs (.inl (s:Y)) v) (T++[(s,a)]):=by
 rw[uD v e];exact h.snoc r
def Hy{kvs:E (Key×V)}(nd:(kvs.Z (·.1)).h){k:Key}{u v:V}{i:R}(e:kvs[i]?=Z (k,u)):putK kvs k v=kvs.set i (k,v):=by
 unfold putK;rw[Ti (by rw[Ox];erw[_,MH e,Sx U])]
 apply Pp;intro j;rw[MO,OS];by_cases L:i=j
 .subst L;rw[Ti U,Ti (MF.mp e).1,e];simp
 .rw[Tj L]
  cases B:kvs[j]? with
  |none=>rfl
  |some q=>
   let:¬ q.1=k:=λz=>L (by
    let J:(kvs.Z (·.1))[i]?=Z k:=by rw[MO,e];rfl
    let g:(kvs.Z (·.1))[j]?=Z k:=by rw[MO,B];exact congrArg Z z
    let eK f:=MF.mp J;let O A:=MF.mp g;obtain z|z|z:=QM i j
    .exact Tn (f.P A.X) (NW.mp nd i j eK O z)
    .exact z
    .exact Tn (A.P f.X) (NW.mp nd j i O eK z))
   show Z (if q.1=k then(q.1,v) else q)=Z q;rw[Tj this]
def DcAt.putO(h:DcAt ad kvs T)(n:(T.Z (·.1)).h)(e:T[i]?=Z (s,a)){N:α}(r:ad v N):DcAt ad (putK kvs (.inl (s:Y)) v) (T.set i (s,N)):=by
 let u f _:=h.2 i s a e;rw[Hy (h.nd n) f];erw[by rw[N5,N5];exact h.1,λj c b G=>?_]
 rw[OS]at G ⊢;by_cases L:i=j
 .subst L;rw[Ti U]at G ⊢;let t:=(MF.mp e).1;rw[Ti t]at G;rw[Ti (by rw[h.1];exact t)]
  cases G
  erw[v,U,r]
 .rw[Tj L]at G ⊢;exact h.2 j c b G
end
def Bo{T:E (R×α)}{s:R}{a N:α}(e:T[i]?=Z (s,a)):(T.set i (s,N)).Z (·.1)=T.Z (·.1):=by
 apply Pp;intro j;rw[MO,MO,OS];by_cases L:i=j
 .subst L;rw[Ti U,Ti (MF.mp e).1,e];rfl
 .rw[Tj L]
def MsA(H:Hp)(v:V)(ms:E M3):Prop:=∃(q:fc)(k:E V),v=.ref q/\(H q=Z (.lst k)/\LsAt MvT H k ms)
def isT(v:V)(_:Unit):Prop:=v=.bl kt
def LW{kv:E (Key×V)}{T:E (R×Unit)}(h:DcAt isT kv T)(nd:(T.Z (·.1)).h)(n:R):∃ o,DcAt isT (putK kv (.inl (n:Y)) (.bl kt)) o/\((o.Z (·.1)).h/\((∀ x,x∈o.Z (·.1)↔x∈T.Z (·.1)∨x=n)/\o.L<=T.L+1)):=by
 cases e:valV kv (.inl (n:Y)) with
 |none=>
  let no:=h.no e;erw[T++[(n,())],h.putN e (show isT (.bl kt) () from rfl),3,λx=>?_,by rw[MP];exact MN _]
  .rw[M0];exact NP.mpr #[nd,Nt.mpr #[(λz=>nomatch z),NU],λa l b M=>by rw[MQ.mp M];exact λz=>no (by let z:a=n:=z;rw[← z];exact l)]
  .rw[M0,Ng];exact or_congr Iff.rfl MQ
 |some v=>
  let i a eK O G:=h.val e;erw[_,h.putO nd eK (show isT (.bl kt) () from rfl),3,λx=>?_,by rw[N5];exact OH _]
  .rw[Bo eK];exact nd
  .rw[Bo eK];erw[.inl,λz=>z.elim id λy=>by rw[y];exact Oc (MH eK)]
inductive spSgB
 |mk (d:fc)(kvs:E (Key×V))(ad:E (R×E M3)) (_:vs=[.ref d])(_:H d=Z (.dK kvs))(_:DcAt (MsA H) kvs ad)(_:ad.L<=256)(_:(∀ r∈ad,r.2.L<=2))(_:∀(l:fc)(o:ii)(ns:E R)(H':Hp),Same (upd H d (.frz o (.dK kvs))) H'->H' l=Z (.lst (ns.Z iV))->ns.h->(∀ n,n∈ns↔∃ r∈ad,∃ t∈r.2,t.2.1=n)->Q (.ref l) H')
def bS:az ["moves","met","found","own","then","cost"] ["moves"] (aq hG):=by ac_nf
def EU(F:Fun K "signs_behind" "signs_behind" hG f fd)(T:Txt mg):li 1 f fd ["moves"] spSgB:=by
 refine F.ok bS λaa A eK s H O Q dO g h=>?_
 let d kvs ad rfl hd dc al r2 kk:=h;let hu:=pG g;let ac:=g.units
 intros;erw[_,(af (aA 1 bS.nd gE)
   (af (mx (EA (EE O3 Rz PySem.F.type_dict_values E3 (pv 0))) (bq 2 bS.nd) (ao (mx (aM (pv 2)) (iA U (aC (bq 3 bS.nd) (aC (bq 4 bS.nd) (aC (bq 5 bS.nd) bx)))) (ao (ig hu (pv 1) (pv 4) oA U)))))
   (ao (aG (eE (sZ U) (by rfl) T.n_list jv (ae (pv 1) ai)))))),3]
 refine λc D=>?_;let C:=aj D (.dK []);erw[9,.inr (.inr (.inl #[U,.inl #[_,C _ _ hd]])),d,41,C _ _ hd,λvw ah=>?_];let s2:=aj ah (lG vw d);erw[vw,d,9,ag,s2 _ _ (C _ _ hd),λo=>?_];let B hB:∃ B,upd H d (.frz o (.dK kvs))=B:=#[9];let kk:=λl ns H' (s:Same B H') z=>kk l o ns H' (by rw[hB];exact s) z
 let am:c≠d:=(aH hd D).X;let Bc:B c=lf:=by rw[← hB,aw am];exact D
 let Bd:B d=Z (.frz o (.dK kvs)):=by rw[← hB];exact ag
 let Bk:∀ b u,b≠d->H b=Z u->B b=Z u:=λb u n e=>by rw[← hB,aw n];exact e
 let an:DcAt (MsA B) kvs ad:=dc.imp λv ms ⟨q,m,e,p,ls⟩=>#[q,m,e,Bk _ _ (λz=>by rw[z,hd]at p;cases p) p,E1 ls λb xs e=>Bk _ _ (λz=>by rw[z,hd]at e;cases e) e]
 let s3:Same B (upd (upd (upd H c (.dK [])) vw (lG vw d)) d (.frz o (.dK kvs))):=λb u e=>by
  by_cases z:b=d
  .rw[z]at e ⊢;rw[Bd]at e;rw[ag];exact e
  .rw[← hB,aw z]at e;rw[aw z];exact s2 _ _ (C _ _ e)
 let c3:(upd (upd (upd H c (.dK [])) vw (lG vw d)) d (.frz o (.dK kvs))) c=Z (.dK []):=by
  rw[aw am];exact s2 _ _ ag
 generalize upd (upd (upd H c (.dK [])) vw (lG vw d)) d (.frz o (.dK kvs))=H3 at s3 c3;refine CB (kvs:=kvs) (λi L H4=>∃ v2 v3 v4 v5 kv N,L=[Z (.ref d),Z (.ref c),v2,v3,v4,v5]/\(Same B H4/\(H4 c=Z (.dK kv)/\(DcAt isT kv N/\((N.Z (·.1)).h/\(N.L<=2*i/\∀ n,n∈N.Z (·.1)↔∃ r∈ad.x i,∃ t∈r.2,t.2.1=n)))))) #[85,[],[],U,s3,c3,DcAt.nil,NU,MN _,λn=>#[(λz=>nomatch z),λ⟨_,z,_⟩=>nomatch z]] (λi L H4 _ ab=>by let _ _ _ _ _ _ _ z _:=ab;exact z _ _ Bd) ?_ ?_
 .rintro i k y L H4 J ⟨v2,v3,v4,v5,kv,N,rfl,s4,c4,dN,nN,lN,mN⟩;let sg ms rfl hR q m rfl p ls:=an.atK J;let ap:i<256:=Ni (MF.mp hR).1 al;let m2:ms.L<=2:=r2 _ (MH hR);let et:ad.x (i+1)=ad.x i++[(sg,ms)]:=by rw[M5,hR];rfl
  erw[9,q,U,#[_,SqL.of (s4 _ _ p)],br (K:=K) (xs:=m) (λj L H5=>∃ v3 v4 v5 kv N,L=[Z (.ref d),Z (.ref c),Z (.ref q),v3,v4,v5]/\(Same B H5/\(H5 c=Z (.dK kv)/\(DcAt isT kv N/\((N.Z (·.1)).h/\(N.L<=2*i+j/\∀ n,n∈N.Z (·.1)↔(∃ r∈ad.x i,∃ t∈r.2,t.2.1=n)∨∃ t∈ms.x j,t.2.1=n)))))) #[21,kv,N,U,s4,c4,dN,nN,lN,λn=>(mN n).P #[.inl,λz=>z.elim id λ⟨_,z,_⟩=>nomatch z]] (λj L H5 _ ab=>by let _ _ _ _ _ _ z _:=ab;exact SqL.of (z _ _ p)) ?_ ?_]
  .rintro j x L H5 G ⟨v3,v4,v5,kv,N,rfl,s5,c5,dN,nN,lN,mN⟩;let t I a rfl ha:=ls.get G;let j2:j<2:=Ni (MF.mp I).1 m2;let N' d1 d2 d3 d4:=LW dN nN t.2.1;erw[a,9,SqT.of (s5 _ _ ha),644441494,c,9,DPut.k (k:=.inl (t.2.1:Y)) c5 (ax (by rw[dN.1];lia)),85,N',U,aK s5 Bc _,ag,d1,d2,4,λn=>?_]
   rw[d3,mN,M5,I];constructor
   .rintro((z|⟨u,u1,u2⟩)|rfl)
    .exact .inl z
    .exact .inr #[u,NG _ u1,u2]
    .exact .inr #[t,Nj _ (MQ.mpr U),U]
   .rintro(z|⟨u,u1,u2⟩)
    .exact .inl (.inl z)
    .obtain u1|u1:=Ng.mp u1
     .exact .inl (.inr #[u,u1,u2])
     .rw[MQ.mp u1]at u2;exact .inr u2.X
  .rintro L H5 ⟨v3,v4,v5,kv,N,rfl,s5,c5,dN,nN,lN,mN⟩;rw[ls.1,M8]at mN;erw[85,kv,N,U,s5,c5,dN,nN,by rw[ls.1]at lN;lia,λn=>(mN n).P ?_]
   rw[et];constructor
   .rintro(⟨r,r1,r2⟩|z)
    .erw[r,NG _ r1,r2]
    .erw[_,Nj _ (MQ.mpr U),z]
   .rintro⟨r,r1,r2⟩;obtain r1|r1:=Ng.mp r1
    .exact .inl #[r,r1,r2]
    .rw[MQ.mp r1]at r2;exact .inr r2
 .rintro L H4 ⟨v2,v3,v4,v5,kv,N,rfl,s4,c4,dN,nN,lN,mN⟩;erw[9,c,9,c4,λl M=>kk l (N.Z (·.1)) _ (s4.P (aj M _)) ?_ nN λn=>?_]
  .rw[ag];rw[show kv.Z (λq=>kV q.1)=(kv.Z (·.1)).Z kV by rw[NX];rfl,dN.keys,NX]
   rfl
  .rw[mN,an.1,M8]
def Rch(mv:R->R->E M3):R->R->Prop
 |0,s=>s=0
 |k+1,t=>∃ s,Rch mv k s/\∃ x∈mv k s,x.2.1=t
def Ka{ks:Kn}{T p s:R}{bk:E R}:(mvB es ks T p bk F s).L<=2:=by
 refine NH (Qh _ _) ?_;unfold sgL;split
 .exact OH 1
 .exact MN 2
def FewR(mv:R->R->E M3)(m:R):Prop:=∀ k,k<=m->∀ l:E R,l.h->(∀ n∈l,Rch mv k n)->l.L<=256
def IT{x:R}(h:lA es (mk l) F)(B:F.O x=kt):OnF es (·∈l) x:=by
 rw[h x,cJ,Py,decide_eq_true_iff]at B;let eK O:=B;let e N G:=Ox.mp O;unfold atF at G;rw[cJ,cJ]at G;erw[eK,3];obtain z|z:=ke.or_eq_true_iff.mp G
 .let k D:=ON.mp z;erw[e.2,#[e,N,.inl #[eq_of_beq k,U]],λy=>by rw[Sx y]at D;cases D]
 .let k D:=ON.mp z;erw[e.1,#[e,N,.inr #[eq_of_beq k,U]],λy=>by rw[Sx y]at D;cases D]
theorem cD.few{T:R}{ks:Kn}(O:cD m es ks ts od ms)(g:Two es od):FewR (mvL es ks ts od ms T) m:=λk D l nd h=>by
 cases k with
 |zero=>
  let:=KF.nd_len (ps:=[0]) nd λx B=>MQ.mpr (h x B);exact NH this ∅
 |succ k=>
  let a b o:=g (k+1) (by rw[O.len];exact D)
  let:=KF.nd_len (ps:=[0,2^a,2^b,2^a|||2^b]) nd λn p=>by
   let s _ x B rfl:=h n p;let y _ _ e:=E2.mp B;let f:∀ i,x.2.1.O i=kt->i=a∨i=b:=λi J=>by
    rw[e,NA,Py]at J;exact o i (IT (O.fr_at D) J.2)
   generalize x.2.1=n at f;let C:∀ N:R,(∀ i,N.O i=n.O i)->n=N:=λN h=>NC λi=>(h i).X;let off:∀ i,i≠a->i≠b->n.O i=k9:=λi eK c=>by
    cases z:n.O i with
    |false=>rfl
    |true=>exact Tn (f i z) λy=>y.elim eK c
   let d:n=(if n.O a=kt then 2^a else 0)|||(if n.O b=kt then 2^b else 0):=C _ λi=>by
    rw[NS];by_cases H:i=a
    .subst H;by_cases r:i=b
     .subst r
      cases z:n.O i<;>simp
     .cases z:n.O i<;>cases w:n.O b<;>simp[Nu,Ne.X r,r]
    .by_cases r:i=b
     .subst r
      cases z:n.O i<;>cases w:n.O a<;>simp[Nu,Ne.X H,H]
     .rw[off i H r]
      cases z:n.O b<;>cases w:n.O a<;>simp[Nu,Ne.X H,Ne.X r,H,r]
   rw[d]
   cases n.O a<;>cases n.O b<;>simp
  exact NH this (by show 4<=256;decide)
def DcAt.valN{ad:V->α->Prop}{T:E (R×α)}{s:R}(h:DcAt ad kvs T)(n:s∉T.Z (·.1)):valV kvs (.inl (s:Y))=lf:=by
 cases e:valV kvs (.inl (s:Y)) with
 |none=>rfl
 |some v=>
  let i a eK _:=h.val e;exact Tn (Oc (MH eK)) n
def MsA.up{ms:E M3}(h:MsA H v ms)(s:∀ b u,(∀ kv,u≠.dK kv)->H b=Z u->H' b=Z u):MsA H' v ms:=by
 let q k e n C:=h;erw[q,k,e,s _ _ (λ_ z=>by cases z) n,E1 C λb D e=>s _ _ (λ_ z=>by cases z) e]
def nC{d:fc}{kv:E (Key×V)}{o:HO}(h:H d=Z (.dK kv))(b:fc)(u:HO)(n:∀ kv,u≠.dK kv)(e:hid q H b=Z u):hid q (upd H d o) b=Z u:=by
 unfold hid at e ⊢;split at e
 .cases e
 .rename_i c;rw[Tj c,aw λz=>?_]
  .exact e
  .rw[z,h]at e;exact n kv (Ny e).X
theorem l8{b c:fc}{u:HO}(h:H b=lf)(k:H c=Z u):b≠c:=λz=>by rw[z,k]at h;cases h
def RwA(mv:R->R->E M3)(H:Hp)(z:V)(k:R):Prop:=∃(d:fc)(o:ii)(G:E (Key×V))(ad:E (R×E M3)),z=.ref d/\(H d=Z (.frz o (.dK G))/\(DcAt (MsA H) G ad/\((ad.Z (·.1)).h/\((∀ s,s∈ad.Z (·.1)↔Rch mv k s)/\∀ r∈ad,r.2=mv k r.1))))
theorem RwA.mono{mv:R->R->E M3}(h:LsAt (RwA mv) H zs l)(s:o5):LsAt (RwA mv) H' zs l:=h.imp λ_ _ ⟨d,o,G,ad,e,x,y,z⟩=>#[d,o,G,ad,e,s _ _ x,y.imp λ_ _ w=>w.up λb u _ e=>s b u e,z]
inductive JT(PL PS WC:fc)
 |mk (p:fc)(m T:R)(es:En)(ts:oD)(ks:Kn) (_:vs=[.ref p,.int (T:Y)])(_:WebT PL PS WC H p m es ts ks)(_:ks.L=es.L)(_:dJ m es ts)(_:m<=40)(_:es.L<=100)(_:(∃ pl,Cyc m es pl))(_:∀(q:fc)(zs:E V)(od ms:E R)(H':Hp),o5->H' q=Z (.lst zs)->rc->FewR (mvL es ks ts od ms T) m->LsAt (RwA (mvL es ks ts od ms T)) H' zs (Nf m)->Q (.ref q) H')
def bM:az ["web","tight","rows","coming","place","back","front","moves","signs"] ["web","tight"] (aq lV):=by ac_nf
def LR{f3 f4 PL PS WC:fc}{d3 d4:ge}(F:Fun K "all_moves" "all_moves" lV f fd)(av:lw 3 "narrow_order" ["web"] (Bh PL PS WC) C G)(aS:lw 4 "stations" ["web","order","tight"] (JF PL PS WC) I J)(aL:lw 4 "moves_from" ["place","back","front","signs"] (DZ PL PS) f3 d3)(aI:lw 1 "signs_behind" ["moves"] spSgB f4 d4):li 5 f fd ["web","tight"] (JT PL PS WC):=by
 refine F.ok bM λab A aa s H vs Q dO D h=>?_
 let p m T es ts ks rfl wt kl tn m8 few cyc kk:=h;let hu:=pG D;let ah:=D.units
 intros;erw[_,(af (aA 2 bM.nd (bX ai))
   (af (aA 3 bM.nd (bX (ae ak ai)))
   (af (mx (aM (aS.c D (ae (pv 0) (ae (av.c D (ae (pv 0) ai)) (ae (pv 1) ai))))) (iA U (aC (bq 4 bM.nd) (aC (bq 5 bM.nd) (aC (bq 6 bM.nd) bx)))) (af (aA 7 bM.nd gE)
   (af (mx (aM (pv 3)) (bq 8 bM.nd) (ao (ig hu (pv 7) (pv 8) (aL.c D (ae (pv 4) (ae (pv 5) (ae (pv 6) (ae (pv 8) ai))))) U)))
   (af (aW (eF Na Nq Np aX (pv 2) (ae (pv 7) ai)))
   (ao (aA 3 bM.nd (aI.c D (ae (pv 7) ai))))))))
   (ao (aG (pv 2)))))),3]
 erw[(by show 0<=RO;decide),λqr ar=>#[(by show 1<=RO;decide),λq0 aT=>?_]]
 let s1:=aj ar (.lst []);let s2:=s1.P (aj aT (.lst [.int 0]));let nq:qr≠q0:=λz=>by rw[← z,ag]at aT;contradiction
 let g0:(upd (upd H qr (.lst [])) q0 (.lst [.int 0])) q0=Z (.lst [.int 0]):=ag;let gr:(upd (upd H qr (.lst [])) q0 (.lst [.int 0])) qr=Z (.lst []):=by rw[aw nq];exact ag
 generalize upd (upd H qr (.lst [])) q0 (.lst [.int 0])=H1 at s2 g0 gr;erw[153,p,m,es,ts,ks,U,wt.mono s2,kl,tn,4,few,cyc,λqo od H2 s3 a8 pm tw=>?_]
 let al:=s2.P s3;erw[9,p,qo,m,T,es,ts,ks,od,U,#[wt.mono al,kl,tn,4,few,a8,pm],λqs zs ms H3 s4 bi ap fr ls=>?_]
 let O:rc:=#[pm,tn,fr];let a1:=al.P s4;let a9:=s3 _ _ gr;let a5:=s4 _ _ a9;let bm:=s4 _ _ (s3 _ _ g0);let kk:=λq zs H' a b c=>kk q zs od ms H' a b O (O.few tw) c;let fw:=O.few (T:=T) tw;let mv a6:∃ mv,mvL es ks ts od ms T=mv:=#[9];rw[a6]at fw;let two:∀ k s,(mv k s).L<=2:=λk s=>by rw[← a6];exact Ka
 rw[a6]at kk;let HC:Same H (hid qr H3):=λb u e=>cx (a1 _ _ e) (aH e ar);let bn:qs≠qr:=l8 bi a9;let cs:=cx ap bn;let zl:zs.L=m:=by rw[ls.1,Nl]
 let c0:([0]:E R).h:=Nt.mpr #[(λz=>nomatch z),NU];erw[qs,U,#[_,SqL.of ap],br (K:=K) (xs:=zs) (λi L H4=>∃ v4 v5 v6 v7 v8 qc an co,L=[Z (.ref p),Z (.int (T:Y)),Z (.ref qr),Z (.ref qc),v4,v5,v6,v7,v8]/\(Same (hid qr H3) H4/\(H4 qr=Z (.lst an)/\(LsAt (RwA mv) (hid qr H4) an (Nf i)/\(H4 qc=Z (.lst (co.Z iV))/\(co.h/\∀ n,n∈co↔Rch mv i n)))))) #[341,q0,[],[0],U,eZ _ _,a5,LsAt.nil,bm,c0,λn=>MQ] (λi L H4 _ ac=>by let _ _ _ _ _ _ _ _ _ z _:=ac;exact SqL.of (z _ _ cs)) ?_ ?_]
 .rintro i x L H4 B ⟨v4,v5,v6,v7,v8,qc,an,co,rfl,s5,a2,a3,gq,cn,cm⟩;let g:i<m:=by rw[← zl];exact(MF.mp B).1
  let a7:co.L<=256:=fw i (M4 g) co cn λn hn=>(cm n).mp hn;let bR:an.L=i:=by rw[a3.1,Nl]
  let i' am a b xs rfl ha nb M lst:=ls.get B;rw[Og g]at am
  cases am
  let bv:=s5 _ _ (cx ((eZ _ _) _ _ ha) λz=>by rw[z]at ha;let:=(eZ _ _) _ _ ha;rw[a5]at this;cases this)
  let bB:=s5 _ _ (cx ((eZ _ _) _ _ M) (l8 nb a9));let bd:LsAt (TkA PL PS es ks T) H4 xs (bkL es ts od i):=lst.imp λy k ⟨t,p,dx,e,kk,u1,u2,u3,u4,u5⟩=>#[t,p,dx,e,kk,u1,s5 _ _ (cx ((eZ _ _) _ _ u2) λz=>by rw[z]at u2;let:=(eZ _ _) _ _ u2;rw[a5]at this;cases this),u3,u4,s5 _ _ (cx ((eZ _ _) _ _ u5) λz=>by rw[z]at u5;let:=(eZ _ _) _ _ u5;rw[a5]at this;cases this)]
  erw[a,9,SqT.of bv,2712982,λd hd=>?_];let s6:=aj hd (.dK []);let bb:d≠qr:=(aH a2 hd).X;let bG:=s6 _ _ gq;let pl:od.v i 0<60:=by
   let:=O.lt g;lia
  erw[9,qc,U,#[_,SqL.of bG],br (K:=K) (xs:=co.Z iV) (λj L H5=>∃ v8 kv,L=[Z (.ref p),Z (.int (T:Y)),Z (.ref qr),Z (.ref qc),Z (.int ((od.v i 0:R):Y)),Z (.ref b),Z (.int ((ms.v (i+1) 0:R):Y)),Z (.ref d),v8]/\(Same H4 H5/\(H5 d=Z (.dK kv)/\DcAt (MsA (hid qr H5)) kv ((co.x j).Z λs=>(s,mv i s))))) #[_,[],U,s6,ag,DcAt.nil] (λj L H5 _ ac=>by let _ _ _ z _ _:=ac;exact SqL.of (z _ _ gq)) ?_ ?_]
  .rintro j y L H5 hy ⟨v8,kv,rfl,s7,d5,dc⟩;rw[MO]at hy;let s hs rfl:=MZ.mp hy;let jl:j<256:=Ni (MF.mp hs).1 a7;let et:co.x (j+1)=co.x j++[s]:=by rw[M5,hs];rfl
   let a4:=s7 _ _ a2;erw[39321,b,od.v i 0,ms.v (i+1) 0,s,xs,bkL es ts od i,es,ks,T,U,pl,s7 _ _ bB,qx bd s7,λq ys H6 s8 bH hq bQ=>?_];let d6:=s8 _ _ d5;let nd:s∉((co.x j).Z λs=>(s,mv i s)).Z (·.1):=λz=>by
    rw[NX]at z;let s' eK N:=Nc.mp z;let N:s'=s:=N;rw[N]at eK;let:=cn.sublist (PK (j+1) co);rw[et]at this;exact(NP.mp this).2.2 s eK s (MQ.mpr U) U
   let nv:=dc.valN nd;let qn:q≠qr:=l8 bH a4;let a0:LsAt MvT H6 ys (mv i s):=by rw[← a6];exact bQ
   let mq:MsA (hid qr H6) (.ref q) (mv i s):=#[q,ys,U,cx hq qn,E1 a0 λb xs e=>cx e λz=>by rw[z,s8 _ _ a4]at e;cases e]
   erw[153,d,9,DPut.k (k:=.inl (s:Y)) d6 (ax (by rw[dc.1,MI,NQ];lia)),37,aK (s7.P s8) hd _,ag,3]
   rw[et,M0];exact((dc.imp λv a z=>(z.up λb u _ e=>i7 s8 b u e).up (nC d6)).putN nv (mq.up (nC d6)))
  .rintro L H5 ⟨v8,kv,rfl,s7,d5,dc⟩;rw[MI,M8]at dc;let a4:=s7 _ _ a2;erw[9,.inl #[6,SqL.of a4],9,qr,an,41,a4,ax ∅,3]
   let d6:(upd H5 qr (.lst (an++[.ref d]))) d=Z (.dK kv):=by rw[aw bb];exact d5
   let h6:=Af qr H5 (.lst (an++[.ref d]));let be:(upd H5 qr (.lst (an++[.ref d]))) qr=Z (.lst (an++[.ref d])):=ag;rw[← h6]at dc;let bf:Same (hid qr H4) (hid qr (upd H5 qr (.lst (an++[.ref d])))):=by rw[h6];exact i7 s7
   generalize upd H5 qr (.lst (an++[.ref d]))=H6 at d6 be dc bf;let kn:((co.Z λs=>(s,mv i s)).Z (·.1))=co:=by rw[NX];exact List.map_id' _
   erw[9,d,kv,co.Z λs=>(s,mv i s),U,d6,dc.imp (λv a z=>z.up λb u _ e=>eZ qr H6 b u e),by rw[MI];exact a7,(λr D=>?_),λl o ns H9 s9 hl nn nm=>?_]
   .let s _ rfl:=Nc.mp D;exact two i s
   let bg:Same (hid qr H4) (hid qr H9):=λb u e=>by
    let e6:=bf _ _ e;let n1:b≠qr:=λz=>by rw[z]at e;unfold hid at e;rw[Ti U]at e;cases e
    let n2:b≠d:=aH ((eZ qr H4) _ _ e) hd;exact cx (s9 _ _ (by rw[aw n2];exact(eZ qr H6) _ _ e6)) n1
   erw[341,l,an++[.ref d],ns,U,λb u e=>?_,s9 _ _ (by rw[aw bb.X];exact be),3,hl,nn,λn=>(nm n).P #[15]]
   .let n1:b≠qr:=λz=>by rw[z]at e;unfold hid at e;rw[Ti U]at e;cases e
    exact(eZ qr H9) _ _ (bg _ _ (cx (s5 _ _ e) n1))
   .rw[Oq];refine(RwA.mono a3 bg).snoc #[d,o,kv,co.Z λs=>(s,mv i s),U,cx (s9 _ _ ag) bb,dc.imp (λv a z=>z.up λb u n e=>?_),by rw[kn];exact cn,(λs=>by rw[kn];exact cm s),λr D=>?_]
    .let n1:b≠qr:=λz=>by rw[z]at e;unfold hid at e;rw[Ti U]at e;cases e
     let e6:=(eZ qr H6) _ _ e;exact cx (s9 _ _ (by rw[aw λz=>by rw[z,d6]at e6;exact n _ (Ny e6).X];exact e6)) n1
    .let s _ rfl:=Nc.mp D;rfl
   .rintro⟨r,D,t,ht,rfl⟩;let s hs rfl:=Nc.mp D;erw[s,(cm s).mp hs,t,ht,U]
   .rintro⟨s,hs,t,ht,rfl⟩;erw[_,Oc ((cm s).mpr hs),t,ht,U]
 .rintro L H4 ⟨v4,v5,v6,v7,v8,qc,an,co,rfl,s5,a2,a3,_⟩;rw[zl]at a3;erw[9,kk qr an H4 (HC.P s5) a2 (RwA.mono a3 (eZ _ _))]
def PrT(H:Hp)(v:V)(t:R×R):Prop:=∃ a,v=.ref a/\H a=Z (.tup [.int (t.1:Y),.int (t.2:Y)])
theorem jP{ws:E (R×R)}(h:LsAt PrT H ys ws)(s:∀ b xs,H b=Z (.tup xs)->H' b=Z (.tup xs)):LsAt PrT H' ys ws:=h.imp λ_ _ ⟨a,x,y⟩=>#[a,x,s _ _ y]
def PsA(H:Hp)(v:V)(ps:E (R×R)):Prop:=∃(q:fc)(k:E V),v=.ref q/\(H q=Z (.lst k)/\LsAt PrT H k ps)
def PsA.up{ps:E (R×R)}(h:PsA H v ps)(s:∀ b u,(∀ kv,u≠.dK kv)->H b=Z u->H' b=Z u):PsA H' v ps:=by
 let q k e n C:=h;erw[q,k,e,s _ _ (λ_ z=>by cases z) n,jP C λb D e=>s _ _ (λ_ z=>by cases z) e]
abbrev bsR(mv:R->R->E M3)(m k s:R):E (R×R):=bstL (aO mv m (m-k)) (aO mv m (m-(k+1))) (mv k s) s
def BsA(mv:R->R->E M3)(m:R)(H:Hp)(v:V)(k:R):Prop:=∃(d:fc)(G:E (Key×V))(ad:E (R×E (R×R))),v=.ref d/\(H d=Z (.dK G)/\(DcAt (PsA H) G ad/\((ad.Z (·.1)).h/\∀ s b,Rch mv k s->aO mv m (m-k) s=Z b->(s,bsR mv m k s)∈ad)))
def BsA.mono{mv:R->R->E M3}{k:R}(h:BsA mv m H v k)(s:o5):BsA mv m H' v k:=by
 let d G ad e x y z:=h;erw[d,G,ad,e,s _ _ x,y.imp λ_ _ w=>w.up λb u _ e=>s b u e,z]
def tW(w:Y×R×R):T3:=(w.1,(w.2.1:Y),(w.2.2:Y))
def dtT(t:T3):hH:=.tuple [.int t.1,.int t.2.1,.int t.2.2]
def KP{ws:E T3}(h:H a=Z (.lst zs))(ls:LsAt TrA H zs ws):RdD K H (.ref a) (.list (ws.Z dtT)):=by
 refine RdD.lst (SqL.of h) (by rw[MI];exact ls.1) λi x d f A=>?_
 let t g b rfl M:=ls.get f;rw[MO,g]at A
 cases A
 refine RdD.tup (SqT.of M) U λi x d f A=>?_;match i,f,A with
 |0,f,A=>cases f;cases A;exact .int _
 |1,f,A=>cases f;cases A;exact .int _
 |2,f,A=>cases f;cases A;exact .int _
 |i+3,f,A=>cases f
theorem KO(ws:E T3):SeqAt.shaped (.list (ws.Z dtT))=kt:=lH λd hd=>by
 let t _ rfl:=Nc.mp hd;erw[U,Nat.le_of_ble_eq_true U]
def GY(b:R->j5 Y)(ms:E M3)(t:M3):wysL b (ms++[t])=wysL b ms++((b t.2.1).Z λx=>(t.2.2+x,t.1,t.2.1)).l:=by
 unfold wysL;rw[PR,Oh,Qd]
 cases b t.2.1<;>rfl
def kpL{α j:Type}(B:R->j5 Y)(g:R->Y->j)(ad:E (R×α)):E (R×j):=ad.filterMap λr=>(B r.1).Z λx=>(r.1,g r.1 x)
def Fj{j:Type}(B:R->j5 Y)(g:R->Y->j)(ad:E (R×α))(r:R×α):kpL B g (ad++[r])=kpL B g ad++((B r.1).Z λx=>(r.1,g r.1 x)).l:=by
 unfold kpL;rw[PR,Oh,Qd]
 cases B r.1<;>rfl
def Fl{j:Type}{B:R->j5 Y}{g:R->Y->j}{ad:E (R×α)}{s:R}{b:j}:(s,b)∈kpL B g ad↔s∈ad.Z (·.1)/\∃ x,B s=Z x/\b=g s x:=by
 unfold kpL;rw[Pf];constructor
 .rintro⟨r,eK,O⟩;let x G dO:=MZ.mp O
  cases dO
  erw[Oc eK,x,G,U]
 .rintro⟨eK,x,O,rfl⟩;let r G rfl:=Nc.mp eK;erw[r,G,by rw[O];rfl]
def BK{j:Type}{B:R->j5 Y}{g:R->Y->j}{ad:E (R×α)}{s:R}(h:s∈(kpL B g ad).Z (·.1)):s∈ad.Z (·.1)/\∃ x,B s=Z x:=by
 let{c b}eK rfl:=Nc.mp h;let O x G _:=Fl.mp eK;erw[O,x,G]
def kp_nd{j:Type}{B:R->j5 Y}{g:R->Y->j}{ad:E (R×α)}(h:(ad.Z (·.1)).h):((kpL B g ad).Z (·.1)).h:=by
 induction ad with
 |nil=>exact NU
 |cons r ad C=>
  rw[NF]at h;let eK O:=Nt.mp h;unfold kpL;rw[Oh]
  cases e:B r.1 with
  |none=>exact C O
  |some x=>exact Nt.mpr #[λz=>eK (BK (g:=g) z).1,C O]
theorem Kf{j:Type}{B:R->j5 Y}{g:R->Y->j}{ad:E (R×α)}:(kpL B g ad).L<=ad.L:=Qh _ _
def isN(v:V)(x:Y):Prop:=v=.int x
inductive JQ
 |mk (a:fc)(zs:E V)(mv:R->R->E M3)(m:R) (_:vs=[.ref a])(_:H a=Z (.lst zs))(_:LsAt (RwA mv) H zs (Nf m))(_:m<=40)(_:FewR mv m)(_:(∀ k s,(mv k s).L<=2))(_:∀(q:fc)(bs:E V) H',o5->H' q=Z (.lst bs)->LsAt (BsA mv m) H' bs (Nf m)->Q (.ref q) H')
structure TxtR(mg:fI->j5 eN):Prop extends Txt mg where
 n_reversed:mg "reversed"=lf
def bc:az ["rows","kept","least_ahead","moves","best","least_here","signs","found","ways","low"] ["rows"] (aq jO):=by ac_nf
def LP(F:Fun K "best_moves" "best_moves" jO f fd)(T:Txt mg)(n_reversed:mg "reversed"=lf):li 1 f fd ["rows"] JQ:=by
 let T:TxtR mg:={T with n_reversed:=n_reversed};refine F.ok bc λab A I s H vs Q dO r h=>?_
 let a zs mv m rfl ha lz al cv two kk:=h;let hu:=pG r;let ap:=r.units;let zl:zs.L=m:=by rw[lz.1,Nl]
 intros;erw[_,(af (aA 1 bc.nd (bX ai))
   (af (aA 2 bc.nd (uN (pV ak ak uE) U U (λz=>by cases z) ∅))
   (af (mx (pi_rev U T.n_reversed (pv 0)) (bq 3 bc.nd) (af (aA 4 bc.nd gE)
   (af (aA 5 bc.nd gE)
   (af (mx (EB (ED (pv 3))) (iA U (aC (bq 6 bc.nd) (aC (bq 7 bc.nd) bx))) (af (lY 8 [("least_ahead",2)] ["own","then","cost"] bc.nd (aM (pv 7)) (λC ex s H=>(dD (n:=3) (K:=K) U U (aC (aY (i:=0) (show(["own","then","cost","least_ahead"]:E fI).h from by decide) U (Or.inl U)) (aC (aY (i:=1) (show(["own","then","cost","least_ahead"]:E fI).h from by decide) U (Or.inl U)) (aC (aY (i:=2) (show(["own","then","cost","least_ahead"]:E fI).h from by decide) U (Or.inl U)) bx))))) (λC ex s H=>(fV (By (pc_din hu (pv 1) (pv 3))))) (λC ex s H=>(bN (ae (ay cg (pv 2) (iW hu (pv 3) (pv 1) (λ_ _=>rfl))) (ae (pv 0) (ae (pv 1) ai))))))
   (ao (bJ (aD (EH ap) (pv 8) (bX ai) (aJ _)) (af (aA 9 bc.nd (bV (aE (yy U ap) (by rfl) T.n_min oW (ae (pv 8) ai)) ak))
   (af (ig hu (pv 5) (pv 6) (pv 9) U)
   (ao (ig hu (pv 4) (pv 6) (cM [("low",9)] ["cost","own","then"] (aM (pv 8)) (λC ex s H=>(dD (n:=3) (K:=K) U U (aC (aY (i:=0) (show(["cost","own","then","low"]:E fI).h from by decide) U (Or.inl U)) (aC (aY (i:=1) (show(["cost","own","then","low"]:E fI).h from by decide) U (Or.inl U)) (aC (aY (i:=2) (show(["cost","own","then","low"]:E fI).h from by decide) U (Or.inl U)) bx))))) (λC ex s H=>(fV (aD cH (pv 0) (pv 3) (aJ _)))) (λC ex s H=>(bN (ae (pv 1) (ae (pv 2) ai))))) U)))) aN))))
   (af (aW (eF Na Nq Np aX (pv 1) (ae (pv 4) ai)))
   (ao (aA 2 bc.nd (pv 5))))))))
   (ao (aG (qK U U T.n_list U T.n_reversed (pv 1))))))),3]
 erw[(by show 0<=RO;decide),λqk cw=>?_]
 let s1:=aj cw (.lst []);let cy:(upd H qk (.lst [])) qk=Z (.lst []):=ag;generalize upd H qk (.lst [])=p at s1 cy;refine λla bg=>?_;erw[ag,[(.inl 0,.int 0)],66]
 let s3:Same p (upd (upd p la (.dK [])) la (.dK (eY [] [(.inl 0,.int 0)]))):=aK (aj bg (.dK [])) bg _;let aI:(upd (upd p la (.dK [])) la (.dK (eY [] [(.inl 0,.int 0)]))) la=Z (.dK [(.inl 0,.int 0)]):=by rw[ag];rfl
 generalize upd (upd p la (.dK [])) la (.dK (eY [] [(.inl 0,.int 0)]))=H3 at s3 aI;let ar:=s1.P s3;erw[9,a,zs,U,SqL.of (ar _ _ ha),Mh (K:=K) (xs:=zs) (λi L H4=>∃(la:fc)(w3 w4 w5 w6 w7 w8 w9:j5 V)(kl:E V)(kv:E (Key×V)),L=[Z (.ref a),Z (.ref qk),Z (.ref la),w3,w4,w5,w6,w7,w8,w9]/\(Same H H4/\(H4 la=Z (.dK kv)/\((∀ s,(i=0∨Rch mv (m-i) s)->valV kv (.inl (s:Y))=(aO mv m i s).Z V.int)/\(H4 qk=Z (.lst kl)/\(kl.L=i/\∀ j,j<i->∃ v,kl[j]?=Z v/\BsA mv m (hid qk H4) v (m-1-j))))))) #[la,5461,[],9,ar,aI,(λs _=>?_),s3 _ _ cy,U,λj hj=>Tn hj (NM j)] (λi L H4 _ ac=>by let _ _ _ _ _ _ _ _ _ _ _ z _:=ac;exact SqL.of (z _ _ ha)) ?_ ?_]
 .show valV [((.inl 0:Key),V.int 0)] (.inl (s:Y))=(if s=0 then Z 0 else lf).Z V.int;by_cases c:s=0
  .rw[c];rfl
  .rw[Tj c,bI (λz=>c (by let:=Sum.inl.inj z;lia))];rfl
 .rintro i x L H4 G ⟨la,w3,w4,w5,w6,w7,w8,w9,kl,kv,rfl,s4,cz,ah,a4,bb,M⟩;let J:i<m:=by rw[← zl];let:=(MF.mp G).1;rw[O4]at this;exact this
  let k N bm:∃ k,k<m/\m-i=k+1:=#[m-i-1,20]
  let ek:m-(k+1)=i:=by lia
  let hm:RwA mv H x k:=by
   rw[OX ∅,zl,show m-1-i=k by lia]at G
   let k' e1 e2:=lz.get G;rw[Og N]at e1
   cases e1
   exact e2
  let d o aa ad rfl hd dc nR kR vR:=hm;let bn:ad.L<=256:=by
   rw[← MI (f:=(·.1))];exact cv k (M4 N) _ nR λs hs=>(kR s).mp hs
  refine λpb bY=>λph b0=>?_;let s5:=(aj bY (.dK [])).P (aj b0 (.dK []));let b5:pb≠ph:=λz=>by rw[← z,ag]at b0;cases b0
  let cB:(upd (upd H4 pb (.dK [])) ph (.dK [])) ph=Z (.dK []):=ag;let cR:(upd (upd H4 pb (.dK [])) ph (.dK [])) pb=Z (.dK []):=by rw[aw b5];exact ag
  let cc:H4 ph=lf:=jQ (aj bY (.dK [])) b0;generalize upd (upd H4 pb (.dK [])) ph (.dK [])=H5 at s5 cB cR;let d4:=s4 _ _ hd;erw[9,d,.dK aa,U,#[trivial,.inr #[o,s5 _ _ d4]],λvw bi=>?_];let s6:=aj bi (jz vw d);erw[vw,d,.dK aa,U,ag,#[trivial,.inr #[o,s6 _ _ (s5 _ _ d4)]],λo' uq=>?_];let eo:=uq _ (s6 _ _ (s5 _ _ d4));subst eo;let s7:Same (upd H5 vw (jz vw d)) (upd (upd H5 vw (jz vw d)) d (.frz o (.dK aa))):=λb u e=>by
   by_cases z:b=d
   .rw[z]at e ⊢;rw[ag,← e];exact(s6 _ _ (s5 _ _ d4)).X
   .rw[aw z];exact e
  let a8:=s6.P s7;let bR:=a8 _ _ cB;let cT:=a8 _ _ cR;let cW:=s5.P a8;generalize upd (upd H5 vw (jz vw d)) d (.frz o (.dK aa))=H7 at cW bR cT;let hB:∀ s,aO mv m (m-k) s=lowW (wysL (aO mv m i) (mv k s)):=λs=>by rw[wC N,ek]
  let kn:=aH a4 bY;let dA:=aH a4 cc;refine FP (u:=.dK aa) (d:=d) (o:=o) (λj L H8=>∃(w6 w7 w8 w9:j5 V)(kh kb:E (Key×V)),L=[Z (.ref a),Z (.ref qk),Z (.ref la),Z (.ref d),Z (.ref pb),Z (.ref ph),w6,w7,w8,w9]/\(Same H4 H8/\(H8 ph=Z (.dK kh)/\(H8 pb=Z (.dK kb)/\(DcAt isN kh (kpL (aO mv m (m-k)) (λ_ x=>x) (ad.x j))/\DcAt (PsA (hid qk H8)) kb (kpL (aO mv m (m-k)) (λs _=>bsR mv m k s) (ad.x j))))))) #[85,[],[],U,cW,bR,cT,DcAt.nil,DcAt.nil] (λj L H8 _ ac=>by let _ _ _ _ _ _ _ z _:=ac;exact z _ _ d4) ?_ ?_
  .rintro j x y L H8 T8 hj bf ⟨w6,w7,w8,w9,kh,kb,rfl,s8,ch,ci,dh,db⟩ ce;let s ms q ys hR rfl rfl hq ls:∃(s:R)(ms:E M3)(q:fc)(ys:E V),ad[j]?=Z (s,ms)/\x=.int (s:Y)/\y=.ref q/\H q=Z (.lst ys)/\LsAt MvT H ys ms:=by
    rcases bf with⟨an,k',a1,a2,a3⟩|⟨an,k',t,a1,_⟩
    .cases a1;let s ms rfl eK q ys rfl hq ls:=dc.atK a2;erw[s,ms,q,ys,eK,a3,U,hq,ls]
    .cases a1
   let dB:ms=mv k s:=vR _ (MH hR);subst dB;let jl:j<256:=Ni (MF.mp hR).1 bn;let ks:=(kR s).mp (Oc (MH hR));let et:ad.x (j+1)=ad.x j++[(s,mv k s)]:=by rw[M5,hR];rfl
   let ns:s∉(ad.x j).Z (·.1):=λz=>by
    let:=nR.sublist ((PK (j+1) ad).Z (·.1));rw[et,M0]at this;exact(NP.mp this).2.2 s z s (MQ.mpr U) U
   let k1:=Fj (aO mv m (m-k)) (λ_ x=>x) (ad.x j) (s,mv k s);let k2:=Fj (aO mv m (m-k)) (λs _=>bsR mv m k s) (ad.x j) (s,mv k s);rw[← et]at k1 k2;let l1:=Kf (B:=aO mv m (m-k)) (g:=λ_ x=>x) (ad:=ad.x j);let l2:=Kf (B:=aO mv m (m-k)) (g:=λs _=>bsR mv m k s) (ad:=ad.x j);rw[NQ]at l1 l2;let b6:=aj ce (.tup [.int (s:Y),.ref q]);let s9:=s8.P b6;erw[T8,9,SqT.of ag,238998];let cl:=s9 _ _ (s4 _ _ hq);let yl:=ls.1;let y2:=two k s;let cd:=s9 _ _ cz;let c5:=b6 _ _ ch;let cm:=b6 _ _ ci;let c6:DcAt (PsA (hid qk (upd H8 T8 (.tup [.int (s:Y),.ref q])))) kb (kpL (aO mv m (m-k)) (λs _=>bsR mv m k s) (ad.x j)):=db.imp λv a z=>z.up λb u _ e=>i7 b6 b u e;let c7:LsAt MvT (upd H8 T8 (.tup [.int (s:Y),.ref q])) ys (mv k s):=E1 ls λb xs e=>s9 _ _ (s4 _ _ e);generalize upd H8 T8 (.tup [.int (s:Y),.ref q])=H9 at s9 cl cd c5 cm c6 c7;erw[9,q,U,#[_,SqL.of cl],aZ (K:=K) (xs:=ys) (λj zs HA=>Same H9 HA/\(LsAt TrA HA zs ((wysL (aO mv m i) ((mv k s).x j)).Z tW)/\zs.L<=j)) (M4 (ax ∅)) #[λ_ _ e=>e,LsAt.nil,MN _] (λj zs HA _ z=>SqL.of (z.1 _ _ cl)) ?_ ?_ (λj zs HA z=>z.2.2)]
   .rintro j x zs HA G ⟨sA,bv,c8⟩;let t ht b rfl M:=c7.get G;let et:(mv k s).x (j+1)=(mv k s).x j++[t]:=by rw[M5,ht];rfl
    let av:valV kv (.inl (t.2.1:Y))=(aO mv m i t.2.1).Z V.int:=ah _ (by
     by_cases c:i=0
     .exact .inl c
     .right;rw[bm]
      erw[s,ks,t,MH ht,U])
    let gA:DGet HA la (.int (t.2.1:Y)) ((aO mv m i t.2.1).Z V.int):=by rw[← av];exact DGet.k (k:=.inl (t.2.1:Y)) (sA _ _ cd)
    erw[b,9,SqT.of (sA _ _ M),2578015638,la,9,gA,57];rw[et,GY]
    cases c:aO mv m i t.2.1 with
    |none=>
     refine iteF #[sA,3,OQ c8];show LsAt TrA HA zs ((_++[]).Z tW);rw[NT];exact bv
    |some av=>
     rw[c]at gA;refine iteT #[2457,la,9,gA,39333,(by show 3<=RO;decide),λt3 a0=>?_]
     let sB:=aj a0 (.tup [.int (t.2.2+av),.int (t.1:Y),.int (t.2.1:Y)]);erw[sA.P sB,3,by rw[MP,M9];lia]
     rw[M0];exact(Cv bv λb xs e=>sB _ _ e).snoc #[t3,U,ag]
   rintro zs HA ⟨sA,bv,c8⟩ wa bU;rw[yl,M8]at bv;let sB:=aj bU (.lst zs);let cn:=Cv bv λb xs e=>sB _ _ e;let co:(upd HA wa (.lst zs)) wa=Z (.lst zs):=ag;let c9:=sA.P sB;generalize upd HA wa (.lst zs)=HB at sB cn co c9;erw[9,(by show 0<=RO;decide),λl hl=>?_]
   let sC:=aj hl (.lst []);erw[5,KP (sC _ _ co) (Cv cn λb xs e=>sC _ _ e),RdD.lst (ds:=[]) (SqL.of ag) U (λi x d e=>by cases e),KO _,230]
   let bB:=sC _ _ co;let bd:=Cv cn λb xs e=>sC _ _ e;let be:=c9.P sC;generalize upd HB l (.lst [])=HC at sC bB bd be;let da:=s9.P be;let bG:=be _ _ c5;let cq:DcAt (PsA (hid qk HC)) kb (kpL (aO mv m (m-k)) (λs _=>bsR mv m k s) (ad.x j)):=c6.imp λv a z=>z.up λb u _ e=>i7 be b u e;let ca:=hB s;let W hW:∃ W,wysL (aO mv m i) (mv k s)=W:=#[9];rw[hW]at bd ca;rw[hW]
   cases W with
   |nil=>
    let eB:aO mv m (m-k) s=lf:=ca;rw[eB]at k1 k2;refine iteF #[85,kh,kb,U,da,bG,be _ _ cm,15]
    .rw[k1];exact(NT _).X▸dh
    .rw[k2];exact(NT _).X▸cq
   |cons w0 W=>
    let dd:(w0::W).Z tW≠[]:=λz=>by cases z
    generalize dC:w0::W=W' at bd ca dd hW;let am:(!hH.eqv (.list ((W'.Z tW).Z dtT)) (.list []))=kt:=by rw[← dC];rfl
    rw[am];refine iteT ?_;erw[9,wa,zs,9,SqL.of bB,bd,dd,λi' y t hy ht a5=>?_];let t' a7 tb rfl aS:=bd.get hy;rw[ht]at a7
    cases a7
    erw[tb,_,00,41,SqT.of aS,14];rw[MO]at ht;let t0 aL rfl:=MZ.mp ht;let eB:aO mv m (m-k) s=Z t0.1:=by
     rw[ca];exact pW.mpr #[#[t0,MH aL,U],λu hu=>a5 _ (Nc.mpr #[u,hu,U])]
    rw[eB]at k1 k2;let nh:valV kh (.inl (s:Y))=lf:=dh.valN λz=>ns (BK z).1;let dE:valV kb (.inl (s:Y))=lf:=cq.valN λz=>ns (BK z).1;erw[2457,ph,9,DPut.k (k:=.inl (s:Y)) bG (ax (by rw[dh.1];lia)),3]
    let dn:∀ b u,b≠ph->HC b=Z u->(upd HC ph (.dK (putK kh (.inl (s:Y)) (.int t0.1)))) b=Z u:=λb u n e=>by rw[aw n];exact e
    let cs:=dn _ _ (λz=>by rw[z,bG]at bB;cases bB) bB
    let a9:=Cv bd λb xs e=>dn _ _ (λz=>by rw[z,bG]at e;cases e) e
    let de:=dn _ _ b5 (be _ _ cm);let bQ:(upd HC ph (.dK (putK kh (.inl (s:Y)) (.int t0.1)))) ph=Z (.dK (putK kh (.inl (s:Y)) (.int t0.1))):=ag;let ct:Same H4 (upd HC ph (.dK (putK kh (.inl (s:Y)) (.int t0.1)))):=aK da cc _;let df:DcAt (PsA (hid qk (upd HC ph (.dK (putK kh (.inl (s:Y)) (.int t0.1)))))) kb (kpL (aO mv m (m-k)) (λs _=>bsR mv m k s) (ad.x j)):=cq.imp λv a z=>z.up (nC bG);let dg:=dh.putN nh (show isN (.int t0.1) t0.1 from rfl);show tSeq _ _ _ _ (upd HC ph (.dK (putK kh (.inl (s:Y)) (.int t0.1))));generalize upd HC ph (.dK (putK kh (.inl (s:Y)) (.int t0.1)))=HD at cs a9 de bQ ct df;generalize putK kh (.inl (s:Y)) (.int t0.1)=dF at bQ dg;let dG:zs.L<=2:=by lia
    erw[9,wa,U,#[_,SqL.of cs],aZ (K:=K) (xs:=zs) (λj us HE=>Same HD HE/\(LsAt PrT HE us (((W'.x j).filter λw=>decide (Z w.1=aO mv m (m-k) s)).Z (·.2))/\us.L<=j)) (M4 (ax ∅)) #[λ_ _ e=>e,LsAt.nil,MN _] (λj us HE _ z=>SqL.of (z.1 _ _ cs)) ?_ ?_ (λj us HE z=>z.2.2)]
    .rintro j x us HE G ⟨sE,bH,ul⟩;let t' a7 b rfl M:=a9.get G;rw[MO]at a7;let u a6 rfl:=MZ.mp a7;let et:W'.x (j+1)=W'.x j++[u]:=by rw[M5,a6];rfl
     rw[et,OG,M0];erw[b,9,SqT.of (sE _ _ M),165786772886,ite2 (λc=>?_) (λc=>?_)]
     .let c':Z u.1=aO mv m (m-k) s:=by rw[eB];exact congrArg Z (V.int.inj (S8 c))
      rw[OO (by exact Sx c'),Pk]
      erw[153,(by show 2<=RO;decide),λt2 aT=>?_]
      let sF:=aj aT (.tup [.int (u.2.1:Y),.int (u.2.2:Y)]);erw[sE.P sF,(jP bH λb xs e=>sF _ _ e).snoc #[t2,U,ag],by rw[MP,M9];lia]
     .let c':¬ Z u.1=aO mv m (m-k) s:=λz=>c (Sx (congrArg V.int (by rw[eB]at z;exact Ny z)))
      rw[OP (by exact λz=>c' (S8 z)),Pk,Qw,NT]
      erw[sE,bH,OQ ul]
    rintro us HE ⟨sE,bH,ul⟩ D hD;rw[a9.1,MI,M8,← hW]at bH;let sF:=aj hD (.lst us);let cb:=sF _ _ (sE _ _ de);let di:=sF _ _ (sE _ _ bQ);let dm:=jP bH λb xs e=>sF _ _ e;let dp:(upd HE D (.lst us)) D=Z (.lst us):=ag;let cu:=(ct.P sE).P sF;let nD:D≠qk:=(aH ((ct.P sE) _ _ a4) hD).X;let dr:DcAt (PsA (hid qk (upd HE D (.lst us)))) kb (kpL (aO mv m (m-k)) (λs _=>bsR mv m k s) (ad.x j)):=df.imp λv a z=>z.up λb u _ e=>i7 (sE.P sF) b u e;show tVar 4 _ (upd HE D (.lst us)) _;generalize upd HE D (.lst us)=HF at cb di dm dp cu dr
    let pD:PsA (hid qk HF) (.ref D) (bsR mv m k s):=#[D,us,U,cx dp nD,by
     unfold bsR;rw[ek]
     exact jP dm λb xs e=>cx e λz=>by rw[z,cu _ _ a4]at e;cases e]
    erw[153,pb,9,DPut.k (k:=.inl (s:Y)) cb (ax (by rw[db.1];lia)),3]
    erw[85,dF,9,aK cu bY _,by rw[aw b5.X];exact di,ag,by rw[k1];exact dg,3]
    rw[k2];exact(dr.imp λv a z=>z.up (nC cb)).putN dE (pD.up (nC cb))
  .rintro L H8 ⟨w6,w7,w8,w9,kh,kb,rfl,s8,ch,ci,dh,db⟩;let dl:dlen (.dK aa)=ad.L:=dc.1;rw[dl,M8]at dh db;let dx:=s8 _ _ a4;erw[9,.inl #[6,SqL.of dx],9,qk,kl,41,dx,ax ∅,3]
   let h6:=Af qk H8 (.lst (kl++[.ref pb]));let up:∀ b u,b≠qk->H8 b=Z u->(upd H8 qk (.lst (kl++[.ref pb]))) b=Z u:=λb u n e=>by rw[aw n];exact e
   erw[9,ph,5461,kl++[.ref pb],kh,U,aK (s4.P s8) cw _,up _ _ dA.X ch,λs hs=>?_,ag,by rw[MP,bb];rfl,λj hj=>?_]
   .rw[show i+1=m-k by lia]
    let ks:Rch mv k s:=by
     obtain z|z:=hs
     .lia
     .rw[show m-(i+1)=k by lia]at z;exact z
    let sR:=(kR s).mpr ks
    cases e:aO mv m (m-k) s with
    |none=>
     exact dh.valN λz=>by
      let _ x G:=BK z;rw[e]at G;cases G
    |some x=>
     let v eK rfl:=dh.get (kp_nd nR) (Fl.mpr #[sR,x,e,U]);exact eK
   .rw[h6];by_cases c:j<i
    .let v eK O:=M j c;erw[v,by rw[MT ∅];exact eK,O.mono (i7 s8)]
    .let:j=i:=by lia
     subst this;erw[.ref pb,by rw[MR ∅,bb,Nz];rfl,3]
     rw[show m-1-j=k by lia]
     erw[pb,kb,9,cx ci kn.X,db,kp_nd nR,λs b ks e=>Fl.mpr #[(kR s).mpr ks,b,e,U]]
 .rintro L H4 ⟨la,w3,w4,w5,w6,w7,w8,w9,kl,kv,rfl,s4,cz,ah,a4,bb,M⟩;erw[9,qk,9,SqL.of a4,λq hq=>?_];let s5:=aj hq (.lst kl.y);rw[zl]at bb M;refine kk q kl.y _ (s4.P s5) ag #[by rw[O4,bb,Nl],λk y e=>?_]
  let N:k<m:=by let:=(MF.mp e).1;rw[Nl]at this;exact this
  rw[Og N]at e
  cases e
  let v eK O:=M (m-1-k) ∅
  erw[v,by rw[OX ∅,bb];exact eK,3]
  rw[show m-1-(m-1-k)=k by lia]at O
  exact O.mono λb u e=>s5 _ _ ((eZ _ _) _ _ e)
def WebF.s{S:fc->Prop}{PS:fc}{ks:Kn}(h:WebF S f PS C H p m es ts rs ks):WebS f PS C H p es ks rs:=by
 let B fs dO D a b _ c d e:=h;let r Q j g i:=b.sides;erw[B,fs,dO,D,r,Q,a,c,d,e,j,g,i]
theorem ls_app{ad:Hp->V->α->Prop}{d:E V}{xs f:E α}(h:LsAt ad H ys xs)(h':LsAt ad H d f):LsAt ad H (ys++d) (xs++f):=#[by rw[MP,MP,h.1,h'.1],λi x e=>by
 by_cases c:i<xs.L
 .rw[MT c]at e;let y a b:=h.2 i x e;erw[y,by rw[MT (by rw[h.1];exact c)];exact a,b]
 .rw[MR ∅]at e
  let y a b:=h'.2 _ x e
  erw[y,by rw[MR (by rw[h.1];lia),h.1];exact a,b]]
def FunD.okD{a:fI}{st:hr}{N ps:E fI}{k:R}(F:FunD K x a st f fd items)(S:az N ps (aq st))(len:∀ vs H Q dO,sp vs H Q dO->vs.L=ps.L)(G:∀(L:eN)(A:Around)(outer:E ih)(s:ff)(H:Hp)(vs:E V)(Q:VK)(dO:XK),Room k (A.deeper (PyProof.Rows.envOfC a (aq st) s.H.M.J f L))->sp vs H Q dO ->
   let X:=(cxOf (CXd P w) P w K mg base N a (aq st) f L A outer s H dO);let D:Ends:={nx:=λ_ H'=>Q .non H',rt:=Q};∃ t,PSs X (bz st) t/\t D (qA N vs) H):FnOk P w K mg base (CXd P w) (k+1) f fd ps sp:=by
 let l i d kV C B p L j b rfl m z _:=F.ex;exact IW m z S len λA outer s H vs Q dO u r=>G L A outer s H vs Q dO u r
def Oth.st{ks:Kn}(O:Oth m es ts ks rs ls)(hi:i<es.L):(KF.lkA ls i).2.2=stg ks i:=by
 let e:=MG (show i<ls.L by rw[O.d.ln];exact hi)
 let k f A _:=O.ws i _ e;rw[KF.lkA_is e,DQ f];exact A
theorem G3{es:En}{ks:Kn}{L t:R}(nn:∀ i,0<=stg ks i)(g:UN es ks L t=kt):∀ n,(0<=wS es ks L n)/\(t<n->stg ks t<=wS es ks L n)
 |0=>#[N6 _,λz=>Tn z (NM _)]
 |i+1=>by
  let eK O:=G3 (es:=es) (L:=L) nn g i;let:=nn i;unfold wS;by_cases c:UN es ks L i=kt
  .rw[Ti c];erw[4,λJ=>?_]
   by_cases z:t=i
   .subst z;lia
   .let:=O ∅;lia
  .rw[Tj c];erw[eK,λJ=>O (Nat.lt_of_le_of_ne (Nat.le_of_lt_succ J) λz=>c (z▸g))]
section
variable{m:R}{es:En}{ts rs:E (E R)}{ks:Kn}{ls:E KF.Lk}{d:R}
def Rg.nn(rg:Rg m es ts ks rs ls)(i:R):0<=stg ks i:=by
 by_cases J:i<es.L
 .rw[← rg.o.st J];let e:=MG (show i<ls.L by rw[rg.o.d.ln];exact J)
  let:=rg.w1 _ (MH e);rw[KF.lkA_is e];lia
 .unfold stg;rw[N3 (by rw[rg.o.kl];lia)]
  exact N6 _
def Rg.st_ge(rg:Rg m es ts ks rs ls)(lo:∀ l∈ls,(d:Y)<=l.2.2)(hi:i<es.L):(d:Y)<=stg ks i:=by
 rw[← rg.o.st hi];let e:=MG (show i<ls.L by rw[rg.o.d.ln];exact hi)
 rw[KF.lkA_is e];exact lo _ (MH e)
def Rg.lack(rg:Rg m es ts ks rs ls)(L:R):∃ t,t<es.L/\UN es ks L t=kt:=by
 refine NY λno=>?_;let h:=rg.o.lay L;rw[← rg.o.d.marks (MK (bp ks) es.L),rg.od]at h;let z:MK (UB es ks L) es.L=0:=NC λi=>by
  rw[kA,NI];by_cases c:i<es.L
  .rw[Sx c,Oj]
   cases u:UB es ks L i with
   |false=>rfl
   |true=>exact Tn #[i,c,u] no
  .rw[RN c,Pu]
 rw[z,KF.oddE_zero]at h
 cases h
def Rg.wt_ge(rg:Rg m es ts ks rs ls)(lo:∀ l∈ls,(d:Y)<=l.2.2)(L:R):(d:Y)<=wT es ks L:=by
 let t g f:=rg.lack L;let eK:=(G3 rg.nn f es.L).2 g;let O:=rg.st_ge lo g;unfold wT;lia
def Rg.tight(rg:Rg m es ts ks rs ls)(lo:∀ l∈ls,(d:Y)<=l.2.2)(hw:wT es ks L=(d:Y)){t:R}(g:t<es.L)(f:UN es ks L t=kt):(MK (tgD ls d) es.L).O t=kt:=by
 let eK:=(G3 rg.nn f es.L).2 g;let O:=rg.st_ge lo g;unfold wT at hw;rw[kA,Sx g,Oj];unfold tgD;rw[rg.o.st g];exact Sx ∅
theorem vn{mv:R->R->E M3}{Ok:R->Prop}{W:R->Y}{a pt l rs:R->R->R}{b:R->R->Y}{c:R->R->R->Y->Prop}(ad:gY mv m Ok W a pt l b c rs){fl:Y}(A:aO mv m m 0=Z fl):∀ j k,k+j=m->(begL mv m k).L<=(begL mv m m).L
 |0,k,h=>by
  let:k=m:=h;rw[this];exact MN _
 |j+1,k,h=>NH (ad.grow A (show k<m by lia)) (vn ad A j (k+1) ∅)
theorem GN{mv:R->R->E M3}:∀ k,∀ e∈begL mv m k,Rch mv k e.2
 |0,e,N=>by
  cases MQ.mp N
  rfl
 |k+1,e,N=>by
  let x eK O:=Pw.mp N;let{o t}G rfl:=Nc.mp O;let c _ dO _:=rR.mp G;erw[x.2,GN k x eK,_,dO,U]
def Rg.due(rg:Rg m es ts ks rs ls){od ms due:E R}(O:rc)(lo:∀ l∈ls,(d:Y)<=l.2.2)(hd:∀ L,L∈due↔L<2^m/\L.O 0=k9/\wT es ks L=(d:Y))(ne:0<due.L)(nd:due.h):
  (∃ fl,aO (mvL es ks ts od ms (MK (tgD ls d) es.L)) m m 0=Z fl)/\((begL (mvL es ks ts od ms (MK (tgD ls d) es.L)) m m).Z (·.1)).Perm due:=by
 let ad:=O.rows (MK (tgD ls d) es.L);let j k:=PV ne;let ok:∀ L,L∈due->OkL es ks m (MK (tgD ls d) es.L) L:=λL h=>by
  let a b c:=(hd L).mp h;erw[a,b,λt g C=>rg.tight lo c g C]
 let fl A eK N G:=ad.done (ok j k);let up:fl<=(d:Y):=by
  let:=eK j (ok j k);rw[((hd j).mp k).2.2]at this;exact this
 let n:0<(begL (mvL es ks ts od ms (MK (tgD ls d) es.L)) m m).L:=by
  let:=vn ad A m 0 ∅
  exact Ni Nat.zero_lt_one this
 let e v:=PV n;let f:=(G e.1).mp (Oc v);let i:=rg.wt_ge lo e.1;let o:fl=(d:Y):=by
  let:=f.2;lia
 subst o;erw[#[_,A],(Oy N nd).mpr λL=>(G L).P #[λ⟨a,b⟩=>(hd L).mpr #[a.1,a.2.1,b],λz=>#[ok L z,((hd L).mp z).2.2]]]
end
structure TxtA(mg:fI->j5 eN)(TM:fc):Prop extends TxtO mg where
 g_TooMany:mg "TooMany"=Z (.ref TM)
inductive Hk(TM TT PL PS WC:fc)(vs:E L2.V)(H:L2.Hp)(Q:L2.VK)(dO:L2.XK):Prop
 |mk (p:fc)(b m:R)(es:En)(ts rs:oD)(ks:Kn)(ls:E KF.Lk)(due:E R) (_:vs=[.ref p,.int (b:Y)])(_:WebL TT PL PS WC H p m es ts rs ks ls)(_:(∃ pl,Cyc m es pl))(_:1<=b)(_:b<=40)(_:0<due.L)(_:due.L<=40)(_:due.f (· < ·))(_:(∀ d:R,(∃ l∈ls,l.2.2=(d:Y))->(∀ l∈ls,(d:Y)<=l.2.2)->∀ L,L∈due↔L<2^m/\L.O 0=k9/\wT es ks L=(d:Y)))(_:(due.L<=b->∀(q:fc)(H':Hp),KF.SmT H H'->Tb KF.lqF KF.lpF TT H'->H' q=Z (.lst (due.Z iV))->Q (.ref q) H'))(_:(b<due.L->∀ H':Hp,KF.SmT H H'->Tb KF.lqF KF.lpF TT H'->dO (.ref TM) lf H'))
def bW:az ["web","most","paper","begun","best","longer","laying","signs"] ["web","most"] (aq dy):=by ac_nf
def ok_all{TT f1 f2 f3 f4 PL PS WC:fc}{d3 d4:ge}{tk:Tok}(F:FunD K "all_least" "all_least" dy f fd [eN.int 64 tk].toArray)(T:TxtA mg I)(ca:ExC K I)(cw:CW K WC)(bB:lw 13 "least" ["web"] (D3 TT PL PS WC) f1 G)(a2:lw 2 "tight_ties" ["web","paper"] (spTT PL PS WC) f2 J)(a8:lw 5 "all_moves" ["web","tight"] (JT PL PS WC) f3 d3)(a3:lw 1 "best_moves" ["rows"] JQ f4 d4):FnOk P w K mg base (CXd P w) 14 f fd ["web","most"] (Hk I TT PL PS WC):=by
 refine FunD.okD F bW (λvs H Q dO h=>?_) (λac A aa s H vs Q dO r h=>?_)
 .let p b m es ts rs ks ls due rfl _:=h;rfl
 let p b m es ts rs ks ls due rfl wl cyc b1 cc ne cd a9 a4 cq cs:=h;let hu:=pG r;let an:=r.units;let{S wf}rg tb:=id wl;let few:=rg.few;let al:=rg.m40;let O:=rg.o;let nd:due.h:=a9.imp λh e=>by rw[e]at h;exact Ob _ h
 intros;erw[_,(af (aA 2 bW.nd (bV (bB.c r (ae (pv 0) ai)) ak))
   (af (aA 3 bW.nd (bX (ae (bN (ae ak (ae ak ai))) ai)))
   (af (bh PassesOwn.leaving U (aM (a3.c r (ae (a8.c r (ae (pv 0) (ae (a2.c r (ae (pv 0) (ae (pv 2) ai))) ai))) ai))) (bq 4 bW.nd) (af (aA 5 bW.nd (bX ai))
   (af (bh PassesOwn.leaving U (aM (pv 3)) (iA U (aC (bq 6 bW.nd) (aC (bq 7 bW.nd) bx))) (ao (aW (eF Na Ry Rx xC (pv 5) (ae (cM [("laying",6)] ["own","then"] (aM (iW hu (pv 4) (pv 7) (λ_ _=>rfl))) (λC ex s H=>(dD (n:=2) (K:=K) U U (aC (aY (i:=0) (show(["own","then","laying"]:E fI).h from by decide) U (Or.inl U)) (aC (aY (i:=1) (show(["own","then","laying"]:E fI).h from by decide) U (Or.inl U)) bx)))) pt_c (λC ex s H=>(bN (ae (ay jB (pv 2) (pv 0)) (ae (pv 1) ai))))) ai)))))
   (af (bJ (aD Ck (aE aB (by rfl) T.n_len bE (ae (pv 5) ai)) (pv 1) (aJ _)) (ao (Er ca T.g_TooMany U KN U U (ae pe_str ai))) aN)
   (ao (aA 3 bW.nd (pv 5)))))))
   (ao (aG (aE ju (by rfl) T.n_sorted iE (ae (cM [] ["laying","signs"] (aM (pv 3)) (λC ex s H=>(dD (n:=2) (K:=K) U U (aC (aY (i:=0) (show(["laying","signs"]:E fI).h from by decide) U (Or.inl U)) (aC (aY (i:=1) (show(["laying","signs"]:E fI).h from by decide) U (Or.inl U)) bx)))) pt_c (λC ex s H=>(pv 0))) ai))))))),3]
 erw[9,p,m,es,ts,rs,ks,ls,U,wl,λt d v0 v1 v2 H1 ap aL bY bR ex lo=>?_];let hd:=a4 d ex lo;let pv q7 rfl cT a0:=id bR;erw[t,_,02,41,SqT.of bY,14];erw[(by show 2<=RO;decide),λt0 aI=>#[(by show 1<=RO;decide),λq0 bd=>?_]]
 let s2:=(aj aI (.tup [.int 0,.int 0])).P (aj bd (.lst [.ref t0]));let av:(upd (upd H1 t0 (.tup [.int 0,.int 0])) q0 (.lst [.ref t0])) q0=Z (.lst [.ref t0]):=ag;let aT:(upd (upd H1 t0 (.tup [.int 0,.int 0])) q0 (.lst [.ref t0])) t0=Z (.tup [.int 0,.int 0]):=(aj bd (.lst [.ref t0])) _ _ ag;generalize upd (upd H1 t0 (.tup [.int 0,.int 0])) q0 (.lst [.ref t0])=H2 at s2 av aT;let ct:=wf.s.smT (ap.P (.of s2));let cu:=wf.t.smT (ap.P (.of s2));erw[2457,p,.ref pv,m,es,ts,rs,ks,ls,d,U,ct,rg,bR.mono s2,λH3 s3=>?_];erw[p,m,_,es,ts,ks,U,cu.mono s3,O.kl,O.g.w,al,4,cyc,λq zs od ms H4 s4 a1 ce fw ch=>?_]
 let ad:=ce.rows (MK (tgD ls d) es.L);let{fl h0}pm:=rg.due ce lo hd ne nd;let gr:=vn ad h0;let bg:=ad.beg h0;let two:∀ k s,(mvL es ks ts od ms (MK (tgD ls d) es.L) k s).L<=2:=λk s=>Ka;let ci:(begL (mvL es ks ts od ms (MK (tgD ls d) es.L)) m m).L=due.L:=by
  let:=pm.length_eq;rw[MI]at this;exact this
 generalize mvL es ks ts od ms (MK (tgD ls d) es.L)=mv at ch fw h0 pm gr bg two ci;erw[q,zs,mv,m,U,a1,ch,al,fw,two,λqb bs H5 s5 bv cl=>?_];let a7:=(s3.P s4).P s5;let ar:=a7 _ _ av;let cv:=a7 _ _ aT;let be:=(ap.P (.of s2)).P (.of a7);let bi:=KF.tb_same aL (s2.P a7);let bl:bs.L=m:=by rw[cl.1,Nl]
 let cy:∀ k s,(bsR mv m k s).L<=2:=λk s=>by
  unfold bsR bstL;rw[MI];refine NH (Oa _ _) ?_;unfold wysL;exact NH (Qh _ _) (two k s)
 erw[qb,U,#[_,SqL.of bv],br (K:=K) (xs:=bs) (λi L H6=>∃(w4 w5 w6 w7:j5 V)(qg:fc)(gl:E V),L=[Z (.ref p),Z (.int (b:Y)),Z (.ref pv),Z (.ref qg),w4,w5,w6,w7]/\(Same H5 H6/\(H6 qg=Z (.lst gl)/\(LsAt PrT H6 gl (begL mv m i)/\(0<i->(begL mv m i).L<=b))))) #[85,q0,[.ref t0],U,(λ_ _ e=>e),ar,LsAt.nil.snoc #[t0,U,cv],λz=>Tn z (Ob 0)] (λi L H6 _ ah=>by let _ _ _ _ _ _ _ z _:=ah;exact SqL.of (z _ _ bv)) ?_ ?_]
 .rintro i x L H6 B ⟨w4,w5,w6,w7,qg,gl,rfl,s6,bG,bm,ib⟩;let eK:i<m:=by rw[← bl];exact(MF.mp B).1
  let cb:=bm.1;let gi:=gr (m-i) i ∅
  let cW:=gr (m-(i+1)) (i+1) ∅
  let i' e1 M:=cl.get B;rw[Og eK]at e1
  cases e1
  let d0 ab R0 rfl cz dc nR vR:=M;erw[(by show 0<=RO;decide),λql cm=>?_]
  let s7:=aj cm (.lst []);let b0:∀ e:R×R,(bsR mv m i e.2).Z (λw=>(e.1|||w.1,w.2))=(bstL (aO mv m (m-i)) (aO mv m (m-(i+1))) (mv i e.2) e.2).Z λw=>(e.1|||w.1,w.2):=λe=>rfl
  let cB:begL mv m (i+1)=(begL mv m i).flatMap λe=>(bsR mv m i e.2).Z λw=>(e.1|||w.1,w.2):=rfl
  erw[9,qg,U,#[_,SqL.of (s7 _ _ bG)],br (K:=K) (xs:=gl) (λj L H7=>∃(w6 w7:j5 V)(ll:E V),L=[Z (.ref p),Z (.int (b:Y)),Z (.ref pv),Z (.ref qg),Z (.ref d0),Z (.ref ql),w6,w7]/\(Same H6 H7/\(H7 ql=Z (.lst ll)/\(LsAt PrT H7 ll (((begL mv m i).x j).flatMap λe=>(bsR mv m i e.2).Z λw=>(e.1|||w.1,w.2))/\ll.L<=2*j)))) #[5,[],U,s7,ag,LsAt.nil,MN _] (λj L H7 _ ah=>by let _ _ _ _ z _:=ah;exact SqL.of (z _ _ bG)) ?_ ?_]
  .rintro j y L H7 hy ⟨w6,w7,ll,rfl,s8,bn,bH,lb⟩;let hj:=(MF.mp hy).1;let e he te rfl b6:=bm.get hy;let em:=MH he;let a c _ N _:=bg i (M4 eK) e em;let v hv qd ys rfl bf cn:=dc.get nR (vR e.2 c (GN i e em) N);let et:(begL mv m i).x (j+1)=(begL mv m i).x j++[e]:=by rw[M5,he];rfl
   let gD:DGet H7 d0 (.int (e.2:Y)) (Z (.ref qd)):=by rw[← hv];exact DGet.k (k:=.inl (e.2:Y)) (s8 _ _ (s6 _ _ cz))
   let bU:=s8 _ _ (s6 _ _ bf);let co:=jP cn λb xs e=>s8 _ _ (s6 _ _ e);let yl:=cn.1;let y2:=cy i e.2;erw[te,9,SqT.of (s8 _ _ b6),238998];erw[9,.inl #[6,SqL.of bn],153,d0,9,gD,qd,U,#[_,SqL.of bU],aZ (K:=K) (xs:=ys) (λk zs H8=>Same H7 H8/\LsAt PrT H8 zs (((bsR mv m i e.2).x k).Z λw=>(e.1|||w.1,w.2))) (M4 (ax ∅)) #[λ_ _ e=>e,LsAt.nil] (λk zs H8 _ z=>SqL.of (z.1 _ _ bU)) ?_ ?_ (λk zs H8 z=>by rw[z.2.1,MI,NQ];exact O0 _ _)]
   .rintro k z zs H8 hz ⟨s9,bQ⟩;let u bb b' rfl aS:=co.get hz;let et:(bsR mv m i e.2).x (k+1)=(bsR mv m i e.2).x k++[u]:=by rw[M5,bb];rfl
    erw[b',9,SqT.of (s9 _ _ aS),173462,yesT #[632217,(by show 2<=RO;decide),λt3 a5=>?_]]
    try dsimp only
    rw[orN];let sB:=aj a5 (.tup [.int ((e.1|||u.1:R):Y),.int (u.2:Y)])
    rw[et,M0];erw[s9.P sB,(jP bQ λb xs e=>sB _ _ e).snoc #[t3,U,ag]]
   rintro zs H8 ⟨s9,bQ⟩ D hD;rw[yl,M8]at bQ;let zl:=bQ.1;rw[MI]at zl;let sB:=aj hD (.lst zs);let cR:=sB _ _ (s9 _ _ bn);erw[ql,D,ll,zs,10,cR,ag,M4 (ax ∅),3]
   erw[5,ll++zs,U,aK ((s8.P s9).P sB) cm _,ag,3,by rw[MP];lia]
   rw[et,List.flatMap_append,Qj,List.flatMap_nil,NT];let up:∀ b xs,H8 b=Z (.tup xs)->(upd (upd H8 D (.lst zs)) ql (.lst (ll++zs))) b=Z (.tup xs):=λb xs e=>by
    rw[aw λz=>by rw[z,s9 _ _ bn]at e;cases e]
    exact sB _ _ e
   exact ls_app (jP bH λb xs e=>up _ _ (s9 _ _ e)) (jP bQ up)
  .rintro L H7 ⟨w6,w7,ll,rfl,s8,bn,bH,lb⟩;rw[cb,M8,← cB]at bH;let c5:=bH.1;erw[9,ql,9,.inl (SqL.of bn),39513,ite2 (λc=>?_) (λc=>?_)]
   .let c':=S8 c
    let b5:=be.P (.of (s6.P s8));let a6:=KF.tb_same bi (s6.P s8);erw[(by show 1<=RO;decide),cs ∅ _ b5 a6]
   .let c':¬ (b:Y)<(ll.L:Y):=λz=>c (Sx z)
    erw[1369,ql,ll,U,s6.P s8,bn,bH,λ_=>by lia]
 .rintro L H6 ⟨w4,w5,w6,w7,qg,gl,rfl,s6,bG,bm,ib⟩;rw[bl]at bm ib;let cb:=bm.1;let ib:=ib (by let:=O.m2;lia)
  erw[9,qg,U,#[_,SqL.of bG],aZ (K:=K) (xs:=gl) (λk zs H8=>H8=H6/\zs=(((begL mv m m).Z (·.1)).x k).Z iV) (M4 (ax ∅)) #[10] (λk zs H8 _ z=>by rw[z.1];exact SqL.of bG) ?_ ?_ (λk zs H8 z=>by rw[z.2,MI,NQ];exact O0 _ _)]
  .rintro k y zs H8 hy ⟨rfl,rfl⟩;let u bb b' rfl aS:=bm.get hy;erw[b',9,SqT.of aS,173462,yesT #[233]];rw[M5,MO,bb,M0];rfl
  rintro zs H8 ⟨rfl,rfl⟩ D hD;let em:∀ l:E R,(l.Z λx:R=>(x:Y)).Z V.int=l.Z iV:=λl=>by rw[NX];rfl
  rw[cb,show(begL mv m m).L=((begL mv m m).Z (·.1)).L from(MI _).X,M8];erw[D,((begL mv m m).Z (·.1)).Z λx:R=>(x:Y),U,SqL.of (by rw[em];exact ag),by rw[MI,MI];lia,λl am hl hp hs=>?_]
  let e:=kG (hp.P (pm.Z λx:R=>(x:Y))) hs (OC.mpr (a9.imp λh=>by lia))
  subst e;refine cq ∅ l _ (be.P (.of ((s6.P (aj hD _)).P (aj hl _)))) (KF.tb_same bi ((s6.P (aj hD _)).P (aj hl _))) ?_
  rw[ag,em]
def Rest(ks:Kn)(n t:R)(x:Y):Prop:=(∃ i,i<n/\i≠t/\stg ks i=x)/\∀ i,i<n->i≠t->x<=stg ks i
def rfV(ks:Kn)(t:R)(c:Y):E V:=if bp ks t=kt then[.int 0,.int c] else[.int c,.int 0]
def wyA(ks:Kn)(t:R)(c:Y):Y:=if bp ks t=kt then stg ks t else c
def wyB(ks:Kn)(t:R)(c:Y):Y:=if bp ks t=kt then c else stg ks t
inductive JG(TT PL PS WC:fc)
 |mk (p:fc)(t m:R)(es:En)(ts rs:oD)(ks:Kn)(ls:E KF.Lk) (_:vs=[.ref p,.int (t:Y)])(_:WebL TT PL PS WC H p m es ts rs ks ls)(_:t<es.L)(_:∀(r:fc)(c:Y)(H':Hp),KF.SmT H H'->Tb KF.lqF KF.lpF TT H'->Rest ks es.L t c->H' r=Z (.tup (rfV ks t c))->Q (.ref r) H')
inductive spPaid(s:Y)
 |mk (x:Y) (_:vs=[.int x])(_:Q (.int (if s*x > 0 then s*x else 0)) H)
structure TxtX(mg:fI->j5 eN):Prop extends TxtO mg where
 n_max:mg "max"=lf
theorem at30{x z:V}:atI [x,y,z] 0=Z x:=rfl
theorem at31{x z:V}:atI [x,y,z] 1=Z y:=rfl
def LY{ad:Hp->V->KF.Lk->Prop}(h:LsAt ad H xs ls)(t:R):LsAt ad H (xs.eraseIdx t) (ls.eraseIdx t):=by
 erw[by rw[List.length_eraseIdx,List.length_eraseIdx,h.1],λi x e=>?_]
 rw[List.getElem?_eraseIdx]at e ⊢;split at e
 .rename_i c;rw[Ti c];exact h.2 i x e
 .rename_i c;rw[Tj c];exact h.2 _ x e
theorem Hl{z:E V}(h:iy H z n rs)(s:KF.SmT H H'):iy H' z n rs:=#[h.1,λi J=>by
 let t a b r m u M o:=h.2 i J
 erw[t,a,b,r,m,u,s.tup M,o]]
theorem Eb(s:KF.SmT H H')(h:cC H xs ts):cC H' xs ts:=#[h.1,λi l e=>by
 let p a b:=h.2 i l e
 erw[p,a,s.lst b]]
def WebF.smT{S:fc->Prop}{PS:fc}{ks:Kn}(h:WebF S f PS I H p m es ts rs ks)(s:KF.SmT H H'):WebF S f PS I H' p m es ts rs ks:=by
 obtain⟨B,fs,dO,D,a,⟨L,⟨q,z,b1,b0,b2,b3⟩,⟨G,eK,c1,c2,c3⟩,⟨o,Q,T,J,O⟩,pt⟩,n,c,d,e⟩:=h;let si:∀{b C d:fc}{fs:E (fI×V)},H b=Z (.ins C d fs)->H' b=Z (.ins C d fs):=λz=>s _ _ (λN y=>by cases y) z
 erw[B,fs,dO,D,si a,#[L,#[q,z,b1,b0,s.lst b2,b3.1,λj l y=>?_],#[G,eK,c1,s.lst c2,Eb s c3],#[o,Q,T,s.lst J,Hl O s],pt],n,c,s.lst d,e.1,λi x k q r=>?_]
 .let r u M A:=b3.2 j l y;erw[r,u,M,s.lst A]
 .let g v t w:=e.2 i x k q r;erw[g,v,t,si w]
def setV(a b:Y):E V:=if a<b then[.int 0,.int (b-a)] else if b<a then[.int 1,.int (a-b)] else[.non,.int 0]
inductive mO(C:fc)(push:ke)
 |mk (p a b s:_) (_:vs=[.ref p])(_:MD H p C a b s)(_:Q (.int (if push=kt then -s else s)) H)
inductive JS(TT PL PS WC:fc)
 |mk (p:fc)(t m:R)(es:En)(ts rs:oD)(ks:Kn)(ls:E KF.Lk) (_:vs=[.ref p,.int (t:Y)])(_:WebL TT PL PS WC H p m es ts rs ks ls)(_:t<es.L)(_:∀(r:fc)(c:Y)(H':Hp),KF.SmT H H'->Tb KF.lqF KF.lpF TT H'->Rest ks es.L t c->H' r=Z (.tup [.int (wyA ks t c),.int (wyB ks t c)])->Q (.ref r) H')
def tj(g:Y->Y->E V)(H:Hp)(zs:E V)(ks:Kn)(n k:R):Prop:=zs.L=k/\∀ t,t<k->∃ r c,zs[t]?=Z (.ref r)/\Rest ks n t c/\H r=Z (.tup (g (wyA ks t c) (wyB ks t c)))
theorem tj.smT{g:Y->Y->E V}{ks:Kn}{k:R}(h:tj g H zs ks n k)(s:KF.SmT H H'):tj g H' zs ks n k:=#[h.1,λt i=>by
 let r c a b e:=h.2 t i
 erw[r,c,a,b,s.tup e]]
theorem tj.snoc{g:Y->Y->E V}{ks:Kn}(h:tj g H zs ks n i){r:fc}{c:Y}(eK:Rest ks n i c)(h2:H r=Z (.tup (g (wyA ks i c) (wyB ks i c)))):tj g H (zs++[.ref r]) ks n (i+1):=#[by rw[MP,h.1];rfl,λt j=>by
 by_cases z:t=i
 .subst z;erw[r,c,by rw[← h.1,MR (MN _),Nz];rfl,eK,h2]
 .let m v u M o:=h.2 t ∅
  erw[m,v,by rw[MT (by rw[h.1];lia)];exact u,M,o]]
def twV(a b:Y):E V:=[.int a,.int b]
inductive D8(g:Y->Y->E V)(TT PL PS WC:fc)
 |mk (p:fc)(m:R)(es:En)(ts rs:oD)(ks:Kn)(ls:E KF.Lk) (_:vs=[.ref p])(_:WebL TT PL PS WC H p m es ts rs ks ls)(_:∀(q:fc)(zs:E V)(H':Hp),KF.SmT H H'->Tb KF.lqF KF.lpF TT H'->H' q=Z (.lst zs)->tj g H' zs ks es.L es.L->Q (.ref q) H')
inductive wO
 |mk (r:fc)(a b:Y) (_:vs=[.ref r])(_:H r=Z (.tup [.int a,.int b]))(_:∀ t,H t=lf->Q (.ref t) (upd H t (.tup (setV a b))))
theorem WebL.smT{TT j PS T:fc}{H H':Hp}{p m:R}{es:En}{ts rs:oD}{ks:Kn}{ls:E KF.Lk}(h:WebL TT j PS T H p m es ts rs ks ls)(s:KF.SmT H H')(tb:Tb KF.lqF KF.lpF TT H'):WebL TT j PS T H' p m es ts rs ks ls:=#[h.wf.elim λS w=>#[S,w.smT s],h.rg,tb]
def uu:az ["self"] ["self"] (aq cQ):=by ac_nf
def xr{d:ke}(F:Fun K "signed" "Tie.signed" cQ f fd)(T:CT K C)(c:Met P w K mg base 1 C "wish" ["self"] (jx d) q G):li 2 f fd ["self"] (mO C d):=by
 refine F.ok uu λL A eK s H o Q dO u h=>?_
 let p a b st rfl{B m}k:=h;let g:=T.cl;intro J y;erw[_,(ao (aG (fk (aD cH (dU (pv 0) g c.me c.ok (u.mono ∅) c.bn .nil iX) ak (aJ _)) (aQ (pv 0) U) (Ls DB (aQ (pv 0) U))))),3]
 erw[9,p,B,9,m,qy _ _ _ ∅ ∅ ∅,p,922]
 cases d with
 |false=>exact iteT #[9,p,C,B,37,m,T.cl,T.n3,Bb _ _ _,k]
 |true=>exact iteF #[9,p,C,B,37,m,T.cl,T.n3,Bb _ _ _,9,k]
def ur:az ["pull"] ["pull"] (aq jJ):=by ac_nf
def ok_pa(F:Fun K "paid_alike" "paid_alike" jJ f fd)(T:TxtX mg):li 1 f fd ["pull"] (spPaid (-1)):=by
 refine F.ok ur λL A eK s H m Q dO u h=>?_
 let x rfl N:=h;intro J y;erw[_,(ao (aG (aE (yz U) (by rfl) T.n_max Ks (ae ak (ae (Ls DB (pv 0)) ai))))),3]
 erw[58777];rw[show(-1:Y)*x = -x by lia]at N
 exact N
def sf:az ["pull"] ["pull"] (aq iO):=by ac_nf
def ok_pu(F:Fun K "paid_unlike" "paid_unlike" iO f fd)(T:TxtX mg):li 1 f fd ["pull"] (spPaid 1):=by
 refine F.ok sf λL A eK s H m Q dO u h=>?_
 let x rfl N:=h;intro J y;erw[_,(ao (aG (aE (yz U) (by rfl) T.n_max Ks (ae ak (ae (pv 0) ai))))),3]
 erw[3673];rw[Int.one_mul]at N;exact N
def lJ:az ["web","number","marks","many","links","link","pleased","displeased"] ["web","number"] (aq Ek):=by ac_nf
def LB{TT f2 f3 g0 g1 PL PS WC:fc}{d3 e0 e1:ge}(F:Fun K "roof" "roof" Ek f fd)(T:TxtO mg)(cw:CW K WC)(TL:CT K PL)(TS:CT K PS)(av:lw 4 "marks_of" ["web"] (yW PL PS WC) I G)(am:lw 1 "links_of" ["web"] (ud PL PS WC) f2 J)(aI:lw 11 "paired" ["many","links","marks"] (KF.spPaired TT) f3 d3)(u0:Met P w K mg base 1 PL "wish" ["self"] (jx k9) g0 e0)(u1:Met P w K mg base 1 PS "wish" ["self"] (jx kt) g1 e1):li 12 f fd ["web","number"] (JG TT PL PS WC):=by
 refine F.ok lJ λaa A n s H vs Q dO u h=>?_
 let p t m L ts rs ks ls rfl wl ht kk:=h;let{S wf}rg tb:=wl;let O:=rg.o;let kl:=O.kl;let a7:=rg.kin;let few:=rg.few;let r2:=rg.r2;let ln:=O.d.ln;let e2:=rg.e2;let a1:=TL.cl;let a2:=TS.cl;let dx fs q1 xs hp wg _ l2 ac tk:=id wf;let q5 z5 l5 ap r5:=wg.rounds;let q6 z6 l6 aL r6:=wg.sides;let ro:=wg.part;let a3:∀ r∈rs,r.L<=900:=λr u=>by
  let:=eJ (ro.ring r u).nd (ro.ring r u).lt;lia
 let bf:z5.L=2:=r5.1.P r2
 intros;erw[_,(af (aA 2 lJ.nd (av.c u (ae (pv 0) ai)))
   (af (aA 3 lJ.nd (aE aB (by rfl) T.n_len bE (ae (aQ (pv 0) U) ai)))
   (af (aA 4 lJ.nd (am.c u (ae (pv 0) ai)))
   (af (aA 5 lJ.nd (eF Na PySem.F.slot_list_pop PySem.F.type_list_pop Iu (pv 4) (ae (pv 1) ai)))
   (af (aA 6 lJ.nd (bV (aI.c u (ae (pv 3) (ae (pv 4) (ae (pv 2) ai)))) ak))
   (af (aA 7 lJ.nd (bV (aI.c u (ae (pv 3) (ae (pv 4) (ae (ay eX (ay eX (pv 2) (ay bA ak (bV (pv 5) ak))) (ay bA ak (bV (pv 5) ak))) ai)))) ak))
   (ao (aG (fk (aD cH (Cj (dU (xj oG (aQ (pv 0) U) (pv 1) (λ_ _=>rfl)) a1 u0.me u0.ok (u.mono ∅) u0.bn .nil iX) (dU (xj oG (aQ (pv 0) U) (pv 1) (λ_ _=>rfl)) a2 u1.me u1.ok (u.mono ∅) u1.bn .nil iX)) ak (aJ _)) (bN (ae (pv 6) (ae (pv 7) ai))) (bN (ae (pv 7) (ae (pv 6) ai)))))))))))),3]
 erw[9,p,L,ks,rs,U,wf.r,kl,20,a3,λH1 s1=>?_]
 erw[9,p,WC,dx,fs,9,s1 _ _ hp,cw.cl,cw.n4,l5,q5,z5,U,.inl (SqL.of (s1 _ _ ap)),3];rw[bf];erw[9,p,L,ks,rs,U,#[dx,fs,q1,xs,q6,z6,s1 _ _ hp,l2,s1 _ _ ac,tk.mono s1,l6,s1 _ _ aL,r6.mono s1],kl,4,λq zs M s2 nq hq lk=>?_]
 let a4:=O.d.lnk (λi l hl=>by
  let k eK N _:=O.ws i l hl
  erw[k,eK,N]) lk
 let l hl:∃ l,ls[t]?=Z l:=#[_,MG ∅]
 let y hy tt rfl bi:=a4.2 t l hl;let zl:zs.L=L.L:=by rw[a4.1,ln]
 let bU:l.1<2/\l.2.1<2:=r2▸O.d.rooms l (MH hl);let qt:tt≠q:=λz=>by rw[z,hq]at bi;cases bi
 erw[9,.inl #[6,SqL.of hq],9,q,zs,_,t,41,hq,20,(Ac (iu (show t<zs.L by lia))).1,hy,3]
 let an:(upd M q (.lst (zs.eraseIdx t))) q=Z (.lst (zs.eraseIdx t)):=ag;let s3:Same H1 (upd M q (.lst (zs.eraseIdx t))):=aK s2 nq _;let bm:KF.LnAt (upd M q (.lst (zs.eraseIdx t))) (.ref q) (ls.eraseIdx t):=#[q,9,an,(LY a4 t).imp λv x ⟨a,b,c⟩=>#[a,b,by rw[aw (λz=>by rw[z,hq]at c;cases c)];exact c]]
 let bv:(upd M q (.lst (zs.eraseIdx t))) tt=Z (.tup [.int (l.1:Y),.int (l.2.1:Y),.int l.2.2]):=by rw[aw qt];exact bi
 generalize upd M q (.lst (zs.eraseIdx t))=H3 at an s3 bm bv;let al:=s1.P s3;let ar:=KF.tb_same tb al;let a6:=O.lok1 ∅
 rw[r2]at a6;let sub:∀ x∈ls.eraseIdx t,x∈ls:=λx B=>List.mem_of_mem_eraseIdx B;let el:(ls.eraseIdx t).L=ls.L-1:=P5 ∅
 let a5:KF.Lok 2 (ls.eraseIdx t):=#[a6.n1,by let:=a6.l9;lia,λx B=>a6.sm x (sub x B),λx B=>a6.w0 x (sub x B)]
 let tw:∀ x∈ls.eraseIdx t,x.1≠x.2.1:=λx B=>rg.tw x (sub x B);let cr:=KF.Crs.of a5 tw;rw[rg.od];erw[2457,.ref q,03,ls.eraseIdx t,U,bm,a5,cr,4,.inr U,ar,λr4 c4 u4 H4 aT aS a0 bg=>?_]
 let L0:Rest ks L.L t c4:=by
  obtain⟨_,⟨⟨x,B,e⟩,lo⟩,_⟩:=bg.resolve_left λz=>by cases z.1
  let i g bd:=QU.mp B;let il:=(MF.mp bd).1;erw[#[i,4,g,3],λi g ab=>?_]
  .rw[← O.st ∅,KF.lkA_is bd];exact e
  .let bd:=MG (show i<ls.L by lia)
   rw[← O.st g,KF.lkA_is bd];exact lo _ (QU.mpr #[i,ab,bd])
 erw[r4,_,00,41,SqT.of a0,at0,3];let ex:Sh (Sh ((3:R):Y) (1*2^((l.1:R):Y).R)) (1*2^((l.2.1:R):Y).R)=((0:R):Y):=by
  let:=rg.tw l (MH hl);rcases(show(l.1=0/\l.2.1=1)∨(l.1=1/\l.2.1=0) by lia) with⟨x,y⟩|⟨x,y⟩<;>rw[x,y]<;>rfl
 let bB:=aT.tup bv;erw[39321,tt,_,00,41,SqT.of bB,at30,165,#[20,by decide],2469,tt,_,01,41,SqT.of bB,at31,165,#[20,by decide],933]
 try dsimp only
 rw[ex];erw[.ref q,00,ls.eraseIdx t,U,bm.smT aT,a5,cr,4,.inl U,aS,λr5 c5 u5 H5 a9 bb bQ bR=>?_]
 let L1:c5=0:=(bR.resolve_right λz=>by cases z.1).2
 subst L1;erw[r5,_,00,41,SqT.of bQ,at0,3];let be:=aT.P a9;let ins:∀{b C d:fc}{fs:E (fI×V)},H b=Z (.ins C d fs)->H5 b=Z (.ins C d fs):=λz=>be _ _ (λps y=>by cases y) (al _ _ z)
 let bG:=be.lst (al _ _ ac);let e j:∃ e,L[t]?=Z e:=#[_,MG ht];let k D:∃ k,ks[t]?=Z k:=#[_,MG ∅]
 let p' ah x1 x2:=tk.2 t e k j D;let x5:=ins x2;let pu:=oz D;let a8:KF.SmT H H5:=(KF.SmT.of al).P be;by_cases c:k.1=1
 case' pos=>rw[Sx c]at pu x5;refine .inr ?_
 case' neg=>rw[RN c]at pu x5;refine .inl ?_
 all_goals
  erw[9,p,WC,dx,fs,9,ins hp,cw.cl,cw.n2,l2,9,q1,xs,165,SqL.of bG,aF x1,p',ah,9,x5,qy _ _ _ ∅ ∅ ∅,p',922]
  first|refine iteF ?_|refine iteT ?_
  erw[153,(by show 2<=RO;decide),λr6 bH=>?_]
  exact kk r6 c4 _ (a8.P (.of (aj bH _))) (KF.tb_same bb (aj bH _)) L0 (by rw[ag];unfold rfV;rw[pu];rfl)
def fJ:az ["web","number","pair","pull"] ["web","number"] (aq ic):=by ac_nf
def LN{TT g0 g1 PL PS T:fc}{d3 e0 e1:ge}(F:Fun K "both_ways_of" "both_ways_of" ic f fd)(cw:CW K T)(TL:CT K PL)(TS:CT K PS)(aI:lw 12 "roof" ["web","number"] (JG TT PL PS T) C G)(av:lw 1 "paid_alike" ["pull"] (spPaid (-1)) q J)(an:lw 1 "paid_unlike" ["pull"] (spPaid 1) I d3)(u0:Met P w K mg base 2 PL "signed" ["self"] (mO PL k9) g0 e0)(u1:Met P w K mg base 2 PS "signed" ["self"] (mO PS kt) g1 e1):li 13 f fd ["web","number"] (JS TT PL PS T):=by
 refine F.ok fJ λL A eK s H M Q dO u h=>?_
 let p t m O n rs v ls rfl wl i d:=h;let{S wf}rg tb:=id wl;let kl:=rg.o.kl;let ap:=TL.cl;let ar:=TS.cl
 intros;erw[_,(af (aA 2 fJ.nd (aI.c u (ae (pv 0) (ae (pv 1) ai))))
   (af (aA 3 fJ.nd (Cj (dU (xj oG (aQ (pv 0) U) (pv 1) (λ_ _=>rfl)) ap u0.me u0.ok (u.mono ∅) u0.bn .nil iX) (dU (xj oG (aQ (pv 0) U) (pv 1) (λ_ _=>rfl)) ar u1.me u1.ok (u.mono ∅) u1.bn .nil iX)))
   (ao (aG (bN (ae (ay cg (bV (pv 2) ak) (av.c u (ae (pv 3) ai))) (ae (ay cg (bV (pv 2) ak) (an.c u (ae (pv 3) ai))) ai))))))),3]
 erw[153,p,t,m,O,n,rs,v,ls,U,wl,i,λr c0 j al am L0 ah=>?_];let B fs y x l wg _ l2 aa tk:=id (wf.smT al);let e N:∃ e,O[t]?=Z e:=#[_,MG i];let k D:∃ k,v[t]?=Z k:=#[_,MG ∅]
 let p' ac x1 x2:=tk.2 t e k N D;let pu:bp v t=decide (k.1=1):=oz D;let sk:stg v t=k.2:=DQ D;let aL:0<=k.2:=by rw[← sk];exact rg.nn t
 unfold rfV at ah;let z:∀ a b a' b':Y,a=a'->b=b'->Z (HO.tup [V.int a,V.int b])=Z (HO.tup [V.int a',V.int b']):=λ_ _ _ _ h g=>by rw[h,g]
 by_cases c:k.1=1
 case' pos=>rw[Sx c]at pu x2;refine .inr ?_
 case' neg=>rw[RN c]at pu x2;refine .inl ?_
 all_goals
  simp only[pu,if_true,N8,if_false]at ah
  erw[9,p,T,B,fs,9,l,cw.cl,cw.n2,l2,9,y,x,165,SqL.of aa,aF x1,p',ac,9,x2,qy _ _ _ ∅ ∅ ∅,p',5,k.2,U,#[ac,x2],3]
  erw[9,r,_,00,41,SqT.of ah,at0,632217,r,_,01,41,SqT.of ah,at1,42393,(by show 2<=RO;decide),λr' ab=>?_]
  refine d r' c0 _ (al.P (.of (aj ab _))) (KF.tb_same am (aj ab _)) L0 ?_
  rw[ag]
  unfold wyA wyB
  rw[pu,sk]
  refine z _ _ _ _ ?_ ?_<;>simp only[if_true,N8,if_false]<;>split<;>lia
def xb:az ["web"] ["web"] (aq lU):=by ac_nf
def ok_bw{TT PS:fc}(F:Fun K "both_ways" "both_ways" lU f fd)(T:Txt mg)(cw:CW K I)(ah:lw 13 "both_ways_of" ["web","number"] (JS TT q PS I) a G):li 14 f fd ["web"] (D8 twV TT q PS I):=by
 refine F.ok xb λL A g s H o Q dO u h=>?_
 let p m O e rs v ls rfl wl N:=h;let{S wf}rg tb:=id wl;let few:=rg.few;let B fs j x l wg _ l2 aa k:=id wf;let xl:x.L=O.L:=k.1;intros;erw[_,(ao (aG (cM [("web",0)] ["number"] (aP U T.n_range (ae (aE aB (by rfl) T.n_len bE (ae (aQ (pv 0) U) ai)) ai)) pg_c pt_c (λC M s H=>(ah.c u (ae (pv 1) (ae (pv 0) ai))))))),3]
 erw[9,p,I,B,fs,9,l,cw.cl,cw.n2,l2,j,x,U,.inl (SqL.of aa),329,cA (n:=(x.L:Y).R) (λi y d=>KF.SmT H d/\Tb KF.lqF KF.lpF TT d/\tj twV d y v O.L i) (by rw[MU];exact M4 (ax ∅)) #[KF.SmT.of (λ_ _ z=>z),tb,U,λt z=>Tn z (NM _)] ?_ ?_]
 .rintro i y d J ⟨am,al,wa⟩;rw[MU,xl]at J;rw[N1];erw[153,p,i,m,O,e,rs,v,ls,U,wl.smT am al,J,λr c b ac ab eK an=>#[am.P ac,ab,(wa.smT ac).snoc eK an]]
 rintro y d _ ⟨am,al,wa⟩ D hD;rw[MU,xl]at wa;let sD:=aj hD (.lst y);exact N D y _ (am.P (.of sD)) (KF.tb_same al sD) ag (wa.smT (.of sD))
def Ce:az ["pair"] ["pair"] (aq qF):=by ac_nf
def Cm(F:Fun K "setting" "setting" qF f fd):li 1 f fd ["pair"] wO:=by
 refine F.ok Ce λL A eK s H m Q dO u h=>?_
 let r a b rfl d N:=h
 intro J y;erw[_,(af (bJ (aD uO (bV (pv 0) ak) (bV (pv 0) ak) (aJ _)) (ao (aG (bN (ae ak (ae (ay gF (bV (pv 0) ak) (bV (pv 0) ak)) ai))))) aN)
   (af (bJ (aD uO (bV (pv 0) ak) (bV (pv 0) ak) (aJ _)) (ao (aG (bN (ae ak (ae (ay gF (bV (pv 0) ak) (bV (pv 0) ak)) ai))))) aN)
   (ao (aG (bN (ae fZ (ae ak ai))))))),3]
 erw[9,r,_,00,41,SqT.of d,at0,9,r,_,01,41,SqT.of d,at1,2469,ite2 (λc=>?_) (λc=>?_)]
 .let v:a<b:=S8 c
  let e:setV a b=[.int 0,.int (b-a)]:=Ti v;rw[e]at N;erw[9,r,_,01,41,SqT.of d,at1,9,r,_,00,41,SqT.of d,at0,165,(by show 2<=RO;decide),N]
 .let v:¬ a<b:=λz=>c (Sx z)
  erw[9,r,_,01,41,SqT.of d,at1,9,r,_,00,41,SqT.of d,at0,2469,ite2 (λc2=>?_) (λc2=>?_)]
  .let g:b<a:=S8 c2
   let e:setV a b=[.int 1,.int (a-b)]:=by unfold setV;rw[Tj v,Ti g]
   rw[e]at N;erw[9,r,_,00,41,SqT.of d,at0,9,r,_,01,41,SqT.of d,at1,165,(by show 2<=RO;decide),N]
  .let g:¬ b<a:=λz=>c2 (Sx z)
   let e:setV a b=[.non,.int 0]:=by unfold setV;rw[Tj v,Tj g]
   rw[e]at N;erw[(by show 2<=RO;decide),N]
def ze:az ["web"] ["web"] (aq oh):=by ac_nf
def Lz{TT PL PS WC:fc}(F:Fun K "set_ties" "set_ties" oh f fd)(ab:lw 14 "both_ways" ["web"] (D8 twV TT PL PS WC) a G)(ah:lw 1 "setting" ["pair"] wO I J):li 15 f fd ["web"] (D8 setV TT PL PS WC):=by
 refine F.ok ze λL A eK s H o Q dO u h=>?_
 let p m O ts rs e ls rfl wl l:=h;let few:=wl.rg.few;intros;erw[_,(ao (aG (cM [] ["pair"] (aM (ab.c u (ae (pv 0) ai))) pg_c pt_c (λC M s H=>(ah.c u (ae (pv 0) ai)))))),3];erw[9,p,m,O,ts,rs,e,ls,U,wl,λq T j aa ac n wa=>?_];let zl:=wa.1;erw[q,U,#[_,SqL.of n],cX (K:=K) (xs:=T) (λi k d=>Same j d/\tj setV d k e O.L i) (M4 (ax ∅)) #[λ_ _ z=>z,U,λt z=>Tn z (NM _)] (λi k d _ z=>SqL.of (z.1 _ _ n)) ?_ ?_]
 .rintro i x k d B ⟨b,sa⟩;let N:i<O.L:=by rw[← zl];exact(MF.mp B).1
  let r c v y a3:=wa.2 i N;rw[B]at v
  cases v
  erw[9,r,37,b _ _ a3,λt g=>?_];let sn:=aj g (.tup (setV (wyA e i c) (wyB e i c)));erw[b.P sn,(sa.smT (.of sn)).snoc y ag]
 rintro k d _ ⟨b,sa⟩ D hD;rw[zl]at sa;let sD:=aj hD (.lst k);exact l D k _ (aa.P (.of (b.P sD))) (KF.tb_same ac (b.P sD)) ag (sa.smT (.of sD))
structure RgD(m:R)(es:En)(ts:oD)(P Nm:R->R):Prop where
 m2:2<=m
 pl:∀ i,P i<m
 pp:∀ i j,P i=P j↔i%m=j%m
 ps:∀{x},x<m->∃ i,i<m/\x=P i
 nl:∀ i,Nm i<m
 np:∀ i j,Nm i=Nm j↔i%m=j%m
 ns:∀{t},t<m->∃ i,i<m/\t=Nm i
 el:es.L=m
 en:∀ i,∃ e,es[Nm i]?=Z e/\(e=(P i,P (i+1))∨e=(P (i+1),P i))
 tl:ts.L=m
 tr:∀ i,∃ l,ts[P (i+1)]?=Z l/\(l=[Nm i,Nm (i+1)]∨l=[Nm (i+1),Nm i])
def JU{f g:R->R}(b:0<n)(h:∀ i,i+1<n->f (g i)=g (i+1))(h':f (g (n-1))=g 0)(lt:∀ i,i<n->g i<N)(inj:∀ i j,i<n->j<n->g i=g j->i=j):CR f N ((Nf n).Z g):=by
 let B:∀ k a,a+k+1=n->pK f (g a) ((List.range' (a+1) k).Z g) (g 0):=λk=>by
  induction k with
  |zero=>
   intro a O;let:a=n-1:=by lia
   subst this;exact h'
  |succ k C=>
   intro a O;rw[QY];erw[h a ∅,C (a+1) ∅]
 erw[#[g 0,(List.range' 1 (n-1)).Z g,3,B (n-1) 0 ∅],λd hd=>?_,3]
 .let k rfl:∃ k,n=k+1:=#[n-1,4]
  rw[Qz,QY];rfl
 .let i J rfl:=Nc.mp hd;exact lt i (Nk.mp J)
 .exact OC.mpr (List.nodup_range.imp_of_mem λO M ne e=>ne (inj _ _ (Nk.mp O) (Nk.mp M) e))
section
variable{m:R}{es:En}{ts rs:E (E R)}{P Nm:R->R}
def E6(h:i%m=j%m):(i+1)%m=(j+1)%m:=by rw[OY,h,← OY]
theorem RgD.psuc(ad:RgD m es ts P Nm)(i:R):P i≠P (i+1):=λe=>by
 let v:=ad.m2;let eK:=Pa ((ad.pp _ _).mp e).X;rw[show i+1-i=1 by lia,Nv ∅]at eK
 cases eK
theorem RgD.nsuc(ad:RgD m es ts P Nm)(i:R):Nm i≠Nm (i+1):=λe=>ad.psuc i ((ad.pp _ _).mpr ((ad.np _ _).mp e))
def RgD.pre(ad:RgD m es ts P Nm)(h:(i+1)%m=(j+1)%m):i%m=j%m:=by
 let G:(i+1+(m-1))%m=(j+1+(m-1))%m:=by rw[OY,h,← OY]
 let:=ad.m2;rw[show i+1+(m-1)=i+m by lia,show j+1+(m-1)=j+m by lia,OR,OR]at G
 exact G
def RgD.inj(ad:RgD m es ts P Nm)(hi:i<m)(L:j<m)(e:i%m=j%m):i=j:=by rw[Nv hi,Nv L]at e;exact e
def fdD(es:En)(P Nm:R->R)(i:R):R:=leave es (Nm i) (P i)
def bdD(es:En)(P Nm:R->R)(i:R):R:=leave es (Nm i) (P (i+1))
def RgD.dart(ad:RgD m es ts P Nm)(i:R):fdD es P Nm i/2=Nm i/\bdD es P Nm i/2=Nm i/\fdD es P Nm i≠bdD es P Nm i/\hd es (fdD es P Nm i)=P (i+1)/\hd es (bdD es P Nm i)=P i/\fdD es P Nm i<2*m/\bdD es P Nm i<2*m:=by
 let e N q:=ad.en i;let ne:=ad.psuc i;let B:=ad.nl i;let n:2*Nm i/2=Nm i:=by lia
 let T:(2*Nm i+1)/2=Nm i:=by lia
 let eK:2*Nm i%2=0:=by lia
 let J:¬ (2*Nm i+1)%2=0:=by lia
 unfold fdD bdD leave;rw[N];dsimp only;obtain rfl|rfl:=q
 .rw[Ti U,Tj ne];erw[n,T,1344]
  .unfold hd;rw[n,N];exact Ti eK
  .unfold hd;rw[T,N];exact Tj J
 .rw[Ti U,Tj (λz=>ne z.X)];erw[T,n,1344]
  .unfold hd;rw[T,N];exact Tj J
  .unfold hd;rw[n,N];exact Ti eK
def RgD.both(ad:RgD m es ts P Nm)(i d:R)(h:d/2=Nm i):d=fdD es P Nm i∨d=bdD es P Nm i:=by
 let eK O G _:=ad.dart i;lia
def EY{a b:R}(ne:a≠b):nxt [a,b] a=b/\nxt [a,b] b=a:=by
 unfold nxt;let f : [a,b].idxOf a=0:=List.idxOf_cons_self;let A : [a,b].idxOf b=1:=by rw[List.idxOf_cons,beq_eq_false_iff_ne.mpr ne,List.idxOf_cons_self];rfl
 rw[f,A];erw[by simp,by simp]
def RgD.fol(ad:RgD m es ts P Nm)(i:R):fol es ts (fdD es P Nm i)=fdD es P Nm (i+1)/\fol es ts (bdD es P Nm (i+1))=bdD es P Nm i:=by
 let eK _ _ dO _:=ad.dart i;let _ v _ _ G _:=ad.dart (i+1);let l M n:=ad.tr i;let ne:=ad.nsuc i;let B:nxt l (Nm i)=Nm (i+1)/\nxt l (Nm (i+1))=Nm i:=by
  obtain rfl|rfl:=n
  .exact EY ne
  .exact(EY (λz=>ne z.X)).X
 unfold K8.fol;rw[dO,eK,G,v,M];show leave es (nxt l (Nm i)) _=_/\leave es (nxt l (Nm (i+1))) _=_;rw[B.1,B.2];erw[10]
def RgD.fcr(ad:RgD m es ts P Nm):CR (K8.fol es ts) (2*es.L) ((Nf m).Z (fdD es P Nm)):=by
 let v:=ad.m2;rw[ad.el];refine JU ∅ (λi _=>(ad.fol i).1) ?_ (λi _=>(ad.dart i).2.2.2.2.2.1) λi j J L e=>ad.inj J L ((ad.np _ _).mp (by rw[← (ad.dart i).1,← (ad.dart j).1,e]))
 rw[(ad.fol (m-1)).1];let o:(m-1+1)%m=0%m:=by rw[show m-1+1=m by lia,O2,P8]
 unfold fdD;rw[(ad.np _ _).mpr o,(ad.pp _ _).mpr o]
def RgD.bcr(ad:RgD m es ts P Nm):CR (K8.fol es ts) (2*es.L) ((Nf m).Z λi=>bdD es P Nm (m-1-i)):=by
 let v:=ad.m2;rw[ad.el];refine JU (g:=λi=>bdD es P Nm (m-1-i)) ∅ (λi J=>?_) ?_ (λi _=>(ad.dart _).2.2.2.2.2.2) λi j J L e=>?_
 .let:=(ad.fol (m-1-(i+1))).2
  rw[show m-1-(i+1)+1=m-1-i by lia]at this
  exact this
 .let:=(ad.fol (m-1)).2
  let o:(m-1+1)%m=(m-1-(m-1))%m:=by rw[show m-1+1=m by lia,O2,Nz,P8]
  let f:=E6 o;rw[show bdD es P Nm (m-1+1)=bdD es P Nm (m-1-(m-1)) by unfold bdD;rw[(ad.np _ _).mpr o,(ad.pp _ _).mpr f]]at this
  exact this
 .let:=(ad.np _ _).mp ((ad.dart (m-1-i)).2.1.X.P ((congrArg (·/2) e).P (ad.dart (m-1-j)).2.1))
  let:=ad.inj ∅ ∅ this
  lia
theorem RgD.apart(ad:RgD m es ts P Nm)(i j:R):fdD es P Nm i≠bdD es P Nm j:=λe=>by
 let h:=(ad.np _ _).mp ((ad.dart i).1.X.P ((congrArg (·/2) e).P (ad.dart j).2.1));refine(ad.dart i).2.2.1 (e.P ?_);unfold bdD;rw[(ad.np _ _).mpr h,(ad.pp _ _).mpr (E6 h)]
theorem RgD.part(ad:RgD m es ts P Nm):Part (K8.fol es ts) (2*es.L) [(Nf m).Z (fdD es P Nm),(Nf m).Z λi=>bdD es P Nm (m-1-i)] where
 cr:=λr u=>by
  obtain z|z:=MY.mp u
  .rw[z];exact ad.fcr
  .rw[MQ.mp z];exact ad.bcr
 nd:=by
  show(_++(_++[])).h;rw[NT];refine NP.mpr #[ad.fcr.nd,ad.bcr.nd,λa O b M=>?_];let i _ rfl:=Nc.mp O;let j _ rfl:=Nc.mp M;exact ad.apart i _
 all:=λd hd=>by
  rw[ad.el]at hd;let i J e:=ad.ns (show d/2<m by lia)
  show d∈_++(_++[]);rw[NT,Ng];obtain z|z:=ad.both i d e
  .exact .inl (Nc.mpr #[i,Nk.mpr J,z.X])
  .exact .inr (Nc.mpr #[m-1-i,Nk.mpr ∅,by rw[z,show m-1-(m-1-i)=i by lia]])
def xrP(S:R->ke)(Nm:R->R):R->ke
 |0=>k9
 |i+1=>xrP S Nm i ^^ S (Nm i)
theorem RgD.par(ad:RgD m es ts P Nm)(S:R->ke):∀ n,K8.par S ((Nf n).Z (fdD es P Nm))=xrP S Nm n
 |0=>rfl
 |n+1=>by
  rw[Oq,M0,zM,ad.par S n];show(_ ^^ (S (fdD es P Nm n/2) ^^ k9))=_;rw[(ad.dart n).1,Qf];rfl
def RgD.parB(ad:RgD m es ts P Nm)(S:R->ke):K8.par S ((Nf m).Z λi=>bdD es P Nm (m-1-i))=xrP S Nm m:=by
 let e:(Nf m).Z (λi=>bdD es P Nm (m-1-i))=(Nf m).y.Z (bdD es P Nm):=by
  refine Ra ∅ λi eK O=>?_
  simp only[Q0,List.getElem_range,List.getElem_reverse,Nl]
 rw[e,BB S ((List.reverse_perm _).Z _),← ad.par S m];let:∀ l:E R,K8.par S (l.Z (bdD es P Nm))=K8.par S (l.Z (fdD es P Nm)):=λl=>by
  induction l with
  |nil=>rfl
  |cons i l C=>
   show(S (bdD es P Nm i/2) ^^ _)=(S (fdD es P Nm i/2) ^^ _);rw[(ad.dart i).1,(ad.dart i).2.1];exact congrArg _ C
 exact this _
def RgD.row(ad:RgD m es ts P Nm){p:R}(h:p<m):∃ i,i<m+m/\p=P (i+1):=by
 let i J rfl:=ad.ps h;let v:=ad.m2;erw[i+m-1,4,(ad.pp _ _).mpr (by rw[show i+m-1+1=i+m by lia,OR])]
theorem RgD.turn(ad:RgD m es ts P Nm):dJ m es ts where
 len:=ad.tl
 ends:=λe N=>by
  let t g:=Nx N;let i J rfl:=ad.ns (show t<m by rw[← ad.el];exact(MF.mp g).1)
  let Q eK O:=ad.en i;rw[g]at eK
  cases eK
  let ne:=ad.psuc i;obtain rfl|rfl:=O
  .erw[ad.pl _,ad.pl _,ne]
  .erw[ad.pl _,ad.pl _,λz=>ne z.X]
 nd:=λp l M=>by
  let i J e:=ad.row (by rw[← ad.tl];exact(MF.mp M).1)
  let o eK O:=ad.tr i;rw[← e,M]at eK
  cases eK
  let ne:=ad.nsuc i;obtain rfl|rfl:=O<;>simp[ne,Ne.X ne]
 mem:=λp l M t=>by
  let i J e:=ad.row (by rw[← ad.tl];exact(MF.mp M).1)
  let o eK O:=ad.tr i;rw[← e,M]at eK
  cases eK
  let y:t∈l↔t=Nm i∨t=Nm (i+1):=by
   obtain rfl|rfl:=O
   .simp
   .simp[or_comm]
  rw[y];constructor
  .rintro(z|z)
   .let Q G dO:=ad.en i;rw[z];erw[Q,G,3];obtain rfl|rfl:=dO
    .exact .inr e.X
    .exact .inl e.X
   .let Q G dO:=ad.en (i+1);rw[z];erw[Q,G,3];obtain rfl|rfl:=dO
    .exact .inl e.X
    .exact .inr e.X
  .rintro⟨Q,G,dO⟩;let j L rfl:=ad.ns (show t<m by rw[← ad.el];exact(MF.mp G).1)
   let A s n:=ad.en j;rw[G]at s
   cases s
   let:P j=P (i+1)∨P (j+1)=P (i+1):=by
    rw[← e];obtain rfl|rfl:=n
    .exact dO
    .exact dO.X
   obtain z|z:=this
   .exact .inr ((ad.np _ _).mpr ((ad.pp _ _).mp z))
   .exact .inl ((ad.np _ _).mpr (ad.pre ((ad.pp _ _).mp z)))
theorem RgD.gr(ad:RgD m es ts P Nm):Gr m es ts where
 w:=ad.turn
 part:=#[_,ad.part,by rw[ad.el];rfl]
 conn:=λS H p q G n a=>by
  let step:∀ i,S (P i)↔S (P (i+1)):=λi=>by
   let e eK O:=ad.en i;let:=H e (MH eK);obtain rfl|rfl:=O
   .exact this
   .exact this.X
  let all:∀ i,S (P i)↔S (P 0):=λi=>by
   induction i with
   |zero=>exact Iff.rfl
   |succ i C=>exact(step i).X.P C
  let i _ rfl:=ad.ps G;let j _ rfl:=ad.ps n;exact(all j).mpr ((all i).mp a)
 cut:=λS H=>by
  let A:=H _ ad.fcr;rw[ad.par S m]at A;let v:=ad.m2;let u:∀ i,i<m->((Nf m).find? λj=>decide (P j=P i))=Z i:=λi J=>by
   cases e:(Nf m).find? λj=>decide (P j=P i) with
   |none=>
    let:=List.find?_eq_none.mp e i (Nk.mpr J);exact Tn (Sx U) this
   |some j=>
    let eK:=S8 (List.find?_some (p:=λj=>decide (P j=P i)) e);let O:=Nk.mp (List.mem_of_find?_eq_some e);rw[ad.inj O J ((ad.pp _ _).mp eK)]
  erw[λx=>xrP S Nm (((Nf m).find? λj=>decide (P j=x)).v 0),λt e N=>?_];let i J rfl:=ad.ns (show t<m by rw[← ad.el];exact(MF.mp N).1)
  let Q eK O:=ad.en i;rw[N]at eK
  cases eK
  let d:xrP S Nm (((Nf m).find? λj=>decide (P j=P i)).v 0)=xrP S Nm i:=by rw[u i J];rfl
  let M:xrP S Nm (((Nf m).find? λj=>decide (P j=P (i+1))).v 0)=(xrP S Nm i ^^ S (Nm i)):=by
   by_cases c:i+1<m
   .rw[u (i+1) c];rfl
   .let f:i+1=m:=by lia
    rw[(ad.pp (i+1) 0).mpr (by rw[f,O2,P8]),u 0 ∅]
    rw[← f]at A;exact A.X
  obtain rfl|rfl:=O
  .show S (Nm i)=(_ ^^ _);dsimp only;rw[d,M]
   cases xrP S Nm i<;>cases S (Nm i)<;>rfl
  .show S (Nm i)=(_ ^^ _);dsimp only;rw[d,M]
   cases xrP S Nm i<;>cases S (Nm i)<;>rfl
theorem RgD.cyc(ad:RgD m es ts P Nm):Cyc m es P where
 m2:=ad.m2
 lt:=ad.pl
 per:=ad.pp
 sur:=λh=>(ad.ps h).elim λi h=>#[i,h.2]
 nb:=λx y=>by
  constructor
  .rintro⟨e,N,z⟩;let t g:=Nx N;let i J rfl:=ad.ns (show t<m by rw[← ad.el];exact(MF.mp g).1)
   let Q eK O:=ad.en i;rw[g]at eK
   cases eK
   erw[i,3];obtain rfl|rfl:=O
   .rcases z with⟨a,b⟩|⟨a,b⟩
    .exact .inl #[a.X,b.X]
    .exact .inr #[b.X,a.X]
   .rcases z with⟨a,b⟩|⟨a,b⟩
    .exact .inr #[b.X,a.X]
    .exact .inl #[a.X,b.X]
  .rintro⟨i,z⟩;let e eK O:=ad.en i;erw[e,MH eK,3];obtain rfl|rfl:=O
   .rcases z with⟨a,b⟩|⟨a,b⟩
    .exact .inl #[a.X,b.X]
    .exact .inr #[b.X,a.X]
   .rcases z with⟨a,b⟩|⟨a,b⟩
    .exact .inr #[a.X,b.X]
    .exact .inl #[b.X,a.X]
def RgD.sides(ad:RgD m es ts P Nm){r:E R}(c:CR (K8.fol es ts) (2*es.L) r){t:R}(g:t<m)(eK:2*t∈r)(h2:2*t+1∈r):False:=by
 let i J rfl:=ad.ns g;let a:fdD es P Nm i∈r/\bdD es P Nm i∈r:=by
  let v u I _:=ad.dart i;rcases(show fdD es P Nm i=2*Nm i/\bdD es P Nm i=2*Nm i+1∨fdD es P Nm i=2*Nm i+1/\bdD es P Nm i=2*Nm i by lia) with⟨x,y⟩|⟨x,y⟩<;>rw[x,y]
  .erw[eK,h2]
  .erw[h2,eK]
 let:=c.same ad.fcr a.1 (Nc.mpr #[i,Nk.mpr J,U]) _ a.2;let j _ e:=Nc.mp this;exact ad.apart j i e
def RgD.odd(ad:RgD m es ts P Nm)(S:R->ke){r:E R}(c:CR (K8.fol es ts) (2*es.L) r):K8.par S r=xrP S Nm m:=by
 let d hd:=c.ne;let q dO n:=OI.mp (ad.part.all d (c.lt d hd));let a:=ad.part.cr q dO;let B:r.Perm q:=(Oy c.nd a.nd).mpr λt=>#[c.same a hd n t,a.same c n hd t];rw[BB S B];obtain z|z:=MY.mp dO
 .rw[z];exact ad.par S m
 .rw[MQ.mp z];exact ad.parB S
end
def RgD.rg{P:R->R}{ks:Kn}{S:fc->Prop}{PS:fc}(ad:RgD m es ts P Nm)(j:m<=40)(c:WebF S f PS C H p m es ts rs ks)(o:ks.L=es.L)(L:∀ k∈ks,k.1=0∨k.1=1)(y:∀ k∈ks,1<=k.2/\k.2<=10^(30:Y).R)(od:xrP (bp ks) Nm m=kt):∃ ls,Rg m es ts ks rs ls:=by
 let B fs dO D a wg _:=c;let A Q _ _ r6:=wg.sides;let w:=wg.part;let s:=ad.el;let h:=ad.m2;let ls ln x:=Ho o r6
 let O:Oth m es ts ks rs ls:=#[ad.gr,w,#[w.nd,w.all,λr u=>(w.ring r u).lt,λr u=>(w.ring r u).nd,ln,λi l M=>(x i l M).1],o,λi l M=>by
  let k eK N:=(x i l M).2;let:=y k (MH eK)
  erw[k,eK,N,4,this.2],h,4]
 let I:rs.L=2:=(ad.part.same w.part).X;erw[ls,O,I,λl M e=>?_,λl M=>?_,19,j,4,L]
 .let i J:=Nx M;obtain⟨⟨⟨r,v,g⟩,q,b1,b2⟩,_⟩:=x i l J;rw[← e,v]at b1
  cases b1
  exact ad.sides (O.cr r (MH v)) (by rw[← s,← ln];exact(MF.mp J).1) g b2
 .let i J:=Nx M;let _ k eK N:=x i l J;rw[N];exact(y k (MH eK)).1
 .rw[I];refine wu (n:=2) (Oo _ λi J=>by rw[kA,RN ∅,Pu]) ∅ λa T=>?_
  let b:=MG (show a<rs.L by lia)
  let cR:=O.cr _ (MH b);let G:K8.par (λt=>(MK (bp ks) es.L).O t) rs[a]=kt:=by
   rw[← od,← ad.odd (bp ks) cR];exact f9 λd hd=>by
    let:=cR.lt d hd;rw[kA,Sx ∅,Oj]
  rw[kA,Sx T,Oj];unfold oddU;rw[BO b,← xq,G];rcases(show a=0∨a=1 by lia)with z|z<;>rw[z]<;>rfl
def lkS(ks:Kn)(Nm:R->R)(lack t:R):ke:=bp ks t ^^ decide (t=Nm lack)
def rawL(P:R->R)(X:R->ke):R->R
 |0=>0
 |k+1=>rawL P X k|||(if X k=kt then 2^P k else 0)
theorem uC(P:R->R)(X:R->ke)(x:R):∀ k,(rawL P X k).O x=kt↔∃ j,j<k/\P j=x/\X j=kt
 |0=>by
  show(0:R).O x=kt↔_;rw[NI];erw[(λz=>nomatch z),λ⟨j,z,_⟩=>Tn z (NM _)]
 |k+1=>by
  show(rawL P X k|||_).O x=kt↔_
  rw[NS,Pm,uC P X x k];constructor
  .rintro(⟨j,eK,O,G⟩|h)
   .erw[j,4,O,G]
   .split at h
    .rw[Nu]at h;erw[k,Oe k,S8 h,by assumption]
    .rw[NI]at h;cases h
  .rintro⟨j,eK,O,G⟩;by_cases c:j=k
   .subst c;exact .inr (by rw[Ti G,Nu];exact Sx O)
   .exact .inl #[j,4,O,G]
def finL(m N:R):R:=if N.O 0=kt then N^^^(2^m-1) else N
def BU{x:R}(B:x<m):(finL m N).O x=(N.O x ^^ N.O 0):=by
 unfold finL
 cases z:N.O 0 with
 |true=>rw[Ti U,P1,Ri,Sx B]
 |false=>rw[Tj Nr,Qf]
def Mi(h:N<2^m):finL m N<2^m:=by
 unfold finL;split
 .exact QF h (Nat.sub_lt (Ph m) Nat.zero_lt_one)
 .exact h
theorem Dy{es:En}{ks:Kn}{L t u:R}(nn:∀ i,0<=stg ks i)(g:UN es ks L t=kt)(f:UN es ks L u=kt)(a:t<u):∀ n,u<n->stg ks t+stg ks u<=wS es ks L n
 |0,h=>Tn h (NM _)
 |i+1,h=>by
  let:=nn i;unfold wS;by_cases z:u=i
  .subst z;rw[Ti f];let:=(G3 (es:=es) (L:=L) nn g u).2 a;lia
  .let:=Dy nn g f a i ∅
   split<;>lia
theorem Jz{es:En}{ks:Kn}{L t:R}(h:∀ i,i<es.L->(UN es ks L i=kt↔i=t)):∀ n,n<=es.L->wS es ks L n=if t<n then stg ks t else 0
 |0,_=>by rw[Tj (NM _)];rfl
 |i+1,T=>by
  let C:=Jz h i ∅
  unfold wS;rw[C];by_cases c:i=t
  .subst c;rw[Ti ((h i ∅).mpr U),Tj (Ob i),Ti (Oe i),N1]
  .rw[Tj λz=>c ((h i ∅).mp z)]
   by_cases d:t<i
   .rw[Ti d,Ti ∅]
   .rw[Tj d,Tj ∅]
section
variable{m:R}{es:En}{ts rs:E (E R)}{P Nm:R->R}{ks:Kn}
def layR(m:R)(P Nm:R->R)(ks:Kn)(k:R):R:=finL m (rawL P (xrP (lkS ks Nm k) Nm) m)
theorem RgD.raw_lt(ad:RgD m es ts P Nm)(X:R->ke):rawL P X m<2^m:=Oo _ λi J=>by
 cases z:(rawL P X m).O i with
 |false=>rfl
 |true=>
  let j _ O _:=(uC P X i m).mp z;let:=ad.pl j;lia
def RgD.raw_at(ad:RgD m es ts P Nm)(X:R->ke)(hi:i<m):(rawL P X m).O (P i)=X i:=by
 rw[PD,uC];erw[λ⟨j,eK,O,G⟩=>by rw[ad.inj eK hi ((ad.pp _ _).mp O)]at G;exact G,λh=>#[i,hi,U,h]]
def RgD.un(ad:RgD m es ts P Nm)(i:R):UN es ks L (Nm i)=(L.O (P i) ^^ L.O (P (i+1)) ^^ bp ks (Nm i)):=by
 let e eK O:=ad.en i;rw[Ju eK];obtain rfl|rfl:=O
 .rfl
 .show(L.O (P (i+1)) ^^ L.O (P i) ^^ _)=_;rw[RL (L.O (P (i+1)))]
theorem Dx(ad:o6){k:R}(D:k<m):∀ n,n<=m->xrP (lkS ks Nm k) Nm n=(xrP (bp ks) Nm n ^^ decide (k<n))
 |0,_=>by rw[RN (NM _)];rfl
 |n+1,h=>by
  show(xrP (lkS ks Nm k) Nm n ^^ lkS ks Nm k (Nm n))=((xrP (bp ks) Nm n ^^ bp ks (Nm n)) ^^ _);rw[Dx ad D n ∅]
  unfold lkS;by_cases c:n=k
  .subst c;rw[Sx U,RN (Ob n),Sx (Oe n)]
   cases xrP (bp ks) Nm n<;>cases bp ks (Nm n)<;>rfl
  .rw[RN (show ¬ Nm n=Nm k from λz=>c (ad.inj ∅ D ((ad.np _ _).mp z))),show decide (k<n+1)=decide (k<n) from decide_eq_decide.mpr #[λ_=>by lia,λ_=>by lia]]
   cases xrP (bp ks) Nm n<;>cases bp ks (Nm n)<;>cases decide (k<n)<;>rfl
def RgD.lay_un(ad:RgD m es ts P Nm)(od:xrP (bp ks) Nm m=kt){k:R}(D:k<m)(hi:i<m):UN es ks (layR m P Nm ks k) (Nm i)=decide (i=k):=by
 let bit:∀ x,x<m->(layR m P Nm ks k).O x=((rawL P (xrP (lkS ks Nm k) Nm) m).O x ^^ (rawL P (xrP (lkS ks Nm k) Nm) m).O 0):=λx B=>BU B;rw[ad.un i,bit _ (ad.pl _),bit _ (ad.pl _),ad.raw_at _ hi];let M:(rawL P (xrP (lkS ks Nm k) Nm) m).O (P (i+1))=(xrP (lkS ks Nm k) Nm i ^^ lkS ks Nm k (Nm i)):=by
  by_cases c:i+1<m
  .rw[ad.raw_at _ c];rfl
  .let f:i+1=m:=by lia
   rw[(ad.pp (i+1) 0).mpr (by rw[f,O2,P8]),ad.raw_at _ (show 0<m by lia)]
   let h:=Dx (ks:=ks) ad D m (MN _);rw[od,Sx D,← f]at h;exact h.X
 rw[M];unfold lkS;rw[show decide (Nm i=Nm k)=decide (i=k) from decide_eq_decide.mpr #[λz=>ad.inj hi D ((ad.np _ _).mp z),λz=>by rw[z]]]
 cases xrP (λt=>bp ks t ^^ decide (t=Nm k)) Nm i<;>cases bp ks (Nm i)<;>cases decide (i=k)<;>cases (rawL P (xrP (λt=>bp ks t ^^ decide (t=Nm k)) Nm) m).O 0<;>rfl
def RgD.lay_lt(ad:RgD m es ts P Nm)(k:R):layR m P Nm ks k<2^m/\(layR m P Nm ks k).O 0=k9:=by
 erw[Mi (ad.raw_lt _),3];let v:=ad.m2;unfold layR;rw[BU ∅,ke.xor_self]
def RgD.same(ad:RgD m es ts P Nm){L':R}(eK:L<2^m)(h2:L'<2^m)(G:L.O 0=k9)(dO:L'.O 0=k9)(h:∀ i,i<m->UN es ks L (Nm i)=UN es ks L' (Nm i)):L=L':=by
 let v:=ad.m2;let step:∀ i,i<m->(L.O (P i) ^^ L'.O (P i))=(L.O (P (i+1)) ^^ L'.O (P (i+1))):=λi J=>by
  let:=h i J;rw[ad.un,ad.un]at this;revert this
  cases L.O (P i)<;>cases L'.O (P i)<;>cases L.O (P (i+1))<;>cases L'.O (P (i+1))<;>cases bp ks (Nm i)<;>decide
 let all:∀ i,i<=m->(L.O (P i) ^^ L'.O (P i))=(L.O (P 0) ^^ L'.O (P 0)):=λi=>by
  induction i with
  |zero=>exact λ_=>rfl
  |succ i C=>exact λJ=>(step i ∅).X.P (C ∅)
 let d a o:=ad.ps (show 0<m by lia)
 let z:(L.O (P 0) ^^ L'.O (P 0))=k9:=by
  rw[← all d ∅,← o,G,dO];rfl
 refine wu eK h2 λx B=>?_;let i J rfl:=ad.ps B;let:=all i ∅
 rw[z]at this;revert this
 cases L.O (P i)<;>cases L'.O (P i)<;>decide
def RgD.lay_inj(ad:RgD m es ts P Nm)(od:xrP (bp ks) Nm m=kt){k k':R}(D:k<m)(b:k'<m)(e:layR m P Nm ks k=layR m P Nm ks k'):k=k':=by
 let eK:=ad.lay_un od D D;rw[e,ad.lay_un od b D,Sx (show k=k from rfl)]at eK;exact S8 eK
def RgD.due(ad:RgD m es ts P Nm)(od:xrP (bp ks) Nm m=kt){d:R}(T:1<=d)(nn:∀ i,0<=stg ks i)(lo:∀ i,i<m->(d:Y)<=stg ks (Nm i))(lack:∀ L,∃ t,t<es.L/\UN es ks L t=kt)(L:R):(L<2^m/\L.O 0=k9/\wT es ks L=(d:Y))↔∃ k,k<m/\stg ks (Nm k)=(d:Y)/\L=layR m P Nm ks k:=by
 let s:=ad.el;let one:∀ k,k<m->∀ L,(∀ i,i<m->UN es ks L (Nm i)=decide (i=k))->wT es ks L=stg ks (Nm k):=λk D L h=>by
  let:=Jz (es:=es) (ks:=ks) (L:=L) (t:=Nm k) (λt g=>by
   let i J rfl:=ad.ns (show t<m by lia)
   rw[h i J,decide_eq_true_iff]
   erw[λz=>by rw[z],λz=>ad.inj J D ((ad.np _ _).mp z)]) es.L (MN _)
  rw[Ti (by rw[s];exact ad.nl k)]at this
  exact this
 constructor
 .rintro⟨eK,O,G⟩;let t g f:=lack L;let k D rfl:=ad.ns (show t<m by lia)
  let un:∀ i,i<m->UN es ks L (Nm i)=decide (i=k):=λi J=>by
   by_cases c:i=k
   .rw[c,f,Sx U]
   .rw[RN c]
    cases z:UN es ks L (Nm i) with
    |false=>rfl
    |true=>
     exfalso;let ne:Nm i≠Nm k:=λe=>c (ad.inj J D ((ad.np _ _).mp e));let r:=lo i J;let u:=lo k D;unfold wT at G;rcases Qa (Nm i) (Nm k)with y|y
     .let:=Dy nn z f y es.L g
      lia
     .let:=Dy nn f z ∅ es.L (by rw[s];exact ad.nl i)
      lia
  erw[k,D,by rw[← one k D L un];exact G,ad.same (ks:=ks) eK (ad.lay_lt k).1 O (ad.lay_lt k).2 λi J=>by rw[un i J,ad.lay_un od D J]]
 .rintro⟨k,D,eK,rfl⟩;erw[(ad.lay_lt k).1,(ad.lay_lt k).2,by rw[one k D _ λi J=>ad.lay_un od D J];exact eK]
end
inductive DX
 |mk (c:Y)(m:R) (_:vs=[.int c,.int (m:Y)])(_:m<=100)(_:∀(q:fc)(o:E R)(H':Hp),o5->H q=lf->H' q=Z (.lst (o.Z iV))->o.L=m->o.h->(∀ x∈o,x<m)->Q (.ref q) H')
def eu:az ["cell","many","order","mixed","k"] ["cell","many"] (aq lR):=by ac_nf
def HZ(F:Fun K "_law_order" "_law_order" lR f fd)(T:Txt mg):li 1 f fd ["cell","many"] DX:=by
 refine F.ok eu λN A eK s H D Q dO u h=>?_
 let c m rfl y k:=h
 intro a G;erw[_,(af (aA 2 eu.nd (bX ai))
   (af (aA 3 eu.nd (ay eI (pv 0) ak))
   (af (mx (aP U T.n_range (ae (pv 1) ai)) (bq 4 eu.nd) (af (aA 3 eu.nd (ay eI (ay cg (ay gG (pv 3) ak) (ay gG ak (pv 4))) ak))
   (ao (aW (eF Na PySem.F.slot_list_insert PySem.F.type_list_insert E5 (pv 2) (ae (ay eI (pv 3) (ay cg (pv 4) ak)) (ae (pv 4) ai)))))))
   (ao (aG (pv 2)))))),3]
 erw[(by show 0<=RO;decide),λq g=>?_]
 erw[2649,(by show(0:Y)<1000000007;decide),3]
 erw[5273,cL (n:=(m:Y).R) (λi L d=>∃(M:Y),∃ e o,L=[Z (.int c),Z (.int (m:Y)),Z (.ref q),Z (.int M),e]/\Same H d/\d q=Z (.lst (o.Z iV))/\o.L=i/\o.h/\∀ x∈o,x<i) #[5,[],U,aj g _,ag,U,NU,λx B=>nomatch B] ?_ ?_]
 .rintro i L d J ⟨M,e,o,rfl,b,l,O,nd,lt⟩;rw[MU]at J;let j:(0:Y)+(i:Y)=(i:Y):=N1 _;rw[j];let t:(o.Z iV).L=i:=by rw[MI];exact O
  erw[2649,.inr #[by decide,by decide],2649,.inl #[by decide,by decide],42405,(by show(0:Y)<2147483647;decide),3]
  erw[9,.inl #[6,SqL.of l],10855833,(by show(0:Y)<(i:Y)+1;lia),9,q,661,l,(Kb _ _).1,(by rw[t];exact(Kb _ _).2),ax ∅,3]
  rw[insV];erw[149,aK b g _,ag,by rw[Md,O],Fz nd λz=>by let:=lt i z;lia,λx B=>?_]
  obtain z|z:=Ad.mp B
  .lia
  .let:=lt x z;lia
 .rintro L d ⟨M,e,o,rfl,b,l,O,nd,lt⟩;rw[MU]at O lt;erw[9,k q o d b g l O nd lt]
inductive D4(K:MJ)
 |mk (a:fc)(m:R)(ns:E Y) (_:vs=[.ref a,.int (m:Y)])(_:pi a (ns.Z V.int))(_:ns.L<=63)(_:2<=m)(_:m<=40)(_:∀(q:fc)(ws:E V)(kr:Kn)(H':Hp),o5->H' q=Z (.lst ws)->gX H' ws kr->kr.L=m->(∀ k∈kr,1<=k.2/\k.2<=10^(30:Y).R)->xrP (λj=>decide ((kr.v j (0,0)).1=1)) id m=kt->Q (.ref q) H')
theorem Jx{W:E Y}(h:∀ x∈W,x=0∨x=1):∀ n,n<=W.L->xrP (λj=>decide (W.v j 0=1)) id n=decide ((W.x n).sum%2=1)
 |0,_=>rfl
 |n+1,T=>by
  let C:=Jx h n ∅
  let e:=MG (show n<W.L by lia)
  let b:=h _ (MH e);show(xrP _ id n ^^ decide (W.v n 0=1))=_;rw[C,M5,e,MX,e];show(_ ^^ decide (W[n]=1))=decide ((W.x n++[W[n]]).sum%2=1);rw[List.sum_append,show[W[n]].sum=W[n] by simp]
  obtain z|z:=b<;>rw[z]
  .rw[Qe];simp
  .rcases(show(W.x n).sum%2=0∨(W.x n).sum%2=1 by lia)with y|y
   .rw[y,Sx (show((W.x n).sum+1)%2=1 by lia)];rfl
   .rw[y,RN (show ¬ ((W.x n).sum+1)%2=1 by lia)];rfl
def bt1(c:Y)(k:R):Y:=c/2^((k:R):Y).R%2
def GK(c:Y)(k:R):bt1 c k=0∨bt1 c k=1:=by unfold bt1;lia
inductive rK(a:fc)(m:R)(H:Hp)(Q:VK)(D:L2.Ends)(σ:L2.St)(H1:L2.Hp):Prop
 |mk (q:fc)(W:E Y) (_:σ=[Z (.ref a),Z (.int (m:Y)),Z (.ref q),lf,lf])(_:Same H H1)(_:H1 q=Z (.lst (W.Z V.int)))(_:W.L=m)(_:(∀ x∈W,x=0∨x=1))(_:W.sum%2=1)(_:D.rt=Q)
theorem DI{ks:Kn}{k:Y×Y}{t:fc}(h:gX H ws ks)(k1:k.1=0∨k.1=1)(k2:0<=k.2)(g:H t=Z (.tup [.int k.1,.int k.2])):gX H (ws++[.ref t]) (ks++[k]):=#[by rw[MP,MP,h.1];rfl,λi x e=>by
 by_cases c:i<ks.L
 .rw[MT c]at e;let a b p d f:=h.2 i x e;erw[a,b,p,by rw[MT (by rw[h.1];exact c)];exact d,f]
 .let q:=(MF.mp e).1
  rw[MP]at q;let:i=ks.L:=by
   let:i<ks.L+1:=q;lia
  subst this;rw[MR (MN _),Nz]at e
  cases e
  erw[k1,k2,t,by rw[← h.1,MR (MN _),Nz];rfl,g]]
theorem pO{f g:R->ke}{Nm a:R->R}:∀ n,(∀ i,i<n->f (Nm i)=g (a i))->xrP f Nm n=xrP g a n
 |0,_=>rfl
 |n+1,h=>by
  show(xrP f Nm n ^^ f (Nm n))=(xrP g a n ^^ g (a n));rw[pO n λi J=>h i ∅,h n (Oe n)]
def gB:az ["script","many","wishes","lesser","more"] ["script","many"] (aq lT):=by ac_nf
def Ii(F:Fun K "_law_kinds" "_law_kinds" lT f fd)(T:Txt mg)(aa:lw 1 "_law_cell" ["script","k"] (D6 K) p G):li 2 f fd ["script","many"] (D4 K):=by
 refine F.ok gB λL A g s H o Q dO u h=>?_
 let a m ns rfl hS ap m2 ab r:=h
 intros;erw[_,(af (aA 2 gB.nd (cM [("script",0)] ["k"] (aP U T.n_range (ae (pv 1) ai)) pg_c pt_c (λC ex s H=>(ay cV (ay gf (aa.c u (ae (pv 1) (ae ak ai))) (pv 0)) ak))))
   (af (bJ (aD cH (ay eI (aE (wj U) (by rfl) T.n_sum B6 (ae (pv 2) ai)) ak) ak (aJ _)) (ao (lD (ay gF ak (ba (pv 2) ak)) (m9 (pv 2) ak e9))) aN)
   (fX (t2:=rK a m H Q) (af (aA 3 gB.nd (ay cg ak (ay eI (aa.c u (ae (pv 0) (ae ak ai))) (ay gG ak (ay JZ ak ak)))))
   (af (aA 4 gB.nd (ay gG (ay eI (ay qO (aa.c u (ae (pv 0) (ae ak ai))) ak) ak) (ay cg ak (ay eI (aa.c u (ae (pv 0) (ae ak ai))) (ay gG ak (ay JZ ak ak))))))
   (ao (aG (cM [("wishes",2),("script",0),("more",4),("lesser",3)] ["k"] (aP U T.n_range (ae (pv 1) ai)) pg_c pt_c (λC ex s H=>(bN (ae (pB K (pv 1) (pv 0)) (ae (ay cg (pv 4) (ay gG (ay cV (ay gf (aa.c u (ae (pv 2) (ae ak ai))) (pv 0)) ak) (pv 3))) ai))))))))) (λD0 S0 H0 h0=>?rk)))),3]
 case rk=>
  let q W rfl v n wl wb ws er:=h0;let hS:=v.seq hS;let one:∀ x:Y,x%2=0∨x%2=1:=λx=>by ac_rfl
  erw[9,a,05,ns,U,hS,165,#[by decide,4,by decide],165,.inl #[by decide,by decide],165,(by decide:(0:Y)<5*10^(29:Y).R),933]
  erw[9,a,00,ns,U,hS,165,#[by decide,by decide],165,(by decide:(0:Y)<2),9,a,06,ns,U,hS,165,#[by decide,4,by decide],165,.inl #[by decide,by decide],165,(by decide:(0:Y)<5*10^(29:Y).R),42405,.inl (by let:=one (cj ns 0/39);constructor<;>ac_rfl),3]
  let le am av le2:∃ le:Y,1+cj ns 5%(5*10^(29:Y).R)=le/\1<=le/\le<=5*10^(29:Y).R:=by
   let eK:=Rn (cj ns 5) (show(5*10^(29:Y).R:Y)≠0 by decide)
   let O:=QJ (cj ns 5) (show(0:Y)<5*10^(29:Y).R by decide)
   erw[9,by ac_rfl,by ac_rfl]
  let mo al:∃ mo:Y,cj ns 0/39%2*(1+cj ns 6%(5*10^(29:Y).R))=mo:=#[9];let eK:=Rn (cj ns 6) (show(5*10^(29:Y).R:Y)≠0 by decide)
  let O:=QJ (cj ns 6) (show(0:Y)<5*10^(29:Y).R by decide)
  let aI:0<=mo/\mo<=5*10^(29:Y).R:=by
   rcases one (cj ns 0/39)with z|z<;>rw[z]at al
   .rw[Int.zero_mul]at al;rw[← al];decide
   .rw[Int.one_mul]at al;ac_rfl
  let aL aS:=aI;show sy 4 (V.int (cj ns 0/39%2*(1+cj ns 6%(5*10^(29:Y).R)))) [Z (V.ref a),Z (V.int (m:Y)),Z (V.ref q),Z (V.int (1+cj ns 5%(5*10^(29:Y).R))),lf] _ _;rw[am,al];let kr an:∃ kr:Kn,(Nf m).Z (λk=>(W.v k 0,le+bt1 (cj ns 4) k*mo))=kr:=#[9];let ah:kr.L=m:=by rw[← an,MI,Nl]
  let kat:∀ i,i<m->kr[i]?=Z (W.v i 0,le+bt1 (cj ns 4) i*mo):=λi J=>by rw[← an,MO,Og J];rfl
  let ar:∀ i,i<m->W[i]?=Z (W.v i 0):=λi J=>by rw[MX,MG (by ac_rfl)];rfl
  let sb:∀ i,1<=le+bt1 (cj ns 4) i*mo/\le+bt1 (cj ns 4) i*mo<=10^(30:Y).R:=λi=>by
   let aT:(10:Y)^(30:Y).R=10*10^(29:Y).R:=by decide
   obtain z|z:=GK (cj ns 4) i<;>rw[z]
   .constructor<;>ac_rfl
   .constructor<;>ac_rfl
  erw[9,(m:Y),U,by ac_rfl,by ac_rfl,dI (k:=(m:Y).R) (λi I d=>Same H0 d/\gX d I (kr.x i)) (by rw[MU];exact M4 (ax (by ac_rfl))) #[λ_ _ e=>e,U,λi k z=>nomatch z] ?_ ?_ ?_]
  .rintro i I d J ⟨b,tk⟩;rw[MU]at J;rw[N1];let wi:(W.Z V.int)[i]?=Z (.int (W.v i 0)):=by rw[MO,ar i J];rfl
   let bm:∀ x:Y,x=0∨x=1->-1000<x/\x<1000:=λx B=>by ac_rfl
   erw[U,yesT #[153,q,661,SqL.of (b _ _ n),aF wi,153,a,04,ns,U,b.seq hS,2649,Pg _,14757]];let eb:Se (cj ns 4/2^((i:R):Y).R) 1=bt1 (cj ns 4) i:=O9 _ 1;let M:=GK (cj ns 4) i;erw[165,.inl (by rw[eb];constructor<;>ac_rfl),165,(by show 2<=RO;decide),λt j=>?_]
   try dsimp only
   rw[eb];let s3:=aj j (.tup [.int (W.v i 0),.int (le+bt1 (cj ns 4) i*mo)]);rw[M5,kat i J];erw[b.P s3,DI (tk.mono s3) (wb _ (MH (ar i J))) (by let:=(sb i).1;show 0<=le+bt1 (cj ns 4) i*mo;ac_rfl) ag]
  .rintro I d ⟨b,tk⟩ D hD;rw[MU,← ah,M8]at tk;let s3:=aj hD (.lst I);show D0.rt (.ref D) _;rw[er];refine r D I kr _ ((v.P b).P s3) ag (tk.mono s3) ah (λk l=>?_) ?_
   .rw[← an]at l;let i _ rfl:=Nc.mp l;exact sb i
   .let N:=Jx wb m (by ac_rfl)
    rw[← wl,M8,ws,Sx (show(1:Y)=1 from rfl)]at N;rw[← wl,← N];refine pO _ λi J=>?_;rw[MX,show kr[id i]?=Z (W.v i 0,le+bt1 (cj ns 4) i*mo) from kat i (by ac_rfl)]
    rfl
  .rintro i I d ⟨_,tk⟩;rw[tk.1,NQ];exact O0 _ _
 erw[9,(m:Y),U,by ac_rfl,by ac_rfl,dI (k:=(m:Y).R) (λi I d=>d=H/\I=((Nf i).Z (bt1 (cj ns 3))).Z V.int) (by rw[MU];exact M4 (ax (by ac_rfl))) #[10] ?_ ?_ ?_]
 .rintro i I d J ⟨rfl,rfl⟩;rw[N1];erw[U,yesT #[9,a,03,ns,U,hS,2649,Pg _,3749]];rw[Oq,M0,M0];refine congrArg (λz=>_++[V.int z]) ?_;exact O9 _ 1
 .rintro I d ⟨rfl,rfl⟩ q n;rw[MU];let W hW:∃ W,(Nf m).Z (bt1 (cj ns 3))=W:=#[9];let wb:∀ x∈W,x=0∨x=1:=λx B=>by
   rw[← hW]at B;let i _ rfl:=Nc.mp B;exact GK _ _
  let wl:W.L=m:=by rw[← hW,MI,Nl]
  rw[hW];let v:=aj n (.lst (W.Z V.int));let ac:(upd d q (.lst (W.Z V.int))) q=Z (.lst (W.Z V.int)):=ag;erw[9,q,W,U,SqL.of ac,165,(by decide:(0:Y)<2),38,ite2 (λc=>?_) (λc=>?_)]
  .cases W with
   |nil=>rw[← wl]at m2;exact Tn m2 ∅
   |cons w0 W=>
    let c':(w0::W).sum%2=0:=V.int.inj (S8 c);erw[9,q,_,(0:Y),41,SqL.of ac,(show atI _ ((0:R):Y)=Z (V.int w0) from aF U),2469,q,_,(0:Y),00,10,ac,(show ixN _ ((0:R):Y)=Z 0 from iu ∅),3]
    erw[q,(1-w0)::W,U,aK v n _,ag,wl,λx B=>?_,11]
    .obtain z|z:=MY.mp B
     .rw[z];rcases wb w0 (M7 ..)with y|y<;>rw[y]<;>decide
     .exact wb x (M6 _ z)
    .rw[PY]at c' ⊢;ac_rfl
  .erw[q,W,U,v,ac,wl,wb,by
    let:¬ W.sum%2=0:=λz=>c (Sx (congrArg V.int z))
    ac_rfl,U]
 .rintro i I d ⟨_,rfl⟩;rw[MI,MI,Nl];exact MN _
theorem up2{x:fc}{o1 o2:HO}(nx:H x=lf)(c:H a=lf):Same H (upd (upd H a o1) x o2):=λb o z=>by rw[aw (aH z nx),aw (aH z c)];exact z
theorem Lf(s:o5)(h:H a≠lf):H' a≠lf:=λy=>h (by
 cases u:H a with
 |none=>rfl
 |some o=>rw[s _ _ u]at y;cases y)
def ixL(l:E R)(m i:R):R:=l.v (i%m) 0
def nk(l:E R)(m i:R):ixL l m (i%m)=ixL l m i:=by unfold ixL;rw[Nat.mod_mod]
def vj(h:l.L=m)(hi:i<m):l[i]?=Z (ixL l m i):=by
 unfold ixL;rw[Nv hi,MX,MG ∅]
 rfl
def vi(h:l.L=m)(u:0<m)(lt:∀ x∈l,x<m)(i:R):ixL l m i<m:=by
 rw[← nk];exact lt _ (MH (vj h (Pc i u)))
def qU(h:l.L=m)(u:0<m)(nd:l.h)(i j:R):ixL l m i=ixL l m j↔i%m=j%m:=by
 constructor
 .intro e;let eK:=vj h (Pc i u);let O:=vj h (Pc j u);rw[nk]at eK O;rw[e,← O]at eK;let q:i%m<l.L:=by rw[h];exact Pc i u
  exact(QN q nd).mp eK
 .intro e;rw[← nk l m i,e,nk]
def BL(h:l.L=m)(nd:l.h)(lt:∀ x∈l,x<m){x:R}(B:x<m):∃ i,i<m/\x=ixL l m i:=by
 let k:=yL nd lt ∅
 let i J:=Nx (k.mem_iff.mpr (Nk.mpr B));let q:i<m:=by rw[← h];exact(MF.mp J).1
 rw[vj h q]at J;erw[i,q,(Ny J).X]
def rwS(P Nm:R->R)(p k:R):E R:=(if P k=p then[Nm k] else[])++(if P (k+1)=p then[Nm k] else[])
def rwN(P Nm:R->R)(p:R):R->E R
 |0=>[]
 |k+1=>rwN P Nm p k++rwS P Nm p k
theorem zo(P Nm:R->R)(p:R):∀ i,(rwN P Nm p i).L<=2*i
 |0=>MN _
 |i+1=>by
  let:=zo P Nm p i;show(rwN P Nm p i++rwS P Nm p i).L<=_;unfold rwS;rw[MP,MP];split<;>split<;>simp only[M9,OU]<;>lia
theorem Em{m:R}{P Nm:R->R}(m2:2<=m)(pp:∀ i j,P i=P j↔i%m=j%m){j:R}(L:j<m){a b:R}(o:(j=0/\a=0/\b=m-1)∨(0<j/\a=j-1/\b=j)):∀ i,i<=m->rwN P Nm (P j) i=(if a<i then[Nm a] else[])++(if b<i then[Nm b] else[])
 |0,_=>by rw[Tj (NM _),Tj (NM _)];rfl
 |i+1,J=>by
  show rwN P Nm (P j) i++rwS P Nm (P j) i=_;rw[Em m2 pp L o i ∅]
  let f:P i=P j↔i=j:=by
   rw[pp,Nv (show i<m by lia),Nv L]
  let A:P (i+1)=P j↔(i+1=j∨(i+1=m/\j=0)):=by
   rw[pp,Nv L];by_cases c:i+1=m
   .rw[c,O2];lia
   .rw[Nv (show i+1<m by lia)];lia
  unfold rwS;by_cases d:i=a
  .let:(P i=P j/\¬ P (i+1)=P j)∨(¬ P i=P j/\P (i+1)=P j):=by rw[f,A];lia
   rw[Tj (show ¬ a<i by lia),Tj (show ¬ b<i by lia),Ti (show a<i+1 by lia),Tj (show ¬ b<i+1 by lia),← d]
   rcases this with⟨x,y⟩|⟨x,y⟩
   .rw[Ti x,Tj y];rfl
   .rw[Tj x,Ti y];rfl
  .by_cases p:i=b
   .let:(P i=P j/\¬ P (i+1)=P j)∨(¬ P i=P j/\P (i+1)=P j):=by rw[f,A];lia
    rw[Ti (show a<i by lia),Tj (show ¬ b<i by lia),Ti (show a<i+1 by lia),Ti (show b<i+1 by lia),← p]
    rcases this with⟨x,y⟩|⟨x,y⟩
    .rw[Ti x,Tj y];rfl
    .rw[Tj x,Ti y];rfl
   .rw[Tj (show ¬ P i=P j by rw[f];lia),Tj (show ¬ P (i+1)=P j by rw[A];lia),NT,NT]
    congr 1
    .by_cases c:a<i
     .rw[Ti c,Ti ∅]
     .rw[Tj c,Tj ∅]
    .by_cases c:b<i
     .rw[Ti c,Ti ∅]
     .rw[Tj c,Tj ∅]
theorem Lg{pl:E R}(m2:2<=m)(p1:pl.L=m)(G:pl.h)(j:∀ x∈pl,x<m)(n1:nm.L=m)(g:nm.h)(dO:∀ x∈nm,x<m)(el:es.L=m)(en:∀ i,i<m->∃ e,es[ixL nm m i]?=Z e/\(e=(ixL pl m i,ixL pl m (i+1))∨e=(ixL pl m (i+1),ixL pl m i))):RgD m es ((Nf m).Z λp=>rwN (ixL pl m) (ixL nm m) p m) (ixL pl m) (ixL nm m) where
 m2:=m2
 pl:=vi p1 ∅ j
 pp:=qU p1 ∅ G
 ps:=BL p1 G j
 nl:=vi n1 ∅ dO
 np:=qU n1 ∅ g
 ns:=BL n1 g dO
 el:=el
 en:=λi=>by
  let e eK O:=en (i%m) (Pc i ∅)
  rw[nk]at eK;rw[nk,show ixL pl m (i%m+1)=ixL pl m (i+1) from(qU p1 ∅ G _ _).mpr (by rw[OY,Nat.mod_mod,← OY])]at O
  erw[e,eK,O]
 tl:=by rw[MI,Nl]
 tr:=λi=>by
  let u:0<m:=by lia
  let L:=Pc (i+1) u;let np:=qU n1 u g;erw[rwN (ixL pl m) (ixL nm m) (ixL pl m (i+1)) m,by rw[MO,Og (vi p1 u j _)];rfl,3]
  let n:m*(i/m)+i%m=i:=Nat.div_add_mod i m;let J:=Pc i u;by_cases c:i%m=m-1
  .let q:(i+1)%m=0:=by
    rw[OY,c];by_cases d:m=1
    .lia
    .rw[Nv (show 1<m by lia),show m-1+1=m by lia,O2]
   let h:=Em (Nm:=ixL nm m) m2 (qU p1 u G) u (.inl #[42]) m (MN _);rw[Ti u,Ti ∅]at h
   rw[show ixL pl m (i+1)=ixL pl m 0 from(qU p1 u G _ _).mpr (by rw[q,P8]),h,show ixL nm m (i+1)=ixL nm m 0 from(np _ _).mpr (by rw[q,P8]),show ixL nm m i=ixL nm m (m-1) from(np _ _).mpr (by rw[c,Nv ∅])]
   exact .inr U
  .let y:(i+1)%m=i%m+1:=by
    rw[OY,Nv (show 1<m by lia),Nv (show i%m+1<m by lia)]
   let h:=Em (Nm:=ixL nm m) m2 (qU p1 u G) (show i%m+1<m by lia) (.inr #[Nat.succ_pos _,10]) m (MN _)
   rw[Ti ∅,Ti ∅]at h
   rw[show ixL pl m (i+1)=ixL pl m (i%m+1) from(qU p1 u G _ _).mpr (y.P (Nv (show i%m+1<m by lia)).X),h,show ixL nm m (i+1)=ixL nm m (i%m+1) from(np _ _).mpr (y.P (Nv (show i%m+1<m by lia)).X)]
   rw[show i%m+1-1=i%m by lia,nk]
   exact .inl U
def Mr{S:fc->Prop}{r:fc}(G:bK S H zs ts)(ds:Dist zs)(u:H r=lf):Dist (zs++[.ref r]):=by
 let no:∀ i:R,zs[i]?≠Z (V.ref r):=λi e=>by
  let q:=(MF.mp e).1;let p a _ b:=G.2 i _ (MG (by rw[← G.1];exact q))
  rw[e]at a
  cases a
  rw[u]at b
  cases b
 let at_:∀(i:R)(p:fc),(zs++[V.ref r])[i]?=Z (V.ref p)->(i<zs.L/\zs[i]?=Z (V.ref p))∨(i=zs.L/\p=r):=λi p e=>by
  by_cases c:i<zs.L
  .rw[MT c]at e;exact .inl #[c,e]
  .let q:=(MF.mp e).1
   rw[MP]at q;let:i=zs.L:=by
    let:i<zs.L+1:=q;lia
   subst this;rw[MR (MN _),Nz]at e
   cases e
   exact .inr #[10]
 intro i j p J L;rcases at_ i p J with⟨a,b⟩|⟨a,b⟩<;>rcases at_ j p L with⟨c,d⟩|⟨c,d⟩
 .exact ds i j p b d
 .rw[d]at b;exact Tn b (no i)
 .rw[b]at d;exact Tn d (no j)
 .rw[a,c]
def map_set{p:R}(g:R->E R)(l:E R):((Nf m).Z g).set p l=(Nf m).Z λx=>if x=p then l else g x:=by
 refine Ra ∅ λi eK O=>?_
 rw[List.getElem_set,Q0,Q0,List.getElem_range];by_cases c:p=i
 .rw[Ti c,Ti c.X]
 .rw[Tj c,Tj λz=>c z.X]
structure WbH(PL PS q qz:fc)(m:R)(kr:Kn)(P Nm:R->R)(zs:E V)(H H1:Hp)(n:R)(g:R->E R)(H2:Hp):Prop where
 sm:Same H H2
 ti:∃ us:E V,H2 q=Z (.lst us)/\(us.L=m/\∀ j,j<n->∃(x dx:fc)(e:R×R)(k:Y×Y),us[Nm j]?=Z (.ref x)/\(kr[j]?=Z k/\((e=(P j,P (j+1))∨e=(P (j+1),P j))/\H2 x=Z (.ins (cls PL PS (decide (k.1=1))) dx (tf (e.1:Y) (e.2:Y) k.2)))))
 tz:H2 qz=Z (.lst zs)
 rx:bK (λa=>H1 a≠lf) H2 zs ((Nf m).Z g)
def WbH.row{PS:fc}{kr:Kn}{P:R->R}{g:R->E R}(h:WbH C PS q I m kr P Nm zs H H1 n g H2)(ds:Dist zs)(s1:Same H H1)(s:H1 q≠lf)(w:∀ i:R,zs[i]?≠Z (V.ref I)){p v:R}(G:p<m):∃ r,zs[p]?=Z (.ref r)/\(H2 r=Z (.lst ((g p).Z iV))/\WbH C PS q I m kr P Nm zs H H1 n (λx=>g x++if x=p then[v] else[]) (upd H2 r (.lst ((g p++[v]).Z iV)))):=by
 let a{z b c d}e f:=h;let r N D l:=f.2 p (g p) (by rw[MO,Og G];rfl)
 let u:H1 r=lf:=NY D;let A:H r=lf:=by
  cases y:H r with
  |none=>rfl
  |some o=>rw[s1 _ _ y]at u;cases u
 erw[r,N,l,aK a A _,#[z,3,c,λj L=>?_],15]
 .rw[aw (λy=>by rw[y]at s;exact s u)]
  exact b
 .let x B e k eK O t dO:=d j L;erw[x,B,e,k,eK,O,t,by rw[aw (λy=>by rw[y,l]at dO;cases dO)];exact dO]
 .rw[aw (λy=>by rw[← y]at N;exact w p N)]
  exact e
 .let:=f.set (l':=g p++[v]) ds N
  rw[map_set]at this;refine(show(λx=>if x=p then g p++[v] else g x)=(λx=>g x++if x=p then[v] else[]) from funext λx=>?_)▸this;by_cases c:x=p
  .rw[Ti c,Ti c,c]
  .rw[Tj c,Tj c,NT]
theorem pick{α:Type}{ad:R->α->Prop}:∀ n,(∀ j,j<n->∃ a,ad j a)->∃ l:E α,l.L=n/\∀ j,j<n->∃ a,l[j]?=Z a/\ad j a
 |0,_=>#[[],U,λj z=>Tn z (NM _)]
 |n+1,h=>by
  let l eK O:=pick n λj L=>h j ∅
  let a T:=h n (Oe n);erw[l++[a],by rw[MP,eK];rfl,λj L=>?_]
  by_cases c:j=n
  .subst c;erw[a,by rw[← eK,MR (MN _),Nz];rfl,T]
  .let b b1 b2:=O j ∅
   erw[b,by rw[MT ∅];exact b1,b2]
def byN{α:Type}(m:R)(nm:E R)(l:E α)(d:α):E α:=(Nf m).Z λt=>l.v (nm.idxOf t) d
def Kq{l:E α}{d:α}(n1:nm.L=m)(g:nm.h)(dO:∀ x∈nm,x<m)(c:l.L=m)(L:j<m):(byN m nm l d)[ixL nm m j]?=l[j]?:=by
 unfold byN;rw[MO,Og (vi n1 ∅ dO j)]
 let e:=vj n1 L;let u:nm.idxOf (ixL nm m j)=j:=by
  let eK O:=MF.mp e;rw[← O];exact g.idxOf_getElem j eK
 show Z (l.v (nm.idxOf (ixL nm m j)) d)=_;rw[u,MX,MG (show j<l.L by lia)]
 rfl
def GG{l:E α}{d:α}:(byN m nm l d).L=m:=by unfold byN;rw[MI,Nl]
inductive JI(PL PS WC:fc)
 |mk (pk pp pn:fc)(c:Y)(m:R)(ws:E V)(kr:Kn)(pl nm:E R) (_:vs=[.ref pk,.ref pp,.ref pn,.int c])(_:H pk=Z (.lst ws))(_:gX H ws kr)(_:kr.L=m)(_:H pp=Z (.lst (pl.Z iV)))(_:H pn=Z (.lst (nm.Z iV)))(_:2<=m)(_:m<=40)(_:(pl.L=m/\pl.h/\∀ x∈pl,x<m))(_:(nm.L=m/\nm.h/\∀ x∈nm,x<m))(_:∀(p:fc)(es:En)(ts rs:oD)(ks:Kn)(H':Hp),o5->WebF (λa=>H a≠lf) PL PS WC H' p m es ts rs ks->RgD m es ts (ixL pl m) (ixL nm m)->ks.L=es.L->(∀ j,j<m->ks[ixL nm m j]?=kr[j]?)->(∀ k∈ks,k∈kr)->Q (.ref p) H')
inductive rW(PL PS pk pp pn:fc)(c:Y)(m:R)(kr:Kn)(P Nm:R->R)(H:Hp)(d:R)(D:L2.Ends)(σ:L2.St)(H4:L2.Hp):Prop
 |mk (q qz:fc)(zs:E V)(H1:Hp)(i:R)(e:R×R) (_:σ=[Z (.ref pk),Z (.ref pp),Z (.ref pn),Z (.int c),Z (.int (m:Y)),Z (.ref q),Z (.ref qz),Z (.int (i:Y)),Z (.int (e.1:Y)),Z (.int (e.2:Y))])(_:i<m)(_:(e=(P i,P (i+1))∨e=(P (i+1),P i)))(_:Dist zs)(_:Same H H1)(_:H1 q≠lf)(_:(H q=lf/\H1 qz=lf))(_:(∀ i:R,zs[i]?≠Z (V.ref qz)))(_:WbH PL PS q qz m kr P Nm zs H H1 (i+d) (λp=>rwN P Nm p i) H4)(_:∀(v7 v8 v9:j5 V)(H':Hp),WbH PL PS q qz m kr P Nm zs H H1 (i+1) (λp=>rwN P Nm p (i+1)) H'->D.nx [Z (.ref pk),Z (.ref pp),Z (.ref pn),Z (.int c),Z (.int (m:Y)),Z (.ref q),Z (.ref qz),v7,v8,v9] H')
def cE:az ["kinds","places","numbers","cell","many","ties","turns","k","one","two"] ["kinds","places","numbers","cell"] (aq qH):=by ac_nf
def LA{PL PS WC fW:fc}(F:Fun K "_law_web" "_law_web" qH f fd)(T:Txt mg)(aT:Mak P w K mg base 1 "Pull" ["self","one","two","strength"] (tq K) PL I G)(a5:Mak P w K mg base 1 "Push" ["self","one","two","strength"] (tq K) PS I G)(TL:CT K PL)(TS:CT K PS)(be:Mak P w K mg base 5 "Web" ["self","many","ties","turns"] (ub K) WC fW J)(cw:CW K WC):li 7 f fd ["kinds","places","numbers","cell"] (JI PL PS WC):=by
 refine F.ok cE λab A aa s H vs Q dO g h=>?_
 let pk pp pn c m ws kr pl nm rfl a6 tk aL av ar m2 ah{p1 p2 p3}{n1 n2 n3}kk:=h;let m0:0<m:=by lia
 let aS:∀ i,(pl.Z iV)[i%m]?=Z (.int ((ixL pl m i:R):Y)):=λi=>by
  rw[MO,vj p1 (Pc i m0),nk];rfl
 let bR:∀ i,(nm.Z iV)[i%m]?=Z (.int ((ixL nm m i:R):Y)):=λi=>by
  rw[MO,vj n1 (Pc i m0),nk];rfl
 let b5:∀ i:R,((i:Y)+1)%(m:Y)=(((i+1)%m:R):Y):=λi=>by rw[Int.natCast_emod];rfl
 intros;erw[_,(af (aA 4 cE.nd (aE aB (by rfl) T.n_len bE (ae (pv 1) ai)))
   (af (lY 5 [] ["place"] cE.nd (aM (pv 1)) pg_c pt_c (λC ex s H=>fZ))
   (af (lY 6 [] ["place"] cE.nd (aM (pv 1)) pg_c pt_c (λC ex s H=>(bX ai)))
   (af (mx (aP U T.n_range (ae (pv 4) ai)) (bq 7 cE.nd) (af (aA 8 cE.nd (ba (pv 1) (pv 7)))
   (af (aA 9 cE.nd (ba (pv 1) (ay eI (ay cg (pv 7) ak) (pv 4))))
   (af (bJ (aD cH (ay cV (ay gf (pv 3) (pv 7)) ak) ak (aJ _)) (af (aA 8 cE.nd (ba (pv 1) (ay eI (ay cg (pv 7) ak) (pv 4))))
   (ao (aA 9 cE.nd (ba (pv 1) (pv 7))))) aN)
   (fX (t2:=rW PL PS pk pp pn c m kr (ixL pl m) (ixL nm m) H 0) (af (bJ (aD cH (bV (ba (pv 0) (pv 7)) ak) ak (aJ _)) (ao (lD (zK a5.mkc a5.ok (g.mono ∅) U a5.mg a5.bn .nil iX (ae (pv 8) (ae (pv 9) (ae (bV (ba (pv 0) (pv 7)) ak) ai)))) (m9 (pv 5) (ba (pv 2) (pv 7)) e9))) (ao (lD (zK aT.mkc aT.ok (g.mono ∅) U aT.mg aT.bn .nil iX (ae (pv 8) (ae (pv 9) (ae (bV (ba (pv 0) (pv 7)) ak) ai)))) (m9 (pv 5) (ba (pv 2) (pv 7)) e9))))
   (fX (t2:=rW PL PS pk pp pn c m kr (ixL pl m) (ixL nm m) H 1) (af (aW (eF Na Nq Np aX (ba (pv 6) (ba (pv 1) (pv 7))) (ae (ba (pv 2) (pv 7)) ai)))
   (ao (aW (eF Na Nq Np aX (ba (pv 6) (ba (pv 1) (ay eI (ay cg (pv 7) ak) (pv 4)))) (ae (ba (pv 2) (pv 7)) ai))))) (λD0 S0 H0 h0=>?r2))) (λD0 S0 H0 h0=>?r1))))))
   (ao (aG (zK be.mkc be.ok (g.mono ∅) U be.mg be.bn .nil iX (ae (pv 4) (ae (pv 5) (ae (pv 6) ai)))))))))),3]
 case r1=>
  let q qz zs H1 i e rfl N ee ds s1 nq{q0 z0}nz W ac:=h0;let im:i%m=i:=Nv N;let na:=bR i;rw[im]at na;let k M:∃ k,kr[i]?=Z k:=#[_,MG ∅]
  let k1 k2 a7 y1 y2:=(tk.mono W.sm).2 i k M;let bv:=W.sm _ _ a6;let bd:=W.sm _ _ ar;let el:=vi p1 m0 p3;let ne:e.1≠e.2:=by
   let:=λz=>(qU p1 m0 p2 i (i+1)).mp z;let eK:ixL pl m i≠ixL pl m (i+1):=λz=>by
    let:=Pa (this z).X;rw[show i+1-i=1 by lia,Nv ∅]at this
    cases this
   obtain z|z:=ee<;>rw[z]
   .exact eK
   .exact λy=>eK y.X
  let sm{us aI ul ut}tz rx:=W;let cq:ixL nm m i<m:=vi n1 m0 n3 i;let nx:∀(x dx:fc)(H':Hp),Same H0 H'->H' x=Z (.ins (cls PL PS (decide (k.1=1))) dx (tf (e.1:Y) (e.2:Y) k.2))->rW PL PS pk pp pn c m kr (ixL pl m) (ixL nm m) H 1 D0 [Z (.ref pk),Z (.ref pp),Z (.ref pn),Z (.int c),Z (.int (m:Y)),Z (.ref q),Z (.ref qz),Z (.int (i:Y)),Z (.int (e.1:Y)),Z (.int (e.2:Y))] (upd H' q (.lst (us.set (ixL nm m i) (.ref x)))):=λx dx H' s4 B=>by
   let ap:=s4 _ _ aI;erw[q,qz,zs,H1,i,e,U,N,ee,ds,s1,nq,#[q0,z0],nz,#[aK (sm.P s4) q0 _,#[_,ag,by rw[N5];exact ul,λj hj=>?_],3,rx.mono λb u nb eb=>?_],ac]
   .by_cases z:j=i
    .subst z;erw[x,dx,e,k,Pe ∅,M,ee,by rw[aw λy=>by rw[y,ap]at B;cases B];exact B]
    .let x' an e' k' eK O h3 h4:=ut j ∅
     let h5:=s4 _ _ h4;erw[x',an,e',k',3,O,h3,by rw[aw λy=>by rw[y,ap]at h5;cases h5];exact h5]
     rw[Pq]
     .exact eK
     .intro y;let:=(qU n1 m0 n2 _ _).mp y;rw[im,Nv ∅]at this
      exact z this.X
   .rw[aw λy=>?_]
    .exact s4 _ _ tz
    .rw[← y]at nq;exact nq z0
   .rw[aw λy=>by rw[y]at nb;exact nb nq]
    exact s4 _ _ eb
  erw[153,pk,ws,165,SqL.of bv,aF y1,a7,_,00,41,SqT.of y2,at0,38,ite2 (λc=>?_) (λc=>?_)]
  .let c':k.1=1:=V.int.inj (S8 c)
   erw[39321,pk,ws,165,SqL.of bv,aF y1,a7,_,01,41,SqT.of y2,at1,3];intro x dx bB bi cc;erw[x,PS,dx,149,ag,TS,84,k2,λH' eK O=>?_]
   let s4:Same H0 H':=λb o z=>O b o (by rw[aw (aH z bB),aw (aH z bi)];exact z) (aH z bB)
   erw[9830,pn,661,SqL.of (s4 _ _ bd),aF na,q,us,_,ixL nm m i,10,s4 _ _ aI,iu ∅,nx x dx H' s4 ?_]
   rw[Sx c'];exact eK
  .let c':¬ k.1=1:=λz=>c (Sx (by rw[z]))
   erw[39321,pk,ws,165,SqL.of bv,aF y1,a7,_,01,41,SqT.of y2,at1,3];intro x dx bB bi cc;erw[x,PL,dx,149,ag,TL,84,k2,λH' eK O=>?_]
   let s4:Same H0 H':=λb o z=>O b o (by rw[aw (aH z bB),aw (aH z bi)];exact z) (aH z bB)
   erw[9830,pn,661,SqL.of (s4 _ _ bd),aF na,q,us,_,ixL nm m i,10,s4 _ _ aI,iu ∅,nx x dx H' s4 ?_]
   rw[RN c'];exact eK
 case r2=>
  let q qz zs H1 i e rfl N ee ds s1 nq{q0 z0}nz W ac:=h0;let im:i%m=i:=Nv N;let na:=bR i;let a0:=aS i;rw[im]at na a0;let el:=vi p1 m0 p3;let a1:atI (pl.Z iV) (((i:Y)+1)%(m:Y))=Z (.int ((ixL pl m (i+1):R):Y)):=by rw[b5];exact aF (aS (i+1))
  let cd:=W.sm _ _ av;let bd:=W.sm _ _ ar;let r z1 z2 W2:=W.row (v:=ixL nm m i) ds s1 nq nz (el i);let zl:zs.L=m:=by rw[W.rx.1,MI,Nl]
  let bf:∀(l:E R)(v:R),l.Z iV++[V.int (v:Y)]=(l++[v]).Z iV:=λl v=>by rw[M0];rfl
  let ln:=zo (ixL pl m) (ixL nm m) (ixL pl m i) i;erw[2457,pp,661,SqL.of cd,aF a0,qz,zs,165,SqL.of W.tz,aF z1,.inl #[6,SqL.of z2],153,pn,661,SqL.of bd,aF na,r,165,z2,ax (by rw[MI];lia),3]
  rw[bf];let ce:=W2.sm _ _ av;let ch:=W2.sm _ _ ar;let r' co ci W3:=W2.row (v:=ixL nm m i) ds s1 nq nz (el (i+1));let cn:=zo (ixL pl m) (ixL nm m) (ixL pl m (i+1)) i;erw[2778356121,(show(0:Y)<(m:Y) by lia),pp,661,SqL.of ce,a1,qz,zs,165,SqL.of W2.tz,aF co,.inl #[6,SqL.of ci],153,pn,661,SqL.of ch,aF na,r',165,ci,ax (by rw[MI,MP];split<;>simp only[M9,OU]<;>lia),3]
  rw[bf];refine ac _ _ _ _ ?_;let eg:(λx=>(rwN (ixL pl m) (ixL nm m) x i++if x=ixL pl m i then[ixL nm m i] else[])++if x=ixL pl m (i+1) then[ixL nm m i] else[])=λx=>rwN (ixL pl m) (ixL nm m) x (i+1):=funext λx=>by
   show _=rwN (ixL pl m) (ixL nm m) x i++((if ixL pl m i=x then _ else _)++if ixL pl m (i+1)=x then _ else _);simp only[Qk,eq_comm]
  rw[eg]at W3;exact W3
 let a9:(pl.Z iV).L=m:=by rw[MI,p1]
 erw[9,pp,9,.inl (SqL.of av),3];rw[a9];erw[9,pp,U,#[_,SqL.of av],aZ (K:=K) (xs:=pl.Z iV) (λi zs d=>d=H/\zs=MV i V.non) (M4 (ax ∅)) #[10] (λi zs d _ z=>by rw[z.1];exact SqL.of av) ?_ ?_ (λi zs d z=>by rw[z.2,NR];exact MN _)]
 .rintro i x zs d B ⟨rfl,rfl⟩;erw[U,yesT #[U,Of.X]]
 rintro a8 d ⟨rfl,bg⟩ q hq;rw[a9]at bg;let s1:=aj hq (.lst a8);let al:(upd d q (.lst a8)) q=Z (.lst a8):=ag;let bG:a8.L=m:=by rw[bg,NR]
 generalize upd d q (.lst a8)=H1 at s1 al;erw[9,pp,U,#[_,SqL.of (s1 _ _ av)],aZ (K:=K) (xs:=pl.Z iV) (λi zs H3=>Same H1 H3/\(bK (λa=>H1 a≠lf) H3 zs (MV i [])/\Dist zs)) (M4 (ax ∅)) #[λ_ _ e=>e,#[U,λi l z=>nomatch z],λi j p z=>nomatch z] (λi zs H3 _ z=>SqL.of (z.1 _ _ (s1 _ _ av))) ?_ ?_ (λi zs H3 z=>by rw[z.2.1.1,NR];exact MN _)]
 .rintro i x zs H3 B ⟨s2,rx,ds⟩;erw[U,yesT #[(by show 0<=RO;decide),λr am=>?_]]
  let s3:=aj am (.lst []);erw[s2.P s3,15]
  .rw[Of]
   exact(rx.mono λb u _ e=>s3 b u e).snoc (λz=>z (by cases e:H1 r with
    |none=>rfl
    |some o=>rw[s2 _ _ e]at am;cases am)) ag
  .exact Mr rx ds am
 rintro zs H3 ⟨s2,rx,ds⟩ qz bU;rw[a9]at rx;let nz:∀ i:R,zs[i]?≠Z (V.ref qz):=λi e=>by
  let il:=(MF.mp e).1;let p a _ b:=rx.2 i _ (MG (by rw[← rx.1];exact il))
  rw[e]at a
  cases a
  rw[bU]at b
  cases b
 let nq:H1 q≠lf:=by rw[al];simp
 let s3:=aj bU (.lst zs);let z0:H1 qz=lf:=by
  cases y:H1 qz with
  |none=>rfl
  |some o=>rw[s2 _ _ y]at bU;cases bU
 let W0:WbH PL PS q qz m kr (ixL pl m) (ixL nm m) zs d H1 0 (λp=>rwN (ixL pl m) (ixL nm m) p 0) (upd H3 qz (.lst zs)):=#[s1.P (s2.P s3),#[a8,s3 _ _ (s2 _ _ al),bG,λj z=>Tn z (NM _)],ag,(show MV m []=(Nf m).Z λp=>rwN (ixL pl m) (ixL nm m) p 0 from by rw[show(λp=>rwN (ixL pl m) (ixL nm m) p 0)=λ_=>[] from rfl,List.map_const',Nl])▸rx.mono λb u _ e=>s3 b u e]
 erw[9,(m:Y),82,cL (n:=(m:Y).R) (λi L H4=>∃ v7 v8 v9,L=[Z (.ref pk),Z (.ref pp),Z (.ref pn),Z (.int c),Z (.int (m:Y)),Z (.ref q),Z (.ref qz),v7,v8,v9]/\WbH PL PS q qz m kr (ixL pl m) (ixL nm m) zs d H1 i (λp=>rwN (ixL pl m) (ixL nm m) p i) H4) #[149,W0] ?_ ?_]
 .rintro i L H4 N ⟨v7,v8,v9,rfl,W⟩;let N:i<m:=by let:i<(m:Y).R:=N;lia
  rw[N1];let im:i%m=i:=Nv N;let bY:=W.sm _ _ av;let a0:=aS i;rw[im]at a0;let a1:atI (pl.Z iV) (((i:Y)+1)%(m:Y))=Z (.int ((ixL pl m (i+1):R):Y)):=by rw[b5];exact aF (aS (i+1))
  erw[153,pp,661,SqL.of bY,aF a0,173647257,(show(0:Y)<(m:Y) by lia),pp,661,SqL.of bY,a1,3]
  let nx:∀(D:Ends),(∀(v7 v8 v9:j5 V)(H':Hp),WbH PL PS q qz m kr (ixL pl m) (ixL nm m) zs d H1 (i+1) (λp=>rwN (ixL pl m) (ixL nm m) p (i+1)) H'->D.nx [Z (.ref pk),Z (.ref pp),Z (.ref pn),Z (.int c),Z (.int (m:Y)),Z (.ref q),Z (.ref qz),v7,v8,v9] H')->∀ e:R×R,(e=(ixL pl m i,ixL pl m (i+1))∨e=(ixL pl m (i+1),ixL pl m i))->rW PL PS pk pp pn c m kr (ixL pl m) (ixL nm m) d 0 D [Z (.ref pk),Z (.ref pp),Z (.ref pn),Z (.int c),Z (.int (m:Y)),Z (.ref q),Z (.ref qz),Z (.int (i:Y)),Z (.int (e.1:Y)),Z (.int (e.2:Y))] H4:=λD hD e he=>#[q,qz,zs,H1,i,e,U,N,he,ds,s1,nq,#[hq,z0],nz,W,hD];erw[42393,Pg _,9893,ite2 (λ_=>?_) (λ_=>?_)]
  .erw[173647257,(show(0:Y)<(m:Y) by lia),pp,661,SqL.of bY,a1,3]
   erw[153,pp,661,SqL.of bY,aF a0,nx _ (λv7 v8 v9 H' W'=>?_) (ixL pl m (i+1),ixL pl m i) (.inr U)];erw[v7,v8,v9,U,W']
  .refine nx _ (λv7 v8 v9 H' W'=>?_) (ixL pl m i,ixL pl m (i+1)) (.inl U);erw[v7,v8,v9,U,W']
 rintro L H4 ⟨v7,v8,v9,rfl,W⟩;let W:WbH PL PS q qz m kr (ixL pl m) (ixL nm m) zs d H1 m (λp=>rwN (ixL pl m) (ixL nm m) p m) H4:=W;let sm{us bb ul ut}tz rx:=W;let ee b6 bm:=pick (α:=R×R) (ad:=λj e=>(e=(ixL pl m j,ixL pl m (j+1))∨e=(ixL pl m (j+1),ixL pl m j))/\∃ x dx k,us[ixL nm m j]?=Z (.ref x)/\kr[j]?=Z k/\H4 x=Z (.ins (cls PL PS (decide (k.1=1))) dx (tf (e.1:Y) (e.2:Y) k.2))) m λj hj=>by
  let x dx e k eK O h3 h4:=ut j hj;erw[e,h3,x,dx,k,eK,O,h4]
 let bH:(byN m nm ee (0,0)).L=m:=GG;let ca:(byN m nm kr (0,0)).L=m:=GG;let cb:∀ j,j<m->(byN m nm ee (0,0))[ixL nm m j]?=ee[j]?:=λj hj=>Kq n1 n2 n3 b6 hj;let b0:∀ j,j<m->(byN m nm kr (0,0))[ixL nm m j]?=kr[j]?:=λj hj=>Kq n1 n2 n3 aL hj;let cl:∀ k∈byN m nm kr (0,0),k∈kr:=λk M=>by
  let t ht:=Nx M;let j hj rfl:=BL n1 n2 n3 (show t<m by rw[← ca];exact(MF.mp ht).1)
  rw[b0 j hj]at ht;exact MH ht
 generalize byN m nm ee (0,0)=es at bH cb;generalize byN m nm kr (0,0)=ks at ca b0 cl;let ad:RgD m es _ (ixL pl m) (ixL nm m):=Lg m2 p1 p2 p3 n1 n2 n3 bH λj hj=>by
  let e eK O _:=bm j hj;erw[e,by rw[cb j hj];exact eK,O]
 let tt:oM PL PS H4 us es ks:=#[ul.P bH.X,λt e k eK O=>by
  let j hj rfl:=BL n1 n2 n3 (show t<m by rw[← bH];exact(MF.mp eK).1)
  let e' a1 _ x dx k' a2 a3 a4:=bm j hj;rw[cb j hj,a1]at eK;rw[b0 j hj,a3]at O
  cases eK
  cases O
  erw[x,dx,a2,a4]]
 let kl:ks.L=es.L:=ca.P bH.X;erw[2457,λx dx nx bi cc=>?_];let up:=up2 (o1:=.own x) (o2:=.ins WC dx []) nx bi;erw[x,WC,dx,q,qz,m,us,zs,es,9,ag,cw,up _ _ bb,(tt.at kl TL TS).mono up,up _ _ tz,(rx.off).mono up,ad.gr,20,ah,λfs q1 rs H' eK hg hn O h3 h4=>#[14]]
 let bQ:Same H4 H':=λb o z=>h4 b o (up _ _ z) (aH z nx);let cm:=λa (z:d a≠lf)=>Lf (sm.P up) z;exact kk x es _ rs ks H' (sm.P bQ) #[dx,fs,q1,us,eK,hg.mono (λ_ _ z=>z) cm,λz=>cm _ z hn,O,h3,tt.mono bQ] ad kl b0 cl
def sN(b:ke):R:=if b=kt then 1 else 0
def kdS(kr:Kn)(lack j:R):ke:=decide ((kr.v j (0,0)).1=1) ^^ decide (j=lack)
inductive Bi
 |mk (pk pp:fc)(m lack:R)(ws:E V)(kr:Kn)(pl:E R) (_:vs=[.ref pk,.ref pp,.int (lack:Y)])(_:H pk=Z (.lst ws))(_:gX H ws kr)(_:kr.L=m)(_:H pp=Z (.lst (pl.Z iV)))(_:pl.L=m)(_:(∀ x∈pl,x<m))(_:2<=m)(_:m<=40)(_:Q (.int ((finL m (rawL (ixL pl m) (xrP (kdS kr lack) id) m):R):Y)) H)
inductive yT
 |mk (v:V) (_:vs=[v,v])(_:(v=.non∨∃ i,v=.int i))(_:Q (.bl kt) H)
def cF:az ["kinds","places","lacking","laying","sign","k"] ["kinds","places","lacking"] (aq jM):=by ac_nf
def ES(F:Fun K "_law_laying" "_law_laying" jM f fd)(T:Txt mg):li 1 f fd ["kinds","places","lacking"] Bi:=by
 refine F.ok cF λI A eK s H o Q dO u h=>?_
 let pk pp m lack x kr y rfl ah a ab aa p1 p3 m2 j O:=h;let m0:0<m:=by lia
 let am:(y.Z iV).L=m:=by rw[MI,p1]
 let ac:∀ i,i<m->(y.Z iV)[i]?=Z (.int ((ixL y m i:R):Y)):=λi J=>by
  rw[MO,vj p1 J];rfl
 intro g G;erw[_,(af (aA 3 cF.nd ak)
   (af (aA 4 cF.nd ak)
   (af (mx (aP U T.n_range (ae (aE aB (by rfl) T.n_len bE (ae (pv 1) ai)) ai)) (bq 5 cF.nd) (af (aA 3 cF.nd (ay jB (pv 3) (ay bA (pv 4) (ba (pv 1) (pv 5)))))
   (ao (aA 4 cF.nd (ay eX (ay eX (pv 4) (bV (ba (pv 0) (pv 5)) ak)) (eE yA (by rfl) T.n_int GH (ae (l4 cH (pv 5) (pv 2) (aJ _)) ai)))))))
   (ao (aG (ay eX (pv 3) (ay gG (ay cV (pv 3) ak) (ay gF (ay bA ak (aE aB (by rfl) T.n_len bE (ae (pv 1) ai))) ak)))))))),3]
 erw[9,pp,9,.inl (SqL.of aa),329,cL (n:=(((y.Z iV).L:R):Y).R) (λi L d=>∃ r,L=[Z (.ref pk),Z (.ref pp),Z (.int (lack:Y)),Z (.int ((rawL (ixL y m) (xrP (kdS kr lack) id) i:R):Y)),Z (.int ((sN (xrP (kdS kr lack) id i):R):Y)),r]/\d=H) #[41] ?_ ?_]
 .rintro i L d J ⟨r,rfl,rfl⟩;rw[MU,am]at J;rw[N1];let k D:∃ k,kr[i]?=Z k:=#[_,MG ∅]
  let v B al t q:=a.2 i k D;let ln:Y:=lack;let an:∀(b:ke)(N p:R),Sf (N:Y) (((sN b:R):Y)*2^((p:R):Y).R)=((N|||(if b=kt then 2^p else 0):R):Y):=λb N p=>by
   cases b with
   |true=>
    show Sf (N:Y) (1*2^((p:R):Y).R)=_;rw[shlN,orN];rfl
   |false=>
    show Sf (N:Y) (0*2^((p:R):Y).R)=_;rw[Int.zero_mul];exact orN N 0
  let ap:∀ b:ke,Sh (Sh ((sN b:R):Y) k.1) (if decide (V.int (i:Y)=V.int (lack:Y))=kt then 1 else 0)=((sN (b ^^ kdS kr lack (id i)):R):Y):=λb=>by
   let e:kdS kr lack (id i)=(decide (k.1=1) ^^ decide (i=lack)):=by
    unfold kdS;rw[MX,show kr[id i]?=Z k from D];rfl
   let l:decide (V.int (i:Y)=V.int (lack:Y))=decide (i=lack):=decide_eq_decide.mpr #[λz=>O6 (V.int.inj z),λz=>by rw[z]]
   rw[e,l]
   cases decide (i=lack)<;>obtain z|z:=v<;>rw[z]<;>cases b<;>rfl
  let ar:∀ b:ke,sN b<=1:=λb=>by cases b<;>decide
  let C:=ar (xrP (kdS kr lack) id i);let aI:ixL y m i<m:=vi p1 m0 p3 i;erw[39321,pp,661,SqL.of aa,aF (ac i J),165,#[84],933]
  erw[2457,pk,x,165,SqL.of ah,aF t,al,_,00,41,SqT.of q,at0,170405,.inr #[14937]];erw[Z (.int (i:Y)),11];try dsimp only
  rw[an,ap];rfl
 rintro L d ⟨r,rfl,rfl⟩;rw[MU,am];let N2:∀ N:R,Sh (N:Y) (Se (N:Y) 1*(1*2^((m:R):Y).R-1))=((finL m N:R):Y):=λN=>by
  let e:Se (N:Y) 1=if N.O 0=kt then 1 else 0:=by
   let:=oX N 0;simpa using this
  let l:(1:Y)*2^((m:R):Y).R-1=((2^m-1:R):Y):=by
   rw[shlN];let:=Ph m;lia
  rw[e,l];unfold finL;by_cases c:N.O 0=kt
  .rw[Ti c,Ti c,Int.one_mul,xorN]
  .rw[Tj c,Tj c,Int.zero_mul];exact(xorN N 0).P (by rw[Nat.xor_zero])
 let av:∀ N:R,Se (N:Y) 1=0∨Se (N:Y) 1=1:=λN=>by
  let e:Se (N:Y) 1=(N:Y)%2:=O9 _ 1;lia
 let M:=av (rawL (ixL y m) (xrP (kdS kr lack) id) m);erw[632217,pp,9,.inl (SqL.of aa),3];rw[am];erw[165,#[20,by decide],42405,.inl (by constructor<;>lia),933]
 try dsimp only
 rw[N2];exact O
def wY:az ["found","due"] ["found","due"] (aq lP):=by ac_nf
def HR(F:Fun K "_law_whole" "_law_whole" lP f fd)(T:Txt mg):li 1 f fd ["found","due"] yT:=by
 refine F.ok wY λL A eK s H m Q dO u h=>?_
 let v rfl t N:=h
 intro J y;erw[_,(af (bJ (aD BD (pv 1) fZ (aJ _)) (ao (aG (l4 BD (pv 0) fZ (aJ _)))) aN)
   (ao (aG (JY (aE nW (by rfl) T.n_isinstance dq (ae (pv 0) (ae (qM (v:=.ty "int") U T.n_int GH U) ai))) (JY (pe_not (aE nW (by rfl) T.n_isinstance dq (ae (pv 0) (ae (qM (v:=.ty "bool") U T.n_bool Mx U) ai)))) (pe_one (l4 cH (pv 0) (pv 1) (aJ _)))))))),3]
 obtain rfl|⟨i,rfl⟩:=t
 .erw[617,ite2 (λ_=>#[233]) (λc=>Tn (Sx U) c)];rw[Sx (show V.non=V.non from rfl)];exact N
 .erw[617,ite2 (λc=>nomatch S8 c) (λ_=>?_)];erw[38233,TyOf.int i,Or.inl #[41],kit_ii K,9,iteT ?_];erw[38233,TyOf.int i,Or.inl #[41],kit_ib K,153,iteT #[3737]];rw[Sx (show V.int i=V.int i from rfl)];exact N
def okV(v:V):Prop:=v=.non∨∃ i,v=.int i
inductive yV
 |mk (a b:fc)(zs us:E V)(n:R) (_:vs=[.ref a,.ref b])(_:H a=Z (.lst zs))(_:H b=Z (.lst us))(_:zs.L=n)(_:us.L=n)(_:n<=40)(_:(∀ t,t<n->∃ r r' v0 v1,zs[t]?=Z (.ref r)/\H r=Z (.tup [v0,v1])/\us[t]?=Z (.ref r')/\H r'=Z (.tup [v0,v1])/\okV v0/\okV v1))(_:Q (.bl kt) H)
def oO:az ["found","due","k"] ["found","due"] (aq lQ):=by ac_nf
def HY(F:Fun K "_law_pairs" "_law_pairs" lQ f fd)(T:Txt mg)(e:lw 1 "_law_whole" ["found","due"] yT p G):li 2 f fd ["found","due"] yV:=by
 refine F.ok oO λN A eK s H o Q dO u h=>?_
 let a b I z n rfl O M B ul aa m l:=h
 intro g y;erw[_,(af (bJ (PW.pt (zw (m7 (lC (aE nW (by rfl) T.n_isinstance dq (ae (pv 0) (ae (qM (v:=.ty "list") U T.n_list jv U) ai))))) (qJ (aD l7 (aE aB (by rfl) T.n_len bE (ae (pv 0) ai)) (aE aB (by rfl) T.n_len bE (ae (pv 1) ai)) (aJ _))))) (ao (aG oA)) aN)
   (af (mx (aP U T.n_range (ae (aE aB (by rfl) T.n_len bE (ae (pv 1) ai)) ai)) (bq 2 oO.nd) (af (bJ (PW.pt (zw (m7 (lC (aE nW (by rfl) T.n_isinstance dq (ae (ba (pv 0) (pv 2)) (ae (qM (v:=.ty "tuple") U T.n_tuple Jo U) ai))))) (qJ (aD l7 (aE aB (by rfl) T.n_len bE (ae (ba (pv 0) (pv 2)) ai)) ak (aJ _))))) (ao (aG oA)) aN)
   (ao (bJ (PW.pt (zw (m7 (lC (e.c u (ae (bV (ba (pv 0) (pv 2)) ak) (ae (bV (ba (pv 1) (pv 2)) ak) ai))))) (qJ (m7 (lC (e.c u (ae (bV (ba (pv 0) (pv 2)) ak) (ae (bV (ba (pv 1) (pv 2)) ak) ai)))))))) (ao (aG oA)) aN))))
   (ao (aG oA)))),3]
 erw[38233,TyOf.lst O,Or.inl #[41],Kg K,9,iteF ?_];erw[9,a,9,.inl (SqL.of O),9,b,9,.inl (SqL.of M),38,xM (by rw[B,ul]) ?_]
 erw[9,b,9,.inl (SqL.of M),329,cL (n:=(z.L:Y).R) (λi L d=>∃ x,L=[Z (.ref a),Z (.ref b),x]/\d=H) #[41] ?_ ?_]
 .rintro i L d J ⟨x,rfl,rfl⟩;rw[MU,ul]at J;rw[N1];let r q v0 C k D t j o0 o1:=m i J;erw[153,a,661,SqL.of O,aF k,2389,TyOf.tup D,Or.inl #[41],kit_tt K,9,iteF ?_];erw[153,a,661,SqL.of O,aF k,r,9,.inr (SqT.of D),38,xM U ?_];erw[153,a,661,SqL.of O,aF k,r,_,00,41,SqT.of D,at0,153,b,661,SqL.of M,aF t,q,_,00,41,SqT.of j,at0,v0,U,o0,3];erw[9,iteF ?_];erw[153,a,661,SqL.of O,aF k,r,_,01,41,SqT.of D,at1,153,b,661,SqL.of M,aF t,q,_,01,41,SqT.of j,at1,C,U,o1,3];erw[9,iteF #[41]]
 .rintro L d ⟨x,rfl,rfl⟩;exact l
structure TxtW(mg:fI->j5 eN):Prop extends Txt mg where
 n_abs:mg "abs"=lf
def krS(kr:Kn)(j:R):Y:=(kr.v j (0,0)).2
def Jw(kr:Kn)(m k:R)(x:Y):Prop:=(∃ j,j<m/\j≠k/\krS kr j=x)/\∀ j,j<m->j≠k->x<=krS kr j
def wkA(kr:Kn)(k:R)(x:Y):Y:=if(kr.v k (0,0)).1=1 then krS kr k else x
def wkB(kr:Kn)(k:R)(x:Y):Y:=if(kr.v k (0,0)).1=1 then x else krS kr k
def wyG(g:Y)(a b:Y):E V:=if g=1 then setV a b else twV a b
def WyH(g:Y)(m:R)(kr:Kn)(Nm:R->R)(q:fc)(H:Hp)(n:R)(H':Hp):Prop:=o5/\(H q=lf/\∃ o:E V,H' q=Z (.lst o)/\(o.L=m/\∀ k,k<n->∃ r x,o[Nm k]?=Z (.ref r)/\(Jw kr m k x/\H' r=Z (.tup (wyG g (wkA kr k x) (wkB kr k x))))))
def WyH.mono{g:Y}{kr:Kn}(h:WyH g m kr Nm q H n H1)(s:Same H1 H2):WyH g m kr Nm q H n H2:=by
 let a b o c d e:=h;erw[a.P s,b,o,s _ _ c,d,λk D=>?_];let r x f A B:=e k D;erw[r,x,f,A,s _ _ B]
inductive JE
 |mk (pk pn:fc)(m:R)(wh:Y)(ws:E V)(kr:Kn)(nm:E R) (_:vs=[.ref pk,.ref pn,.int wh])(_:H pk=Z (.lst ws))(_:gX H ws kr)(_:kr.L=m)(_:H pn=Z (.lst (nm.Z iV)))(_:2<=m)(_:m<=40)(_:(nm.L=m/\nm.h/\∀ x∈nm,x<m))(_:(wh=0∨wh=1))(_:∀(q:fc)(H':Hp),WyH wh m kr (ixL nm m) q H m H'->Q (.ref q) H')
inductive rY(pk pn:fc)(wh:Y)(m:R)(kr:Kn)(Nm:R->R)(H:Hp)(d:ke)(D:L2.Ends)(σ:L2.St)(H':L2.Hp):Prop
 |mk (q:fc)(i:R)(x:Y)(v5 v6 v7 v10:j5 V) (_:σ=[Z (.ref pk),Z (.ref pn),Z (.int wh),Z (.ref q),Z (.int (i:Y)),v5,v6,v7,Z (.int (wkA kr i x)),Z (.int (wkB kr i x)),v10])(_:i<m)(_:Jw kr m i x)(_:WyH wh m kr Nm q H i H')(_:(d=kt->∃ t,v10=Z (.ref t)/\H' t=Z (.tup (wyG wh (wkA kr i x) (wkB kr i x)))))(_:∀(v4 v5 v6 v7 v8 v9 v10:j5 V)(H2:Hp),WyH wh m kr Nm q H (i+1) H2->D.nx [Z (.ref pk),Z (.ref pn),Z (.int wh),Z (.ref q),v4,v5,v6,v7,v8,v9,v10] H2)
def bo:az ["kinds","numbers","which","found","k","wish","strength","rest","alike","unlike","pair"] ["kinds","numbers","which"] (aq oq):=by ac_nf
def Lx(F:Fun K "_law_ways" "_law_ways" oq f fd)(T:TxtW mg):li 1 f fd ["kinds","numbers","which"] JE:=by
 refine F.ok bo λaa A g s H e Q dO u h=>?_
 let pk pn m wh ws kr nm rfl av tk an am m2 ah{n1 n2 n3}hw kk:=h;let m0:0<m:=by lia
 let ar:ws.L=m:=tk.1.P an;let a4:∀ i,i<m->(nm.Z iV)[i]?=Z (.int ((ixL nm m i:R):Y)):=λi J=>by
  rw[MO,vj n1 J];rfl
 intros;erw[_,(af (lY 3 [] ["kind"] bo.nd (aM (pv 0)) pg_c pt_c (λC ex s H=>fZ))
   (af (mx (aP U T.n_range (ae (aE aB (by rfl) T.n_len bE (ae (pv 0) ai)) ai)) (bq 4 bo.nd) (af (lD (ba (pv 0) (pv 4)) (iA U (aC (bq 5 bo.nd) (aC (bq 6 bo.nd) bx))))
   (af (aA 7 bo.nd (aE (rP U) (by rfl) T.n_min oW (ae (cM [("kinds",0),("k",4)] ["j"] (aP U T.n_range (ae (aE aB (by rfl) T.n_len bE (ae (pv 0) ai)) ai)) pg_c (λC ex s H=>(fV (aD l7 (pv 0) (pv 2) (aJ _)))) (λC ex s H=>(pA K (pB K (pv 1) (pv 0)) ak))) ai)))
   (af (aA 8 bo.nd (pv 7))
   (af (aA 9 bo.nd (pv 6))
   (af (bJ (aD cH (pv 5) ak (aJ _)) (af (aA 8 bo.nd (pv 6))
   (ao (aA 9 bo.nd (pv 7)))) aN)
   (fX (t2:=rY pk pn wh m kr (ixL nm m) H k9) (af (aA 10 bo.nd (bN (ae (pv 8) (ae (pv 9) ai))))
   (af (bJ (PW.pt (Bx (aD cH (pv 2) ak (aJ _)) (zx (aD cH (pv 8) (pv 9) (aJ _))))) (ao (aA 10 bo.nd (bN (ae fZ (ae ak ai))))) (ao (bJ (aD cH (pv 2) ak (aJ _)) (ao (aA 10 bo.nd (bN (ae (eE yA (by rfl) T.n_int GH (ae (l4 uO (pv 9) (pv 8) (aJ _)) ai)) (ae (aE Jn (by rfl) T.n_abs bt_abs (ae (ay gF (pv 8) (pv 9)) ai)) ai))))) aN)))
   (fX (t2:=rY pk pn wh m kr (ixL nm m) H kt) (ao (lD (pv 10) (m9 (pv 3) (ba (pv 1) (pv 4)) e9))) (λD0 S0 H0 h0=>?r2)))) (λD0 S0 H0 h0=>?r1))))))))
   (ao (aG (pv 3))))),3]
 case r1=>
  let q i x v5 v6 v7 al rfl J B W _ ac:=h0;generalize hA:wkA kr i x=a;generalize hB:wkB kr i x=b;let go:∀(t:fc)(G:E V)(H':Hp),Same H0 H'->H' t=Z (.tup G)->G=wyG wh a b->rY pk pn wh m kr (ixL nm m) H kt D0 [Z (.ref pk),Z (.ref pn),Z (.int wh),Z (.ref q),Z (.int (i:Y)),v5,v6,v7,Z (.int a),Z (.int b),Z (.ref t)] H':=λt G H' s N o=>#[q,i,x,v5,v6,v7,_,by rw[hA,hB],J,B,W.mono s,λ_=>#[t,U,by rw[N,o,hA,hB]],ac]
  erw[153,(by show 2<=RO;decide),λt M=>?_]
  let v:=aj M (.tup [.int a,.int b]);obtain rfl|rfl:=hw
  .erw[617,iteF ?_];refine iteF ?_;erw[617,iteF (go t _ _ v ag U)]
  .erw[617,iteT ?_];erw[9881,ite2 (λc=>?_) (λc=>?_)]
   .let ab:a=b:=V.int.inj (S8 c)
    erw[(by show 2<=RO;decide),λt2 ap=>go t2 _ _ (v.P (aj ap _)) ag ?_]
    unfold wyG setV;rw[Ti U,Tj ∅,Tj ∅]
   .let ab:a≠b:=λz=>c (Sx (congrArg V.int z))
    erw[617,iteT ?_];erw[42393,.inr #[10115481,(by show 2<=RO;decide),λt2 ap=>go t2 _ _ (v.P (aj ap _)) ag ?_]]
    unfold wyG setV;rw[Ti U];by_cases z:a<b
    .rw[Ti z,RN (show ¬ b<a by lia),Tj Nr,Ti (show a-b<0 by lia),Int.neg_sub]
    .rw[Tj z,Ti (show b<a by lia),Sx (show b<a by lia),Ti U,Tj (show ¬ a-b<0 by lia)]
 case r2=>
  let q i x v5 v6 v7 al rfl J B W hy ac:=h0;let t rfl M:=hy U;let sm q0 us p ul ut:=W;let aS:=sm _ _ am;let nl:=vi n1 m0 n3 i;erw[39321,pn,661,SqL.of aS,aF (a4 i J),q,us,_,ixL nm m i,10,p,iu ∅,3]
  refine ac _ _ _ _ _ _ _ _ #[aK sm q0 _,q0,_,ag,by rw[N5];exact ul,λk l=>?_]
  by_cases z:k=i
  .subst z;erw[t,x,Pe ∅,B,by rw[aw λy=>by rw[y,p]at M;cases M];exact M]
  .let r y N o e3:=ut k ∅
   erw[r,y,3,o,by rw[aw λy=>by rw[y,p]at e3;cases e3];exact e3]
   rw[Pq]
   .exact N
   .intro y;let:=(qU n1 m0 n2 _ _).mp y;rw[Nv J,Nv ∅]at this
    exact z this.X
 erw[9,pk,U,#[_,SqL.of av],aZ (K:=K) (xs:=ws) (λi I d=>d=H/\I=MV i V.non) (M4 (ax ∅)) #[10] (λi I d _ z=>by rw[z.1];exact SqL.of av) ?_ ?_ (λi I d z=>by rw[z.2,NR];exact MN _)]
 .rintro i x I d B ⟨rfl,rfl⟩;erw[U,yesT #[U,Of.X]]
 rintro aL d ⟨rfl,a0⟩ q p;rw[ar]at a0;let v:=aj p (.lst aL);let a2:aL.L=m:=by rw[a0,NR]
 let W0:WyH wh m kr (ixL nm m) q d 0 (upd d q (.lst aL)):=#[v,p,aL,ag,a2,λk z=>Tn z (NM _)];erw[9,pk,9,.inl (SqL.of (v _ _ av)),329,cL (n:=((ws.L:R):Y).R) (λi L H4=>∃ v4 v5 v6 v7 v8 v9 al,L=[Z (.ref pk),Z (.ref pn),Z (.int wh),Z (.ref q),v4,v5,v6,v7,v8,v9,al]/\WyH wh m kr (ixL nm m) q d i H4) #[38229,W0] ?_ ?_]
 .rintro i L H4 J ⟨v4,v5,v6,v7,v8,v9,al,rfl,W⟩;rw[MU,ar]at J;rw[N1];let a3:=W.1 _ _ av;let k l:∃ k,kr[i]?=Z k:=#[_,MG ∅]
  let k1 k2 aI y1 y2:=(tk.mono W.1).2 i k l;let kS:∀{j:R}{k:Y×Y},kr[j]?=Z k->krS kr j=k.2:=λ{j k} h=>by
   unfold krS;rw[MX,h];rfl
  let a5:(kr.v i (0,0)).1=k.1:=by rw[MX,l];rfl
  erw[153,pk,ws,165,SqL.of a3,aF y1,aI,9,SqT.of y2,238998];erw[9,pk,9,.inl (SqL.of a3),9,Pg _,Int.lt_of_le_of_lt (Int.ofNat_le.mpr (show ws.L<=40 by rw[ar];exact ah)) ∅,dI (k:=((ws.L:R):Y).R) (λj I H5=>H5=H4/\I=(((Nf j).filter λj=>decide (j≠i)).Z (krS kr)).Z V.int) (by rw[MU];exact M4 (ax ∅)) #[10] ?_ ?_ ?_]
  .rintro j I H5 hj ⟨rfl,rfl⟩;rw[MU,ar]at hj;rw[N1];let kj a6:∃ k,kr[j]?=Z k:=#[_,MG ∅]
   let _ _ a7 u1 u2:=(tk.mono W.1).2 j kj a6;rw[Oq,OG,M0,M0];erw[39526,ite2 (λc=>?_) (λc=>?_)]
   .let c':j≠i:=λz=>by rw[z,Sx U]at c;cases c
    rw[OO (by exact Sx c'),Pk]
    erw[153,pk,ws,165,SqL.of a3,aF u1,a7,_,01,41,SqT.of u2,at1,14];show _=_++[V.int (krS kr j)];rw[kS a6]
   .let c':j=i:=NY λz=>c (by
     rw[RN (show ¬ V.int (j:Y)=V.int (i:Y) from λy=>z (O6 (V.int.inj y)))];rfl)
    rw[OP (by exact λz=>S8 z c'),Pk]
    erw[U,(NT _).X]
  .rintro I H5 ⟨rfl,rfl⟩ D hD;rw[MU,ar];let sD:=aj hD (.lst ((((Nf m).filter λj=>decide (j≠i)).Z (krS kr)).Z V.int));let mm:∀ y,y∈((Nf m).filter λj=>decide (j≠i)).Z (krS kr)↔∃ j,j<m/\j≠i/\krS kr j=y:=λy=>by
    rw[Nc];constructor
    .rintro⟨j,eK,O⟩;let h3 h4:=N0.mp eK;erw[j,Nk.mp h3,S8 h4,O]
    .rintro⟨j,eK,O,h3⟩;erw[j,N0.mpr #[Nk.mpr eK,Sx O],h3]
   let a1:0<(((Nf m).filter λj=>decide (j≠i)).Z (krS kr)).L:=by
    by_cases z:i=0
    .exact Om ((mm _).mpr #[01,52])
    .exact Om ((mm _).mpr #[00,4,λy=>z y.X,U])
   erw[D,9,SqL.of ag,a1,λx B aT=>?_];let rk:Jw kr m i x:=#[(mm x).mp B,λj eK O=>aT _ ((mm _).mpr #[j,eK,O,U])];let W5:=W.mono sD;erw[158105,ite2 (λc=>?_) (λc=>?_)]
   .let c':k.1=1:=V.int.inj (S8 c)
    erw[153,q,i,x,Z (.int k.1),Z (.int k.2),Z (.int x),al,3,J,rk,W5,(λz=>nomatch z),λv4 v5 v6 v7 v8 v9 al d W'=>#[38229,W']];unfold wkA wkB;rw[a5,Ti c',Ti c',kS l];rfl
   .let c':¬ k.1=1:=λz=>c (Sx (congrArg V.int z))
    erw[q,i,x,Z (.int k.1),Z (.int k.2),Z (.int x),al,3,J,rk,W5,(λz=>nomatch z),λv4 v5 v6 v7 v8 v9 al d W'=>#[38229,W']];unfold wkA wkB;rw[a5,Tj c',Tj c',kS l];rfl
  .rintro j I H5 ⟨_,rfl⟩;rw[MI,MI];exact NH (Oa _ _) (by rw[Nl];exact MN _)
 .rintro L H4 ⟨v4,v5,v6,v7,v8,v9,al,rfl,W⟩;rw[MU,ar]at W;erw[9,kk q H4 W]
inductive Bj(K:MJ)(TT:fc)
 |mk (a:fc)(ns:E Y) (_:vs=[.ref a])(_:pi a (ns.Z V.int))(_:ns.L<=63)(_:Tb KF.lqF KF.lpF TT H)(_:∀ H',Q (.bl kt) H')
def Ea(s:KF.SmT H H')(h:pi a xs):SqL K H' a xs:=by
 rcases h with(h|⟨o,h⟩)|h
 .exact .inl (.inl (s _ _ (λN z=>by cases z) h))
 .exact .inl (.inr #[o,s _ _ (λN z=>by cases z) h])
 .exact .inr h
theorem gX.smT{ks:Kn}(h:gX H ws ks)(s:KF.SmT H H'):gX H' ws ks:=#[h.1,λi k z=>by
 let a b p c d:=h.2 i k z
 erw[a,b,p,c,s.tup d]]
theorem tG(P:R->R){X eK:R->ke}:∀ n,(∀ j,j<n->X j=eK j)->rawL P X n=rawL P eK n
 |0,_=>rfl
 |n+1,h=>by
  show rawL P X n|||_=rawL P eK n|||_
  rw[tG P n λj L=>h j ∅,h n (Oe n)]
structure LwS(TT PL PS WC:fc)(H:Hp)(m:R)(pk pp pn p:fc)(ws:E V)(kr:Kn)(pl nm:E R)(es:En)(ts rs:oD)(ks:Kn)(ls:E KF.Lk):Prop where
 wl:WebL TT PL PS WC H p m es ts rs ks ls
 ad:RgD m es ts (ixL pl m) (ixL nm m)
 hpk:H pk=Z (.lst ws)
 tk:gX H ws kr
 krl:kr.L=m
 hpp:H pp=Z (.lst (pl.Z iV))
 p1:pl.L=m
 p3:∀ x∈pl,x<m
 hpn:H pn=Z (.lst (nm.Z iV))
 n:nm.L=m/\nm.h/\∀ x∈nm,x<m
 m40:m<=40
 hk:∀ j,j<m->ks[ixL nm m j]?=kr[j]?
 od:xrP (bp ks) (ixL nm m) m=kt
 kb:∀ k∈kr,1<=k.2
section
variable{TT PL PS WC:fc}{H:Hp}{m:R}{pk pp pn p:fc}{ws:E V}{kr:Kn}{pl nm:E R}{es:En}{ts rs:E (E R)}{ks:Kn}{ls:E KF.Lk}
theorem LwS.smT(L:LwS TT PL PS WC H m pk pp pn p ws kr pl nm es ts rs ks ls){H':Hp}(s:KF.SmT H H')(tb:Tb KF.lqF KF.lpF TT H'):LwS TT PL PS WC H' m pk pp pn p ws kr pl nm es ts rs ks ls:=
 #[L.wl.smT s tb,L.ad,s.lst L.hpk,L.tk.smT s,L.krl,s.lst L.hpp,L.p1,L.p3,s.lst L.hpn,L.n,L.m40,L.hk,L.od,L.kb]
def LwS.kat(L:LwS TT PL PS WC H m pk pp pn p ws kr pl nm es ts rs ks ls)(c:j<m):∃ k,kr[j]?=Z k/\krS kr j=k.2/\(kr.v j (0,0)).1=k.1/\stg ks (ixL nm m j)=k.2/\bp ks (ixL nm m j)=decide (k.1=1):=by
 let a:j<kr.L:=by rw[L.krl];exact c
 let D:kr[j]?=Z kr[j]:=MG a;let O:=(L.hk j c).P D;erw[_,D,15,DQ O,oz O]
 .unfold krS;rw[MX,D];rfl
 .rw[MX,D];rfl
def LwS.lay(L:LwS TT PL PS WC H m pk pp pn p ws kr pl nm es ts rs ks ls){k:R}(D:k<m):finL m (rawL (ixL pl m) (xrP (kdS kr k) id) m)=layR m (ixL pl m) (ixL nm m) ks k:=by
 unfold layR;congr 1;refine tG _ m λn T=>pO n λi J=>?_;let b eK O G dO s:=L.kat (show i<m by lia)
 unfold kdS lkS;rw[show(kr.v (id i) (0,0)).1=b.1 from G,s,show decide (id i=k)=decide (ixL nm m i=ixL nm m k) from decide_eq_decide.mpr #[λz=>by rw[show i=k from z],λz=>(show i=k from L.ad.inj (show i<m by lia) D ((L.ad.np _ _).mp z))]]
def LwS.due(L:LwS TT PL PS WC H m pk pp pn p ws kr pl nm es ts rs ks ls){d:Y}(T:∃ j,j<m/\krS kr j=d)(a:∀ j,j<m->d<=krS kr j){due:E R}(hd:∀ x,x∈due↔∃ k,k<m/\krS kr k=d/\x=layR m (ixL pl m) (ixL nm m) ks k)(d':R)(ex:∃ l∈ls,l.2.2=(d':Y))(lo:∀ l∈ls,(d':Y)<=l.2.2)(x:R):x∈due↔x<2^m/\x.O 0=k9/\wT es ks x=(d':Y):=by
 let rg:=L.wl.rg;let s:=L.ad.el;let lst:∀ t,t<m->(KF.lkA ls t).2.2=stg ks t:=λt g=>rg.o.st ∅
 let n:d=(d':Y):=by
  let l M e:=ex;let t g:=Nx M;let z:t<m:=by rw[← s,← rg.o.d.ln];exact(MF.mp g).1
  let j c rfl:=L.ad.ns z;let k _ O _ dO _:=L.kat c;let r:=a j c;let u:=lst _ z;rw[KF.lkA_is g,e]at u;let y A Q:=T;let b _ v _ B _:=L.kat A;let b1:=rg.st_ge lo (show ixL nm m y<es.L by rw[s];exact L.ad.nl y)
  lia
 subst n;let w f h:=ex;let:=rg.w1 w f;rw[hd,L.ad.due (ks:=ks) L.od (show 1<=d' by lia) rg.nn (λi _=>rg.st_ge lo (by rw[s];exact L.ad.nl i)) rg.lack]
 constructor
 .rintro⟨k,eK,O,G⟩;let b _ u _ q _:=L.kat eK;erw[k,eK,by rw[q,← u];exact O,G]
 .rintro⟨k,eK,O,G⟩;let b _ u _ q _:=L.kat eK;erw[k,eK,by rw[u,← q];exact O,G]
def LwS.ways(L:LwS TT PL PS WC H m pk pp pn p ws kr pl nm es ts rs ks ls){k:R}(D:k<m){c x:Y}(eK:Rest ks m (ixL nm m k) c)(h2:Jw kr m k x):wyA ks (ixL nm m k) c=wkA kr k x/\wyB ks (ixL nm m k) c=wkB kr k x:=by
 let e:c=x:=by
  let{t r u I}q:=eK;let{j b1 b2 b3}b4:=h2;let i J rfl:=L.ad.ns r;let v _ l _ n _:=L.kat J;let w _ a _ M _:=L.kat b1;let c1:=b4 i J λz=>u (by rw[z])
  let c2:=q (ixL nm m j) (L.ad.nl j) λz=>b2 (L.ad.inj b1 D ((L.ad.np _ _).mp z));lia
 subst e;let b _ f A B d:=L.kat D;unfold wyA wyB wkA wkB;rw[d,B,f,A];by_cases z:b.1=1
 .rw[Sx z,Ti U,Ti z,Ti U,Ti z];erw[10]
 .rw[RN z,Tj Nr,Tj z,Tj Nr,Tj z];erw[10]
end
def set_ok(a b:Y):∃ c v1,setV a b=[c,v1]/\okV c/\okV v1:=by
 unfold setV;split
 .erw[37,.inr #[9],.inr #[9]]
 .split
  .erw[37,.inr #[9],.inr #[9]]
  .erw[37,.inl U,.inr #[9]]
inductive JH(TM TT PL PS WC:fc)
 |mk (p:fc)(b m:R)(es:En)(ts rs:oD)(ks:Kn)(ls:E KF.Lk)(due:E R) (_:vs=[.ref p,.int (b:Y)])(_:WebL TT PL PS WC H p m es ts rs ks ls)(_:(∃ pl,Cyc m es pl))(_:1<=b)(_:b<=40)(_:0<due.L)(_:due.L<=40)(_:due.f (· < ·))(_:(∀ d:R,(∃ l∈ls,l.2.2=(d:Y))->(∀ l∈ls,(d:Y)<=l.2.2)->∀ L,L∈due↔L<2^m/\L.O 0=k9/\wT es ks L=(d:Y)))(_:b<due.L)(_:∀ H':Hp,KF.SmT H H'->Tb KF.lqF KF.lpF TT H'->Q (.bl kt) H')
def g9:az ["web","most","refused"] ["web","most"] (aq iS):=by ac_nf
def LC{TT PS:fc}(F:Fun K "_law_refused" "_law_refused" iS f fd)(T:TxtA mg a)(M:ExC K a)(t:∀ c,c=a->PX K c (.ref a)=Z kt)(d:CalD P w K mg base 14 "all_least" ["web","most"] (Hk a TT q PS I) C G):li 15 f fd ["web","most"] (JH a TT q PS I):=by
 refine F.ok g9 λL A eK s H o Q dO u h=>?_
 let p b m O g k e y due rfl j cyc b1 aa ne ab r n bd N:=h
 intro J D;erw[_,(af (aA 2 g9.nd oA)
   (af (Lp (Cs:=(λc=>c=a)) U U U U T.g_TooMany M t (λB XE W x=>(ao (aW (xk d.ok (u.mono ∅) U d.mg d.kp d.bn .nil x U (ae (pv 0) (ae (pv 1) ai)))))) (λv=>(ao (aA 2 g9.nd oA))))
   (ao (aG (pv 2))))),3]
 erw[153,p,b,m,O,g,k,e,y,due,U,j,cyc,b1,aa,ne,ab,r,n,λz=>Tn z ∅,λ_ l sm i=>?_]
 erw[a,154,N _ sm i]
inductive rA(K:MJ)(TT PL PS WC a:fc)(ns:E Y)(Q:VK)(D:L2.Ends)(σ:L2.St)(H:L2.Hp):Prop
 |mk (m:R)(pk pp pn p:fc)(ws:E V)(kr:Kn)(pl nm:E R)(es:En)(ts rs:oD)(ks:Kn)(ls:E KF.Lk) (_:σ=[Z (.ref a),Z (.int (m:Y)),Z (.ref pp),Z (.ref pn),Z (.ref pk),Z (.ref p),lf,lf,lf,lf,lf])(_:pi a (ns.Z V.int))(_:LwS TT PL PS WC H m pk pp pn p ws kr pl nm es ts rs ks ls)(_:D.rt=Q)
inductive rB(K:MJ)(TT PL PS WC a:fc)(ns:E Y)(Q:VK)(D:L2.Ends)(σ:L2.St)(H:L2.Hp):Prop
 |mk (m:R)(pk pp pn p:fc)(ws:E V)(kr:Kn)(pl nm:E R)(es:En)(ts rs:oD)(ks:Kn)(ls:E KF.Lk)(v6:j5 V)(qd:fc)(due:E R) (_:σ=[Z (.ref a),Z (.int (m:Y)),Z (.ref pp),Z (.ref pn),Z (.ref pk),Z (.ref p),v6,Z (.ref qd),lf,lf,lf])(_:pi a (ns.Z V.int))(_:LwS TT PL PS WC H m pk pp pn p ws kr pl nm es ts rs ks ls)(_:H qd=Z (.lst (due.Z iV)))(_:due.L<=m)(_:0<due.L)(_:due.f (· < ·))(_:(∀ d:R,(∃ l∈ls,l.2.2=(d:Y))->(∀ l∈ls,(d:Y)<=l.2.2)->∀ L,L∈due↔L<2^m/\L.O 0=k9/\wT es ks L=(d:Y)))(_:D.rt=Q)
inductive rC(K:MJ)(TT PL PS WC a:fc)(ns:E Y)(Q:VK)(D:L2.Ends)(σ:L2.St)(H:L2.Hp):Prop
 |mk (m:R)(pk pp pn p:fc)(ws:E V)(kr:Kn)(pl nm:E R)(es:En)(ts rs:oD)(ks:Kn)(ls:E KF.Lk)(v6 v7 v8 v9:j5 V) (_:σ=[Z (.ref a),Z (.int (m:Y)),Z (.ref pp),Z (.ref pn),Z (.ref pk),Z (.ref p),v6,v7,v8,v9,lf])(_:pi a (ns.Z V.int))(_:LwS TT PL PS WC H m pk pp pn p ws kr pl nm es ts rs ks ls)(_:D.rt=Q)
def jF:az ["script","many","places","numbers","kinds","web","least_one","due","found","k","which"] ["script"] (aq uA):=by ac_nf
def ok_law{TT fC fO fK fW fL fH fA fR fB fS fP fY PL PS WC:fc}{dK dW dL dH dA dR dB dS dP dY:ge}(F:Fun K "law" "law" uA f fd)(T:TxtA mg I)(cw:CW K WC)(ah:lw 1 "_law_cell" ["script","k"] (D6 K) fC G)(a9:lw 1 "_law_order" ["cell","many"] DX fO J)(bG:lw 2 "_law_kinds" ["script","many"] (D4 K) fK dK)(bU:lw 7 "_law_web" ["kinds","places","numbers","cell"] (JI PL PS WC) fW dW)(bm:lw 1 "_law_laying" ["kinds","places","lacking"] Bi fL dL)(aI:lw 1 "_law_whole" ["found","due"] yT fH dH)(al:CalD P w K mg base 14 "all_least" ["web","most"] (Hk I TT PL PS WC) fA dA)(bi:lw 15 "_law_refused" ["web","most"] (JH I TT PL PS WC) fR dR)(aT:lw 14 "both_ways" ["web"] (D8 twV TT PL PS WC) fB dB)(bQ:lw 15 "set_ties" ["web"] (D8 setV TT PL PS WC) fS dS)(bb:lw 2 "_law_pairs" ["found","due"] yV fP dP)(bd:lw 1 "_law_ways" ["kinds","numbers","which"] JE fY dY):li 16 f fd ["script"] (Bj K TT):=by
 refine F.ok jF λab A aa s H vs Q dO u h=>?_
 let a ns rfl hS cc tb kk:=h;let ar:=u.units
 intros;erw[_,(af (aA 1 jF.nd (ay cg ak (ay eI (ah.c u (ae (pv 0) (ae ak ai))) ak)))
   (af (aA 2 jF.nd (a9.c u (ae (ah.c u (ae (pv 0) (ae ak ai))) (ae (pv 1) ai))))
   (af (aA 3 jF.nd (a9.c u (ae (ah.c u (ae (pv 0) (ae ak ai))) (ae (pv 1) ai))))
   (af (aA 4 jF.nd (bG.c u (ae (pv 0) (ae (pv 1) ai))))
   (af (aA 5 jF.nd (bU.c u (ae (pv 4) (ae (pv 2) (ae (pv 3) (ae (ah.c u (ae (pv 0) (ae ak ai))) ai))))))
   (fX (t2:=rA K TT PL PS WC a ns Q) (af (aA 6 jF.nd (aE (rP U) (by rfl) T.n_min oW (ae (cM [] ["kind"] (aM (pv 4)) pg_c pt_c (λC ex s H=>(pA K (pv 0) ak))) ai)))
   (af (aA 7 jF.nd (aE ju (by rfl) T.n_sorted iE (ae (cM [("places",2),("least_one",6),("kinds",4)] ["k"] (aP U T.n_range (ae (pv 1) ai)) pg_c (λC ex s H=>(fV (aD cH (pA K (pB K (pv 3) (pv 0)) ak) (pv 2) (aJ _)))) (λC ex s H=>(bm.c u (ae (pv 3) (ae (pv 1) (ae (pv 0) ai)))))) ai)))
   (fX (t2:=rB K TT PL PS WC a ns Q) (af (aA 8 jF.nd (xk al.ok (u.mono ∅) U al.mg al.kp al.bn .nil (W:=λ_ _ _ _=>False) (λ_ _ _ _ _ _ _ _ _ _ _ _ _ z=>z.elim) U (ae (pv 5) (ae (aE aB (by rfl) T.n_len bE (ae (pv 7) ai)) ai))))
   (af (bJ (PW.pt (zw (m7 (lC (aE nW (by rfl) T.n_isinstance dq (ae (pv 8) (ae (qM (v:=.ty "list") U T.n_list jv U) ai))))) (qJ (aD l7 (aE aB (by rfl) T.n_len bE (ae (pv 8) ai)) (aE aB (by rfl) T.n_len bE (ae (pv 7) ai)) (aJ _))))) (ao (aG oA)) aN)
   (af (mx (aP U T.n_range (ae (aE aB (by rfl) T.n_len bE (ae (pv 7) ai)) ai)) (bq 9 jF.nd) (ao (bJ (m7 (lC (aI.c u (ae (ba (pv 8) (pv 9)) (ae (ba (pv 7) (pv 9)) ai))))) (ao (aG oA)) aN)))
   (af (bJ (PW.pt (Bx (aD Ck (aE aB (by rfl) T.n_len bE (ae (pv 7) ai)) ak (aJ _)) (zx (m7 (lC (bi.c u (ae (pv 5) (ae (ay gF (aE aB (by rfl) T.n_len bE (ae (pv 7) ai)) ak) ai)))))))) (ao (aG oA)) aN)
   (fX (t2:=rC K TT PL PS WC a ns Q) (af (aA 10 jF.nd (ay eI (ah.c u (ae (pv 0) (ae ak ai))) ak))
   (af (bJ (aD cH (pv 10) ak (aJ _)) (ao (aG (bb.c u (ae (aT.c u (ae (pv 5) ai)) (ae (bd.c u (ae (pv 4) (ae (pv 3) (ae ak ai)))) ai))))) aN)
   (ao (aG (bb.c u (ae (bQ.c u (ae (pv 5) ai)) (ae (bd.c u (ae (pv 4) (ae (pv 3) (ae ak ai)))) ai))))))) (λD0 S0 H0 h0=>?r3)))))) (λD0 S0 H0 h0=>?r2)))) (λD0 S0 H0 h0=>?r1))))))),3]
 case r1=>
  let m pk pp pn p ws kr pl nm es ts rs ks ls rfl hS L er:=h0;let m2:=L.ad.m2;let am:=L.m40;let a6:=L.krl;let be:ws.L=m:=L.tk.1.P a6;erw[9,pk,U,#[_,SqL.of L.hpk],aZ (K:=K) (xs:=ws) (λi zs o=>o=H0/\zs=((kr.x i).Z (·.2)).Z V.int) (M4 (ax (by ac_rfl))) #[10] (λi zs o _ z=>by rw[z.1];exact SqL.of L.hpk) ?_ ?_ (λi zs o z=>by rw[z.2,MI,MI,NQ];exact O0 _ _)]
  .rintro i x zs o B ⟨rfl,rfl⟩;let N:i<m:=by rw[← be];exact(MF.mp B).1
   let k hk _:=L.kat N;let _ _ bg y1 y2:=L.tk.2 i k hk;rw[B]at y1
   cases y1
   erw[U,yesT #[9,bg,_,01,41,SqT.of y2,at1,14]];rw[M5,hk,M0,M0];rfl
  rintro zs o ⟨rfl,rfl⟩ D1 cl;rw[be,show kr.x m=kr by rw[← a6,M8]]
  let s1:=aj cl (.lst ((kr.Z (·.2)).Z V.int));let cd:(upd o D1 (.lst ((kr.Z (·.2)).Z V.int))) D1=Z (.lst ((kr.Z (·.2)).Z V.int)):=ag;let L1:=L.smT (.of s1) (KF.tb_same L.wl.tb s1);let aS:=s1.seq hS;generalize upd o D1 (.lst ((kr.Z (·.2)).Z V.int))=H3 at s1 cd L1 aS;erw[D1,kr.Z (·.2),U,SqL.of cd,by rw[MI];ac_rfl,λd hd bH=>?_]
  let kS:∀ j,j<m->krS kr j∈kr.Z (·.2):=λj hj=>by
   let k eK O _:=L.kat hj;rw[O];exact Oc (MH eK)
  let d1:∃ j,j<m/\krS kr j=d:=by
   let k eK O:=Nc.mp hd;let j hj:=Nx eK;let jm:j<m:=by rw[← a6];exact(MF.mp hj).1
   let k' e1 e2 _:=L.kat jm;rw[hj]at e1
   cases e1
   erw[j,jm,e2.P O]
  let d2:∀ j,j<m->d<=krS kr j:=λj hj=>bH _ (kS j hj);erw[9,(m:Y),U,by ac_rfl,by ac_rfl,dI (k:=(m:Y).R) (λj zs H5=>H5=H3/\zs=(((Nf j).filter λk=>decide (krS kr k=d)).Z (layR m (ixL pl m) (ixL nm m) ks)).Z iV) (by rw[MU];exact M4 (ax (by ac_rfl))) #[10] ?_ ?_ ?_]
  .rintro j zs H5 hj ⟨rfl,rfl⟩;rw[MU]at hj;rw[N1];let k hk b5 _:=L.kat hj;let _ _ bg y1 y2:=L1.tk.2 j k hk;rw[Oq,OG,M0,M0];erw[614,pk,ws,165,SqL.of L1.hpk,aF y1,bg,_,01,41,SqT.of y2,at1,617,ite2 (λc=>?_) (λc=>?_)]
   .let c':krS kr j=d:=b5.P (V.int.inj (S8 c))
    rw[OO (by exact Sx c'),Pk]
    erw[2457,pk,pp,m,j,ws,kr,pl,U,L1.hpk,L1.tk,a6,L1.hpp,L.p1,L.p3,m2,am,14];rw[L.lay hj];rfl
   .let c':¬ krS kr j=d:=λz=>c (Sx (congrArg V.int (b5.X.P z)))
    rw[OP (by exact λz=>c' (S8 z)),Pk]
    erw[U,(NT _).X]
  .rintro zs H5 ⟨rfl,rfl⟩ D2 ce;rw[MU];let lst bY:∃ lst,((Nf m).filter λk=>decide (krS kr k=d)).Z (layR m (ixL pl m) (ixL nm m) ks)=lst:=#[9];rw[bY];let mem:∀ x,x∈lst↔∃ k,k<m/\krS kr k=d/\x=layR m (ixL pl m) (ixL nm m) ks k:=λx=>by
    rw[← bY,Nc];constructor
    .rintro⟨k,eK,O⟩;let h3 h4:=N0.mp eK;erw[k,Nk.mp h3,S8 h4,O.X]
    .rintro⟨k,eK,O,h3⟩;erw[k,N0.mpr #[Nk.mpr eK,Sx O],h3.X]
   let nd:lst.h:=by
    rw[← bY];refine OC.mpr ((List.nodup_range.filter _).imp_of_mem λha M ne e=>ne ?_);exact L.ad.lay_inj L.od (Nk.mp (N0.mp ha).1) (Nk.mp (N0.mp M).1) e
   let len:lst.L<=m:=by
    rw[← bY,MI];exact NH (Oa _ _) (by rw[Nl];exact MN _)
   let b6:0<lst.L:=by
    let j hj e:=d1;exact Om ((mem _).mpr #[j,hj,e,U])
   let s2:=aj ce (.lst (lst.Z iV));let em:∀ l:E R,(l.Z λx:R=>(x:Y)).Z V.int=l.Z iV:=λl=>by rw[NX];rfl
   erw[D2,lst.Z λx:R=>(x:Y),U,SqL.of (by rw[em];exact ag),by rw[MI];ac_rfl,λl ap hl hp hs=>?_]
   let due ch:∃ due,due=ap.Z Int.toNat:=#[9];let eo:ap=due.Z λx:R=>(x:Y):=by
    rw[ch,NX];refine((Od (g:=id) λx B=>?_).P (Rk _)).X;let y _ rfl:=Nc.mp (hp.mem_iff.mp B);rfl
   let pm:due.Perm lst:=by
    rw[ch];let:=hp.Z Int.toNat;rw[NX]at this;exact this.P (List.Perm.of_eq ((Od (g:=id) λx _=>rfl).P (Rk _)))
   let cm:due.h:=pm.nodup_iff.mpr nd;let bB:due.f (· < ·):=by
    rw[eo]at hs;let both:=(OC.mp hs).and cm;refine both.imp ?_;exact λ{x y} h=>Nat.lt_of_le_of_ne (Int.ofNat_le.mp h.1) h.2
   let s3:=s2.P (aj hl (.lst (ap.Z V.int)));erw[m,pk,pp,pn,p,ws,kr,pl,nm,es,ts,rs,ks,ls,Z (.int d),l,due,U,s3.seq aS,L1.smT (.of s3) (KF.tb_same L1.wl.tb s3),by rw[ag,eo,em],by rw[pm.length_eq];exact len,by rw[pm.length_eq];exact b6,bB,L.due d1 d2 λx=>pm.mem_iff.P (mem x),er]
  .rintro j zs H5 ⟨_,rfl⟩;rw[MI,MI];exact NH (Oa _ _) (by rw[Nl];exact MN _)
 case r2=>
  let m pk pp pn p ws kr pl nm es ts rs ks ls v6 qd due rfl hS L b0 dm d0 bB bv er:=h0;let m2:=L.ad.m2;let am:=L.m40;let dl:(due.Z iV).L=due.L:=MI _;erw[153,qd,9,.inl (SqL.of b0),3];rw[dl];erw[p,due.L,m,es,ts,rs,ks,ls,due,U,L.wl,#[_,L.ad.cyc],d0,by ac_rfl,d0,by ac_rfl,bB,bv,λ_ q H1 av a5 hq=>?_,λz=>Tn z (Ob _)]
  let L1:=L.smT av a5;let bR:=av.lst b0;let aS:=Ea av hS;erw[38233,TyOf.lst hq,Or.inl #[41],Kg K,9,iteF ?_];erw[9,q,9,.inl (SqL.of hq),9,qd,9,.inl (SqL.of bR),38,xM U ?_];erw[9,qd,9,.inl (SqL.of bR),9,by ac_rfl,by ac_rfl,cL (n:=(((due.Z iV).L:R):Y).R) (λi D o=>∃ v9,D=[Z (.ref a),Z (.int (m:Y)),Z (.ref pp),Z (.ref pn),Z (.ref pk),Z (.ref p),v6,Z (.ref qd),Z (.ref q),v9,lf]/\o=H1) #[41] ?_ ?_]
  .rintro i D o N ⟨v9,rfl,rfl⟩;rw[MU,dl]at N;rw[N1];let di:(due.Z iV)[i]?=Z (iV due[i]):=by rw[MO,MG N];rfl
   erw[153,q,661,SqL.of hq,aF di,153,qd,661,SqL.of bR,aF di,9,.inr #[9],3];erw[9,iteF #[41]]
  rintro D o ⟨v9,rfl,rfl⟩;let go:∀ H3:Hp,KF.SmT o H3->Tb KF.lqF KF.lpF TT H3->rC K TT PL PS WC a ns Q D0 [Z (.ref a),Z (.int (m:Y)),Z (.ref pp),Z (.ref pn),Z (.ref pk),Z (.ref p),v6,Z (.ref qd),Z (.ref q),v9,lf] H3:=λH3 s3 a0=>#[m,pk,pp,pn,p,ws,kr,pl,nm,es,ts,rs,ks,ls,597,Ea s3 aS,L1.smT s3 a0,er];erw[9,qd,9,.inl (SqL.of bR),14757];rw[dl];refine ite2 (λc=>?_) (λc=>?_)
  .let c':(1:Y)<(due.L:Y):=S8 c
   erw[153,qd,9,.inl (SqL.of bR),165,p,due.L-1,m,es,ts,rs,ks,ls,due,3,L1.wl,#[_,L.ad.cyc],by ac_rfl,by ac_rfl,d0,by ac_rfl,bB,bv,by ac_rfl,λH3 a8 a0=>#[9,iteF (go H3 a8 a0)]]
   show[V.ref p,V.int (((due.Z iV).L:Y)-1)]=_;rw[dl,show((due.L:R):Y)-1=((due.L-1:R):Y) by ac_rfl]
  .exact iteF (go _ (KF.SmT.of λ_ _ z=>z) L1.wl.tb)
 case r3=>
  let m pk pp pn p ws kr pl nm es ts rs ks ls v6 v7 v8 v9 rfl hS L er:=h0;let m2:=L.ad.m2;let am:=L.m40;let el:=L.ad.el;let two:=L.n;let ac:∀(g:Y->Y->E V)(wh:Y),(∀ a b,g a b=wyG wh a b)->(∀ a b,∃ v0 v1,g a b=[v0,v1]/\okV v0/\okV v1)->∀(q qu:fc)(zs:E V)(H1 o:Hp)(Qx:VK)(Ex:XK),H1 q=Z (.lst zs)->tj g H1 zs ks es.L es.L->WyH wh m kr (ixL nm m) qu H1 m o->Qx (.bl kt) o->yV [.ref q,.ref qu] o Qx Ex:=λg wh hg gk q qu zs H1 o Qx Ex hq pa W hQ=>by
   let an _ us hu ul ut:=W;erw[q,qu,zs,us,m,U,an _ _ hq,hu,pa.1.P el,ul,am,λt ht=>?_,hQ];let k hk rfl:=L.ad.ns ht;let r c a1 a2 a3:=pa.2 (ixL nm m k) (by ac_rfl)
   let r' x b1 b2 b3:=ut k hk;rw[el]at a2;let w1 w2:=L.ways hk a2 b2;rw[w1,w2]at a3;rw[← hg]at b3;let v0 v1 e o0 o1:=gk (wkA kr k x) (wkB kr k x);rw[e]at a3 b3;erw[r,r',v0,v1,a1,an _ _ a3,b1,b3,o0,o1]
  erw[9,a,01,ns,U,hS,165,(by decide:(0:Y)<2),3]
  erw[617,ite2 (λc=>?_) (λc=>?_)]
  .erw[9,p,m,es,ts,rs,ks,ls,U,L.wl,λq zs H1 av a5 hq pa=>?_];let L1:=L.smT av a5;erw[153,pk,pn,m,00,ws,kr,nm,U,L1.hpk,L1.tk,L1.krl,L1.hpn,m2,am,L.n,.inl U,λqu o W=>?_];exact ac twV 0 (λa b=>by unfold wyG;rw[Tj ∅]) (λa b=>#[37,.inr #[9],.inr #[9]]) q qu zs H1 o _ E0 hq pa W (by show D0.rt (.bl kt) o;rw[er];exact kk _)
  .erw[9,p,m,es,ts,rs,ks,ls,U,L.wl,λq zs H1 av a5 hq pa=>?_];let L1:=L.smT av a5;erw[153,pk,pn,m,01,ws,kr,nm,U,L1.hpk,L1.tk,L1.krl,L1.hpn,m2,am,L.n,.inr U,λqu o W=>?_];exact ac setV 1 (λa b=>by unfold wyG;rw[Ti U]) set_ok q qu zs H1 o _ E0 hq pa W (by show D0.rt (.bl kt) o;rw[er];exact kk _)
 let m em m2 am:∃ m:R,2+cj ns 0%39=(m:Y)/\2<=m/\m<=40:=#[(2+cj ns 0%39).R,by ac_rfl,by ac_rfl,by ac_rfl]
 erw[9,a,00,ns,U,hS,165,(by decide:(0:Y)<39),933]
 show sy 1 (V.int (2+cj ns 0%39)) _ _ _;rw[em];erw[9,a,01,ns,U,hS,9,cj ns 1,m,U,by ac_rfl,λpp pl H1 s1 cb a4 p1 p2 p3=>?_]
 let aS:=s1.seq hS;erw[9,a,02,ns,U,aS,9,cj ns 2,m,U,by ac_rfl,λpn nm o s2 co aL n1 n2 n3=>?_]
 let a7:=s2.seq aS;erw[153,a,m,ns,U,a7,cc,m2,am,λpk ws kr H3 s3 bf tk a6 kb od=>?_];let ca:=s3.seq a7;erw[39321,a,07,ns,U,ca,pk,pp,pn,cj ns 7,m,ws,kr,pl,nm,U,bf,tk,a6,s3 _ _ (s2 _ _ a4),s3 _ _ aL,m2,am,#[p1,p2,p3],#[n1,n2,n3],λp es ts rs ks H4 s4 wf ad kl hk km=>?_];let cn:=((s1.P s2).P s3).P s4;let ci:xrP (bp ks) (ixL nm m) m=kt:=by
  rw[← od];refine pO m λi N=>?_;let eK:kr[i]?=Z kr[i]:=MG (by ac_rfl)
  rw[oz ((hk i N).P eK),MX,show kr[id i]?=Z kr[i] from eK];rfl
 let ls rg:=ad.rg am wf kl (λk hk=>by
  let i N:=Nx (km k hk)
  exact(tk.2 i k N).1) (λk hk=>kb k (km k hk)) ci
 erw[m,pk,pp,pn,p,ws,kr,pl,nm,es,ts,rs,ks,ls,U,s4.seq ca,#[#[#[_,wf],rg,KF.tb_same tb cn],ad,s4 _ _ bf,tk.mono s4,a6,s4 _ _ (s3 _ _ (s2 _ _ a4)),p1,p3,s4 _ _ (s3 _ _ aL),#[n1,n2,n3],am,hk,ci,λk hk=>(kb k hk).1],U]
open KF (pU kJ jN pR ux Bt Bs Ht dQ iU cp iQ pS mX m5 m6 pT uB iP)
structure GF(K:MJ)(x:fI)(st:hr)(f:fc)(fd:ge):Prop where
 a:NJ K RQ x=Z (Z (.ref f))
 F:Fun K x x st f fd
structure Wr(P:hx)(w:ix)(K:MJ)(mg:fI->j5 eN)(base:fo):Prop where
 g:∀{x:fI}{v:eN},NJ K RQ x=Z (Z v)->mg x=Z v
section
variable{P:hx}{w:ix}{K:MJ}{mg:fI->j5 eN}{base:fo}{x p p2 p3 p4 p5 p6:fI}{ps:E fI}{st:hr}{f:fc}{fd:ge}{k:R}{sp:Sp}
def Bn(x:fI)(st:hr)(us:E eN)(r:E (fI×eN)):Prop:=∀ kV C B p L j,bindArgs (NV x x (bO st) (bz st) (aq st) .none kV C B p L j) #[us,[]]=pure r
theorem GF.b(g:GF K x st f fd)(h:∀ us:E eN,us.L=ps.L->Bn x st us (ps.zip us)):gz K fd ps []:=g.F.binds λkV C B p L j us M=>h us M kV C B p L j
theorem Wr.c(W:Wr P w K mg base)(g:GF K x st f fd)(b:gz K fd ps [])(o:li k f fd ps sp):lw k x ps sp f fd:=#[o,b,W.g g.a,g.F.kp]
theorem Wr.c0(W:Wr P w K mg base)(g:GF K x st f fd)(o:li k f fd [] sp)(h:Bn x st [] []:=by intros _ _ _ _ _ _;rfl):lw k x [] sp f fd:=W.c g (g.b λz l=>match z,l with | [],_=>h) o
theorem GF.b1(g:GF K x st f fd)(h:∀ u,Bn x st [u] [(p,u)]):gz K fd [p] []:=g.b λo l=>by let _ rfl:=IF l;exact h _
theorem GF.b2(g:GF K x st f fd)(h:∀ u v,Bn x st [u,v] [(p,u),(p2,v)]):gz K fd [p,p2] []:=g.b λo l=>by let _ _ rfl:=L4 l;exact h _ _
theorem GF.b3(g:GF K x st f fd)(h:∀ u v y,Bn x st [u,v,y] [(p,u),(p2,v),(p3,y)]):gz K fd [p,p2,p3] []:=g.b λo l=>by let _ _ _ rfl:=len_3 l;exact h _ _ _
theorem GF.b4(g:GF K x st f fd)(h:∀ u v y z,Bn x st [u,v,y,z] [(p,u),(p2,v),(p3,y),(p4,z)]):gz K fd [p,p2,p3,p4] []:=g.b λo l=>by let _ _ _ _ rfl:=L3 l;exact h _ _ _ _
theorem Wr.c1(W:Wr P w K mg base)(g:GF K x st f fd)(o:li k f fd [p] sp)(h:∀ u,Bn x st [u] [(p,u)]:=by intros _ _ _ _ _ _ _;rfl):lw k x [p] sp f fd:=W.c g (g.b1 h) o
theorem Wr.c2(W:Wr P w K mg base)(g:GF K x st f fd)(o:li k f fd [p,p2] sp)(h:∀ u v,Bn x st [u,v] [(p,u),(p2,v)]:=by intros _ _ _ _ _ _ _ _;rfl):lw k x [p,p2] sp f fd:=W.c g (g.b2 h) o
theorem Wr.c3(W:Wr P w K mg base)(g:GF K x st f fd)(o:li k f fd [p,p2,p3] sp)(h:∀ u v y,Bn x st [u,v,y] [(p,u),(p2,v),(p3,y)]:=by intros _ _ _ _ _ _ _ _ _;rfl):lw k x [p,p2,p3] sp f fd:=W.c g (g.b3 h) o
theorem Wr.c4(W:Wr P w K mg base)(g:GF K x st f fd)(o:li k f fd [p,p2,p3,p4] sp)(h:∀ u v y z,Bn x st [u,v,y,z] [(p,u),(p2,v),(p3,y),(p4,z)]:=by intros _ _ _ _ _ _ _ _ _ _;rfl):lw k x [p,p2,p3,p4] sp f fd:=W.c g (g.b4 h) o
end
def Hg{c T:fc}{o1:eN}{o2 b:j5 fc}{g h:kf (j5 eN)}{vs:kf eN}(a:NJ K RQ x=Z (Z (.ref f)))(l:K.Y f=Z #[o1,o2,.func fd,g])(e:fd.code=.ref c)(d:K.Y c=Z #[u,b,.fields vs,h])(v:vs[11]?=Z (.ref T)):Pn K x=Z (c,T):=by
 unfold Pn;rw[a];simp only[l,e,d,v]
def all_mk{l:Rh}{w:ix}{K:MJ}{h:fo}{mg:fI->j5 eN}{A iG bR bQ jw N Q a0 FU FT Jb CM vE IX Mj sL Aw qZ Ap IZ FR FX Ao IY I8 xW vz Aq vF CI CP qv Am FY Ja Mo CK CJ Ml xS vC q8 sM CF rf CD xX sG Ay xZ js bY iD bH cy cz gs aa FV CQ xU An CG vA sJ qY cW ab xV vB sO Ax FQ CH CO Au Av FW xY Ar As CN vD Mm:fc}{cT TT:fc}{O:eN}{dT:j5 fc}{vT:kf eN}{f:kf (j5 eN)}(X:K.In h)(G:h.Ns RQ mg) (m:mg "law"=Z (.ref A))
  {Il Jr EW GP xw yJ uT wB zO A6 pC pM uQ wz uR wA xy yK uP wy ac Kv:j5 fc} {Hn Ec wU um yZ pf uj uk wV ui ah:kf (j5 eN)} {Im II Je HG we Jm EX Fp F9 Ew yx Gy xA xI yb xf oR yt uX vh vL uI nV wc zP Ab AI zH rO AZ pE pF pI pz jA pJ uV vf vJ uG nQ vY uW vg vK uH nU vZ xB xJ yc xg oU yu uU ve vI uF nP vX al Kh Km JX GB Ko:eN}
  {B D:Tok}
  {u:Tok}
  {B2:fc} {Gx:eN} {Gw:j5 fc} {Gv:R} {Gu:kf (j5 eN)}
  {rM:fc} {yr:eN} {yq:j5 fc} {yp:R} {yo:kf (j5 eN)}
  {am an a1 Gg Ge Jk C5 Jf Ms sV AV rH AM Jh Gd Gk AL Jg Ji yg vN AN vU C1 C8 AJ Gs Jj Mv C4 C3 Mu yd vQ rJ sW CY rL CV yh sQ AX yk ap Gi C9 ye AK CZ vO sU rG ar yf vP sY AW Ga C0 C7 AS AU Gj yi AO AQ C6 vS:ge}
  (oK:NJ K RQ "TooMany"=Z (Z (.ref iG)))
  (A8:NJ K RQ "Pull"=Z (Z (.ref bR)))
  (A7:NJ K RQ "Push"=Z (Z (.ref bQ)))
  (GQ:NJ K RQ "Web"=Z (Z (.ref jw)))
  (jW:Nw K (.ref bR) "__init__"=Z (Z (.ref bY)))
  (jV:Nw K (.ref bR) "wish"=Z (Z (.ref iD)))
  (ir:Nw K (.ref bR) "across"=Z (Z (.ref cz)))
  (dG:Nw K (.ref bR) "unpleased"=Z (Z (.ref bH)))
  (iq:Nw K (.ref bR) "signed"=Z (Z (.ref cy)))
  (jU:Nw K (.ref bQ) "__init__"=Z (Z (.ref bY)))
  (jT:Nw K (.ref bQ) "wish"=Z (Z (.ref gs)))
  (ik:Nw K (.ref bQ) "across"=Z (Z (.ref cz)))
  (dE:Nw K (.ref bQ) "unpleased"=Z (Z (.ref bH)))
  (ij:Nw K (.ref bQ) "signed"=Z (Z (.ref cy)))
  (mB:Nw K (.ref jw) "__init__"=Z (Z (.ref cW)))
  (BS:GF K "bits" Bt N am)
  (BQ:GF K "ones" Bs Q an)
  (IS:GF K "odd" Ht a0 a1)
  (iC:GF K "mask_of" mZ FU Gg)
  (nH:GF K "reached" mY FT Ge)
  (qp:GF K "beyond" pU Jb Jk)
  (k7:GF K "links_at" kJ CM C5)
  (pZ:GF K "row_to" pR IX Jf)
  (vo:GF K "whole" ux Mj Ms)
  (d7:GF K "refuse_marks" dQ sL sV)
  (jo:GF K "chosen_of" iU Aw AV)
  (bG:GF K "laid_in_pairs" cp qZ rH)
  (jd:GF K "new_table" iQ Ap AM)
  (qi:GF K "paired" pS IZ Jh)
  (nG:GF K "root_of" mX FR Gd)
  (nL:GF K "heights" m5 FX Gk)
  (jb:GF K "paid_over" iP Ao AL)
  (qe:GF K "pushes" uy IY Jg)
  (qj:GF K "odd_at" uz I8 Ji)
  (gQ:GF K "odd_rounds" jK xW yg)
  (fq:GF K "refuse_ties" iM vz vN)
  (je:GF K "laying_of" lM Aq AN)
  (fE:GF K "ends_within" iT vF vU)
  (kX:GF K "order_of" oi CI C1)
  (lh:GF K "front_of" ox CP C8)
  (i8:GF K "ties_back" lK Am AJ)
  (nM:GF K "dryings" m6 FY Gs)
  (qm:GF K "joined" pT Ja Jj)
  (vq:GF K "hills" uB Mo Mv)
  (kZ:GF K "links_of" oo CK C4)
  (kY:GF K "marks_of" oj CJ C3)
  (vp:GF K "least" zm Ml Mu)
  (gN:GF K "tight_ties" jH xS yd)
  (fy:GF K "near_places" iR vC vQ)
  (c9:GF K "kept_on_front" fT q8 rJ)
  (d8:GF K "narrow_order" hX sM sW)
  (kQ:GF K "signings" n9 CF CY)
  (de:GF K "cost_if_tight" fU rf rL)
  (kP:GF K "stations" n8 CD CV)
  (gR:GF K "moves_from" jL xX yh)
  (dX:GF K "signs_behind" hG sG sQ)
  (jr:GF K "all_moves" lV Ay AX)
  (gW:GF K "best_moves" jO xZ yk)
  (BR:GF K "head" El aa ap)
  (nJ:GF K "leaving" qG FV Gi)
  (lj:GF K "follower" oy CQ C9)
  (gO:GF K "round_from" jI xU ye)
  (i9:GF K "rounds_of" lL An AK)
  (kU:GF K "sides_of" og CG CZ)
  (fu:GF K "refuse_ends" iN vA vO)
  (dZ:GF K "refuse_turns" hO sJ sU)
  (c8:GF K "refuse_parted" fQ qY rG)
  (BP:GF K "roof" Ek ab ar)
  (gP:GF K "paid_alike" jJ xV yf)
  (fx:GF K "paid_unlike" iO vB vP)
  (d9:GF K "both_ways_of" ic sO sY)
  (jq:GF K "both_ways" lU Ax AW)
  (nE:GF K "setting" qF FQ Ga)
  (kW:GF K "set_ties" oh CH C0)
  (lg:GF K "_law_cell" ou CO C7)
  (ji:GF K "_law_order" lR Au AS)
  (jj:GF K "_law_kinds" lT Av AU)
  (nK:GF K "_law_web" qH FW Gj)
  (gU:GF K "_law_laying" jM xY yi)
  (jf:GF K "_law_whole" lP Ar AO)
  (jg:GF K "_law_pairs" lQ As AQ)
  (k8:GF K "_law_ways" oq CN C6)
  (fz:GF K "_law_refused" iS vD vS)
  (rS:NJ K RQ "fares"=Z (Z (.ref vE)))
  (vc:K.Y vE=Z #[Im,Il,.func (NV "fares" "fares" (bO jN) (bz jN) (aq jN) .none II Je HG Jr we Jm),Hn])
  (A2:N7 K we "fares"=kt)
  (vd:NK K (.ref vE)=kt)
  (wD:NJ K RQ "fronts"=Z (Z (.ref qv)))
  (u9:K.Y qv=Z #[EX,EW,.func (NV "fronts" "fronts" (bO kK) (bz kK) (aq kK) (.ref B2) Fp F9 Ew GP yx Gy),Ec])
  (qR:K.Y B2=Z #[Gx,Gw,.seq [eN.none].toArray Gv,Gu])
  (wm:N7 K yx "fronts"=kt)
  (pX:NK K (.ref qv)=kt)
  (mL:NJ K RQ "all_least"=Z (Z (.ref js)))
  (mC:K.Y js=Z #[xA,xw,.func (NV "all_least" "all_least" (bO dy) (bz dy) (aq dy) (.ref rM) xI yb xf yJ oR yt),wU])
  (jX:K.Y rM=Z #[yr,yq,.seq [eN.int 64 u].toArray yp,yo])
  (mJ:N7 K oR "all_least"=kt)
  (iZ:NK K (.ref js)=kt)
  (j6:K.Y bY=Z #[uX,uT,.func (NV "__init__" "Tie.__init__" (bO cU) (bz cU) (aq cU) .none vh vL uI wB nV wc),um])
  (ku:N7 K nV "Tie.__init__"=kt)
  (j8:NK K (.ref bY)=kt)
  (gM:O1 K (.ref bY)=kt)
  (oF:K.Y iD=Z #[zP,zO,.func (NV "wish" "Tie.wish" (bO fF) (bz fF) (aq fF) .none Ab AI zH A6 rO AZ),yZ])
  (oJ:N7 K rO "Tie.wish"=kt)
  (kN:NK K (.ref iD)=kt)
  (oH:O1 K (.ref iD)=kt)
  (gn:K.Y bH=Z #[pE,pC,.func (NV "unpleased" "Tie.unpleased" (bO bT) (bz bT) (aq bT) .none pF pI pz pM jA pJ),pf])
  (gu:N7 K jA "Tie.unpleased"=kt)
  (cu:NK K (.ref bH)=kt)
  (c7:O1 K (.ref bH)=kt)
  (jZ:K.Y cy=Z #[uV,uQ,.func (NV "signed" "Tie.signed" (bO cQ) (bz cQ) (aq cQ) .none vf vJ uG wz nQ vY),uj])
  (ki:N7 K nQ "Tie.signed"=kt)
  (eM:NK K (.ref cy)=kt)
  (gH:O1 K (.ref cy)=kt)
  (j4:K.Y cz=Z #[uW,uR,.func (NV "across" "Tie.across" (bO cS) (bz cS) (aq cS) .none vg vK uH wA nU vZ),uk])
  (ko:N7 K nU "Tie.across"=kt)
  (eO:NK K (.ref cz)=kt)
  (gK:O1 K (.ref cz)=kt)
  (mD:K.Y gs=Z #[xB,xy,.func (NV "wish" "Push.wish" (bO dz) (bz dz) (aq dz) .none xJ yc xg yK oU yu),wV])
  (mK:N7 K oU "Push.wish"=kt)
  (i4:NK K (.ref gs)=kt)
  (mF:O1 K (.ref gs)=kt)
  (jY:K.Y cW=Z #[uU,uP,.func (NV "__init__" "Web.__init__" (bO cP) (bz cP) (aq cP) .none ve vI uF wy nP vX),ui])
  (kd:N7 K nP "Web.__init__"=kt)
  (j7:NK K (.ref cW)=kt)
  (j9:O1 K (.ref cW)=kt)
  (Jt:NJ K RQ "law"=Z (Z (.ref Mm)))
  (L6:K.Y Mm=Z #[al,ac,.func (NV "law" "law" (bO uA) (bz uA) (aq uA) .none Kh Km JX Kv GB Ko),ah])
  (Mw:N7 K GB "law"=kt)
  (L9:NK K (.ref Mm)=kt)
  (kE:RF K iG veM "ValueError.__new__"=kt)
  (c6:PX K iG (.ref iG)=Z kt)
  (zJ:O8 K bR fI.empty=kt)
  (Ai:Po K bR=kt)
  (zG:PH K bR=kt)
  (zj:Nw K (.ref bR) "__setattr__"=Z (Z (.builtin "object.__setattr__")))
  (zV:P0 K bR=kt)
  (Aa:NK K (.ref bR)=kt)
  (mz:Nw K (.ref bR) "one"=Z lf)
  (my:Nw K (.ref bR) "two"=Z lf)
  (eR:Nw K (.ref bR) "strength"=Z lf)
  (zI:O8 K bQ fI.empty=kt)
  (Ag:Po K bQ=kt)
  (zF:PH K bQ=kt)
  (zi:Nw K (.ref bQ) "__setattr__"=Z (Z (.builtin "object.__setattr__")))
  (zU:P0 K bQ=kt)
  (z8:NK K (.ref bQ)=kt)
  (mw:Nw K (.ref bQ) "one"=Z lf)
  (mr:Nw K (.ref bQ) "two"=Z lf)
  (eQ:Nw K (.ref bQ) "strength"=Z lf)
  (EC:O8 K jw fI.empty=kt)
  (FG:Po K jw=kt)
  (Eu:PH K jw=kt)
  (Ej:Nw K (.ref jw) "__setattr__"=Z (Z (.builtin "object.__setattr__")))
  (E8:P0 K jw=kt)
  (Fo:NK K (.ref jw)=kt)
  (mh:Nw K (.ref jw) "many"=Z lf)
  (ma:Nw K (.ref jw) "ties"=Z lf)
  (jR:Nw K (.ref jw) "turns"=Z lf)
  (iY:Nw K (.ref jw) "rounds"=Z lf)
  (jS:Nw K (.ref jw) "sides"=Z lf)
  (Aj:NJ K RQ "MOST_MARKS"=Z (Z (.int 14 B)))
  (Ak:NJ K RQ "MOST_ODD"=Z (Z (.int 12 D)))
  (KC:NJ K RQ "len"=Z lf)
  (KD:NJ K RQ "int"=Z lf)
  (Dw:NJ K RQ "bool"=Z lf)
  (Du:NJ K RQ "list"=Z lf)
  (yN:NJ K RQ "tuple"=Z lf)
  (yO:NJ K RQ "range"=Z lf)
  (lF:NJ K RQ "enumerate"=Z lf)
  (jC:NJ K RQ "isinstance"=Z lf)
  (Kz:NJ K RQ "min"=Z lf)
  (Kx:NJ K RQ "sum"=Z lf)
  (tX:NJ K RQ "sorted"=Z lf)
  (KA:NJ K RQ "max"=Z lf)
  (Kw:NJ K RQ "zip"=Z lf)
  (KG:NJ K RQ "abs"=Z lf)
  (Dv:NJ K RQ "dict"=Z lf)
  (nX:NJ K RQ "reversed"=Z lf)
  (Ky:NJ K RQ "set"=Z lf)
  (tbc:we=.ref cT) (tbl:K.Y cT=Z #[O,dT,.fields vT,f]) (tbv:vT[11]?=Z (.ref TT)) (tbn:K.Y TT=lf)
  : ∃ fd:ge,(∀(s:ff)(v:eN),BindsTo s fd #[[v],[]] [("script",v)])/\∃ c T,Pn K "fares"=Z (c,T)/\K.Y T=lf/\∀ base:fo,K.In base->base.Ns RQ mg->Pb base c T->Bm mg base->FnOk l.i w K mg base CX0 16 A fd ["script"] (Bj K T):=by
 let a7:=Hg rS vc tbc tbl tbv;let e:=m.X.P (OD X G Jt)
 cases e
 let GV:=fun_mk (st:=jN) vc A2 vd;let MA:=GV.binds (ps:=["many","links","start"]) λ_ _ _ _ _ _ o M=>by let C t r rfl:=len_3 M;rfl
 let wF:=FN (st:=kK) u9 wm pX qR U;let Jq:=wF.binds (ps:=["web","order"]) (ds:=[]) λ_ _ _ _ _ _ _ o M=>match o,M with | [_,_],_=>#[41]
 let a2:=wF.binds (ps:=["web","order"]) (ds:=[eN.none]) λ_ _ _ _ _ _ _ o M=>by
  let eK:o.L=1:=by simpa using M
  match o,eK with | [_],_=>exact#[41]
 let mM:=FN (st:=dy) mC mJ iZ jX U;let A3:=mM.binds (ps:=["web","most"]) (ds:=[]) λ_ _ _ _ _ _ _ o M=>match o,M with | [_,_],_=>#[41]
 let Kt:=mM.binds (ps:=["web","most"]) (ds:=[eN.int 64 u]) λ_ _ _ _ _ _ _ o M=>by
  let eK:o.L=1:=by simpa using M
  match o,eK with | [_],_=>exact#[41]
 let pd:=fun_mk (st:=cU) j6 ku j8;let o7:=pd.binds (ps:=["self","one","two","strength"]) λ_ _ _ _ _ _ o M=>by let C t r j rfl:=L3 M;rfl
 let tV:=fun_mk (st:=fF) oF oJ kN;let Dm:=tV.binds (ps:=["self"]) λ_ _ _ _ _ _ o M=>by let C rfl:=IF M;rfl
 let gy:=fun_mk (st:=bT) gn gu cu;let kx:=gy.binds (ps:=["self","laying"]) λ_ _ _ _ _ _ o M=>by let C t rfl:=L4 M;rfl
 let kC:=fun_mk (st:=cQ) jZ ki eM;let oY:=kC.binds (ps:=["self"]) λ_ _ _ _ _ _ o M=>by let C rfl:=IF M;rfl
 let kD:=fun_mk (st:=cS) j4 ko eO;let oZ:=kD.binds (ps:=["self","place"]) λ_ _ _ _ _ _ o M=>by let C t rfl:=L4 M;rfl
 let rX:=fun_mk (st:=dz) mD mK i4;let A4:=rX.binds (ps:=["self"]) λ_ _ _ _ _ _ o M=>by let C rfl:=IF M;rfl
 let o9:=fun_mk (st:=cP) jY kd j7;let yI:=o9.binds (ps:=["self","many","ties","turns"]) λ_ _ _ _ _ _ o M=>by let C t r j rfl:=L3 M;rfl
 let a3:=fun_mk (st:=uA) L6 Mw L9;erw[NV "law" "law" (bO uA) (bz uA) (aq uA) .none Kh Km JX Kv GB Ko,λs v=>.of_eq U,cT,TT,a7,tbn,λbase _ _ z y=>?_];let LX:=OD X G rS;let IC:=OD X G wD;let zY:=OD X G mL;let b0:=OD X G Jt;let Fb:=OD X G oK;let av:=OD X G A8;let aI:=OD X G A7;let a4:=OD X G GQ;let a8:=OD X G Aj;let modd:=OD X G Ak;let dO:=NO X G KC;let H:=NO X G KD;let x:=NO X G Dw;let k:=NO X G Du;let n:=NO X G yN;let p:=NO X G yO;let i:=NO X G lF;let b:=NO X G jC;let L:=NO X G Kz;let n_sum:=NO X G Kx;let n_sorted:=NO X G tX;let n_max:=NO X G KA;let n_zip:=NO X G Kw;let n_abs:=NO X G KG;let bU:=NO X G Dv;let n_reversed:=NO X G nX;let n_set:=NO X G Ky;let W:Wr l.i w K mg base:=#[λe=>OD X G e];let d:CT K bR:=#[#[zJ,Ai,zG,zj],mz,my,eR];let TS:CT K bQ:=#[#[zI,Ag,zF,zi],mw,mr,eQ];let I:CW K jw:=#[#[EC,FG,Eu,Ej],mh,ma,jR,iY,jS];let T:Txt mg:=#[dO,H,x,k,n,p,i,b,L,n_sum,n_sorted];let GI:FnOk l.i w K mg base CX0 1 bY _ _ (tq K):=LH pd;let ML:Mak l.i w K mg base 1 "Pull" _ (tq K) bR bY _:=#[#[zV,jW,gM,Aa],GI,o7,av];let MS:Mak l.i w K mg base 1 "Push" _ (tq K) bQ bY _:=#[#[zU,jU,gM,z8],GI,o7,aI];let Gh:=W.c2 BR (LI BR.F);let Gl:=W.c3 nJ (Cn nJ.F);let Gf:=W.c3 lj (zN lj.F T Gh Gl);let Gr:=W.c3 gO (LJ gO.F Gf);let GR:=W.c2 i9 (EO i9.F T Gr);let GS:=W.c2 kU (HU kU.F T);let wL:Met l.i w K mg base 1 bR "wish" _ (jx k9) iD _:=#[#[jV,oH,kN],HP tV,Dm];let wS:Met l.i w K mg base 1 bQ "wish" _ (jx kt) gs _:=#[#[jT,mF,i4],HN rX,A4];let Gm:=W.c1 (sp:=(mP K)) iC (KF.ok_mask iC.F);let Gp:=W.c1 qe (LD qe.F T I d TS Gm wL wS);let Go:=W.c3 (sp:=(uc bR bQ jw)) qj (Ia qj.F T I);let Gq:=W.c1 gQ (LF gQ.F T I Gm Gp Go);let R1:=W.c2 fu (HW fu.F);let R2:=W.c3 dZ (EN dZ.F T);let a9:=W.c2 nH (KF.ok_reached nH.F);let R3:=W.c2 c8 (HV c8.F a9);let WI:FnOk l.i w K mg base CX0 5 cW _ _ (ub K):=HQ o9 T R1 R2 R3 GR GS;let MW:Mak l.i w K mg base 5 "Web" _ (ub K) jw cW _:=#[#[E8,mB,j9,Fo],WI,yI,a4];let Gc:=W.c2 lg (LL lg.F T);let kT:KF.Txt mg:=#[dO,H,x,k,n,p,L,n_abs,i,b];let bb:=W.c2 qp (KF.ok_bey qp.F);let b5:=W.c2 k7 (KF.ok_at k7.F kT);let bd:Cal l.i w K mg base 2 "fares" _ (KF.spFares TT) vE _:=#[KF.ok_fares GV kT a7 rS z y b5 bb,MA,LX,vd];let b6:=W.c2 vo (KF.ok_whl vo.F a9);let ca:=W.c3 pZ (KF.ok_row pZ.F #[k,n_reversed] bb);let q:=W.c1 BS (KF.ok_bits BS.F);let aT:=W.c1 BQ (KF.ok_ones BQ.F kT q);let cb:=W.c1 IS (KF.ok_odd IS.F aT);let cc:=W.c1 iC (KF.ok_mask iC.F);let be:=W.c3 d7 (KF.ok_ref d7.F #[#[_,a8]] cb b6 aT);let bf:=W.c2 jo (KF.ok_chosen jo.F);let bg:=W.c0 jd (KF.ok_table jd.F);let bi:=W.c3 bG (KF.ok_laid bG.F kT q (bG.b3 λ_ _ _=>by intros _ _ _ _ _ _;rfl) (W.g bG.a) bG.F.kp 8)
 let bm:=W.c3 qi (KF.ok_paired qi.F kT be q bd bf bg bi cc ca);let bn:KF.TxtZ mg:={kT with n_zip:=n_zip};let a5:KF.TxtH mg:={bn with n_reversed:=n_reversed,n_sorted:=n_sorted,n_set:=n_set};let bv:=W.c1 nG (KF.ok_root nG.F q);let cd:=W.c3 nL (KF.ok_hts nL.F bn be q bd bf bg bi bv);let ce:=W.c2 nM (KF.ok_dry nM.F a5);let ch:=W.c2 qm (KF.ok_join qm.F kT q);let ci:=W.c3 vq (KF.ok_hills vq.F a5 cd ce bv ch);let cl:KF.TxtE mg:={a5 with n_sum:=n_sum};let cm:=W.c2 jb (KF.ok_paid jb.F cl);let TZ:TxtZ mg:={T with n_zip:=n_zip};let TO:TxtO mg:={TZ with modd:=#[_,modd]};let bB:=W.c1 kY (Ic kY.F TO Gq aT);let a6:=W.c1 kZ (Ie kZ.F TZ I d TS);let aL:Met l.i w K mg base 1 bR "across" _ (mQ bR) cz _:=#[#[ir,gK,eO],xu kD d,oZ];let aS:Met l.i w K mg base 1 bQ "across" _ (mQ bQ) cz _:=#[#[ik,gK,eO],xu kD TS,oZ];let uL:Met l.i w K mg base 2 bR "unpleased" _ (qB bR k9) bH _:=#[#[dG,c7,cu],EM gy d wL,kx];let uS:Met l.i w K mg base 2 bQ "unpleased" _ (qB bQ kt) bH _:=#[#[dE,c7,cu],EM gy TS wS,kx];let M1:=W.c2 fq (ok_rt fq.F T I Gp Go);let M2:=W.c2 je (ok_lo je.F T I d TS M1 Gm aL aS wL wS);let cn:=W.c1 vp (Ig vp.F TO I bB a6 bm M2 ci);let Q1:=W.c2 gN (ok_tt gN.F T a6 cm Gm);let Q2:=W.c1 fy (LG fy.F T I d TS);let Q3:=W.c3 c9 (ok_kof c9.F Gm q);let Q4:=W.c1 d8 (ER d8.F T I Q2 aT Q3);let Q5:=W.c2 (sp:=(pQ K)) fE (EL fE.F);let Q6:=W.c2 (sp:=(DY bR bQ jw)) kX (ok_ord kX.F T I);let Q7:=W.c2 lh (Ij lh.F I d TS Q5);let Q8:Cal l.i w K mg base 3 "fronts" _ (ue bR bQ jw) qv _:=#[ET wF Q6 Q7,Jq,IC,pX];let Q9:=W.c2 i8 (LQ i8.F I d TS Q5);let U1:=W.c3 kP (Ly kP.F TZ I Q9 Q8);let U2:=W.c2 kQ (HS kQ.F);let U3:=W.c2 de (LK de.F d TS uL uS);let U4:=W.c4 gR (Ib gR.F U2 U3);let U5:=W.c1 dX (EU dX.F T);let U6:=W.c2 jr (LR jr.F Q4 U1 U4 U5);let U7:=W.c1 gW (LP gW.F T n_reversed);let TA:TxtA mg iG:={TO with g_TooMany:=Fb};let U8:CalD l.i w K mg base 14 "all_least" _ (Hk iG TT bR bQ jw) js _:=#[ok_all mM TA kE I cn Q1 U6 U7,A3,zY,iZ];let TX:TxtX mg:={TO with n_max:=n_max};let X1:=W.c1 gP (ok_pa gP.F TX);let X2:=W.c1 fx (ok_pu fx.F TX);let X3:=W.c2 BP (LB BP.F TO I d TS bB a6 bm wL wS);let sgL:Met l.i w K mg base 2 bR "signed" _ (mO bR k9) cy _:=#[#[iq,gH,eM],xr kC d wL,oY];let co:Met l.i w K mg base 2 bQ "signed" _ (mO bQ kt) cy _:=#[#[ij,gH,eM],xr kC TS wS,oY];let X4:=W.c2 d9 (LN d9.F I d TS X3 X1 X2 sgL co);let X5:=W.c1 jq (ok_bw jq.F T I X4);let X6:=W.c1 nE (Cm nE.F);let X7:=W.c1 kW (Lz kW.F X5 X6);let Y1:=W.c2 ji (HZ ji.F T);let Y2:=W.c2 jj (Ii jj.F T Gc);let Y3:=W.c4 nK (LA nK.F T ML MS d TS MW I);let Y4:=W.c3 gU (ES gU.F T);let Y5:=W.c2 jf (HR jf.F T);let Y6:=W.c2 jg (HY jg.F T Y5);let TW:TxtW mg:={T with n_abs:=n_abs};let Y7:=W.c3 k8 (Lx k8.F TW);let Y8:=W.c2 fz (LC fz.F TA kE (λc J=>by rw[J];exact c6) U8)
 exact ok_law a3 TA I Gc Y1 Y2 Y3 Y4 Y5 U8 Y8 X5 X7 Y6 Y7
theorem walk{l:Rh}{q:hx}{L:E fI}{g:(fI->j5 eN)->fo->Prop}{m:ix->fo->Prop}{d:DefRec}{K:Params->MJ}(p:l.most=some 63)(i:d.params.defaults=[])(b:∀(w:ix)(h:fo),m w h->(K w.params).In h)(y:((PyProof.Rows.recsOf q).find? (λe=>e.name == ("fares" : fI))).isSome=kt)(F:∀(w:ix)(mg:fI->j5 eN)(A:fc)(h:fo),(K w.params).In h->h.Ns RQ mg->mg d.name=some (.ref A) ->
   ∃ fd:ge,(∀(s:ff)(u:eN),BindsTo s fd #[[u],[]] [("script",u)])/\∃ c T,Pn (K w.params) "fares"=Z (c,T)/\(K w.params).Y T=lf/\∀ base:fo,(K w.params).In base->base.Ns RQ mg->Pb base c T->Bm mg base->FnOk l.i w (K w.params) mg base CX0 16 A fd ["script"] (Bj (K w.params) T)):
  PySem.W.WalkO q L g m l.row.toRowW d [] (λf vs=>PySem.call f vs):=
 L2.walk_ofT (n:=63) (k:=16) (x:="script") (CX:=CX0) (sp:=λK T=>Bj K T) p ∅ i #[18,by decide] b (j5.some_get y).X F (λ_ _ _ a J M C H=>#[a,J,U,H,M,.inl C,λ_=>rfl]) λ_ _ _ _ z=>z
end K8
local macro_rules|`(command|universe $xs*)=>do return Lean.mkNullNode (←xs.mapM λx=>`(command|def $(Lean.mkIdent (.mkSimple s!"tw{x.getId.toString.foldl (λn c=>n*62+(if c.isLower then c.toNat-97 else if c.isUpper then c.toNat-39 else c.toNat+4)) 0}")):ident:=R))
namespace PySem.W.Fast
universe melgECZ7tIb hAjp53mH23G fLO0Qtv4wF7 s1HWWOJcur6 gVizgl4Qu5C nOr3jqLVamm uAUkFH2ZqH cYaXHPgcMck mx4gZq49Qct rwFfFr5B8oN mqrYWpC1Xa6 vVFN1XDHzwx hQon5kZqVmJ e3hyh13WnX2 gz4mEv5SBBs qsobP2mzA9v tnKbmZEv5UB mSrqKBcjibL i7XX1STAyZH guoJJrHW7Rx sCf415bNjJO ik3mBkQHQ1O duZq4GMNsQJ bhwqbS3f9nE dKnnuZjduQm c8Gan2R9uKW rDHXAhEEkrQ uRvo1vDKnD2 izoisiyZiwe rFFUCGT8iqW oC5uxgjSXFQ n3T0ZVlvlk tB4iBG3A2Tc sVnVDX2TfDU bESs0c2QYN3 S2KdzIew8H pSuzcAJv2eP bHIkCe4ERPx qxkNd6GEtVd lTIqCHDRonR qy12LijPMS5 qFugFE1JogD jBsHxX2rQRx osWaNo8L2xF jgsTHqqAsXR tHRBcD1S2fd vFrWjd7wDvx kZNUEdVBCzl lYNnDPjepaw v1bKyhxAzug fmEIWYwqGfm kH1ogP2wQPC lsYb9yLhrxu p993Dq8LDXy h3Pm2rPJ3MA vr18u39Ohq2 vtudmt23wLm bT9RdHy7jgc trjtpGPnUR4 klG7ImQCJd8 mpKioRIvl83 qAEihqp0gwN rNlfD1t2nd1 gWLDfJI1Gh5 peJTM55HCcp tacGpdHrzJ9 rEtjNwk6Iz9 j5jKQn3O5VT r98xXjT6Fx1 nVTw80QvDnY oeqgt8xQWEG h1nug3tQaFI bPU0T8uQ1ho snf7Pf81jyy djSbkA0pXeG kViuTyhPLEK ssYI2BvtCJc cralWFUiQue bohxIV15kjM urnQpiK1UZA k65XpJQyuRR c8K70EL9cVt t4vyJ7dUsz qOnoLJqtNE9 bz6HxA9b0qn nQW02gXz4uf c86verwmPDB oo8xe5mx7MD paNlvfX5xmz KO3QZSlDVN tmtk1UCGmuD nftMP8bRN3F jPVwSCz1iU5 dCvJbHuS7ow a5a2ZCxaVgM gXfdETWpizq heE3kNTDgQA rFZtGg3uxT0 rb3h62M3C9O vQ63KF0iLru oPubTw9QRjm oBMyyNsKRF4 mgMk9MuMDOY fY3s09HbqCw vMUIEfiROTy juxA6881lZO tXpJCDYXfMg sWCG8gVaOlT joU2mz8pV2V tFBpdk2PXIV iCpy5TYPH8J jNq6sTmqF2x jPo7ofmA2yW rS8GK9WH3Xw qKc5iXYzRXg LTjNitHGxU fX39Im2Ig1Q gJmCNkQCHWK p8u92Um2NUy jp5zgbvWJBc fLh98zuEgei vBrPmuxvtrx bXls49hQPNt gjYLg77uMoD gFgTl8BxSNp iX25axkZ0oT cYKNld8yM0z ciL2zEA07m1 mcgxpgMQREj eb9C8qEvwvJ nassmJrIiHl o2sx2gh8h93 lWWCheQd3ht bKZEWoTQRC1 vo6Y9c8dXQr r8zCRUGFi4X mgcLioR0MeQ cvlTuO9MRYI hjOVOQ01pIA h50iUwd9MoM hhkPAcsYR38 quIEpl3C6pq iF0wmX4yZkY vy0tSGpf5S3 mlwVsA8FPl1 vooMwaMhpDH dikh5zEvCxX dQC6j9irg4l nbHVi4CvnRv mmN25g8OiHT nk0jiSgCMjL byZwxvwxAvL dMkhydbzAqB oszeQA7WuHn s8i4zjq9YCd lKwOFfI7Z2d bO7R3ULrQdH kaUO1fMrK6x n5wpka9DRV1 uC8oqT41y4d l9R4PcDxGJ5 f2hVte3mirD u80D9dIsBPH qovvwPfSGMh pIs5w8bw9CV qplPiGAnnzY sAUyYlHeCts kvqerGDDI6W k8rVIxrU0Zc t2ZQbRlGL56 j3oRwMeJbbI qt6jYD4OqYq lhYIZTIyqVQ oMpCENBBkwz hFrtcvdCCjF pzrVfM76ahB m05Y2pKZSpZ sj04I1EqgAP s8aBVcGVosX oGhK9VX9khl e9Hon8pyHUv cDkfgCRkd5t oOaEqctRfzZ jHgHpkpnCLF gISQ3DwETsT my8OyekpVof iGLr13piRFW iv0cmi665AU tGZZqe2bP8Q rlkSwhQW16U ltqJDtExTkM jUu7iGTkjPC jTGK3AmB5oE kzopTrJVE2k euOcq3yfPFq nyZv0BijEIJ a5rgplVnUOF v4C8XMnzjLn gHXSBtflZvv qcegEYTuKIt sVFgQotUQQ7 fMLF848mr35 lbXWHdugmGp sGnJg80bmQ7 oUX4QaZOvw3 laPv1KvppZH cQSyt8T6hRP lmid5HuVWkC iDFiNytwh4K joAmJ2YxzPw d0aJztLgRR6 bGNn09PzWoK tcLUa6KnO9s tNMYQnriXkW rzSjHdXJWQS tCAu5V36vyT bDgCw1suf5V hpS6avb4ywn py56jLLpphR nRoMx5n9e5R jdN3oJZdhOT odzI0DZlusU nVUYgdQBXgY m8nkEo5se4s bLJZtmJ1VsY sjjbLvjzVYY uAdUNdWdqZW nmKz35cUgMw rpUjJ6EUwcU uR90ZRUNkk mx8ase9hbfa mqBsqjqo9oQ mvXlZQKydVe meGw7f0Auoo H5AlN3G6Ao pX8SUPJltew gN340ZhpaG7 a89VGl4HQb1 DyRuyaMECJ mOq9bEPyYkV svYnUOoP6Gt dwkTR8l7YXv uMOLRxICwed fE3BocnkwKd nR3d01rNI19 bv6Ju2WAL6J peiuuM76hX a950R7vfxw7 mqXnFD01SWl gzhE9YrA70p dZDgu4bARCF jp2H2aN6veh rQvsqunKzHI f9h3HMhJ0lI j1xxyHfGS4e dFTwFye4scq nBouX9CgPLQ h5BRSv9I5AK if6DXyJoglY leBuaf40ifE sID5Ghzyu9U hr5VECODzr6 r4MvjAV0VjA qrs01yNUdpg pdXJqsQGpij rr4csAfpq2j ov0J7SYY60f fBxuqpjs0gX eM3AGJxKHJN upXuGZtMUSv i6yd67Z3iQX kk7DQdSbxuj QKp3w14fSj gvSp68sRxnl dOznNRdVCrV rIrBRcGg03K m0ohVhcpZKk cytE6mmltuk c47IKVhSTe6 m5JiBXUXMJm q2WWwUpEiVu sg6bKIubuRK sp0zMOVpdHu kkuN2yoSlrm lcZWuqlZ7rv jVB5R89RCJv iNkL0V7ybhr uEpZUDhb78B ra2RNULDYOx kz9oHK3dOfj pb5RWAiHfjD iCUDFo0PeoR oRocjQA55Vz qIg9f39gvEF omIdzQKRvpz oKsiUHAemcR sKa0q0Rw8UJ na4U3C5TzYp tTdRqkq2yMu k0ulxUF7Sw8 groz5QOrXKe pbu1jNvyT08 jQba2kuQvFs qZjw0HO1VWK f2GRfBS9hLU soLMa4ksv6i cIIjMeQUwkK qZCTprcY3Dg a62AuYXdFyu fPkE8H2nuf6 jzNdSvoXziS vraUXfCFdA4 JAgYwbRAsD cgldsvZIkI1 bT5hKMh4dC1 qhngDtUt6HR nrjPUrsfg5B uRpLc0oMCfd s4P1mFnGKPl mlpxQsrwh81 hxjpseXceGQ hcNiJixHJ2s n7DmNP1omTK qR2AG6zIvYk cUg5RgpzcN4 jkEp4Jy5R5i u90OWmdQC0s q2ITjgtlXLO gHilQLUn6LK qVPEPqtKo5f voYG5YOyjxL e9pNv85aQm7 eBTjVJpBDAd iEJ8RINgIDn dmDr4eYwA0l nzfZ7gx5aqt jcAWgbvFhvX d1QE1OgM7m3 bxMs36W6MI3 jYvzr0wAU2a ditGGNf0yVQ lukU1OLa0C0 vtp7LiN6sdA DhwSuy8d7M pb4RnQbY5Ts eXDg15hTgpA fhreT8L8JqG vsU02F82pGW sCOp24q7rKy eIX0WQHlG76 f90xS8Eil9k ql008J9BqtQ lEMvlxDYMqf lRQ332FAAEr o3eEEwlnG1F nfjYJKzXcwz oG1ONjm9MCL esLk6AGzOun iFbnk8j1k4D qcou60Xk3GH b5iUlWhJqj3 kgr6eCK6amL fQTj0aGLPkv qtBLSfuyfUL mhSP114MucI g6JWKDpxFBa llDNkOUJaSU pxEW3Nx3woQ oyyfnAXMuza g4whIsRobrD g0o3scgyBL9 bWvd9B8HqIl o3L4ISjqJzv fqQNBrjF4R cQij8P2In4l kGZeMktP1CB eL21vcfYr0J mTdSNtuJAf5 b2D1gxTZqah f77eOflvQh9 p2o28vnZfFk cY7P96JzgIw kGavIUDyMh4 cKs8VijjhCZ rQLpJEz4bLU qlzTctE6wYp tecvrYw1nbs dnC0RZCmR3a d0q5FhSCH8A rySKV4Oc93E kuwPbP4W2ys liwwjMmRmTz g90WQDSSqMX vUaiacSfv7X knQmINH601n kTALgFdqQx6 kn1JH2l1r6l v48NwAtrlGx pLOdfGa3cRe rNZ8VY05374 r8ijDOGknN6 sJcg3wQPShx nupmbFcc8hC uC7T0lMmZ3C v8hsyBzom8H r3izIZ16yRX m3o0OL4Btk8 e3X2uLbY5Ki oitCRk0Hkv6 f9i5LSvSHqN h98AEzkoxQ5 YkDuNdvPVE gKxpkNvUhWi lAjNUXUxhqZ pYWE2sZ78G4 mbZTpWnq8AY mbobGK78GoB pOtWDVqmtHY oUjZK6OXlF0 ibdC6O98qpX tMdPH7m5BlJ v0fAFemWg0y m4hUyOgaubH bRhWo5JgCAz uzbL9dj1SKg jTzDTIziad4 fsjAaQldzuF uf2RZMsqFqL heafXMkzGjV t6oEDBtuxw3 kx7DSNdchOH czFwoL3RlVZ hwFioMMDpU1 noL4KrfmKU1 gnXlgMxA1Tg o1BuB87p5Mq tEwVNAhaToE p4dW0qfEiig my447NUH08C sNWGidxQYvG sdOM5TWaLwY qdKFpZzYZKg mW1iTxJF70L s974VtnOqZG kWlSgFSfRzh rC5nQYPmX3k kCSyLiVPwqw vWKblhzKPOz Ym6S2BoVB kPPZeRfddky jMC4Vl2uVVc lwWuV3btQSn o1Q7cIWji3f pa6fEKRsyTo eibJ8QolZoo gdvFUIoWLZw iq9zsVMrTFw drMS3Im4FlK eOovolBOHCl qtapqVzX2S6 qyW1gVnNnSu t8NZNaw4Gs qI1cLanUKjE C8kLgErdDR v3KmHnNIyBq mg9WTX2Vyw9 fkrOdF42VCo dtvQE24CGlS f4k2tVRHFnv pJCBvrlChEZ u4tqrOijnwm a3icewQwwk1 oTbA2zXnjXN m26pkjjuFmT kgOUyOeucyW cnC93KpkyzF mx59kNclEWK bM293GtUDDb iCBZW9l8UiH qorKBwDIAJA hLFlGDvmPnQ mzOGwjpqL0Y nhThjOAZJES oDRU2fTUpIF eHKDnwqhkbA a7HrSgLWOS1 czi8LKMPLwK qC3u2LuRN3G nqwSMUvOu9l qsWZ72l2MOu g9pRiAT9TDX bUw7X2yNT74 c5DuJkmTSE4 lSOS9GcV4Cs pHii8YDL1Lb gfeshIV1LZi nfWYKImSvRc mMhpXMLQaYY qjT6ypAwTaE eLjTDSzNyUG bwcAh7gwhza u2hSv1YmPnV vgjMQronUOi b306W1jwVEJ kfl63ab2dPr vMDFVymboXc fgghvnrlse9 gzHC5QTnKTp eNPKCd8UgS5 nhyPwyU5JJz sabB7jOUHKD blNYvChPFOV uWuTmKcvGWN ism2hvvTpfg vjdK5gSuYqT fW5583QYqUP eNceAw1b0Wd nu5BrPDc91y t9BtV76Dev3 mcrPoViAEKj lVobtz7bkJm v2jZTEhBpR3 a84tplwipZl lh3AMdPcOK8 fb635kcpQxD poohansliCK b6Z8CMaFNMU kpgYxSOkfSP qLECtrWoNbA rFYpEysuUgc kYAilYavjKj i1kwOMsIOkh oINShWF2XBq qt8LbSZOrWt kNyvDnvEriF hpaV2g6rglr qBXUerWJsos fEwcuc0oExO oGymghNnI6N gn7E4ADKsnK reXrN7tn5Br lG2LRIE7t1J i62xaeef1HG hOfXthXgMyB cqGjDjEaZpt dLMNDmMFczN fsoRQfRzgpz hUbByIOD9Lx h0obnw1xv00 pspZfVIu6U3 uZP3vGKDHjm kKelQSdXltA f64mlpEBsoO jbXb2iRUJBQ bJlc7SyVQNR u8fyb997JIE emUbRE5cxKz jxQ5pHsFwC rXxHjjYfYKX pqR9lpLdA3S uP6nlnAIwzt mqVMnqMtpaL oH1nRBWsEGM hl2MCfWpGT3 jxC89DnTV74 mdcLHevhjIm uaE50PIwSpm cCXvCneymjL ciynQntx2sE rYQZQIPgoRD eVCVbOPIoei lfVM60KCf2U dv9lhwgc1eR ckzELSFPQZg pLx1ui8mPYl uIgObKfWNip d2qU7ngYmgC pwRDqzyCC5k u8vWahDMAqC lYj6feXER2x LoH6pAUbfm uCqQqy1u587 riQwQPXYuiT n8V1O46MC3j lUp9wxZdWth iwajaMnVqgG nWa1eilOSUN rHISbbp01ey bWdJ0fSL7u7 byIlzOMQHYB ogFFkSSaK9H tWdxpXKAqPe cklEnowCGsF ta3T0luEYjP vmOWV9EezFC pbqZq3sZGcy cF3bfcARPZn bR4dE3MNgna nueqxRsCGD3 kYxlRqmExZW taPpn3eFaH6 sKZBTTHnLpm qB1S8zWkGFg qPadIAqMtli gCcXlgQgHQo rUXI06bNUTh d93hrWLbWDJ pmx0YMnajA2 n4TSUywaTeO YNZYlPzlWv cvo9OvTR9ra pAQNxNchpA2 pmnhyjNmSk4 d24A1xqosx2 gdc90gvveMU by51fKGxN6g nNLl4iR85Fa tDITU2GRRw6 twj7UUFyXlO buGyOCnnXyg nUUmuQVJsAa ohbkNE5hZfU jHuvbxk0cOl sopBXxw97rR hRBOQieoVyQ qbU049NPlvE iL514xiYJCh oJf8uYZijoO ouPerE0fPGy iT3aHUuGgsS e5xhFTGjLZ9 o3W5MN1Ioac CUTfmt5zNM r74fh748sFZ a2RyDCksCP8 slzObZU3DMP l9VW1I4LxLQ ftbvScl3DQL syj9Sy4yWrH ehTxXffV2Hp j7Vzylxg3Ub cEM8hWOjRCN rHrursOTzbK vANjIgJplIg tHuyNaAeJjy qIiCEvMdBJk cTQCfkDv7aP cKpI8ElDDFD oqkdqMrBf7c pf3ZlXCjHQx bX0oeN4fCUC cx1ukos2kZA uhF178CftFI b7f5yGRNKdk rgdSPsdikUP r6Fp18rOKoK nJ9FnQbMzCA dYbGZK7orTQ ewh1Zq8YLlH bxtEVWwvqdE ls8SFqWnJkv mfdDYRsRWCz tCDW6dS7WeQ nWXjO3bDdL1 rfgmwPPbtUi
end PySem.W.Fast
open PySem PySem.W PyProof.Rows
set_option maxRecDepth 100000 in
set_option maxHeartbeats 0 in
theorem PySem.Challenge.cw_spinfloor_k80_whole_rings_holds : PySem.Challenge.rw_spinfloor_k80_whole_rings.Holds := by
 w_on;o_law;k_head;(case hw=>w_witness2);k_fill;refine K8.walk (l:=PySem.Challenge.rw_spinfloor_k80_whole_rings) rfl rfl (λw h Y=>PySem.W.km_in_of Y) ?R ?F;(case R=>kernel_rfl)
 case F=>
  intro w mg fa h KX G hmg;refine' K8.all_mk KX G hmg ?oK ?A8 ?A7 ?GQ ?jW ?jV ?ir ?dG ?iq ?jU ?jT ?ik ?dE ?ij ?mB ?BS ?BQ ?IS ?iC ?nH ?qp ?k7 ?pZ ?vo ?d7 ?jo ?bG ?jd ?qi ?nG ?nL ?jb ?qe ?qj ?gQ ?fq ?je ?fE ?kX ?lh ?i8 ?nM ?qm ?vq ?kZ ?kY ?vp ?gN ?fy ?c9 ?d8 ?kQ ?de ?kP ?gR ?dX ?jr ?gW ?BR ?nJ ?lj ?gO ?i9 ?kU ?fu ?dZ ?c8 ?BP ?gP ?fx ?d9 ?jq ?nE ?kW ?lg ?ji ?jj ?nK ?gU ?jf ?jg ?k8 ?fz ?rS ?vc ?A2 ?vd ?wD ?u9 ?qR ?wm ?pX ?mL ?mC ?jX ?mJ ?iZ ?j6 ?ku ?j8 ?gM ?oF ?oJ ?kN ?oH ?gn ?gu ?cu ?c7 ?jZ ?ki ?eM ?gH ?j4 ?ko ?eO ?gK ?mD ?mK ?i4 ?mF ?jY ?kd ?j7 ?j9 ?Jt ?L6 ?Mw ?L9 ?kE ?c6 ?zJ ?Ai ?zG ?zj ?zV ?Aa ?mz ?my ?eR ?zI ?Ag ?zF ?zi ?zU ?z8 ?mw ?mr ?eQ ?EC ?FG ?Eu ?Ej ?E8 ?Fo ?mh ?ma ?jR ?iY ?jS ?Aj ?Ak ?KC ?KD ?Dw ?Du ?yN ?yO ?lF ?jC ?Kz ?Kx ?tX ?KA ?Kw ?KG ?Dv ?nX ?Ky ?tbc ?tbl ?tbv ?tbn;(case oK|A8|A7|GQ|jW|jV|ir|dG|iq|jU|jT|ik|dE|ij|mB=>k_is)
  (case BS|BQ|IS|iC|nH|qp|k7|pZ|vo|d7|jo|bG|jd|qi|nG|nL|jb|qe|qj|gQ|fq|je|fE|kX|lh|i8|nM|qm|vq|kZ|kY|vp|gN|fy|c9|d8|kQ|de|kP|gR|dX|jr|gW|BR|nJ|lj|gO|i9|kU|fu|dZ|c8|BP|gP|fx|d9|jq|nE|kW|lg|ji|jj|nK|gU|jf|jg|k8|fz=>refine' ⟨?ja,L2.fun_mk ?jl ?jc ?jk⟩;(case ja=>k_is);(case jl=>k_is);(case jc=>k_is);(case jk=>k_is));(case rS|vc|A2|vd|wD|u9|qR|wm|pX|mL|mC|jX|mJ|iZ|j6|ku|j8|gM|oF|oJ|kN|oH|gn|gu|cu|c7|jZ|ki|eM|gH|j4|ko|eO|gK|mD|mK|i4|mF|jY|kd|j7|j9|Jt|L6|Mw|L9=>k_is)
  (case kE=>k_exc);(case c6|zJ|Ai|zG|zj|zV|Aa|mz|my|eR|zI|Ag|zF|zi|zU|z8|mw|mr|eQ|EC|FG|Eu|Ej|E8|Fo|mh|ma|jR|iY|jS|Aj|Ak|KC|KD|Dw|Du|yN|yO|lF|jC|Kz|Kx|tX|KA|Kw|KG|Dv|nX|Ky=>k_is)
  (case tbc=>rfl);(case tbl=>k_is);(case tbv=>rfl);(case tbn=>kernel_rfl)
