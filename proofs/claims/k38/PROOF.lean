import PyProof.Rows.All
import Wide.All
import OpenK.AllK
import Wide.FinOn
import Lean
import PyProof.EqAt
import PyProof.EqKinds
import PyProof.TupleCall
import PySem.Challenge.RW_spinfloor_k38_whole_what_a_paper_leaves
open PyProof.Rows renaming callWith_type1->MU, kindOf->Nb, IntsAre->Nh, seqObj->NB, get?_update_seq->NC
open PyProof.Rows.F renaming plain_set_update_loop->NS
open PyProof.Rows.LCg renaming lst->Np
open PySem renaming sizeLine->Mz, mainGlobals->MB, bootBuiltins->MC, starEach->MF, wpAny_mono->MG, compareOp->MH, wpAny_truthy_bool->MI, assignEach->MJ, wpAny_bind->MN, wpAny_holding->MO, wpAny_passesOwn->MP, wpAny_pure->MQ, foldedSetIterable->MV, binaryOp->MX, codeAny->M5, codeAny_mono->M9, wpAny_Call_Name_kw->Na, wpAny_specialOf->Nj, wpAny_ite_split->Nl, wpAny_isInstance->Nm, wpAny_newObj_type->Nq, wpAny_call_entry->Nr, wpAny_callSpecial?_slot->Nu, wpAny_typeNameOfWhole_itemiter->Nv, wpAny_isOneOf_itemiter->Nx, wpAny_setField_rec->Ny, wpAny_letGo->NA, wpAny_newList->ND, codeAny_builtin->NG, wpAny_seqItems->NI, wpAny_tryCatch->NJ, updateSeq->NK, wpAny_updateSeq->NL, plainId_quiet->NM, wpAny_setState_of->NQ, wpAny_askSetting->NT
open PySem.Around renaming under_plainId->NH
open PySem.Builtin renaming bitAnd->MY, bitOr->MZ, bitXor->M4
open PySem.Builtin.Builtins renaming bindParams->NN
open PySem.Builtin.Dict_items renaming ownsTuple->Nt, pairFromOwner->Nz
open PySem.Builtin.List renaming listLengthHint->Nk, listExtendWith->NU, listSameRef->NV, listItems->NW
open PySem.Calls renaming spliced_nil->M7, spliced_cons->M8, callWith_builtin->Ng
open PySem.Heap renaming lt_size->MA, get?_none_of_le->MD, SameBut->ME, get?_push_of_some->MR, get?_push_size->MT, size_push->M6, get?_update_self->Nd, get?_update_other->Nf, size_update->NF
open PySem.Heap.SameBut renaming update->Nw
open PySem.Obj renaming mapSeq->Nc
open PySem.PyData renaming depth->Nn
open PySem.SetTable renaming below->NP, grown->NR
open Array renaming length_toList->IA, getElem?_toList->Jd, getElem?_eq_getElem->JG, getD_eq_getD_getElem?->KW, getElem?_eq_some_iff->KY, toList_push->LR, getD->LS, perm_iff_toList_perm->Mf
open Bool renaming false_ne_true->Io, xor_false->IS, false_eq_true->Jr, or_eq_true->JN, true_and->Ka, xor_comm->Kq, xor_self->KL, eq_iff_iff->KU, xor_assoc->K5, not_true->Le, and_eq_true->Lh, false_xor->LB, false_and->LC, and_false->LD, noConfusion->L4, or_false->Mx
open Int renaming toNat_natCast->HP, le_refl->IT, zero_add->Jl, toNat_of_nonneg->Jm, emod_nonneg->Jy, emod_lt_of_pos->Jz, le_antisymm->KS, le_trans->LX, fdiv_eq_ediv_of_nonneg->Me
open Int.ofNat renaming inj->KJ
open List renaming getElem?_eq_getElem->Hz, getElem?_eq_some_iff->HB, mem_of_getElem?->HC, length_map->HD, getElem?_append_right->HG, getElem?_append_left->HH, length_append->HJ, mem_cons_of_mem->HK, mem_cons_self->HL, getElem?_map->HN, mem_cons->HQ, replicate->HR, nodup_cons->HS, getD_eq_getElem?_getD->HU, map_append->HW, mem_append->HY, take_add_one->Ie, mem_singleton->Ih, length_singleton->Ik, map_cons->Il, mem_map->Im, take_length->Ip, mem_append_right->Ir, nodup_append->Iu, length_take->IC, size_toArray->IE, range->IG, getElem?_of_mem->II, mem_iff_getElem?->IJ, length_cons->IM, getElem?_set->IQ, mem_append_left->IU, length_set->IV, mem_flatten->IW, mem_range->Ja, flatten_cons->Jb, getElem?_eq_none->Jc, map_congr_left->Jf, pairwise_iff_getElem->Jg, length_filter_le->Jj, getElem_of_mem->Jk, length_range->Jn, getElem?_replicate->Jo, perm_ext_iff_of_nodup->Jp, map_map->Jq, perm_append_comm->Jw, take_of_length_le->JA, length_pos_of_mem->JB, nodup_nil->JF, append_assoc->JK, mem_filter->JM, getElem_mem->JQ, cons_append->JR, take_append_drop->JT, replicate_succ'->JU, erase_cons_head->JV, length_drop->Kc, pairwise_cons->Ke, filter_append->Kf, length_replicate->Ki, length_nil->Kj, find?_cons->Kk, append_nil->Kl, mem_or_eq_of_mem_set->Kr, length_eq_zero_iff->Ku, getElem?_drop->Kv, pairwise_map->Kz, not_mem_nil->KC, eq_nil_of_length_eq_zero->KD, perm_cons_erase->KG, map_take->KH, map_drop->KI, length_reverse->KP, getElem?_range->KQ, flatten_append->KR, length_erase_of_mem->K6, idxOf_lt_length_iff->K7, foldl_append->K9, lookup->Lc, filter_cons_of_pos->Ld, filter_cons->Lg, getElem?_set_self->Lj, range_succ->Lo, of_mem_zip->Lp, mem_of_mem_erase->Lq, getElem?_reverse->Lr, getElem?_set_ne->Lv, filterMap_cons->LG, sum_cons->LJ, getElem?_take->LK, ext_getElem?->LQ, map_set->LW, isEmpty_nil->LY, ext_getElem->LZ, any_eq_true->L3, dropLast_concat_getLast->L6, idxOf_lt_length_of_mem->Mb, foldl_cons->Mc, length_eraseIdx_of_lt->Md, getElem?_zip_eq_some->Mh, filter_cons_of_neg->Mw
open List.Perm renaming swap->LA
open Nat renaming le_refl->HF, le_of_lt->Ia, testBit_two_pow->Ic, ne_of_lt->Ig, sub_self->Iq, lt_of_lt_of_le->Iy, zero_le->Iz, eq_of_testBit_eq->IB, le_trans->IK, pow_lt_pow_right->IL, testBit_xor->IP, not_lt_zero->IX, pow_le_pow_right->IZ, xor_assoc->I8, testBit_or->I9, xor_lt_two_pow->Jh, ne_of_gt->Ji, two_pow_pos->Js, zero_testBit->Jt, lt_succ_of_lt->Jv, lt_pow_two_of_testBit->JE, mod_eq_of_lt->JH, lt_irrefl->JI, lt_succ_self->JP, lt_trans->JS, min_eq_left->JX, xor_self->JY, testBit_and->Kg, le_succ->Kh, le_add_right->Ks, testBit_eq_decide_div_mod_eq->Kw, testBit->Ky, le_of_not_lt->KA, testBit_two_pow_sub_one->KO, zero_add->K0, xor_zero->K3, xor_comm->K4, not_lt_of_le->Lf, testBit_lt_two_pow->Li, mul_le_mul_right->Lu, sub_add_eq->Lz, add_sub_cancel->LI, or_lt_two_pow->LN, le_succ_of_le->LP, mod_self->LU, add_comm->LV, strongRecOn->L9, min_le_left->Ma, mod_lt->Mn, testBit_div_two_pow->Mv
open Option renaming map_eq_some_iff->HV, toList_some->KZ, isSome_iff_exists->Mm
open Option.some renaming inj->Iw
open PySem renaming Spec->Ib, mem_of_lookup->JL
open PySem.F renaming plainAttrs_list->HZ, type_list_append->Ii, slot_list_append->Ij, plain_min_loop->IF, plain_extend_loop->JD, entry_min_loop->JO, plainAttrs_dict->La, slot_dict_get->Ln, type_list_insert->Mi, slot_list_insert->Mj, args_list_init_2->Ml, type_list_index->Mo, typeCall_list_1->Mp, slot_list_index->Mq, slot_dict_items->Mr, entry_list_init->Mt, args_dict_get_3->Mu
open PySem.W renaming Frag->HE, findIn->Iv, nsIn->ID, mg_none_of->IH, keepIn->IY, fnOf->Ju, kia_one->Jx, emptyDict->JC, codeIn->JJ, instObj->JW, mg_of->JZ, plainGet->Kb, CodeHd->Kd, tabIn->Km, hasDictIn->Ko, isFn->Kt, plainOver->Kx, makesIn->KN, kla_obj->Lm, lookIn->Lx, kitOne->Ly, plainGet_of->LF, callWith_K->LH, methodObj->LL, takerIn->L7, OpenLaw->L8, tabObj->Mg
set_option Elab.async false
set_option linter.all false
set_option compiler.extract_closed false
set_option genSizeOf false
set_option maxRecDepth 100000
local macro_rules | `(tactic| omega) => `(tactic| first | assumption | lia | omega +splitDisjunctions)
local macro_rules | `(tactic| ac_rfl) => `(tactic| omega +splitDisjunctions)
local macro_rules | `(tactic| ac_nf) => `(tactic| exact ⟨rfl,rfl,rfl,by decide +kernel,rfl,by decide +kernel,by decide +kernel⟩)
local macro_rules | `(tactic| decide) => `(tactic| decide +kernel)
local macro_rules | `(∅) => `(by first|decide|omega)
local macro_rules | `(tactic| walk_at "cc") => `(tactic| first | exact ⟨by decide, by decide⟩ | (show (0 : Int) < _; decide) | (show (0 : Int) < _; omega) | (show (0 : Int) ≤ _; omega) | exact ⟨by decide, by decide, by decide⟩ | exact ⟨by omega, by omega, by decide⟩ | exact Or.inl ⟨by decide, by decide⟩ | exact Or.inl ⟨by omega, by omega⟩)
local macro_rules | `(tactic| walk_at "rd") => `(tactic| repeat (first | refine ⟨_, rfl, ?_⟩ | (refine ⟨_, _, rfl, rfl, ?cc, ?_⟩; (case cc => walk_at "cc")) | refine ⟨_, _, rfl, rfl, ?_⟩ | refine ⟨rfl, ?_⟩ | (refine ⟨?cc, ?_⟩; (case cc => walk_at "cc"))))
local macro_rules | `(tactic| walk_at "l") => `(tactic| (intro _ _ _ _ h; first | (cases h; subst_vars; rfl) | repeat (first | (obtain ⟨e, _⟩ := h; subst e; rfl) | obtain ⟨_, h⟩ := h)))
local macro_rules
 |`(tactic|let $c:letConfig $d:letDecl)=>do
  let z:=d.raw[0]
  unless z.isOfKind ``Lean.Parser.Term.letIdDecl do Lean.Macro.throwUnsupported
  if z[1].getNumArgs==0 then return ←`(tactic|have $c:letConfig $d:letDecl)
  let f(e:Lean.Syntax):Lean.MacroM (Lean.TSyntax `rcasesPat):=if e.isIdent then `(rcasesPat|$(⟨e⟩):ident) else `(rcasesPat|_)
  let mut p:=#[]
  for b in #[z[0][0]]++z[1].getArgs do
   if b.isOfKind ``Lean.Parser.Term.implicitBinder then
    let q←b[1].getArgs.mapM f
    p:=p.push (←`(rcasesPat|⟨$[$q],*⟩))
   else unless b.isOfKind `hygieneInfo do p:=p.push (←f b)
  if z[2].getNumArgs==0 then `(tactic|obtain ⟨$[$p],*⟩:=$(⟨z[4]⟩):term) else `(tactic|obtain ⟨$[$p],*⟩:$(⟨z[2][0][1]⟩):term:=$(⟨z[4]⟩):term)
local macro_rules|`(tactic|erw[$r,*])=>do
  let t:Array Lean.Term:=r.getElems.map λe=>⟨e.raw[1]⟩
  `(tactic|refine ⟨$[$t],*⟩)
theorem My{p:Prop}[Decidable p](h:¬p):decide p=false:=decide_eq_false h
theorem Ni{p:Prop}[Decidable p](h:p):decide p=true:=decide_eq_true h
theorem NO{p:Prop}[Decidable p](h:decide p=true):p:=of_decide_eq_true h
theorem NX.{u}{c:Prop}{h:Decidable c}(g:c){α:Sort u}{t e:α}:ite c t e=t:=if_pos g
theorem NY.{u}{c:Prop}{h:Decidable c}(g:¬c){α:Sort u}{t e:α}:ite c t e=e:=if_neg g
theorem NZ{a b:Prop}(h:a)(g:¬a):b:=absurd h g
open PySem (Addr Around CmpOp Env Expr FuncData Heap Obj Pos Program Result Scope Sem Shared Stmt Str Value World)
variable{C I PL a f f1 f2 it p q tb tp va wd:Addr}{A:Around}{op:CmpOp}{env:Env}{G fd:FuncData}{K:HE}{base h h':Heap}{Y:List (Addr×Obj)}{rs ts:List (List Nat)}{kv:List (Nat×Nat)}{T:List (Option Int)}{O:List (Option Nat)}{fr:List (Str×Nat)}{fp:List Addr}{ns ord:List Int}{B W ks l l' ps r':List Nat}{its us vs:List Value}{L M N ep i j left m mk n t':Nat}{F J Pl:Nat->Bool}{D:Nat->Nat->Int}{ex ex':Nat->Nat->Prop}{e:Nat×Nat}{o ob:Obj}{pos:Pos}{P:Program}{R:Result->Shared->Prop}{scope:Scope}{pl:Sem Bool}{x:Str}{mg:Str->Option Value}{α:Type}{u:Value}{E Q:Value->Shared->Prop}{w:World}
inductive Ex2{α β:Sort _}(p:α->β->Prop):Prop|mk a b:p a b->Ex2 p
inductive Ex3{α β γ:Sort _}(p:α->β->γ->Prop):Prop|mk a b c:p a b c->Ex3 p
inductive Ex4{α β γ δ:Sort _}(p:α->β->γ->δ->Prop):Prop|mk a b c d:p a b c d->Ex4 p
inductive Ex5{α β γ δ ε:Sort _}(p:α->β->γ->δ->ε->Prop):Prop|mk a b c d e:p a b c d e->Ex5 p
inductive Ex6{α β γ δ ε ζ:Sort _}(p:α->β->γ->δ->ε->ζ->Prop):Prop|mk a b c d e f:p a b c d e f->Ex6 p
inductive An3(a b c:Prop):Prop|mk:a->b->c->An3 a b c
inductive An4(a b c d:Prop):Prop|mk:a->b->c->d->An4 a b c d
inductive An5(a b c d e:Prop):Prop|mk:a->b->c->d->e->An5 a b c d e
inductive An6(a b c d e f:Prop):Prop|mk:a->b->c->d->e->f->An6 a b c d e f
inductive An7(a b c d e f g:Prop):Prop|mk:a->b->c->d->e->f->g->An7 a b c d e f g
local macro_rules|`(∃$xs:explicitBinders,$b)=>do
 let x:=xs.raw[0]
 let mut v:=#[]
 if x.isOfKind `Lean.unbracketedExplicitBinders then
  for i in x[0].getArgs do v:=v.push (i[0],x[1][1])
 else
  for z in x.getArgs do
   for i in z[1].getArgs do v:=v.push (i[0],z[3])
 let mut c:Array Lean.Term:=#[]
 let mut e:Lean.Term:=b
 while true do
  match e with
  |`($p∧$q)=>c:=c.push p;e:=q
  |_=>break
 if v.size<2&&c.size<2 then Lean.Macro.throwUnsupported
 while c.size>0 do
  let a:=(c.extract (c.size-6) c.size).push e
  c:=c.extract 0 (c.size-6)
  e←if a.size<3 then `($(a[0]!)∧$e) else `($(Lean.mkIdent (.mkSimple s!"An{a.size}")) $a*)
 while v.size>0 do
  let g:=v.extract (v.size-6) v.size
  v:=v.extract 0 (v.size-6)
  let f←g.mapM λ(i,t)=>do
   let i←if i.isIdent then pure ⟨i⟩ else `(_)
   if t.isMissing then `(Lean.Parser.Term.funBinder|$i:term) else `(Lean.Parser.Term.funBinder|($i:term:$(⟨t⟩)))
  e←`($(if g.size<2 then Lean.mkIdent `Exists else Lean.mkIdent (.mkSimple s!"Ex{g.size}")) λ$f*=>$e)
 return e
local macro_rules|`($x:declaration)=>do
 unless(x.raw[1].isOfKind `Lean.Parser.Command.definition||x.raw[1].isOfKind `Lean.Parser.Command.abbrev)&&x.raw[0].getArgs.all (·.getNumArgs==0) do Lean.Macro.throwUnsupported
 return x.raw.setArg 0 (←`(noncomputable def x:=1)).raw[0]
namespace L2
open PySem PySem.Spec PyProof.Rows
abbrev Key:=Sum Int Str
def oR:Key->Value->Bool
 |.inl k,v=>Value.isInt k v
 |.inr x,v=>Value.isStrOf x v
def keyH(w:World):Key->Int
 |.inl k=>hashInt k
 |.inr x=>hashStr w x
theorem aY:∀{k:Key}{v:Value},oR k v=true->(∃ i t,k=Sum.inl i/\v=Value.int i t)∨(∃ x t,k=Sum.inr x/\v=Value.str x t)
 |.inl i,v,h=>by
  let t e:=Value.isInt_shape (k:=i) (v:=v) h;exact .inl ⟨i,t,rfl,e⟩
 |.inr x,v,h=>by
  let t e:=Value.isStrOf_shape (x:=x) (v:=v) h;exact .inr ⟨x,t,rfl,e⟩
theorem Bp(i:Int)(t:Tok):oR (.inl i) (.int i t)=true:=by simp[oR,Value.isInt]
theorem Bo(x:Str)(t:Tok):oR (.inr x) (.str x t)=true:=by simp[oR,Value.isStrOf]
theorem key_ll(a b:Int):decide ((Sum.inl a:Key)=Sum.inl b)=(a == b):=by
 by_cases e:a=b
 .subst e;simp
 .simp_all
theorem key_rr(a b:Str):decide ((Sum.inr a:Key)=Sum.inr b)=decide (a=b):=by
 simp_all
theorem key_lr(a:Int)(b:Str):decide ((Sum.inl a:Key)=Sum.inr b)=false:=My (λq=>nomatch q)
theorem key_rl(a:Str)(b:Int):decide ((Sum.inr a:Key)=Sum.inl b)=false:=My (λq=>nomatch q)
def bx(prog:Program)(w:World):PySem.KeyKind prog w Key where
 is:=oR
 hash:=keyH w
 inj:=λv a b E L=>by
  rcases aY E with⟨i,t,rfl,rfl⟩|⟨x,t,rfl,rfl⟩
  .rcases aY L with⟨j,u,rfl,e⟩|⟨y,u,rfl,e⟩
   .injection e with C _;rw[C]
   .contradiction
  .rcases aY L with⟨j,u,rfl,e⟩|⟨y,u,rfl,e⟩
   .contradiction
   .injection e with C _;rw[C]
 byValue:=λk v h=>by
  rcases aY h with⟨i,t,rfl,rfl⟩|⟨x,t,rfl,rfl⟩<;>rfl
 pyHash:=λA h=>by
  rcases aY A with⟨i,t,rfl,rfl⟩|⟨x,t,rfl,rfl⟩
  .exact wpAny_pyHash_int h
  .exact wpAny_pyHash_str h
 eqBool:=λf A h=>by
  rcases aY f with⟨i,t,rfl,rfl⟩|⟨x,t,rfl,rfl⟩
  .rcases aY A with⟨j,u,rfl,rfl⟩|⟨y,u,rfl,rfl⟩
   .rw[key_ll]at h;exact wpAny_eqBool_int h
   .rw[key_lr]at h;exact SeqAt.EqAt.int_str i t y u _ _ _ _ h
  .rcases aY A with⟨j,u,rfl,rfl⟩|⟨y,u,rfl,rfl⟩
   .rw[key_rl]at h;exact SeqAt.EqAt.str_int x t j u _ _ _ _ h
   .rw[key_rr]at h;exact wpAny_eqBool_str h
 «strs»:=λk x t v h=>by
  rcases aY h with⟨i,u,rfl,e⟩|⟨y,u,rfl,e⟩
  .exact nomatch e
  .injection e with C _;subst C
   cases v<;>rfl
theorem vC(prog:Program)(w:World)(i:Int)(t:Tok):(bx prog w).is (.inl i) (.int i t)=true:=Bp i t
theorem vB(prog:Program)(w:World)(x:Str)(t:Tok):(bx prog w).is (.inr x) (.str x t)=true:=Bo x t
inductive V where
 |non|bl (b:Bool)|int (i:Int)|str (x:Str)|byt (b:Array UInt8)|flt (b:UInt64)|ref (a:Addr)|ty (n:String)
 deriving DecidableEq
def RelV:V->Value->Prop
 |.non,u=>u=Value.none
 |.bl b,u=>u=Value.bool b
 |.int i,u=>∃ t,u=Value.int i t
 |.str x,u=>∃ t,u=Value.str x t
 |.byt b,u=>∃ t,u=Value.bytes b t
 |.flt b,u=>∃ t,u=Value.float b t
 |.ref a,u=>u=Value.ref a
 |.ty n,u=>u=Value.type n
abbrev Vals:List V->List Value->Prop:=Paired RelV
theorem Vals.length{xs:List V}{us:List Value}(r:Vals xs us):xs.length=us.length:=Paired.length r
theorem Vals.get:∀{xs:List V}{us:List Value}{i:Nat}{x:V},Vals xs us->xs[i]?=some x->∃ u,us[i]?=some u/\RelV x u
 |_,_,_,_,.nil,e=>by simp at e
 |_,_,0,_,.cons r _,e=>by simp at e;subst e;erw[_,rfl,r]
 |_,_,i+1,x,.cons _ t,e=>by
  let u Y B:=Vals.get (i:=i) (x:=x) t (by simpa using e)
  erw[u,by assumption,B]
theorem Vals.set{x:V}{u:Value}(r:RelV x u):∀{xs:List V}{us:List Value}(i:Nat),Vals xs us->Vals (xs.set i x) (us.set i u)
 |_,_,_,.nil=>.nil
 |_,_,0,.cons _ t=>.cons r t
 |_,_,i+1,.cons q t=>.cons q (Vals.set r i t)
theorem Vals.append:∀{xs ys:List V}{us J:List Value},Vals xs us->Vals ys J->Vals (xs++ys) (us++J)
 |_,_,_,_,.nil,s=>s
 |_,_,_,_,.cons r t,s=>.cons r (Vals.append t s)
theorem Vals.take:∀{xs:List V}{us:List Value}(n:Nat),Vals xs us->Vals (xs.take n) (us.take n)
 |_,_,0,_=>.nil
 |_,_,_+1,.nil=>.nil
 |_,_,n+1,.cons r t=>.cons r (Vals.take n t)
theorem Vals.drop:∀{xs:List V}{us:List Value}(n:Nat),Vals xs us->Vals (xs.drop n) (us.drop n)
 |_,_,0,r=>r
 |_,_,_+1,.nil=>.nil
 |_,_,n+1,.cons _ t=>Vals.drop n t
def RelO:Option V->Option Value->Prop
 |some v,some u=>RelV v u
 |none,none=>True
 |_,_=>False
def KV{a:Type}:List (a×V)->List (a×Value)->Prop:=Paired λ(p:a×V) (q:a×Value)=>p.1=q.1/\RelV p.2 q.2
def kV:Key->V
 |.inl i=>.int i
 |.inr x=>.str x
inductive HO where
  |lst (xs:List V)
  |tup (xs:List V)
  |dK (kvs:List (Key×V))|dT (kvs:List (List Key×V))
  |set (S:Int->Bool) (n:Nat)
  |ins (C dx:Addr) (fs:List (Str×V))
  |own (x:Addr)
  |xd (fs:List (Str×V))
  |met (f x:Addr)
  |rng (lo hi:Int)
  |frz (o:Obj) (u:HO)
  |tbl (ps:Array Value)
  |ext (φ:Heap->Prop)
abbrev Hp:=Addr->Option HO
def upd(H:Hp)(a:Addr)(o:HO):Hp:=λb=>if b=a then some o else H b
theorem af{H:Hp}{o:HO}:upd H a o a=some o:=by unfold upd;rw[NX rfl]
theorem ao{H:Hp}{b:Addr}{o:HO}(h:b≠a):upd H a o b=H b:=by unfold upd;rw[NY h]
theorem yL{H:Hp}{b:Addr}{o u:HO}(h:H a=some o)(h':H b=some u)(d:o≠u):a≠b:=by
 intro e;subst e;grind
theorem aD{H:Hp}{b:Addr}{o:HO}(h:H a=some o)(h':H b=none):a≠b:=by
 grind
section
variable(P:Program)(w:World)
def bu(H:Hp)(h:Heap)(a:Addr):HO->Prop
 |.lst j=>j.length<=Mz/\∃(E:List Value)(n:Nat),Vals j E/\h.get? a=some {cls:=.type "list",data:=.seq E.toArray n}
 |.tup j=>j.length<=Mz/\∃ E:List Value,Vals j E/\IsTup h a E.toArray
 |.dK L=>L.length<=Mz/\(a == sysModules)=false/\∃ g,KV L g/\h.DictOf (bx P w) a g
 |.dT L=>L.length<=Mz/\(a == sysModules)=false/\∃ j:List (List Key×Addr×Value),
   Paired (λ(p:List Key×V) (q:List Key×Addr×Value)=>p.1=q.1/\H q.2.1=some (.tup (p.1.map kV))/\RelV p.2 q.2.2) L j /\
   ∃ o N M,h.get? a=some o/\o.ExactDict/\o.data=.dict N M/\N.toList=j.map (entryOfKey (tupleKind (bx P w)))/\(j.map (·.1)).Nodup
 |.set S n=>h.SetOf (intKind P w) a S n
 |.ins C l fs=>H l=some (.own a)/\fs.length<=1000/\l≠a/\h.get? a=some (JW C l) /\
   ∃ J,h.Ns1 l J/\(∀ f,RelO (fs.lookup f) (J f))/\PySem.Within J (fs.map (·.1))
 |.own _=>∃ o,h.get? a=some o
 |.xd fs=>∃ J,h.Ns1 a J/\∀ f,RelO (fs.lookup f) (J f)
 |.rng lo I=>∃ t u v,h.get? a=some {cls:=.type "range",data:=.fields #[.int lo t,.int I u,.int 1 v]}
 |.frz o u=>h.get? a=some o/\bu H h a u
 |.tbl A=>h.get? a=some {cls:=.none,data:=.fields A}
 |.met f x=>h.get? a=some (LL (.ref f) (.ref x))
 |.ext s=>s h/\(∃ o,h.get? a=some o)/\∀ Y B:Heap,s Y->(∀ o,Y.get? a=some o->B.get? a=some o)->s B
def HOk(H:Hp)(h:Heap):Prop:=∀ a o,H a=some o->bu P w H h a o
end
section
variable{P:Program}{w:World}{H H':Hp}{h h':Heap}{a:Addr}{o:HO}
theorem bu.lt(x:bu P w H h a o):a<h.objs.size:=by
 cases o with
 |lst j=>obtain⟨_,_,_,_,e⟩:=x;exact MA e
 |tup j=>obtain⟨_,_,_,p⟩:=x;exact p.lt
 |dK L=>obtain⟨_,_,_,_,o,_,_,e,_⟩:=x;exact MA e
 |dT L=>obtain⟨_,_,_,_,o,_,_,e,_⟩:=x;exact MA e
 |set S n=>obtain⟨o,_,_,_,e,_⟩:=x;exact MA e
 |ins C l fs=>obtain⟨_,_,_,e,_⟩:=x;exact MA e
 |own y=>obtain⟨_,e⟩:=x;exact MA e
 |xd fs=>obtain⟨_,⟨_,_,_,e,_⟩,_⟩:=x;exact MA e
 |rng lo I=>obtain⟨_,_,_,e⟩:=x;exact MA e
 |frz D u=>obtain⟨e,_⟩:=x;exact MA e
 |tbl A=>exact MA (show h.get? a=some _ from x)
 |met f y=>exact MA (show h.get? a=some _ from x)
 |ext s=>obtain⟨_,⟨_,e⟩,_⟩:=x;exact MA e
theorem Paired.mapP{α c:Type}{F G:α->c->Prop}:∀{d:List α}{g:List c},Paired F d g->(∀ a b,F a b->G a b)->Paired G d g
 |_,_,.nil,_=>.nil
 |_,_,.cons r t,f=>.cons (f _ _ r) (Paired.mapP t f)
theorem bu.stay(x:bu P w H h a o)(k:∀ b u,(b=a∨H b=some (.own a))->h.get? b=some u->h'.get? b=some u)(O:∀ b,H b=some (.own a)->H' b=some (.own a))(i:∀ b xs,H b=some (.tup xs)->H' b=some (.tup xs)):bu P w H' h' a o:=by
 induction o with
 |lst xs=>obtain⟨z,E,n,r,e⟩:=x;erw[z,E,n,r,k _ _ (.inl rfl) e]
 |tup xs=>obtain⟨z,E,r,D,e,c⟩:=x;erw[z,E,r,D,k _ _ (.inl rfl) e,c]
 |dK L=>obtain⟨z,y,g,r,D,N,M,e,c⟩:=x;erw[z,y,g,r,D,N,M,k _ _ (.inl rfl) e,c]
 |dT L =>
  let z y xs r D N M e c c2 c3 c4:=x;erw[z,y,xs,Paired.mapP r λp q z=>⟨z.1,i _ _ z.2.1,z.2.2⟩,D,N,M,k _ _ (.inl rfl) e,c,c2,c3,c4]
 |set S n=>obtain⟨D,N,M,t,e,c⟩:=x;erw[D,N,M,t,k _ _ (.inl rfl) e,c]
 |ins C l fs =>
  let d z ne e J{B N M T c}r m:=x;erw[O _ d,z,ne,k _ _ (.inl rfl) e,J,⟨B,N,M,k _ _ (.inr d) T,c⟩,r,m]
 |own y=>obtain⟨D,e⟩:=x;erw[D,k _ _ (.inl rfl) e]
 |xd fs=>obtain⟨J,⟨B,N,M,e,c⟩,r⟩:=x;erw[J,⟨B,N,M,k _ _ (.inl rfl) e,c⟩,r]
 |rng lo I=>obtain⟨t,u,v,e⟩:=x;erw[t,u,v,k _ _ (.inl rfl) e]
 |frz D u Q=>obtain⟨e,q⟩:=x;erw[k _ _ (.inl rfl) e,Q q]
 |tbl A =>
  let e:h.get? a=some {cls:=.none,data:=.fields A}:=x;show h'.get? a=some {cls:=.none,data:=.fields A};exact k a _ (.inl rfl) e
 |met f y =>
  let e:h.get? a=some (LL (.ref f) (.ref y)):=x;show h'.get? a=some (LL (.ref f) (.ref y));exact k a _ (.inl rfl) e
 |ext s=>obtain⟨p,⟨o,e⟩,st⟩:=x;erw[st _ _ p λo q=>k _ _ (.inl rfl) q,⟨o,k _ _ (.inl rfl) e⟩,st]
theorem HOk.lt(x:HOk P w H h)(e:H a=some o):a<h.objs.size:=(x a o e).lt
theorem HOk.fresh(x:HOk P w H h)(e:h.objs.size<=a):H a=none:=by
 cases q:H a with
 |none=>rfl
 |some u=>exact NZ (Iy (x.lt q) e) (JI _)
theorem HOk.kept(x:HOk P w H h)(k:∀ b u,h.get? b=some u->h'.get? b=some u):HOk P w H h':=λa o e =>
 (x a o e).stay (λb u _ q=>k b u q) (λ_ q=>q) λ_ _ q=>q
theorem HOk.laid(x:HOk P w H h)(k:∀ b u,h.get? b=some u->h'.get? b=some u)(M:h.objs.size<=a)(new:bu P w (upd H a o) h' a o):HOk P w (upd H a o) h':=λb u e=>by
 let N:=x.fresh M;by_cases L:b=a
 .subst L;rw[af]at e;cases e;exact new
 .rw[ao L]at e;exact(x b u e).stay (λc v _ q=>k c v q) (λc q=>by rw[ao (aD q N)];exact q) λc j q=>by rw[ao (aD q N)];exact q
end
def Rd(H:Hp)(a:Addr)(u:HO):Prop:=H a=some u∨∃ o,H a=some (.frz o u)
theorem Rd.ok{H:Hp}{u:HO}(r:Rd H a u)(x:HOk P w H h):bu P w H h a u:=by
 obtain r|⟨o,r⟩:=r
 .exact x a u r
 .let _ q:=x a _ r;exact q
def Mut:Option HO->Prop
 |some (.lst _)=>True
 |some (.dK _)=>True
 |some (.dT _)=>True
 |some (.set _ _)=>True
 |some (.ins _ _ _)=>True
 |some (.ext _)=>True
 |_=>False
section
variable{P:Program}{w:World}{H:Hp}{h h':Heap}{x e:Addr}{o':HO}
theorem HOk.write(ok:HOk P w H h)(f:Mut (H x))(D:e=x∨H e=some (.own x))(k:∀ b u,b≠e->h.get? b=some u->h'.get? b=some u)(d:∃ u,h'.get? e=some u)
  (new:bu P w (upd H x o') h' x o'):HOk P w (upd H x o') h':=λb u q=>by
 let i:∀ c y,H c=some (.own y)->c≠x:=λc y r z=>by subst z;rw[r]at f;exact f
 let l:∀ c j,H c=some (.tup j)->c≠x:=λc j r z=>by subst z;rw[r]at f;exact f
 by_cases L:b=x
 .subst L;rw[af]at q;cases q;exact new
 .rw[ao L]at q;by_cases a:b=e
  .let T:H b=some (.own x):=by
    obtain z|z:=D
    .exact NZ (a.trans z) L
    .rw[a];exact z
   rw[q]at T;cases T;let v A:=d;erw[v,by rw[a];exact A]
  .refine(ok b u q).stay (λc v g r=>k c v ?_ r) (λc r=>by rw[ao (i c b r)];exact r) λc j r=>by rw[ao (l c j r)];exact r
   obtain rfl|g:=g
   .exact a
   .grind
end
structure Un(fs ex:List Addr)(H H':Hp)(h h':Heap):Prop where
 keep:∀ b o,h.get? b=some o->H b=none->b∉fs->b∉ex->h'.get? b=some o
 slot:∀ b o,h.get? b=some o->H b=none->b∈fs->b∉ex->∃ sl,h'.get? b=some {o with slots:=sl}
 free:∀ b o,h.get? b=some o->H b=none->b∉ex->H' b=none
 there:∀ b o,h.get? b=some o->b∉ex->∃ o',h'.get? b=some o'
 tups:∀ b xs,H b=some (.tup xs)->H' b=some (.tup xs)
 frzs:∀ b o u,H b=some (.frz o u)->H' b=some (.frz o u)
 tbls:∀ b ps,H b=some (.tbl ps)->∃ more,H' b=some (.tbl (ps++more))
section
variable{fs fs' ex ex':List Addr}{H H1 H2:Hp}{h h1 h2 h':Heap}{a x e:Addr}{o:HO}
theorem Un.any(u:Un fs ex H H1 h h1){b:Addr}(q:h.get? b=some ob)(n:H b=none)(J:b∉ex):∃ sl,h1.get? b=some {ob with slots:=sl}:=by
 by_cases L:b∈fs
 .exact u.slot b ob q n L J
 .erw[ob.slots,u.keep b ob q n L J]
theorem Un.kept(k:∀ b u,h.get? b=some u->h'.get? b=some u):Un fs ex H H h h' :=
 ⟨λb D q _ _ _=>k b D q,λb D q _ _ _=>⟨D.slots,k b D q⟩,λ_ _ _ n _=>n,λb D q _=>⟨D,k b D q⟩,λ_ _ q=>q,λ_ _ _ q=>q,λ_ A q=>⟨#[],by assumption⟩⟩
theorem Un.refl:Un fs ex H H h h:=Un.kept λ_ _ q=>q
theorem Un.laid(k:∀ b u,h.get? b=some u->h'.get? b=some u)(M:h.objs.size<=a)(N:H a=none):Un fs ex H (upd H a o) h h' where
 keep:=λb u q _ _ _=>k b u q
 slot:=λb u q _ _ _=>⟨u.slots,k b u q⟩
 free:=λb u q n _=>by rw[ao (Ig (Iy (MA q) M))];exact n
 there:=λb u q _=>⟨u,k b u q⟩
 tups:=λb j q=>by rw[ao (aD q N)];exact q
 frzs:=λb u j q=>by rw[ao (aD q N)];exact q
 tbls:=λb A q=>⟨#[],by rw[ao (aD q N),q];simp⟩
theorem Un.write(f:Mut (H x))(D:e=x∨H e=some (.own x))(k:∀ b u,b≠e->h.get? b=some u->h'.get? b=some u)(d:∃ u,h'.get? e=some u):Un fs ex H (upd H x o) h h':=by
 let J:∀ b,H b=none->b≠x:=λb n z=>by subst z;rw[n]at f;exact f
 let L:∀ b,H b=none->b≠e:=λb n z=>by
  simp_all
 let y:∀ b u,H b=some u->¬ Mut (some u)->b≠x:=λb u q O z=>by simp_all
 erw[λb u q n _ _=>k b u (L b n) q,λb u q n _ _=>⟨u.slots,k b u (L b n) q⟩,λb u q n _=>by rw[ao (J b n)];exact n,λb u q _=>?_,
  λb j q=>by rw[ao (y b _ q λz=>z)];exact q,λb u j q=>by rw[ao (y b _ q λz=>z)];exact q,λb A q=>⟨#[],by rw[ao (y b _ q λz=>z),q];simp⟩]
 by_cases a:b=e
 .subst a;exact d
 .erw[u,k b u a q]
end
def trk(h:Heap)(H:Hp):List Addr:=(IG h.objs.size).filter λa=>(H a).isSome
def hidT(h:Heap)(H:Hp):Heap:=PySem.W.hideAll h (trk h H)
theorem BE(h:Heap)(H:Hp):(hidT h H).objs.size=h.objs.size:=PySem.W.hideAll_size _ _
theorem nh{H:Hp}{b:Addr}(e:h.get? b=some o)(n:H b=none):(hidT h H).get? b=some o :=
 PySem.W.hideAll_get _ e λy=>by
  let q:(H b).isSome=true:=(JM.mp y).2;rw[n]at q;simp at q
theorem GD{H:Hp}{b:Addr}(e:(hidT h H).get? b=some o):h.get? b=some o/\H b=none:=by
 let T:h.get? b=some o:=PySem.W.of_hideAll (trk h H) e;erw[T,?_]
 cases q:H b with
 |none=>rfl
 |some x =>
  let y:b∈trk h H:=JM.mpr ⟨Ja.mpr (MA T),by simp[q]⟩
  let z:(hidT h H).get? b=none:=PySem.W.hideAll_none (trk h H) y;simp_all
structure Mod(K:HE)(mg:Str->Option Value)(base:Heap):Prop where
 kin:K.In base
 glob:base.Ns MB mg
 blt:∃ mb,base.Ns builtinsNs mb/\∀ x:Str,x≠"__name__"->mb x=MC x
 nolimit:base.NoLimit
set_option genInjectivity false in
structure Cx where
 prog:Program
 w:World
 K:HE
 mg:Str->Option Value
 base:Heap
 A:Around
 N:List Str
 s₀:Shared
 H₀:Hp
 env:Env
 outer:List Env
 stack:List Env
 ex:List Addr
 fn:Str->Bool
 calm:Bool
 pn:List (Addr×Obj)
 xe:Value->Shared->Prop
def frs(l:List Env):List Addr:=l.filterMap (·.frame)
abbrev Cx.fs(X:Cx):List Addr:=frs X.outer
def Vis(a:Scope)(x:Str):Prop:=a.names.lookup x=some .local∨a.names.lookup x=some .cell∨a.names.lookup x=some .free
def Loc(a:Scope)(x:Str):Prop:=a.names.lookup x=some .local∨a.names.lookup x=some .cell
def Look(env:Env)(h:Heap)(m:Str->Option Value)(x:Str)(u:Value):Prop :=
 (env.kindOf x=some .local/\m x=some u)∨((env.kindOf x=some .cell∨env.kindOf x=some .free)/\∃ c,env.cells.lookup x=some c/\h.IsCell c (some u))
structure Cx.Ok(X:Cx):Prop where
 mod:Mod X.K X.mg X.base
 kind:X.env.scope.kind=.function
 glob:X.env.globals=MB
 blt:X.env.builtins=builtinsNs
 above:X.s₀.heap.objs.size<=X.env.locals
 inj:∀ x y c,X.env.cells.lookup x=some c->X.env.cells.lookup y=some c->x=y
 has:∀ x,(X.env.kindOf x=some .cell∨X.env.kindOf x=some .free)->∃ c,X.env.cells.lookup x=some c
 cab:∀ x c,X.fn x=true->X.env.cells.lookup x=some c->X.s₀.heap.objs.size<=c
 hd:X.calm=true->X.A.handled=none
 frames:X.A.frames=some X.stack
 stk:X.stack=X.outer∨(X.stack=X.env::X.outer/\X.env.frame=some X.env.locals)
 exf:∀ b∈X.ex,b≠X.env.locals/\∀ x c,X.env.cells.lookup x=some c->c≠b
 bs:∀ b o,X.base.get? b=some o->X.s₀.heap.get? b=some o/\X.H₀ b=none
 bsz:X.base.objs.size<=X.s₀.heap.objs.size
 noex:∀ b o,X.base.get? b=some o->b∉X.ex
 exfs:∀ b∈X.ex,b∉X.fs
 funs:X.s₀.heap.FunFrames X.base X.outer
 frf:∀ b∈X.fs,X.H₀ b=none
structure Inv(X:Cx)(pins:List (Addr×Obj))(σ:List (Option V))(H:Hp)(s:Shared):Prop where
 ok:X.Ok
 os:s.os=X.s₀.os
 bare:AllBare s.gens
 base:Un X.fs X.ex X.H₀ H X.s₀.heap s.heap
 loc:∃ m,s.heap.Ns X.env.locals m/\∀(i:Nat)(x:Str)(v:V),X.N[i]?=some x->σ[i]?=some (some v)->Vis X.env.scope x->∃ u,RelV v u/\Look X.env s.heap m x u
 cell:∀ x c,X.env.cells.lookup x=some c->∃ v,s.heap.IsCell c v
 free:H X.env.locals=none
 freeC:∀ x c,X.env.cells.lookup x=some c->H c=none
 pin:∀ p∈X.pn++pins,s.heap.get? p.1=some p.2/\H p.1=none/\p.1≠X.env.locals/\p.1∉X.fs/\∀ v,p.2.data≠.cell v
 hok:HOk X.prog X.w H s.heap
 len:σ.length=X.N.length
section
variable{X:Cx}{pins:List (Addr×Obj)}{σ:List (Option V)}{H H':Hp}{s:Shared}{h':Heap}
theorem Cx.Ok.nofr(ok:X.Ok){b:Addr}(e:X.base.get? b=some o):b∉X.fs:=λL=>by
 let:=(ok.funs.mem L).1;simp_all
theorem Inv.bs(I:Inv X pins σ H s):∀ b o,X.base.get? b=some o->s.heap.get? b=some o/\H b=none:=λb o e =>
 ⟨I.base.keep b o (I.ok.bs b o e).1 (I.ok.bs b o e).2 (I.ok.nofr e) (I.ok.noex b o e),I.base.free b o (I.ok.bs b o e).1 (I.ok.bs b o e).2 (I.ok.noex b o e)⟩
theorem Inv.bk(I:Inv X pins σ H s):∀ b o,X.base.get? b=some o->s.heap.get? b=some o:=λb o e=>(I.bs b o e).1
theorem Inv.mod(I:Inv X pins σ H s):Mod X.K X.mg X.base:=I.ok.mod
theorem Inv.kIn(I:Inv X pins σ H s):X.K.In s.heap:=I.ok.mod.kin.keeps I.bk
theorem Inv.nolimit(I:Inv X pins σ H s):s.heap.NoLimit:=I.ok.mod.nolimit.keeps I.bk
theorem Inv.lt(I:Inv X pins σ H s):X.env.locals<s.heap.objs.size:=let ⟨_,N,_⟩:=I.loc;N.lt
theorem Inv.sz(I:Inv X pins σ H s):X.s₀.heap.objs.size<=s.heap.objs.size:=IK I.ok.above (Ia I.lt)
theorem Inv.nofs(I:Inv X pins σ H s)(h:s.heap.objs.size<=a):a∉X.fs:=λL=>by
 let _ o O _:=I.ok.funs.mem L;exact NZ (Iy (MA O) (IK I.sz h)) (JI _)
theorem Inv.cne(I:Inv X pins σ H s):∀ x c,X.env.cells.lookup x=some c->c≠X.env.locals:=λx c e z=>by
 let v o O hd:=I.cell x c e;let m{A N M i h _}_:=I.loc;simp_all
theorem Inv.funs(I:Inv X pins σ H s):s.heap.FunFrames X.base X.outer:=by
 let all:∀(l:List Env),(∀ b∈frs l,b∈X.fs)->X.s₀.heap.FunFrames X.base l->s.heap.FunFrames X.base l:=by
  intro l;induction l with
  |nil=>intro _ _;trivial
  |cons a r Q =>
   intro d G;let f{L o T N t hd}O:=G;let B:L∈X.fs:=d L (by unfold frs;rw[LG,T];exact HL)
   let J e:=I.base.slot L o t (I.ok.frf L B) B λz=>I.ok.exfs L z B;erw[f,⟨L,_,T,N,e,hd⟩,Q (λb v=>d b (by unfold frs;rw[LG,T];exact HK _ v)) O]
 exact all X.outer (λ_ v=>v) I.ok.funs
theorem Inv.stack(I:Inv X pins σ H s):s.heap.FunFrames X.base X.stack:=by
 obtain e|⟨e,r⟩:=I.ok.stk
 .rw[e];exact I.funs
 .rw[e];let m N _:=I.loc;refine .cons (by rw[I.ok.kind];decide) r N ?_ I.funs
  exact MD (IK I.ok.bsz I.ok.above)
theorem Inv.stkSub(I:Inv X pins σ H s):∀ b∈frs X.stack,b∈X.env.locals::X.fs:=λb L=>by
 obtain e|⟨e,r⟩:=I.ok.stk
 .rw[e]at L;exact HK _ L
 .rw[e]at L;unfold frs at L;rw[LG,r]at L;exact L
theorem Inv.stkFree(I:Inv X pins σ H s):∀ b∈frs X.stack,H b=none:=λb L=>by
 rcases HQ.mp (I.stkSub b L)with e|L
 .rw[e];exact I.free
 .let _ o O _:=I.ok.funs.mem L;exact I.base.free b o O (I.ok.frf b L) λz=>I.ok.exfs b z L
theorem Inv.step{g':Array GenState}{t':Nat}{d':Drawn}{ch:List Addr}(I:Inv X pins σ H s)(f:∀ b∈ch,(b∈X.ex∨X.s₀.heap.objs.size<=b)/\b≠X.env.locals/\(∀ x c,X.env.cells.lookup x=some c->c≠b)/\∀ p∈X.pn++pins,p.1≠b)(keep:∀ b o,b≠X.env.locals->b∉X.fs->b∉ch->s.heap.get? b=some o->H b=none->h'.get? b=some o)(slot:∀ b o,b≠X.env.locals->b∈X.fs->b∉ch->s.heap.get? b=some o->H b=none->∃ sl,h'.get? b=some {o with slots:=sl})(free:∀ b o,b∉ch->s.heap.get? b=some o->H b=none->H' b=none)(there:∀ b o,b∉ch->s.heap.get? b=some o->∃ A,h'.get? b=some A)(tups:∀ b xs,H b=some (.tup xs)->H' b=some (.tup xs))(frzs:∀ b o u,H b=some (.frz o u)->H' b=some (.frz o u))(tbls:∀ b ps,H b=some (.tbl ps)->∃ more,H' b=some (.tbl (ps++more)))(ns:∀ m,s.heap.Ns X.env.locals m->h'.Ns X.env.locals m)(Y:HOk X.prog X.w H' h')(j:AllBare g'):
  Inv X pins σ H' {s with heap:=h',gens:=g',drawn:=d',toks:=t'}:=by
 let D:∀ b o,X.s₀.heap.get? b=some o->b≠X.env.locals:=λb o e=>Ig (Iy (MA e) I.ok.above);let t:∀ b o,X.s₀.heap.get? b=some o->b∉X.ex->b∉ch:=λb o e J L=>by
  rcases(f b L).1 with z|z
  .exact J z
  .exact NZ (Iy (MA e) z) (JI _)
 let y:∀ x c,X.env.cells.lookup x=some c->∀ v,s.heap.IsCell c v->h'.IsCell c v:=λx c e v ⟨o,O,hd⟩=>by
  let B:c∉ch:=λz=>(f c z).2.2.1 x c e rfl;by_cases g:c∈X.fs
  .let sl q:=slot c o (I.cne x c e) g B O (I.freeC x c e);erw[_,q,hd]
  .erw[o,keep c o (I.cne x c e) g B O (I.freeC x c e),hd]
 erw[I.ok,I.os,j,⟨λb o e n L J=>?_,λb o e n L J=>?_,λb o e n J=>?_,λb o e J=>?_,λb xs e=>tups b xs (I.base.tups b xs e),λb o xs e=>frzs b o xs (I.base.frzs b o xs e),λb ps e=>?_⟩,?_,λx c e=>?_,?_,λx c e=>?_,λp M=>?_,Y,I.len]
 .exact keep b o (D b o e) L (t b o e J) (I.base.keep b o e n L J) (I.base.free b o e n J)
 .let sl C:=I.base.slot b o e n L J;let aa T:=slot b _ (D b o e) L (t b o e J) C (I.base.free b o e n J);erw[aa,T]
 .let A C:=I.base.there b o e J;exact free b A (t b o e J) C (I.base.free b o e n J)
 .let A C:=I.base.there b o e J;exact there b A (t b o e J) C
 .let h C:=I.base.tbls b ps e;let Q T:=tbls b _ C;erw[h++Q,by simp[*]]
 .let m N G:=I.loc;erw[m,ns m N,λi x v C T E=>?_];let u r l:=G i x v C T E;erw[u,r,?_];obtain l|⟨k,c,e,z⟩:=l
  .exact .inl l
  .exact .inr ⟨k,c,e,y x c e _ z⟩
 .let v z:=I.cell x c e;erw[v,y x c e v z]
 .let m{o _ _ O _}_:=I.loc;exact free _ o (λz=>(f _ z).2.1 rfl) O I.free
 .let v o O hd:=I.cell x c e;exact free c o (λz=>(f c z).2.2.1 x c e rfl) O (I.freeC x c e)
 .let e n ne a d:=I.pin p M;let B:p.1∉ch:=λz=>(f p.1 z).2.2.2 p M rfl;erw[keep p.1 p.2 ne a B e n,free p.1 p.2 B e n,ne,a,d]
theorem Inv.un(I:Inv X pins σ H s)(u:Un X.fs [] H H' s.heap h')(Y:HOk X.prog X.w H' h'):Inv X pins σ H' {s with heap:=h',toks:=t'}:=by
 let m{o N M O r}_:=id I.loc;let J B:=u.any O I.free (by simp)
 exact I.step (g':=s.gens) (d':=s.drawn) (ch:=[]) (λ_ z=>nomatch z) (λb o _ L _ e n=>u.keep b o e n L (by simp)) (λb o _ L _ e n=>u.slot b o e n L (by simp)) (λb o _ e n=>u.free b o e n (by simp)) (λb o _ e=>u.there b o e (by simp)) u.tups u.frzs u.tbls (λd y=>by
  let A es' k i a:=y;rw[O]at i;cases i
  erw[_,es',k,B,a]) Y I.bare
theorem Inv.call{g':Array GenState}{d':Drawn}{ch:List Addr}(I:Inv X pins σ H s)(u:Un (frs X.stack) ch H H' s.heap h')(Y:HOk X.prog X.w H' h')(j:AllBare g')(f:∀ b∈ch,(b∈X.ex∨X.s₀.heap.objs.size<=b)/\b≠X.env.locals/\(∀ x c,X.env.cells.lookup x=some c->c≠b)/\∀ p∈X.pn++pins,p.1≠b):
  Inv X pins σ H' {s with heap:=h',gens:=g',drawn:=d',toks:=t'}:=by
 let m{o N M O r}_:=id I.loc;let J B:=u.any O I.free λz=>(f _ z).2.1 rfl
 exact I.step (ch:=ch) f (λb o B L g e n=>u.keep b o e n (λz=>(HQ.mp (I.stkSub b z)).elim B L) g) (λb o _ _ g e n=>u.any e n g) (λb o g e n=>u.free b o e n g) (λb o g e=>u.there b o e g) u.tups u.frzs u.tbls (λd y=>by
  let A es' k i a:=y;rw[O]at i;cases i
  erw[_,es',k,B,a]) Y j
theorem Inv.turned(I:Inv X pins σ H s)(k:∀ b o,b≠it->s.heap.get? b=some o->h'.get? b=some o)(D:H it=none)(B:it≠X.env.locals)(Y:it∈X.ex∨X.s₀.heap.objs.size<=it)(h2:∀ x c,X.env.cells.lookup x=some c->c≠it)(J:∀ p∈X.pn++pins,p.1≠it):Inv X pins σ H {s with heap:=h',toks:=t'}:=by
 let a:∀ b u,H b=some u->b≠it:=λb u e z=>by simp_all
 refine I.step (g':=s.gens) (d':=s.drawn) (ch:=[it]) (λb L=>?_) (λb o _ _ g e _=>k b o (λz=>g (by simp[z])) e) (λb o _ _ g e _=>⟨o.slots,k b o (λz=>g (by simp[z])) e⟩) (λ_ _ _ _ n=>n)
  (λb o g e=>⟨o,k b o (λz=>g (by simp[z])) e⟩) (λ_ _ e=>e) (λ_ _ _ e=>e) (λb A e=>⟨#[],by assumption⟩) (λm y=>?_) (λb u e=>?_) I.bare
 .let e:b=it:=by simpa using L
  subst e;erw[Y,B,h2,J]
 .let o N M O r:=y;erw[o,N,M,k _ o (Ne.symm B) O,r]
 .refine(I.hok b u e).stay (λc v g q=>k c v ?_ q) (λ_ q=>q) λ_ _ q=>q;obtain z|z:=g
  .rw[z];exact a b u e
  .exact a c _ z
theorem Inv.tok(I:Inv X pins σ H s)(t:Nat):Inv X pins σ H {s with toks:=t}:=I.un (h':=s.heap) (t':=t) Un.refl I.hok
theorem Inv.kept{t':Nat}(I:Inv X pins σ H s)(k:∀ b u,s.heap.get? b=some u->h'.get? b=some u):Inv X pins σ H {s with heap:=h',toks:=t'}:=I.un (Un.kept k) (I.hok.kept k)
theorem Inv.laid{a:Addr}{o:HO}{t':Nat}(I:Inv X pins σ H s)(k:∀ b u,s.heap.get? b=some u->h'.get? b=some u)(M:s.heap.objs.size<=a)(new:bu X.prog X.w (upd H a o) h' a o):
  Inv X pins σ (upd H a o) {s with heap:=h',toks:=t'}:=I.un (Un.laid k M (I.hok.fresh M)) (I.hok.laid k M new)
theorem Inv.write{x e:Addr}{o:HO}{t':Nat}(I:Inv X pins σ H s)(f:Mut (H x))(D:e=x∨H e=some (.own x))(k:∀ b u,b≠e->s.heap.get? b=some u->h'.get? b=some u)(d:∃ u,h'.get? e=some u)(new:bu X.prog X.w (upd H x o) h' x o):Inv X pins σ (upd H x o) {s with heap:=h',toks:=t'}:=I.un (Un.write f D k d) (I.hok.write f D k d new)
theorem Inv.weak{σ':List (Option V)}(I:Inv X pins σ H s)(hl:σ'.length=σ.length)(w:∀ (i:Nat) v,σ'[i]?=some (some v)->σ[i]?=some (some v)):Inv X pins σ' H s :=
 ⟨I.ok,I.os,I.bare,I.base,let ⟨m,N,q⟩:=I.loc;⟨m,N,λi x v C T g=>q i x v C (w i v T) g⟩,I.cell,I.free,I.freeC,I.pin,I.hok,hl.trans I.len⟩
theorem Inv.pins_of(I:Inv X pins σ H s)(h:∀ p∈Y,s.heap.get? p.1=some p.2/\H p.1=none/\p.1≠X.env.locals/\p.1∉X.fs/\∀ v,p.2.data≠.cell v):Inv X Y σ H s :=
 ⟨I.ok,I.os,I.bare,I.base,I.loc,I.cell,I.free,I.freeC,λp M=>(HY.mp M).elim (λz=>I.pin p (IU _ z)) (h p),I.hok,I.len⟩
theorem x8{N:List Str}(q:N.Nodup)(a:N[i]?=some x)(b:N[j]?=some x):i=j:=by
 let Y C:=HB.mp a;let B T:=HB.mp b;exact(List.getElem_inj q).mp (C.trans T.symm)
theorem Ab{M:Model}{v:V}{Q:Unit->Shared->Prop}(I:Inv X pins σ H s)(hN:X.N.Nodup)(hi:X.N[i]?=some x)(J:Loc X.env.scope x)(r:RelV v u)(h:∀ s',Inv X pins (σ.set i (some v)) H s'->(∃ a,ME a s.heap s'.heap/\(a=X.env.locals∨X.env.cells.lookup x=some a))->Q () s')(Y:X.fn x=true∨X.env.scope.names.lookup x=some .local:=by first|exact .inl rfl|exact .inr rfl|assumption):wpAny M A (storeName X.env x u) Q E s:=by
 let m D G:=id I.loc;let an:(X.env.scope.kind == .class||(X.env.scope.kind == .module&&X.env.locals != X.env.globals))=false:=by rw[I.ok.kind];rfl
 let al:i<σ.length:=by rw[I.len];exact(HB.mp hi).1
 let cne:=I.cne;let aa:∀{a:Addr}{h':Heap},(∃ o,s.heap.get? a=some o/\H a=none)->ME a s.heap h'->HOk X.prog X.w H h':=λ{a h'} t hs b ob e=>by
  let _ _ aI:=t;refine(I.hok b ob e).stay (λc w' l q=>(hs.2 c ?_).trans q) (λ_ q=>q) λ_ _ q=>q;rintro rfl;simp_all
 obtain f|f:=J
 .refine wpAny_storeName_local f D (λh' aS hs=>?_) an;let oL _ _ ab _:=id D;refine h _ ⟨I.ok,I.os,I.bare,⟨λb o e n L J=>?_,λb o e n L J=>?_,I.base.free,λb o e J=>?_,I.base.tups,I.base.frzs,I.base.tbls⟩,⟨_,aS,λj y v' C T e3=>?_⟩,λy c e=>?_,I.free,I.freeC,λp g=>?_,aa ⟨oL,ab,I.free⟩ hs,by simpa using I.len⟩ ⟨_,hs,.inl rfl⟩
  .exact(hs.2 b (Ig (Iy (MA e) I.ok.above))).trans (I.base.keep b o e n L J)
  .let sl C:=I.base.slot b o e n L J;erw[sl,(hs.2 b (Ig (Iy (MA e) I.ok.above))).trans C]
  .let o' C:=I.base.there b o e J;erw[o',(hs.2 b (Ig (Iy (MA e) I.ok.above))).trans C]
  .by_cases O:j=i
   .subst O;rw[hi]at C;cases C;rw[Lj al]at T
    cases T
    erw[u,r,.inl ⟨f,by simp⟩]
   .rw[Lv (Ne.symm O)]at T;let u' r' q:=G j y v' C T e3;erw[u',r',?_];rcases q with⟨k,e⟩|⟨k,c,e,z⟩
    .refine .inl ⟨k,?_⟩;let:y≠x:=λe=>O (x8 hN C (e▸hi));simp[this,e]
    .exact .inr ⟨k,c,e,z.sameBut hs (cne y c e)⟩
  .let w' z:=I.cell y c e;erw[w',z.sameBut hs (cne y c e)]
  .let e n ne nf d:=I.pin p g;erw[(hs.2 p.1 ne).trans e,n,ne,nf,d]
 .let am:X.fn x=true:=by simp_all
  let c l:=I.ok.has x (.inl f);let w' z:=I.cell x c l;refine wpAny_storeName_cell I.ok.kind f l z (λh' ac hs=>?_);let oc aT aW:=id z;refine h {s with heap:=h'} ⟨I.ok,I.os,I.bare,⟨λb o e n L J=>?_,λb o e n L J=>?_,I.base.free,λb o e J=>?_,I.base.tups,I.base.frzs,I.base.tbls⟩,⟨m,D.sameBut hs (Ne.symm (cne x c l)),λj y v' C T e3=>?_⟩,λy B e=>?_,I.free,I.freeC,λp g=>?_,aa ⟨oc,aT,I.freeC x c l⟩ hs,by simpa using I.len⟩ ⟨c,hs,.inr l⟩
  .exact(hs.2 b (Ig (Iy (MA e) (I.ok.cab x c am l)))).trans (I.base.keep b o e n L J)
  .let sl C:=I.base.slot b o e n L J;erw[sl,(hs.2 b (Ig (Iy (MA e) (I.ok.cab x c am l)))).trans C]
  .let o' C:=I.base.there b o e J;erw[o',(hs.2 b (Ig (Iy (MA e) (I.ok.cab x c am l)))).trans C]
  .by_cases O:j=i
   .subst O;rw[hi]at C;cases C;rw[Lj al]at T
    cases T
    erw[u,r,.inr ⟨.inl f,c,l,ac⟩]
   .rw[Lv (Ne.symm O)]at T;let u' r' q:=G j y v' C T e3;erw[u',r',?_];obtain q|⟨k,B,e,z'⟩:=q
    .exact .inl q
    .refine .inr ⟨k,B,e,z'.sameBut hs ?_⟩;rintro rfl;exact O (x8 hN C (I.ok.inj _ _ _ e l▸hi))
  .by_cases ap:B=c
   .subst ap;erw[_,ac]
   .let w2 z2:=I.cell y B e;erw[w2,z2.sameBut hs ap]
  .let e n ne nf d:=I.pin p g;erw[(hs.2 p.1 ?_).trans e,n,ne,nf,d];intro q;simp_all
theorem pP{M:Model}{v:V}{Q:Unit->Shared->Prop}(I:Inv X pins σ H s)(q:X.N.Nodup)(hi:X.N[i]?=some x)(J:Loc X.env.scope x)(r:RelV v u)(h:∀ s',Inv X pins (σ.set i (some v)) H s'->Q () s')(T:X.fn x=true∨X.env.scope.names.lookup x=some .local:=by first|exact .inl rfl|exact .inr rfl|assumption):wpAny M A (storeName X.env x u) Q E s :=
 Ab I q hi J r (λs' l _=>h s' l) T
theorem Inv.call'{s':Shared}{ch:List Addr}(I:Inv X pins σ H s)(O:s'.os=s.os)(u:Un (frs X.stack) ch H H' s.heap s'.heap)(Y:HOk X.prog X.w H' s'.heap)(j:AllBare s'.gens)(f:∀ b∈ch,(b∈X.ex∨X.s₀.heap.objs.size<=b)/\b≠X.env.locals/\(∀ x c,X.env.cells.lookup x=some c->c≠b)/\∀ p∈X.pn++pins,p.1≠b):Inv X pins σ H' s':=by
 let h' g' d' t' A:=s';let e:A=s.os:=O;subst e;exact I.call (g':=g') (t':=t') (d':=d') u Y j f
end
abbrev XK:=Value->Option Addr->Hp->Prop
abbrev St:=List (Option V)
abbrev VK:=V->Hp->Prop
abbrev TE:=St->Hp->VK->Prop
abbrev TT:=St->Hp->(Bool->Hp->Prop)->Prop
abbrev TA:=St->Hp->(List V->Hp->Prop)->Prop
set_option genInjectivity false in
structure Ends where
 nx:St->Hp->Prop
 rt:VK
 bk:St->Hp->Prop:=λ_ _=>False
 ct:St->Hp->Prop:=λ_ _=>False
abbrev TS:=Ends->St->Hp->Prop
def EP(X:Cx)(B:List (Addr×Obj))(σ:St)(Q:VK)(u:Value)(s':Shared):Prop:=∃ v G,Inv X B σ G s'/\RelV v u/\Q v G
def TP(X:Cx)(B:List (Addr×Obj))(σ:St)(Q:Bool->Hp->Prop)(b:Bool)(s':Shared):Prop:=∃ G,Inv X B σ G s'/\Q b G
def AP(X:Cx)(B:List (Addr×Obj))(σ:St)(Q:List V->Hp->Prop)(us:List Value)(s':Shared):Prop:=∃ g G,Inv X B σ G s'/\Vals g us/\Q g G
def SP(X:Cx)(B:List (Addr×Obj))(D:Ends)(f:Flow)(s':Shared):Prop :=
 match f with
 |.next=>∃ z G,Inv X B z G s'/\D.nx z G
 |.brk=>∃ z G,Inv X B z G s'/\D.bk z G
 |.cont=>∃ z G,Inv X B z G s'/\D.ct z G
 |.ret u=>∃ v z G,Inv X B z G s'/\RelV v u/\D.rt v G
def PE(X:Cx)(e:Expr)(t:TE):Prop :=
 ∀(B:List (Addr×Obj))(s:Shared)(M:St)(H:Hp)(Q:VK),Inv X B M H s->t M H Q->wpAny (model X.prog X.w) X.A (eval e X.env) (EP X B M Q) X.xe s
def PT(X:Cx)(e:Expr)(t:TT):Prop :=
 ∀(B:List (Addr×Obj))(s:Shared)(M:St)(H:Hp)(Q:Bool->Hp->Prop),Inv X B M H s->t M H Q->wpAny (model X.prog X.w) X.A (isTrue e X.env (eval e X.env)) (TP X B M Q) X.xe s
def PW(X:Cx)(e:Expr)(t:TT):Prop :=
 ∀(whole:Sem Value)(B:List (Addr×Obj))(s:Shared)(M:St)(H:Hp)(Q:Bool->Hp->Prop),Inv X B M H s->t M H Q->wpAny (model X.prog X.w) X.A (isTrue e X.env whole) (TP X B M Q) X.xe s
theorem PW.pt{X:Cx}{e:Expr}{t:TT}(h:PW X e t):PT X e t:=h _
def PA(X:Cx)(es:List Expr)(t:TA):Prop :=
 ∀(f:Pos)(B:List (Addr×Obj))(s:Shared)(M:St)(H:Hp)(Q:List V->Hp->Prop),Inv X B M H s->t M H Q->wpAny (model X.prog X.w) X.A (spliced (backTo f (MF es X.env))) (AP X B M Q) X.xe s
def PS(X:Cx)(st:Stmt)(t:TS):Prop :=
 ∀(B:List (Addr×Obj))(s:Shared)(M:St)(H:Hp)(D:Ends),Inv X B M H s->t D M H->wpAny (model X.prog X.w) X.A (exec st X.env) (SP X B D) X.xe s
def PSs(X:Cx)(st:List Stmt)(t:TS):Prop :=
 ∀(B:List (Addr×Obj))(s:Shared)(M:St)(H:Hp)(D:Ends),Inv X B M H s->t D M H->wpAny (model X.prog X.w) X.A (execs st X.env) (SP X B D) X.xe s
theorem thn{t:Sem α}{Q v:α->Shared->Prop}{M:Model}{s:Shared}(h:wpAny M A t Q E s)(D:∀ a s,Q a s->v a s):wpAny M A t v E s:=MG h D λ_ _ x=>x
section
variable{X:Cx}
inductive tVar(i:Nat)(σ:L2.St)(H:L2.Hp)(Q:L2.VK):Prop
 |mk (v:_) (h0_:σ[i]?=some (some v))(h1_:Q v H)
def tC(v:V):TE:=λ_ H Q=>Q v H
theorem pe_var(q:X.N[i]?=some x)(hv:Vis X.env.scope x)(hd:(x == ("__debug__" : Str))=false:=by decide)(z:(x == ("__classdict__" : Str))=false:=by decide):PE X (.Name x pos) (tVar i):=by
 intro B s M H Q I h;let v e h:=h;let m D G:=I.loc;let u r l:=G i x v q e hv;let fin:EP X B M Q u s:=⟨v,H,I,r,h⟩;rcases l with⟨f,y⟩|⟨f,c,g,a⟩
 .exact wpAny_Name (wpAny_loadName_local I.ok.kind f D y fin) hd
 .obtain f|f:=f
  .exact wpAny_Name (wpAny_loadName_cell I.ok.kind f g a fin) hd
  .exact wpAny_Name (wpAny_loadName_free I.ok.kind f g a fin z) hd
theorem aj{i j pos}:PE X (.Constant (.int i) j pos) (tC (.int i)):=λ_ _ _ H _ I h=>wpAny_Constant_int ⟨.int i,H,I.tok _,⟨_,rfl⟩,h⟩
theorem oQ{b j pos}:PE X (.Constant (.bool b) j pos) (tC (.bl b)):=λ_ _ _ H _ I h=>Constant_bool ⟨.bl b,H,I,rfl,h⟩
theorem ph{j pos}:PE X (.Constant .none j pos) (tC .non):=λ_ _ _ H _ I h=>Constant_none ⟨.non,H,I,rfl,h⟩
def Gl(X:Cx)(x:Str):Prop:=X.env.kindOf x=some .globalImplicit
theorem qN{s:Shared}{σ:St}{H:Hp}(I:Inv X Y σ H s)(j:Gl X x)(y:X.mg x=some u)(h:Q u s)(hd:(x == ("__debug__" : Str))=false:=by decide):wpAny (model X.prog X.w) X.A (eval (.Name x pos) X.env) Q E s :=
 Calls.Name_function_global I.ok.kind j (Calls.loadGlobal_global (by rw[I.ok.glob];exact I.mod.glob.keeps I.bk) y h) hd
theorem kQ{s:Shared}{σ:St}{H:Hp}(I:Inv X Y σ H s)(j:Gl X x)(y:X.mg x=none)(hv:MC x=some u)(h:Q u s)(N:x≠"__name__":=by decide)(hd:(x == ("__debug__" : Str))=false:=by decide):wpAny (model X.prog X.w) X.A (eval (.Name x pos) X.env) Q E s:=by
 let e i B:=I.mod.blt;exact Calls.Name_function_global I.ok.kind j (Calls.loadGlobal_builtin (by rw[I.ok.glob];exact I.mod.glob.keeps I.bk) y (by rw[I.ok.blt];exact i.keeps I.bk) ((B x N).trans hv) h) hd
theorem Gj{v:V}(j:Gl X x)(y:X.mg x=some u)(r:RelV v u)(hd:(x == ("__debug__" : Str))=false:=by decide):PE X (.Name x pos) (tC v) :=
 λ_ _ _ H _ I h=>qN I j y ⟨v,H,I,r,h⟩ hd
theorem AR{v:V}(j:Gl X x)(y:X.mg x=none)(hv:MC x=some u)(r:RelV v u)(N:x≠"__name__":=by decide)(hd:(x == ("__debug__" : Str))=false:=by decide):PE X (.Name x pos) (tC v) :=
 λ_ _ _ H _ I h=>kQ I j y hv ⟨v,H,I,r,h⟩ N hd
variable{a b:Expr}{ta tb:TE}{pos:Pos}
def PC(X:Cx)(op:CmpOp)(a b:Expr)(t:TE):Prop :=
 ∀(B:List (Addr×Obj))(s:Shared)(M:St)(H:Hp)(Q:VK),Inv X B M H s->t M H Q ->
  wpAny (model X.prog X.w) X.A (eval a X.env) (λv m=>wpAny (model X.prog X.w) X.A (eval b X.env) (λu G=>wpAny (model X.prog X.w) X.A (MH op v u) (EP X B M Q) X.xe G) X.xe m) X.xe s
def tB(t:TE):TT:=λM H Q=>t M H λx m=>∃ c,x=.bl c/\Q c m
theorem AJ{t:TE}(h:PC X op a b t)(Y:behindInMarks op b=false:=by first|exact nobehind _ ∅ ∅|rfl):PT X (.Compare a [op] [b] pos) (tB t):=by
 intro B s M H Q I n;refine wpAny_isTrue_Compare1 (thn (h B s M H _ I n) λv J Y=>thn Y λu y G=>thn G λc p ⟨x,m,N,o,k⟩=>?_) Y;let d rfl q:=k
 cases o
 exact MI ⟨m,N,q⟩
theorem sM{e:Expr}{t:TE}(h:PE X e t)(D:∀ whole,isTrue e X.env whole=(do let v ← whole;standAt e.pos;holding [v] (truthy v)):=by intro _;rfl):PT X e (tB t):=by
 intro B s M H Q I p;refine isTrue_plain (thn (h B s M H _ I p) λv J ⟨x,m,N,o,k⟩=>?_) (D _);let d rfl q:=k
 cases o
 exact MI ⟨m,N,q⟩
variable{tA tB':TT}{rest:List Expr}
def tAnd(t u:TT):TT:=λM H Q=>t M H λc m=>if c=true then u M m Q else Q false m
def tOr(t u:TT):TT:=λM H Q=>t M H λc m=>if c=true then Q true m else u M m Q
def tNot(t:TT):TT:=λM H Q=>t M H λc m=>Q (!c) m
theorem AG(E:PT X a tA):PW X (.BoolOp .And [a] pos) tA:=by
 intro d B s M H Q I h;refine isTrue_and (thn (E B s M H Q I h) λc J e=>?_)
 cases c with
 |true=>exact isTrue_and_nil e
 |false=>exact e
theorem sL(E:PT X a tA):PW X (.BoolOp .Or [a] pos) tA:=by
 intro d B s M H Q I h;refine isTrue_or (thn (E B s M H Q I h) λc J e=>?_)
 cases c with
 |false=>exact isTrue_or_nil e
 |true=>exact e
theorem AH(E:PT X a tA)(L:PW X (.BoolOp .And (b::rest) pos) tB'):PW X (.BoolOp .And (a::b::rest) pos) (tAnd tA tB'):=by
 intro d B s M H Q I h;refine isTrue_and (thn (E B s M H _ I h) λc J ⟨m,N,k⟩=>?_)
 cases c with
 |true=>exact L d B J M m Q N k
 |false=>exact⟨m,N,k⟩
theorem u5(E:PT X a tA)(L:PW X (.BoolOp .Or (b::rest) pos) tB'):PW X (.BoolOp .Or (a::b::rest) pos) (tOr tA tB'):=by
 intro d B s M H Q I h;refine isTrue_or (thn (E B s M H _ I h) λc J ⟨m,N,k⟩=>?_)
 cases c with
 |true=>exact⟨m,N,k⟩
 |false=>exact L d B J M m Q N k
theorem AI(E:PT X a tA):PT X (.UnaryOp .Not a pos) (tNot tA):=by
 intro B s M H Q I h;exact isTrue_not (E B s M H (λc m=>Q (!c) m) I h)
def tAndV(ta tb:TE):TE:=λM H Q=>ta M H λx m=>∃ c,x=.bl c/\if c=true then tb M m Q else Q (.bl false) m
def tNotV(ta:TE):TE:=λM H Q=>ta M H λx m=>∃ c,x=.bl c/\Q (.bl (!c)) m
theorem pe_one{op}{t:TE}(h:PE X a t):PE X (.BoolOp op [a] pos) t:=λB s M H Q I p=>BoolOp_one (h B s M H Q I p)
theorem pe_and(E:PE X a ta)(L:PE X (.BoolOp .And (b::rest) pos) tb):PE X (.BoolOp .And (a::b::rest) pos) (tAndV ta tb):=by
 intro B s M H Q I h;refine BoolOp_and (thn (E B s M H _ I h) λv J ⟨x,m,N,o,k⟩=>?_);let c rfl k:=k
 cases o
 refine MI ?_
 cases c with
 |true=>exact L B J M m Q N k
 |false=>exact⟨.bl false,m,N,rfl,k⟩
theorem pe_not(E:PE X a ta):PE X (.UnaryOp .Not a pos) (tNotV ta):=by
 intro B s M H Q I h;refine UnaryOp_ (thn (E B s M H _ I h) λv J ⟨x,m,N,o,k⟩=>?_);let c rfl k:=k
 cases o
 exact not_of (MI ⟨.bl (!c),m,N,rfl,k⟩)
def tIf(t:TT)(ta tb:TE):TE:=λM H Q=>t M H λc m=>if c=true then ta M m Q else tb M m Q
theorem jb{c:Expr}(g:PT X c tA)(E:PE X a ta)(L:PE X b tb):PE X (.IfExp c a b pos) (tIf tA ta tb):=by
 intro B s M H Q I h;refine wpAny_IfExp (thn (g B s M H _ I h) λd J ⟨m,N,k⟩=>?_)
 cases d with
 |true=>exact E B J M m Q N k
 |false=>exact L B J M m Q N k
end
def SqL(K:HE)(H:Hp)(a:Addr)(xs:List V):Prop :=
 Rd H a (.lst xs) ∨
  ∃(o:Obj)(E:Array Value)(n:Nat),K.lookup a=some o/\o.cls=.type "list"/\o.dict=none/\o.data=.seq E n/\E.size<=Mz/\Vals xs E.toList
def SqT(K:HE)(H:Hp)(a:Addr)(xs:List V):Prop :=
 Rd H a (.tup xs) ∨
  ∃(o:Obj)(E:Array Value)(n:Nat),K.lookup a=some o/\o.cls=.type "tuple"/\o.data=.seq E n/\E.size<=Mz/\Vals xs E.toList
def absV:Value->Option V
 |.none=>some .non
 |.bool b=>some (.bl b)
 |.int i _=>some (.int i)
 |.str x _=>some (.str x)
 |.bytes b _=>some (.byt b)
 |.float b _=>some (.flt b)
 |.ref a=>some (.ref a)
 |.type n=>some (.ty n)
 |_=>none
theorem RelV.abs{x:V}(r:RelV x u):absV u=some x:=by
 cases x with
 |non=>cases r;rfl
 |bl _=>cases r;rfl
 |int _=>obtain⟨t,rfl⟩:=r;rfl
 |str _=>obtain⟨t,rfl⟩:=r;rfl
 |byt _=>obtain⟨t,rfl⟩:=r;rfl
 |flt _=>obtain⟨t,rfl⟩:=r;rfl
 |ref _=>cases r;rfl
 |ty _=>cases r;rfl
theorem RelV.inj{x y:V}(r:RelV x u)(q:RelV y u):x=y:=Iw (r.abs.symm.trans q.abs)
theorem Vals.inj:∀{xs ys:List V}{us:List Value},Vals xs us->Vals ys us->xs=ys
 |_,_,_,.nil,.nil=>rfl
 |_,_,_,.cons r t,.cons m G=>by rw[r.inj m,Vals.inj t G]
section
variable{X:Cx}{pins:List (Addr×Obj)}{σ:St}{H:Hp}{s:Shared}{a:Addr}{xs ys:List V}
theorem SqL.of(h:H a=some (.lst xs)):SqL K H a xs:=.inl (.inl h)
theorem SqT.of(h:H a=some (.tup xs)):SqT K H a xs:=.inl (.inl h)
theorem Inv.list(I:Inv X pins σ H s)(h:SqL X.K H a xs):∃ its:List Value,Vals xs its/\PlainL s.heap a its.toArray/\xs.length<=Mz:=by
 obtain h|⟨o,its,n,f,g,hd,d,L,r⟩:=h
 .let z its n r e:=h.ok I.hok;erw[its,r,⟨_,n,e,rfl,rfl,rfl⟩,z]
 .erw[its.toList,r,⟨o,n,I.kIn a o f,g,hd,∅⟩,?_]
  let e:=r.length;simp[*]
theorem Inv.tuple(I:Inv X pins σ H s)(h:SqT X.K H a xs):∃ its:List Value,Vals xs its/\IsTup s.heap a its.toArray/\xs.length<=Mz:=by
 obtain h|⟨o,its,n,f,g,d,L,r⟩:=h
 .let z its r p:=h.ok I.hok;erw[its,r,p,z]
 .erw[its.toList,r,⟨o,I.kIn a o f,g,n,∅⟩,?_]
  let e:=r.length;simp[*]
theorem Inv.list_inj(I:Inv X pins σ H s)(h:SqL X.K H a xs)(h':SqL X.K H a ys):xs=ys:=by
 let E r{o n e _ _ d}_:=I.list h;let b m{A j T _ _ c}_:=I.list h';rw[e]at T;cases T;rw[d]at c;injection c with t _;let:E=b:=by simpa using congrArg Array.toList t
 subst this;exact r.inj m
end
abbrev Cx.wish(X:Cx)(E:Value->Shared->Prop):Cx:={X with xe:=E}
abbrev Cx.nox(X:Cx):Cx:=X.wish λ_ _=>False
theorem Cx.Ok.wish{X:Cx}(ok:X.Ok)(E:Value->Shared->Prop):(X.wish E).Ok :=
 ⟨ok.mod,ok.kind,ok.glob,ok.blt,ok.above,ok.inj,ok.has,ok.cab,ok.hd,ok.frames,ok.stk,ok.exf,ok.bs,ok.bsz,ok.noex,ok.exfs,ok.funs,ok.frf⟩
theorem Cx.Ok.unwish{X:Cx}(ok:(X.wish E).Ok):X.Ok :=
 ⟨ok.mod,ok.kind,ok.glob,ok.blt,ok.above,ok.inj,ok.has,ok.cab,ok.hd,ok.frames,ok.stk,ok.exf,ok.bs,ok.bsz,ok.noex,ok.exfs,ok.funs,ok.frf⟩
section
variable{X:Cx}{pins:List (Addr×Obj)}{σ:St}{H:Hp}{s:Shared}{E:Value->Shared->Prop}
theorem Inv.wish(I:Inv X pins σ H s)(E:Value->Shared->Prop):Inv (X.wish E) pins σ H s:=⟨I.ok.wish E,I.os,I.bare,I.base,I.loc,I.cell,I.free,I.freeC,I.pin,I.hok,I.len⟩
theorem Inv.unwish(I:Inv (X.wish E) pins σ H s):Inv X pins σ H s:=⟨I.ok.unwish,I.os,I.bare,I.base,I.loc,I.cell,I.free,I.freeC,I.pin,I.hok,I.len⟩
theorem SP.unwish{D:Ends}{f:Flow}{s':Shared}(h:SP (X.wish E) pins D f s'):SP X pins D f s':=by
 cases f with
 |next=>obtain⟨z,G,I,q⟩:=h;erw[z,G,I.unwish,q]
 |brk=>obtain⟨z,G,I,q⟩:=h;erw[z,G,I.unwish,q]
 |cont=>obtain⟨z,G,I,q⟩:=h;erw[z,G,I.unwish,q]
 |ret u=>obtain⟨v,z,G,I,r,q⟩:=h;erw[v,z,G,I.unwish,r,q]
theorem PSs.nox{st:List Stmt}{t:TS}(h:PSs X.nox st t):PSs X st t:=λpins s σ H D I p =>
 MG (h pins s σ H D (I.wish _) p) (λ_ _ q=>q.unwish) λ_ _ z=>False.elim z
end
section
variable{X:Cx}{st:Stmt}{rest:List Stmt}{t u:TS}{e:Expr}{te:TE}{pos:Pos}
def tNext:TS:=λD M H=>D.nx M H
def tSeq(t u:TS):TS:=λD M H=>t {D with nx:=u D} M H
theorem aR:PSs X [] tNext:=λ_ _ M H _ I h=>wpAny_execs_nil ⟨M,H,I,h⟩
theorem ag(Y:PS X st t)(h2:PSs X rest u):PSs X (st::rest) (tSeq t u):=by
 intro B s M H D I h;refine wpAny_execs_cons (thn (Y B s M H {D with nx:=u D} I h) λf J q=>?_)
 cases f with
 |next =>
  let z G l q:=q;exact h2 B J z G D l q
 |ret v=>exact q
 |brk=>exact q
 |cont=>exact q
theorem ak(Y:PS X st t):PSs X [st] t:=by
 intro B s M H D I h;refine wpAny_execs_cons (thn (Y B s M H D I h) λf J q=>?_)
 cases f with
 |next=>exact wpAny_execs_nil q
 |ret v=>exact q
 |brk=>exact q
 |cont=>exact q
theorem Inv.quiet{σ:St}{H:Hp}{s:Shared}(I:Inv X Y σ H s):interactive X.env=false:=by simp[interactive,I.ok.kind]
def tDrop(te:TE):TS:=λD M H=>te M H λ_ m=>D.nx M m
theorem aO(d:PE X e te)(hs:swapsWith e none pos.line X.env=pure false:=by rfl):PS X (.Expr e pos) (tDrop te):=by
 intro B s M H D I h;exact wpAny_Expr_any (thn (d B s M H _ I h) λv J ⟨x,m,N,o,k⟩=>⟨M,m,N,k⟩) I.quiet hs
def tRet(te:TE):TS:=λD M H=>te M H D.rt
theorem aE(d:PE X e te):PS X (.Return (some e) pos) (tRet te):=by
 intro B s M H D I h;exact wpAny_Return_some (thn (d B s M H _ I h) λv J ⟨x,m,N,o,k⟩=>⟨x,M,m,N,o,k⟩)
def tRetN:TS:=λD _ H=>D.rt .non H
theorem Gd:PS X (.Return none pos) tRetN:=λ_ _ M H _ I h=>wpAny_Return_none ⟨.non,M,H,I,rfl,h⟩
def tIfS(c:TT)(t u:TS):TS:=λD M H=>c M H λb m=>if b=true then t D M m else u D M m
theorem bV{c:Expr}{a b:List Stmt}{e:TT}(g:PT X c e)(E:PSs X a t)(L:PSs X b u):PS X (.If c a b pos) (tIfS e t u):=by
 intro B s M H D I h;refine wpAny_If (thn (g B s M H _ I h) λd J ⟨m,N,k⟩=>?_)
 cases d with
 |true=>exact E B J M m D N k
 |false=>exact L B J M m D N k
def tNever:TS:=λ_ _ _=>False
theorem bY:PS X st tNever:=λ_ _ _ _ _ _ h=>h.elim
end
abbrev TG:=V->St->Hp->(St->Hp->Prop)->Prop
abbrev TGs:=List V->St->Hp->(St->Hp->Prop)->Prop
def PG(X:Cx)(b:Expr)(t:TG):Prop :=
 ∀(B:List (Addr×Obj))(s:Shared)(M:St)(H:Hp)(v:V)(u:Value)(Q:St->Hp->Prop),Inv X B M H s->RelV v u->t v M H Q ->
  wpAny (model X.prog X.w) X.A (assign b X.env u) (λ_ k=>∃ z G,Inv X B z G k/\Q z G) X.xe s
def PGs(X:Cx)(ts:List Expr)(t:TGs):Prop :=
 ∀(B:List (Addr×Obj))(s:Shared)(M:St)(H:Hp)(g:List V)(i:List Value)(Q:St->Hp->Prop),Inv X B M H s->Vals g i->t g M H Q ->
  wpAny (model X.prog X.w) X.A (assignInOrder ((MJ ts X.env).map (·.2)) i) (λ_ k=>∃ z G,Inv X B z G k/\Q z G) X.xe s
abbrev TSet:=V->V->V->Hp->(Hp->Prop)->Prop
def PSet(X:Cx)(t:TSet):Prop :=
 ∀(B:List (Addr×Obj))(s:Shared)(M:St)(H:Hp)(o i v:V)(O e u:Value)(Q:Hp->Prop),Inv X B M H s->RelV o O->RelV i e->RelV v u->t o i v H Q ->
  wpAny (model X.prog X.w) X.A (setItem O e u) (λ_ k=>∃ G,Inv X B M G k/\Q G) X.xe s
section
variable{X:Cx}{pos:Pos}
def tP(i:Nat):TG:=λv M H Q=>Q (M.set i (some v)) H
theorem bp(q:X.N.Nodup)(hi:X.N[i]?=some x)(J:Loc X.env.scope x)(T:X.fn x=true∨X.env.scope.names.lookup x=some .local:=by first|exact .inl rfl|exact .inr rfl|assumption):PG X (.Name x pos) (tP i):=by
 intro B s M H v u Q I r h;exact wpAny_assign_Name (pP I q hi J r (λk l=>⟨_,H,l,h⟩) T)
def gNil:TGs:=λg M H Q=>g=[]/\Q M H
inductive gCons(t:TG)(u:TGs)(vs:List L2.V)(σ:L2.St)(H:L2.Hp)(Q:(L2.St->L2.Hp->Prop)):Prop
 |mk (v r:_) (h0_:vs=v::r)(h1_:t v σ H λσ' H'=>u r σ' H' Q)
theorem cP:PGs X [] gNil:=by
 intro B s M H g i Q I r h;let e h:=h;subst e
 cases r
 exact assignInOrder_nil ⟨M,H,I,h⟩
theorem aJ{e:Expr}{es:List Expr}{t:TG}{u:TGs}(Y:PG X e t)(h2:PGs X es u)(hs:(MJ (e::es) X.env).map (·.2)=assign e X.env::(MJ es X.env).map (·.2):=by rfl):PGs X (e::es) (gCons t u):=by
 intro B s M H g i Q I r h;let v n C h:=h;subst C
 cases r with
 |cons r b =>
  rw[hs];refine assignInOrder_cons (thn (Y B s M H _ _ _ I r h) λ_ J ⟨x,m,N,k⟩=>?_);exact h2 B J x m _ _ Q N b k
inductive gTup(K:HE)(n:Nat)(t:TGs)(v:L2.V)(σ:L2.St)(H:L2.Hp)(Q:(L2.St->L2.Hp->Prop)):Prop
 |mk (a xs:_) (h0_:v=.ref a)(h1_:SqT K H a xs)(h2_:xs.length=n)(h3_:t xs σ H Q)
theorem pf{es:List Expr}{k:Nat}{t:TGs}(g:X.calm=true)(h:PGs X es t)(N:(MJ es X.env).length=n:=by rfl)(c:(MJ es X.env).findIdx? (·.1)=none:=by rfl):PG X (.Tuple es k pos) (gTup X.K n t):=by
 intro B s M H v u Q I r p;let a j C d G p:=p;subst C
 cases r
 let E rv i L:=I.tuple d;refine assign_Tuple_tuple (I.ok.hd g) i (by simp[N,← G,rv.length]) c λm J=>?_
 let l:Inv X B M H {s with heap:=m}:=I.kept (t':=s.toks) λb o e=>J b o (Ig (MA e)) e;exact h B _ M H j _ Q l (by simpa using rv) p
def gSub(c a:TE)(t:TSet):TG:=λv M H Q=>c M H λo m=>a M m λi u=>t o i v u λC=>Q M C
theorem mC{o i:Expr}{c a:TE}{t:TSet}(O:PE X o c)(hi:PE X i a)(hs:PSet X t)(E:∀ v,assign (.Subscript o i pos) X.env v=(do
   let ov ← holding [v] (eval o X.env)
   let e ← holding [v,ov] (eval i X.env)
   standAt pos
   holding [v,ov,e] (setItem ov e v)
   release [v,ov,e] []):=by intro _;rfl):PG X (.Subscript o i pos) (gSub c a t):=by
 intro B s M H v u Q I r h;rw[E];refine MN (MO (thn (O B s M H _ I h) λov J ⟨x,m,N,w,k⟩=>?_));refine MN (MO (thn (hi B J M m _ N k) λe q ⟨y,L,z,D,n⟩=>?_));refine MN (wpAny_standAt (MN (MO (thn (hs B q M L x y v ov e u _ z w D r n) λ_ p ⟨C,b,Y⟩=>?_))));exact wpAny_release ⟨M,C,b,Y⟩
def tAsg(O:TE)(g:TG):TS:=λD M H=>O M H λx m=>g x M m D.nx
theorem mB{tg e:Expr}{O:TE}{g:TG}(d:PE X e O)(j:PG X tg g)(hs:swapsWithSole [tg] e pos.line X.env=pure false:=by rfl)(hw:swappedStores [tg] e X.env=pure none:=by rfl)(Y:(MJ [tg] X.env).map (·.2)=[assign tg X.env]:=by rfl):PS X (.Assign [tg] e pos) (tAsg O g):=by
 intro B s M H D I h;refine wpAny_Assign_stores (thn (d B s M H _ I h) λv J ⟨x,m,N,o,k⟩=>?_) hs hw;rw[Y];exact thn (j B J M m x v _ N o k) λ_ t q=>q
theorem ps_set{e:Expr}{O:TE}{a:Pos}(q:X.N.Nodup)(hi:X.N[i]?=some x)(J:Loc X.env.scope x)(d:PE X e O)(hs:swapsWith e (some (.Name x a)) pos.line X.env=pure false:=by rfl)(r:X.fn x=true∨X.env.scope.names.lookup x=some .local:=by first|exact .inl rfl|exact .inr rfl|assumption):
  PS X (.Assign [.Name x a] e pos) (tAsg O (tP i)):=by
 intro B s M H D I h;refine wpAny_Assign_Name (thn (d B s M H _ I h) λv G ⟨y,m,j,o,k⟩=>?_) hs;exact pP j q hi J o (λt z=>⟨_,m,z,k⟩) r
inductive ET(c:TT)(tb:TS)(D:L2.Ends)(σ:L2.St)(H:L2.Hp):Prop
 |mk (W:Nat->St->Hp->Prop) (h0_:(∃ m,W m σ H))(h1_:∀ m σ H,W m σ H ->
 c σ H λb H1=>if b=true then ∃ N:St->Hp->Prop,(∀ σ' H',N σ' H'->∃ m',m'<m/\W m' σ' H')/\tb {D with nx:=N,ct:=N,bk:=D.nx} σ H1 else D.nx σ H1)
theorem gD{c:Expr}{T:List Stmt}{tc:TT}{tb:TS}(g:PassesOwn (model X.prog X.w) X.A X.env X.xe)(l:PT X c tc)(L:PSs X T tb):PS X (.While c T [] pos) (ET tc tb):=by
 intro B s M H D I h;let W{m0 o}turn:=h;refine wpAny_While (codeAny_whileLoop (λn k=>∃ z G,Inv X B z G k/\W n z G) ?_ m0 ⟨M,H,I,o⟩);rintro n J ⟨x,m,j,Q⟩;refine MP g (thn (l B J x m _ j (turn n x m Q)) λb t ⟨u,i,E⟩=>?_)
 cases b with
 |true =>
  let N q E:=E;rw[NX rfl];refine MP g (thn (L B t x u _ i E) λf p Y=>?_)
  cases f with
  |next =>
   let e C a O:=Y;let d y r:=q e C O;erw[d,y,e,C,a,r]
  |cont =>
   let e C a O:=Y;let d y r:=q e C O;erw[d,y,e,C,a,r]
  |brk=>exact Y
  |ret v=>exact Y
 |false =>
  rw[NY Io];exact wpAny_execs_nil ⟨x,u,i,E⟩
end
set_option genInjectivity false in
structure It where
 go:Nat->Hp->Prop
 yld:Nat->Hp->V->Hp->Prop
 stop:Nat->Hp->Prop
def FpOk(X:Cx)(B:List (Addr×Obj))(H:Hp)(b:Addr):Prop :=
 H b=none/\b≠X.env.locals/\b∉X.fs/\(b∈X.ex∨X.s₀.heap.objs.size<=b)/\(∀ x c,X.env.cells.lookup x=some c->c≠b)/\∀ p∈X.pn++B,p.1≠b
theorem Inv.fpOk{X:Cx}{σ:St}{H H':Hp}{s:Shared}{b:Addr}(I:Inv X Y σ H s)(L:s.heap.objs.size<=b)(N:H' b=none):FpOk X Y H' b:=by
 erw[N,Ji (Iy I.lt L),I.nofs L,.inr (IK I.sz L),λx c e z=>?_,λp M z=>?_]
 .let v q:=I.cell x c e;exact NZ (Iy q.lt (by simp_all)) (JI _)
 .exact NZ (Iy (MA (I.pin p M).1) (by simp_all)) (JI _)
structure Turn(P:Program)(w:World)(K:HE)(tg:Expr)(J:It)(fp:List Addr)(it:Addr)(tn:Nat->Heap->Prop):Prop where
 mem:it∈fp
 obj:∀ i h,tn i h->∀ b∈fp,∃ o,h.get? b=some o/\∀ v,o.data≠.cell v
 keep:∀ i h h',tn i h->(∀ b∈fp,∀ o,h.get? b=some o->h'.get? b=some o)->tn i h'
 item:∀(X:Cx),X.prog=P->X.w=w->X.K=K->X.calm=true->∀(i:Nat)(pins:List (Addr×Obj))(s:Shared)(σ:St)(H:Hp)(E:Value->Shared->Prop),Inv X pins σ H s->(∀ b∈fp,FpOk X pins H b)->tn i s.heap->J.go i H ->
  wpAny (model P w) X.A (pyNext (.ref it)) (λr s1=>∃ u,r=some u /\
   wpAny (model P w) X.A (letOwnedTupleGo tg (.ref it) u) (λ_ s2=>∃ x H',Inv X pins σ H' s2/\RelV x u/\J.yld i H x H'/\tn (i+1) s2.heap/\∀ b∈fp,H' b=none) E s1) E s
 done:∀(X:Cx),X.prog=P->X.w=w->X.K=K->X.calm=true->∀(i:Nat)(pins:List (Addr×Obj))(s:Shared)(σ:St)(H:Hp)(E:Value->Shared->Prop),Inv X pins σ H s->(∀ b∈fp,FpOk X pins H b)->tn i s.heap->J.stop i H ->
  wpAny (model P w) X.A (pyNext (.ref it)) (λr s1=>r=none/\Inv X pins σ H s1) E s
 self:∀(A:Around)(i:Nat)(s:Shared)(Q:Value->Shared->Prop)(E:Value->Shared->Prop),tn i s.heap->Q (.ref it) s->wpAny (model P w) A (pyIter (.ref it)) Q E s
abbrev TI:=St->Hp->(It->Hp->Prop)->Prop
def PIE(X:Cx)(B:List (Addr×Obj))(σ:St)(tg:Expr)(R:It->Hp->Prop)(d:Value)(s2:Shared):Prop :=
 ∃(e:Addr)(c:List Addr)(a:Nat->Heap->Prop)(J:It)(G:Hp),d=.ref e/\Inv X B σ G s2/\Turn X.prog X.w X.K tg J c e a/\a 0 s2.heap/\(∀ b∈c,FpOk X B G b)/\R J G
def PI(X:Cx)(tg d:Expr)(k:TI):Prop :=
 ∀(B:List (Addr×Obj))(s:Shared)(M:St)(H:Hp)(R:It->Hp->Prop),Inv X B M H s->k M H R ->
  wpAny (model X.prog X.w) X.A (eval d X.env) (λv J=>wpAny (model X.prog X.w) X.A (pyIter v) (PIE X B M tg R) X.xe J) X.xe s
theorem G5{M:Model}{s:Shared}{tg:Expr}{n:String}{vs:Array Value}{Q:Unit->Shared->Prop}(O:s.heap.get? it=some o)(g:o.cls=.type n)(hd:o.data=.fields vs)(N : ["enumerate","zip","dict_itemiterator","dict_reverseitemiterator","odict_iterator","itertools.zip_longest","itertools.pairwise"].contains n=false)(D:Q () s):wpAny M A (letOwnedTupleGo tg (.ref it) u) Q E s:=by
 unfold letOwnedTupleGo
 cases tg<;>first
  |exact MQ D
  | (cases u<;>first
    |exact MQ D
    | (refine MN (wpAny_load O ?_)
       rw[g,hd]
       show wpAny M A (if(["enumerate","zip","dict_itemiterator","dict_reverseitemiterator","odict_iterator","itertools.zip_longest","itertools.pairwise"].contains n&&vs[0]? == some (rawInt _))=true then _ else _) Q E s
       rw[NY (by intro h;rw[N,LC]at h;cases h)]
       exact MQ D))
def Itl(K:HE)(a:Addr):It :=
 ⟨λi H=>∃ j x,SqL K H a j/\j[i]?=some x,λi H x G=>G=H/\∀ j,SqL K H a j->j[i]?=some x,λi H=>∃ j,SqL K H a j/\j.length<=i⟩
def Itr(lo:Int)(n:Nat):It:=⟨λi _=>i<n,λi H x G=>G=H/\x=.int (lo+i),λi _=>n<=i⟩
theorem zY{tg:Expr}(a it:Addr):Turn P w K tg (Itl K a) [it] it (λi h=>h.IsListIter it a i) where
 mem:=by simp
 obj:=λi h st b L=>by
  let e:b=it:=by simpa using L
  subst e;let o e c d:=st;erw[o,e,λv z=>by simp_all]
 keep:=λi h m st k=>st.at λo e=>k it (by simp) o e
 item:=by
  intro X O n hK g i B s M H E I r st A;subst O n hK;let j x C J:=A;let l rv p t:=I.list C;let u f y:=rv.get J;let f0 T D f3 f4 f5:=r it (by simp)
  refine wpAny_pyNext_list_item st p.isList (x:=u) (by simpa using f) λm aa sb=>?_
  let N:Inv X B M H {s with heap:=m}:=I.turned (t':=s.toks) (λb o L e=>(sb.2 b L).trans e) f0 T f3 f4 f5;let o e c d:=id aa;erw[u,rfl,G5 (s:={s with heap:=m}) e c d ∅ ⟨x,H,N,y,⟨rfl,λY Q=>by rw[I.list_inj Q C];exact J⟩,aa,λb L=>(r b L).1⟩]
 done:=by
  intro X O n hK g i B s M H E I r st A;subst O n hK;let j C J:=A;let l rv p t:=I.list C;let f0 T D f3 f4 f5:=r it (by simp)
  let G:=rv.length;exact wpAny_pyNext_list_end (I.ok.hd g) st p.isList (by simp_all) λm q=>⟨rfl,I.turned (t':=s.toks) (λb o L e=>q b o L e) f0 T f3 f4 f5⟩
 self:=λ_ _ _ _ _ st h=>wpAny_pyIter_listiter st h
theorem yD{tg:Expr}(it:Addr)(lo:Int)(n:Nat):Turn P w K tg (Itr lo n) [it] it (λi h=>IsRangeIter h it (lo+(i:Nat)*1) ((n:Int)-(i:Nat)) 1) where
 mem:=by simp
 obj:=λi h st b L=>by
  let e:b=it:=by grind
  subst e
  erw[_,st,λv z=>by
   contradiction]
 keep:=λi h J st k=>k it (by simp) _ st
 item:=by
  intro X T p f g i B s M H E I r st j;subst T p f;let Q x D l d C:=r it (by simp)
  let W:=Walks.range (prog:=X.prog) (w:=X.w) (I.ok.hd g) it lo 1 n;refine W.item i s _ _ j st λv J m A a y=>?_;let t rfl:=A;let N:Inv X B M H {s with heap:=J,toks:=m}:=I.turned (λb o L e=>y b o (by simpa using L) e) Q x l d C
  erw[_,rfl,G5 (s:={s with heap:=J,toks:=m}) (n:="range_iterator") a rfl rfl ∅ ⟨.int (lo+i),H,N,⟨t,?_⟩,⟨rfl,rfl⟩,a,λb L=>(r b L).1⟩]
  rw[Int.mul_one]
 done:=by
  intro X T p f g i B s M H E I r st j;subst T p f;let Q x D l d C:=r it (by simp)
  exact wpAny_pyNext_range_end (I.ok.hd g) st (by let:n<=i:=j;omega) λJ G=>⟨rfl,I.turned (t':=s.toks) (λb o L e=>G b o L e) Q x l d C⟩
 self:=λ_ _ _ _ _ st h=>wpAny_pyIter_rangeiter st h
section
variable{X:Cx}{tg:Expr}
def iList(K:HE)(tl:TE):TI:=λM H R=>tl M H λx m=>∃ a,x=.ref a/\(∃ j,SqL K m a j)/\R (Itl K a) m
theorem aP{l:Expr}{tl:TE}(hl:PE X l tl):PI X tg l (iList X.K tl):=by
 intro B s M H R I h;refine thn (hl B s M H _ I h) λv J c=>?_;let x m N w k:=c;let a e{j C}q:=k;subst e
 cases w
 let E rv p t:=N.list C;refine wpAny_pyIter_list p.isList ?_;erw[J.heap.objs.size,[J.heap.objs.size],_,_,m,rfl,N.kept (t':=J.toks) λb o e=>MR _ e,zY a _,⟨_,MT _ rfl,rfl,rfl⟩,λb L=>?_,q];let e:b=J.heap.objs.size:=by simpa using L
 subst e;exact N.fpOk (HF _) (N.hok.fresh (HF _))
theorem Dh{σ:St}{H:Hp}{s:Shared}{R:It->Hp->Prop}{lo hi:Int}{t u v:Tok}{tk:Nat}(I:Inv X Y σ H s)(i : -(2^62)<=lo)(h2:lo<2^62)(J : -(2^62)<=hi)(a:hi<2^62)(q:R (Itr lo (hi-lo).toNat) H):wpAny (model X.prog X.w) X.A (pyIter (.ref s.heap.objs.size)) (PIE X Y σ tg R) E {s with heap:=s.heap.push {cls:=.type "range",data:=.fields #[.int lo t,.int hi u,.int 1 v]},toks:=tk}:=by
 refine wpAny_pyIter_range (IsRange.new ..) (small_one i h2 J a) ?_;let N:Inv X Y σ H {s with heap:=s.heap.push {cls:=.type "range",data:=.fields #[.int lo t,.int hi u,.int 1 v]},toks:=tk}:=I.kept λb o e=>MR _ e
 erw[(s.heap.push {cls:=.type "range",data:=.fields #[.int lo t,.int hi u,.int 1 v]}).objs.size,[(s.heap.push {cls:=.type "range",data:=.fields #[.int lo t,.int hi u,.int 1 v]}).objs.size],_,_,H,rfl,
  N.kept (t':=tk) λb o e=>MR _ e,yD _ lo (hi-lo).toNat,?_,λb L=>?_,q]
 .let C:lo+((0:Nat):Int)*1=lo:=by simp
  let T:(((hi-lo).toNat:Nat):Int)-((0:Nat):Int)=Builtin.Range.rangeSize lo hi 1:=by rw[rangeSize_one];grind
  show IsRangeIter _ _ (lo+((0:Nat):Int)*1) ((((hi-lo).toNat:Nat):Int)-((0:Nat):Int)) 1;rw[C,T];exact MT _ rfl
 .let e:b=(s.heap.push {cls:=.type "range",data:=.fields #[.int lo t,.int hi u,.int 1 v]}).objs.size:=by simpa using L
  subst e;exact N.fpOk (HF _) (N.hok.fresh (HF _))
def iRng1(d:TA):TI:=λM H R=>d M H λg m=>∃ j:Int,g=[.int j]/\-(2^62)<=j/\j<2^62/\R (Itr 0 j.toNat) m
theorem aN{a:Expr}{d:TA}{p:Pos}(A:Gl X "range")(y:X.mg "range"=none)(E:PA X [a] d)(hs:MF [a] X.env=[(false,eval a X.env)]:=by rfl):PI X tg (.Call (.Name "range" p) [a] [] pos) (iRng1 d):=by
 intro B s M H R I h;refine Call_ (kQ I A y boot_range (MU (thn (E pos B s M H _ I h) λi J ⟨g,m,N,o,k⟩=>?_) hs rfl));let j e k n q:=k;subst e
 cases o with
 |cons r b =>
  cases b
  let t rfl:=r;exact call_range_1 (Dh N ∅ ∅ k n (by simpa using q))
def tFor(k:TI)(g:TG)(tb:TS):TS:=λD M H=>k M H λJ Y=>∃ W:Nat->Nat->St->Hp->Prop,(∃ m,W 0 m M Y)/\∀ i m M H,W i m M H ->
 (J.stop i H/\D.nx M H)∨(J.go i H/\∃ N:St->Hp->Prop,(∀ z G,N z G->∃ d,d<m/\W (i+1) d z G)/\∀ x G,J.yld i H x G->g x M G λc u=>tb {D with nx:=N,ct:=N,bk:=D.nx} c u)
def xV(fp:List Addr)(h:Heap):List (Addr×Obj):=fp.filterMap λb=>(h.get? b).map λo=>(b,o)
theorem jd{b:Addr}(L:b∈fp)(e:h.get? b=some o):(b,o)∈xV fp h:=List.mem_filterMap.mpr ⟨b,L,by rw[e];rfl⟩
theorem A6{p:Addr×Obj}(M:p∈xV fp h):p.1∈fp/\h.get? p.1=some p.2:=by
 let b L e:=List.mem_filterMap.mp M
 cases q:h.get? b with
 |none=>simp_all
 |some o =>
  rw[q]at e;let T:(b,o)=p:=Iw e;subst T;erw[L,q]
theorem Inv.pinned{σ:St}{H:Hp}{s:Shared}(I:Inv X Y σ H s)(r:∀ b∈fp,FpOk X Y H b)(O:∀ b∈fp,∃ o,s.heap.get? b=some o/\∀ v,o.data≠.cell v):Inv X (Y++xV fp s.heap) σ H s :=
 I.pins_of λp M=>(HY.mp M).elim (λz=>I.pin p (Ir _ z)) λz=>by
  let L e:=A6 z;let Q t D _:=r p.1 L;let o T d:=O p.1 L;rw[e]at T;cases T;erw[e,Q,t,D,d]
theorem Inv.unpinned{pl:List (Addr×Obj)}{σ:St}{H:Hp}{s:Shared}(I:Inv X (Y++pl) σ H s):Inv X Y σ H s:=I.pins_of λp M=>I.pin p (Ir _ (IU _ M))
theorem bc{ac:Expr}{aa:List Stmt}{wi:TI}{g:TG}{tb:TS}(y:PassesOwn (model X.prog X.w) X.A X.env X.xe)(E:X.calm=true)(hi:PI X tg ac wi)(c:PG X tg g)(L:PSs X aa tb)(hs:∀ x,MV ac X.env x=pure x:=by intro _;rfl):PS X (.For tg ac aa [] pos) (tFor wi g tb):=by
 intro B s M H D I h;refine wpAny_For (thn (hi B s M H _ I h) λv k Y=>thn Y λaW t G=>?_) hs;let it fp tn J l e I2 T ab f2 W{m0 w0}turn:=G;subst e;let am:∀{H':Hp},(∀ b∈fp,H' b=none)->∀ b∈fp,FpOk X B H' b:=λa b L=>⟨a b L,(f2 b L).2⟩;refine codeAny_forLoop_any (λn s'=>∃ i z H',Inv X B z H' s'/\tn i s'.heap/\(∀ b∈fp,H' b=none)/\W i n z H') ?_ m0 ⟨0,M,l,I2,ab,λb L=>(f2 b L).1,w0⟩;rintro n p ⟨i,al,C,I3,aS,aT,w3⟩;rcases turn i n al C w3 with⟨stop,qn⟩|⟨go,N,hN,step⟩
 .refine MP y (thn (T.done X rfl rfl rfl E i B p al C X.xe I3 (am aT) aS stop) λr s4 ⟨O,I4⟩=>?_);subst O;exact wpAny_execs_nil ⟨al,C,I4,qn⟩
 .refine MP y (thn (T.item X rfl rfl rfl E i B p al C X.xe I3 (am aT) aS go) λr s4 ⟨u,O,h4⟩=>?_);subst O;refine MP y (thn h4 λ_ Q ⟨x,q,I5,r5,y5,ap,a0⟩=>?_);let a1:=I5.pinned (am a0) (T.obj _ _ ap);refine MP y (thn (c _ Q al q x u _ a1 r5 (step x q y5)) λ_ s6 ⟨aI,H6,I6,q6⟩=>?_);refine MP y (thn (L _ s6 aI H6 _ I6 q6) λf s7 q7=>?_);let again:∀{an:St}{H7:Hp},Inv X (B++xV fp Q.heap) an H7 s7->N an H7->∃ m,m<n/\∃ i z H',Inv X B z H' s7/\tn i s7.heap/\(∀ b∈fp,H' b=none)/\W i m z H':=λ{an H7} I7 n7=>by
   let m' j w7:=hN an H7 n7;erw[m',j,i+1,an,H7,I7.unpinned,T.keep _ _ _ ap λb L o e=>(I7.pin (b,o) (Ir _ (Ir _ (jd L e)))).1,λb L=>?_,w7];let o e d:=T.obj _ _ ap b L;exact(I7.pin (b,o) (Ir _ (Ir _ (jd L e)))).2.1
  cases f with
  |next=>obtain⟨an,H7,I7,n7⟩:=q7;exact again I7 n7
  |cont=>obtain⟨an,H7,I7,n7⟩:=q7;exact again I7 n7
  |brk=>obtain⟨an,H7,I7,q7⟩:=q7;erw[an,H7,I7.unpinned,q7]
  |ret v=>obtain⟨x7,an,H7,I7,r7,q7⟩:=q7;erw[x7,an,H7,I7.unpinned,r7,q7]
end
theorem bI{xs:List V}{g:TG}{tb:TS}{D:Ends}{σ:St}{H:Hp}(Pv:Nat->St->Hp->Prop)(o:Pv 0 σ H)(hl:∀ i σ H,i<=xs.length->Pv i σ H->SqL K H a xs)(hs:∀ i x σ H,xs[i]?=some x->Pv i σ H->g x σ H λc H2=>tb {D with nx:=Pv (i+1),ct:=Pv (i+1),bk:=D.nx} c H2)(hd:∀ σ H,Pv xs.length σ H->D.nx σ H):
  ∃ W:Nat->Nat->St->Hp->Prop,(∃ m,W 0 m σ H)/\∀ i m σ H,W i m σ H ->
   ((Itl K a).stop i H/\D.nx σ H)∨((Itl K a).go i H/\∃ N:St->Hp->Prop,(∀ σ' H',N σ' H'->∃ d,d<m/\W (i+1) d σ' H')/\∀ x H',(Itl K a).yld i H x H'->g x σ H' λc H2=>tb {D with nx:=N,ct:=N,bk:=D.nx} c H2):=by
 erw[λi m σ H=>m=xs.length-i/\i<=xs.length/\Pv i σ H,⟨xs.length,by simp,Iz _,o⟩,?_]
 rintro i m σ H ⟨rfl,I,p⟩;let q:=hl i σ H I p;by_cases L:i<xs.length
 .refine .inr ⟨⟨xs,xs[i],q,by simp⟩,Pv (i+1),λσ' H' w=>⟨xs.length-(i+1),∅,rfl,L,w⟩,λx H' y=>?_⟩
  let e y:=y;subst e;exact hs i x σ _ (y xs q) p
 .let e:i=xs.length:=by omega
  subst e;exact .inl ⟨⟨xs,q,HF _⟩,hd σ H p⟩
theorem bE{lo:Int}{g:TG}{tb:TS}{D:Ends}{σ:St}{H:Hp}(Pv:Nat->St->Hp->Prop)(o:Pv 0 σ H)(hs:∀ i σ H,i<n->Pv i σ H->g (.int (lo+i)) σ H λc H2=>tb {D with nx:=Pv (i+1),ct:=Pv (i+1),bk:=D.nx} c H2)(hd:∀ σ H,Pv n σ H->D.nx σ H):
  ∃ W:Nat->Nat->St->Hp->Prop,(∃ m,W 0 m σ H)/\∀ i m σ H,W i m σ H ->
   ((Itr lo n).stop i H/\D.nx σ H)∨((Itr lo n).go i H/\∃ N:St->Hp->Prop,(∀ σ' H',N σ' H'->∃ d,d<m/\W (i+1) d σ' H')/\∀ x H',(Itr lo n).yld i H x H'->g x σ H' λc H2=>tb {D with nx:=N,ct:=N,bk:=D.nx} c H2):=by
 erw[λi m σ H=>m=n-i/\i<=n/\Pv i σ H,⟨n,by simp,Iz _,o⟩,?_]
 rintro i m σ H ⟨rfl,I,p⟩;by_cases L:i<n
 .refine .inr ⟨L,Pv (i+1),λσ' H' w=>⟨n-(i+1),∅,rfl,L,w⟩,λx H' y=>?_⟩
  let e y:=y;subst e y;exact hs i σ _ L p
 .let e:i=n:=by omega
  subst e;exact .inl ⟨HF _,hd σ H p⟩
theorem i5{c:TT}{tb:TS}{D:Ends}{σ:St}{H:Hp}(Pv:St->Hp->Prop)(a:St->Hp->Nat)(o:Pv σ H)(hs:∀ σ H,Pv σ H->c σ H λb H1=>if b=true then tb {D with nx:=λσ' H'=>Pv σ' H'/\a σ' H'<a σ H,ct:=λσ' H'=>Pv σ' H'/\a σ' H'<a σ H,bk:=D.nx} σ H1 else D.nx σ H1)(mono:∀ σ H Q v,(∀ b H1,Q b H1->v b H1)->c σ H Q->c σ H v):ET c tb D σ H:=by
 erw[λm σ H=>m=a σ H/\Pv σ H,⟨_,rfl,o⟩,?_];rintro m σ H ⟨rfl,p⟩;refine mono σ H _ _ (λb H1 q=>?_) (hs σ H p)
 cases b with
 |true=>exact⟨_,λσ' H' ⟨w,l⟩=>⟨_,l,rfl,w⟩,q⟩
 |false=>exact q
abbrev R2:=V->V->Hp->VK->Prop
def OpR(X:Cx)(f:Value->Value->Sem Value)(r:R2):Prop :=
 ∀(B:List (Addr×Obj))(s:Shared)(M:St)(H:Hp)(x y:V)(v u:Value)(Q:VK),Inv X B M H s->RelV x v->RelV y u->r x y H Q ->
  wpAny (model X.prog X.w) X.A (f v u) (EP X B M Q) X.xe s
def jB(X:Cx)(f:Value)(r:List V->Hp->VK->Prop):Prop :=
 ∀(B:List (Addr×Obj))(s:Shared)(M:St)(H:Hp)(j:List V)(i:List Value)(Q:VK),Inv X B M H s->Vals j i->r j H Q ->
  wpAny (model X.prog X.w) X.A (call f i) (EP X B M Q) X.xe s
def tOp(r:R2)(d tb:TE):TE:=λM H Q=>d M H λx m=>tb M m λy u=>r x y u Q
inductive rI(C:Int->Int->Prop)(g:Int->Int->V)(x:L2.V)(y:L2.V)(H:L2.Hp)(Q:L2.VK):Prop
 |mk (i j:_) (h0_:x=.int i)(h1_:y=.int j)(h2_:C i j)(h3_:Q (g i j) H)
inductive rI0(g:Int->Int->V)(x:L2.V)(y:L2.V)(H:L2.Hp)(Q:L2.VK):Prop
 |mk (i j:_) (h0_:x=.int i)(h1_:y=.int j)(h2_:Q (g i j) H)
section
variable{X:Cx}{a b c:Expr}{ta tb tc:TE}{pos:Pos}
theorem binT(E:PE X a ta)(L:PE X b tb){s:Shared}{σ:St}{H:Hp}{R:V->V->Hp->Prop}(I:Inv X Y σ H s)(h:ta σ H λx H1=>tb σ H1 λy H2=>R x y H2){f:Value->Value->Sem Value}(r:∀ v u s2 x y H2,Inv X Y σ H2 s2->RelV x v->RelV y u->R x y H2->wpAny (model X.prog X.w) X.A (f v u) Q X.xe s2):
  wpAny (model X.prog X.w) X.A (eval a X.env) (λv s₁=>wpAny (model X.prog X.w) X.A (eval b X.env) (λu s₂=>wpAny (model X.prog X.w) X.A (f v u) Q X.xe s₂) X.xe s₁) X.xe s:=by
 refine thn (E Y s σ H _ I h) λv J c=>?_;let x H1 N o k:=c;refine thn (L Y J σ H1 _ N k) λu s2 c=>?_;let y H2 z D n:=c;exact r v u s2 x y H2 z o D n
theorem aw{op:Operator}{r:R2}(O:OpR X (MX op) r)(E:PE X a ta)(L:PE X b tb):PE X (.BinOp a op b pos) (tOp r ta tb):=by
 intro B s M H Q I h;exact wpAny_BinOp (binT E L I h λv u t x y l z c T q=>O B t M l x y v u Q z c T q)
theorem opI{f:Value->Value->Sem Value}{C:Int->Int->Prop}{g:Int->Int->Int}(rule:∀(i j:Int)(t u:Tok)(s:Shared)(Q:Value->Shared->Prop)(E:Value->Shared->Prop),C i j->Q (.int (g i j) s.toks) {s with toks:=s.toks+1}->wpAny (model X.prog X.w) X.A (f (.int i t) (.int j u)) Q E s):
  OpR X f (rI C λi j=>.int (g i j)):=by
 intro B s M H x y v u Q I c T h;let i j rfl rfl l q:=h;let t rfl:=c;let G rfl:=T;exact rule i j t G s _ _ l ⟨.int (g i j),H,I.tok _,⟨_,rfl⟩,q⟩
theorem opI0{f:Value->Value->Sem Value}{g:Int->Int->Int}(rule:∀(i j:Int)(t u:Tok)(s:Shared)(Q:Value->Shared->Prop)(E:Value->Shared->Prop),Q (.int (g i j) s.toks) {s with toks:=s.toks+1}->wpAny (model X.prog X.w) X.A (f (.int i t) (.int j u)) Q E s):
  OpR X f (rI0 λi j=>.int (g i j)):=by
 intro B s M H x y v u Q I c T h;let i j rfl rfl q:=h;let t rfl:=c;let G rfl:=T;exact rule i j t G s _ _ ⟨.int (g i j),H,I.tok _,⟨_,rfl⟩,q⟩
theorem opB0{f:Value->Value->Sem Value}{g:Int->Int->Bool}(rule:∀(i j:Int)(t u:Tok)(s:Shared)(Q:Value->Shared->Prop)(E:Value->Shared->Prop),Q (.bool (g i j)) s->wpAny (model X.prog X.w) X.A (f (.int i t) (.int j u)) Q E s):
  OpR X f (rI0 λi j=>.bl (g i j)):=by
 intro B s M H x y v u Q I c T h;let i j rfl rfl q:=h;let t rfl:=c;let G rfl:=T;exact rule i j t G s _ _ ⟨.bl (g i j),H,I,rfl,q⟩
def CDiv(i j:Int):Prop:=0<j/\j<1073741824
def CPow(i j:Int):Prop:=0<=j/\j<=1000000/\i.natAbs<2^64
def CMul(i j:Int):Prop:=(-(2^64)<i/\i<2^64)∨(-(2^64)<j/\j<2^64)
theorem CMul.ok{i j:Int}(h:CMul i j):IntMulOk i j:=by
 rcases h with⟨Y,B⟩|⟨Y,B⟩
 .exact .of_left (intBits_le_64 Y B)
 .exact .of_right (intBits_le_64 Y B)
theorem yC(k:Nat):(0:Int)<=2^k:=by
 rw[two_pow_cast];exact Int.natCast_nonneg _
theorem br:OpR X (MX .Add) (rI0 λi j=>.int (i+j)):=opI0 λ_ _ _ _ _ _ _ q=>add_int q
theorem iA:OpR X (MX .Sub) (rI0 λi j=>.int (i-j)):=opI0 λ_ _ _ _ _ _ _ q=>sub_int q
theorem dS:OpR X (MX .Mult) (rI CMul λi j=>.int (i*j)):=opI λ_ _ _ _ _ _ _ g q=>mul_int q g.ok
theorem b9:OpR X (MX .FloorDiv) (rI CDiv λi j=>.int (i/j)):=opI λi j _ _ _ _ _ g q=>by
 let Y:(0:Int)<j:=g.1;let B:j<1073741824:=g.2;exact floordiv_int ∅ (by rw[Me i ∅];exact q) (.inl (PyProof.noPylong_small ∅))
theorem bq:OpR X (MX .Mod) (rI (λ_ j=>0<j) λi j=>.int (i%j)):=opI λi j _ _ _ _ _ g q=>by
 let Y:(0:Int)<j:=g;exact mod_int' ∅ (by rw[Int.fmod_eq_emod_of_nonneg i ∅];exact q)
theorem Fe:OpR X (MX .Pow) (rI CPow λi j=>.int (i^j.toNat)):=opI λ_ _ _ _ _ _ _ g q=>pow_int_small g.1 g.2.1 g.2.2 q
theorem cE:OpR X (MX .LShift) (rI CPow λi j=>.int (i*2^j.toNat)):=opI λ_ _ _ _ _ _ _ g q=>lshift_int_small g.1 g.2.1 g.2.2 q
theorem fZ:OpR X (MX .RShift) (rI (λ_ j=>0<=j) λi j=>.int (i/2^j.toNat)):=opI λi j _ _ _ _ _ g q =>
 rshift_int g (by rw[Me i (yC _)];exact q)
theorem jD:OpR X (MX .BitAnd) (rI0 λi j=>.int (MY i j)):=opI0 λ_ _ _ _ _ _ _ q=>and_int q
theorem yJ:OpR X (MX .BitOr) (rI0 λi j=>.int (MZ i j)):=opI0 λ_ _ _ _ _ _ _ q=>or_int q
theorem fY:OpR X (MX .BitXor) (rI0 λi j=>.int (M4 i j)):=opI0 λ_ _ _ _ _ _ _ q=>xor_int q
end
def scal:V->V->Bool
 |.non,.non=>true | .non,.int _=>true | .int _,.non=>true | .non,.bl _=>true | .bl _,.non=>true | .non,.str _=>true | .str _,.non=>true
 |.int _,.int _=>true | .bl _,.bl _=>true | .str _,.str _=>true | .byt _,.byt _=>true
 |.int _,.str _=>true | .str _,.int _=>true | .bl _,.str _=>true | .str _,.bl _=>true
 |_,_=>false
def rEq:R2:=λx y H Q=>scal x y=true/\Q (.bl (decide (x=y))) H
def rNe:R2:=λx y H Q=>scal x y=true/\Q (.bl (!decide (x=y))) H
theorem B8{i j:Int}:decide (V.int i=V.int j)=(i == j):=by
 rw[KU];simp
theorem Fm{i j:Bool}:decide (V.bl i=V.bl j)=(i == j):=by
 rw[KU];simp
theorem B7{i j:Str}:decide (V.str i=V.str j)=(i == j):=by
 rw[KU];simp
theorem B9{i j:Array UInt8}:decide (V.byt i=V.byt j)=(i.toList == j.toList):=by
 rw[KU];simp
section
variable{X:Cx}{a b c:Expr}{ta tb tc:TE}{pos:Pos}
theorem a8{σ:St}{H:Hp}{s:Shared}{Q:VK}{k c:Bool}(I:Inv X Y σ H s)(q:Q (.bl k) H)(e:k=c):EP X Y σ Q (.bool c) s:=by
 subst e;erw[.bl k,H,I,rfl,q]
theorem eG:OpR X (MH .Eq) rEq:=by
 intro B s M H x y v u Q I c T h;let d q:=h
 cases x with
 |non =>
  cases c
  cases y with
  |non=>cases T;exact PySem.EqNone.eq_none_none (a8 I q (by simp))
  |bl j=>cases T;exact PySem.EqNone.eq_none_bool (a8 I q (by simp))
  |int j=>obtain⟨G,rfl⟩:=T;exact PySem.EqNone.eq_none_int (a8 I q (by simp))
  |str j=>obtain⟨G,rfl⟩:=T;exact PySem.EqNone.eq_none_str (a8 I q (by simp))
  |_=>exact NZ (show false=true from d) Io
 |bl i =>
  cases c
  cases y with
  |non=>cases T;exact PySem.EqNone.eq_bool_none (a8 I q (by simp))
  |bl j=>cases T;exact eq_bool (a8 I q Fm)
  |str j=>obtain⟨G,rfl⟩:=T;exact PySem.EqMixed.eq_bool_str (a8 I q (by simp))
  |_=>exact NZ (show false=true from d) Io
 |int i =>
  let t rfl:=c
  cases y with
  |non=>cases T;exact PySem.EqNone.eq_int_none (a8 I q (by simp))
  |int j=>obtain⟨G,rfl⟩:=T;exact eq_int (a8 I q B8)
  |str j=>obtain⟨G,rfl⟩:=T;exact PySem.EqMixed.eq_int_str (a8 I q (by simp))
  |_=>exact NZ (show false=true from d) Io
 |str i =>
  let t rfl:=c
  cases y with
  |non=>cases T;exact PySem.EqNone.eq_str_none (a8 I q (by simp))
  |bl j=>cases T;exact PySem.EqMixed.eq_str_bool (a8 I q (by simp))
  |int j=>obtain⟨G,rfl⟩:=T;exact PySem.EqMixed.eq_str_int (a8 I q (by simp))
  |str j=>obtain⟨G,rfl⟩:=T;exact eq_str (a8 I q B7)
  |_=>exact NZ (show false=true from d) Io
 |byt i =>
  let t rfl:=c
  cases y with
  |byt j=>obtain⟨G,rfl⟩:=T;exact PySem.W.eq_bytes (a8 I q B9)
  |_=>exact NZ (show false=true from d) Io
 |_=>cases y<;>exact NZ (show false=true from d) Io
theorem jZ:OpR X (MH .NotEq) rNe:=by
 intro B s M H x y v u Q I c T h;let d q:=h
 cases x with
 |non =>
  cases c
  cases y with
  |non=>cases T;exact PySem.EqNone.ne_none_none (a8 I q (by simp))
  |bl j=>cases T;exact PySem.EqNone.ne_none_bool (a8 I q (by simp))
  |int j=>obtain⟨G,rfl⟩:=T;exact PySem.EqNone.ne_none_int (a8 I q (by simp))
  |str j=>obtain⟨G,rfl⟩:=T;exact PySem.EqNone.ne_none_str (a8 I q (by simp))
  |_=>exact NZ (show false=true from d) Io
 |bl i =>
  cases c
  cases y with
  |non=>cases T;exact PySem.EqNone.ne_bool_none (a8 I q (by simp))
  |bl j=>cases T;exact ne_bool (a8 I q (congrArg not Fm))
  |str j=>obtain⟨G,rfl⟩:=T;exact PySem.EqMixed.ne_bool_str (a8 I q (by simp))
  |_=>exact NZ (show false=true from d) Io
 |int i =>
  let t rfl:=c
  cases y with
  |non=>cases T;exact PySem.EqNone.ne_int_none (a8 I q (by simp))
  |int j=>obtain⟨G,rfl⟩:=T;exact ne_int (a8 I q (congrArg not B8))
  |str j=>obtain⟨G,rfl⟩:=T;exact PySem.EqMixed.ne_int_str (a8 I q (by simp))
  |_=>exact NZ (show false=true from d) Io
 |str i =>
  let t rfl:=c
  cases y with
  |non=>cases T;exact PySem.EqNone.ne_str_none (a8 I q (by simp))
  |bl j=>cases T;exact PySem.EqMixed.ne_str_bool (a8 I q (by simp))
  |int j=>obtain⟨G,rfl⟩:=T;exact PySem.EqMixed.ne_str_int (a8 I q (by simp))
  |str j=>obtain⟨G,rfl⟩:=T;exact ne_str (a8 I q (congrArg not B7))
  |_=>exact NZ (show false=true from d) Io
 |byt i =>
  let t rfl:=c
  cases y with
  |byt j=>obtain⟨G,rfl⟩:=T;exact PySem.W.ne_bytes (a8 I q (congrArg not B9))
  |_=>exact NZ (show false=true from d) Io
 |_=>cases y<;>exact NZ (show false=true from d) Io
theorem AX:OpR X (MH .Lt) (rI0 λi j=>.bl (decide (i<j))):=opB0 λ_ _ _ _ _ _ _ q=>lt_int q
theorem Dw:OpR X (MH .Gt) (rI0 λi j=>.bl (decide (j<i))):=opB0 λ_ _ _ _ _ _ _ q=>gt_int q
theorem Gs:OpR X (MH .GtE) (rI0 λi j=>.bl (decide (j<=i))):=opB0 λ_ _ _ _ _ _ _ q=>ge_int q
theorem op_isN:OpR X (MH .Is) (λx y H Q=>y=.non/\Q (.bl (decide (x=.non))) H):=by
 intro B s M H x y v u Q I c T h;let rfl q:=h
 cases T
 refine is_none_gen (a8 I q ?_)
 cases x<;>first
  | (cases c;rfl)
  | (let t rfl:=c;rfl)
theorem Gn:OpR X (MH .IsNot) (λx y H Q=>y=.non/\Q (.bl (!decide (x=.non))) H):=by
 intro B s M H x y v u Q I c T h;let rfl q:=h
 cases T
 refine isnot_none_gen (a8 I q ?_)
 cases x<;>first
  | (cases c;rfl)
  | (let t rfl:=c;rfl)
theorem aC(b:Expr)(h:op≠.In:=by decide)(h2:op≠.NotIn:=by decide):behindInMarks op b=false:=by
 let C:(op == CmpOp.In)=false:=by simp_all
 let T:(op == CmpOp.NotIn)=false:=by simp_all
 cases b<;>simp[behindInMarks,C,T]
theorem vk{r:R2}(O:OpR X (MH op) r)(E:PE X a ta)(L:PE X b tb)(j:behindInMarks op b=false):PE X (.Compare a [op] [b] pos) (tOp r ta tb):=by
 intro B s M H Q I h;exact wpAny_Compare1 (binT E L I h λv u t x y l z c T q=>O B t M l x y v u Q z c T q) j
def tTest(t:TE):TT:=λM H Q=>t M H λx G=>∃ k,x=.bl k/\Q k G
theorem aB{r:R2}(O:OpR X (MH op) r)(E:PE X a ta)(L:PE X b tb)(j:behindInMarks op b=false):PT X (.Compare a [op] [b] pos) (tTest (tOp r ta tb)):=by
 intro B s M H Q I h
 refine wpAny_isTrue_Compare1 (thn (E B s M H _ I h) λv J ⟨x,m,N,o,G⟩=>thn (L B J M m _ N G) λu t ⟨y,l,i,D,n⟩ =>
  thn (O B t M l x y v u _ i o D n) λc p ⟨z,C,d,A,k,e,Y⟩=>?_) j
 subst e
 cases A
 exact MI ⟨C,d,Y⟩
theorem pq:(Mz:Nat)<2^63:=by rw[sizeLine_eq];decide
theorem mN{x:V}(r:Vals [x] us):∃ u,us=[u]/\RelV x u:=by
 cases r with
 |cons o D=>cases D;erw[_,rfl,o]
theorem CL{x y:V}(r:Vals [x,y] us):∃ u w',us=[u,w']/\RelV x u/\RelV y w':=by
 cases r with
 |cons o D =>
  cases D with
  |cons A a=>cases a;erw[_,_,rfl,o,A]
theorem Cw(g:X.calm=true):jB X (.builtin "max") (λxs H Q=>∃ i j,xs=[.int i,.int j]/\Q (.int (if j > i then j else i)) H):=by
 intro B s M H xs l Q I r h;let i j rfl q:=h;let u w rfl{t rfl}{G rfl}:=CL r;refine max_two_ints (I.ok.hd g) λJ m k=>⟨_,H,I.kept k,?_,q⟩;by_cases O:j > i
 .rw[NX O,NX O];erw[_,rfl]
 .rw[NY O,NY O];erw[_,rfl]
end
structure ObjM(h:Heap)(x dx C:Addr)(mA:Str->Option Value):Prop where
 obj:h.get? x=some (JW C dx)
 ns:h.Ns1 dx mA
 ne:dx≠x
theorem Bh{J:Str->Option Value}(n:h.Ns1 p J):∃ B,h.get? p=some B/\∀ name,Lx name B=some (J name):=by
 let o N M O hd f _ j:=n;erw[o,O,λname=>?_];let e:=j name;unfold nsFind findBy at e;rw[← Array.find?_toList]at e;unfold Lx;rw[hd];dsimp only;split
 .simp_all
 .rename_i q;rw[q]at e;let a:N.toList.any (·.refKey)=false:=by
   rw[List.any_eq_false];intro y Q;let z t b:=f y (Array.mem_toList_iff.mp Q);simp[DictEntry.refKey,b]
  let r:¬ N.toList.any (·.refKey)=true:=by lia
  rw[NY r];exact congrArg some e
theorem ObjM.look{x:Addr}{J:Str->Option Value}(I:ObjM h x a C J):∃ B,PySem.W.InstAt h x (JW C a) C (some B)/\∀ name,Lx name B=some (J name) :=
 let ⟨B,O,G⟩:=Bh I.ns
 ⟨B,⟨I.obj,rfl,rfl,O⟩,G⟩
section
variable{prog:Program}{w:World}{A:Around}{E:Value->Shared->Prop}{s:Shared}{K:HE}{x dx C f:Addr}{mA:Str->Option Value}{name:Str}{v:Value}
theorem G7{a:Bool}(X:K.In s.heap)(I:ObjM s.heap x dx C mA)(j:Kb K C name=true)(p:Ko K C=true)(T:Iv K (.ref C) name=some none)(hv:mA name=some v)(b:PySem.W.handedIn v=true)(h:Q v {s with toks:=s.toks+1}):
  wpAny (model prog w) A (getAttr (.ref x) name a) Q E s:=by
 let B J G:=I.look;exact PySem.W.get_value X J (LF j).1 (PySem.W.findObj_own p T rfl (by rw[G,hv])) b h
theorem Ea{Q:Value×List Value->Shared->Prop}(X:K.In s.heap)(I:ObjM s.heap x dx C mA)(j:Kb K C name=true)(r:Iv K (.ref C) name=some (some (.ref f)))(i:Kt K (.ref f)=true)(hv:mA name=none)(h:Q (.ref f,[.ref x]) s):
  wpAny (model prog w) A (getMethod (.ref x) name pl) Q E s:=by
 let B J G:=I.look;exact PySem.W.method_fn X J (LF j).1 (LF j).2 r (beq_iff_eq.mp i) (by show(Lx name B).map (·.isSome)=some false;simp[*]) h
theorem F3{ns:List Str}{Q:Unit->Shared->Prop}(X:K.In s.heap)(I:ObjM s.heap x dx C mA)(hs:Iv K (.ref C) "__setattr__"=some (some (.builtin "object.__setattr__")))(M:Kx K C=true)(i:L7 K C name=some none)(p:Ko K C=true)(hw:PySem.Within mA ns)(hsz:ns.length<=Mz)(h:∀ h',ObjM h' x dx C (λy=>if y=name then some v else mA y)->ME dx s.heap h'->Q () {s with heap:=h',toks:=s.toks+2}):
  wpAny (model prog w) A (setAttr (.ref x) name v) Q E s:=by
 let B J G:=I.look;refine PySem.W.set_plain X J hs (PySem.W.osa_open (s:={s with toks:=s.toks+1}) (r:=none) X J M i λb=>?_);let t g c:=PySem.W.any_some p;let d:s.heap.get? x=some ⟨.ref C,some dx,.plain,#[]⟩:=I.obj;refine MN (MQ (MN (MN (wpAny_loadPart d (MN (PySem.W.Looks.here (s:={s with toks:=s.toks+1}) (PySem.W.looks_clsIn X g) ?_))))));rw[c];refine MQ (a:=some dx) (MN (MQ (MN ?_)));refine wpAny_nsSet1 (s:={s with toks:=s.toks+1}) I.ns λh' f e=>?_;let o m n j k l:=f.count (PySem.Within.cons name v hw);refine MN (wpAny_lookBehind j (by rw[k];exact pastItsLine_dict (IK l (by simp[*]))) ?_)
 exact MQ (h _ ⟨(e.2 _ (Ne.symm I.ne)).trans I.obj,f,I.ne⟩ e)
theorem DX{kw:List (Str×Value)}(X:K.In s.heap)(y:KN K C=true)(hi:Iv K (.ref C) "__init__"=some (some (.ref f)))(r:PySem.W.typeIn K (.ref f)=some (.type "function"))(h:M5 (model prog w) (A.under (.builtin "type.__call__" ⟨.ref C::vs,kw⟩)) (.call (.ref f) ⟨.ref (s.heap.objs.size+1)::vs,kw⟩) (PySem.W.InitBack (s.heap.objs.size+1) R)
   {s with heap:=(s.heap.push JC).push (JW C s.heap.objs.size)}):
  M5 (model prog w) A (.call (.ref C) ⟨vs,kw⟩) R s:=by
 let p g d t os:=s;exact PySem.W.make_core (PySem.W.makes_of X y) (PySem.W.looks_findIn X hi) (λa=>PySem.W.bind_fn X a r) (.inl rfl) h
end
def putF(f:Str)(v:V):List (Str×V)->List (Str×V)
 |[]=>[(f,v)]
 | (g,x)::r=>if g=f then(g,v)::r else(g,x)::putF f v r
theorem aK(f g:Str)(v:V):∀ fs:List (Str×V),(putF f v fs).lookup g=if g=f then some v else fs.lookup g
 |[]=>by
  show Lc g [(f,v)]=_;by_cases h:g=f
  .simp[*]
  .simp[*]
 | (k,x)::r=>by
  let Q:=aK f g v r;rw[show putF f v ((k,x)::r)=(if k=f then(k,v)::r else(k,x)::putF f v r) from rfl];by_cases l:k=f
  .rw[NX l];by_cases h:g=k
   .simp[*]
   .let L:(g == k)=false:=beq_eq_false_iff_ne.mpr h
    simp only[Lc,L,NY (λe:g=f=>h (e.trans l.symm))]
  .rw[NY l];by_cases h:g=k
   .simp[*]
   .let L:(g == k)=false:=beq_eq_false_iff_ne.mpr h
    simp only[Lc,L];exact Q
theorem og(f:Str)(v:V):∀ fs:List (Str×V),f∈(putF f v fs).map (·.1)/\∀ g,g∈fs.map (·.1)->g∈(putF f v fs).map (·.1)
 |[]=>⟨by simp[putF],λg h=>by simp at h⟩
 | (k,x)::r=>by
  let J A:=og f v r;rw[show putF f v ((k,x)::r)=(if k=f then(k,v)::r else(k,x)::putF f v r) from rfl];grind
theorem n9(f:Str)(v:V):∀ fs:List (Str×V),(putF f v fs).length<=fs.length+1
 |[]=>by simp[putF]
 | (k,x)::r=>by
  let Q:=n9 f v r;rw[show putF f v ((k,x)::r)=(if k=f then(k,v)::r else(k,x)::putF f v r) from rfl];by_cases l:k=f
  .simp[*]
  .simp[*]
theorem RelO.some_of{v:V}{o:Option Value}(r:RelO (some v) o):∃ u,o=some u/\RelV v u:=by
 cases o with
 |none=>exact(show False from r).elim
 |some u=>exact⟨u,rfl,r⟩
theorem RelO.none_of{o:Option Value}(r:RelO none o):o=none:=by
 cases o with
 |none=>rfl
 |some u=>contradiction
theorem BH{v:V}(r:RelV v u):PySem.W.handedIn u=true:=by
 cases v with
 |non=>cases (show u=Value.none from r);rfl
 |bl b=>cases (show u=Value.bool b from r);rfl
 |int i=>obtain⟨t,e⟩:=(show ∃ t,u=Value.int i t from r);cases e;rfl
 |str x=>obtain⟨t,e⟩:=(show ∃ t,u=Value.str x t from r);cases e;rfl
 |byt b=>obtain⟨t,e⟩:=(show ∃ t,u=Value.bytes b t from r);cases e;rfl
 |flt b=>obtain⟨t,e⟩:=(show ∃ t,u=Value.float b t from r);cases e;rfl
 |ref a=>cases (show u=Value.ref a from r);rfl
 |ty n=>cases (show u=Value.type n from r);rfl
section
variable{P:Program}{w:World}{H H':Hp}{h h':Heap}{a C dx:Addr}{fs fs':List (Str×V)}
theorem qV(Y:HOk P w H h)(e:H a=some (.ins C dx fs)):∃ J,ObjM h a dx C J/\(∀ f,RelO (fs.lookup f) (J f))/\PySem.Within J (fs.map (·.1))/\fs.length<=1000/\H dx=some (.own a):=by
 let d z ne D J n r q:=(show bu P w H h a (.ins C dx fs) from Y a _ e);erw[J,⟨D,n,ne⟩,r,q,z,d]
end
structure Cls(K:HE)(C:Addr):Prop where
 pg:Kb K C Str.empty=true
 hd:Ko K C=true
 po:Kx K C=true
 sa:Iv K (.ref C) "__setattr__"=some (some (.builtin "object.__setattr__"))
theorem Cls.get(c:Cls K C)(f:Str):Kb K C f=true:=c.pg
def fH(K:HE)(C:Addr)(f:Str):Prop:=Iv K (.ref C) f=some none
theorem fH.taker{f:Str}(n:fH K C f):L7 K C f=some none:=by
 unfold L7;rw[show Iv K (.ref C) f=some none from n];rfl
structure Meth(K:HE)(C:Addr)(m:Str)(f:Addr):Prop where
 at_:Iv K (.ref C) m=some (some (.ref f))
 fn:Kt K (.ref f)=true
 kp:IY K (.ref f)=true
section
variable{X:Cx}{pins:List (Addr×Obj)}{σ:St}{H:Hp}{s:Shared}{a C dx:Addr}{fs:List (Str×V)}{f:Str}{v:V}{A:Around}{E:Value->Shared->Prop}
theorem yU{b:Bool}(I:Inv X pins σ H s)(e:H a=some (.ins C dx fs))(c:Cls X.K C)(n:fH X.K C f)(l:fs.lookup f=some v)(h:∀ u s',Inv X pins σ H s'->RelV v u->Q u s'):wpAny (model X.prog X.w) A (getAttr (.ref a) f b) Q E s:=by
 let J O r _ _ _:=qV I.hok e;let u T Y:=RelO.some_of (v:=v) (o:=J f) (by rw[← l];exact r f)
 exact G7 I.kIn O (c.get f) c.hd n T (BH Y) (h u _ (I.tok _) Y)
theorem pC{m:Str}{g:Addr}{Q:Value×List Value->Shared->Prop}(I:Inv X pins σ H s)(e:H a=some (.ins C dx fs))(c:Cls X.K C)(k:Meth X.K C m g)(l:fs.lookup m=none)(h:Q (.ref g,[.ref a]) s):wpAny (model X.prog X.w) A (getMethod (.ref a) m pl) Q E s:=by
 let J O r _ _ _:=qV I.hok e;let N:J m=none:=RelO.none_of (by rw[← l];exact r m)
 exact Ea I.kIn O (c.get m) k.at_ k.fn N h
theorem yF{y:V}{Q:Unit->Shared->Prop}(I:Inv X pins σ H s)(e:H a=some (.ins C dx fs))(c:Cls X.K C)(n:fH X.K C f)(hl:fs.length<1000)(T:RelV y u)(h:∀ s',Inv X pins σ (upd H a (.ins C dx (putF f y fs))) s'->Q () s'):wpAny (model X.prog X.w) A (setAttr (.ref a) f u) Q E s:=by
 let m O r k _ t:=qV I.hok e;let G:(fs.map (·.1)).length<=Mz:=by rw[HD,sizeLine_eq];omega
 refine F3 I.kIn O c.sa c.po n.taker c.hd k G λJ i v=>h _ ?_;let hd:∃ o,J.get? dx=some o:=let ⟨o,_,_,d,_⟩:=i.ns;⟨o,d⟩;refine I.write (x:=a) (e:=dx) (by rw[e];exact True.intro) (.inr t) (λb q L z=>(v.2 b L).trans z) hd ?_
 erw[by rw[ao O.ne];exact t,?_,O.ne,i.obj,_,i.ns,λg=>?_,λg j=>?_]
 .let:=n9 f y fs;omega
 .show RelO ((putF f y fs).lookup g) (if g=f then some u else m g);rw[aK];by_cases q:g=f
  .rw[NX q,NX q];exact T
  .rw[NY q,NY q];exact r g
 .by_cases q:g=f
  .rw[q];exact(og f y fs).1
  .refine(og f y fs).2 g (k g λz=>j ?_);simp_all
theorem Inv.made(I:Inv X pins σ H s):Inv X pins σ (upd (upd H s.heap.objs.size (.own (s.heap.objs.size+1))) (s.heap.objs.size+1) (.ins C s.heap.objs.size []))
  {s with heap:=(s.heap.push JC).push (JW C s.heap.objs.size)}:=by
 let B:(s.heap.push JC).get? s.heap.objs.size=some JC:=MT s.heap rfl;let T:((s.heap.push JC).push (JW C s.heap.objs.size)).get? (s.heap.objs.size+1)=some (JW C s.heap.objs.size):=by
  let:=MT (s.heap.push JC) (o:=JW C s.heap.objs.size) rfl;rwa[M6]at this
 let g:(s.heap.push JC).Ns s.heap.objs.size (λ_=>none):=⟨JC,#[],_,B,rfl,(λe D=>NZ D (by simp)),λ_=>rfl⟩
 let N:=I.laid (a:=s.heap.objs.size) (o:=.own (s.heap.objs.size+1)) (h':=s.heap.push JC) (t':=s.toks) (λb u q=>MR _ q) (HF _) ⟨_,B⟩;refine N.laid (a:=s.heap.objs.size+1) (o:=.ins C s.heap.objs.size []) (t':=s.toks) (λb u q=>MR _ q) (Nat.le_of_eq (M6 _ _)) ?_;let ne:s.heap.objs.size≠s.heap.objs.size+1:=Ig (JP _);erw[by rw[ao ne,af],Iz _,ne,T,λ_=>none,(Heap.Ns1.of_empty g).at λo q=>MR _ q,λ_=>True.intro,λy Q=>NZ rfl Q]
theorem Hw{prog:Program}{e:Expr}{f:Str}{s:Shared}(L:attributeBase e f env (eval e env)=eval e env)(h:wpAny (model prog w) A (eval e env) (λo s₁=>wpAny (model prog w) A (getAttr o f true) Q E s₁) E s):wpAny (model prog w) A (eval (.Attribute e f pos) env) Q E s :=
 Attribute_any_ h (by rw[arm_eval_Attribute,L])
end
def tFld(K:HE)(d:TE)(f:Str):TE:=λM H Q=>d M H λx m=>∃ a C l fs v,x=.ref a/\m a=some (.ins C l fs)/\Cls K C/\fH K C f/\fs.lookup f=some v/\Q v m
def sFld(K:HE)(d e:TE)(f:Str):TS:=λD M H=>e M H λy m=>d M m λx u=>∃ a C l fs,x=.ref a/\u a=some (.ins C l fs)/\Cls K C/\fH K C f/\fs.length<1000 /\
 D.nx M (upd u a (.ins C l (putF f y fs)))
section
variable{X:Cx}{o e value:Expr}{f:Str}{pos pos' tpos:Pos}{ta tv:TE}
theorem bW(D:PE X e ta)(L:attributeBase e f X.env (eval e X.env)=eval e X.env):PE X (.Attribute e f pos) (tFld X.K ta f):=by
 intro B s M H Q I h;refine Hw L (thn (D B s M H _ I h) λu J ⟨x,m,N,k,a,C,j,fs,v,G,r,c,n,l,q⟩=>?_);subst G;obtain rfl:u=Value.ref a:=k;exact yU N r c n l λb t z Y=>⟨v,m,z,Y,q⟩
theorem mz(E:PE X o ta)(hv:PE X value tv)(hs:swapsWith value (some (.Attribute o f pos')) pos.line X.env=pure false):PS X (.Assign [.Attribute o f pos'] value pos) (sFld X.K ta tv f):=by
 intro B s M H D I h;refine plainObj_wpAny_Assign_Attribute (thn (hv B s M H _ I h) λu J ⟨y,m,N,T,q⟩=>thn (E B J M m _ N q) λO t ⟨x,L,i,k,a,C,j,fs,z,r,c,n,l,G⟩=>?_) hs;subst z;obtain rfl:O=Value.ref a:=k;exact yF i r c n l T λp b=>⟨M,_,b,G⟩
end
section
variable{X:Cx}{pins:List (Addr×Obj)}{σ:St}{H:Hp}{s:Shared}{A:Around}{E:Value->Shared->Prop}{Q:Value->Shared->Prop}{c:Value}{b:Bool}
inductive TyOf(K:HE)(H:Hp):V->Value->Prop where
 |non:TyOf K H .non (.type "NoneType")
 |bl (x:Bool):TyOf K H (.bl x) (.type "bool")
 |int (i:Int):TyOf K H (.int i) (.type "int")
 |str (x:Str):TyOf K H (.str x) (.type "str")
 |flt (x:UInt64):TyOf K H (.flt x) (.type "float")
 |lst {a:Addr} {xs:List V} (e:H a=some (.lst xs)):TyOf K H (.ref a) (.type "list")
 |frz {a:Addr} {o:Obj} {xs:List V} (e:H a=some (.frz o (.lst xs))):TyOf K H (.ref a) (.type "list")
 |tup {a:Addr} {xs:List V} (e:H a=some (.tup xs)):TyOf K H (.ref a) (.type "tuple")
 |dK {a:Addr} {kvs:List (Key×V)} (e:H a=some (.dK kvs)):TyOf K H (.ref a) (.type "dict")
 |dT {a:Addr} {kvs:List (List Key×V)} (e:H a=some (.dT kvs)):TyOf K H (.ref a) (.type "dict")
 |ins {a C dx:Addr} {fs:List (Str×V)} (e:H a=some (.ins C dx fs)) (cl:Cls K C) (ha:Iv K (.ref C) "__class__"=some (some (.builtin "object.__class__")))
   (hn:PySem.W.specialIn K (.builtin "object.__class__") "__get__"=some (some (.builtin "getset_descriptor.__get__"))) (htk:PySem.W.takesIn K (.builtin "object.__class__")=some true)
   (hm:PySem.W.mroIn K C (.type "object")=some true):TyOf K H (.ref a) (.ref C)
theorem Bv{x:V}{t:Value}(I:Inv X pins σ H s)(k:RelV x u)(ty:TyOf X.K H x t)(e:Ly X.K t c=some b)(h:∀ tk,Q (.bool b) {s with toks:=tk}):
  wpAny (model X.prog X.w) A (call (.builtin "isinstance") [u,c]) Q E s:=by
 cases ty with
 |non=>cases (show u=Value.none from k);exact Jx PySem.W.kitx_none I.kIn True.intro e (λz=>nomatch z) h
 |bl y=>cases (show u=Value.bool y from k);exact Jx PySem.W.kitx_bool I.kIn True.intro e (λz=>nomatch z) h
 |int i=>obtain⟨t,q⟩:=(show ∃ t,u=Value.int i t from k);cases q;exact Jx PySem.W.kitx_int I.kIn True.intro e (λz=>nomatch z) h
 |str y=>obtain⟨t,q⟩:=(show ∃ t,u=Value.str y t from k);cases q;exact Jx PySem.W.kitx_str I.kIn True.intro e (λz=>nomatch z) h
 |flt y=>obtain⟨t,q⟩:=(show ∃ t,u=Value.float y t from k);cases q;exact Jx PySem.W.kitx_float I.kIn True.intro e (λz=>nomatch z) h
 | @lst a j r =>
  cases (show u=Value.ref a from k)
  let _ _ n _ Y:=(show bu X.prog X.w H s.heap a (.lst j) from I.hok a _ r);exact Jx PySem.W.kitx_list I.kIn ⟨_,Y,rfl⟩ e (λz=>nomatch z) h
 | @frz a G j r =>
  cases (show u=Value.ref a from k)
  let _ _ _ n _ Y:=(show bu X.prog X.w H s.heap a (.frz G (.lst j)) from I.hok a _ r);exact Jx PySem.W.kitx_list I.kIn ⟨_,Y,rfl⟩ e (λz=>nomatch z) h
 | @tup a j r =>
  cases (show u=Value.ref a from k)
  let _ _ _ p:=(show bu X.prog X.w H s.heap a (.tup j) from I.hok a _ r);let o Y B _:=p;exact Jx PySem.W.kitx_tuple I.kIn ⟨o,Y,B⟩ e (λz=>nomatch z) h
 | @dK a L r =>
  cases (show u=Value.ref a from k)
  let _ _ g _ p:=(show bu X.prog X.w H s.heap a (.dK L) from I.hok a _ r);let o N M Y B _:=p;exact Jx PySem.W.kitx_dict I.kIn ⟨o,Y,B.1⟩ e (λz=>nomatch z) h
 | @dT a L r =>
  cases (show u=Value.ref a from k)
  let _ _ j _ o N M Y B _:=(show bu X.prog X.w H s.heap a (.dT L) from I.hok a _ r);exact Jx PySem.W.kitx_dict I.kIn ⟨o,Y,B.1⟩ e (λz=>nomatch z) h
 | @ins a C l fs r v T D aa d =>
  cases (show u=Value.ref a from k)
  let m O _:=qV I.hok r;let f J _:=O.look;exact Jx (PySem.W.kitx_own (v.get _) v.hd T D aa d) I.kIn J e (λz=>nomatch z) h
end
structure Room(k:Nat)(A:Around):Prop where
 hd:A.handled=none
 dp:A.depth+3*k+5<recursionLimit
 un:A.units+16*k+200<cLine
theorem Room.mono{k:Nat}(r:Room k A)(h:j<=k):Room j A:=⟨r.hd,by let:=r.dp;omega,by let:=r.un;omega⟩
theorem Room.deeper{k:Nat}(r:Room (k+1) A)(env:Env):Room k (A.deeper env) :=
 ⟨r.hd,by let:=r.dp;show A.depth+1+3*k+5<_;omega,by let:=r.un;show A.units+3+16*k+200<_;omega⟩
theorem yP{kw:List (Str×Value)}:(A.under (.builtin "type.__call__" ⟨.ref C::us,kw⟩)).depth=A.depth+1:=by
 rfl
theorem yO{kw:List (Str×Value)}:(A.under (.builtin "type.__call__" ⟨.ref C::us,kw⟩)).units=A.units+1:=by
 rfl
theorem Room.make{k:Nat}(r:Room (k+1) A)(C:Addr)(us:List Value)(kw:List (Str×Value)):Room k (A.under (.builtin "type.__call__" ⟨.ref C::us,kw⟩)) :=
 ⟨r.hd,by let:=r.dp;rw[yP];omega,by let:=r.un;rw[yO];omega⟩
theorem Room.depth{k:Nat}(r:Room k A):A.depth<recursionLimit:=by let:=r.dp;omega
theorem Room.units{k:Nat}(r:Room k A):A.units+64<cLine:=by let:=r.un;omega
def tNil:TA:=λ_ H Q=>Q [] H
def tCons(d:TE)(tr:TA):TA:=λM H Q=>d M H λx m=>tr M m λj u=>Q (x::j) u
section
variable{X:Cx}{e:Expr}{es:List Expr}{te:TE}{t:TA}{pos:Pos}
theorem ah:PA X [] tNil:=λ_ _ _ _ H Q I h=>M7 ⟨[],H,I,.nil,h⟩
theorem ae(E:PE X e te)(O:PA X es t)(hs:MF (e::es) X.env=(false,eval e X.env)::MF es X.env:=by rfl):PA X (e::es) (tCons te t):=by
 intro pos B s M H Q I h;rw[hs];show wpAny _ _ (spliced ((false,eval e X.env)::backTo pos (MF es X.env))) _ _ s;refine M8 (thn (E B s M H _ I h) λu J ⟨x,m,N,o,k⟩=>?_);exact thn (O pos B J M m _ N k) λi y ⟨j,L,z,D,n⟩=>⟨x::j,L,z,.cons o D,n⟩
def tTup(t:TA):TE:=λM H Q=>t M H λj m=>j.length<=Mz/\∀ p,m p=none->Q (.ref p) (upd m p (.tup j))
def tLst(t:TA):TE:=λM H Q=>t M H λj m=>j.length<=Mz/\∀ p,m p=none->Q (.ref p) (upd m p (.lst j))
theorem cR{x1}(h:PA X es t):PE X (.Tuple es x1 pos) (tTup t):=by
 intro B s M H Q I C;refine wpAny_Tuple_spliced (thn (h pos B s M H _ I C) λi J ⟨j,m,N,r,z,q⟩=>⟨by rw[← r.length];exact z,?_⟩)
 let T:m J.heap.objs.size=none:=N.hok.fresh (HF _);erw[.ref J.heap.objs.size,upd m J.heap.objs.size (.tup j),N.laid (t':=J.toks) (λb u e=>MR _ e) (HF _) ?_,rfl,q _ T];erw[z,i,r,⟨_,MT _ rfl,rfl,_,rfl⟩]
theorem bw(h:PA X es t):PE X (.List es pos) (tLst t):=by
 intro B s M H Q I C;refine wpAny_List_spliced (thn (h pos B s M H _ I C) λi J ⟨j,m,N,r,z,q⟩=>⟨by rw[← r.length];exact z,?_⟩)
 let T:m J.heap.objs.size=none:=N.hok.fresh (HF _);erw[.ref J.heap.objs.size,upd m J.heap.objs.size (.lst j),N.laid (t':=J.toks) (λb u e=>MR _ e) (HF _) ?_,rfl,q _ T];erw[z,i,0,r,MT _ rfl]
end
abbrev Sp:=List V->Hp->VK->XK->Prop
abbrev CXT:=List Env->Hp->Shared->XK->Value->Shared->Prop
structure Env0(P:Program)(w:World)(K:HE)(mg:Str->Option Value)(base:Heap)(A:Around)(outer:List Env)(s:Shared)(H:Hp):Prop where
 frames:A.frames=some outer
 mod:Mod K mg base
 bs:∀ b o,base.get? b=some o->s.heap.get? b=some o/\H b=none
 bsz:base.objs.size<=s.heap.objs.size
 funs:s.heap.FunFrames base outer
 frf:∀ b∈frs outer,H b=none
 hok:HOk P w H s.heap
 bare:AllBare s.gens
def CE(outer:List Env)(P:Program)(w:World)(H:Hp)(s:Shared)(Q:VK)(u:Value)(s':Shared):Prop :=
 ∃ v G,s'.os=s.os/\AllBare s'.gens/\Un (frs outer) [] H G s.heap s'.heap/\HOk P w G s'.heap/\RelV v u/\Q v G
def CR(CX:CXT)(outer:List Env)(P:Program)(w:World)(H:Hp)(s:Shared)(Q:VK)(E:XK)(r:Result)(s':Shared):Prop :=
 match r with
 |.ok (.ret u)=>CE outer P w H s Q u s'
 |.ok _=>False
 |.error e=>CX outer H s E e s'
structure FnOk(P:Program)(w:World)(K:HE)(mg:Str->Option Value)(base:Heap)(CX:CXT)(k:Nat)(f:Addr)(fd:FuncData)(ps:List Str)(sp:Sp):Prop where
 len:∀ vs H Q E,sp vs H Q E->vs.length=ps.length
 run:∀(A:Around)(outer:List Env)(s:Shared)(H:Hp)(args:Args)(us:List Value)(vs:List V)(Q:VK)(E:XK),Room k A->Env0 P w K mg base A outer s H->BindsTo s fd args (ps.zip us)->Vals vs us->sp vs H Q E ->
  M5 (model P w) A (.call (.ref f) args) (CR CX outer P w H s Q E) s
theorem Env0.make{outer:List Env}{s:Shared}{H:Hp}(e:Env0 P w K mg base A outer s H)(C:Addr)(us:List Value)(kw:List (Str×Value)):
  Env0 P w K mg base (A.under (.builtin "type.__call__" ⟨.ref C::us,kw⟩)) outer s H:=⟨by first|exact e.frames|(simpa[Around.under,Code.envs,Code.isFrame,pushEnvs] using e.frames),e.mod,e.bs,e.bsz,e.funs,e.frf,e.hok,e.bare⟩
section
variable{X:Cx}{pins:List (Addr×Obj)}{σ:St}{H:Hp}{s s':Shared}
theorem Inv.env0(I:Inv X pins σ H s):Env0 X.prog X.w X.K X.mg X.base X.A X.stack s H :=
 ⟨I.ok.frames,I.ok.mod,I.bs,IK I.ok.bsz I.sz,I.stack,I.stkFree,I.hok,I.bare⟩
theorem Inv.after{Q:VK}(I:Inv X pins σ H s)(h:CE X.stack X.prog X.w H s Q u s'):EP X pins σ Q u s':=by
 let v G os a un Y r q:=h;let p g d t c:=s';obtain rfl:c=s.os:=os;erw[v,G,I.call (h':=p) (g':=g) (d':=d) (t':=t) (ch:=[]) un Y a (λb z=>NZ z (by simp)),r,q]
end
def CV(sp:Sp)(b:List V)(E:XK)(t:TA):TE:=λM H Q=>t M H λg m=>sp (g++b) m Q E
def tMeth(C:Addr)(m:Str)(sp:Sp)(b:List V)(E:XK)(d:TE)(t:TA):TE:=λM H Q=>d M H λx Y=>∃ a l fs,x=.ref a/\Y a=some (.ins C l fs)/\fs.lookup m=none /\
 t M Y λg u=>sp (x::(g++b)) u Q E
def tMake(C:Addr)(sp:Sp)(b:List V)(E:XK)(t:TA):TE:=λM H Q=>t M H λg m=>∀ x l,m x=none->m l=none->l≠x ->
 sp (.ref x::(g++b)) (upd (upd m l (.own x)) x (.ins C l [])) (λv u=>v=.non/\Q (.ref x) u) E
def fe(K:HE)(fd:FuncData)(ps:List Str)(ds:List Value):Prop :=
 ∀(s:Shared)(i:List Value),K.In s.heap->(i++ds).length=ps.length->BindsTo s fd ⟨i,[]⟩ (ps.zip (i++ds))
theorem fe.all{ps:List Str}(h:∀ us:List Value,us.length=ps.length->bindArgs fd ⟨us,[]⟩=pure (ps.zip us)):fe K fd ps []:=λs us _ G=>by
 rw[Kl]at G ⊢;exact .of_eq (h us G)
def mK(CX:CXT)(X:Cx)(E:XK):Prop:=∀(B:List (Addr×Obj))(M:St)(H:Hp)(s:Shared)(e:Value)(k:Shared),Inv X B M H s->CX X.stack H s E e k->X.xe e k
section
variable{X:Cx}{CX:CXT}{k:Nat}{f C:Addr}{fd:FuncData}{ps:List Str}{sp:Sp}{dvs:List V}{ds:List Value}{E:XK}{x m:Str}{p pos apos:Pos}{e o:Expr}{es:List Expr}{ta:TE}{t:TA}
theorem xQ{σ:St}{H:Hp}{s:Shared}{Q:VK}{vs:List V}(F:FnOk X.prog X.w X.K X.mg X.base CX k f fd ps sp)(O:Room k X.A)(L:fe X.K fd ps ds)(hd:Vals dvs ds)(J:mK CX X E)(I:Inv X Y σ H s)(r:Vals vs us)(h:sp (vs++dvs) H Q E):wpAny (model X.prog X.w) X.A (call (.ref f) us) (EP X Y σ Q) X.xe s:=by
 let D:Vals (vs++dvs) (us++ds):=r.append hd;let G:(us++ds).length=ps.length:=by rw[← D.length];exact F.len _ _ _ _ h
 refine wpAny_call (M9 (F.run X.A X.stack s H ⟨us,[]⟩ (us++ds) (vs++dvs) Q E O I.env0 (L s us I.kIn G) D h) λr m C=>?_)
 cases r with
 |error e=>exact J Y σ H s e m I C
 |ok B =>
  cases B with
  |ret u=>exact I.after C
  |next=>exact False.elim C
  |brk=>exact False.elim C
  |cont=>exact False.elim C
theorem Gk(F:FnOk X.prog X.w X.K X.mg X.base CX k f fd ps sp)(O:Room k X.A)(j:Gl X x)(y:X.mg x=some (.ref f))(l:IY X.K (.ref f)=true)(L:fe X.K fd ps ds)(hd:Vals dvs ds)(J:mK CX X E)(T:PA X (e::es) t)(b:(x == ("__debug__" : Str))=false:=by decide)(D:MF (e::es) X.env=(false,eval e X.env)::MF es X.env:=by rfl)(a:(backTo pos (MF es X.env)).any (·.1)=false:=by rfl):
  PE X (.Call (.Name x p) (e::es) [] pos) (CV sp dvs E t):=by
 intro B s M H Q I h;refine Na (qN I j y ?_ b);refine LH (h₀:=X.base) I.ok.mod.kin l (thn (T pos B s M H _ I h) λi d ⟨g,m,N,r,q⟩=>⟨N.kIn,?_⟩) D a;exact xQ F O L hd J N r q
theorem Dr(F:FnOk X.prog X.w X.K X.mg X.base CX k f fd ps sp)(O:Room k X.A)(j:Gl X x)(y:X.mg x=some (.ref f))(l:IY X.K (.ref f)=true)(L:fe X.K fd ps ds)(hd:Vals dvs ds)(J:mK CX X E)(b:(x == ("__debug__" : Str))=false:=by decide):PE X (.Call (.Name x p) [] [] pos) (CV sp dvs E tNil):=by
 intro B s M H Q I h;refine Na (qN I j y ?_ b);exact PySem.W.callWith_K0 I.kIn l (xQ (us:=[]) F O L hd J I .nil h)
theorem AQ(D:PE X o ta)(c:Cls X.K C)(j:Meth X.K C m f)(F:FnOk X.prog X.w X.K X.mg X.base CX k f fd ps sp)(O:Room k X.A)(L:fe X.K fd ps ds)(hd:Vals dvs ds)(J:mK CX X E)(T:PA X (e::es) t)(ab:MF (e::es) X.env=(false,eval e X.env)::MF es X.env:=by rfl)(aa:(backTo pos (MF es X.env)).any (·.1)=false:=by rfl)(i:eval (.Call (.Attribute o m apos) (e::es) [] pos) X.env=(do
   let ov ← eval o X.env
   standAt apos.atName
   let (f,first) ← holding [ov] (getMethod ov m pl)
   callWith pos f first (backTo pos (MF (e::es) X.env)) (backToKw pos (keywordEach [] X.env))):=by rfl):
  PE X (.Call (.Attribute o m apos) (e::es) [] pos) (tMeth C m sp dvs E ta t):=by
 intro B s M H Q I h;refine PySem.W.methodCall_KW (pl:=pl) (thn (D B s M H _ I h) λu d ⟨x,Y,N,g,a,n,fs,z,p,l,q⟩=>?_) i;subst z;obtain rfl:u=Value.ref a:=g;refine pC N p c j l ?_;refine LH (first:=[.ref a]) (h₀:=X.base) I.ok.mod.kin j.kp (thn (T pos B d M Y _ N q) λus y ⟨vs,b,v,r,G⟩=>⟨v.kIn,?_⟩) ab aa;exact xQ (us:=.ref a::us) (vs:=.ref a::vs) F O L hd J v (.cons rfl r) G
theorem m8(D:PE X o ta)(c:Cls X.K C)(y:Meth X.K C m f)(F:FnOk X.prog X.w X.K X.mg X.base CX k f fd ps sp)(O:Room k X.A)(L:fe X.K fd ps ds)(hd:Vals dvs ds)(J:mK CX X E)(i:eval (.Call (.Attribute o m apos) [] [] pos) X.env=(do
   let ov ← eval o X.env
   standAt apos.atName
   let (f,first) ← holding [ov] (getMethod ov m pl)
   callWith pos f first (backTo pos (MF [] X.env)) (backToKw pos (keywordEach [] X.env))):=by rfl):
  PE X (.Call (.Attribute o m apos) [] [] pos) (tMeth C m sp dvs E ta tNil):=by
 intro B s M H Q I h;refine PySem.W.methodCall_KW (pl:=pl) (thn (D B s M H _ I h) λu d ⟨x,Y,N,g,a,n,fs,G,r,l,q⟩=>?_) i;subst G;obtain rfl:u=Value.ref a:=g;refine pC N r c y l ?_;exact PySem.W.callWith_K0 (first:=[.ref a]) N.kIn y.kp (xQ (us:=[.ref a]) (vs:=[.ref a]) F O L hd J N (.cons rfl .nil) q)
structure Mk(K:HE)(C f:Addr):Prop where
 makes:KN K C=true
 init:Iv K (.ref C) "__init__"=some (some (.ref f))
 fn:Kt K (.ref f)=true
 kp:IY K (.ref C)=true
theorem Dg{σ:St}{H:Hp}{s:Shared}{Q:VK}{vs:List V}(M:Mk X.K C f)(F:FnOk X.prog X.w X.K X.mg X.base CX k f fd ps sp)(O:Room (k+1) X.A)(L:fe X.K fd ps ds)(hd:Vals dvs ds)(J:mK CX X E)(I:Inv X Y σ H s)(r:Vals vs us)(h:∀ x l,H x=none->H l=none->l≠x->sp (.ref x::(vs++dvs)) (upd (upd H l (.own x)) x (.ins C l [])) (λv H2=>v=.non/\Q (.ref x) H2) E):
  wpAny (model X.prog X.w) X.A (call (.ref C) us) (EP X Y σ Q) X.xe s:=by
 let d:=h (s.heap.objs.size+1) s.heap.objs.size (I.hok.fresh (Kh _)) (I.hok.fresh (HF _)) (Ig (JP _));let z:=Inv.made (C:=C) I;let D:Vals (V.ref (s.heap.objs.size+1)::(vs++dvs)) (Value.ref (s.heap.objs.size+1)::(us++ds)):=.cons rfl (r.append hd);let G:(Value.ref (s.heap.objs.size+1)::us++ds).length=ps.length:=by
  let e:=D.length;rw[F.len _ _ _ _ d]at e;exact e.symm
 refine wpAny_call (DX (f:=f) I.kIn M.makes M.init (beq_iff_eq.mp M.fn) (M9 (F.run _ X.stack _ _ ⟨Value.ref (s.heap.objs.size+1)::us,[]⟩ (Value.ref (s.heap.objs.size+1)::(us++ds)) _ _ E (O.make C us [])
  (z.env0.make C us []) (L _ (Value.ref (s.heap.objs.size+1)::us) z.kIn G) D d) λr m n=>?_))
 cases r with
 |error e=>exact J Y σ _ _ e m z n
 |ok B =>
  cases B with
  |ret u =>
   let v a b rv N q:=z.after n;subst N;erw[rv,⟨V.ref (s.heap.objs.size+1),a,b,rfl,q⟩]
  |next=>exact False.elim n
  |brk=>exact False.elim n
  |cont=>exact False.elim n
theorem vi(M:Mk X.K C f)(F:FnOk X.prog X.w X.K X.mg X.base CX k f fd ps sp)(O:Room (k+1) X.A)(j:Gl X x)(y:X.mg x=some (.ref C))(L:fe X.K fd ps ds)(hd:Vals dvs ds)(J:mK CX X E)(T:PA X (e::es) t)(b:(x == ("__debug__" : Str))=false:=by decide)(D:MF (e::es) X.env=(false,eval e X.env)::MF es X.env:=by rfl)(a:(backTo pos (MF es X.env)).any (·.1)=false:=by rfl):
  PE X (.Call (.Name x p) (e::es) [] pos) (tMake C sp dvs E t):=by
 intro B s d H Q I h;refine Na (qN I j y ?_ b);refine LH (h₀:=X.base) I.ok.mod.kin M.kp (thn (T pos B s d H _ I h) λi G ⟨g,m,N,r,q⟩=>⟨N.kIn,?_⟩) D a;exact Dg M F O L hd J N r q
end
section
variable{X:Cx}{CX:CXT}{k:Nat}{f C:Addr}{fd:FuncData}{ps ks:List Str}{sp:Sp}{E:XK}{x m:Str}{p pos apos kpos:Pos}{e o:Expr}{es:List Expr}{kws:List Keyword}{te ta:TE}{t tk:TA}{nm:Option Str}
variable{g:List Value->List Value->List Value}{gV:List V->List V->List V}
end
structure ay(N P:List Str)(sc:Scope):Prop where
 kind:sc.kind=.function
 co:sc.isCoroutine=false
 gen:sc.isGenerator=false
 nd:N.Nodup
 pre:N.take P.length=P
 par:∀ x∈P,sc.names.lookup x=some .local∨sc.names.lookup x=some .cell
 nofree:∀ y∈sc.names,y.2≠.free
theorem uw{Nb:Str->Option NameKind}{x:Str}:∀{binds:List (Str×Value)}{m:Str->Option Value},(∀ v,(x,v)∉binds)->bindL Nb binds m x=m x
 |[],_,_=>rfl
 | (n,v)::r,m,h=>by
  unfold bindL;rw[uw λw p=>h w (HK _ p)];split
  .let:x≠n:=by rintro rfl;exact h v HL
   simp[this]
  .rfl
theorem uy{Nb:Str->Option NameKind}{x:Str}:∀{binds:List (Str×Value)}{m:Str->Option Value},(∀ v,(x,v)∉binds)->bindC Nb binds m x=m x
 |[],_,_=>rfl
 | (n,v)::r,m,h=>by
  unfold bindC;rw[uy λw p=>h w (HK _ p)];split
  .rfl
  .let:x≠n:=by rintro rfl;exact h v HL
   simp[this]
theorem ux{Nb:Str->Option NameKind}{x:Str}{v:Value}:∀{P:List Str}{vs:List Value}{i:Nat}{m:Str->Option Value},P.Nodup->P[i]?=some x->vs[i]?=some v->Nb x=some .local ->
  bindL Nb (P.zip vs) m x=some v
 |[],_,_,_,_,h,_,_=>by contradiction
 |_::_,[],_,_,_,_,h,_=>by contradiction
 |p::P,w::vs,0,m,G,Y,B,f=>by
  simp at Y B;subst Y;subst B;show bindL Nb ((p,w)::P.zip vs) m p=_;unfold bindL;rw[uw λv A=>(HS.mp G).1 (Lp A).1,NX f];simp
 |p::P,w::vs,i+1,m,G,Y,B,f=>by
  show bindL Nb ((p,w)::P.zip vs) m x=_;unfold bindL;exact ux (i:=i) (HS.mp G).2 (by simpa using Y) (by simpa using B) f
theorem uz{Nb:Str->Option NameKind}{x:Str}{v:Value}:∀{P:List Str}{vs:List Value}{i:Nat}{m:Str->Option Value},P.Nodup->P[i]?=some x->vs[i]?=some v->Nb x≠some .local ->
  bindC Nb (P.zip vs) m x=some v
 |[],_,_,_,_,h,_,_=>by contradiction
 |_::_,[],_,_,_,_,h,_=>by contradiction
 |p::P,w::vs,0,m,G,Y,B,f=>by
  simp at Y B;subst Y;subst B;show bindC Nb ((p,w)::P.zip vs) m p=_;unfold bindC;rw[uy λv A=>(HS.mp G).1 (Lp A).1,NY f];simp
 |p::P,w::vs,i+1,m,G,Y,B,f=>by
  show bindC Nb ((p,w)::P.zip vs) m x=_;unfold bindC;exact uz (i:=i) (HS.mp G).2 (by simpa using Y) (by simpa using B) f
def pQ(N:List Str)(vs:List V):St:=vs.map some++HR (N.length-vs.length) none
def cxOf(CX:CXT)(P:Program)(w:World)(K:HE)(mg:Str->Option Value)(base:Heap)(N:List Str)(j:Str)(scope:Scope)(f:Addr)(t:Value)(A:Around)(outer:List Env)(s:Shared)(H:Hp)(E:XK):Cx where
 prog:=P
 w:=w
 K:=K
 mg:=mg
 base:=base
 A:=A.deeper (envOfC j scope s.heap.objs.size f t)
 N:=N
 s₀:=s
 H₀:=H
 env:=envOfC j scope s.heap.objs.size f t
 outer:=outer
 stack:=envOfC j scope s.heap.objs.size f t::outer
 ex:=[]
 calm:=true
 fn:=λ_=>true
 pn:=[]
 xe:=λe k=>wpAny (model P w) (A.deeper (envOfC j scope s.heap.objs.size f t)) (leaving (envOfC j scope s.heap.objs.size f t) e) (λ_ a=>CX outer H s E e a) (λT a=>CX outer H s E T a) k
theorem yt{a:Scope}(h:a.names.lookup x=some .cell):∃ c,(cellsFrom n a.names []).lookup x=some c:=by
 let q:=PySem.W.cellsFrom_some a.names n [] (.inl h);exact Mm.mp q
theorem Bw{CX:CXT}{N ps:List Str}{j:Str}{t:Value}{outer:List Env}{s s1:Shared}{H:Hp}{E:XK}{vs:List V}(S:ay N ps scope)(hd:A.handled=none)(e0:Env0 P w K mg base A outer s H)(hl:vs.length=ps.length)(r:Vals vs us)(x:InCallC s s.heap.objs.size (bindL (envOfC j scope s.heap.objs.size f t).kindOf (ps.zip us) λ_=>none) (cellsFrom (s.heap.objs.size+1) scope.names []) (bindC (envOfC j scope s.heap.objs.size f t).kindOf (ps.zip us) λ_=>none) s1):
  Inv (cxOf CX P w K mg base N j scope f t A outer s H E) [] (pQ N vs) H s1:=by
 let g:ps.length<=N.length:=by let:=congrArg List.length S.pre;rw[IC]at this;omega
 let Y m rfl l:=x.done;let o:∀ b:Addr,b∉(cxOf CX P w K mg base N j scope f t A outer s H E).ex:=λb z=>NZ (show b∈([]:List Addr) from z) (by simp)
 erw[⟨e0.mod,S.kind,rfl,rfl,HF _,λy z c Y B=>?_,λy Q=>?_,λy c _ h=>?_,λ_=>hd,Around.frames_deeper e0.frames,.inr ⟨rfl,rfl⟩,λb z=>NZ z (o b),e0.bs,e0.bsz,λb _ _=>o b,λb z=>NZ z (o b),e0.funs,e0.frf⟩,
  rfl,e0.bare,Un.kept l,⟨_,x.toInCall.ns,λi y v Y B J=>?_⟩,λy c h=>⟨_,x.cell y c h⟩,e0.hok.fresh (HF _),λy c h=>?_,λp M=>NZ (show p∈([]:List (Addr×Obj)) from M) (by simp),e0.hok.kept l,?_]
 .exact name_of_addr x.apart (JL Y) (JL B)
 .let Q:scope.names.lookup y=some .cell∨scope.names.lookup y=some .free:=Q
  obtain Q|Q:=Q
  .exact yt Q
  .exact NZ rfl (S.nofree _ (JL Q))
 .exact Ia (x.above y c (JL h))
 .let I:i<vs.length:=by
   unfold pQ at B;by_cases I:i<vs.length
   .exact I
   .rw[HG (by simpa using I)]at B
    rw[Jo]at B;simp_all
  let T:vs[i]?=some v:=by
   unfold pQ at B;rw[HH (by simpa using I),HN]at B
   cases e:vs[i]? with
   |none=>simp_all
   |some a=>rw[e]at B;simp_all
  let u d rv:=r.get T;let M:ps[i]?=some y:=by
   rw[← S.pre,List.getElem?_take_of_lt ∅];exact Y
  let C:ps.Nodup:=by rw[← S.pre];exact S.nd.sublist (List.take_sublist _ _)
  erw[u,rv,?_];rcases S.par y (HC M)with k|k
  .exact .inl ⟨k,ux C M d k⟩
  .let c e:=yt (n:=s.heap.objs.size+1) k;refine .inr ⟨.inl k,c,e,?_⟩;let q:=x.cell y c e;rw[uz C M d (by show scope.names.lookup y≠_;rw[k];decide)]at q
   exact q
 .exact e0.hok.fresh (Ia (x.above y c (JL h)))
 .unfold pQ;show _=N.length;simp[*]
theorem fn_of{CX:CXT}{k:Nat}{name j:Str}{al:Arguments}{T:List Stmt}{dV kV M p Y ct oc:Value}{an B:Option Addr}{ac:Array (Option Value)}{N ps:List Str}{sp:Sp}(h:K.lookup f=some ⟨oc,B,.func (Ju name j al T scope dV kV M p an Y ct),ac⟩)(g:JJ K Y j=true)(S:ay N ps scope)(len:∀ vs H Q E,sp vs H Q E->vs.length=ps.length)(aa:∀(A:Around)(outer:List Env)(s:Shared)(H:Hp)(vs:List V)(Q:VK)(E:XK),Room k (A.deeper (envOfC j scope s.heap.objs.size f Y))->sp vs H Q E ->
   ∃ t,PSs (cxOf CX P w K mg base N j scope f Y A outer s H E) T t/\t {nx:=λ_ H'=>Q .non H',rt:=Q} (pQ N vs) H):
  FnOk P w K mg base CX (k+1) f (Ju name j al T scope dV kV M p an Y ct) ps sp:=by
 erw[len,λA outer s H ap l vs Q E O a L r ab=>?_];let G:=len _ _ _ _ ab;let KX:K.In s.heap:=a.mod.kin.keeps λb o e=>(a.bs b o e).1;let am:s.heap.NoLimit:=a.mod.nolimit.keeps λb o e=>(a.bs b o e).1;let aI:∀ y∈ps.zip l,scope.names.lookup y.1=some .local∨(scope.names.lookup y.1=some .cell/\((cellsFrom (s.heap.objs.size+1) scope.names []).lookup y.1).isSome=true):=λ⟨n,v⟩ c=>by
  obtain q|q:=S.par n (Lp c).1
  .exact .inl q
  .exact .inr ⟨q,PySem.W.cellsFrom_some _ _ _ (.inl q)⟩
 refine codeAny_call_function O.depth (KX _ _ h) rfl S.co S.gen rfl (PySem.W.codeRec_of KX g) (L _ _ _ _ ?_);refine wpAny_newFunctionEnv_cells S.kind aI λaS D s1 x=>?_;subst D;erw[am.keeps x.toInCall.keep,codeAny_func ?_];let t i C:=aa A outer s H vs Q E (O.deeper _) ab;let I:Inv (cxOf CX P w K mg base N j scope f Y A outer s H E) [] (pQ N vs) H s1:=Bw S O.hd a G r x;refine MG (i [] s1 (pQ N vs) H _ I C) (λfl m d=>?_) λe m d=>d;let fin:∀{z:St}{H':Hp}{v:V}{u:Value},Inv (cxOf CX P w K mg base N j scope f Y A outer s H E) [] z H' m->RelV v u->Q v H'->CE outer P w H s Q u m :=
  λ{z H' v u} J rv q=>⟨v,H',J.os,J.bare,J.base,J.hok,rv,q⟩
 cases fl with
 |ret u =>
  let v z H' J rv q:=d;exact fin J rv q
 |next =>
  let z H' J q:=d;exact fin (v:=V.non) (u:=Value.none) J rfl q
 |brk =>
  let _ _ _ q:=d;exact False.elim q
 |cont =>
  let _ _ _ q:=d;exact False.elim q
section
variable{X:Cx}{x:Str}{p pos:Pos}{e:Expr}{es:List Expr}{t:TA}{id T:String}{r:List V->Hp->VK->Prop}
def tCB(r:List V->Hp->VK->Prop)(t:TA):TE:=λM H Q=>t M H λg m=>r g m Q
theorem az(g:jB X (.builtin id) r)(A:Gl X x)(y:X.mg x=none)(hv:MC x=some (.builtin id))(E:PA X (e::es) t)(N:x≠"__name__":=by decide)(b:(x == ("__debug__" : Str))=false:=by decide)(D:MF (e::es) X.env=(false,eval e X.env)::MF es X.env:=by rfl)(a:(backTo pos (MF es X.env)).any (·.1)=false:=by rfl):PE X (.Call (.Name x p) (e::es) [] pos) (tCB r t):=by
 intro B s M H Q I h;refine Na (kQ I A y hv ?_ N b);exact PyProof.Rows.callWith_builtin1 (thn (E pos B s M H _ I h) λi J ⟨O,m,j,o,k⟩=>g B J M m O i Q j o k) D a
theorem cS(g:jB X (.type T) r)(A:Gl X x)(y:X.mg x=none)(hv:MC x=some (.type T))(E:PA X (e::es) t)(N:x≠"__name__":=by decide)(b:(x == ("__debug__" : Str))=false:=by decide)(D:MF (e::es) X.env=(false,eval e X.env)::MF es X.env:=by rfl)(a:(backTo pos (MF es X.env)).any (·.1)=false:=by rfl):PE X (.Call (.Name x p) (e::es) [] pos) (tCB r t):=by
 intro B s M H Q I h;refine Na (kQ I A y hv ?_ N b);exact MU (thn (E pos B s M H _ I h) λi J ⟨O,m,j,o,k⟩=>g B J M m O i Q j o k) D a
end
end L2
variable{X:L2.Cx}{H H' H1 H2:L2.Hp}{sp:L2.Sp}{σ:L2.St}{tt:L2.TT}{v y z:L2.V}{kvs:List (L2.Key×L2.V)}{xs ys zs:List L2.V}{QQ:List L2.V->L2.Hp->Prop}
namespace HT
open PySem PyProof.Rows
section
open PySem.SeqAt
open PySem.AutoSeq1 (wpAny_loadPart')
open PySem.MeetsSeq PySem.MeetsSeq2 PySem.MeetsSeq3
end
section
variable{prog:Program}{w:World}{A:Around}{E:Value->Shared->Prop}{s:Shared}
def sIx(n d:Nat):Option Int->Nat
 |none=>d
 |some v=>if v<0 then(v+(n:Int)).toNat else min v.toNat n
theorem sIx_none(n d:Nat):sIx n d none=d:=rfl
theorem sIx_nat(n d k:Nat):sIx n d (some (k:Int))=min k n:=by
 rfl
end
end HT
namespace L2
open PySem PySem.Spec PyProof.Rows
abbrev TO:=St->Hp->(Option Int->Hp->Prop)->Prop
def PO(X:Cx)(e:Option Expr)(t:TO):Prop :=
 ∀(B:List (Addr×Obj))(s:Shared)(M:St)(H:Hp)(Q:Option Int->Hp->Prop),Inv X B M H s->t M H Q ->
  wpAny (model X.prog X.w) X.A (evalPart e X.env) (λu k=>∃ o G,Inv X B M G k/\IsPart u o/\Q o G) X.xe s
def FW:TO:=λ_ H Q=>Q none H
def tPart(t:TE):TO:=λM H Q=>t M H λx m=>∃ i,x=.int i/\Q (some i) m
section
variable{X:Cx}{e:Expr}{te:TE}{lo hi:Option Expr}{tl th:TO}{pos p2:Pos}
theorem iz:PO X none FW:=by
 intro B s M H Q I h;rw[evalPart_none];exact MQ ⟨none,H,I,.none,h⟩
theorem d7(h:PE X e te):PO X (some e) (tPart te):=by
 intro B s M H Q I p;rw[evalPart_some];refine thn (h B s M H _ I p) λu J c=>?_;let x m N o k:=c;let i rfl q:=k;let t rfl:=o;erw[some i,m,N,.int i t,q]
def SlR(X:Cx)(r:V->Option Int->Option Int->Hp->VK->Prop):Prop :=
 ∀(B:List (Addr×Obj))(s:Shared)(M:St)(H:Hp)(x:V)(v p E:Value)(lo hi:Option Int)(J:Addr)(Q:VK),Inv X B M H s->RelV x v->s.heap.IsSliceOf J p E .none->IsPart p lo->IsPart E hi->r x lo hi H Q ->
  ∃ T id,typeLookup (.type T) "__getitem__"=pure (some (.builtin id))/\s.TypeIs v T/\wpAny (model X.prog X.w) X.A (getItem v (.ref J)) (EP X B M Q) X.xe s
def tSl(r:V->Option Int->Option Int->Hp->VK->Prop)(te:TE)(tl th:TO):TE:=λM H Q=>te M H λx m=>tl M m λl L=>th M L λu C=>r x l u C Q
theorem dA{r:V->Option Int->Option Int->Hp->VK->Prop}(O:SlR X r)(D:PE X e te)(hl:PO X lo tl)(f:PO X hi th):PE X (.Subscript e (.Slice lo hi none p2) pos) (tSl r te tl th):=by
 intro B s M H Q I h;refine Subscript_ (thn (D B s M H _ I h) λv J ⟨x,m,N,o,k⟩=>?_);refine wpAny_Slice (thn (hl B J M m _ N k) λc t ⟨l,L,z,y,n⟩=>thn (f B t M L _ z n) λE p ⟨u,C,a,pu,Y⟩=>?_);rw[evalPart_none];refine MQ ?_;let g:Inv X B M C {p with heap:=p.heap.push {cls:=.type "slice",data:=.fields #[c,E,.none]}}:=a.kept (t':=p.toks) λb G q=>MR _ q;let T id d i j:=O B {p with heap:=p.heap.push {cls:=.type "slice",data:=.fields #[c,E,.none]}} M C x v c E l u p.heap.objs.size Q g o (Heap.IsSliceOf.new ..) y pu Y;show wpAny (model X.prog X.w) X.A (subscriptTail e (.Slice lo hi none p2) v (.ref p.heap.objs.size)) (EP X B M Q) X.xe {p with heap:=p.heap.push {cls:=.type "slice",data:=.fields #[c,E,.none]}};exact tail_any (ops:=[.ref p.heap.objs.size,v]) i d j (by with_unfolding_all rfl)
def cutV(xs:List V)(lo hi:Option Int):List V:=(xs.drop (HT.sIx xs.length 0 lo)).take (HT.sIx xs.length xs.length hi-HT.sIx xs.length 0 lo)
theorem wW(xs:List V)(lo hi:Option Int):(cutV xs lo hi).length<=xs.length:=by
 unfold cutV;rw[IC,Kc];omega
end
def ixN(n:Nat)(i:Int):Option Nat:=if 0<=i then(if i<n then some i.toNat else none) else if -(n:Int)<=i then some (i+n).toNat else none
def atI{α:Type}(xs:List α)(i:Int):Option α:=(ixN xs.length i).bind λj=>xs[j]?
theorem Bs{i:Int}(h:ixN n i=some j):seqIndex? i n=some j/\j<n/\-(n:Int)<=i/\i<n:=by
 unfold ixN at h;by_cases o:0<=i
 .rw[NX o]at h;by_cases Y:i<n
  .rw[NX Y]at h;let e:i.toNat=j:=Iw h;erw[by rw[seqIndex_of o Y,e],∅,∅,Y]
  .simp_all
 .rw[NY o]at h;by_cases Y : -(n:Int)<=i
  .rw[NX Y]at h;let e:(i+n).toNat=j:=Iw h;erw[by rw[seqIndex_neg ∅ Y,e],∅,Y,∅]
  .simp_all
theorem CA{xs:List α}{i:Int}{v:α}(h:atI xs i=some v):∃ j,seqIndex? i xs.length=some j/\xs[j]?=some v/\j<xs.length/\-(xs.length:Int)<=i/\i<xs.length:=by
 unfold atI at h
 cases e:ixN xs.length i with
 |none=>rw[e]at h;cases h
 |some j =>
  rw[e]at h;let Y B J u:=Bs e;erw[j,Y,h,B,J,u]
theorem ax{xs:List α}{v:α}(h:xs[j]?=some v):atI xs (j:Int)=some v:=by
 let O:j<xs.length:=(HB.mp h).1;let e:ixN xs.length (j:Int)=some j:=by
  unfold ixN;rw[NX ∅,NX ∅];simp
 unfold atI;rw[e];exact h
def oO(b:Expr):Prop:=∀ o i,subscripted b false o i=operate [o,i] (getItem o i)
def IxR(X:Cx)(r:R2):Prop :=
 ∀(l b:Expr)(B:List (Addr×Obj))(s:Shared)(M:St)(H:Hp)(x y:V)(v u:Value)(Q:VK),Inv X B M H s->RelV x v->RelV y u->r x y H Q ->
  subscripted b false v u=operate [v,u] (getItem v u)->wpAny (model X.prog X.w) X.A (subscriptTail l b v u) (EP X B M Q) X.xe s
def MtR(X:Cx)(id:String)(r:V->List V->Hp->VK->Prop):Prop :=
 ∀(B:List (Addr×Obj))(s:Shared)(M:St)(H:Hp)(x:V)(j:List V)(v:Value)(i:List Value)(Q:VK),Inv X B M H s->RelV x v->Vals j i->r x j H Q ->
  wpAny (model X.prog X.w) X.A (call (.builtin id) (v::i)) (EP X B M Q) X.xe s
section
variable{X:Cx}{a b:Expr}{ta tb:TE}{pos:Pos}
theorem Dm{r:R2}(O:IxR X r)(E:PE X a ta)(L:PE X b tb)(hs:oO b):PE X (.Subscript a b pos) (tOp r ta tb):=by
 intro B s M H Q I h;exact Subscript_ (binT E L I h λv u t x y l z c T q=>O a b B t M l x y v u Q z c T q (hs _ _))
inductive rIxL(K:HE)(x:L2.V)(y:L2.V)(H:L2.Hp)(Q:L2.VK):Prop
 |mk (p xs i v:_) (h0_:x=.ref p)(h1_:y=.int i)(h2_:SqL K H p xs)(h3_:atI xs i=some v)(h4_:Q v H)
inductive rIxT(K:HE)(x:L2.V)(y:L2.V)(H:L2.Hp)(Q:L2.VK):Prop
 |mk (p xs i v:_) (h0_:x=.ref p)(h1_:y=.int i)(h2_:SqT K H p xs)(h3_:atI xs i=some v)(h4_:Q v H)
theorem Br:IxR X (rIxL X.K):=by
 intro l b B s M H x y v u Q I c T h d;let p m i z rfl rfl C D q:=h
 cases c
 let t rfl:=T;let E r f L:=I.list C;let j Y G J a e:=CA D;let w n A:=r.get G;let g:=r.length;let N:=pq;let fin:EP X B M Q w s:=⟨z,H,I,A,q⟩;by_cases o:0<=i
 .let O:i.toNat=j:=by
   rw[seqIndex_of o e]at Y;exact Iw Y
  exact item_listR f.isList o ∅ (by simp[*]) fin d
 .let O:(i+(E.toArray.size:Int)).toNat=j:=by
   rw[seqIndex_neg ∅ a]at Y
   rw[IE,← g];exact Iw Y
  exact subscriptTail_builtinR (x:=w) f.isList.typeIs slot_list_getitem.lookup
   (wpAny_getItem_list_neg (Q:=λr k=>r=w/\EP X B M Q r k) f.isList ∅ (by simp_all) ∅ (by rw[O];simpa using n) ⟨rfl,fin⟩) d
theorem Fj:IxR X (rIxT X.K):=by
 intro l b B s M H x y v u Q I c T h d;let p m i z rfl rfl C D q:=h
 cases c
 let t rfl:=T;let E r f L:=I.tuple C;let j Y G J a O:=CA D;let w n A:=r.get G;let g:=r.length;let N:=pq;let fin:EP X B M Q w s:=⟨z,H,I,A,q⟩;exact subscriptTail_builtinR (x:=w) f.typeIs slot_tuple_getitem.lookup
  (getItem_tuple (j:=j) (Q:=λr k=>r=w/\EP X B M Q r k) f ∅ ∅ (by simp_all) (by simpa using n) ⟨rfl,fin⟩) d
theorem yN(its:List Value)(n j:Nat)(u:Value):Nc (·.setIfInBounds j u) {cls:=.type "list",data:=.seq its.toArray n}={cls:=.type "list",data:=.seq (its.set j u).toArray n}:=by
 simp[Nc]
theorem Inv.lst{B:List (Addr×Obj)}{σ:St}{H:Hp}{s:Shared}{p:Addr}{xs:List V}(I:Inv X B σ H s)(h:H p=some (.lst xs)):
  ∃(its:List Value)(n:Nat),Vals xs its/\s.heap.get? p=some {cls:=.type "list",data:=.seq its.toArray n}/\xs.length<=Mz:=by
 let z its n r e:=I.hok p _ h;erw[its,n,r,e,z]
theorem Inv.lstUpd{s:Shared}{its':List Value}{f:Obj->Obj}(I:Inv X Y σ H s)(h:H p=some (.lst xs))(O:s.heap.get? p=some {cls:=.type "list",data:=.seq its.toArray n})(T:f {cls:=.type "list",data:=.seq its.toArray n}={cls:=.type "list",data:=.seq its'.toArray N})(r:Vals ys its')(hz:ys.length<=Mz)(t:Nat):
  Inv X Y σ (upd H p (.lst ys)) {s with heap:=s.heap.update p f,toks:=t}:=by
 let e:(s.heap.update p f).get? p=some {cls:=.type "list",data:=.seq its'.toArray N}:=by
  rw[Nd f O (by rw[T]<;>rfl),T]
 refine I.write (x:=p) (e:=p) (by rw[h];trivial) (.inl rfl) (λb u L q=>(Nf _ _ (Ne.symm L)).trans q) ⟨_,e⟩ ?_
 erw[hz,its',N,r,e]
inductive rSetL(o:L2.V)(i:L2.V)(v:L2.V)(H:L2.Hp)(Q:(Hp->Prop)):Prop
 |mk (p xs k j:_) (h0_:o=.ref p)(h1_:i=.int k)(h2_:H p=some (.lst xs))(h3_:ixN xs.length k=some j)(h4_:Q (upd H p (.lst (xs.set j v))))
theorem fj:PSet X rSetL:=by
 intro B s M H o i v d e u Q I b w rv h;let p m k j rfl rfl y O q:=h
 cases b
 let t rfl:=w;let E n r c L:=I.lst y;let Y G J a:=Bs O;let g:=r.length;let N:=pq;let l:Inv X B M (upd H p (.lst (m.set j v))) {s with heap:=s.heap.update p (Nc (·.setIfInBounds j u))} :=
  I.lstUpd y c (yN E n j u) (r.set rv j) (by rw[IV];exact L) s.toks
 by_cases A:0<=k
 .let f:k.toNat=j:=by
   rw[seqIndex_of A a]at Y;exact Iw Y
  exact PySem.W.ki_setAt c A ∅ (by simp_all) (by rw[f];erw[_,l,q])
 .let f:(k+(E.toArray.size:Int)).toNat=j:=by
   rw[seqIndex_neg ∅ J]at Y
   rw[IE,← g];exact Iw Y
  exact PySem.W.ki_setBack c ∅ (by simp_all) ∅ (by rw[f];erw[_,l,q])
theorem r9(lo hi:Option Int)(n:Nat):(sliceBounds lo hi none n).1=((HT.sIx n 0 lo:Nat):Int)/\(sliceBounds lo hi none n).2.1=((HT.sIx n n hi:Nat):Int)/\(sliceBounds lo hi none n).2.2=1:=by
 erw[?_,?_,rfl]
 .cases lo with
  |none=>simp[sliceBounds,HT.sIx]
  |some i =>
   simp only[sliceBounds,HT.sIx,Option.getD_none,show(1:Int) > 0 by decide,if_true]
   by_cases h:i<0
   .simp only[h,if_true]<;>omega
   .grind
 .cases hi with
  |none=>simp[sliceBounds,HT.sIx]
  |some i =>
   simp only[sliceBounds,HT.sIx,Option.getD_none,show(1:Int) > 0 by decide,if_true]
   by_cases h:i<0
   .simp only[h,if_true]<;>omega
   .simp only[h,if_false]<;>omega
theorem pW(its:List Value)(lo hi:Option Int):slicePick its.toArray lo hi none=((its.drop (HT.sIx its.length 0 lo)).take (HT.sIx its.length its.length hi-HT.sIx its.length 0 lo)).toArray:=by
 let Y B J:=r9 lo hi its.toArray.size;unfold slicePick;rw[Y,B,J];simp only[sliceRange_one,pick_run,IE]<;>rfl
inductive rSlL(K:HE)(x:L2.V)(lo:Option Int)(hi:Option Int)(H:L2.Hp)(Q:L2.VK):Prop
 |mk (a xs:_) (h0_:x=.ref a)(h1_:SqL K H a xs)(h2_:∀ p,H p=none->Q (.ref p) (upd H p (.lst (cutV xs lo hi))))
theorem fJ:SlR X (rSlL X.K):=by
 intro B s M H x v p f lo N e Q I c d y g h;let a j rfl J q:=h
 cases c
 let E r i L:=I.list J;let D:=r.length;erw["list",_,slot_list_getitem.lookup,i.isList.typeIs,?_];refine wpAny_getItem_list_slice i.isList d y g .none (by simp) ?_ (by simp_all)
 rw[pW,← D];erw[.ref s.heap.objs.size,_,I.laid (t':=s.toks) (o:=.lst (cutV j lo N)) (λb G q=>MR _ q) (HF _) ?_,rfl,q _ (I.hok.fresh (HF _))];erw[IK (wW j lo N) L,_,0,(r.drop (HT.sIx j.length 0 lo)).take (HT.sIx j.length j.length N-HT.sIx j.length 0 lo),MT _ rfl]
theorem av:jB X (.builtin "len") (λxs H Q=>∃ p ys,xs=[.ref p]/\(SqL X.K H p ys∨SqT X.K H p ys)/\Q (.int ys.length) H):=by
 intro B s M H xs i Q I r h;let p ys rfl C q:=h;let u rfl c:=mN r
 cases c
 let N:=pq;obtain C|C:=C
 .let E m y L:=I.list C;let v:=m.length;exact Calls.call_len_list y.isList (by simp only[IE]<;>omega) ⟨.int ys.length,H,I.tok _,⟨s.toks+1,by rw[IE,v]⟩,q⟩
 .let E m y L:=I.tuple C;let v:=m.length;exact len_tuple y (by simp only[IE]<;>omega) ⟨.int ys.length,H,I.tok _,⟨s.toks+1,by rw[IE,v]⟩,q⟩
theorem cL:jB X (.type "list") (λxs H Q=>∃ p ys,xs=[.ref p]/\(SqL X.K H p ys∨SqT X.K H p ys)/\∀ l,H l=none->Q (.ref l) (upd H l (.lst ys))):=by
 intro B s M H xs i Q I r h;let p ys rfl C q:=h;let u rfl c:=mN r
 cases c
 let fin:∀(E:List Value),Vals ys E->ys.length<=Mz->∀(J:Heap)(D:Nat),(∀ b A,s.heap.get? b=some A->J.get? b=some A) ->
   J.get? s.heap.objs.size=some {cls:=.type "list",dict:=none,data:=.seq E.toArray D,slots:=#[]}->EP X B M Q (.ref s.heap.objs.size) {s with heap:=J}:=λE m L J D G e =>
  ⟨.ref s.heap.objs.size,_,I.laid (t':=s.toks) G (HF _) (show bu X.prog X.w _ J _ (.lst ys) from⟨L,E,D,m,e⟩),rfl,q _ (I.hok.fresh (HF _))⟩
 obtain C|C:=C
 .let E m y L:=I.list C;let v:=m.length;let o O g n hd:=y.isList;exact call_list_seq p (.inl rfl) O g hd (λJ D G e=>fin E m L J D G e) (by simp_all)
 .let E m y L:=I.tuple C;let v:=m.length;let o O g n hd:=y;exact call_list_seq p (.inr rfl) O g hd (λJ D G e=>fin E m L J D G e) (by simp_all)
def tyV(K:HE)(T:String)(x:V)(H:Hp):Prop:=match x with
 |.str _=>T = "str"
 |.int _=>T = "int"
 |.ref p=>(T = "list"/\∃ j,SqL K H p j)∨(T = "tuple"/\∃ o,K.lookup p=some o/\o.cls=.type "tuple"/\o.dict=none) ∨
   (T = "dict"/\((∃ L,H p=some (.dK L))∨∃ L,H p=some (.dT L)))∨(T = "set"/\∃ S n,H p=some (.set S n))
 |_=>False
theorem EO{s:Shared}{T:String}{x:V}{v:Value}(I:Inv X Y σ H s)(r:RelV x v)(ty:tyV X.K T x H):
  s.TypeIs v T/\∀ a,v=.ref a->∃ ob,s.heap.get? a=some ob/\ob.dict=none:=by
 cases x with
 |str z =>
  let t rfl:=r
  cases (show T = "str" from ty)
  erw[typeIs_str s z t,λ_ e=>nomatch e]
 |int i =>
  let t rfl:=r
  cases (show T = "int" from ty)
  erw[typeIs_int s i t,λ_ e=>nomatch e]
 |ref p =>
  cases r
  rcases ty with⟨rfl,j,C⟩|⟨rfl,o,f,g,hd⟩|⟨rfl,f⟩|⟨rfl,S,n,f⟩
  .let E _ y _:=I.list C;erw[y.isList.typeIs,λa e=>?_]
   cases e
   let o n e c hd _:=y;erw[o,e,hd]
  .erw[⟨o,I.kIn p o f,g⟩,λa e=>?_]
   cases e
   erw[o,I.kIn _ o f,hd]
  .let z:∃ o,s.heap.get? p=some o/\o.ExactDict:=by
    rcases f with⟨L,f⟩|⟨L,f⟩
    .let _ _ _ _ o _ _ e G _:=I.hok p _ f;erw[o,e,G]
    .let _ _ _ _ o _ _ e G _:=I.hok p _ f;erw[o,e,G]
   let o e G:=z;erw[⟨o,e,G.1⟩,λa D=>?_]
   cases D
   erw[o,e,G.2.1]
  .let o _ _ _ e G _:=I.hok p _ f;erw[⟨o,e,G.1⟩,λa D=>?_]
   cases D
   erw[o,e,G.2.1]
 |_=>exact False.elim ty
def tBM0(K:HE)(T:String)(r:V->List V->Hp->VK->Prop)(c:TE):TE:=λM H Q=>c M H λx m=>tyV K T x m/\r x [] m Q
def tBM(K:HE)(T:String)(r:V->List V->Hp->VK->Prop)(c:TE)(t:TA):TE:=λM H Q=>c M H λx m=>tyV K T x m/\t M m λj u=>r x j u Q
variable{o e:Expr}{es:List Expr}{to:TE}{t:TA}{name:Str}{apos cpos:Pos}{T id:String}{r:V->List V->Hp->VK->Prop}
theorem Fc(c:PlainAttrs T)(slot:Slot T name id)(f:typeOf (.builtin id)=pure (.type "method_descriptor"))(y:MtR X id r)(O:PE X o to)(b:attributeBase o name X.env (eval o X.env)=eval o X.env:=by rfl)(d:(apos.endLine == cpos.line)=true:=by rfl):PE X (.Call (.Attribute o name apos) [] [] cpos) (tBM0 X.K T r to):=by
 intro B s M H Q I h;refine wpAny_Call_method0_late b d (thn (O B s M H _ I h) λv J ⟨x,m,N,w,ty,k⟩=>?_);let Y G:=EO N w ty;erw[T,id,c,slot,f,Y,G,Ng rfl (PySem.evalArgs_none (y B J M m x [] v [] Q N w .nil k))]
theorem d9(c:PlainAttrs T)(slot:Slot T name id)(f:typeOf (.builtin id)=pure (.type "method_descriptor"))(j:MtR X id r)(O:PE X o to)(E:PA X (e::es) t)(b:attributeBase o name X.env (eval o X.env)=eval o X.env:=by rfl)(l:((backTo cpos (MF (e::es) X.env)).all (λx=>!x.1)&&(backToKw cpos (keywordEach [] X.env)).all (λx=>x.1.isSome)
   && decide ((e::es).length+([]:List Keyword).length+(if([]:List Keyword).isEmpty then 0 else 1)<30))=true:=by rfl)(d:(apos.endLine == cpos.line)=true:=by rfl)(hs:MF (e::es) X.env=(false,eval e X.env)::MF es X.env:=by rfl)(p:(backTo cpos (MF es X.env)).any (·.1)=false:=by rfl):
  PE X (.Call (.Attribute o name apos) (e::es) [] cpos) (tBM X.K T r to t):=by
 intro B s M H Q I h;refine wpAny_Call_method_late b l d rfl (thn (O B s M H _ I h) λv J ⟨x,m,N,w,ty,k⟩=>?_);let Y G:=EO N w ty;erw[T,id,c,slot,f,Y,G,?_];let a:=E cpos B J M m _ N k;rw[hs]at a ⊢;refine Ng (by assumption) (Calls.evalArgs_plain ?_)
 exact thn a λi y ⟨g,u,z,D,n⟩=>j B y M u x g v i Q z w D n
end
def MtM(X:Cx)(id:String)(r:V->List V->Hp->VK->Prop):Prop :=
 ∀(B:List (Addr×Obj))(s:Shared)(M:St)(H:Hp)(x:V)(j:List V)(v:Value)(i:List Value)(Q:VK),Inv X B M H s->RelV x v->Vals j i->r x j H Q ->
  wpAny (model X.prog X.w) X.A (call (.builtin id) (v::i)) (EP X B M Q) X.xe s
theorem Vals.one:∀{x:V}{us:List Value},Vals [x] us->∃ u,us=[u]/\RelV x u
 |_,_,.cons r .nil=>⟨_,rfl,r⟩
theorem Vals.unc{x:V}(h:Vals (x::xs) us):∃ u w,us=u::w/\RelV x u/\Vals xs w:=by
 cases h with
 |cons r t=>exact⟨_,_,rfl,r,t⟩
theorem Vals.two{x:V}(h:Vals [x,y] us):∃ u v,us=[u,v]/\RelV x u/\RelV y v:=by
 let u w rfl r c:=Vals.unc h;let v z rfl q d:=Vals.unc c;cases d;erw[_,_,rfl,r,q]
theorem Vals.zero:∀{us:List Value},Vals [] us->us=[]
 |_,.nil=>rfl
theorem Vals.dropLast(h:Vals xs us):Vals xs.dropLast us.dropLast:=by
 induction h with
 |nil=>exact .nil
 |cons r t Q =>
  cases t with
  |nil=>exact .nil
  |cons q G=>exact .cons r Q
theorem Vals.reverse(h:Vals xs us):Vals xs.reverse us.reverse:=by
 induction h with
 |nil=>exact .nil
 |cons r t Q=>rw[List.reverse_cons,List.reverse_cons];exact Vals.append Q (.cons r .nil)
section
variable{X:Cx}{pins:List (Addr×Obj)}{σ:St}{H:Hp}{s:Shared}{l b:Addr}{xs ys zs:List V}
theorem Inv.lset{its':List Value}{f:Array Value->Array Value}(I:Inv X pins σ H s)(m:H l=some (.lst xs))(e:s.heap.get? l=some {cls:=.type "list",data:=.seq its.toArray n})(r:f its.toArray=its'.toArray)(hv:Vals ys its')(hz:ys.length<=Mz):
  Inv X pins σ (upd H l (.lst ys)) {s with heap:=s.heap.update l (Nc f),toks:=t'}:=by
 let q:=PySem.IsL.update e f;rw[r]at q;refine I.write (x:=l) (e:=l) (by rw[m];exact trivial) (.inl rfl) (λt u L T=>(Nf s.heap (Nc f) (Ne.symm L)).trans T) ⟨_,q⟩ ?_
 erw[hz,its',_,hv,q]
theorem Inv.lnew(I:Inv X pins σ H s)(hv:Vals ys its)(hz:ys.length<=Mz):
  Inv X pins σ (upd H s.heap.objs.size (.lst ys)) {s with heap:=s.heap.push {cls:=.type "list",data:=.seq its.toArray},toks:=t'} :=
 I.laid (λ_ _ q=>MR _ q) (HF _) ⟨hz,its,0,hv,MT _ rfl⟩
theorem Inv.fresh(I:Inv X pins σ H s):H s.heap.objs.size=none:=I.hok.fresh (HF _)
theorem Inv.lstM(I:Inv X pins σ H s)(m:H l=some (.lst xs)):xs.length<=Mz/\∃(its:List Value)(n:Nat),Vals xs its/\xs.length=its.length/\s.heap.get? l=some {cls:=.type "list",data:=.seq its.toArray n}:=by
 let z its n r e:=I.hok l _ m;erw[z,its,n,r,r.length,e]
theorem DS(h:n<=Mz):Builtin.List.listTooLong n=false:=by
 unfold Builtin.List.listTooLong;lia
end
inductive F7(x:L2.V)(vs:List V)(H:L2.Hp)(Q:L2.VK):Prop
 |mk (l xs y:_) (h0_:x=.ref l)(h1_:vs=[y])(h2_:H l=some (.lst xs))(h3_:xs.length<Mz)(h4_:Q .non (upd H l (.lst (xs++[y]))))
theorem aQ:MtM X "list.append" F7:=by
 intro B s M H x g v i Q I c rv h;let l j y rfl rfl m L q:=h
 cases c
 let u rfl Y:=rv.one;let z E n r G e:=I.lstM m;refine call_meets F.slot_list_append ⟨_,e,rfl⟩ F.entry_list_append (F.args_list_append_2 _ _) (PySem.list_append l E.toArray n u (by simp_all)) ⟨e,?_⟩
 erw[.non,_,I.lset (its':=E++[u]) m e (by simp) (r.append (.cons Y .nil)) ?_,rfl,q]
 grind
inductive F6(x:L2.V)(vs:List V)(H:L2.Hp)(Q:L2.VK):Prop
 |mk (l b xs zs:_) (h0_:x=.ref l)(h1_:vs=[.ref b])(h2_:H l=some (.lst xs))(h3_:H b=some (.lst zs))(h4_:xs.length+zs.length<=Mz)(h5_:Q .non (upd H l (.lst (xs++zs))))
theorem Ba:MtM X "list.extend" F6:=by
 intro B s M H x g v i Q I c rv h;let l b j d rfl rfl m k L q:=h
 cases c
 let u rfl Y:=rv.one
 cases Y
 let z its n r G e:=I.lstM m;let t w A D a T:=I.lstM k;let O:its.toArray.size+w.toArray.size<=Mz:=by simp_all
 let f:¬ (!its.toArray.isEmpty&&Builtin.List.listTooLong (its.toArray.size+w.toArray.size))=true:=by
  rw[DS O,LD];exact Io
 refine call_meets F.slot_list_extend ⟨_,e,rfl⟩ F.entry_list_extend (F.args_list_extend_2 _ _)
  (AutoSeq1.list_extend_list_list_0 l its.toArray n b w.toArray A f (by rw[IE];omega) ∅) ⟨e,T,?_⟩
 erw[.non,_,I.lset (its':=its++w) m e (by simp) (r.append D) ?_,rfl,q]
 rw[HJ];omega
inductive rPop(x:L2.V)(vs:List V)(H:L2.Hp)(Q:L2.VK):Prop
 |mk (l xs y:_) (h0_:x=.ref l)(h1_:vs=[])(h2_:H l=some (.lst xs))(h3_:xs[xs.length-1]?=some y)(h4_:Q y (upd H l (.lst xs.dropLast)))
theorem mt_pop:MtM X "list.pop" rPop:=by
 intro B s M H x g v i Q I k rv h;let l j y rfl rfl m c q:=h
 cases k
 let a:=rv.zero;subst a;let z E n r G e:=I.lstM m;let u f Y:=r.get c;let A:E.toArray[E.toArray.size-1]?=some u:=by
  show E.toArray[E.length-1]?=some u;rw[← Jd,← G];exact f
 refine call_meets F.slot_list_pop ⟨_,e,rfl⟩ F.entry_list_pop (F.args_list_pop_1 _) (MeetsSeq.list_pop_last l E.toArray n u A (by rw[IE];omega)) ⟨e,?_⟩
 erw[y,_,I.lset (its':=E.dropLast) m e ?_ r.dropLast ?_,Y,q]
 .show E.toArray.eraseIdxIfInBounds (E.toArray.size-1)=E.dropLast.toArray;simp
 .rw[List.length_dropLast];omega
inductive rCat(x:L2.V)(y:L2.V)(H:L2.Hp)(Q:L2.VK):Prop
 |mk (l b xs zs:_) (h0_:x=.ref l)(h1_:y=.ref b)(h2_:H l=some (.lst xs))(h3_:H b=some (.lst zs))(h4_:xs.length+zs.length<=Mz)(h5_:∀ p,H p=none->Q (.ref p) (upd H p (.lst (xs++zs))))
theorem op_cat:OpR X (MX .Add) rCat:=by
 intro B s M H x y v u Q I c N h;let l b j d rfl rfl m k L q:=h
 cases c
 cases N
 let z E n r G e:=I.lstM m;let t w A D a T:=I.lstM k;refine PySem.P.add_list e T ?_ (by simp_all)
 let p:E.toArray++w.toArray=(E++w).toArray:=by simp
 rw[p];erw[.ref _,_,I.lnew (t':=s.toks) (r.append D) (by rw[HJ];omega),rfl,q _ I.fresh]
section
variable{prog:Program}{w:World}{A:Around}{E:Value->Shared->Prop}{s:Shared}
end
end L2
namespace Att
open PySem PySem.W PySem.Calls PyProof.Rows
theorem oj{P:Params}:∀(ns:List Int)(vs:List Value),WellAll P h vs (ns.map WData.int)->Nh vs ns:=by
 intro ns;induction ns with
 |nil =>
  intro vs w;rw[List.map_nil]at w
  cases w
  exact .nil
 |cons n ns Q =>
  intro vs w;rw[Il]at w
  cases w with
  |cons a b =>
   cases a
   exact .cons _ _ (Q _ b)
theorem Av{l:OpenLaw}(N:l.most=some n){P:Params}{args:List WData}{D:List Value}(c:l.row.toRowW.claim.pre args=true)(i:WellAll P h D args):
  ∃ a vs ns,D=[Value.ref a]/\args=[WData.list (ns.map WData.int)]/\h.get? a=some {cls:=.type "list",data:=.seq vs.toArray}/\Nh vs ns/\ns.length<=n:=by
 let b:WShape.hasAll [] args [.list .int]=true:=(pre_splitW c).1;let g:l.pre.holds [] {args:=args}=true:=(pre_splitW c).2;let d r rfl Y B:=hasAllW_cons b;obtain rfl:=hasAllW_nil B;let j rfl J:=hasW_list Y;let ns rfl:=items_int J;let v:ns.length<=n:=by
  unfold OpenLaw.pre at g;let u:(WTm.not (.lt (.lit (.int (n:Int))) (.len (.arg 0)))).holds [] {args:=[.list (ns.map .int)]}=true:=by
   let u:=(holds_andW g).1;rw[N]at u;exact u
  let e:=condW_of u (w_not (w_lt w_lit (w_len_list (w_arg rfl))));rw[HD]at e;refine KA λq=>?_;let T:(n:Int)<((ns.length:Nat):Int):=by omega
  first
   | (simp_all)
   | (simp at e;omega)
 cases i with
 |cons Q E =>
  cases E
  cases Q with
  |list O k=>exact⟨_,_,ns,rfl,rfl,O,oj ns _ k,v⟩
theorem AK(l:OpenLaw)(args:List WData):l.row.toRowW.claim.post args (.bool true) args=true :=
 postW_of (r:=l.row.toRowW) (X:=(true == true))
  (show WShape.has [] (.bool true) .bool=true by rfl)
  (show(WTm.eq .res (.lit (.bool true))).value [] {args:=args,res:=some (.bool true),after:=args}=some (.bool (true == true)) from w_eq_bool (w_res rfl) w_lit) rfl
theorem attach_call{l:OpenLaw}{q:Program}{Q:List Str}{H:(Str->Option Value)->Heap->Prop}{m:World->Heap->Prop}{d:DefRec}(N:l.most=some n)(g:d.params.defaults=[])(call:∀(w:World)(s₀ s₁:Shared)(mg e:Str->Option Value)(E:Addr)(o:Obj)(L t M:Value)(a:Addr)(vs:List Value)(ns:List Int),
   Ground q Q [] H w s₀ mg e s₁.heap->m w s₁.heap ->
   s₁.heap.get? E=some o->o.data=.func (docDef d.name d.params d.body d.scope L t M)->s₁.heap.CodeRec t d.name->mg d.name=some (.ref E) ->
   s₁.heap.get? a=some {cls:=.type "list",data:=.seq vs.toArray}->Nh vs ns->ns.length<=n->s₁.gens=#[] ->
   M5 (model l.prog w) callerA (.call (.ref E) ⟨[.ref a],[]⟩) (λr s'=>r=.ok (.ret (.bool true))/\OldK s₁.heap s'.heap/\s'.os=s₁.os/\AllBare s'.gens) s₁):
  WalkO q Q H m l.row.toRowW d [] (λf vs=>PySem.call f vs):=by
 intro w s₀ s₁ mg e G Y E o L t M s kV O hd z p k j x D as c A I i T;obtain rfl:s=.none:=Dflts.none p g;obtain rfl:kV=.none:=Dflts.noKw p;let a vs ns rfl rfl h b v:=Av N c i;refine enter_call (M9 (call w s₀ s₁ mg e E o L t M a vs ns G Y O (fd_plain hd) z k h b v j) λr s' C=>?_);let rfl B J u:=C;erw[.inl ⟨.bool true,.bool true,[],rfl,λ_=>rfl,.bool true,AK l _,λ_=>⟨List.Pairwise.nil,λ_ y=>(nomatch y)⟩⟩,B,J,u]
section
variable{prog:Program}{w:World}{A:Around}{E:Value->Shared->Prop}{s:Shared}{K:Frag}
end
end Att
namespace L2
open PySem PySem.Spec PyProof.Rows
theorem rX:∀{vs:List Value}{ns:List Int},Nh vs ns->Vals (ns.map V.int) vs
 |_,_,.nil=>.nil
 |_,_,.cons n t h=>.cons ⟨t,rfl⟩ (rX h)
def oo(s:Stmt)(j:Nat):Stmt:=match s with
 |.ClassDef _ _ _ T _ _ _ _ _ _ _=>T.getD j (.Pass ⟨0,0,0,0⟩)
 |_=>.Pass ⟨0,0,0,0⟩
def de(s:Stmt):Arguments:=match s with
 |.FunctionDef _ a _ _ _ _ _ _ _ _=>a
 |_=>{posonlyargs:=[],args:=[],vararg:=none,kwonlyargs:=[],kw_defaults:=[],kwarg:=none,defaults:=[]}
def cf(s:Stmt):List Stmt:=match s with
 |.FunctionDef _ _ b _ _ _ _ _ _ _=>b
 |_=>[]
def ar(s:Stmt):Scope:=match s with
 |.FunctionDef _ _ _ _ _ _ a _ _ _=>a
 |_=>{kind:=.function,names:=[],isGenerator:=false,isCoroutine:=false}
abbrev CX0:CXT:=λ_ _ _ _ _ _=>False
abbrev E0:XK:=λ_ _ _=>False
theorem nX:mK CX0 X E0:=λ_ _ _ _ _ _ _ h=>h.elim
structure Fun(K:HE)(x qual:Str)(st:Stmt)(f:Addr)(fd:FuncData):Prop where
 ex:∃(oc:Value)(od:Option Addr)(kV doc pm:Value)(an:Option Addr)(cdv ct:Value)(osl:Array (Option Value)),
  fd=Ju x qual (de st) (cf st) (ar st) .none kV doc pm an cdv ct/\K.lookup f=some ⟨oc,od,.func fd,osl⟩/\JJ K cdv qual=true
 kp:IY K (.ref f)=true
theorem Fun.ok{j:Str}{st:Stmt}{N ps:List Str}{k:Nat}(F:Fun K x j st f fd)(S:ay N ps (ar st))(len:∀ vs H Q E,sp vs H Q E->vs.length=ps.length)(a:∀(Y:Value)(A:Around)(outer:List Env)(s:Shared)(H:Hp)(vs:List V)(Q:VK)(E:XK),Room k (A.deeper (envOfC j (ar st) s.heap.objs.size f Y))->sp vs H Q E ->
   ∃ t,PSs (cxOf CX0 P w K mg base N j (ar st) f Y A outer s H E).nox (cf st) t/\t {nx:=λ_ H'=>Q .non H',rt:=Q} (pQ N vs) H):FnOk P w K mg base CX0 (k+1) f fd ps sp:=by
 let g B kV M L d Y l b rfl y z:=F.ex;refine fn_of y z S len λA outer s H vs Q E O J=>?_;let t h q:=a Y A outer s H vs Q E O J;erw[t,h.nox,q]
theorem Fun.binds{j:Str}{st:Stmt}{ps:List Str}(F:Fun K x j st f fd)(h:∀(kV M L:Value)(d:Option Addr)(Y ct:Value)(us:List Value),us.length=ps.length->bindArgs (Ju x j (de st) (cf st) (ar st) .none kV M L d Y ct) ⟨us,[]⟩=pure (ps.zip us)):fe K fd ps []:=by
 let g B kV M L d Y ct b rfl y z:=F.ex;exact .all (h kV M L d Y ct)
theorem fun_mk{j:Str}{st:Stmt}{B d:Option Addr}{b:Array (Option Value)}{kV M L Y ct:Value}(l:K.lookup f=some ⟨u,B,.func (Ju x j (de st) (cf st) (ar st) .none kV M L d Y ct),b⟩)(c:JJ K Y j=true)(k:IY K (.ref f)=true):Fun K x j st f (Ju x j (de st) (cf st) (ar st) .none kV M L d Y ct):=⟨⟨u,B,kV,M,L,d,Y,ct,b,rfl,l,c⟩,k⟩
theorem tO{k:Nat}(O:Room k A):A.units+1<cLine:=Nat.lt_of_le_of_lt (Nat.add_le_add_left (by decide:1<=64) _) O.units
theorem aq(h:n<=1000):n<Mz:=Nat.lt_of_le_of_lt h ∅
theorem pv(i:Nat)(q:X.N[i]?=some x:=by rfl)(hv:Vis X.env.scope x:=by first|exact Or.inl rfl|exact Or.inr (Or.inl rfl)|exact Or.inr (Or.inr rfl))(hd:(x == ("__debug__" : Str))=false:=by decide)(z:(x == ("__classdict__" : Str))=false:=by decide):PE X (.Name x pos) (tVar i):=pe_var q hv hd z
theorem iteF{A B:Prop}(h:B):if false=true then A else B:=by
 rw[NY Io];exact h
theorem iteT{A B:Prop}(h:A):if true=true then A else B:=by
 rw[NX rfl];exact h
theorem ite2{c A B:Prop}[Decidable c](Y:c->A)(h2:¬ c->B):if c then A else B:=by
 by_cases h:c
 .rw[NX h];exact Y h
 .rw[NY h];exact h2 h
theorem qT{c A B:Prop}[Decidable c](g:c)(h:B):if(!decide c)=true then A else B:=by
 rw[Ni g];exact iteF h
def Same(H H':Hp):Prop:=∀ b o,H b=some o->H' b=some o
theorem Same.trans(a:Same H H1)(b:Same H1 H2):Same H H2:=λc o h=>b c o (a c o h)
theorem Same.seq(e:Same H H')(h:SqL K H a xs):SqL K H' a xs:=by
 rcases h with(h|⟨o,h⟩)|h
 .exact .inl (.inl (e _ _ h))
 .exact .inl (.inr ⟨o,e _ _ h⟩)
 .exact .inr h
end L2
set_option maxRecDepth 100000
set_option maxHeartbeats 4000000
namespace L2
open PySem PySem.Spec PyProof.Rows
section
variable{κ:Type} [DecidableEq κ]
def valV(kvs:List (κ×V))(k:κ):Option V:=(kvs.find? λI=>decide (I.1=k)).map (·.2)
def putK(kvs:List (κ×V))(k:κ)(v:V):List (κ×V) :=
 if(kvs.any λI=>decide (I.1=k))=true then kvs.map (λI=>if I.1=k then(I.1,v) else I) else kvs++[(k,v)]
def mS(kvs:List (κ×V))(k:κ):List (κ×V):=kvs.filter λI=>decide (I.1≠k)
theorem bj{p:κ×V}{r:List (κ×V)}{k:κ}(e:p.1=k):valV (p::r) k=some p.2:=by simp[valV,Kk,e]
theorem bo{p:κ×V}{r:List (κ×V)}{k:κ}(e:¬ p.1=k):valV (p::r) k=valV r k:=by simp[valV,Kk,e]
theorem gm(k:κ):∀ kvs:List (κ×V),(kvs.any λkv=>decide (kv.1=k))=(valV kvs k).isSome
 |[]=>rfl
 |p::r=>by
  rw[List.any_cons];by_cases e:p.1=k
  .simp only[bj e,Ni e,Bool.true_or,Option.isSome_some]
  .rw[bo e,My e,Bool.false_or];exact gm k r
theorem xD(k j:κ)(y:V):∀ kvs:List (κ×V),valV (kvs.map λkv=>if kv.1=k then(kv.1,y) else kv) j=(valV kvs j).map λx=>if j=k then y else x
 |[]=>rfl
 |p::r=>by
  let Q:=xD k j y r;rw[Il];by_cases h:p.1=k
  .rw[NX h];by_cases e:p.1=j
   .rw[bj (p:=(p.1,y)) e,bj e,Option.map_some,NX (e.symm.trans h)]
   .rw[bo (p:=(p.1,y)) e,bo e,Q]
  .rw[NY h];by_cases e:p.1=j
   .rw[bj (p:=p) e,bj e,Option.map_some,NY (λz=>h (e.trans z))]
   .rw[bo (p:=p) e,bo e,Q]
theorem rY(k j:κ)(y:V):∀ kvs:List (κ×V),valV kvs k=none->valV (kvs++[(k,y)]) j=if j=k then some y else valV kvs j
 |[],_=>by
  by_cases e:k=j
  .rw[NX e.symm];exact bj (p:=(k,y)) e
  .rw[NY (λz=>e z.symm)];exact bo (p:=(k,y)) e
 |p::r,N=>by
  rw[JR];let f:¬ p.1=k:=λz=>by rw[bj z]at N;cases N
  rw[bo f]at N;let Q:=rY k j y r N;by_cases e:p.1=j
  .rw[bj e,bj e,NY (λz=>f (e.trans z))]
  .rw[bo e,bo e,Q]
theorem gk(kvs:List (κ×V))(k j:κ)(y:V):valV (putK kvs k y) j=if j=k then some y else valV kvs j:=by
 unfold putK;by_cases a:(kvs.any λI=>decide (I.1=k))=true
 .rw[NX a,xD];rw[gm]at a;by_cases e:j=k
  .let x J:=Mm.mp a;simp[*]
  .simp[*]
 .rw[NY a];refine rY k j y kvs ?_;rw[gm]at a;simp_all
theorem eX(kvs:List (κ×V))(k:κ)(v:V):(putK kvs k v).length<=kvs.length+1:=by
 unfold putK;split
 .simp
 .simp
theorem qw{kvs:List (κ×V)}{k:κ}(v:V)(h:valV kvs k=none):putK kvs k v=kvs++[(k,v)]:=by
 unfold putK;rw[gm,h];rfl
theorem RelO.isSome_eq{o:Option V}{u:Option Value}(r:RelO o u):o.isSome=u.isSome:=by
 cases o with
 |none=>cases u with
  |none=>rfl
  |some _=>contradiction
 |some _=>cases u with
  |none=>contradiction
  |some _=>rfl
theorem RelO.getD{o:Option V}{u:Option Value}{d:V}{d':Value}(r:RelO o u)(c:RelV d d'):RelV (o.getD d) (u.getD d'):=by
 cases o with
 |none=>cases u with
  |none=>exact c
  |some _=>exact(show False from r).elim
 |some _=>cases u with
  |none=>exact(show False from r).elim
  |some _=>exact r
theorem KV.val{kvs:List (κ×V)}{vs:List (κ×Value)}(r:KV kvs vs)(k:κ):RelO (valV kvs k) (valueAt vs k):=by
 unfold KV at r;induction r with
 |nil=>exact True.intro
 | @cons p q A c h t Q =>
  let Y B:=h;by_cases e:p.1=k
  .let T:q.1=k:=Y.symm.trans e
   let b:valueAt (q::c) k=some q.2:=by simp[valueAt,Kk,T]
   rw[bj e,b];exact B
  .let T:¬ q.1=k:=λz=>e (Y.trans z)
   let b:valueAt (q::c) k=valueAt c k:=by simp[valueAt,Kk,T]
   rw[bo e,b];exact Q
theorem KV.any{kvs:List (κ×V)}{vs:List (κ×Value)}(r:KV kvs vs)(k:κ):(kvs.any λkv=>decide (kv.1=k))=vs.any λkv=>decide (kv.1=k):=by
 unfold KV at r;induction r with
 |nil=>rfl
 |cons h t Q=>simp[*]
theorem KV.repl{kvs:List (κ×V)}{vs:List (κ×Value)}(r:KV kvs vs)(k:κ)(T:RelV y u):
  KV (kvs.map λkv=>if kv.1=k then(kv.1,y) else kv) (vs.map λkv=>if kv.1=k then(kv.1,u) else kv):=by
 unfold KV at r ⊢;induction r with
 |nil=>exact .nil
 | @cons p q A c h t Q =>
  rw[Il,Il];refine .cons ?_ Q;let Y B:=h;by_cases e:p.1=k
  .rw[NX e,NX (Y.symm.trans e)];erw[Y,T]
  .rw[NY e,NY (λz=>e (Y.trans z))];erw[Y,B]
theorem KV.put{kvs:List (κ×V)}{vs:List (κ×Value)}(r:KV kvs vs)(k:κ)(T:RelV y u):KV (putK kvs k y) (stored vs k u):=by
 unfold putK stored;rw[r.any k];by_cases e:(vs.any λI=>decide (I.1=k))=true
 .rw[NX e,NX e];exact r.repl k T
 .rw[NY e,NY e];exact Paired.snoc r ⟨rfl,T⟩
theorem KV.drop{kvs:List (κ×V)}{vs:List (κ×Value)}(r:KV kvs vs)(k:κ):KV (mS kvs k) (without vs k):=by
 unfold KV at r ⊢;unfold mS without;induction r with
 |nil=>exact .nil
 | @cons p q A c h t Q =>
  let Y B:=h;rw[Lg,Lg];by_cases e:p.1=k
  .let a:¬ decide (p.1≠k)=true:=by simp[e]
   let b:¬ decide (q.1≠k)=true:=by simp_all
   rw[NY a,NY b];exact Q
  .let T:¬ q.1=k:=λz=>e (Y.trans z)
   let a:decide (p.1≠k)=true:=by simp[e]
   let b:decide (q.1≠k)=true:=by simp[T]
   rw[NX a,NX b];exact .cons ⟨Y,B⟩ Q
theorem KV.length{kvs:List (κ×V)}{vs:List (κ×Value)}(r:KV kvs vs):kvs.length=vs.length:=Paired.length r
theorem Ep(kvs:List (κ×V))(k:κ):(mS kvs k).length<=kvs.length:=Jj _ _
end
theorem vG{k:Key}(r:RelV (kV k) u):(bx P w).is k u=true:=by
 cases k with
 |inl i=>obtain⟨t,e⟩:=(show ∃ t,u=Value.int i t from r);subst e;exact vC P w i t
 |inr x=>obtain⟨t,e⟩:=(show ∃ t,u=Value.str x t from r);subst e;exact vB P w x t
theorem tK{P:Program}{w:World}:∀{ks:List Key}{us:List Value},Vals (ks.map kV) us->ItemsAre (bx P w) ks us
 |[],_,r=>by rw[List.map_nil]at r;cases r;exact .nil
 |k::ks,_,r=>by
  rw[Il]at r
  cases r with
  |cons h t=>exact .cons (vG h) (tK t)
abbrev KT(H:Hp):List (List Key×V)->List (List Key×Addr×Value)->Prop:=Paired λp q=>p.1=q.1/\H q.2.1=some (.tup (p.1.map kV))/\RelV p.2 q.2.2
theorem KT.val{kvs:List (List Key×V)}{xs:List (List Key×Addr×Value)}(r:KT H kvs xs)(k:List Key):RelO (valV kvs k) ((atKey xs k).map (·.2)):=by
 induction r with
 |nil=>exact True.intro
 | @cons p q A c h t Q =>
  let Y _ B:=h;by_cases e:p.1=k
  .let T:q.1=k:=Y.symm.trans e
   let b:atKey (q::c) k=some q.2:=by simp[atKey,Kk,T]
   rw[bj e,b];exact B
  .let T:¬ q.1=k:=λz=>e (Y.trans z)
   let b:atKey (q::c) k=atKey c k:=by simp[atKey,Kk,T]
   rw[bo e,b];exact Q
theorem KT.repl{kvs:List (List Key×V)}{xs:List (List Key×Addr×Value)}(r:KT H kvs xs)(k:List Key)(T:RelV y u):
  KT H (kvs.map λkv=>if kv.1=k then(kv.1,y) else kv) (xs.map (putAt k u)):=by
 induction r with
 |nil=>exact .nil
 | @cons p q A c h t Q =>
  rw[Il,Il];refine .cons ?_ Q;let Y B J:=h;unfold putAt;by_cases e:p.1=k
  .rw[NX e,NX (Y.symm.trans e)];erw[Y,B,T]
  .rw[NY e,NY (λz=>e (Y.trans z))];erw[Y,B,J]
theorem KT.put{kvs:List (List Key×V)}{xs:List (List Key×Addr×Value)}(r:KT H kvs xs)(k:List Key){b:Addr}(L:H b=some (.tup (k.map kV)))(T:RelV y u):
  KT H (putK kvs k y) (storedH xs k b u):=by
 let e:(kvs.any λI=>decide (I.1=k))=(atKey xs k).isSome:=by
  rw[gm,(r.val k).isSome_eq,Option.isSome_map]
 unfold putK storedH;rw[e];by_cases q:(atKey xs k).isSome=true
 .rw[NX q,NX q];exact r.repl k T
 .rw[NY q,NY q];exact Paired.snoc r ⟨rfl,L,T⟩
theorem KT.keeps{kvs:List (List Key×V)}{xs:List (List Key×Addr×Value)}(r:KT H kvs xs)(i:∀ b ys,H b=some (.tup ys)->H' b=some (.tup ys)):KT H' kvs xs :=
 Paired.mapP r λ_ _ z=>⟨z.1,i _ _ z.2.1,z.2.2⟩
theorem rd_of{u:HO}(ok:HOk P w H h)(e:Rd H a u):bu P w H h a u:=e.ok ok
theorem zj(ok:HOk P w H h)(e:Rd H a (.dK kvs)):kvs.length<=Mz/\(a == sysModules)=false/\∃ vs,KV kvs vs/\h.DictOf (bx P w) a vs :=
 show bu P w H h a (.dK kvs) from rd_of ok e
theorem zm(ok:HOk P w H h)(e:H a=some (.dK kvs)):kvs.length<=Mz/\(a == sysModules)=false/\∃ vs,KV kvs vs/\h.DictOf (bx P w) a vs:=zj ok (.inl e)
theorem tH{ks:List Key}(ok:HOk P w H h)(e:H a=some (.tup (ks.map kV))):(tupleKind (bx P w)).is h ks a:=by
 let _ E r o Y B n J:=(show bu P w H h a (.tup (ks.map kV)) from ok a _ e);erw[o,E.toArray,n,Y,B,J,by simpa using tK r]
theorem zh{kvs:List (List Key×V)}(ok:HOk P w H h)(e:Rd H a (.dT kvs)):kvs.length<=Mz/\(a == sysModules)=false /\
  ∃ xs,KT H kvs xs/\h.DictOfH (tupleKind (bx P w)) a xs:=by
 let z y xs r o N M Y B b u O:=(show bu P w H h a (.dT kvs) from rd_of ok e);erw[z,y,xs,r,o,N,M,Y,B,b,u,λx J=>?_,O];let all:∀{l:List (List Key×V)}{m:List (List Key×Addr×Value)},KT H l m->∀ x∈m,(tupleKind (bx P w)).is h x.1 x.2.1:=by
  intro l m q;induction q with
  |nil=>simp
  | @cons p q A c C t Q =>
   intro x J;obtain e|J:=HQ.mp J
   .subst e;exact tH ok (by simp_all)
   .exact Q x J
 exact all r x J
theorem dt_of{kvs:List (List Key×V)}(ok:HOk P w H h)(e:H a=some (.dT kvs)):kvs.length<=Mz/\(a == sysModules)=false /\
  ∃ xs,KT H kvs xs/\h.DictOfH (tupleKind (bx P w)) a xs:=zh ok (.inl e)
def DGet(H:Hp)(a:Addr)(y:V)(r:Option V):Prop :=
 (∃ L k,Rd H a (.dK L)/\y=kV k/\r=valV L k)∨∃ L k b,Rd H a (.dT L)/\y=.ref b/\H b=some (.tup (k.map kV))/\r=valV L k
def DPut(H:Hp)(a:Addr)(y v:V)(H':Hp):Prop :=
 (∃ L k,H a=some (.dK L)/\y=kV k/\L.length<Mz/\H'=upd H a (.dK (putK L k v))) ∨
 ∃ L k b,H a=some (.dT L)/\y=.ref b/\H b=some (.tup (k.map kV))/\L.length<Mz/\H'=upd H a (.dT (putK L k v))
theorem DGet.k{H:Hp}{a:Addr}{kvs:List (Key×V)}{k:Key}(e:H a=some (.dK kvs)):DGet H a (kV k) (valV kvs k):=.inl ⟨kvs,k,.inl e,rfl,rfl⟩
theorem DPut.k{H:Hp}{a:Addr}{kvs:List (Key×V)}{k:Key}{v:V}(e:H a=some (.dK kvs))(hl:kvs.length<Mz):DPut H a (kV k) v (upd H a (.dK (putK kvs k v))):=.inl ⟨kvs,k,e,rfl,hl,rfl⟩
section
variable{X:Cx}{pins:List (Addr×Obj)}{σ:St}{H:Hp}{s:Shared}{a:Addr}{y v:V}{u r:Value}{o:Option V}{A:Around}{E:Value->Shared->Prop}
theorem Inv.big(I:Inv X pins σ H s):sysModules<s.heap.objs.size:=by
 let h:MB<s.heap.objs.size:=(I.mod.glob.keeps I.bk).lt;exact JS ∅ h
theorem Cj(f:A.units+1<cLine)(I:Inv X pins σ H s)(g:DGet H a y (some v))(T:RelV y u)(h:∀ w' s',Inv X pins σ H s'->RelV v w'->Q w' s'):
  wpAny (model X.prog X.w) A (getItem (.ref a) u) Q E s:=by
 rcases g with⟨L,k,e,C,l⟩|⟨L,k,b,e,C,G,l⟩
 .subst C;let z hd O rel m:=zj I.hok e;let w' n r:=RelO.some_of (v:=v) (o:=valueAt O k) (by rw[l];exact rel.val k)
  exact wpAny_getItem_of (vG T) m.mapOf n (h w' _ (I.tok _) r)
 .subst C
  cases (show u=Value.ref b from T)
  let z hd j rel m:=zh I.hok e;let w' n r:=RelO.some_of (v:=v) (o:=(atKey j k).map (·.2)) (by rw[l];exact rel.val k)
  let p M c:=HV.mp n;refine wpAny_getItem_heap (tupleKind_room_in1 f) (tH I.hok G) m M ?_;rw[c];exact h w' _ (I.tok _) r
theorem Hi(f:A.units+1<cLine)(I:Inv X pins σ H s)(g:DGet H a y o)(T:RelV y u)(h:∀ s',Inv X pins σ H s'->Q (.bool (!o.isSome)) s'):
  wpAny (model X.prog X.w) A (MH .NotIn u (.ref a)) Q E s:=by
 rcases g with⟨L,k,e,C,l⟩|⟨L,k,b,e,C,G,l⟩
 .subst C;let z hd O rel m:=zj I.hok e;refine wpAny_notIn_of (vG T) hd m.mapOf ?_;rw[← (rel.val k).isSome_eq,← l];exact h _ (I.tok _)
 .subst C
  cases (show u=Value.ref b from T)
  let z hd j rel m:=zh I.hok e;refine wpAny_notIn_heap (tupleKind_room_in1 f) (tH I.hok G) hd m ?_;let q:=(rel.val k).isSome_eq;rw[Option.isSome_map]at q;rw[← q,← l];exact h _ (I.tok _)
theorem rD{ob:HO}(I:Inv X pins σ H s)(f:Mut (H a))(hs:ME a s.heap h')(D:∃ q,h'.get? a=some q)(new:bu X.prog X.w (upd H a ob) h' a ob):
  Inv X pins σ (upd H a ob) {s with heap:=h',toks:=t'} :=
 I.write (x:=a) (e:=a) f (.inl rfl) (λb q L z=>(hs.2 b L).trans z) D new
theorem B5{vs:List (Key×Value)}(z:kvs.length<=Mz)(hd:(a == sysModules)=false)(rel:KV kvs vs)(m:h'.DictOf (bx P w) a vs):
  bu P w H' h' a (.dK kvs):=⟨z,hd,vs,rel,m⟩
theorem Ca{Q:Unit->Shared->Prop}(f:A.units+1<cLine)(I:Inv X pins σ H s)(g:DPut H a y v H')(T:RelV y u)(rv:RelV v r)(h:∀ s',Inv X pins σ H' s'->Q () s'):
  wpAny (model X.prog X.w) A (setItem (.ref a) u r) Q E s:=by
 rcases g with⟨L,k,e,ey,l,eH⟩|⟨L,k,b,e,ey,i,l,eH⟩
 .subst ey eH;let z hd O rel n:=zm I.hok e;let t:O.length<=Mz:=by rw[← rel.length];exact z
  let G:(putK L k v).length<=Mz:=by let:=eX L k v;omega
  refine wpAny_setItem_pairs (hsz:=t) (vG T) n λm aa d=>h _ ?_;let D:∃ q,m.get? a=some q:=let ⟨q,_,_,C,_⟩:=aa;⟨q,C⟩;exact rD I (by rw[e];exact True.intro) d D (B5 G hd (rel.put k rv) aa)
 .subst ey eH
  cases (show u=Value.ref b from T)
  let z hd j rel n:=dt_of I.hok e;let t:j.length<=Mz:=by rw[← Paired.length rel];exact z
  let G:(putK L k v).length<=Mz:=by let:=eX L k v;omega
  refine wpAny_setItem_heap (hsz:=t) (tupleKind_room_in1 f) (tH I.hok i) n λm aa d=>h _ ?_;let q N M C B J o _ p:=aa;refine rD I (by rw[e];exact True.intro) d ⟨q,C⟩ ⟨G,hd,_,(rel.put k i rv).keeps λc Y x=>?_,q,N,M,C,B,J,o,p⟩
  rw[ao (yL x e (λz=>nomatch z))];exact x
end
section
variable{X:Cx}{pins:List (Addr×Obj)}{σ:St}{H:Hp}{s:Shared}{a:Addr}{kvs:List (Key×V)}{k:Key}{u:Value}{A:Around}{E:Value->Shared->Prop}
theorem d_pop{more:List Value}(I:Inv X pins σ H s)(e:H a=some (.dK kvs))(N:RelV (kV k) u)(l:valV kvs k=some v)(y:more=[]∨∃ x,more=[x])(h:∀ w' s',Inv X pins σ (upd H a (.dK (mS kvs k))) s'->RelV v w'->Q w' s'):wpAny (model X.prog X.w) A (call (.builtin "dict.pop") (.ref a::u::more)) Q E s:=by
 let z hd g rel m:=zm I.hok e;let w' p r:=RelO.some_of (v:=v) (o:=valueAt g k) (by rw[← l];exact rel.val k)
 let M:(keyPart u).isSome=true:=by
  cases k with
  |inl i=>obtain⟨t,q⟩:=(show ∃ t,u=Value.int i t from N);subst q;rfl
  |inr x=>obtain⟨t,q⟩:=(show ∃ t,u=Value.str x t from N);subst q;rfl
 let T:argsOk "dict.pop" ⟨.ref a::u::more,[]⟩:=by
  obtain q|⟨x,q⟩:=y
  .subst q;exact PySem.F.args_dict_pop_2 _ _
  .subst q;exact PySem.F.args_dict_pop_3 _ _ _
 refine call_meetsIn PySem.F.slot_dict_pop m.typeIs PySem.F.entry_dict_pop T (meets_dict_pop_there (bx X.prog X.w) a (vG N) more y M)
  ⟨g,w',m,by rw[← rel.length];exact z,p,λJ O d=>h w' _ ?_ r⟩
 let D:∃ q,J.get? a=some q:=let ⟨q,_,_,C,_⟩:=O;⟨q,C⟩;exact rD I (by rw[e];exact True.intro) d D (B5 (IK (Ep kvs k) z) hd (rel.drop k) O)
end
def NoSl(i:Expr):Prop:=∀ O e,subscripted i false O e=operate [O,e] (getItem O e)
theorem FY{prog:Program}{s:Shared}{l b:Expr}{T id:String}(hl:typeLookup (.type T) "__getitem__"=pure (some (.builtin id)))(hs:NoSl b)(h:wpAny (model prog w) A (eval l env) (λo s₁=>wpAny (model prog w) A (eval b env) (λi s₂=>s₂.TypeIs o T/\wpAny (model prog w) A (getItem o i) Q E s₂) E s₁) E s):
  wpAny (model prog w) A (eval (.Subscript l b pos) env) Q E s:=by
 refine Subscript_ (MG h (λo s₁ a=>MG a (λi s₂ g=>?_) λ_ _ x=>x) λ_ _ x=>x);let u g:=g;unfold subscriptTail;refine MN ?_;rw[getitemInPython_of_ne u.not_modules];refine MN (Nj u hl ?_);let fin:wpAny (model prog w) A (subscripted b false o i) (λr f=>wpAny (model prog w) A (letTemporaryGo l o r >>= λ_=>pure r) Q E f) E s₂:=by
  rw[hs o i];exact wpAny_operating (MG g (λr f j=>MN (wpAny_letTemporaryGo (MQ j))) λ_ _ x=>x)
 first
  |exact MQ (MN fin)
  |exact MN (MQ (MN fin))
  |exact MN fin
theorem wC{s:Shared}{o:Option V}(I:Inv X Y σ H s)(g:DGet H a y o):s.TypeIs (.ref a) "dict":=by
 rcases g with⟨L,k,e,_,_⟩|⟨L,k,b,e,_,_,_⟩
 .let _ _ O _ m:=zj I.hok e;exact m.typeIs
 .let _ _ j _ m:=zh I.hok e;exact m.typeIs
def tDGet(b ty:TE):TE:=λM H Q=>b M H λx m=>ty M m λy u=>∃ a v,x=.ref a/\DGet u a y (some v)/\Q v u
def FX(ty b:TE):TE:=λM H Q=>ty M H λy m=>b M m λx u=>∃ a o,x=.ref a/\DGet u a y o/\Q (.bl (!o.isSome)) u
def sDPut(b ty e:TE):TS:=λD M H=>e M H λv m=>b M m λx u=>ty M u λy C=>∃ a E,x=.ref a/\DPut C a y v E/\D.nx M E
section
variable{X:Cx}{o i e value:Expr}{pos pos' tpos:Pos}{td ty tv:TE}
theorem jX(f:X.A.units+1<cLine)(O:PE X o td)(hi:PE X i ty)(hs:NoSl i):PE X (.Subscript o i pos) (tDGet td ty):=by
 intro B s M H Q I h;refine FY PySem.F.slot_dict_getitem.lookup hs (thn (O B s M H _ I h) λu J ⟨x,m,N,c,k⟩=>thn (hi B J M m _ N k) λe t ⟨y,L,z,T,a,v,G,g,n⟩=>?_);subst G;obtain rfl:u=Value.ref a:=c;erw[wC z g,Cj f z g T λw p b r=>⟨v,L,b,r,n⟩]
theorem nW(f:X.A.units+1<cLine)(hi:PE X i ty)(O:PE X o td):PC X .NotIn i o (FX ty td):=by
 intro B s M H Q I h;refine thn (hi B s M H _ I h) λe J ⟨y,m,N,T,k⟩=>thn (O B J M m _ N k) λu t d=>?_;let x L z c a ov G g n:=d;subst G;obtain rfl:u=Value.ref a:=c;exact Hi f z g T λp b=>⟨.bl (!ov.isSome),L,b,rfl,n⟩
theorem l4(f:X.A.units+1<cLine)(O:PE X o td)(hi:PE X i ty)(hv:PE X value tv)(hs:swapsWith value (some (.Subscript o i pos')) pos.line X.env=pure false):
  PS X (.Assign [.Subscript o i pos'] value pos) (sDPut td ty tv):=by
 intro B s M H D I h;refine wpAny_Assign_Subscript (thn (hv B s M H _ I h) λr J ⟨v,m,N,rv,k⟩=>thn (O B J M m _ N k) λu t ⟨x,L,z,c,n⟩=>thn (hi B t M L _ z n) λe p ⟨y,C,b,T,a,E,G,g,Y⟩=>?_) hs;subst G;obtain rfl:u=Value.ref a:=c;exact Ca f b g T rv λq d=>⟨M,E,d,Y⟩
end
theorem yp(h:Heap)(L:sysModules<h.objs.size):bu P w H (h.push {cls:=.type "dict",data:=.dict #[]}) h.objs.size (.dK []) :=
 ⟨Iz _,beq_eq_false_iff_ne.mpr (Ne.symm (Ig L)),[],.nil,Heap.DictOf.new h⟩
def tDNewK:TE:=λ_ H Q=>∀ p,H p=none->Q (.ref p) (upd H p (.dK []))
theorem m9:PE X (.Dict [] [] pos) tDNewK:=λB s M H Q I h =>
 wpAny_Dict_empty ⟨.ref s.heap.objs.size,_,I.laid (a:=s.heap.objs.size) (o:=.dK []) (t':=s.toks) (λ_ _ q=>MR _ q) (HF _) (yp s.heap I.big),rfl,h _ (I.hok.fresh (HF _))⟩
def Aa:List (TE×TE)->St->Hp->(List (V×V)->Hp->Prop)->Prop
 |[],_,H,Q=>Q [] H
 | (c,e)::r,M,H,Q=>c M H λx m=>e M m λy u=>Aa r M u λA C=>Q ((x,y)::A) C
abbrev VV:List (V×V)->List (Value×Value)->Prop:=Paired λp q=>RelV p.1 q.1/\RelV p.2 q.2
def PPs(X:Cx)(pos:Pos)(p:List (Option Expr))(l:List Expr)(r:List (TE×TE)):Prop :=
 ∀(B:List (Addr×Obj))(s:Shared)(M:St)(H:Hp)(Q:List (V×V)->Hp->Prop),Inv X B M H s->Aa r M H Q ->
  wpAny (model X.prog X.w) X.A (evalPairs (pairTrees p l X.env pos)) (λg k=>∃ t G,Inv X B M G k/\VV t g/\Q t G) X.xe s
theorem vc:PPs X pos [] [] []:=λB s M H Q I h=>pairTrees_nil_walk ⟨[],H,I,.nil,h⟩
theorem qx{k v:Expr}{ks:List (Option Expr)}{vs:List Expr}{tk e:TE}{r:List (TE×TE)}(f:PE X k tk)(hv:PE X v e)(O:PPs X pos ks vs r):
  PPs X pos (some k::ks) (v::vs) ((tk,e)::r):=λB s M H Q I h =>
 pairTrees_cons_walk (thn (f B s M H _ I h) λu J ⟨x,m,N,c,G⟩=>thn (hv B J M m _ N G) λE t ⟨y,L,z,T,n⟩ =>
  thn (O B t M L _ z n) λa p ⟨A,C,b,rel,Y⟩=>⟨(x,y)::A,C,b,.cons ⟨c,T⟩ rel,Y⟩)
def f9(kvs more:List (Key×V)):List (Key×V):=more.foldl (λp I=>putK p I.1 I.2) kvs
theorem KV.merge:∀{more:List (Key×V)}{rs:List (Key×Value)}{kvs:List (Key×V)}{vs:List (Key×Value)},KV more rs->KV kvs vs->KV (f9 kvs more) (merged vs rs):=by
 intro more rs kvs vs r;unfold KV at r;induction r generalizing kvs vs with
 |nil=>intro q;exact q
 | @cons p q A c h t Q =>
  intro g;let e:KV (putK kvs p.1 p.2) (stored vs q.1 q.2):=by
   let:=g.put p.1 h.2;rw[← h.1];exact this
  exact Q e
theorem kP:∀(more kvs:List (Key×V)),(f9 kvs more).length<=kvs.length+more.length
 |[],kvs=>by show kvs.length<=kvs.length+0;omega
 |p::r,kvs=>by
  let Y:=kP r (putK kvs p.1 p.2);let B:=eX kvs p.1 p.2;show(f9 (putK kvs p.1 p.2) r).length<=_;rw[IM];omega
theorem pI{P:Program}{w:World}:∀{kvs:List (Key×V)}{J:List (Value×Value)},VV (kvs.map λkv=>(kV kv.1,kv.2)) J->∃ rs,Carries (bx P w) J rs/\KV kvs rs
 |[],_,r=>by rw[List.map_nil]at r;cases r;erw[[],True.intro,.nil]
 |p::kvs,_,r=>by
  rw[Il]at r
  cases r with
  | @cons a b as bs h t =>
   let rs c q:=pI (P:=P) (w:=w) t;let b1 b2:=b;erw[(p.1,b2)::rs,⟨vG h.1,rfl,c⟩,.cons ⟨rfl,h.2⟩ q]
def tDisp(r:List (TE×TE)):TE:=λM H Q=>∀ p,H p=none->Aa r M (upd H p (.dK [])) λA u=>u p=some (.dK [])/\∃ L:List (Key×V),A=L.map (λI=>(kV I.1,I.2))/\L.length<=15/\Q (.ref p) (upd u p (.dK (f9 [] L)))
theorem vj{p:List (Option Expr)}{l:List Expr}{r:List (TE×TE)}(h:PPs X pos p l r)(k:p.all (·.isSome)=true)(hl:p.length=l.length)(A:p≠[])(x:p.length<=15):PE X (.Dict p l pos) (tDisp r):=by
 intro B s M H Q I q;let N:=I.hok.fresh (HF s.heap.objs.size);let j:=I.laid (a:=s.heap.objs.size) (o:=.dK []) (h':=s.heap.push {cls:=.type "dict",data:=.dict #[]}) (t':=s.toks) (λ_ _ q=>MR _ q) (HF _) (yp s.heap I.big);refine wpAny_Dict_walk (knd:=bx X.prog X.w) k hl A x (thn (h B _ M _ _ j (q _ N)) λJ t ⟨b,u,i,rel,e,L,f,y,n⟩=>?_);subst f;let v c E:=pI (P:=X.prog) (w:=X.w) rel;let z hd T g m:=zm i.hok e
 cases g
 erw[v,c,m,λh' O d=>⟨.ref s.heap.objs.size,_,?_,rfl,n⟩];let G:(f9 [] L).length<=Mz:=by
  let Y:=kP L [];rw[Kj]at Y;rw[sizeLine_eq];omega
 let D:∃ q,h'.get? s.heap.objs.size=some q:=let ⟨q,_,_,C,_⟩:=O;⟨q,C⟩;exact rD i (by rw[e];exact True.intro) d D (B5 G hd (E.merge .nil) O)
structure M1(X:Cx)(o:Expr)(m:Str)(apos:Pos)(e:Expr)(cpos:Pos):Prop where
 base:attributeBase o m X.env (eval o X.env)=eval o X.env
 few:((backTo cpos (MF [e] X.env)).all (λx=>!x.1)&&(backToKw cpos (keywordEach [] X.env)).all (λx=>x.1.isSome)
  && decide (([e]:List Expr).length+([]:List Keyword).length+(if([]:List Keyword).isEmpty then 0 else 1)<30))=true
 line:(apos.endLine == cpos.line)=true
 trees:backTo cpos (MF [e] X.env)=[(false,eval e X.env)]
structure M2(X:Cx)(o:Expr)(m:Str)(apos:Pos)(e f:Expr)(cpos:Pos):Prop where
 base:attributeBase o m X.env (eval o X.env)=eval o X.env
 few:((backTo cpos (MF [e,f] X.env)).all (λx=>!x.1)&&(backToKw cpos (keywordEach [] X.env)).all (λx=>x.1.isSome)
  && decide (([e,f]:List Expr).length+([]:List Keyword).length+(if([]:List Keyword).isEmpty then 0 else 1)<30))=true
 line:(apos.endLine == cpos.line)=true
 trees:backTo cpos (MF [e,f] X.env)=[(false,eval e X.env),(false,eval f X.env)]
def IsD(H:Hp)(a:Addr):Prop:=(∃ L,Rd H a (.dK L))∨∃ L,Rd H a (.dT L)
theorem Fl{s:Shared}(I:Inv X Y σ H s)(d:IsD H a):
  s.TypeIs (.ref a) "dict"/\(∀ b,Value.ref a=.ref b->∃ ob,s.heap.get? b=some ob/\ob.dict=none)/\(a == sysModules)=false:=by
 rcases d with⟨L,e⟩|⟨L,e⟩
 .let _ hd g _ m:=zj I.hok e;erw[m.typeIs,λb q=>?_,hd]
  cases q
  let ob _ _ i B _:=m;erw[ob,i,B.2.1]
 .let _ hd j _ m:=zh I.hok e;erw[m.typeIs,λb q=>?_,hd]
  cases q
  let ob _ _ i B _:=m;erw[ob,i,B.2.1]
section
variable{X:Cx}{pins:List (Addr×Obj)}{σ:St}{H:Hp}{s:Shared}{a:Addr}{y d:V}{u r:Value}{o:Option V}{A:Around}{E:Value->Shared->Prop}
theorem d_get2(f:A.units+1<cLine)(I:Inv X pins σ H s)(g:DGet H a y o)(T:RelV y u)(c:RelV d r)(h:∀ w' s',Inv X pins σ H s'->RelV (o.getD d) w'->Q w' s'):
  wpAny (model X.prog X.w) A (call (.builtin "dict.get") [.ref a,u,r]) Q E s:=by
 rcases g with⟨L,k,e,C,l⟩|⟨L,k,b,e,C,G,l⟩
 .subst C;let z hd O rel m:=zj I.hok e;refine call_meetsIn Ln m.typeIs PySem.F.entry_dict_get (Mu _ _ _) (meets_dict_get_default (bx X.prog X.w) a (vG T) hd r) ⟨_,m.mapOf,h _ _ (I.tok _) ?_⟩;rw[l];exact(rel.val k).getD c
 .subst C
  cases (show u=Value.ref b from T)
  let z hd j rel m:=zh I.hok e;refine call_meetsIn Ln m.typeIs PySem.F.entry_dict_get (Mu _ _ _) (meetsH_dict_get_default (tupleKind (bx X.prog X.w)) a b hd r) ⟨tupleKind_room_in1 f,k,j,tH I.hok G,m,h _ _ (I.tok _) ?_⟩;rw[l];exact(rel.val k).getD c
end
def tDGet2(b ty g:TE):TE:=λM H Q=>b M H λx m=>∃ a,x=.ref a/\IsD m a/\ty M m λy u=>g M u λz C=>∃ o,DGet C a y o/\Q (o.getD z) C
def tDPop1(b ty:TE):TE:=λM H Q=>b M H λx m=>∃ a,x=.ref a/\IsD m a/\ty M m λy u=>∃ L k v,u a=some (.dK L)/\y=kV k/\valV L k=some v/\Q v (upd u a (.dK (mS L k)))
section
variable{X:Cx}{o e f:Expr}{apos cpos:Pos}{td ty tx:TE}
theorem Dp(T:X.A.units+1<cLine)(O:PE X o td)(D:PE X e ty)(r:PE X f tx)(m:M2 X o "get" apos e f cpos):PE X (.Call (.Attribute o "get" apos) [e,f] [] cpos) (tDGet2 td ty tx):=by
 intro B s M H Q I h;refine wpAny_Call_method m.base m.few m.line La Ln PySem.F.type_dict_get (thn (O B s M H _ I h) λu J ⟨x,Y,N,c,a,G,d,k⟩=>?_);subst G;obtain rfl:u=Value.ref a:=c;let t1 E _:=Fl N d;erw[t1,E,?_];rw[m.trees]
 refine Ng rfl (Calls.evalArgs_plain (M8 (thn (D B J M Y _ N k) λiv t ⟨y,L,i,b,n⟩ =>
  M8 (thn (r B t M L _ i n) λfv p ⟨z,C,l,rz,ov,g,j⟩=>M7 ?_))))
 exact d_get2 T l g b rz λw q I4 v=>⟨_,C,I4,v,j⟩
theorem Dn(O:PE X o td)(D:PE X e ty)(m:M1 X o "pop" apos e cpos):PE X (.Call (.Attribute o "pop" apos) [e] [] cpos) (tDPop1 td ty):=by
 intro B s M H Q I h;refine wpAny_Call_method m.base m.few m.line La PySem.F.slot_dict_pop PySem.F.type_dict_pop (thn (O B s M H _ I h) λu J ⟨x,Y,N,c,a,z,d,G⟩=>?_);subst z;obtain rfl:u=Value.ref a:=c;let j E _:=Fl N d;erw[j,E,?_];rw[m.trees];refine Ng rfl (Calls.evalArgs_plain (M8 (thn (D B J M Y _ N G) λf t ⟨y,L,i,T,p,k,v,r,C,l,n⟩=>M7 ?_)));subst C;exact d_pop i r T l (.inl rfl) λw q b A=>⟨v,_,b,A,n⟩
end
section
variable{X:Cx}{pins:List (Addr×Obj)}{σ:St}{H:Hp}{s:Shared}{a:Addr}{kvs:List (Key×V)}{A:Around}{E:Value->Shared->Prop}
end
section
variable{X:Cx}{pins:List (Addr×Obj)}{σ:St}{H:Hp}{s:Shared}{a:Addr}{y:V}{u:Value}{A:Around}{E:Value->Shared->Prop}
end
section
variable{κ:Type} [DecidableEq κ]
theorem xC{kvs:List (κ×V)}{k:κ}(h:valV kvs k=none):¬ k∈kvs.map (·.1):=by
 intro m;let p M e:=Im.mp m;let q:(kvs.any λI=>decide (I.1=k))=true:=L3.mpr ⟨p,M,Ni e⟩;rw[gm,h]at q;simp_all
theorem vx:∀{l:List κ}{k:κ},l.Nodup->¬ k∈l->(l++[k]).Nodup
 |[],k,_,_=>by simp
 |a::r,k,h,f=>by
  let Y B:=HS.mp h;show(a::(r++[k])).Nodup;refine HS.mpr ⟨λm=>?_,vx B λm=>f (HQ.mpr (Or.inr m))⟩;simp_all
theorem GK{kvs:List (κ×V)}{k:κ}(v:V)(N:(kvs.map (·.1)).Nodup)(h:valV kvs k=none):((putK kvs k v).map (·.1)).Nodup:=by
 rw[qw v h,HW];exact vx N (xC h)
theorem B3{p:κ×V}{r:List (κ×V)}{k:κ}(e:p.1=k):mS (p::r) k=mS r k:=by
 unfold mS;simp[*]
theorem B4{p:κ×V}{r:List (κ×V)}{k:κ}(e:¬ p.1=k):mS (p::r) k=p::mS r k:=by
 unfold mS;simp[*]
end
def clOf(env:Env)(fr:List (Str×Nat)):List (Str×Addr):=fr.map λp=>(p.1,(env.cells.lookup p.1).getD 0)
def frOf(fr:List (Str×Nat))(σ:St):St:=fr.map λp=>(σ[p.2]?).join
theorem jE{env:Env}:∀{fr:List (Str×Nat)}{y:Str}{c:Addr},(clOf env fr).lookup y=some c->y∈fr.map (·.1)/\c=(env.cells.lookup y).getD 0
 |[],_,_,h=>by cases h
 |p::r,y,c,h=>by
  unfold clOf at h;rw[Il,List.lookup_cons]at h
  cases e:y == p.1 with
  |true =>
   simp_all
  |false =>
   rw[e]at h;let a b:=jE (env:=env) (fr:=r) h;erw[HK _ a,b]
theorem eU{env:Env}:∀{fr:List (Str×Nat)}{y:Str},y∈fr.map (·.1)->(clOf env fr).lookup y=some ((env.cells.lookup y).getD 0)
 |[],_,h=>by cases h
 |p::r,y,h=>by
  unfold clOf;rw[Il,List.lookup_cons]
  cases e:y == p.1 with
  |true =>
   simp_all
  |false =>
   let a:y≠p.1:=λz=>by simp_all
   obtain z|z:=HQ.mp h
   .contradiction
   .exact eU (env:=env) (fr:=r) z
section
variable{X:Cx}{pins:List (Addr×Obj)}{σ:St}{H:Hp}{s:Shared}{scope:Scope}{fr:List (Str×Nat)}{x:Str}
end
def xE(O:TE)(a:St)(J:It)(H1:Hp)(QQ:List V->Hp->Prop):Prop :=
 ∃ W:Nat->Nat->List V->Hp->Prop,(∃ m,W 0 m [] H1)/\∀ i m Y H,W i m Y H->Y.length<=Mz /\
  ((J.stop i H/\QQ Y H)∨(J.go i H/\∃ N:V->Hp->Prop,(∀ y u,N y u->∃ d,d<m/\W (i+1) d (Y++[y]) u)/\∀ x G,J.yld i H x G->O (some x::a) G N))
section
variable{X:Cx}{scope:Scope}{fr:List (Str×Nat)}{x:Str}{elt iter:Expr}{px pos:Pos}{te:TE}{wi:TI}
end
theorem Cq{O:TE}(Pv:Nat->List V->Hp->Prop)(hz:xs.length<=Mz)(o:Pv 0 [] H1)(hl:∀ i ys H,i<=xs.length->Pv i ys H->SqL K H a xs)
  (hs:∀ i x ys H,xs[i]?=some x->Pv i ys H->O (some x::σ) H λy H2=>Pv (i+1) (ys++[y]) H2) (hd:∀ ys H,ys.length=xs.length->Pv xs.length ys H->QQ ys H)
  : xE O σ (Itl K a) H1 QQ:=by
 erw[λi m ys H=>m=xs.length-i/\i<=xs.length/\ys.length=i/\Pv i ys H,⟨xs.length,by simp,Iz _,rfl,o⟩,?_]
 rintro i m ys H ⟨rfl,I,Q,p⟩;let q:=hl i ys H I p;erw[∅,?_]
 by_cases L:i<xs.length
 .refine .inr ⟨⟨xs,xs[i],q,by simp⟩,λy H2=>Pv (i+1) (ys++[y]) H2,λy H2 r=>⟨xs.length-(i+1),∅,rfl,L,by simp[*],r⟩,λx G y=>?_⟩
  let e y:=y;subst e;exact hs i x ys _ (y xs q) p
 .let e:i=xs.length:=by omega
  subst e;exact .inl ⟨⟨xs,q,HF _⟩,hd ys H Q p⟩
theorem zF{lo:Int}{O:TE}(Pv:Nat->List V->Hp->Prop)(hz:n<=Mz)(o:Pv 0 [] H1)
  (hs:∀ i ys H,i<n->Pv i ys H->O (some (.int (lo+i))::σ) H λy H2=>Pv (i+1) (ys++[y]) H2) (hd:∀ ys H,ys.length=n->Pv n ys H->QQ ys H)
  : xE O σ (Itr lo n) H1 QQ:=by
 erw[λi m ys H=>m=n-i/\i<=n/\ys.length=i/\Pv i ys H,⟨n,by simp,Iz _,rfl,o⟩,?_]
 rintro i m ys H ⟨rfl,I,Q,p⟩;erw[∅,?_]
 by_cases L:i<n
 .refine .inr ⟨L,λy H2=>Pv (i+1) (ys++[y]) H2,λy H2 r=>⟨n-(i+1),∅,rfl,L,by simp[*],r⟩,λx G y=>?_⟩
  let e y:=y;subst e y;exact hs i ys _ L p
 .let e:i=n:=by omega
  subst e;exact .inl ⟨HF _,hd ys H Q p⟩
theorem uu:MC "int"=some (.type "int"):=by rfl
theorem Ht:MC "bool"=some (.type "bool"):=by rfl
theorem ib:MC "list"=some (.type "list"):=by rfl
theorem aX:MC "len"=some (.builtin "len"):=by rfl
theorem lF:MC "isinstance"=some (.builtin "isinstance"):=by rfl
theorem oJ:MC "sorted"=some (.builtin "sorted"):=by rfl
theorem xo:MC "reversed"=some (.type "reversed"):=by rfl
theorem uv:MC "enumerate"=some (.type "enumerate"):=by rfl
structure Cal(P:Program)(w:World)(K:HE)(mg:Str->Option Value)(base:Heap)(k:Nat)(x:Str)(ps:List Str)(sp:Sp)(f:Addr)(fd:FuncData):Prop where
 ok:FnOk P w K mg base CX0 k f fd ps sp
 bn:fe K fd ps []
 mg:mg x=some (.ref f)
 kp:IY K (.ref f)=true
structure Mak(P:Program)(w:World)(K:HE)(mg:Str->Option Value)(base:Heap)(k:Nat)(x:Str)(ps:List Str)(sp:Sp)(C f:Addr)(fd:FuncData):Prop where
 mkc:Mk K C f
 ok:FnOk P w K mg base CX0 k f fd ps sp
 bn:fe K fd ps []
 mg:mg x=some (.ref C)
structure Met(P:Program)(w:World)(K:HE)(mg:Str->Option Value)(base:Heap)(k:Nat)(C:Addr)(m:Str)(ps:List Str)(sp:Sp)(f:Addr)(fd:FuncData):Prop where
 me:Meth K C m f
 ok:FnOk P w K mg base CX0 k f fd ps sp
 bn:fe K fd ps []
theorem lZ{a:List Stmt}{t t2:TS}(h:PSs X a t)(i:∀ D σ H,t2 D σ H->t D σ H):PSs X a t2:=λB s σ H D I q=>h B s σ H D I (i D σ H q)
inductive rIsi(K:HE)(xs:List V)(H:L2.Hp)(Q:L2.VK):Prop
 |mk (x c t b u:_) (h0_:xs=[x,c])(h1_:TyOf K H x t)(h2_:((∃ n,c=.ty n/\u=Value.type n)∨∃ a,c=.ref a/\u=Value.ref a))(h3_:Ly K t u=some b)(h4_:Q (.bl b) H)
theorem yu:jB X (.builtin "isinstance") (rIsi X.K):=by
 intro B s M H j i Q I r h;let x c t b u rfl ty f e q:=h;let d G rfl o D:=CL r;let T:G=u:=by
  rcases f with⟨n,rfl,rfl⟩|⟨a,rfl,rfl⟩
  .exact D
  .exact D
 subst T;exact Bv I o ty e λm=>⟨.bl b,H,I.tok m,rfl,q⟩
theorem kit_ii(K:HE):Ly K (.type "int") (.type "int")=some true:=by with_unfolding_all rfl
theorem kit_ib(K:HE):Ly K (.type "int") (.type "bool")=some false:=by with_unfolding_all rfl
inductive RdD(K:HE)(H:Hp):V->PyData->Prop where
 |non:RdD K H .non .none
 |bl (b:Bool):RdD K H (.bl b) (.bool b)
 |int (i:Int):RdD K H (.int i) (.int i)
 |lst {a:Addr} {xs:List V} {ds:List PyData} (h:SqL K H a xs) (hl:xs.length=ds.length) (r:∀(i:Nat)(x:V)(d:PyData),xs[i]?=some x->ds[i]?=some d->RdD K H x d):RdD K H (.ref a) (.list ds)
 |tup {a:Addr} {xs:List V} {ds:List PyData} (h:SqT K H a xs) (hl:xs.length=ds.length) (r:∀(i:Nat)(x:V)(d:PyData),xs[i]?=some x->ds[i]?=some d->RdD K H x d):RdD K H (.ref a) (.tuple ds)
theorem jU{h:Heap}:∀{xs:List V}{us:List Value}{ds:List PyData},Vals xs us->xs.length=ds.length->(∀(i:Nat) x d,xs[i]?=some x->ds[i]?=some d->∀ u,RelV x u->∃ as,Reads h u d as)->∃ as,ReadsAll h us ds as
 |_,_,[],.nil,_,_=>⟨_,.nil⟩
 |_,_,_::_,.nil,e,_=>by cases e
 |_,_,[],.cons _ _,e,_=>by cases e
 |_,_,d::ds,.cons r b,e,k=>by
  let g G:=k 0 _ d rfl rfl _ r;let s n:=jU b (Nat.succ.inj e) λi x c C T=>k (i+1) x c C T;erw[_,.cons G n]
theorem RdD.reads{s:Shared}(I:Inv X Y σ H s){x:V}{d:PyData}(r:RdD X.K H x d):∀ u,RelV x u->∃ as,Reads s.heap u d as:=by
 induction r with
 |non=>intro u f;cases f;erw[_,.none]
 |bl b=>intro u f;cases f;erw[_,.bool b]
 |int i=>intro u f;let t rfl:=f;erw[_,.int i t]
 |lst h G r Q =>
  intro u f
  cases f
  let E rv p _:=I.list h;let as q:=jU (h:=s.heap) rv G Q;let o n e c _ d:=p;erw[_,.list e c d (by simpa using q)]
 |tup h G r Q =>
  intro u f
  cases f
  let E rv p _:=I.tuple h;let as q:=jU (h:=s.heap) rv G Q;let o e c n d:=p;erw[_,.tuple e c d (by simpa using q)]
inductive rSame(b:Bool)(K:HE)(x:L2.V)(y:L2.V)(H:L2.Hp)(Q:L2.VK):Prop
 |mk (d:_) (h0_:RdD K H x d)(h1_:RdD K H y d)(h2_:SeqAt.shaped d=true)(h3_:Q (.bl b) H)
theorem AW(f:X.A.units+64<cLine):OpR X (MH .NotEq) (rSame false X.K):=by
 intro B s M H x y v u Q I c T h;let d o D m q:=h;let as k:=o.reads I v c;let bs n:=D.reads I u T;refine ne_dataH k n m m f ?_;rw[SeqAt.eqv_refl d (SeqAt.canLay_of_shaped m)];erw[.bl false,H,I,rfl,q]
section
variable{X:Cx}{tg:Expr}
end
section
variable{P:Program}{w:World}{H:Hp}{h:Heap}{a:Addr}{o:HO}
theorem bu.get(x:bu P w H h a o):∃ ob,h.get? a=some ob:=by
 cases o with
 |lst j=>obtain⟨_,_,_,_,e⟩:=x;erw[_,e]
 |tup j=>obtain⟨_,_,_,ob,e,_⟩:=x;erw[_,e]
 |dK L=>obtain⟨_,_,_,_,o,_,_,e,_⟩:=x;erw[_,e]
 |dT L=>obtain⟨_,_,_,_,o,_,_,e,_⟩:=x;erw[_,e]
 |set S n=>obtain⟨o,_,_,_,e,_⟩:=x;erw[_,e]
 |ins C l fs=>obtain⟨_,_,_,e,_⟩:=x;erw[_,e]
 |own y=>exact x
 |xd fs=>obtain⟨_,⟨_,_,_,e,_⟩,_⟩:=x;erw[_,e]
 |rng lo I=>obtain⟨_,_,_,e⟩:=x;erw[_,e]
 |frz ob u=>exact⟨_,x.1⟩
 |tbl A=>exact⟨_,(show h.get? a=some _ from x)⟩
 |met f y=>exact⟨_,(show h.get? a=some _ from x)⟩
 |ext s=>exact x.2.1
theorem HOk.none_of(x:HOk P w H h)(e:h.get? a=none):H a=none:=by
 cases q:H a with
 |none=>rfl
 |some u =>
  let D z:=(x a u q).get;simp_all
end
structure XOk(X:Cx)(pins:List (Addr×Obj))(H:Hp)(b:Addr):Prop where
 old:X.s₀.heap.get? b=none
 trk:H b=none
 nl:b≠X.env.locals
 nc:∀ x c,X.env.cells.lookup x=some c->c≠b
 np:∀ p∈X.pn++pins,p.1≠b
section
variable{X:Cx}{pins:List (Addr×Obj)}{σ:St}{H H':Hp}{s s':Shared}{b:Addr}
theorem Inv.xok(I:Inv X pins σ H s)(J:X.ex=[])(e:s.heap.get? b=none)(n:H' b=none):XOk X pins H' b:=by
 erw[?_,n,λz=>?_,λx c q z=>?_,λp M z=>?_]
 .cases q:X.s₀.heap.get? b with
  |none=>rfl
  |some o =>
   let A T:=I.base.there b o q (by simp[*])
   simp_all
 .let m{o _ _ O _}_:=I.loc;simp_all
 .let v o O _:=I.cell x c q;simp_all
 .let:=(I.pin p M).1
  simp_all
theorem Inv.xtrack{o:HO}(I:Inv X pins σ H s)(f:XOk X pins H a)(new:bu X.prog X.w (upd H a o) s.heap a o):Inv X pins σ (upd H a o) s:=by
 let ne:∀ b u,H b=some u->b≠a:=λb u e=>aD e f.trk;let g:∀ b u,s.heap.get? b=some u->b≠a->H b=none->upd H a o b=none:=λb u _ n q=>by rw[ao n];exact q
 erw[I.ok,I.os,I.bare,⟨I.base.keep,I.base.slot,λb D e n J=>?_,I.base.there,λb j e=>?_,λb D j e=>?_,λb A e=>?_⟩,I.loc,I.cell,?_,λx c e=>?_,λp M=>?_,λb u e=>?_,I.len]
 .rw[ao (λz=>by rw[z,f.old]at e;cases e)]
  exact I.base.free b D e n J
 .let:=I.base.tups b j e
  rw[ao (ne _ _ this)];exact this
 .let:=I.base.frzs b D j e
  rw[ao (ne _ _ this)];exact this
 .let m q:=I.base.tbls b A e;erw[m,by rw[ao (ne _ _ q)];exact q]
 .rw[ao (Ne.symm f.nl)];exact I.free
 .rw[ao (f.nc x c e)];exact I.freeC x c e
 .let e n r:=I.pin p M;erw[e,by rw[ao (f.np p M)];exact n,r]
 .by_cases L:b=a
  .rw[L,af]at e
   cases e
   rw[L];exact new
  .rw[ao L]at e;exact(I.hok b u e).stay (λc v _ q=>q) (λc q=>by rw[ao (ne c _ q)];exact q) λc j q=>by rw[ao (ne c _ q)];exact q
end
section
variable{X:Cx}{pins:List (Addr×Obj)}{σ:St}{H:Hp}{s:Shared}{x:Addr}{C:Value}{E:Value->Shared->Prop}
end
section
variable{X:Cx}{k:Nat}{f C:Addr}{fd:FuncData}{ps:List Str}{sp:Sp}{dvs:List V}{ds:List Value}{W:WK}{x m:Str}{p pos apos:Pos}{e o:Expr}{es:List Expr}{ta:TE}{t:TA}
end
section
variable{prog:Program}{w:World}{A:Around}{E:Value->Shared->Prop}{s:Shared}
theorem Bf:typeLookup (.type "list_reverseiterator") "__len__"=pure none:=by rfl
theorem DY:typeLookup (.type "list_reverseiterator") "__length_hint__"=pure (some (.builtin "list_reverseiterator.__length_hint__")):=by rfl
theorem D9{r:Addr}{Q:Bool->Shared->Prop}(u:s.TypeIs (.ref r) "list_reverseiterator")(h:Q false s):wpAny (model prog w) A (Nk (.ref r)) Q E s:=by
 unfold Nk;refine MN (Nj u Bf ?_);wp_delta;refine Nl (λm=>NZ m ∅) (λ_=>?_)
 refine Nl (λm=>NZ m ∅) (λ_=>?_)
 refine MN (Nj u DY ?_);generalize a:("list_reverseiterator.__length_hint__" : String)=c;wp_delta;rw[show splitId c=some ("list_reverseiterator","__length_hint__") from by subst a;rfl]
 subst a;refine MN (Nm (T:="list_reverseiterator") (b:=true) u (by rfl) ?_)
 refine Nl (λm=>NZ m ∅) (λ_=>?_)
 refine Nl (λ_=>?_) (λm=>NZ (by rfl) m)
 refine Nl (λm=>NZ m (by assumption)) (λ_=>?_)
 exact MQ h
end
theorem Inv.track{s:Shared}{o:HO}(I:Inv X Y σ H s)(f:FpOk X Y H a)(new:bu X.prog X.w (upd H a o) s.heap a o):Inv X Y σ (upd H a o) s:=by
 let Q t D l d C:=f;let ne:∀ b u,H b=some u->b≠a:=λb u e=>aD e Q;refine I.step (g':=s.gens) (t':=s.toks) (d':=s.drawn) (h':=s.heap) (ch:=[a]) (λb L=>?_) (λb o _ _ _ e _=>e) (λb o _ _ _ e _=>⟨o.slots,e⟩) (λb o g e n=>?_) (λb o _ e=>⟨o,e⟩) (λb j e=>by rw[ao (ne b _ e)];exact e) (λb o u e=>by rw[ao (ne b _ e)];exact e)
  (λb A e=>⟨#[],by rw[ao (ne b _ e),e];simp⟩) (λm y=>y) (λb u e=>?_) I.bare
 .let G:b=a:=by simpa using L
  rw[G];erw[l,t,d,C]
 .rw[ao (λz=>g (by simp[z]))]
  exact n
 .by_cases L:b=a
  .rw[L,af]at e
   cases e
   rw[L];exact new
  .rw[ao L]at e;exact(I.hok b u e).stay (λc v _ q=>q) (λc q=>by rw[ao (ne c _ q)];exact q) λc j q=>by rw[ao (ne c _ q)];exact q
theorem Inv.turnedL{s:Shared}(I:Inv X Y σ H s)(k:∀ b o,b∉fp->s.heap.get? b=some o->h'.get? b=some o)(T:∀ b∈fp,FpOk X Y H b):Inv X Y σ H {s with heap:=h',toks:=t'}:=by
 let a:∀ b u,H b=some u->b∉fp:=λb u e z=>by rw[(T b z).1]at e;cases e
 refine I.step (g':=s.gens) (d':=s.drawn) (ch:=fp) (λb L=>?_) (λb o _ _ g e _=>k b o g e) (λb o _ _ g e _=>⟨o.slots,k b o g e⟩) (λ_ _ _ _ n=>n)
  (λb o g e=>⟨o,k b o g e⟩) (λ_ _ e=>e) (λ_ _ _ e=>e) (λb A e=>⟨#[],by assumption⟩) (λm y=>?_) (λb u e=>?_) I.bare
 .let Q t D l d C:=T b L;erw[l,t,d,C]
 .let o N M O r:=y;erw[o,N,M,k _ o (λz=>(T _ z).2.1 rfl) O,r]
 .refine(I.hok b u e).stay (λc v g q=>k c v ?_ q) (λ_ q=>q) λ_ _ q=>q;obtain z|z:=g
  .rw[z];exact a b u e
  .exact a c _ z
def Ite(K:HE)(a:Addr):It :=
 ⟨λi H=>∃ j x,SqL K H a j/\j[i]?=some x,λi H v G=>∃ T x,H T=none/\v=.ref T/\G=upd H T (.tup [.int (i:Int),x])/\∀ j,SqL K H a j->j[i]?=some x,λi H=>∃ j,SqL K H a j/\j.length<=i⟩
theorem z8{es:List Expr}{k:Nat}(a e it:Addr)(aT:e≠it):Turn P w K (.Tuple es k pos) (Ite K a) [e,it] e (λi h=>(∃ aa,IsEnum h e it ((i:Nat):Int) aa)/\h.IsListIter it a i) where
 mem:=by simp
 obj:=λi h st b L=>by
  let{aa D}o T c d:=st;obtain rfl|L:=HQ.mp L
  .erw[_,D,λv z=>by
    contradiction]
  .let e3:b=it:=by simpa using L
   subst e3;erw[o,T,λv z=>by simp_all]
 keep:=λi h h' st y=>by
  let{aa D}ab:=st;erw[⟨aa,y e (by simp) _ D⟩,ab.at λo q=>y it (by simp) o q]
 item:=by
  intro X hP hw hK g i B s M H E I r st A;subst hP hw hK;let m x C J:=A;let l rv p hz:=I.list C;let u n ru:=rv.get J;let{aa D}ab:=st;refine wpAny_pyNext_enum_item D ab p.isList (x:=u) (by simpa using n) aT λh' O aW hT ac f=>?_
  erw[_,rfl,?_];refine wpAny_letOwnedTupleGo_enum O λG aI am=>?_;let al:ME e h' G:=am;let a0:e<s.heap.objs.size:=MA D;let an:it<s.heap.objs.size:=by let _ q _:=ab;exact MA q
  let ap:H s.heap.objs.size=none:=I.hok.fresh (HF _);let I0:Inv X B M (upd H s.heap.objs.size (.tup [.int (i:Int),x])) {s with heap:=s.heap.push {cls:=.type "tuple",data:=.seq #[.int (i:Int) s.toks,u]},toks:=s.toks+1} :=
   I.laid (t':=s.toks+1) (λb u e=>MR _ e) (HF _) ⟨by show 2<=Mz;decide,[.int (i:Int) s.toks,u],.cons ⟨_,rfl⟩ (.cons ru .nil),⟨_,MT _ rfl,rfl,_,rfl⟩⟩
  let aS:∀ b∈[e,it],b<s.heap.objs.size:=λb L=>by
   obtain rfl|L:=HQ.mp L
   .exact a0
   .simp_all
  let N:∀ b∈[e,it],upd H s.heap.objs.size (.tup [.int (i:Int),x]) b=none:=λb L=>by
   rw[ao (Ig (aS b L))];exact(r b L).1
  let I2:Inv X B M (upd H s.heap.objs.size (.tup [.int (i:Int),x])) {s with heap:=G,toks:=s.toks+1}:=Inv.turnedL (s:={s with heap:=s.heap.push {cls:=.type "tuple",data:=.seq #[.int (i:Int) s.toks,u]},toks:=s.toks+1}) (h':=G) I0 (t':=s.toks+1) (fp:=[e,it]) (λb o L q=>by
   let nb:b≠e:=λz=>L (by simp[z])
   let a1:b≠it:=λz=>L (by simp[z])
   refine(al.2 b nb).trans ?_;rcases Heap.get?_push_cases q with⟨z1,t⟩|q
   .simp_all
   .exact f b o nb a1 q) λb L=>⟨N b L,(r b L).2⟩
  erw[.ref s.heap.objs.size,_,I2,rfl,⟨s.heap.objs.size,x,ap,rfl,rfl,λY Q=>by rw[I.list_inj Q C];exact J⟩,?_,N]
  erw[⟨u,?_⟩,aW.at λo q=>(al.2 it (Ne.symm aT)).trans q];let e4:(((i+1:Nat):Nat):Int)=(i:Int)+1:=by omega
  rw[e4];exact aI
 done:=by
  intro X hP hw hK g i B s M H E I r st A;subst hP hw hK;let m C J:=A;let l rv p hz:=I.list C;let{aa D}ab:=st;let j:=rv.length;let f0 f1 f2 f3 f4 f5:=r it (by simp)
  exact wpAny_pyNext_enum_end (I.ok.hd g) D ab p.isList (by simp_all) λh' eb=>⟨rfl,I.turned (t':=s.toks) (λb o L e=>eb b o L e) f0 f1 f3 f4 f5⟩
 self:=λ_ _ _ _ _ st h=>by
  let{aa D}_:=st;exact wpAny_pyIter_enum D h
def iEnum(K:HE)(d:TA):TI:=λM H R=>d M H λg m=>∃ a,g=[.ref a]/\(∃ j,SqL K m a j)/\R (Ite K a) m
theorem jW{l:Expr}{d:TA}{es:List Expr}{k:Nat}{tp p:Pos}(A:Gl X "enumerate")(y:X.mg "enumerate"=none)(T:PA X [l] d)(hs:MF [l] X.env=[(false,eval l X.env)]:=by rfl):
  PI X (.Tuple es k tp) (.Call (.Name "enumerate" p) [l] [] pos) (iEnum X.K d):=by
 intro B s M H R I h;refine Call_ (kQ I A y uv (MU (thn (T pos B s M H _ I h) λi J ⟨g,m,N,o,G⟩=>?_) hs rfl));let a e{j C}q:=G;subst e;let u rfl Y:=mN o
 cases Y
 let E rv p t:=N.list C;refine call_enumerate_list p.isList λr D z O f=>?_;refine wpAny_pyIter_enum D ?_;erw[J.heap.objs.size+1,[J.heap.objs.size+1,J.heap.objs.size],_,_,m,rfl,N.kept (t':=J.toks) f,z8 a _ _ (Nat.succ_ne_self _),⟨⟨_,D⟩,z⟩,λb L=>?_,q];let c:J.heap.objs.size<=b:=by
  obtain rfl|L:=HQ.mp L
  .exact Kh _
  .simp_all
 exact N.fpOk c (N.hok.fresh c)
theorem qZ{g:TG}{tb:TS}{D:Ends}(Pv:Nat->St->Hp->Prop)(o:Pv 0 σ H)(hl:∀ i σ H,i<=xs.length->Pv i σ H->SqL K H a xs)(hs:∀ i x σ H T,xs[i]?=some x->Pv i σ H->H T=none->g (.ref T) σ (upd H T (.tup [.int (i:Int),x])) λc H2=>tb {D with nx:=Pv (i+1),ct:=Pv (i+1),bk:=D.nx} c H2)(hd:∀ σ H,Pv xs.length σ H->D.nx σ H):
  ∃ W:Nat->Nat->St->Hp->Prop,(∃ m,W 0 m σ H)/\∀ i m σ H,W i m σ H ->
   ((Ite K a).stop i H/\D.nx σ H)∨((Ite K a).go i H/\∃ N:St->Hp->Prop,(∀ σ' H',N σ' H'->∃ d,d<m/\W (i+1) d σ' H')/\∀ x H',(Ite K a).yld i H x H'->g x σ H' λc H2=>tb {D with nx:=N,ct:=N,bk:=D.nx} c H2):=by
 erw[λi m σ H=>m=xs.length-i/\i<=xs.length/\Pv i σ H,⟨xs.length,by simp,Iz _,o⟩,?_]
 rintro i m σ H ⟨rfl,I,p⟩;let q:=hl i σ H I p;by_cases L:i<xs.length
 .refine .inr ⟨⟨xs,xs[i],q,by simp⟩,Pv (i+1),λσ' H' w=>⟨xs.length-(i+1),∅,rfl,L,w⟩,λv H' y=>?_⟩
  let T x u rfl rfl y:=y;exact hs i x σ _ T (y xs q) p u
 .let e:i=xs.length:=by omega
  subst e;exact .inl ⟨⟨xs,q,HF _⟩,hd σ H p⟩
theorem iP(h:j<n):ixN n (j:Int)=some j:=by
 unfold ixN;simp[*]
theorem iT:∀{ds:List PyData},(∀ d∈ds,d.canLay0=true)->PyData.canLayAll0 ds=true
 |[],_=>by rfl
 |d::ds,h=>by
  rw[PyData.canLayAll0,h d (by simp),iT λx J=>h x (by simp[J])]
  rfl
theorem kh{n:Nat}:∀{ds:List PyData},(∀ d∈ds,d.depth<=n)->PyData.depthAll ds<=n
 |[],_=>by simp[PyData.depthAll]
 |d::ds,h=>by
  let Y:=h d (by simp)
  let B:=kh (ds:=ds) λx J=>h x (HK _ J);rw[PyData.depthAll];omega
theorem jG{ds:List PyData}(h:∀ d∈ds,d.canLay0=true/\d.depth<=10):SeqAt.shaped (.list ds)=true:=by
 let Y:=iT λd hd=>(h d hd).1;let B:=kh λd hd=>(h d hd).2;let J:Nn (.list ds)<=64:=by simp only[Nn];omega
 show(PyData.canLay0 (.list ds)&&decide (Nn (.list ds)<=64))=true;rw[Lh];erw[by assumption,Ni J]
theorem flat2(i j:Int):(PyData.tuple [.int i,.int j]).canLay0=true/\(PyData.tuple [.int i,.int j]).depth<=10:=by
 constructor
 .rfl
 .simp[Nn,PyData.depthAll]
def cxG(X:Cx)(scope:Scope)(fr:List (Str×Nat))(xs:List Str)(C:Addr)(ex:List Addr)(s:Shared)(H:Hp):Cx where
 prog:=X.prog
 w:=X.w
 K:=X.K
 mg:=X.mg
 base:=X.base
 A:=X.A
 N:=xs++fr.map (·.1)
 s₀:=s
 H₀:=H
 env:=compEnvC scope (clOf X.env fr) C X.env
 outer:=X.stack
 stack:=X.stack
 ex:=ex
 fn:=λ_=>false
 calm:=X.calm
 pn:=[]
 xe:=λ_ _=>False
structure mU(X:Cx)(scope:Scope)(fr:List (Str×Nat))(xs:List Str):Prop where
 clos:closureFor scope X.env=pure (clOf X.env fr)
 cell:∀ y∈scope.names,y.2≠.cell
 kind:scope.kind=.function
 names:∀ y∈scope.names,y.2=.local->scope.names.lookup y.1=some .local
 slot:∀ p∈fr,X.N[p.2]?=some p.1/\X.env.kindOf p.1=some .cell
 has:∀ y∈(relabel scope X.env).names,(y.2=.cell∨y.2=.free)->y.1∈fr.map (·.1)
 frk:∀ p∈fr,(relabel scope X.env).names.lookup p.1=some .cell
theorem mU.of{xs:List Str}(clos:closureFor scope X.env=pure (clOf X.env fr))(cell:∀ y∈scope.names,y.2≠.cell)(kind:scope.kind=.function)(names:∀ y∈scope.names,y.2=.local->scope.names.lookup y.1=some .local)(slot:∀ p∈fr,X.N[p.2]?=some p.1/\X.env.kindOf p.1=some .cell)(g:∀ z∈scope.names,z.2=.free->z.1∈fr.map (·.1))(frk:∀ p∈fr,(relabel scope X.env).names.lookup p.1=some .cell):mU X scope fr xs where
 clos:=clos
 cell:=cell
 kind:=kind
 names:=names
 slot:=slot
 has:=λz t f=>by
  let{n k}j e:=Im.mp (show z∈scope.names.map _ from t);let B:=cell _ j;dsimp only at e B;let D:z.1=n:=by rw[← e];split<;>rfl
  let r:k=.free:=by
   by_cases q:k=.free
   .exact q
   .let L:(k == NameKind.free)=false:=by simpa using q
    lia
  let:=g _ j r;rw[D];exact this
 frk:=frk
abbrev nons(xs:List Str):St:=HR xs.length none
section
variable{X:Cx}{pins:List (Addr×Obj)}{σ:St}{H:Hp}{s:Shared}{scope:Scope}{fr:List (Str×Nat)}{xs:List Str}
theorem mU.cells(O:mU X scope fr xs)(I:Inv X pins σ H s){y:Str}{c:Addr}(h:(clOf X.env fr).lookup y=some c):X.env.cells.lookup y=some c:=by
 let j e:=jE h;let p M f:=Im.mp j;let k:=(O.slot p M).2;rw[f]at k;let D T:=I.ok.has y (.inl k);simp[*]
theorem Bx(O:mU X scope fr xs)(I:Inv X pins σ H s)(a:∀ b∈fp,FpOk X pins H b)(an:∀ b∈fp,b<s.heap.objs.size){g:Heap}{tk:Nat}(A:g=s.heap.push (Np []))(f:∀ b o,g.get? b=some o->h'.get? b=some o)(hC:h'.Ns g.objs.size λ_=>none):
  Inv (cxG X scope fr xs g.objs.size (s.heap.objs.size::fp) {s with heap:=g} H) (X.pn++pins++[(s.heap.objs.size,Np [])]) (nons xs++frOf fr σ) H {s with heap:=h',toks:=tk}:=by
 let aa:g.objs.size=s.heap.objs.size+1:=by rw[A,M6]
 let kp:∀ b o,s.heap.get? b=some o->g.get? b=some o:=λb o e=>by rw[A];exact MR _ e
 let aI:∀ b o,s.heap.get? b=some o->h'.get? b=some o:=λb o e=>f b o (kp b o e);let a1:h'.get? s.heap.objs.size=some (Np []):=f _ _ (by rw[A];exact MT _ rfl)
 let al:∀ b,b<s.heap.objs.size->b≠g.objs.size:=λb e=>by rw[aa];exact Ig (Jv e)
 let aS:s.heap.objs.size≠g.objs.size:=by rw[aa];exact Ig (JP _)
 let ap:H g.objs.size=none:=I.hok.fresh (by rw[aa];exact Kh _)
 let a2:H s.heap.objs.size=none:=I.hok.fresh (HF _);let cne:∀ y c,X.env.cells.lookup y=some c->c<s.heap.objs.size:=λy c e=>by
  let v q:=I.cell y c e;exact q.lt
 let am:∀ b,b≠X.env.locals->b∉X.fs->b∉frs X.stack:=λb Y B z=>(HQ.mp (I.stkSub b z)).elim Y B;let aT:s.heap.objs.size∉frs X.stack:=am _ (Ji I.lt) (I.nofs (HF _));erw[⟨I.ok.mod,O.kind,I.ok.glob,I.ok.blt,HF _,?_,?_,λ_ _ z _=>(by cases z),I.ok.hd,I.ok.frames,.inl rfl,?_,?_,?_,?_,?_,?_,I.stkFree⟩,rfl,I.bare,Un.kept f,?_,?_,ap,?_,?_,I.hok.kept aI,?_]
 .intro y z c Y B;exact I.ok.inj y z c (O.cells I Y) (O.cells I B)
 .intro y Q;let j:y∈fr.map (·.1):=by
   obtain Q|Q:=Q
   .exact O.has (y,_) (JL Q) (.inl rfl)
   .exact O.has (y,_) (JL Q) (.inr rfl)
  erw[_,eU j]
 .intro b L;obtain rfl|L:=HQ.mp L
  .erw[aS,λy c e=>Ig (cne y c (O.cells I e))]
  .erw[al b (an b L),λy c e=>(a b L).2.2.2.2.1 y c (O.cells I e)]
 .intro b o e;erw[kp b o (I.bs b o e).1,(I.bs b o e).2]
 .show X.base.objs.size<=g.objs.size;rw[aa];exact LP (IK I.ok.bsz I.sz)
 .intro b o e L;obtain z|L:=HQ.mp L
  .let:=MA (I.bs b o e).1
   rw[z]at this;exact JI _ this
  .rcases(a b L).2.2.2.1 with z|z
   .exact I.ok.noex b o e z
   .exact NZ (Iy (MA (I.ok.bs b o e).1) z) (JI _)
 .intro b L;obtain z|L:=HQ.mp L
  .rw[z];exact aT
  .exact am b (a b L).2.1 (a b L).2.2.1
 .exact(I.kept (h':=g) (t':=s.toks) kp).stack
 .erw[_,hC,λi y v C T x=>?_];let aW:(xs++fr.map (·.1))[i]?=some y:=C;by_cases N:i<xs.length
  .rw[HH (by simpa using N)]at T
   rw[Jo,NX N]at T
   cases T
  .let ab:(fr.map (·.1))[i-xs.length]?=some y:=by
    rw[HG ∅]at aW
    exact aW
   let ac:(frOf fr σ)[i-xs.length]?=some (some v):=by
    rw[HG (by simp;omega)]at T
    simpa using T
   generalize i-xs.length=k at ab ac;unfold frOf at ac;rw[HN]at ab ac
   cases q:fr[k]? with
   |none=>rw[q]at ab;cases ab
   |some p =>
    rw[q]at ab ac;let ey:p.1=y:=Iw ab;let ev:(σ[p.2]?).join=some v:=Iw ac;let M:p∈fr:=HC q;let hN hK:=O.slot p M;let a0:=O.frk p M;rw[ey]at hN hK a0;let a3:σ[p.2]?=some (some v):=by
     cases E:σ[p.2]? with
     |none=>rw[E]at ev;cases ev
     |some w=>rw[E]at ev;exact congrArg some ev
    let m D G:=I.loc;let u r l:=G p.2 y v hN a3 (.inr (.inl hK));erw[u,r,?_];rcases l with⟨J,_⟩|⟨_,c,ec,z⟩
    .rw[hK]at J;cases J
    .let j:y∈fr.map (·.1):=by rw[← ey];exact Im.mpr ⟨p,M,rfl⟩
     let el:=eU (env:=X.env) j;rw[ec]at el;exact .inr ⟨.inl a0,c,el,by let o t hd:=z;erw[o,aI _ _ t,hd]⟩
 .intro y c e;let v o t hd:=I.cell y c (O.cells I e);erw[v,o,aI _ _ t,hd]
 .intro y c e;exact I.freeC y c (O.cells I e)
 .intro p M;obtain M|M:=HY.mp M
  .cases M
  .obtain M|M:=HY.mp M
   .let e n ne nf d:=I.pin p M;erw[aI _ _ e,n,al _ (MA e),am _ ne nf,d]
   .let h:p=(s.heap.objs.size,Np []):=by simpa using M
    subst h;erw[a1,a2,aS,aT,λv z=>by cases z]
 .show(nons xs++frOf fr σ).length=(xs++fr.map (·.1)).length;unfold frOf;simp
theorem qU{g:Heap}{s':Shared}{σ':St}(I:Inv X pins σ H s)(r:∀ b∈fp,FpOk X pins H b)(j:g=s.heap.push (Np []))(J:Inv (cxG X scope fr xs g.objs.size (s.heap.objs.size::fp) {s with heap:=g} H) (X.pn++pins++[(s.heap.objs.size,Np us)]) σ' H' s')(hv:Vals ys us)(hl:ys.length<=Mz):
  Inv X pins σ (upd H' s.heap.objs.size (.lst ys)) s'/\H' s.heap.objs.size=none/\FpOk X pins (upd H' s.heap.objs.size (.lst ys)) g.objs.size/\∃ m,s'.heap.Ns g.objs.size m:=by
 let O:g.objs.size=s.heap.objs.size+1:=by rw[j,M6]
 let G:∀ b o,s.heap.get? b=some o->g.get? b=some o:=λb o e=>by rw[j];exact MR _ e
 let l h _ _ _:=J.pin (s.heap.objs.size,Np us) (by simp)
 let i:g.objs.size≠s.heap.objs.size:=by rw[O];exact Ji (JP _)
 let f:∀ b u,H' b=some u->b≠s.heap.objs.size:=λb u e z=>by simp_all
 let d:∀ b o,s.heap.get? b=some o->b∉fp->b∉s.heap.objs.size::fp:=λb o e L z=>by
  obtain z|z:=HQ.mp z
  .let:=MA e
   simp_all
  .exact L z
 let k:Un (frs X.stack) (s.heap.objs.size::fp) H H' g s'.heap:=J.base;let p:∀ b o,s.heap.get? b=some o->b≠s.heap.objs.size:=λb o e=>Ig (MA e);let un:Un (frs X.stack) fp H (upd H' s.heap.objs.size (.lst ys)) s.heap s'.heap:=by
  erw[λb o e n L D=>k.keep b o (G b o e) n L (d b o e D),λb o e n L D=>k.slot b o (G b o e) n L (d b o e D),λb o e n D=>?_,λb o e D=>k.there b o (G b o e) (d b o e D),λb xs e=>?_,λb o u e=>?_,λb A e=>?_]
  .rw[ao (p b o e)];exact k.free b o (G b o e) n (d b o e D)
  .let q:=k.tups b xs e
   rw[ao (f b _ q)];exact q
  .let q:=k.frzs b o u e
   rw[ao (f b _ q)];exact q
  .let a q:=k.tbls b A e;erw[a,by rw[ao (f b _ q)];exact q]
 let Y:HOk X.prog X.w (upd H' s.heap.objs.size (.lst ys)) s'.heap:=λb u e=>by
  by_cases L:b=s.heap.objs.size
  .rw[L,af]at e
   cases e
   rw[L];erw[hl,us,us.length,hv,l]
  .rw[ao L]at e;exact(J.hok b u e).stay (λc v _ q=>q) (λc q=>by rw[ao (f c _ q)];exact q) λc xs q=>by rw[ao (f c _ q)];exact q
 let os:s'.os=s.os:=J.os;erw[I.call' os un Y J.bare λb L=>⟨(r b L).2.2.2.1,(r b L).2.1,(r b L).2.2.2.2⟩,h,?_,?_]
 .refine I.fpOk (H':=upd H' s.heap.objs.size (.lst ys)) (b:=g.objs.size) (by rw[O];exact Kh _) ?_
  rw[ao i];exact J.free
 .let m N _:=J.loc;erw[m,N]
end
def PTs(X:Cx)(l:List Expr)(t:TT):Prop :=
 ∀(B:List (Addr×Obj))(s:Shared)(M:St)(H:Hp)(Q:Bool->Hp->Prop),Inv X B M H s->t M H Q ->
  wpAny (model X.prog X.w) X.A (forIn l true λc r=>if r=true then do let ok ← isTrue c X.env (eval c X.env);pure (ForInStep.yield ok) else pure (ForInStep.yield r)) (λb k=>∃ G,Inv X B M G k/\Q b G) X.xe s
def tYes:TT:=λ_ H Q=>Q true H
theorem Gb:PTs X [] tYes:=λ_ _ _ H _ I h=>wpAny_tests_nil ⟨H,I,h⟩
theorem jV{c:Expr}{t:TT}(h:PT X c t):PTs X [c] t:=λB s M H Q I q=>wpAny_tests_one (h B s M H Q I q)
section
variable{prog:Program}{w:World}{A:Around}{s:Shared}
theorem Cr{k b d:Expr}{l:List Expr}{it:Value}(I:Nat->Shared->Prop)(turn:∀ n s,I n s->wpAny (model prog w) A (pyNext it) (λr s₁=>match r with
   |none=>R (.ok .next) s₁
   |some v=>wpAny (model prog w) A (letOwnedTupleGo b it v) (λ_ s₀=>wpAny (model prog w) A (assign b env v) (λ_ s₂ =>
     wpAny (model prog w) A (forIn l true λc r=>if r=true then do let ok ← isTrue c env (eval c env);pure (ForInStep.yield ok) else pure (ForInStep.yield r)) (λok f=>if ok=true then wpAny (model prog w) A (eval k env) (λx i =>
      wpAny (model prog w) A (call (.builtin "list.append") [u,x]) (λ_ o=>∃ m,m<n/\I m o) (notedBy (model prog w) A env λe s'=>R (.error e) s') i) (notedBy (model prog w) A env λe s'=>R (.error e) s') f
      else ∃ m,m<n/\I m f) (notedBy (model prog w) A env λe s'=>R (.error e) s') s₂)
     (notedBy (model prog w) A env λe s'=>R (.error e) s') s₀) (notedBy (model prog w) A env λe s'=>R (.error e) s') s₁) (notedBy (model prog w) A env λe s'=>R (.error e) s') s)(n:Nat)(h:I n s):M5 (model prog w) A (.compLoop (.ListComp k [⟨b,d,l,0⟩] scope pos) 0 it u env) R s:=by
 refine codeAny_loop rfl I (λn s B=>?_) n h;show wpAny _ A ((compTurn (.ListComp k [⟨b,d,l,0⟩] scope pos) 0 it u env).onRaise (λx=>do noteFrame x env;theTreesLotGoes x)) _ _ s
 refine wpAny_noted ?_;rw[compTurn_list];refine MN (wpAny_standAt (MN (MG (turn n s B) (λr s₁ a=>?_) λ_ _ J=>J)))
 cases r with
 |none=>exact MQ a
 |some v =>
  refine MN (MG a (λ_ s₀ p=>?_) λ_ _ J=>J);refine MN (MG p (λ_ s₂ g=>?_) λ_ _ J=>J);refine MN (MG g (λy f j=>?_) λ_ _ J=>J)
  cases y with
  |false=>exact MQ ⟨rfl,j⟩
  |true=>exact MN (MN (MG j (λx i q=>MN (MG q (λ_ o t=>MQ (MQ ⟨rfl,t⟩)) λ_ _ J=>J)) λ_ _ J=>J))
end
def ik(g:TG)(tt:TT)(O:TE)(n:Nat)(a:St)(J:It)(H1:Hp)(QQ:List V->Hp->Prop):Prop :=
 ∃ W:Nat->Nat->List V->Hp->Prop,(∃ m,W 0 m [] H1)/\∀ i m Y H,W i m Y H->Y.length<=Mz /\
  ((J.stop i H/\QQ Y H)∨(J.go i H/\∃ N:List V->Hp->Prop,(∀ j u,N j u->∃ d,d<m/\W (i+1) d j u) /\
   ∀ x G,J.yld i H x G->g x (HR n none++a) G λc u=>c.drop n=a/\tt c u λb C=>if b=true then O c C (λy E=>N (Y++[y]) E) else N Y C))
section
variable{X:Cx}{scope:Scope}{fr:List (Str×Nat)}{xs:List Str}{elt iter tg:Expr}{ifs:List Expr}{pos:Pos}{te:TE}{tt:TT}{tgt:TG}{wi:TI}
theorem pH{s:Shared}{tn:Nat->Heap->Prop}{J:It}{RR:Value->Addr->Result->Shared->Prop}(l:X.calm=true)(O:mU X scope fr xs)(aI:∀ C ex s H,PG (cxG X scope fr xs C ex s H) tg tgt)(j:∀ C ex s H,PTs (cxG X scope fr xs C ex s H) ifs tt)(B:∀ C ex s H,PE (cxG X scope fr xs C ex s H) elt te)(I:Inv X Y σ H s)(T:Turn X.prog X.w X.K tg J fp it tn)(st:tn 0 s.heap)(hf:∀ b∈fp,FpOk X Y H b)(G:ik tgt tt te xs.length (frOf fr σ) J H QQ)(fin:∀ D C H4 ys s4 m,Inv X Y σ (upd H4 D (.lst ys)) s4->H4 D=none->FpOk X Y (upd H4 D (.lst ys)) C->s4.heap.Ns C m->QQ ys H4->RR (.ref D) C (.ok .next) s4):
  wpAny (model X.prog X.w) X.A (newList []) (λab al=>wpAny (model X.prog X.w) X.A (newFunctionEnv scope X.env.globals (clOf X.env fr) [] X.env.qual none .none (some X.env)) (λba a0 =>
   M5 (model X.prog X.w) X.A (.compStart (.ListComp elt [⟨tg,iter,ifs,0⟩] scope pos) 0 (.ref it) ab {ba with scope:=relabel scope X.env}) (RR ab ba.locals) a0) E al) E s:=by
 let W{m0 w0}turn:=G;let a1:∀ b∈fp,b<s.heap.objs.size:=λb L=>by
  let o e _:=T.obj 0 s.heap st b L;exact MA e
 refine Nq (wpAny_newFunctionEnv O.cell (by intro y hy;simp at hy) (λac aS aT=>?_) O.kind)
 dsimp only at aS aT ⊢;generalize bv:s.heap.push {cls:=.type "list",dict:=none,data:=.seq ([]:List Value).toArray}=g at aS aT ⊢;let hg:g=s.heap.push (Np []):=bv.symm;let hsz:g.objs.size=s.heap.objs.size+1:=by rw[hg,M6]
 let f:∀ b o,g.get? b=some o->ac.get? b=some o:=λb o e=>aT.extBut b o (Ig (MA e)) (MR _ e);let kp:∀ b o,s.heap.get? b=some o->ac.get? b=some o:=λb o e=>f b o (by rw[hg];exact MR _ e)
 let J0:=Bx (h':=ac) (tk:=s.toks+([]:List (Str×Value)).length) O I hf a1 hg f aS;let am:∀{H':Hp}{us:List Value},(∀ b∈fp,H' b=none)->∀ b∈fp,FpOk (cxG X scope fr xs g.objs.size (s.heap.objs.size::fp) {s with heap:=g} H) (X.pn++Y++[(s.heap.objs.size,Np us)]) H' b:=λ{H' us} hn b L=>by
  let _ f1 f2 f3 f4 f5:=hf b L;erw[hn b L,?_,λz=>(HQ.mp (I.stkSub b z)).elim f1 f2,.inl (HK _ L),λy c e=>f4 y c (O.cells I e),λp M=>?_]
  .show b≠g.objs.size;rw[hsz];exact Ig (Jv (a1 b L))
  .obtain M|M:=HY.mp M
   .cases M
   .obtain M|M:=HY.mp M
    .exact f5 p M
    .let ep:p=(s.heap.objs.size,Np us):=by simpa using M
     rw[ep];exact Ji (a1 b L)
 let bb:M5 (model X.prog X.w) X.A (.compLoop (.ListComp elt [⟨tg,iter,ifs,0⟩] scope pos) 0 (.ref it) (.ref s.heap.objs.size) (compEnvC scope (clOf X.env fr) g.objs.size X.env))
   (RR (.ref s.heap.objs.size) g.objs.size) {s with heap:=ac,toks:=s.toks+([]:List (Str×Value)).length}:=by
  refine Cr (λn s'=>∃ i ys us H',Inv (cxG X scope fr xs g.objs.size (s.heap.objs.size::fp) {s with heap:=g} H) (X.pn++Y++[(s.heap.objs.size,Np us)]) (nons xs++frOf fr σ) H' s'/\Vals ys us/\tn i s'.heap/\(∀ b∈fp,H' b=none)/\W i n ys H') ?_ m0
   ⟨0,[],[],H,J0,.nil,T.keep 0 s.heap ac st λb _ o e=>kp b o e,λb L=>(hf b L).1,w0⟩
  rintro n s3 ⟨i,ys,us,H3,J3,x,a2,a3,w3⟩;let aa hh:=turn i n ys H3 w3;let none_err:∀{α:Type}{t:Sem α}{Q:α->Shared->Prop}{E':Value->Shared->Prop}{s:Shared},wpAny (model X.prog X.w) X.A t Q (λ_ _=>False) s->wpAny (model X.prog X.w) X.A t Q E' s:=λh=>MG h (λ_ _ q=>q) λ_ _ z=>z.elim;let a4:∀{ap:St},ap.length=(nons xs++frOf fr σ).length->ap.drop xs.length=frOf fr σ->∀(i:Nat) v,(nons xs++frOf fr σ)[i]?=some (some v)->ap[i]?=some (some v):=λ{ap} a5 e6 i v e=>by
   by_cases a:i<xs.length
   .rw[HH (by simpa using a),Jo,NX a]at e
    cases e
   .rw[HG (by simp_all),← e6,Kv]at e
    simp_all
  rcases hh with⟨stop,qn⟩|⟨go,N,hN,step⟩
  .refine none_err (thn (T.done (cxG X scope fr xs g.objs.size (s.heap.objs.size::fp) {s with heap:=g} H) rfl rfl rfl l i _ s3 _ H3 _ J3 (am a3) a2 stop) λr s4 ⟨d,J4⟩=>?_);subst d;let I4 nD fC m hn:=qU I hf hg J4 x aa;exact fin _ _ H3 ys s4 m I4 nD fC hn qn
  .refine none_err (thn (T.item (cxG X scope fr xs g.objs.size (s.heap.objs.size::fp) {s with heap:=g} H) rfl rfl rfl l i _ s3 _ H3 _ J3 (am a3) a2 go) λr s4 ⟨u,d,h4⟩=>?_);subst d;refine none_err (thn h4 λ_ s5 ⟨v,H5,J5,r5,y5,an,be⟩=>?_);let bB:=J5.pinned (am be) (T.obj _ _ an);refine none_err (thn (aI _ _ _ _ _ s5 _ H5 v u _ bB r5 (step v H5 y5)) λ_ s6 ⟨ap,H6,J6,e6,q6⟩=>?_);refine none_err (thn (j _ _ _ _ _ s6 ap H6 _ J6 q6) λb bi ⟨a6,bf,a7⟩=>?_);let a5:ap.length=(nons xs++frOf fr σ).length:=J6.len.trans J3.len.symm
   cases b with
   |false =>
    rw[NY Io]at a7 ⊢;let m' hm w7:=hN ys a6 a7;let aW:∀ b∈fp,∀ o,s5.heap.get? b=some o->bi.heap.get? b=some o/\a6 b=none:=λb L o e=>by
     let k q2 _:=bf.pin (b,o) (Ir _ (Ir _ (jd L e)));erw[k,q2]
    erw[m',hm,i+1,ys,us,a6,bf.unpinned.weak (σ':=nons xs++frOf fr σ) a5.symm (a4 a5 e6),x,T.keep _ _ _ an λb L o e=>(aW b L o e).1,λb L=>?_,w7];let o e _:=T.obj _ _ an b L;exact(aW b L o e).2
   |true =>
    rw[NX rfl]at a7 ⊢;refine none_err (thn (B _ _ _ _ _ bi _ a6 _ bf a7) λu7 s7 ⟨v7,H7,J7,r7,q7⟩=>?_);let m' hm w7:=hN _ H7 q7;let eD nD dC dF dd:=J7.pin (s.heap.objs.size,Np us) (Ir _ (IU _ (Ir _ (by simp))))
    let bC:=x.length;refine append_at (hsz:=by simp_all) eD λh8 bm bJ=>?_
    let bn:∀ p∈X.pn++Y,p.1≠s.heap.objs.size:=λp M z=>by
     let:=MA (I.pin p M).1;simp_all
    let bK:Inv (cxG X scope fr xs g.objs.size (s.heap.objs.size::fp) {s with heap:=g} H) (X.pn++Y) _ H7 s7:=J7.pins_of λp M=>J7.pin p (Ir _ (IU _ (IU _ M)))
    let J8:Inv (cxG X scope fr xs g.objs.size (s.heap.objs.size::fp) {s with heap:=g} H) (X.pn++Y) _ H7 {s7 with heap:=h8}:=bK.turned (t':=s7.toks) (λb o L e=>(bm.2 b L).trans e) nD dC (.inl HL) (λy c e z=>by
     let w' q:=I.cell y c (O.cells I e);let:=q.lt
     simp_all) (λp M=>(HY.mp M).elim (λz=>by cases z) (bn p))
    let J9:Inv (cxG X scope fr xs g.objs.size (s.heap.objs.size::fp) {s with heap:=g} H) (X.pn++Y++[(s.heap.objs.size,Np (us++[u7]))]) _ H7 {s7 with heap:=h8}:=J8.pins_of λp M=>by
     obtain M|M:=HY.mp M
     .exact J8.pin p (Ir _ M)
     .let ep:p=(s.heap.objs.size,Np (us++[u7])):=by simpa using M
      subst ep;erw[bJ.trans (congrArg some (LCg.lst_snoc us u7)),nD,dC,dF,λv z=>by cases z]
    let bP:=J9.weak (σ':=nons xs++frOf fr σ) a5.symm (a4 a5 e6);let aW:∀ b∈fp,∀ o,s5.heap.get? b=some o->s7.heap.get? b=some o/\H7 b=none:=λb L o e=>by
     let k q2 _:=J7.pin (b,o) (Ir _ (Ir _ (jd L e)));erw[k,q2]
    erw[m',hm,i+1,ys++[v7],us++[u7],H7,bP,x.append (.cons r7 .nil),T.keep _ _ _ an λb L o e=>(bm.2 b (Ig (a1 b L))).trans (aW b L o e).1,λb L=>?_,w7];let o e _:=T.obj _ _ an b L;exact(aW b L o e).2
 exact codeAny_compStart_list bb (T.self X.A 0 _ _ _ (T.keep 0 s.heap ac st λb _ o e=>kp b o e) bb)
def EU(wi:TI)(g:TG)(tt:TT)(te:TE)(n:Nat)(fr:List (Str×Nat)):TE:=λM H Q=>wi M H λJ m=>ik g tt te n (frOf fr M) J m λY u=>∀ D,u D=none->Q (.ref D) (upd u D (.lst Y))
theorem Dq(g:X.calm=true)(O:mU X scope fr xs)(hi:PI X tg iter wi)(aa:∀ C ex s H,PG (cxG X scope fr xs C ex s H) tg tgt)(i:∀ C ex s H,PTs (cxG X scope fr xs C ex s H) ifs tt)(d:∀ C ex s H,PE (cxG X scope fr xs C ex s H) elt te)(hs:∀ x,MV iter X.env x=pure x:=by intro _;rfl):
  PE X (.ListComp elt [⟨tg,iter,ifs,0⟩] scope pos) (EU wi tgt tt te xs.length fr):=by
 intro B s M H Q I h;rw[eval_ListComp];refine wpAny_comprehension_free (use:=none) rfl hs O.clos O.kind O.names (thn (hi B s M H _ I h) λxv k Y=>thn Y λac y G=>?_);let it fp tn J u e z T l v n:=G;subst e;refine pH (RR:=λp C=>compPost (model X.prog X.w) X.A X.xe none (EP X B M Q) p C) g O aa i d z T l v n ?_;intro D C E t q m f nD fC N q4;erw[m,N,λr ab=>?_];let g0 a c j g4 g5:=fC;erw[.ref D,_,f.turned (t':=q.toks) (λb o L e=>(ab.2 b L).trans e) g0 a j g4 g5,rfl,q4 D nD]
def r8(i:Nat)(wi:TI)(g:TG)(tt:TT)(te:TE)(n:Nat)(fr:List (Str×Nat)):TS:=λD M H=>wi M H λJ m=>ik g tt te n (frOf fr M) J m λY u=>∀ a,u a=none->D.nx (M.set i (some (.ref a))) (upd u a (.lst Y))
theorem u6{y:Str}{py am:Pos}(l:X.calm=true)(hN:X.N.Nodup)(ab:X.N[i]?=some y)(c:X.env.scope.names.lookup y=some .local)(O:mU X scope fr xs)(hi:PI X tg iter wi)(al:∀ C ex s H,PG (cxG X scope fr xs C ex s H) tg tgt)(n:∀ C ex s H,PTs (cxG X scope fr xs C ex s H) ifs tt)(d:∀ C ex s H,PE (cxG X scope fr xs C ex s H) elt te)(aI:swapsWith (.ListComp elt [⟨tg,iter,ifs,0⟩] scope pos) (some (.Name y py)) am.line X.env=pure true:=by rfl)(hs:∀ x,MV iter X.env x=pure x:=by intro _;rfl):
  PS X (.Assign [.Name y py] (.ListComp elt [⟨tg,iter,ifs,0⟩] scope pos) am) (r8 i wi tgt tt te xs.length fr):=by
 intro B s M H D I h;rw[exec_Assign_Name_used _ _ _ _ aI];refine MN (wpAny_standAt (MN ?_));show wpAny _ X.A (do let _ ← comprehension (.ListComp elt [⟨tg,iter,ifs,0⟩] scope pos) scope X.env _ (newList []) false (eval iter X.env) (some (assign (.Name y py) X.env))) _ _ s
 refine MN (thn (wpAny_comprehension_free (use:=some (assign (.Name y py) X.env)) (Q:=λ_ s'=>SP X B D .next s') rfl hs O.clos O.kind O.names (thn (hi B s M H _ I h) λxv k Y=>thn Y λap q G=>?_)) λ_ s' E=>MQ (MQ E));let it fp tn J u e I2 T ac f2 j:=G;subst e;refine pH (RR:=λaa C=>compPost (model X.prog X.w) X.A X.xe (some (assign (.Name y py) X.env)) (λ_ s'=>SP X B D .next s') aa C) l O al n d I2 T ac f2 j ?_;intro a C H4 t s4 m I4 nD fC f q4;let g0 g1 g2 g3 g4 g5:=fC;let oC eC aS:=LCg.ns_obj f;let I5:Inv X (B++[(C,oC)]) M (upd H4 a (.lst t)) s4:=I4.pins_of λp g=>by
  obtain g|g:=HY.mp g
  .exact I4.pin p (Ir _ g)
  .let ep:p=(C,oC):=by simpa using g
   subst ep;let r aT hd _:=aS;erw[eC,g0,g1,g2,λv z=>by simp_all]
 show wpAny _ X.A (assign (.Name y py) X.env (.ref a)) _ _ _;refine wpAny_assign_Name (pP I5 hN ab (.inl c) (v:=.ref a) rfl (λs6 I6=>?_) (.inr c));let e6 _:=I6.pin (C,oC) (Ir _ (Ir _ (by simp)))
 erw[m,aS.ns e6,λh' an=>?_];erw[_,_,I6.unpinned.turned (t':=s6.toks) (λb o L e=>(an.2 b L).trans e) g0 g1 g3 g4 g5,q4 a nD]
end
theorem cJ{g:TG}{O:TE}(Pv:Nat->List V->Hp->Prop)(hz:xs.length<=Mz)(o:Pv 0 [] H1)(hl:∀ i ys H,i<=xs.length->Pv i ys H->SqL K H a xs)
  (hs:∀ i x ys H,xs[i]?=some x->Pv i ys H->g x (HR n none++σ) H λc H2=>c.drop n=σ/\tt c H2 λb H3=>if b=true then O c H3 (λy E=>Pv (i+1) (ys++[y]) E) else Pv (i+1) ys H3) (hd:∀ ys H,Pv xs.length ys H->QQ ys H) (Q:∀ i ys H,Pv i ys H->ys.length<=i)
  : ik g tt O n σ (Itl K a) H1 QQ:=by
 erw[λi m ys H=>m=xs.length-i/\i<=xs.length/\Pv i ys H,⟨xs.length,by simp,Iz _,o⟩,?_]
 rintro i m ys H ⟨rfl,I,p⟩;let q:=hl i ys H I p;let f:=Q i ys H p;erw[∅,?_]
 by_cases L:i<xs.length
 .refine .inr ⟨⟨xs,xs[i],q,by simp⟩,λj H2=>Pv (i+1) j H2,λj H2 r=>⟨xs.length-(i+1),∅,rfl,L,r⟩,λx G y=>?_⟩
  let e y:=y;subst e;exact hs i x ys _ (y xs q) p
 .let e:i=xs.length:=by omega
  subst e;exact .inl ⟨⟨xs,q,HF _⟩,hd ys H p⟩
theorem kj{lo:Int}{k:Nat}{g:TG}{O:TE}(Pv:Nat->List V->Hp->Prop)(hz:k<=Mz)(o:Pv 0 [] H1)
  (hs:∀ i ys H,i<k->Pv i ys H->g (.int (lo+i)) (HR n none++σ) H λc H2=>c.drop n=σ/\tt c H2 λb H3=>if b=true then O c H3 (λy E=>Pv (i+1) (ys++[y]) E) else Pv (i+1) ys H3) (hd:∀ ys H,Pv k ys H->QQ ys H) (Q:∀ i ys H,Pv i ys H->ys.length<=i)
  : ik g tt O n σ (Itr lo k) H1 QQ:=by
 erw[λi m ys H=>m=k-i/\i<=k/\Pv i ys H,⟨k,by simp,Iz _,o⟩,?_]
 rintro i m ys H ⟨rfl,I,p⟩;let f:=Q i ys H p;erw[∅,?_]
 by_cases L:i<k
 .refine .inr ⟨L,λj H2=>Pv (i+1) j H2,λj H2 r=>⟨k-(i+1),∅,rfl,L,r⟩,λx G y=>?_⟩
  let e y:=y;subst e y;exact hs i ys _ L p
 .let e:i=k:=by omega
  subst e;exact .inl ⟨HF _,hd ys H p⟩
theorem jA{g:TG}{O:TE}(Pv:Nat->List V->Hp->Prop)(hz:xs.length<=Mz)(o:Pv 0 [] H1)(hl:∀ i ys H,i<=xs.length->Pv i ys H->SqL K H a xs)
  (hs:∀ i x ys H T,xs[i]?=some x->Pv i ys H->H T=none->g (.ref T) (HR n none++σ) (upd H T (.tup [.int (i:Int),x])) λc H2=>c.drop n=σ/\tt c H2 λb H3=>if b=true then O c H3 (λy E=>Pv (i+1) (ys++[y]) E) else Pv (i+1) ys H3) (hd:∀ ys H,Pv xs.length ys H->QQ ys H) (Q:∀ i ys H,Pv i ys H->ys.length<=i)
  : ik g tt O n σ (Ite K a) H1 QQ:=by
 erw[λi m ys H=>m=xs.length-i/\i<=xs.length/\Pv i ys H,⟨xs.length,by simp,Iz _,o⟩,?_]
 rintro i m ys H ⟨rfl,I,p⟩;let q:=hl i ys H I p;let f:=Q i ys H p;erw[∅,?_]
 by_cases L:i<xs.length
 .refine .inr ⟨⟨xs,xs[i],q,by simp⟩,λj H2=>Pv (i+1) j H2,λj H2 r=>⟨xs.length-(i+1),∅,rfl,L,r⟩,λv G y=>?_⟩
  let T x u rfl rfl y:=y;exact hs i x ys _ T (y xs q) p u
 .let e:i=xs.length:=by omega
  subst e;exact .inl ⟨⟨xs,q,HF _⟩,hd ys H p⟩
theorem D4(h:X.K=K):IxR X (rIxL K):=h▸Br
theorem GZ(h:X.K=K):IxR X (rIxT K):=h▸Fj
theorem gE{es:List Expr}{k:Nat}{t:TGs}(f:X.K=K)(g:X.calm=true)(h:PGs X es t)(N:(MJ es X.env).length=n:=by rfl)(c:(MJ es X.env).findIdx? (·.1)=none:=by rfl):PG X (.Tuple es k pos) (gTup K n t):=f▸pf g h N c
theorem pJ(h:X.K=K):jB X (.type "list") (λxs H Q=>∃ p ys,xs=[.ref p]/\(SqL K H p ys∨SqT K H p ys)/\∀ l,H l=none->Q (.ref l) (upd H l (.lst ys))):=h▸cL
theorem nV{e:Expr}{f:Str}{d:TE}(h:X.K=K)(D:PE X e d)(L:attributeBase e f X.env (eval e X.env)=eval e X.env):PE X (.Attribute e f pos) (tFld K d f):=h▸bW D L
inductive F5(x:L2.V)(vs:List V)(H:L2.Hp)(Q:L2.VK):Prop
 |mk (l xs k y:_) (h0_:x=.ref l)(h1_:vs=[.int k,y])(h2_:H l=some (.lst xs))(h3_:0<=k)(h4_:k<=xs.length)(h5_:xs.length<Mz)(h6_:Q .non (upd H l (.lst (xs.take k.toNat++y::xs.drop k.toNat))))
theorem sY:MtM X "list.insert" F5:=by
 intro B s M H x g v i Q I c rv h;let l j k y rfl rfl m A f L q:=h
 cases c
 let a J rfl o D:=rv.two;let t rfl:=o;let z E n r G e:=I.lstM m;let N:=pq;let b:¬ (!Builtin.List.listFitsIndex k)=true:=by
  rw[fitsIndex_both ∅ ∅]
  exact Io
 refine call_meets F.slot_list_insert ⟨_,e,rfl⟩ F.entry_list_insert (F.args_list_insert_3 _ _ _) (AutoListH.list_insert_list_int_val_1 l E.toArray n k t J b (by simp_all)) ⟨e,?_⟩
 erw[.non,_,I.lset (its':=E.take k.toNat++J::E.drop k.toNat) m e ?_ ((r.take _).append (.cons D (r.drop _))) ?_,rfl,q]
 .dsimp only;rw[NY ∅,IE,JX ∅]
  simp;exact JA (by simp)
 .grind
theorem kS:∀{ns:List Int}{us:List Value},Vals (ns.map V.int) us->Nh us ns
 |[],_,.nil=>.nil
 |n::ns,_,.cons r b=>by
  let t rfl:=r;exact .cons n t (kS b)
theorem rO(g:X.calm=true):jB X (.builtin "sum") (λxs H Q=>∃(p:Addr)(ns:List Int),xs=[.ref p]/\SqL X.K H p (ns.map V.int)/\Q (.int ns.sum) H):=by
 intro B s M H xs i Q I r h;let p ns rfl C q:=h;let u rfl Y:=mN r
 cases Y
 let E rv y L:=I.list C;let N:=kS rv;let d e:=N.allInts.items;let l:(numsOf E)=ns:=N.numsOf;let j:s.heap.IsList p (intItems d):=by rw[← e];exact y.isList
 refine sum_intListG (I.ok.hd g) j λJ m t' f=>⟨.int ns.sum,H,I.kept (t':=m) f,⟨t',?_⟩,q⟩;let G:numsOf (intItems d).toList=ns:=by rw[← e];exact l
 rw[nums_intItems]at G;rw[preSum_eq,JA (by simp),← G]
theorem nH:∀{ps:List Nat},(∀ p∈ps,p<1000)->PyData.weightAll ((ps.map λ(p:Nat)=>((p:Nat):Int)).map PyData.int)<=12*ps.length
 |[],_=>by simp[PyData.weightAll]
 |p::ps,h=>by
  let Q:=nH (ps:=ps) λx J=>h x (HK _ J);let M:=h p (by simp)
  let n:PyData.weight (.int (p:Int))<=11:=by
   rw[PyData.weight];split
   .exact Iz _
   .rename_i z;let c:p≠0:=λe=>z (by rw[e];rfl)
    let e:((p:Int)).natAbs=p:=rfl;rw[e];let:=(Nat.log2_lt c).mpr (show p<2^10 by omega)
    omega
  rw[Il,Il,PyData.weightAll,IM];omega
theorem D2(h:∀ p∈ps,p<1000)(hl:ps.length<=1000):PyData.layable0 (.list ((ps.map λ(p:Nat)=>((p:Nat):Int)).map PyData.int))=true:=by
 let Y:=PySem.W.shaped_ints (ps.map λ(p:Nat)=>((p:Nat):Int));let B:=nH h;let J:PyData.weight (.list ((ps.map λ(p:Nat)=>((p:Nat):Int)).map PyData.int))<=2^20:=by
  rw[PyData.weight];ac_rfl
 unfold PyData.layable0;unfold SeqAt.shaped at Y;rw[Y,Ni J];rfl
inductive rIndex(K:HE)(x:L2.V)(vs:List V)(H:L2.Hp)(Q:L2.VK):Prop
 |mk (l:Addr)(ps:List Nat)(k:Nat) (h0_:x=.ref l)(h1_:vs=[.int (k:Int)])(h2_:SqL K H l (ps.map λ(p:Nat)=>V.int (p:Int)))(h3_:(∀ p∈ps,p<1000))(h4_:ps.length<=1000)(h5_:k∈ps)(h6_:Q (.int ((ps.idxOf k:Nat):Int)) H)
theorem D6{k:Nat}:(ps.map λ(p:Nat)=>((p:Nat):Int)).idxOf (k:Int)=ps.idxOf k:=by
 induction ps with
 |nil=>rfl
 |cons p ps Q =>
  grind
theorem yb:MtM X "list.index" (rIndex X.K):=by
 intro B s M H x g v i Q I c rv h;let l A k rfl rfl C d G f q:=h
 cases c
 let u rfl Y:=rv.one;let t rfl:=Y;let e:(A.map λ(p:Nat)=>V.int (p:Int))=(A.map λ(p:Nat)=>((p:Nat):Int)).map V.int:=by rw[Jq];rfl
 rw[e]at C;let E r y L:=I.list C;refine index_list_ints y.isList (kS r) (D2 d G) (Im.mpr ⟨k,f,rfl⟩) ?_;rw[D6];erw[.int _,H,I.tok _,⟨_,rfl⟩,q]
theorem uH:∀{us:List Value}{ns:List Int},Nh us ns->Vals (ns.map V.int) us
 |_,_,.nil=>.nil
 |_,_,.cons _ t r=>.cons ⟨t,rfl⟩ (uH r)
inductive AF(K:HE)(xs:List V)(H:L2.Hp)(Q:L2.VK):Prop
 |mk (p:Addr)(ns:List Int) (h0_:xs=[.ref p])(h1_:SqL K H p (ns.map V.int))(h2_:ns.length<64)(h3_:∀(l:Addr)(out:List Int),H l=none->out.Perm ns->out.Pairwise (·<=·)->Q (.ref l) (upd H l (.lst (out.map V.int))))
theorem xh:jB X (.builtin "sorted") (AF X.K):=by
 intro B s M H j i Q I r h;let p v rfl C c q:=h;let u rfl Y:=mN r
 cases Y
 let E rv y L:=I.list C;let N:=kS rv;let G:=rv.length;rw[HD]at G;refine sorted_ints y.isList N ∅ λout a g J m=>?_
 let e D:=sortedAll_at s.heap E out;erw[.ref (s.heap.objs.size+1),_,I.laid (t':=s.toks) (λ_ _=>sortedAll_old) (Kh _) (show bu X.prog X.w _ _ _ (.lst (a.map V.int)) from⟨?_,out.toList,e,uH g,?_⟩),rfl,q _ a (I.hok.fresh (Kh _)) J m]
 .rw[HD,J.length_eq];exact Ia (aq ∅)
 .exact D
theorem uq(h:X.K=K):jB X (.builtin "sorted") (AF K):=h▸xh
theorem ur:MC "min"=some (.builtin "min"):=by rfl
theorem bt_max:MC "max"=some (.builtin "max"):=by rfl
inductive rCatS(K:HE)(x:L2.V)(y:L2.V)(H:L2.Hp)(Q:L2.VK):Prop
 |mk (l b xs zs:_) (h0_:x=.ref l)(h1_:y=.ref b)(h2_:SqL K H l xs)(h3_:SqL K H b zs)(h4_:xs.length+zs.length<=Mz)(h5_:∀ p,H p=none->Q (.ref p) (upd H p (.lst (xs++zs))))
theorem nZ:OpR X (MX .Add) (rCatS X.K):=by
 intro B s M H x y v u Q I c N h;let l b j d rfl rfl a k L q:=h
 cases c
 cases N
 let E r f _:=I.list a;let w D e _:=I.list k;let{cls m Y J}O g n hd:=f.isList;let{aa o data2 z}i t A G:=e.isList;simp only at g hd t G;subst g hd t G;let p:E.toArray++w.toArray=(E++w).toArray:=by simp
 let C:=r.length;let T:=D.length;refine concat_meets ⟨_,O,rfl⟩ ⟨_,i,rfl⟩ noFill_list_add seq_list_add PySem.F.slot_list_add PySem.F.entry_list_add (PySem.F.args_list_add_2 _ _) (list_addW l b E.toArray w.toArray n A m o J z (by simp_all)) ⟨O,i,?_⟩
 rw[p];erw[.ref _,_,I.lnew (t':=s.toks) (r.append D) (by rw[HJ];omega),rfl,q _ I.fresh]
theorem xZ:∀{ns:List Int}{us:List Value},Vals (ns.map V.int) us->Nh us ns
 |[],_,.nil=>.nil
 |n::ns,_,.cons r b=>by
  let t rfl:=r;exact .cons n t (xZ b)
theorem yw:MC "sum"=some (.builtin "sum"):=by rfl
theorem yesT{A B:Hp->Prop}(h:A H):tYes σ H λb H3=>if b=true then A H3 else B H3 :=
 show(if true=true then A H else B H) from iteT (B:=B H) h
theorem bt_zip:MC "zip"=some (.type "zip"):=by rfl
def Itz(K:HE)(a b:Addr):It :=
 ⟨λi H=>∃ j Y x y,SqL K H a j/\SqL K H b Y/\j[i]?=some x/\Y[i]?=some y,
  λi H v G=>∃ T x y,H T=none/\v=.ref T/\G=upd H T (.tup [x,y])/\(∀ j,SqL K H a j->j[i]?=some x)/\∀ Y,SqL K H b Y->Y[i]?=some y,
  λi H=>∃ j Y,SqL K H a j/\SqL K H b Y/\(j.length<=i∨Y.length<=i)⟩
theorem CP{es:List Expr}{k:Nat}(a b z TI TO i1 i2:Addr)(D:ZipApart z TI TO i1 i2 a b):Turn P w K (.Tuple es k pos) (Itz K a b) [z,TI,TO,i1,i2] z
  (λi h=>IsZip h z TI TO .none/\IsPair h TI (.ref i1) (.ref i2)/\(∃ u v,IsPair h TO u v)/\h.IsListIter i1 a i/\h.IsListIter i2 b i) where
 mem:=by simp
 obj:=λi h st c g=>by
  let kz kI{u v kO}{o1 t c1 d1}{o2 n c2 d2}:=st;simp only[HQ,KC,or_false]at g;obtain rfl|rfl|rfl|rfl|rfl:=g
  .erw[_,kz,λv z=>by contradiction]
  .erw[_,kI,λv z=>by contradiction]
  .erw[_,kO,λv z=>by contradiction]
  .erw[o1,t,λv z=>by simp_all]
  .erw[o2,n,λv z=>by simp_all]
 keep:=λi h h' st L=>by
  let kz kI{u v kO}k1 k2:=st;erw[L _ (by simp) _ kz,L _ (by simp) _ kI,⟨u,v,L _ (by simp) _ kO⟩,k1.at λo q=>L i1 (by simp) o q,k2.at λo q=>L i2 (by simp) o q]
 item:=by
  intro X hP hw hK g i B s M H E I r st hg;subst hP hw hK;let m Y x y C O J Q:=hg;let l rv p hz:=I.list C;let aa an p2 aS:=I.list O;let u T ru:=rv.get J;let u2 aT aI:=an.get Q;let kz kI{o1 o2 kO}k1 k2:=st;refine wpAny_pyNext_zip_item D kz kI kO k1 k2 p.isList p2.isList (x:=u) (y:=u2) (by simpa using T) (by simpa using aT) λh' A a2 a3 a4 a5 a6 f=>?_
  erw[_,rfl,?_];refine wpAny_letOwnedTupleGo_zip A λG g1 ac=>?_;let ab:ME z h' G:=ac;let lz:z<s.heap.objs.size:=MA kz;let lI:TI<s.heap.objs.size:=MA kI;let lO:TO<s.heap.objs.size:=MA kO;let l1:i1<s.heap.objs.size:=by let _ q _:=k1;exact MA q
  let l2:i2<s.heap.objs.size:=by let _ q _:=k2;exact MA q
  let am:H s.heap.objs.size=none:=I.hok.fresh (HF _);let I0:Inv X B M (upd H s.heap.objs.size (.tup [x,y])) {s with heap:=s.heap.push {cls:=.type "tuple",data:=.seq #[u,u2]},toks:=s.toks} :=
   I.laid (t':=s.toks) (λb u e=>MR _ e) (HF _) ⟨by show 2<=Mz;decide,[u,u2],.cons ru (.cons aI .nil),⟨_,MT _ rfl,rfl,_,rfl⟩⟩
  let ap:∀ c∈[z,TI,TO,i1,i2],c<s.heap.objs.size:=λc g=>by
   simp only[HQ,KC,or_false]at g;obtain rfl|rfl|rfl|rfl|rfl:=g<;>assumption
  let N:∀ c∈[z,TI,TO,i1,i2],upd H s.heap.objs.size (.tup [x,y]) c=none:=λc g=>by
   rw[ao (Ig (ap c g))];exact(r c g).1
  let I2:Inv X B M (upd H s.heap.objs.size (.tup [x,y])) {s with heap:=G,toks:=s.toks}:=Inv.turnedL (s:={s with heap:=s.heap.push {cls:=.type "tuple",data:=.seq #[u,u2]},toks:=s.toks}) (h':=G) I0 (t':=s.toks) (fp:=[z,TI,TO,i1,i2]) (λc o g q=>by
   let n1:c≠z:=λe=>g (by simp[e])
   let n3:c≠TO:=λe=>g (by simp[e])
   let n4:c≠i1:=λe=>g (by simp[e])
   let n5:c≠i2:=λe=>g (by simp[e])
   refine(ab.2 c n1).trans ?_;rcases Heap.get?_push_cases q with⟨z1,z2⟩|q
   .simp_all
   .exact f c o n1 n3 n4 n5 q) λc g=>⟨N c g,(r c g).2⟩
  erw[.ref s.heap.objs.size,_,I2,rfl,⟨s.heap.objs.size,x,y,am,rfl,rfl,λd h=>by rw[I.list_inj h C];exact J,λd h=>by rw[I.list_inj h O];exact Q⟩,?_,N]
  erw[g1,(ab.2 TI D.TIz).trans (f _ _ D.TIz D.TITO D.TIi1 D.TIi2 kI),⟨_,_,(ab.2 TO D.TOz).trans a2⟩,a3.at λo q=>(ab.2 i1 D.i1z).trans q,a4.at λo q=>(ab.2 i2 D.i2z).trans q]
 done:=by
  intro X hP hw hK g i B s M H E I r st hg;subst hP hw hK;let m Y C O J:=hg;let l rv p hz:=I.list C;let aa an p2 aS:=I.list O;let kz kI{o1 o2 kO}k1 k2:=st;let j:=rv.length;let al:=an.length;refine wpAny_pyNext_zip_end (I.ok.hd g) D kz kI kO k1 k2 p.isList p2.isList ?_ λh' eb=>⟨rfl,Inv.turnedL I (t':=s.toks) (λc o g e=>eb c o (λe=>g (by simp[e])) (λe=>g (by simp[e])) (λe=>g (by simp[e])) (λe=>g (by simp[e])) e) r⟩
  simp_all
 self:=λ_ _ _ _ _ st h=>wpAny_pyIter_zip st.1 h
theorem cX(x y:Nat)(h:¬ x=y):@Ne Addr x y:=h
theorem zQ(n a b:Nat)(E:a<n)(L:b<n):ZipApart (n+4) (n+2) (n+3) n (n+1) a b :=
 ⟨cX _ _ ∅,cX _ _ ∅,cX _ _ ∅,cX _ _ ∅,cX _ _ ∅,cX _ _ ∅,cX _ _ ∅,cX _ _ ∅,cX _ _ ∅,
  cX _ _ ∅,cX _ _ ∅,cX _ _ ∅,cX _ _ ∅,cX _ _ ∅,cX _ _ ∅,cX _ _ ∅,cX _ _ ∅,cX _ _ ∅⟩
def iZip(K:HE)(d:TA):TI:=λM H R=>d M H λg m=>∃ a b,g=[.ref a,.ref b]/\(∃ j,SqL K m a j)/\(∃ Y,SqL K m b Y)/\R (Itz K a b) m
theorem AN{D z:Expr}{d:TA}{es:List Expr}{k:Nat}{tp p:Pos}(A:Gl X "zip")(y:X.mg "zip"=none)(T:PA X [D,z] d)(hs:MF [D,z] X.env=(false,eval D X.env)::MF [z] X.env:=by rfl)(aa:(backTo pos (MF [z] X.env)).any (·.1)=false:=by rfl):
  PI X (.Tuple es k tp) (.Call (.Name "zip" p) [D,z] [] pos) (iZip X.K d):=by
 intro B s M H R I h;refine Call_ (kQ I A y bt_zip (MU (thn (T pos B s M H _ I h) λi J ⟨t,m,N,o,G⟩=>?_) hs aa));let a b e{j C}{Y O}q:=G;subst e;let u u2 rfl x al:=CL o
 cases x
 cases al
 let E rv p L:=N.list C;let w ac n am:=N.list O;let la:a<J.heap.objs.size:=by let _ _ q _:=p;exact MA q
 let lb:b<J.heap.objs.size:=by let _ _ q _:=n;exact MA q
 refine call_zip_2 p.isList n.isList λr kz kI kO Q l v f=>?_;refine wpAny_pyIter_zip kz ?_
 erw[J.heap.objs.size+4,[J.heap.objs.size+4,J.heap.objs.size+2,J.heap.objs.size+3,J.heap.objs.size,J.heap.objs.size+1],_,_,m,rfl,N.kept (t':=J.toks) f,
  CP a b (J.heap.objs.size+4) (J.heap.objs.size+2) (J.heap.objs.size+3) J.heap.objs.size (J.heap.objs.size+1) (zQ _ a b la lb),⟨kz,kI,⟨_,_,kO⟩,Q,l⟩,λc g=>?_,q]
 let ab:J.heap.objs.size<=c:=by
  simp only[HQ,KC,or_false]at g;obtain rfl|rfl|rfl|rfl|rfl:=g
  .exact Ks _ _
  .exact Ks _ _
  .exact Ks _ _
  .exact HF _
  .exact Ks _ _
 exact N.fpOk ab (N.hok.fresh ab)
theorem uh{b:Addr}{g:TG}{O:TE}(Pv:Nat->List V->Hp->Prop)(hz:xs.length<=Mz)(D:zs.length=xs.length)(o:Pv 0 [] H1)(hl:∀ i ys H,i<=xs.length->Pv i ys H->SqL K H a xs/\SqL K H b zs)
  (hs:∀ i x z ys H T,xs[i]?=some x->zs[i]?=some z->Pv i ys H->H T=none->g (.ref T) (HR n none++σ) (upd H T (.tup [x,z])) λc H2=>c.drop n=σ/\tt c H2 λb H3=>if b=true then O c H3 (λy E=>Pv (i+1) (ys++[y]) E) else Pv (i+1) ys H3) (hd:∀ ys H,Pv xs.length ys H->QQ ys H) (Q:∀ i ys H,Pv i ys H->ys.length<=i)
  : ik g tt O n σ (Itz K a b) H1 QQ:=by
 erw[λi m ys H=>m=xs.length-i/\i<=xs.length/\Pv i ys H,⟨xs.length,by simp,Iz _,o⟩,?_]
 rintro i m ys H ⟨rfl,I,p⟩;let q:=hl i ys H I p;let f:=Q i ys H p;erw[∅,?_]
 by_cases L:i<xs.length
 .let d:i<zs.length:=by omega
  refine .inr ⟨⟨xs,zs,xs[i],zs[i],q.1,q.2,by simp,by simp⟩,λzs H2=>Pv (i+1) zs H2,λzs H2 r=>⟨xs.length-(i+1),∅,rfl,L,r⟩,λv G y=>?_⟩
  let T x z u rfl rfl B J:=y;exact hs i x z ys _ T (B xs q.1) (J zs q.2) p u
 .let e:i=xs.length:=by omega
  subst e;exact .inl ⟨⟨xs,zs,q.1,q.2,.inl (HF _)⟩,hd ys H p⟩
inductive rMinL(K:HE)(xs:List V)(H:L2.Hp)(Q:L2.VK):Prop
 |mk (p:Addr)(ns:List Int) (h0_:xs=[.ref p])(h1_:SqL K H p (ns.map V.int))(h2_:0<ns.length)(h3_:∀ m:Int,m∈ns->(∀ x∈ns,m<=x)->Q (.int m) H)
theorem uo(l:X.calm=true):jB X (.builtin "min") (rMinL X.K):=by
 intro B s M H m i Q I r h;let p k rfl b z q:=h;let u rfl x:=mN r
 cases x
 let E rv y L:=I.list b;let N:=xZ rv;let d e:=N.allInts.items;let g:s.heap.IsList p (intItems d):=by rw[← e];exact y.isList
 let C:k=d.toList.map (·.1):=by
  rw[← nums_intItems,← e];exact(show numsOf E.toArray.toList=k from N.numsOf).symm
 subst C;rw[HD,IA]at z;refine min_intList (I.ok.hd l) g z λv J c A f=>?_;let t rfl:=intItems_at A;let Y G:=argBest_lt (numAt d) (d.size-1);erw[.int _,H,I.kept (t':=c) f,⟨t,rfl⟩,q _ ?_ λa T=>?_]
 .rw[numAt_eq];exact PySem.getD_mem (by rw[HD,IA];omega)
 .let j O rfl:=PySem.mem_getD T;rw[HD,IA]at O;rw[← numAt_eq];exact G j ∅
def LsAt{α:Type}(R:Hp->V->α->Prop)(H:Hp)(ys:List V)(xs:List α):Prop:=ys.length=xs.length/\∀(i:Nat)(x:α),xs[i]?=some x->∃ y,ys[i]?=some y/\R H y x
theorem LsAt.nil{R:Hp->V->α->Prop}:LsAt R H [] []:=⟨rfl,λi x e=>by simp at e⟩
theorem LsAt.imp{R c:Hp->V->α->Prop}{xs:List α}(h:LsAt R H ys xs)(m:∀ y x,R H y x->c H' y x):LsAt c H' ys xs:=⟨h.1,λi x e=>by
 let y a b:=h.2 i x e
 erw[y,a,m y x b]⟩
theorem LsAt.snoc{R:Hp->V->α->Prop}{xs:List α}{x:α}(h:LsAt R H ys xs)(r:R H y x):LsAt R H (ys++[y]) (xs++[x]):=by
 erw[by rw[HJ,HJ,h.1];rfl,λj k e=>?_]
 by_cases O:j<xs.length
 .rw[HH O]at e;let p g s:=h.2 j k e;erw[p,by rw[HH (by rw[h.1];exact O)];exact g,s]
 .rw[HG ∅]at e
  let b:j=xs.length:=by
   let:=(HB.mp e).1;rw[Ik]at this;omega
  subst b;rw[Iq]at e
  cases e
  erw[y,by rw[← h.1,HG (HF _),Iq];rfl,r]
theorem LsAt.get{R:Hp->V->α->Prop}{xs:List α}(h:LsAt R H ys xs)(e:ys[i]?=some y):∃ x,xs[i]?=some x/\R H y x:=by
 let I:i<xs.length:=by rw[← h.1];exact(HB.mp e).1
 let z a b:=h.2 i _ (Hz I);rw[e]at a
 cases a
 erw[_,Hz I,b]
theorem op_neG(f:X.A.units+64<cLine):OpR X (MH .NotEq) (λx y H Q=>∃ t d,RdD X.K H x t/\RdD X.K H y d/\SeqAt.shaped t=true/\SeqAt.shaped d=true/\Q (.bl (!PyData.eqv t d)) H):=by
 intro B s M H x y v u Q I c T h;let t d o D Y G q:=h;let as k:=o.reads I v c;let bs n:=D.reads I u T;exact ne_dataH k n Y G f ⟨.bl _,H,I,rfl,q⟩
theorem ox:∀(a b:List Int),PyData.eqvAll (a.map PyData.int) (b.map PyData.int)=decide (a=b)
 |[],[]=>by rfl
 |[],y::b=>by rfl
 |x::a,[]=>by rfl
 |x::a,y::b=>by
  rw[Il,Il];simp only[PyData.eqvAll,PyData.eqv,ox a b];by_cases h:x=y
  .simp_all
  .simp[h]
theorem El(a b:List Int):PyData.eqv (.list (a.map PyData.int)) (.list (b.map PyData.int))=decide (a=b):=by
 rw[← ox];rfl
section
variable{X:Cx}{tg:Expr}
end
section
variable{prog:Program}{w:World}{A:Around}{E:Value->Shared->Prop}{s:Shared}{d:Addr}
def Ent(h:Heap)(d:Addr)(es:Array DictEntry)(ep:Nat):Prop:=∃ o,h.get? d=some o/\o.ExactDict/\o.data=.dict es ep
theorem Ent.ty{es:Array DictEntry}(x:Ent s.heap d es ep):s.TypeIs (.ref d) "dict":=by
 let o Y B _:=x;erw[o,Y,B.1]
theorem Em(hd:(d == sysModules)=false):MeetsIn prog w (Builtin.«dict.items» ⟨[.ref d],[]⟩) (λ_ R s=>(∃ es ep,Ent s.heap d es ep)/\R (.ok (.ret (.ref s.heap.objs.size))) {s with heap:=s.heap.push {cls:=.type "dict_items",data:=.fields #[.ref d]}}) :=
 .of_wp λA R s ⟨⟨es,ep,y⟩,h⟩=>by
  unfold Builtin.«dict.items» Builtin.Dict.noArgs;refine MN (MN (wpAny_notOrdered_dict y.ty ?_));show wpAny _ _ (pure d) _ _ s;refine MQ ?_;show wpAny _ _ (Builtin.Dict.showsAll d >>= _) _ _ s;unfold Builtin.Dict.showsAll;rw[NY (by simp[hd])]
  exact MN (MQ (MN (Nq (MQ ⟨_,rfl,h⟩))))
theorem Eo{v:Addr}{es:Array DictEntry}(hv:s.heap.IsItemsView v d)(y:Ent s.heap d es ep)(D:Q (.ref s.heap.objs.size) {s with heap:=s.heap.push {cls:=.type "dict_itemiterator",data:=.fields #[.none,.bool false,.ref d,.int 0 0,.int es.size 0,.int ep 0,.none,.none]}}):
  wpAny (model prog w) A (pyIter (.ref v)) Q E s:=by
 let O Y B J:=id hv;let o C T g:=y;refine wpAny_pyIter_slot hv.typeIs F.slot_dict_items_iter (Nr F.slot_dict_items_iter hv.typeIs F.entry_dict_items_iter ?_ (F.args_dict_items_iter_1 _));show wpAny _ _ (Builtin.«dict_items.__iter__» _) _ _ s;unfold Builtin.«dict_items.__iter__» Builtin.Dict_items.dictOf Builtin.Dict_items.newIterator;refine MN (MQ (MN (MN (wpAny_field Y J (x:=.ref d) rfl (MQ (MN (MN (wpAny_dictEntries C g (MN (wpAny_dictEpoch C g ?_))))))))));simp only[show Nt "dict_itemiterator"=true by decide,if_true]
 refine Nq (MQ ⟨_,rfl,"dict_itemiterator",_,⟨_,MT _ rfl,rfl⟩,F.slot_dict_itemiterator_next.lookup,?_⟩)
  (by simp only[sizeOk,Builtin.Dict_items.ownedTupleFields,IE,HJ,IM,Kj,sizeLine_eq];omega)
 simpa[rawInt,Builtin.Dict_items.ownedTupleFields] using D
theorem BZ{es:Array DictEntry}{ok ov:Value}{Q:Option Value->Shared->Prop}(z:IsItemIter s.heap it d i es.size ep ok ov)(y:Ent s.heap d es ep)(p:A.handled=none)(hI:∀ e,es[i]?=some e->∀ h',IsItemIterOut h' it d (i+1) es.size ep e.key e.val s.heap.objs.size->h'.get? s.heap.objs.size=some {cls:=.type "tuple",data:=.seq #[e.key,e.val]}->(∀ b o,b≠it->s.heap.get? b=some o->h'.get? b=some o)->Q (some (.ref s.heap.objs.size)) {s with heap:=h'})(f:es[i]?=none->∀ h',Heap.ExtBut it s.heap h'->Q none {s with heap:=h'}):wpAny (model prog w) A (pyNext (.ref it)) Q E s:=by
 let o C v g:=y;let u:s.TypeIs (.ref it) "dict_itemiterator":=⟨_,z,rfl⟩;let own:Nt "dict_itemiterator"=true:=by rfl
 unfold pyNext;refine MN (wpAny_attempt (Nu (name:=Str.ofString "__next__") u F.slot_dict_itemiterator_next (Nr F.slot_dict_itemiterator_next u F.entry_dict_itemiterator_next ?_ (F.args_dict_itemiterator_next_1 _))));refine MN (MQ (MN (MN (MN (Nv u (MQ ?_))))));refine MN (wpAny_fieldsOf z rfl ?_);simp only[own,if_true];show wpAny _ _ (if(Value.ref d == Value.none)=true then _ else _) _ _ _;rw[NY (show ¬ ((Value.ref d == Value.none)=true) from Io)];refine MN (MQ (MN (wpAny_dictEntries C g ?_)));rw[NY (by simp)]
 refine MN (MQ (MN (wpAny_dictEpoch C g ?_)));rw[NY (by simp)]
 refine MQ ?_;let n0:¬ ((i:Int)<0):=by omega
 simp only[n0,if_false,HP]
 cases D:es[i]? with
 |none =>
  refine MN (MN (Nv u (MQ ?_)));show wpAny _ _ (setField (.ref it) 2 .none >>= _) _ _ s;refine MN (wpAny_setField z rfl (by simp) ?_)
  show wpAny _ _ (newExc (.type "StopIteration") [] >>= _) _ _ _;refine MN ?_;simp only[newExc,newTuple];refine MN (Nq (MN (m:=firstArgMember _ _) (wpAny_of_eq (a:=Value.none) (by rfl) (Nq ?_ (by size_fits)))) (by size_fits))
  simp only[raiseNew];refine MN (wpAny_handled ?_);rw[show A.in1.handled=none from p];refine MN (MQ (wpAny_throw ?_));refine MN (Nm (T:="StopIteration") (b:=true) ⟨_,MT _ rfl,rfl⟩ isSubtype_stop (MQ ?_));exact f D _ (((Nw ..).extBut.push _).push _)
 |some e =>
  refine MN (MN (Nv u (MQ ?_)));refine MN (Nx u ?_);show wpAny _ _ (setField (.ref it) 3 (rawInt ((i:Int)+1)) >>= _) _ _ s;refine MN (Ny z (by simp) λH k J=>?_)
  let c1:((i+1:Nat):Int)=(i:Int)+1:=by omega
  let aa:IsItemIter H it d (i+1) es.size ep ok ov:=by
   unfold IsItemIter;rw[c1];simpa[rawInt] using k
  let lt:it<s.heap.objs.size:=MA z;let N:H.objs.size=s.heap.objs.size:=J.1;let ab:Shared.TypeIs {s with heap:=H} (.ref it) "dict_itemiterator":=⟨_,aa,rfl⟩;refine MN (MO (MN (Nx ab (MN (Nx ab ?_)))));show wpAny _ _ (Nz (.ref it) 6 e.key e.val) _ _ {s with heap:=H};unfold Nz Builtin.Dict_items.ownedTupleIsFree;refine MN (wpAny_newTuple ?_);let n:IsItemIter (H.push {cls:=.type "tuple",data:=.seq #[e.key,e.val]}) it d (i+1) es.size ep ok ov:=MR _ aa;let I:(H.push {cls:=.type "tuple",data:=.seq #[e.key,e.val]}).get? s.heap.objs.size=some {cls:=.type "tuple",data:=.seq #[e.key,e.val]}:=by rw[← N];exact MT _ rfl
  let G:∀ b o,b≠it->s.heap.get? b=some o->(H.push {cls:=.type "tuple",data:=.seq #[e.key,e.val]}).get? b=some o:=λb o L q=>MR _ (J.extBut b o L q);rw[N];generalize H.push {cls:=.type "tuple",data:=.seq #[e.key,e.val]}=O at n I G;show wpAny _ _ (_ >>= _) _ _ {s with heap:=O};refine MN (MN (wpAny_field n rfl (x:=.none) rfl (MQ ?_)));simp only[if_true];refine MN (wpAny_field n rfl (x:=ok) rfl (MN (wpAny_field n rfl (x:=ov) rfl ?_)));refine MN (Ny n (by simp) λj Y M=>?_)
  replace Y:IsItemIter j it d (i+1) es.size ep e.key ov:=Y;refine MN (Ny Y (by simp) λg4 c h=>?_)
  replace c:IsItemIter g4 it d (i+1) es.size ep e.key e.val:=c;refine MN (Ny c (by simp) λg5 t r=>?_)
  replace t:IsItemIterOut g5 it d (i+1) es.size ep e.key e.val s.heap.objs.size:=t;refine MN (Ny t (by simp) λg6 B l=>?_)
  replace B:IsItemIterOut g6 it d (i+1) es.size ep e.key e.val s.heap.objs.size:=B;let up:∀ b o,b≠it->O.get? b=some o->g6.get? b=some o:=λb o L q=>l.extBut b o L (r.extBut b o L (h.extBut b o L (M.extBut b o L q)));exact MN (NA (MQ (MQ ⟨_,rfl,MQ (hI e D g6 B (up _ _ (Ji lt) I) λb o L q=>up b o L (G b o L q))⟩)))
end
def yd(v d:Addr):HO:=.ext λh=>h.IsItemsView v d
def KvA(H:Hp)(u:HO)(i:Nat)(x y:V):Prop:=(∃ L k,u=.dK L/\L[i]?=some (k,y)/\x=kV k)∨∃ L k t,u=.dT L/\L[i]?=some (k,y)/\x=.ref t/\H t=some (.tup (k.map kV))
def dlen:HO->Nat
 |.dK L=>L.length
 |.dT L=>L.length
 |_=>0
def yS:HO->Prop
 |.dK _=>True
 |.dT _=>True
 |_=>False
theorem ng{α c:Type}{F:α->c->Prop}:∀{d:List α}{g:List c},Paired F d g->∀{i:Nat}{b:c},g[i]?=some b->∃ a,d[i]?=some a/\F a b
 |_,_,.nil,i,b,e=>by simp at e
 |_,_,.cons r t,0,b,e=>⟨_,rfl,by cases e;exact r⟩
 |_,_,.cons r t,i+1,b,e=>ng t (i:=i) e
theorem B0{d:Addr}{u:HO}(hd:yS u)(x:bu P w H h d u):(d == sysModules)=false/\∃ es ep,Ent h d es ep/\es.size=dlen u/\∀ i e,es[i]?=some e->∃ x y,KvA H u i x y/\RelV x e.key/\RelV y e.val:=by
 cases u with
 |dK L =>
  let G lo g s o es ep Y B b a O E:=x;let l:L.length=g.length:=Paired.length s;let sz:es.size=g.length:=by rw[← O.length,IA]
  erw[lo,es,ep,⟨o,Y,B,b⟩,by rw[sz];exact l.symm,λi e D=>?_]
  let I:i<g.length:=by
   let:i<es.size:=(KY.mp D).1;omega
  let{k v}A:∃ q,g[i]?=some q:=⟨_,Hz I⟩;let f aa:=O.get? (e:=e) (by rw[Jd];exact D) A
  let{c y}Q p N:=ng s A;let M:c=k:=p;subst M;erw[kV c,y,.inl ⟨L,c,rfl,Q,rfl⟩,?_,by rw[aa];exact N]
  rcases aY (show oR c e.key=true from f) with⟨j,t,C,T⟩|⟨z,t,C,T⟩
  .rw[C,T];erw[t,rfl]
  .rw[C,T];erw[t,rfl]
 |dT L =>
  let G lo m r o es ep Y B b a O:=x;let sz:es.size=m.length:=by rw[← IA,a,HD]
  erw[lo,es,ep,⟨o,Y,B,b⟩,by rw[sz];exact r.length.symm,λi e D=>?_]
  let C:es.toList[i]?=some e:=by rw[Jd];exact D
  rw[a,HN]at C
  cases J:m[i]? with
  |none=>rw[J]at C;cases C
  |some q =>
   rw[J]at C
   cases C
   let{k y}Q p n N:=ng r J;erw[.ref q.2.1,y,.inr ⟨L,k,q.2.1,rfl,Q,rfl,n⟩,rfl,N]
 |_=>exact hd.elim
section
variable{X:Cx}{pins:List (Addr×Obj)}{σ:St}{H:Hp}{s:Shared}{d:Addr}{u:HO}{o:Obj}
theorem yS.notT(h:yS u):(∀ xs,u≠.tup xs)/\(∀ o v,u≠.frz o v)/\(∀ ps,u≠.tbl ps)/\∀ a,u≠.own a:=by
 cases u<;>first|exact h.elim|erw[λ_=>by simp,λ_ _=>by simp,λ_=>by simp,λ_=>by simp]
theorem HOk.frz{P:Program}{w:World}{h:Heap}(x:HOk P w H h)(hd:H d=some u)(f:yS u)(e:h.get? d=some o):HOk P w (upd H d (.frz o u)) h:=λb v q=>by
 let I A O B:=f.notT;let g:∀ c y,H c=some (.own y)->upd H d (.frz o u) c=some (.own y):=λc y r=>by rw[ao (yL r hd λz=>B y z.symm)];exact r
 let a:∀ c j,H c=some (.tup j)->upd H d (.frz o u) c=some (.tup j):=λc j r=>by rw[ao (yL r hd λz=>I j z.symm)];exact r
 by_cases L:b=d
 .subst L;rw[af]at q
  cases q
  erw[e,(x b u hd).stay (λ_ _ _ r=>r) (λc r=>g c b r) a]
 .rw[ao L]at q;exact(x b v q).stay (λ_ _ _ r=>r) (λc r=>g c b r) a
theorem Inv.freeze(I:Inv X pins σ H s)(hd:H d=some u)(f:yS u)(e:s.heap.get? d=some o):Inv X pins σ (upd H d (.frz o u)) s:=by
 let w a O B:=f.notT;exact I.step (H':=upd H d (.frz o u)) (h':=s.heap) (g':=s.gens) (d':=s.drawn) (t':=s.toks) (ch:=[]) (λ_ z=>nomatch z) (λb _ _ _ _ q _=>q) (λb D _ _ _ q _=>⟨D.slots,q⟩)
  (λb _ _ _ n=>by rw[ao (aD hd n).symm];exact n) (λb D _ q=>⟨D,q⟩) (λb j r=>by rw[ao (yL r hd λz=>w j z.symm)];exact r)
  (λb D v r=>by rw[ao (yL r hd λz=>a D v z.symm)];exact r) (λb A r=>⟨#[],by rw[ao (yL r hd λz=>O A z.symm),r];simp⟩) (λ_ q=>q) (I.hok.frz hd f e) I.bare
theorem DT:MtR X "dict.items" (λx xs H Q=>∃ d u,x=.ref d/\xs=[]/\H d=some u/\yS u/\∀ v,H v=none->Q (.ref v) (upd H v (yd v d))):=by
 intro pins s σ H x xs v i Q I c rv h;let d u rfl rfl hd f q:=h
 cases c
 let a:=rv.zero;subst a;let lo N M y _:=B0 f (I.hok d _ hd);refine call_meetsIn Mr y.ty PySem.F.entry_dict_items (PySem.F.args_dict_items_1 _) (Em lo) ⟨⟨N,M,y⟩,?_⟩;let A:(s.heap.push {cls:=.type "dict_items",data:=.fields #[.ref d]}).IsItemsView s.heap.objs.size d:=⟨_,MT _ rfl,rfl,rfl⟩;erw[.ref s.heap.objs.size,_,I.laid (t':=s.toks) (λb o e=>MR _ e) (HF _) ?_,rfl,q _ (I.hok.fresh (HF _))];erw[A,⟨_,MT _ rfl⟩,λY B x k=>let ⟨o,O,r⟩:=x;⟨o,k _ O,r⟩]
end
section
open PySem.W
end
section
open PySem.W
variable{prog:Program}{w:World}{A:Around}{E:Value->Shared->Prop}{s:Shared}
def PrV(h:Heap)(v:Value):Prop:=∃ a o n x y g ty,v=.ref a/\h.get? a=some o/\o.cls=.type "tuple"/\o.data=.seq #[.int x g,.int y ty] n
theorem PrV.keep{v:Value}(p:PrV h v)(k:∀ b o,v=.ref b->h.get? b=some o->h'.get? b=some o):PrV h' v:=by
 let a o n x y g ty rfl Y r m:=p;erw[a,o,n,x,y,g,ty,rfl,k _ _ rfl Y,r,m]
theorem xU{M:Model}:∀{vs:List Value},(∀ v∈vs,PrV s.heap v)->∃ fs,KatTups s.heap vs fs/\fs.length=vs.length/\∀ v∈fs,Looks M s.heap (typeOf v) (.type "int")
 |[],_=>⟨[],trivial,rfl,λv A=>nomatch A⟩
 |v::vs,h=>by
  let fs Y B J:=xU (M:=M) (vs:=vs) λu f=>h u (HK _ f);let a o n x y g ty rfl d G b:=h v (HL ..);erw[.int x g::fs,KatTups.cons d G b rfl Y,by simp[*],λu f=>?_]
  obtain rfl|f:=HQ.mp f
  .exact .now
  .exact J u f
end
theorem xB:∀{ys:List V}{us:List Value},Vals ys us->∀ u∈us,∃ y∈ys,RelV y u
 |_,_,.nil,u,h=>nomatch h
 |_,_,.cons (a:=y) r t,u,h=>by
  obtain rfl|h:=HQ.mp h
  .erw[y,HL ..,r]
  .let z L b:=xB t u h;erw[z,HK _ L,b]
theorem rW{ys:List V}{us:List Value}(r:Vals ys us):∀{out:List Value},(∀ u∈out,u∈us)->∃ zs,Vals zs out/\zs.length=out.length/\∀ z∈zs,z∈ys
 |[],_=>⟨[],.nil,rfl,λz h=>nomatch h⟩
 |u::out,h=>by
  let zs o j H:=rW r (out:=out) λx J=>h x (HK _ J);let y Q T:=xB r u (h u (HL ..))
  erw[y::zs,.cons T o,by simp[*],λz L=>by
   obtain rfl|L:=HQ.mp L
   .exact Q
   .exact H z L]
section
variable{prog:Program}{w:World}{K:Type} [DecidableEq K] {knd:KeyKind prog w K} {A:Around} {E:Value->Shared->Prop} {s:Shared}
end
section
variable{X:Cx}{o e f:Expr}{apos cpos:Pos}{td ty tx:TE}
end
def Itk(o:Obj)(kvs:List (Key×V))(d:Addr):It :=
 ⟨λi H=>H d=some (.frz o (.dK kvs))/\i<kvs.length,λi H v G=>∃ k y,kvs[i]?=some (k,y)/\v=kV k/\G=H,λi H=>H d=some (.frz o (.dK kvs))/\kvs.length<=i⟩
theorem BJ{d:Addr}{es:Array DictEntry}(x:bu P w H h d (.frz o (.dK kvs)))(D:o.data=.dict es ep):(d == sysModules)=false/\∃ vs,KV kvs vs/\h.DictAt (bx P w) d vs ep:=by
 let a L lo vs E A es' k Y B J r:=x;rw[a]at Y
 cases Y
 rw[D]at J
 cases J
 erw[lo,vs,E,o,es,a,B,D,r]
theorem zZ{tg:Expr}(o:Obj)(kvs:List (Key×V))(d it:Addr)(es:Array DictEntry)(ep:Nat)(D:o.data=.dict es ep):Turn P w K tg (Itk o kvs d) [it] it (λi h=>h.IsKeyIter it d i kvs.length ep) where
 mem:=by simp
 obj:=λi h st b L=>by
  let e:b=it:=by simpa using L
  subst e;let o e c d:=st;erw[o,e,λv z=>by simp_all]
 keep:=λi h J st k=>by
  let o e r:=st;erw[o,k it (by simp) o e,r]
 item:=by
  intro X hP p hK g i B s M H E I T st m;subst hP p hK;let hd N:=m;let lo O rk ab:=BJ (I.hok d _ hd) D;let G:kvs.length=O.length:=Paired.length rk;let f0 x Y f3 f4 f5:=T it (by simp)
  let{k v}A:∃ q,O[i]?=some q:=⟨_,Hz ∅⟩
  let{k' y}a ek n:=ng rk A;let ac:k'=k:=ek;subst ac;refine wpAny_pyNext_dict_item (G▸st) ab A λC J f aa sb=>?_;let l:Inv X B M H {s with heap:=J}:=I.turned (t':=s.toks) (λb o L e=>(sb.2 b L).trans e) f0 x f3 f4 f5;let o2 e c dd:=id aa;erw[C,rfl,G5 (s:={s with heap:=J}) e c dd ∅ ⟨kV k',H,l,?_,⟨k',y,a,rfl,rfl⟩,G.symm▸aa,λb L=>(T b L).1⟩]
  rcases aY (show oR k' C=true from f) with⟨j,t,rfl,rfl⟩|⟨z,t,rfl,rfl⟩
  .erw[t,rfl]
  .erw[t,rfl]
 done:=by
  intro X hP p hK g i B s M H E I T st m;subst hP p hK;let hd N:=m;let lo O rk ab:=BJ (I.hok d _ hd) D;let G:kvs.length=O.length:=Paired.length rk;let f0 x Y f3 f4 f5:=T it (by simp)
  exact wpAny_pyNext_dict_end (I.ok.hd g) (G▸st) ab (Jc ∅) λJ eb=>⟨rfl,I.turned (t':=s.toks) (λb o L e=>eb b o L e) f0 x f3 f4 f5⟩
 self:=λ_ _ s Q _ st h=>by
  let u:s.TypeIs (.ref it) "dict_keyiterator":=st.typeIs;refine wpAny_pyIter_slot u F.slot_dict_keyiterator_iter (Nr F.slot_dict_keyiterator_iter u F.entry_dict_keyiterator_iter ?_ (F.args_dict_keyiterator_iter_1 _));show wpAny _ _ (ret (.ref it)) _ _ s;exact MQ ⟨_,rfl,"dict_keyiterator",_,u,F.slot_dict_keyiterator_next.lookup,h⟩
def iKeys(O:TE):TI:=λM H R=>O M H λx m=>∃ d L,x=.ref d/\m d=some (.dK L)/\∀ o,R (Itk o L d) (upd m d (.frz o (.dK L)))
theorem Ge{e:Expr}{O:TE}{tg:Expr}(D:PE X e O):PI X tg e (iKeys O):=by
 intro B s M H R I h;refine thn (D B s M H _ I h) λv J c=>?_;let x m N w k:=c;let d p rfl hd q:=k
 cases w
 let _ a f y sz _:=B0 (u:=.dK p) True.intro (N.hok d _ hd);let o k n Y:=id y;let z:=N.freeze hd True.intro k;let lo g E i:=BJ (z.hok d _ af) Y;let G:p.length=g.length:=Paired.length E;refine wpAny_pyIter_dict lo i ?_;erw[J.heap.objs.size,[J.heap.objs.size],_,_,upd m d (.frz o (.dK p)),rfl,z.kept (t':=J.toks) λb u e=>MR _ e,zZ o p d _ a f Y,⟨_,MT _ rfl,rfl,by rw[G];rfl⟩,λb L=>?_,q o]
 rw[Ih.mp L];exact z.fpOk (HF _) (z.hok.fresh (HF _))
section
variable{prog:Program}{w:World}{A:Around}{E:Value->Shared->Prop}{s:Shared}{T:String}{r d:Addr}{n:Nat}{P:Nat->Value->Prop}{OK:Heap->Prop}
end
section
variable{prog:Program}{w:World}{A:Around}{E:Value->Shared->Prop}{s:Shared}
end
abbrev pz(p:Pos):Arguments:={posonlyargs:=[],args:=[{arg:="each",annotation:=none,pos:=p}],vararg:=none,kwonlyargs:=[],kw_defaults:=[],kwarg:=none,defaults:=[]}
abbrev vD:Scope:={kind:=.function,names:=[("each",.local),("told",.free)],isGenerator:=false,isCoroutine:=false,more:=[]}
abbrev yR(p1 r M:Pos):Expr:=.Subscript (.Name "told" p1) (.Name "each" r) M
section
variable{prog:Program}{w:World}{A:Around}{E:Value->Shared->Prop}{s:Shared}
theorem GV{c' ct t:Addr}{j:Str}{p0 p1 n M:Pos}{d v:Value}{its:Array Value}{k:Int}{tk:Tok}(m:A.depth<recursionLimit)(r:s.heap.get? f=some (Lm "<lambda>" j (pz p0) (yR p1 n M) vD [("told",ct)] u c' d))(i:s.heap.CodeRec (.ref c') j)(h:s.heap.NoLimit)(g:s.heap.IsCell ct (some (.ref t)))(hl:s.heap.IsList t its)(p:0<=k)(q:k<2^63)(z:its[k.toNat]?=some v)(D:∀ h' a,(∀ b o,s.heap.get? b=some o->h'.get? b=some o)->Q v {s with heap:=h',toks:=a}):
  wpAny (model prog w) A (call (.ref f) [.int k tk]) Q E s:=by
 refine wpAny_call (PySem.W.kla_callFunE m r rfl rfl rfl rfl i ?_);let L:bindArgs (PySem.W.kla_fn "<lambda>" j (pz p0) (yR p1 n M) vD [("told",ct)] u (.ref c') d) ⟨[.int k tk],[]⟩=(pure [(("each" : Str),Value.int k tk)]:Sem (List (Str×Value))):=rfl;rw[L];refine MQ (wpAny_newFunctionEnv (λx J=>?_) (λx J=>?_) (λY l y=>?_) rfl)
 .let H:x=(("each" : Str),NameKind.local)∨x=(("told" : Str),NameKind.free):=by simpa using J
  obtain rfl|rfl:=H<;>simp_all
 .rw[Ih.mp J];rfl
 let G:∀ b o,s.heap.get? b=some o->Y.get? b=some o:=λb o e=>y.extBut b o (Ig (MA e)) (MR _ e);erw[h.keeps G,PySem.W.kla_codeExpr ?_];refine Subscript_ (wpAny_Name (wpAny_loadName_free (c:=ct) rfl rfl rfl (g.keeps G) ?_));refine wpAny_Name (wpAny_loadName_local rfl rfl l rfl ?_);exact item_listR (hl.at λo e=>G _ _ e) p q z (D _ _ G)
abbrev Kp(h h':Heap):Prop:=∀ b o,h.get? b=some o->h'.get? b=some o
theorem Kp.but{g:Heap}(k:Kp g h)(n:g.get? I=none)(m:∀ b o,b∉[I]->h.get? b=some o->h'.get? b=some o):Kp g h':=λb o e=>m b o (λz=>by simp_all) (k b o e)
theorem Kp.same{g:Heap}{S:Addr}(k:Kp g h)(n:g.get? S=none)(m:ME S h h'):Kp g h':=λb o e=>(m.2 b (λz=>by simp_all)).trans (k b o e)
theorem DU{J S:Addr}{P:Nat->Value->Prop}{St:Nat->Heap->Prop}{g:Heap}(W:Walks prog w A.in1 J fp [J] n P St)(gJ:g.get? J=none)(gS:g.get? S=none)(am:S≠J)(ac:S∉fp)(turn:∀ i v,i<n->P i v->∀(h:Heap)(tk:Nat)(Q:Value->Shared->Prop)(E:Value->Shared->Prop),Kp g h->(∀ u t h' a,Kp h h'->Q (.int u t) {s with heap:=h',toks:=a})->wpAny (model prog w) A.in1 (call (.ref q) [v]) Q E {s with heap:=h,toks:=tk})(fin:∀ i v h' a,i<n->P i v->Kp g h'->R (.ok (.ret v)) {s with heap:=h',toks:=a}):
  ∀(r j i:Nat)(h:Heap)(tk:Nat)(vb:Value)(f:Int)(tb:Tok)(c:Nat),n-(j+1)=r->j+1<=n->Kp g h->h.get? S=some (NB "list" #[vb,.int f tb] c)->St (j+1) h->i<n->P i vb ->
   M5 (model prog w) A (.builtin "min.loop" ⟨[.ref J,.ref q,.ref S],[]⟩) R {s with heap:=h,toks:=tk}:=by
 let nm:(toString "min"++toString ".loop" : String) = "min.loop":=by rfl
 intro r;induction r with
 |zero =>
  intro j i h tk vb f tb c er O kg M st I T;let D:j+1=n:=by omega
  refine NG JO ?_;rw[NH IF _];refine MN (m:=seqItems? (.ref S)) (NI M rfl ?_);show wpAny _ A.in1 (tryCatch (pyNext (.ref J)) _ >>= _) _ _ _;refine MN (NJ (W.done _ _ _ (by rw[← D];exact st) λh' a y=>?_))
  let ap:=kg.but gJ y;let x:=y S _ (by simpa using am) M
  let su:=Nw h' S (Nc λ_=>(#[]:Array Value));refine MN (m:=NK S λ_=>#[]) (NL x rfl (MN (NA (MQ ?_))));exact fin i vb _ _ I T (ap.same gS su)
 |succ r p =>
  intro j i h tk vb f tb c er O kg M st I T;let lt:j+1<n:=by omega
  refine NG JO ?_;rw[NH IF _];refine MN (m:=seqItems? (.ref S)) (NI M rfl ?_);show wpAny _ A.in1 (tryCatch (pyNext (.ref J)) _ >>= _) _ _ _;refine MN (NJ (W.item (j+1) _ _ _ lt st λv Y al N ab d=>?_));let C:=kg.but gJ d;let k:=d S _ (by simpa using am) M
  show wpAny _ A.in1 (tryCatch (holding [v] (call (.ref q) [v])) _ >>= _) _ _ _;refine MN (NJ (MO (turn (j+1) v lt N Y al _ _ C λu t B aI G=>?_)));let an:Kp g B:=λb o e=>G b o (C b o e);let H:=G _ _ k;let l:=W.frame _ _ B ab λb _ o e=>G b o e;show wpAny _ A.in1 (tryCatch (holding [v,.int u t] (richCompare .Lt (.int u t) (.int f tb) >>= _)) _ >>= _) _ _ _;refine MN (NJ (MO (MN (CmpOf.ints_lt (prog:=prog) (w:=w) (A:=A.in1) (P:=λ(i:Nat) v=>∃ t,v=.int (if i=0 then u else f) t) (λi=>if i=0 then u else f) (λi v h=>h) 0 1 _ _ _ _ _ ⟨t,rfl⟩ ⟨tb,rfl⟩ ?_))));refine MN (MO (MI (MN (NA (MQ ?_)))));by_cases cc:u<f
  .let su:=Nw B S (Nc λ_=>#[v,.int u t])
   let c2 aa:∃ c2,(B.update S (Nc λ_=>#[v,.int u t])).get? S=some (NB "list" #[v,.int u t] c2):=⟨_,NC H λ_=>#[v,.int u t]⟩;simp[cc];refine MN (NL H rfl (MN (NA ?_)));refine MQ ⟨NM IF _,p (j+1) (j+1) _ _ v u t c2 ∅ lt (an.same gS su) aa (W.frame _ _ _ l λb L o e=>(su.2 b (λz=>ac (z▸L))).trans e) lt N⟩
  .simp[cc];refine MN (NA (MQ ?_));erw[NM IF _,p (j+1) i _ _ vb f tb c ∅ lt an H l I T]
theorem GN{d:Addr}{KK:Type}[DecidableEq KK]{knd:PySem.KeyKind prog w KK}{kvs:List (KK×Value)}(p:A.handled=none)(hd:Heap.DictAt knd s.heap d kvs ep)(ds:(d == sysModules)=false)(H:0<kvs.length)(turn:∀(i:Nat)(v:Value)(k:KK)(x:Value),kvs[i]?=some (k,x)->knd.is k v=true->∀(h:Heap)(tk:Nat)(Q:Value->Shared->Prop)(E:Value->Shared->Prop),Kp s.heap h->(∀ u t h' a,Kp h h'->Q (.int u t) {s with heap:=h',toks:=a})->wpAny (model prog w) A.in1 (call (.ref q) [v]) Q E {s with heap:=h,toks:=tk})(fin:∀(i:Nat)(v:Value)(k:KK)(x:Value)(h':Heap)(a:Nat),kvs[i]?=some (k,x)->knd.is k v=true->Kp s.heap h'->Q v {s with heap:=h',toks:=a}):
  wpAny (model prog w) A (call (.builtin "min") [.ref d] [(Str.ofString "key",.ref q)]) Q E s:=by
 let nm:(toString "min"++toString ".loop" : String) = "min.loop":=by rfl
 let f _ an _:=id hd;let dl:d<s.heap.objs.size:=MA an;refine kmk_tree PySem.F.kind_min PySem.F.plain_min PySem.F.entry_min (kmk_min_key _ _) ?_;show wpAny _ A.in1 (NN "min" ["key","default"] 0 ⟨[],[(Str.ofString "key",.ref q)]⟩ >>= _) _ _ s;refine MN (wpAny_of_eq (show NN "min" ["key","default"] 0 ⟨[],[(Str.ofString "key",.ref q)]⟩=pure [some (.ref q),none] from rfl) (MN (MQ (MN (wpAny_pyIter_dict ds hd ?_)))));refine MN (ND ?_ (Iz _));rw[nm];let D aa:∃ D:Obj,D={cls:=Value.type "dict_keyiterator",data:=Data.fields #[Value.ref d,Value.int 0 0,Value.int (kvs.length:Int) 0,Value.int (ep:Int) 0]}:=⟨_,rfl⟩;rw[← aa];let sz:(s.heap.push D).objs.size=s.heap.objs.size+1:=by rw[M6]
 let ac:(s.heap.push D).objs.size≠s.heap.objs.size:=by omega
 let aI:d≠s.heap.objs.size:=Ig dl;let fr:∀ b,s.heap.objs.size<=b->s.heap.get? b=none:=λb L=>MD L;let c:Kp s.heap ((s.heap.push D).push (NB "list" #[] 0)):=λb o e=>MR _ (MR _ e);let M:((s.heap.push D).push (NB "list" #[] 0)).get? (s.heap.push D).objs.size=some (NB "list" #[] 0):=MT _ rfl;let hJ:((s.heap.push D).push (NB "list" #[] 0)).get? s.heap.objs.size=some D:=MR _ (MT _ (by rw[aa];rfl))
 let W:=Walks.dictKeys (prog:=prog) (w:=w) (knd:=knd) (A:=A.in1) p s.heap.objs.size d aI kvs ep;let al:∀(i:Nat)(v:Value),i<kvs.length->(∃ k,∃ x,kvs[i]?=some (k,x)/\knd.is k v=true)->∀(h:Heap)(tk:Nat)(Q:Value->Shared->Prop)(E:Value->Shared->Prop),Kp s.heap h->(∀ u t h' a,Kp h h'->Q (.int u t) {s with heap:=h',toks:=a})->wpAny (model prog w) A.in1 (call (.ref q) [v]) Q E {s with heap:=h,toks:=tk}:=λi v _ ⟨k,x,C,T⟩=>turn i v k x C T;refine MQ ⟨NM IF _,NG JO ?_⟩;rw[NH IF _];refine MN (m:=seqItems? (.ref (s.heap.push D).objs.size)) (NI M rfl ?_);show wpAny _ A.in1 (tryCatch (pyNext (.ref s.heap.objs.size)) _ >>= _) _ _ _;refine MN (NJ (W.item 0 _ _ _ H ⟨⟨D,hJ,by rw[aa],by simp_all⟩,hd.at' λo e=>c _ _ e⟩ λv Y ab N I J=>?_))
 let j:=c.but (fr _ (HF _)) J;let O:=J _ _ (by simp) M
 show wpAny _ A.in1 (tryCatch (holding [v] (call (.ref q) [v])) _ >>= _) _ _ _;refine MN (NJ (MO (al 0 v H N Y ab _ _ j λu t B ap G=>?_)));let am:Kp s.heap B:=λb o e=>G b o (j b o e);let n:=G _ _ O;let l:=W.frame _ _ B I λb _ o e=>G b o e;let su:=Nw B (s.heap.push D).objs.size (Nc λ_=>#[v,.int u t]);let c2 r:∃ c2,(B.update (s.heap.push D).objs.size (Nc λ_=>#[v,.int u t])).get? (s.heap.push D).objs.size=some (NB "list" #[v,.int u t] c2):=⟨_,NC n λ_=>#[v,.int u t]⟩;let g:(s.heap.push D).objs.size∉[s.heap.objs.size,d]:=λz=>by
  obtain z|z:=HQ.mp z
  .exact ac z
  .grind
 refine MN (m:=NK _ λ_=>#[v,.int u t]) (NL n rfl ?_);rw[nm];refine MQ ⟨NM IF _,DU W (fr _ (HF _)) (fr _ ∅) ac g al (λi v h' a _ ⟨k,x,C,T⟩ y=>fin i v k x h' a C T y) _ 0 0 _ _ v u t c2 rfl H (am.same (fr _ ∅) su) r (W.frame _ _ _ l λb L o e=>(su.2 b (λz=>g (z▸L))).trans e) H N⟩
end
section
variable{X:Cx}{pins:List (Addr×Obj)}{σ:St}{H:Hp}{s:Shared}{h':Heap}{T:Addr}{ps more:Array Value}{t':Nat}
theorem Inv.tab(I:Inv X pins σ H s)(e:H T=some (.tbl ps))(J:∀ b o,b≠T->s.heap.get? b=some o->h'.get? b=some o)(A:h'.get? T=some {cls:=.none,data:=.fields (ps++more)}):
  Inv X pins σ (upd H T (.tbl (ps++more))) {s with heap:=h',toks:=t'}:=by
 let ne:∀{b:Addr}{o:Option HO},H b=o->o≠some (.tbl ps)->b≠T:=λq n z=>n (by rw[← q,z,e])
 refine I.un ⟨λb o g n _ _=>J b o (ne n (by simp)) g,λb o g n _ _=>⟨o.slots,J b o (ne n (by simp)) g⟩,λb o g n _=>?_,λb o g _=>?_,λb j q=>?_,λb o u q=>?_,λb p q=>?_⟩ λb u q=>?_
 .rw[ao (ne n (by simp))]
  exact n
 .by_cases z:b=T
  .rw[z];erw[_,A]
  .erw[o,J b o z g]
 .rw[ao (ne q (by simp))]
  exact q
 .rw[ao (ne q (by simp))]
  exact q
 .by_cases z:b=T
  .subst z;rw[e]at q
   cases q
   erw[more,af]
  .erw[#[],by rw[ao z,q];simp]
 .by_cases z:b=T
  .subst z;rw[af]at q
   cases q
   exact A
  .rw[ao z]at q;refine(I.hok b u q).stay (λc o l g=>J c o (λy=>?_) g) (λc g=>?_) λc o g=>?_
   .simp_all
   .rw[ao (ne g (by simp))];exact g
   .rw[ao (ne g (by simp))];exact g
end
def codO(c:Addr)(q:Str):HO:=.ext λh=>h.CodeRec (.ref c) q
def Tb(q:Str)(N:Pos)(T:Addr)(H:Hp):Prop:=H T=some (.tbl #[])∨∃ c,H T=some (.tbl #[rawInt N.line,rawInt N.col,.ref c])/\H c=some (codO c q)
def TbS(T:Addr)(H H':Hp):Prop:=∀ b o,b≠T->H b=some o->H' b=some o
structure Lam(X:Cx)(c T ct:Addr)(lq:Str):Prop where
 code:X.env.code=.ref c
 hd:Kd X.base c T
 bm:∃ bm,∃ o,(X.mg "__builtins__"=some (.ref bm)/\bm≠builtinsNs/\X.base.get? bm=some o/\o.cls=.type "module"/\o.dict=some builtinsNs/\o.data=.plain)
 kind:X.env.kindOf "told"=some .cell
 cl:closureFor vD X.env=pure [(("told" : Str),ct)]
 cell:X.env.cells.lookup ("told" : Str)=some ct
 q:X.env.qual++"<lambda>"=lq
theorem GX{a:Type}:∀{kvs:List (a×V)}{vs:List (a×Value)},KV kvs vs->∀{i:Nat}{k:a}{y:Value},vs[i]?=some (k,y)->∃ kv,kv∈kvs/\k=kv.1
 |_,_,.nil,i,k,y,e=>by simp at e
 |p::_,q::_,.cons h r,0,k,y,e=>by
  cases e
  erw[p,HL ..,h.1.symm]
 |p::_,_::_,.cons _ r,i+1,k,y,e=>by
  let kv m d:=GX r (show _=some (k,y) from e);erw[kv,HK _ m,d]
def tMinK(b:Str)(N:Pos)(T:Addr)(it:Nat)(t:TA):TE:=λM H Q=>t M H λg m=>∃ d L a j,g=[.ref d]/\m d=some (.dK L)/\L≠[]/\M[it]?=some (some (.ref a))/\m a=some (.lst j)/\Tb b N T m /\
 (∀ I∈L,∃(k:Nat)(n:Int),I.1=.inl (k:Int)/\j[k]?=some (.int n))/\∀ I∈L,∀ G,TbS T m G->Tb b N T G->Q (kV I.1) G
theorem Gi{c T ct:Addr}{lq:Str}{it:Nat}{t:TA}{np xp p0 p1 p2 p3 lp kp:Pos}(L:Lam X c T ct lq)(J:X.ex=[])(E:X.calm=true)(O:Room 0 X.A)(hN:X.N[it]?=some ("told" : Str))(hv:Vis X.env.scope "told")(hg:Gl X "min")(hm:X.mg "min"=none)(ha:PA X [.Name x xp] t):
  PE X (.Call (.Name "min" np) [.Name x xp] [⟨some "key",.Lambda (pz p0) (yR p1 p2 p3) vD lp,kp⟩] pos) (tMinK lq lp T it t):=by
 intro B s M H Q I h;refine Na (kQ I hg hm ur ?_);refine callWith_kw (thn (ha pos B s M H _ I h) λus s1 ⟨vs,H1,I1,r1,q1⟩=>?_);let d kvs a xs rfl hd ab bi g tb D q:=q1;let u rfl ru:=mN r1
 cases ru
 refine kws_cons (PySem.W.kla_eval rfl ?_);rw[L.q];let bR:0<kvs.length:=List.length_pos_iff.mpr ab;let go:∀(l:Hp)(s2:Shared)(f c':Addr)(pm aS:Value),Inv X B M l s2->s2.heap.get? f=some (Lm "<lambda>" lq (pz p0) (yR p1 p2 p3) vD [("told",ct)] pm c' aS)->s2.heap.CodeRec (.ref c') lq->l d=some (.dK kvs)->l a=some (.lst xs)->(∀ kv∈kvs,Q (kV kv.1) l) ->
   wpAny (model X.prog X.w) X.A (call (.builtin "min") [.ref d] [(Str.ofString "key",.ref f)]) (EP X B M Q) X.xe s2:=by
  intro l s2 f c' pm aS I2 hf a4 am aW q2;let _ ds vs a2 od r ep a6:=zm I2.hok am;let vl:=a2.length;refine GN (knd:=bx X.prog X.w) (kvs:=vs) (ep:=ep) (I2.ok.hd E) ⟨od,r,a6⟩ ds ∅ ?_ ?_
  .intro i v k y C p h' tk Q' E' kk bn;let{k1 w1}m1 ek:=GX a2 C;let j n ej hn:=D _ m1;let a1:k=.inl (j:Int):=ek.trans ej;subst a1;let sh:∃ t,v=Value.int (j:Int) t:=by
    rcases aY (show oR (.inl (j:Int)) v=true from p) with⟨i',t',z1,z2⟩|⟨_,_,z1,_⟩
    .cases z1;erw[t',z2]
    .cases z1
   let tv rfl:=sh;let hz its bQ rv bv:=I2.hok a _ aW;let wv bB bC:=rv.get hn;let tn rfl:=bC;let jl:j<xs.length:=(HB.mp hn).1;let bS:=pq;let m a3 a7:=I2.loc;let u ru lk:=a7 it "told" (.ref a) hN bi hv
   cases ru
   let aI:s2.heap.IsCell ct (some (.ref a)):=by
    rcases lk with⟨kl,_⟩|⟨_,c2,ec,z⟩
    .exact NZ kl (by rw[L.kind];intro z;cases z)
    .rw[L.cell]at ec;cases ec;exact z
   refine GV (A:=X.A.in1) (f:=f) (c':=c') (t:=a) (its:=its.toArray) (k:=(j:Int)) ?_ (kk _ _ hf) (a4.keeps kk) (I2.nolimit.keeps kk) (aI.keeps kk) ⟨_,kk _ _ bv,rfl,_,rfl⟩ ∅ ∅ (by rw[HP];simpa using bB) λh3 a5 k3=>bn _ _ _ _ k3
   let:=O.dp;show X.A.depth<recursionLimit;omega
  .intro i v k y h' tk C p kk;let kv m1 ek:=GX a2 C;erw[kV k,l,I2.kept kk,?_,by rw[ek];exact q2 kv m1]
   rcases aY (show oR k v=true from p) with⟨i',t',rfl,rfl⟩|⟨y',t',rfl,rfl⟩
   .erw[t',rfl]
   .erw[t',rfl]
 let bb:s1.heap.BuiltinsAt X.mg T:=by
  let bm o b1 b2 b3 b4 b5 b6:=L.bm;let o1 al bJ g1 g2 _:=id I1.mod.glob;let hT:H1 T≠none:=by
   obtain z|⟨_,z,_⟩:=tb<;>rw[z]<;>simp
  erw[bm,o,b1,b2,λz=>?_,λz=>?_,I1.bk _ _ b3,b4,b5,b6]
  .simp_all
  .rw[z]at b3;exact hT (I1.bs _ _ b3).2
 let neT:MB≠T:=λz=>by
  let o1 al bJ g1 g2 _:=id I1.mod.glob;let:=(I1.bs _ _ g1).2;rw[z]at this;obtain y|⟨_,y,_⟩:=tb<;>rw[y]at this<;>contradiction
 let be:=I1.mod.glob.keeps I1.bk;obtain hT|⟨c',hT,bf⟩:=tb
 .let gT:s1.heap.get? T=some (Mg #[]):=I1.hok T _ hT
  refine PySem.W.kla_makeFunction (mg:=X.mg) L.cl I1.ok.glob be L.code (L.hd.keeps I1.bk) gT trivial rfl neT bb λc' aS h' tk bK ba aa an ap=>kws_nil ?_;let cT:c'≠T:=λz=>by
   let:=MA gT;rw[← z]at this;exact NZ this (Lf ba)
  let I2:=I1.tab (more:=#[rawInt lp.line,rawInt lp.col,.ref c']) (t':=tk) hT (λb o n e=>bK b o n e) ∅
  let e0:(#[]:Array Value)++#[rawInt lp.line,rawInt lp.col,.ref c']=#[rawInt lp.line,rawInt lp.col,.ref c']:=by simp
  rw[e0]at I2;let fr:s1.heap.get? c'=none:=MD ba;let bP:H1 c'=none:=I1.hok.none_of fr;let c3 oc bT t3 ec g1 g2 g3:=id an
  cases ec
  let I3:=I2.xtrack (a:=c') (o:=codO c' lq) (I1.xok J fr (by rw[ao cT];exact bP)) ⟨an,⟨oc,g1⟩,λY G ⟨c4,o4,v4,t4,z1,z2,z3,z4⟩ kk=>by cases z1;erw[_,o4,v4,t4,rfl,kk o4 z2,z3,z4]⟩
  let a0:Kp h' (h'.push (Lm "<lambda>" lq (pz p0) (yR p1 p2 p3) vD [("told",ct)] ((X.mg "__name__").getD .none) c' aS)):=λb o e=>MR _ e;let I4:=I3.kept (t':=tk) a0;let dT:d≠T:=λz=>by simp_all
  let aT:a≠T:=λz=>by simp_all
  let dc:d≠c':=λz=>by simp_all
  let ac:a≠c':=λz=>by simp_all
  let sm:TbS T H1 (upd (upd H1 T (.tbl #[rawInt lp.line,rawInt lp.col,.ref c'])) c' (codO c' lq)):=λb o n e=>by
   rw[ao (λz=>by simp_all),ao n]
   exact e
  refine go _ _ h'.objs.size c' _ _ I4 (MT _ rfl) (an.keeps a0) (sm _ _ dT hd) (sm _ _ aT g) λkv m=>q kv m _ sm (.inr ⟨c',by rw[ao (Ne.symm cT)];exact af,af⟩)
 .let gT:s1.heap.get? T=some (Mg #[rawInt lp.line,rawInt lp.col,.ref c']):=I1.hok T _ hT
  let an _ _:=(show bu X.prog X.w H1 s1.heap c' (codO c' lq) from I1.hok c' _ bf);refine PySem.W.kla_makeFunctionHit (mg:=X.mg) (cv:=.ref c') L.cl I1.ok.glob be L.code (L.hd.keeps I1.bk) gT trivial (by simp[codeAmong,rawInt]) bb λaS h' tk kk sz=>kws_nil ?_
  let a0:Kp s1.heap (h'.push (Lm "<lambda>" lq (pz p0) (yR p1 p2 p3) vD [("told",ct)] ((X.mg "__name__").getD .none) c' aS)):=λb o e=>MR _ (kk b o e);let I4:=I1.kept (t':=tk) a0;exact go _ _ h'.objs.size c' _ _ I4 (MT _ rfl) (an.keeps a0) hd g λkv m=>q kv m _ (λb o _ e=>e) (.inr ⟨c',hT,bf⟩)
abbrev Bm(mg:Str->Option Value)(h:Heap):Prop:=∃ a,∃ o,(mg "__builtins__"=some (.ref a)/\a≠builtinsNs/\h.get? a=some o/\o.cls=.type "module"/\o.dict=some builtinsNs/\o.data=.plain)
theorem Bj{mb:Str->Option Value}{CX:CXT}{k:Nat}{c T:Addr}{s:Shared}(KX:K.In s.heap)(j:s.heap.Ns MB mg)(L:s.heap.Ns builtinsNs mb)(a2:∀ x:Str,x≠"__name__"->mb x=MC x)(am:s.heap.NoLimit)(gens:s.gens=#[])(l:Kd s.heap c T)(A:s.heap.get? T=some (Mg #[]))(nT:K.lookup T=none)(an:Bm mg s.heap)(E:s.heap.get? a=some {cls:=.type "list",data:=.seq vs.toArray})(hi:Nh vs ns)(hl:ns.length<=Mz)(O:Room k callerA)(F:∀ base:Heap,K.In base->base.Ns MB mg->Kd base c T->Bm mg base->FnOk P w K mg base CX k p fd [x] sp)(bind:∀(s:Shared)(u:Value),BindsTo s fd ⟨[u],[]⟩ [(x,u)])(ac:∀ H:Hp,H T=some (.tbl #[])->SqL K H a (ns.map V.int)->sp [.ref a] H (λv _=>v=.bl true) λ_ _ _=>False)(aS:∀ H e s',CX [] H s (λ_ _ _=>False) e s'->False):
  M5 (model P w) callerA (.call (.ref p) ⟨[.ref a],[]⟩) (λr s'=>r=.ok (.ret (.bool true))/\OldK s.heap s'.heap/\s'.os=s.os/\AllBare s'.gens) s:=by
 let rv:=rX hi;let aT:a≠T:=λz=>by lia
 let H eT eS aa only frz:∃ H:Hp,H T=some (.tbl #[])/\SqL K H a (ns.map V.int)/\HOk P w H s.heap/\(∀ b,H b≠none->(b=T∨b=a)/\K.lookup b=none)/\(∀ b u,H b=some u->b≠T->∃ o t,u=.frz o (.lst t)):=by
  cases f:K.lookup a with
  |some o =>
   let e:=KX a o f;rw[E]at e
   cases e
   erw[upd (λ_=>none) T (.tbl #[]),af,.inr ⟨_,vs.toArray,_,f,rfl,rfl,rfl,by rw[IE,hi.length];exact hl,by simpa using rv⟩,λb u z=>?_,λb z=>?_,λb u z n=>?_]
   .by_cases y:b=T
    .subst y;rw[af]at z;cases z;exact A
    .rw[ao y]at z;cases z
   .by_cases y:b=T
    .erw[.inl y,y▸nT]
    .rw[ao y]at z;exact NZ rfl z
   .rw[ao n]at z;cases z
  |none =>
   erw[upd (upd (λ_=>none) a (.frz {cls:=.type "list",data:=.seq vs.toArray} (.lst (ns.map V.int)))) T (.tbl #[]),af,.inl (.inr ⟨{cls:=.type "list",data:=.seq vs.toArray},by rw[ao aT];exact af⟩),λb u z=>?_,λb z=>?_,λb u z n=>?_]
   .by_cases y:b=T
    .subst y;rw[af]at z;cases z;exact A
    .rw[ao y]at z;by_cases J:b=a
     .subst J;rw[af]at z;cases z;erw[E,by simp[*],vs,_,rv,E]
     .rw[ao J]at z;cases z
   .by_cases y:b=T
    .erw[.inl y,y▸nT]
    .rw[ao y]at z;by_cases J:b=a
     .erw[.inr J,J▸f]
     .rw[ao J]at z;exact NZ rfl z
   .rw[ao n]at z;by_cases J:b=a
    .subst J;rw[af]at z;cases z;erw[_,_,rfl]
    .rw[ao J]at z;cases z
 let a0:∀{b:Addr}{o:Obj},s.heap.get? b=some o->o.cls≠.none->o.cls≠.type "list"->H b=none:=λ{b o} e n1 n2=>by
  grind
 let a3:∀{b:Addr}{o:Obj}{N:Array DictEntry}{I:Nat},s.heap.get? b=some o->o.data=.dict N I->H b=none:=λ{b o N I} e d=>by
  cases q:H b with
  |none=>rfl
  |some u =>
   rcases(only b (by rw[q];simp)).1 with z|z
   .rw[z,A]at e;lia
   .rw[z,E]at e;grind
 let ap:∀{b:Addr}{m:Str->Option Value},s.heap.Ns b m->(hidT s.heap H).Ns b m:=λ{b m} ⟨o,N,I,e,d,r⟩=>⟨o,N,I,nh e (a3 e d),d,r⟩
 let kB:K.In (hidT s.heap H):=λb o e=>nh (KX b o e) (by
  grind)
 let cB:Kd (hidT s.heap H) c T:=by
  let o v2 a1 tf aW tg a4 text tt C D r:=l;erw[o,v2,a1,tf,aW,tg,a4,text,tt,nh C (a0 C (by rw[D];simp) (by lia)),D,r]
 let bB:Bm mg (hidT s.heap H):=by
  let bm o b1 b2 b3 b4 r:=an;erw[bm,o,b1,b2,nh b3 (a0 b3 (by rw[b4];simp) (by lia)),b4,r]
 let md:Mod K mg (hidT s.heap H):=⟨kB,ap j,⟨mb,ap L,a2⟩,let ⟨mc,Y,B⟩:=am;⟨mc,ap Y,B⟩⟩;let e0:Env0 P w K mg (hidT s.heap H) callerA [] s H:=⟨rfl,md,λb o e=>GD e,Nat.le_of_eq (BE _ _),trivial,λb z=>NZ (show b∈([]:List Addr) from z) (by simp),aa,.of_eq gens⟩
 refine M9 ((F _ kB (ap j) cB bB).run callerA [] s H ⟨[.ref a],[]⟩ [.ref a] [.ref a] _ _ O e0 (bind s (.ref a)) (.cons rfl .nil) (ac H eT eS)) λr s' h=>?_
 cases r with
 |error e=>exact(aS H e s' h).elim
 |ok fl =>
  cases fl with
  |next=>exact False.elim h
  |brk=>exact False.elim h
  |cont=>exact False.elim h
  |ret u =>
   let v G os al un aI r' q:=h;let q':v=.bl true:=q;subst q';obtain rfl:u=Value.bool true:=r';let nil:∀ b:Addr,b∉frs []:=λb z=>NZ (show b∈([]:List Addr) from z) (by simp)
   let gT:∃ ab,s'.heap.get? T=some {cls:=.none,data:=.fields (#[]++ab)}:=by
    let ab e:=un.tbls T _ eT;erw[ab,aI T _ e]
   let kp:∀ b o,b≠T->s.heap.get? b=some o->s'.heap.get? b=some o:=λb o n e=>by
    cases q:H b with
    |none=>exact un.keep b o e q (nil b) (by simp)
    |some u =>
     let Q t rfl:=frz b u q n;let M:=un.frzs b Q _ q;let i _:=aa b _ q;let g2 _:=aI b _ M;simp_all
   erw[rfl,⟨λb o e=>?_,λb o e=>?_⟩,os,al]
   .by_cases z:b=T
    .subst z;rw[A]at e
     cases e
     let ab g:=gT;exact .inr (.inl ⟨(l.tab A).isCodeTable,rfl,#[],ab,rfl,g⟩)
    .exact .inl (kp b o z e)
   .by_cases z:b=T
    .subst z;let ab g:=gT;erw[_,g]
    .erw[o,kp b o z e]
theorem walk_ofT{l:L8}{k:Nat}{q:Program}{Q:List Str}{XP:(Str->Option Value)->Heap->Prop}{YP:World->Heap->Prop}{d df:DefRec}{K:Params->HE}{CX:CXT}{sp:HE->Addr->Sp}{fn:Str}(N:l.most=some n)(al:n<=Mz)(ab:d.params.defaults=[])(O:Room k callerA)(hY:∀(w:World)(h:Heap),YP w h->(K w.params).In h)(C:(recsOf q).find? (λe=>e.name == fn)=some df)(F:∀(w:World)(mg:Str->Option Value)(E:Addr)(h:Heap),(K w.params).In h->h.Ns MB mg->mg d.name=some (.ref E)->∃ fd:FuncData,(∀(s:Shared)(u:Value),BindsTo s fd ⟨[u],[]⟩ [(x,u)]) /\
   ∃ c T,Km (K w.params) fn=some (c,T)/\(K w.params).lookup T=none/\∀ base:Heap,(K w.params).In base->base.Ns MB mg->Kd base c T->Bm mg base->FnOk l.prog w (K w.params) mg base CX k E fd [x] (sp (K w.params) T))(J:∀(K:HE)(T:Addr)(H:Hp)(a:Addr)(ns:List Int),ns.length<=n->H T=some (.tbl #[])->SqL K H a (ns.map V.int)->sp K T [.ref a] H (λv _=>v=.bl true) λ_ _ _=>False)(an:∀(H:Hp)(s:Shared)(e:Value)(s':Shared),CX [] H s (λ_ _ _=>False) e s'->False):
  PySem.W.WalkO q Q XP YP l.row.toRowW d [] (λf vs=>PySem.call f vs):=by
 refine Att.attach_call N ab λw ap m mg mb E o p A M a vs ns G Y t hd z am ac aa D j=>?_;let KX:=hY w _ Y;let fd L c T r nT hF:=F w mg E _ KX G.T.g am;let y I:=PySem.W.tab_of G.T KX C r;exact Bj KX G.T.g G.T.b G.T.builtins G.T.nolimit j y I nT G.T.bmain ac aa (IK D al) O hF L (λH i B=>J _ T H a ns D i B) λH e s'=>an H m e s'
theorem op_neE(f:X.A.units+64<cLine):OpR X (MH .NotEq) (λx y H Q=>∃ a b kvs,x=.ref a/\y=.ref b/\H a=some (.dK kvs)/\H b=some (.dK [])/\Q (.bl (!kvs.isEmpty)) H):=by
 intro B s M H x y v u Q I c N h;let a b kvs rfl rfl E L q:=h
 cases c
 cases N
 let _ k g d m:=zm I.hok E;let _ t l i o:=zm I.hok L;let j:=d.length;let z:=i.length;let T:l=[]:=KD z.symm;subst T;refine PySem.W.keq_ne (r:=true) k t m o ∅ (λe=>?_) ⟨.bl (!(g.length == 0&&true)),H,I,rfl,?_⟩
 .let C:g=[]:=KD e
  subst C;exact .nil
 .cases kvs with
  |nil =>
   cases g with
   |nil=>exact q
   |cons p r=>cases j
  |cons p r =>
   cases g with
   |nil=>cases j
   |cons p r=>exact q
def lexB:List (Int×Int)->Bool
 |[]=>false
 | (x,y)::r=>if x=y then lexB r else decide (x<y)
section
variable{prog:Program}{w:World}{A:Around}{E:Value->Shared->Prop}{s:Shared}
def Ps:List (Value×Value)->List (Int×Int)->Prop
 |[],[]=>True
 | (u,v)::r,(x,y)::q=>(∃ t,u=.int x t)/\(∃ t,v=.int y t)/\Ps r q
 |_,_=>False
theorem FQ{b:Addr}{oa:Obj}{us vs:Array Value}{ps:List (Int×Int)}{P:PySem.Fin->Shared->Prop}(p:s.heap.get? a=some oa)(d:oa.data=.seq us N)(H:s.heap.get? b=some ob)(m:ob.cls=.type "tuple")(l:ob.data=.seq vs j)(M:Ps (us.toList.zip vs.toList) ps)(hl:us.size=vs.size)(h:P (.done (.ret (.bool (lexB ps)))) s):wpAny (model prog w) A (Builtin.«tuple.__lt__» ⟨[.ref a,.ref b],[]⟩) P E s:=by
 show wpAny _ _ (isInstance (.ref b) (.type "tuple") >>= _) _ _ s;refine MN (Nm (T:="tuple") ⟨ob,H,m⟩ isSubtype_tuple_tuple ?_);simp only[Le,Jr,if_false];refine MN (wpAny_tupleItemsOf p d (MN (wpAny_tupleItemsOf H l (MN ?_))));refine wpAny_forIn_list _ (λrest r k=>r.1=none/\k=s/\∃ q,Ps rest q/\lexB q=lexB ps) _ ?_ ?_ _ _ ⟨rfl,rfl,ps,M,rfl⟩
 .rintro⟨u,v⟩ rest r k ⟨O,rfl,q,C,e⟩;match q,C with
  | (x,y)::q,⟨⟨t,Y⟩,⟨G,B⟩,n⟩ =>
   subst Y;subst B;refine MN (wpAny_eqBool_int ?_);by_cases c:x=y
   .let:(x == y)=true:=by simp[c]
    rw[this];simp only[Le,Jr,if_false];refine MQ ⟨rfl,rfl,q,n,?_⟩;rw[← e];show lexB q=if x=y then lexB q else decide (x<y);rw[NX c]
   .let:(x == y)=false:=by simp[c]
    rw[this];simp only[Bool.not_false,if_true];let D:lexB ps=decide (x<y):=by
     rw[← e];show(if x=y then lexB q else decide (x<y))=_;rw[NY c]
    rw[D]at h;refine MN (wpAny_rule (MN (CmpOf.ints_lt (prog:=prog) (w:=w) (A:=A) (P:=λ(i:Nat) v=>∃ t,v=.int (if i=0 then x else y) t) (λi=>if i=0 then x else y) (λi v h=>h) 0 1 _ _ _ _ _ ⟨t,rfl⟩ ⟨G,rfl⟩ ?_)));exact MN (MQ (MQ (MQ h)))
 .rintro⟨o,f⟩ k ⟨O,rfl,q,C,e⟩;simp only at O;subst O;let I:q=[]:=by
   cases q with
   |nil=>rfl
   |cons z q=>exact C.elim
  subst I;let g:Builtin.Tuple.tupleCompareSizes CmpOp.Lt us.size vs.size=Value.bool (lexB ps):=by
   rw[← e,hl];show Value.bool (decide (vs.size<vs.size))=Value.bool false;simp_all
  show wpAny _ _ (ret (Builtin.Tuple.tupleCompareSizes CmpOp.Lt us.size vs.size)) _ _ _;rw[g];exact MQ h
theorem tup_lt{b:Addr}{oa:Obj}{us vs:Array Value}{ps:List (Int×Int)}(p:s.heap.get? a=some oa)(g:oa.cls=.type "tuple")(k:oa.data=.seq us N)(H:s.heap.get? b=some ob)(m:ob.cls=.type "tuple")(t:ob.data=.seq vs i)(M:Ps (us.toList.zip vs.toList) ps)(hl:us.size=vs.size)(f:A.units<cLine)(h:Q (.bool (lexB ps)) s):wpAny (model prog w) A (richCompare .Lt (.ref a) (.ref b)) Q E s:=by
 refine wpAny_richCompare_same_room (op:=.Lt) (T:="tuple") ⟨oa,p,g⟩ ⟨ob,H,m⟩ PySem.F.slot_tuple_lt (Nr PySem.F.slot_tuple_lt ⟨oa,p,g⟩ PySem.F.entry_tuple_lt ?_ (PySem.F.args_tuple_lt_2 _ _)) f;exact FQ p k H m t M hl ⟨_,rfl,(λz=>by cases z),h⟩
theorem Bd{J S:Addr}{P:Nat->Value->Prop}{St:Nat->Heap->Prop}{g:Heap}(W:Walks prog w A.in1 J fp [J] n P St)(bt:Nat->Nat->Bool)(gJ:g.get? J=none)(gS:g.get? S=none)(H:S≠J)(f:S∉fp)(G:∀ i j u v,i<n->j<n->P i u->P j v->∀(h:Heap)(tk:Nat)(Q:Value->Shared->Prop)(E:Value->Shared->Prop),Kp g h->Q (.bool (bt i j)) {s with heap:=h,toks:=tk}->wpAny (model prog w) A.in1 (richCompare .Lt u v) Q E {s with heap:=h,toks:=tk})(fin:∀ v h' a,P (argBest bt (n-1)) v->Kp g h'->R (.ok (.ret v)) {s with heap:=h',toks:=a}):
  ∀(r j:Nat)(h:Heap)(tk:Nat)(l:Value)(c:Nat),n-(j+1)=r->j+1<=n->Kp g h->h.get? S=some (NB "list" #[l,l] c)->St (j+1) h->P (argBest bt j) l->argBest bt j<n ->
   M5 (model prog w) A (.builtin "min.loop" ⟨[.ref J,.none,.ref S],[]⟩) R {s with heap:=h,toks:=tk}:=by
 intro r;induction r with
 |zero =>
  intro j h tk l c er O kg M st T L;let D:j+1=n:=by omega
  refine NG JO ?_;rw[NH IF _];refine MN (m:=seqItems? (.ref S)) (NI M rfl ?_);show wpAny _ A.in1 (tryCatch (pyNext (.ref J)) _ >>= _) _ _ _;refine MN (NJ (W.done _ _ _ (by rw[← D];exact st) λh' a y=>?_))
  let aa:=kg.but gJ y;let x:=y S _ (by simpa using H) M
  let I:=Nw h' S (Nc λ_=>(#[]:Array Value));refine MN (m:=NK S λ_=>#[]) (NL x rfl (MN (NA (MQ ?_))));exact fin l _ _ (by rw[← D];exact T) (aa.same gS I)
 |succ r p =>
  intro j h tk l c er O kg M st T L;let lt:j+1<n:=by omega
  refine NG JO ?_;rw[NH IF _];refine MN (m:=seqItems? (.ref S)) (NI M rfl ?_);show wpAny _ A.in1 (tryCatch (pyNext (.ref J)) _ >>= _) _ _ _;refine MN (NJ (W.item (j+1) _ _ _ lt st λv Y B N q d=>?_));let C:=kg.but gJ d;let k:=d S _ (by simpa using H) M
  show wpAny _ A.in1 (tryCatch (holding [v,v] (richCompare .Lt v l >>= _)) _ >>= _) _ _ _;refine MN (NJ (MO (MN (G (j+1) (argBest bt j) v l lt L N T Y B _ _ C ?_))));refine MN (MO (MI (MN (NA (MQ ?_)))));let eA:argBest bt (j+1)=if bt (j+1) (argBest bt j)=true then j+1 else argBest bt j:=rfl
  cases cc:bt (j+1) (argBest bt j) with
  |true =>
   let I:=Nw Y S (Nc λ_=>#[v,v]);let c2 t:∃ c2,(Y.update S (Nc λ_=>#[v,v])).get? S=some (NB "list" #[v,v] c2):=⟨_,NC k λ_=>#[v,v]⟩;simp;refine MN (NL k rfl (MN (NA ?_)));rw[NX cc]at eA;refine MQ ⟨NM IF _,p (j+1) _ _ v c2 ∅ lt (C.same gS I) t (W.frame _ _ _ q λb L o e=>(I.2 b (λz=>f (z▸L))).trans e) (by rw[eA];exact N) (by rw[eA];exact lt)⟩
  |false =>
   simp;rw[NY (by rw[cc];simp)]at eA
   refine MN (NA (MQ ?_));erw[NM IF _,p (j+1) _ _ l c ∅ lt C k q (by rw[eA];exact T) (by rw[eA];exact L)]
theorem DV{l:Addr}(bt:Nat->Nat->Bool)(p:A.handled=none)(hl:s.heap.IsList l vs.toArray)(H:0<vs.length)(J:∀(i j:Nat)(u v:Value),vs[i]?=some u->vs[j]?=some v->∀(h:Heap)(tk:Nat)(Q:Value->Shared->Prop)(E:Value->Shared->Prop),Kp s.heap h->Q (.bool (bt i j)) {s with heap:=h,toks:=tk}->wpAny (model prog w) A.in1 (richCompare .Lt u v) Q E {s with heap:=h,toks:=tk})(fin:∀ v h' a,vs[argBest bt (vs.length-1)]?=some v->Kp s.heap h'->Q v {s with heap:=h',toks:=a}):
  wpAny (model prog w) A (call (.builtin "min") [.ref l]) Q E s:=by
 let O:(toString "min"++toString ".loop" : String) = "min.loop":=by decide
 let T ac _:=id hl;let ll:l<s.heap.objs.size:=MA ac;refine kmk_tree PySem.F.kind_min PySem.F.plain_min PySem.F.entry_min (PySem.F.args_min1 _) ?_;show wpAny _ A.in1 (NN "min" ["key","default"] 0 ⟨[],[]⟩ >>= _) _ _ s;refine MN (wpAny_of_eq (show NN "min" ["key","default"] 0 ⟨[],[]⟩=pure [none,none] from rfl) (MN (MQ (MN (wpAny_pyIter_list hl ?_)))));refine MN (ND ?_ (Iz _));rw[O];let D f:∃ D:Obj,D={cls:=Value.type "list_iterator",data:=Data.fields #[Value.ref l,Value.int 0 0]}:=⟨_,rfl⟩;rw[← f];let sz:(s.heap.push D).objs.size=s.heap.objs.size+1:=by rw[M6]
 let r:(s.heap.push D).objs.size≠s.heap.objs.size:=by omega
 let aa:l≠s.heap.objs.size:=Ig ll;let n:∀ b,s.heap.objs.size<=b->s.heap.get? b=none:=λb L=>MD L;let G:Kp s.heap ((s.heap.push D).push (NB "list" #[] 0)):=λb o e=>MR _ (MR _ e);let M:((s.heap.push D).push (NB "list" #[] 0)).get? (s.heap.push D).objs.size=some (NB "list" #[] 0):=MT _ rfl;let hJ:((s.heap.push D).push (NB "list" #[] 0)).get? s.heap.objs.size=some D:=MR _ (MT _ (by rw[f];rfl))
 let W:=Walks.list (prog:=prog) (w:=w) (A:=A.in1) p s.heap.objs.size l aa vs.toArray;let al:vs.toArray.size=vs.length:=IE ..;rw[al]at W;let ab:∀ i j u v,i<vs.length->j<vs.length->vs.toArray[i]?=some u->vs.toArray[j]?=some v->∀(h:Heap)(tk:Nat)(Q:Value->Shared->Prop)(E:Value->Shared->Prop),Kp s.heap h->Q (.bool (bt i j)) {s with heap:=h,toks:=tk}->wpAny (model prog w) A.in1 (richCompare .Lt u v) Q E {s with heap:=h,toks:=tk}:=λi j u v _ _ Y B=>J i j u v (by simpa using Y) (by simpa using B)
 refine MQ ⟨NM IF _,NG JO ?_⟩;rw[NH IF _];refine MN (m:=seqItems? (.ref (s.heap.push D).objs.size)) (NI M rfl ?_);show wpAny _ A.in1 (tryCatch (pyNext (.ref s.heap.objs.size)) _ >>= _) _ _ _;refine MN (NJ (W.item 0 _ _ _ H ⟨⟨D,hJ,by rw[f],by rw[f];rfl⟩,hl.at λo e=>G _ _ e⟩ λv Y x N q d=>?_))
 let C:=G.but (n _ (HF _)) d;let k:=d _ _ (by simpa using r) M
 let I:=Nw Y (s.heap.push D).objs.size (Nc λ_=>#[v,v]);let c2 t:∃ c2,(Y.update (s.heap.push D).objs.size (Nc λ_=>#[v,v])).get? (s.heap.push D).objs.size=some (NB "list" #[v,v] c2):=⟨_,NC k λ_=>#[v,v]⟩;let g:(s.heap.push D).objs.size∉[s.heap.objs.size,l]:=λz=>by
  obtain z|z:=HQ.mp z
  .exact r z
  .let c:=Ih.mp z
   exact NZ ll (by rw[← c,sz];exact Lf (Kh _))
 refine MN (m:=NK _ λ_=>#[v,v]) (NL k rfl ?_);rw[O];refine MQ ⟨NM IF _,Bd W bt (n _ (HF _)) (n _ ∅) r g ab (λv h' a e y=>fin v h' a (by simpa using e) y) _ 0 _ _ v c2 rfl H (C.same (n _ ∅) I) t (W.frame _ _ _ q λb L o e=>(I.2 b (λz=>g (z▸L))).trans e) N H⟩
end
abbrev T3:=Int×Int×Int
def TrA(H:Hp)(v:V)(t:T3):Prop:=∃ a,v=.ref a/\H a=some (.tup [.int t.1,.int t.2.1,.int t.2.2])
def lt3(a b:T3):Bool:=lexB [(a.1,b.1),(a.2.1,b.2.1),(a.2.2,b.2.2)]
theorem lt3_le{a b:T3}(h:lt3 a b=true):a.1<=b.1:=by
 unfold lt3 lexB at h;by_cases c:a.1=b.1
 .omega
 .rw[NY c]at h;let:=NO h;omega
theorem lt3_ge{a b:T3}(h:lt3 a b=false):b.1<=a.1:=by
 unfold lt3 lexB at h;by_cases c:a.1=b.1
 .omega
 .rw[NY c]at h;let:=of_decide_eq_false h;omega
theorem best3(W:Nat->T3):∀ k,argBest (λi j=>lt3 (W i) (W j)) k<=k/\∀ j,j<=k->(W (argBest (λi j=>lt3 (W i) (W j)) k)).1<=(W j).1
 |0=>by
  erw[HF _,λj O=>?_];let e:j=0:=by omega
  rw[e];exact IT _
 |k+1=>by
  let Y B:=best3 W k;let e:argBest (λi j=>lt3 (W i) (W j)) (k+1)=if lt3 (W (k+1)) (W (argBest (λi j=>lt3 (W i) (W j)) k))=true then k+1 else argBest (λi j=>lt3 (W i) (W j)) k:=rfl;rw[e]
  cases c:lt3 (W (k+1)) (W (argBest (λi j=>lt3 (W i) (W j)) k)) with
  |true =>
   rw[NX rfl];let J:=lt3_le c;erw[HF _,λj O=>?_];by_cases z:j=k+1
   .subst z;exact IT _
   .let:=B j ∅;omega
  |false =>
   rw[NY Io];let J:=lt3_ge c;erw[∅,λj O=>?_]
   by_cases z:j=k+1
   .subst z;exact J
   .exact B j ∅
inductive rMin3(K:HE)(xs:List V)(H:L2.Hp)(Q:L2.VK):Prop
 |mk (p ys ws:_) (h0_:xs=[.ref p])(h1_:SqL K H p ys)(h2_:LsAt TrA H ys ws)(h3_:ws≠[])(h4_:∀(i:Nat)(y:V)(t:T3),ys[i]?=some y->ws[i]?=some t->(∀ t'∈ws,t.1<=t'.1)->Q y H)
theorem Cv(g:X.calm=true)(f:X.A.units+64<cLine):jB X (.builtin "min") (rMin3 X.K):=by
 intro B s M H z x Q I r h;let p Y J rfl D hL aa q:=h;let u rfl d:=mN r
 cases d
 let E rv pl _:=I.list D;let yl:=hL.1;let il:=rv.length;let wp:0<J.length:=List.length_pos_iff.mpr aa;let W Wi:∃ W:Nat->T3,∀ i t,J[i]?=some t->W i=t:=⟨λi=>J.getD i (0,0,0),λi t e=>by show J.getD i (0,0,0)=t;rw[HU,e];rfl⟩
 let look:∀(i:Nat)(v:Value),E[i]?=some v->∃ a o y1 y2 y3 n,v=.ref a/\s.heap.get? a=some o/\o.cls=.type "tuple"/\o.data=.seq #[y1,y2,y3] n/\(∃ t,y1=.int (W i).1 t)/\(∃ t,y2=.int (W i).2.1 t)/\(∃ t,y3=.int (W i).2.2 t):=λi v e=>by
  let N:i<Y.length:=by rw[il];exact(HB.mp e).1
  let t L a ea T:=hL.get (Hz N);let v' ev al:=rv.get (Hz N);rw[e]at ev
  cases ev
  rw[ea]at al;obtain rfl:v=.ref a:=al;let _ aI rt o c am n hd:=I.hok a _ T;rw[Wi i t L];let y1 u1 rfl w c1:=Vals.unc rt;let y2 u2 rfl r2 c2:=Vals.unc c1;let y3 u3 rfl r3 c3:=Vals.unc c2;cases c3
  erw[a,o,y1,y2,y3,n,rfl,c,am,hd,w,r2,r3]
 refine DV (vs:=E) (λi j=>lt3 (W i) (W j)) (I.ok.hd g) pl.isList ∅ ?_ ?_
 .intro i j u v ap ab h tk Q' E' y hQ;let an:X.A.in1.units<cLine:=by
   let e:X.A.in1.units<=X.A.units+64:=by simp[Around.in1]
   omega
  let a oa y1 y2 y3 n rfl ga ca da w r2 r3:=look i u ap;let b ob z1 l z3 m rfl gb cb db k G q3:=look j v ab;exact tup_lt (y _ _ ga) ca da (y _ _ gb) cb db (ps:=[((W i).1,(W j).1),((W i).2.1,(W j).2.1),((W i).2.2,(W j).2.2)]) ⟨w,k,r2,G,r3,q3,trivial⟩ rfl an hQ
 .intro v C tk e y;let b1 b2:=best3 W (E.length-1);let N:argBest (λi j=>lt3 (W i) (W j)) (E.length-1)<Y.length:=by omega
  let t L _:=hL.get (Hz N);let v' ev al:=rv.get (Hz N);rw[e]at ev
  cases ev
  erw[_,H,I.kept y,al,q _ _ t (Hz N) L λt' ac=>?_];let j O ej:=Jk ac;let:=b2 j ∅
  rw[Wi _ t L,Wi j t' (by rw[Hz O,ej])]at this
  exact this
theorem EH{xs:Array Nat}(hs:xs.toList.Pairwise (· < ·)):∀(g lo hi:Nat),hi-lo<=g->lo<=hi->hi<=xs.size->(∀ i,i<lo->xs.getD i j<j)->(∀ i,hi<=i->i<xs.size->j<=xs.getD i j) ->
  (∀ i,i<SetTable.below.go xs j g lo hi->xs.getD i j<j)/\(∀ i,SetTable.below.go xs j g lo hi<=i->i<xs.size->j<=xs.getD i j)/\SetTable.below.go xs j g lo hi<=xs.size:=by
 let up:∀ a b,a<b->b<xs.size->xs.getD a j<xs.getD b j:=λa b m L=>by
  let E:a<xs.size:=JS m L;let:=Jg.mp hs a b ∅ ∅ m
  simp_all
 intro g;induction g with
 |zero =>
  intro lo hi Y B J u O;let:lo=hi:=by omega
  subst this;erw[u,O,J]
 |succ g Q =>
  intro lo hi Y B J u O;unfold SetTable.below.go;by_cases c:lo<hi
  .rw[NX c];let H:lo<=(lo+hi)/2:=by omega
   let v:(lo+hi)/2<hi:=by omega
   dsimp only;by_cases d:xs.getD ((lo+hi)/2) j<j
   .rw[NX d];refine Q _ _ ∅ ∅ J (λi M=>?_) O
    by_cases e:i=(lo+hi)/2
    .rw[e];exact d
    .exact JS (up i _ ∅ ∅) d
   .rw[NY d];refine Q _ _ ∅ ∅ ∅ u λi M G=>?_
    by_cases e:i=(lo+hi)/2
    .rw[e];omega
    .let:=up _ i (show(lo+hi)/2<i by omega) G
     omega
  .rw[NY c];let:lo=hi:=by omega
   subst this;erw[u,O,J]
theorem yz{xs:Array Nat}(hs:xs.toList.Pairwise (· < ·))(j:Nat):(∀ i,i<NP xs j->xs.getD i j<j)/\(∀ i,NP xs j<=i->i<xs.size->j<=xs.getD i j)/\NP xs j<=xs.size :=
 EH hs xs.size 0 xs.size ∅ (Iz _) (HF _) (λi h=>NZ h (IX _)) λi Y B=>NZ B ∅
def SetT(t:SetTable):Prop:=t.place.toList.Pairwise (· < ·)/\t.dummies=#[]
theorem SetT.fresh(a b:Nat)(v:Bool):SetT (.fresh a b v):=⟨List.Pairwise.nil,rfl⟩
theorem SetT.standIn(t:SetTable)(n:Nat):SetT (t.standIn n):=⟨by
 show(Array.range n).toList.Pairwise (· < ·);rw[Array.toList_range]
 exact List.pairwise_lt_range,rfl⟩
theorem BG(j:Nat):SetTable.has #[] j=false:=by
 rfl
theorem SetT.put{t:SetTable}(h:SetT t)(O:t.slot j=.empty):SetT (t.put j).1:=by
 let d hd:=h;let b1 b2 b3:=yz d j;let ne:t.place[NP t.place j]?≠some j:=λz=>by
  unfold SetTable.slot at O;simp_all
 erw[?_,?_]
 .show(SetTable.insertAt t.place (NP t.place j) j).toList.Pairwise (· < ·);rw[SetTable.toList_insertAt];let c:∀ a∈t.place.toList.take (NP t.place j),a<j:=λa E=>by
   let i I:=IJ.mp E;let f:i<NP t.place j:=by
    let:=(HB.mp I).1;rw[IC]at this;omega
   rw[LK,NX f]at I;let:=b1 i f;rw[Jd]at I;rw[KW,I]at this;exact this
  let g:∀ b∈t.place.toList.drop (NP t.place j),j<b:=λb L=>by
   let i I:=IJ.mp L;rw[Kv,Jd]at I;let f:NP t.place j+i<t.place.size:=by
    let z _:=KY.mp I;exact z
   let Y:=b2 _ (Ks _ i) f;rw[KW,I]at Y;let l:j<=b:=Y;obtain z|z:=Nat.lt_or_ge j b
   .exact z
   .let e:b=j:=by omega
    subst e;by_cases m:i=0
    .subst m;exact NZ I ne
    .let o:=b2 (NP t.place b) (HF _) ∅
     let:=Jg.mp d (NP t.place b) (NP t.place b+i) (by simp;omega) (by simpa using f) ∅
     let s u:=KY.mp I;let k:t.place.getD (NP t.place b) b=t.place[NP t.place b]'∅:=by rw[KW,JG];rfl
     rw[k]at o;simp only[Array.getElem_toList]at this;rw[u]at this;omega
  refine List.pairwise_append.mpr ⟨d.sublist (List.take_sublist _ _),Ke.mpr ⟨g,d.sublist (List.drop_sublist _ _)⟩,λa E b L=>?_⟩;obtain z|z:=HQ.mp L
  .rw[z];exact c a E
  .exact JS (c a E) (g b z)
 .show(if SetTable.has t.dummies j=true then SetTable.eraseAt t.dummies (NP t.dummies j) else t.dummies)=#[];rw[hd,BG,NY Io]
theorem Dj{t:SetTable}{f:Nat->Int}{h:Int}(hd:t.dummies=#[]):∀(g:Nat)(p:SetTable.Probe),p.dummy=none->∀ j d,SetTable.probe.go t f h g p=some (.empty j d)->t.slot j=.empty/\d=none:=by
 intro g;let G:∀ j,t.slot j≠.dummy:=λj z=>by
  unfold SetTable.slot at z;rw[hd,BG]at z;grind
 induction g with
 |zero=>intro p _ j d e;cases e
 |succ g Q =>
  intro p M j d e;let a:(t.advance p).dummy=none:=by
   unfold SetTable.advance;split<;>exact M
  unfold SetTable.probe.go at e;split at e
  .lia
  .simp_all
  .split at e
   .cases e
   .exact Q _ a j d e
theorem SetT.layNew{t:SetTable}(h:SetT t)(es:Array (Int×Value))(p:Int)(x:Value):SetT (layNew t es p x).2.1/\(layNew t es p x).2.1.led=t.led:=by
 unfold PySem.layNew;split
 .rename_i a b e;unfold SetTable.freeSlot at e;split at e
  .rename_i j dm T;let s u:=Dj h.2 _ _ rfl j dm T;subst u;let g:(j,false)=(a,b):=Iw e
   cases g
   dsimp only;unfold SetTable.orStandIn;split
   .erw[h.put s,rfl]
   .erw[SetT.standIn _ _,rfl]
  .contradiction
 .erw[SetT.standIn _ _,rfl]
theorem vP(n:Nat)(g:Nat->Option Nat):(((IG n).filterMap λj=>(g j).map (j,·)).map (·.1)).Pairwise (· < ·):=by
 let:((IG n).filterMap λj=>(g j).map (j,·)).map (·.1)=(IG n).filter λj=>(g j).isSome:=by
  induction (IG n) with
  |nil=>rfl
  |cons a l Q =>
   cases e:g a with
   |none=>simp[e,Q]
   |some b=>simp[e,Q]
 rw[this];exact List.pairwise_lt_range.filter _
theorem SetT.relayAll(t:SetTable)(es:Array (Int×Value))(a:Nat):SetT (relayAll t es a).2.1/\(relayAll t es a).2.1.led=t.led:=by
 unfold PySem.relayAll;split
 .rename_i G b e;dsimp only;split
  .unfold SetTable.relaid SetTable.laid at e
   cases O:SetTable.layClean (SetTable.sizeAbove a-1) (es.map (·.1)) with
   |none=>rw[O]at e;cases e
   |some c =>
    rw[O]at e
    cases e
    erw[⟨?_,rfl⟩,rfl];show(List.toArray _).toList.Pairwise (· < ·);rw[List.toList_toArray];exact vP _ _
  .erw[SetT.standIn _ _,rfl]
 .erw[SetT.standIn _ _,rfl]
theorem oi(p:us.Perm vs):∀{ns:List Int},Nh vs ns->∃ ms,Nh us ms/\ms.Perm ns:=by
 let go:∀{us vs:List Value},us.Perm vs->∀{ns:List Int},Nh us ns->∃ ms,Nh vs ms/\ms.Perm ns:=by
  intro us vs p;induction p with
  |nil=>exact λh=>⟨_,h,.rfl⟩
  |cons x _ Q =>
   intro ns h
   cases h with
   |cons n t h =>
    let ms Y B:=Q h;erw[n::ms,.cons n t Y,B.cons n]
  |swap x y l =>
   intro ns h
   cases h with
   |cons n t h =>
    cases h with
    |cons j G h=>exact⟨j::n::_,.cons j G (.cons n t h),LA _ _ _⟩
  |trans _ _ a c =>
   intro ns h;let ms Y B:=a h;let b J u:=c Y;erw[b,J,u.trans B]
 exact λ{ns} h=>go p.symm h
theorem By(h:Nh vs ns)(k:Int)(t:Tok):Nh (vs++[.int k t]) (ns++[k]):=by
 induction h with
 |nil=>exact .cons k t .nil
 |cons n G _ Q=>exact .cons n G Q
theorem ye(h:Nh vs ns):(∀ v∈vs,∃ n t,v=.int n t/\n∈ns)/\∀ n∈ns,∃ t,Value.int n t∈vs:=by
 induction h with
 |nil=>simp
 |cons n t _ Q =>
  erw[λv A=>?_,λm y=>?_]
  .obtain z|z:=HQ.mp A
   .erw[n,t,z,HL ..]
   .let a b c d:=Q.1 v z;erw[a,b,c,HK _ d]
  .obtain z|z:=HQ.mp y
   .subst z;erw[t,HL ..]
   .let b c:=Q.2 m z;erw[b,HK _ c]
def byT(w:World):Bool:=w.params.followText "set-order"
def SetG(P:Program)(w:World)(h:Heap)(a:Addr)(l:List Int):Prop:=∃ o N M t,h.get? a=some o/\o.ExactSet/\o.data=.set N M t/\ElemsOf (intKind P w) N.toList/\(∃ v,Nh (N.toList.map (·.2)) v/\v.Perm l)/\l.Nodup/\N.size<scanBound/\t.fits N.size=true/\SetT t/\t.led = !byT w
theorem SetG.keeps{l:List Int}(g:SetG P w h a l)(k:∀ o,h.get? a=some o->h'.get? a=some o):SetG P w h' a l:=by
 let o N M t H O j B:=g;erw[o,N,M,t,k o H,O,j,B]
def addN(l:List Int)(k:Int):List Int:=if k∈l then l else l++[k]
theorem xK{es es':Array (Int×Value)}{t t':SetTable}{l:List Int}(go:h.get? a=some o)(m:o.ExactSet)(C:o.data=.set es ep t)(c:ElemsOf (intKind P w) es'.toList)(k:∃ ns,Nh (es'.toList.map (·.2)) ns/\ns.Perm l)(nd:l.Nodup)(sz:es'.size<scanBound)(T:t'.fits es'.size=true)(tg:SetT t')(ld:t'.led = !byT w):
  SetG P w (h.update a (Obj.putSet es' t')) a l/\∃ b,(h.update a (Obj.putSet es' t')).get? a=some b/\b.ExactSet/\b.data=.set es' (ep+1) t':=by
 let j:=Nd (Obj.putSet es' t') go (by rw[putSet_of es' t' C];rfl)
 rw[putSet_of es' t' C]at j;erw[⟨_,es',ep+1,t',j,m,rfl,c,k,nd,sz,T,tg,ld⟩,_,j,m,rfl]
section
variable{prog:Program}{w:World}{A:Around}{E:Value->Shared->Prop}{s:Shared}
theorem putInS{l:List Int}{k:Int}{tk:Tok}{Q:Bool->Shared->Prop}(g:SetG prog w s.heap a l)(room:l.length+1<scanBound)(q:∀(b:Bool)(h':Heap),ME a s.heap h'->SetG prog w h' a (addN l k)->Q b {s with heap:=h'}):wpAny (model prog w) A (setAddHashed a (.int k tk) ((intKind prog w).hash k)) Q E s:=by
 let o y I t go gx gd el{ns ia pm}nd sz ft tg ld:=id g;let a0:(intKind prog w).is k (.int k tk)=true:=intKind_is _ _ _ _;let len:y.size=l.length:=by
  let Y:∀{O:List Value}{ns:List Int},Nh O ns->O.length=ns.length:=λh=>by
   induction h with
   |nil=>rfl
   |cons _ _ _ p=>simp[*]
  let:=Y ia;rw[HD,IA,pm.length_eq]at this;exact this
 let gw:∀(b:Bool){aa:Shared}{Q':Unit->Shared->Prop},Q' () aa->wpAny (model prog w) A (match b with|true=>rule "set.scan.the-table-gave-way" | false=>pure ()) Q' E aa:=λb=>by
  intro J Q' d
  cases b
  .exact MQ d
  .exact wpAny_rule d
 unfold setAddHashed setAddHashedIn;refine MO (MN (NQ go gd ft ?_));dsimp only;rw[byScan_of (knd:=intKind prog w) rfl sz el];simp only[↓reduceIte];unfold setAddByScan;refine MN (MN (wpAny_rule (MN (wpAny_setScan_of (knd:=intKind prog w) a0 go gd ft el ?_))))
 cases fr:List.findIdx? (λe=>(intKind prog w).is k e.2) y.toList with
 |some j =>
  let jl jp _:=List.findIdx?_eq_some_iff_getElem.mp fr;let al:k∈l:=by
   let n t' C T:=(ye ia).1 _ (List.mem_map_of_mem (f:=(·.2)) (JQ jl));let e3:(y.toList[j]).2=.int n t':=C;rw[e3]at jp;let:k=n:=(intKind prog w).inj _ k n jp (intKind_is _ _ _ _);rw[this];exact pm.mem_iff.mp T
  refine MQ (MQ ?_);let e:addN l k=l:=NX al;let:=q false s.heap (Heap.SameBut.refl a s.heap) (by rw[e];exact g)
  exact this
 |none =>
  let aI:k∉l:=λz=>by
   let t' m:=(ye ia).2 k (pm.mem_iff.mpr z);let e D T:=Im.mp m;let:=List.findIdx?_eq_none_iff.mp fr e D;rw[T,intKind_is]at this;lia
  let ea:addN l k=l++[k]:=NY aI;let a1:(l++[k]).Nodup:=Iu.mpr ⟨nd,HS.mpr ⟨KC,JF⟩,λa u b L e=>aI (by rw[Ih.mp L]at e;exact e▸u)⟩
  let M:=layNew_perm t y ((intKind prog w).hash k) (.int k tk);let c:=layNew_fits t y ((intKind prog w).hash k) (.int k tk);let i G:=tg.layNew y ((intKind prog w).hash k) (.int k tk);dsimp only;generalize layNew t y ((intKind prog w).hash k) (.int k tk)=N at M c i G ⊢;let ab t1 wd gv:=N;dsimp only at M c i G ⊢;rw[LR]at M;let a2:ElemsOf (intKind prog w) ab.toList:=(el.push a0 rfl).perm M;let a3:∃ ms,Nh (ab.toList.map (·.2)) ms/\ms.Perm (l++[k]):=by
   let v:=M.map (·.2);rw[HW]at v;let ms Y B:=oi v (By ia k tk);erw[ms,Y,B.trans (pm.append_right _)]
  let aS:ab.size<scanBound:=by rw[← IA,M.length_eq,HJ,IA,len];exact room
  let bb:t1.led = !byT w:=G.trans ld;refine MN (gw _ ?_)
  let ap:∀ t2:SetTable,t2.fits ab.size=true->SetT t2->t2.led = !byT w->wpAny (model prog w) A (do
    storeSet a ab t2
    if(!wd&&t2.tooFull)=true then do
      (match(relayAll t2 ab (NR ab.size)).2.2 with|true=>rule "set.scan.the-table-gave-way" | false=>pure ())
      storeSet a (relayAll t2 ab (NR ab.size)).1 (relayAll t2 ab (NR ab.size)).2.1
      pure (some true)
     else pure (some true)) (λr s'=>∃ b:Bool,r=some b/\Q b s') E s:=by
   intro t2 f2 g2 l2;let G1 o2 a4 be a5:=xK (P:=prog) (w:=w) go gx gd a2 a3 a1 aS f2 g2 l2;let a6:=Nw s.heap a (Obj.putSet ab t2);refine MN (wpAny_storeSet_of go gd ?_ (fits_of_scanBound aS));split
   .let ac:=relayAll_perm t2 ab (NR ab.size)
    let aT:=relayAll_fits t2 ab (NR ab.size);let am an:=SetT.relayAll t2 ab (NR ab.size);generalize relayAll t2 ab (NR ab.size)=N2 at ac aT am an ⊢;let a7 t3 bi:=N2;dsimp only at ac aT am an ⊢;let bf:∃ ms,Nh (a7.toList.map (·.2)) ms/\ms.Perm (l++[k]):=by
     let m1 Y B:=a3;let ms H h4:=oi (ac.map (·.2)) Y;erw[ms,H,h4.trans B]
    let ba:a7.size<scanBound:=by rw[← IA,ac.length_eq,IA];exact aS
    refine MN (gw _ (MN (wpAny_storeSet_of a4 a5 ?_ (fits_of_scanBound ba))));let G2 _:=xK (P:=prog) (w:=w) a4 be a5 (a2.perm ac) bf a1 ba aT am (an.trans l2);refine MQ ⟨true,rfl,?_⟩;exact q true _ (a6.trans (Nw _ a _)) (by rw[ea];exact G2)
   .refine MQ ⟨true,rfl,?_⟩;exact q true _ a6 (by rw[ea];exact G1)
  let all:=ap t1 c i bb
  let step:∀(r:Option Bool)(s':Shared),(∃ b:Bool,r=some b/\Q b s')->wpAny (model prog w) A (match r with
    |some aW=>pure aW
    |none=>setAddHashedIn a (Value.int k tk) ((intKind prog w).hash k) 99999) Q E s':=λr s' ⟨b,e,z⟩=>by
   subst e;exact MQ z
  split
  .refine MN ?_;rw[hashByValue_scannable 8 (x:=Value.int k tk) rfl];refine MQ ?_;exact MG all step λ_ _ z=>z
  .refine MN (MQ ?_);exact MG all step λ_ _ z=>z
theorem yB(l:List Int)(k:Int):(addN l k).length<=l.length+1:=by
 unfold addN;split
 .omega
 .simp
theorem CM{S:Addr}{wr:List Addr}{P:Nat->Value->Prop}{St:Nat->Heap->Prop}(W:Walks prog w A.in1 I fp wr n P St)(M:S∉fp)(ns:List Int)(T:ns.length=n)(hv:∀ i v,P i v->∃ t,v=.int (ns.getD i 0) t)(L:n+1<scanBound):
  ∀(r i:Nat)(h:Heap)(tk:Nat)(l:List Int),n-i=r->i<=n->St i h->SetG prog w h S l->l.length<=i ->
   (∀ h' a,(∀ b o,b≠S->b∉wr->h.get? b=some o->h'.get? b=some o)->SetG prog w h' S ((ns.drop i).foldl addN l)->R (.ok (.ret .none)) {s with heap:=h',toks:=a}) ->
   M5 (model prog w) A (.builtin "set.update.loop" ⟨[.ref S,.ref I],[]⟩) R {s with heap:=h,toks:=tk}:=by
 let D:S∉wr:=λz=>M (W.sub _ z);intro r;induction r with
 |zero =>
  intro i h tk l m N st g u fin;let c:i=n:=by omega
  subst c;refine NG PyProof.Rows.F.entry_set_update_loop ?_;rw[NH NS _];show wpAny _ A.in1 (pyNext (.ref I) >>= _) _ _ _;refine MN (W.done _ _ _ st λh' a y=>?_);show wpAny _ A.in1 (ret Value.none) _ _ _;refine MQ (fin h' a (λb o _ p e=>y b o p e) ?_);rw[List.drop_of_length_le ∅]
  exact g.keeps λo e=>y _ _ D e
 |succ r Q =>
  intro i h tk l m N st g u fin;let f:i<n:=by omega
  refine NG PyProof.Rows.F.entry_set_update_loop ?_;rw[NH NS _];show wpAny _ A.in1 (pyNext (.ref I) >>= _) _ _ _;refine MN (W.item i _ _ _ f st λv Y x pv q d=>?_);let t rfl:=hv i v pv;let H:=g.keeps λo e=>d _ _ D e;show wpAny _ A.in1 (holding [Value.int (ns.getD i 0) t] (setAdd S (.int (ns.getD i 0) t)) >>= _) _ _ _;refine MN (MO ?_);unfold setAdd;refine MO (MN ((intKind prog w).pyHash (k:=ns.getD i 0) (intKind_is _ _ _ _) ?_));refine putInS (l:=l) H ∅ λb B j O=>?_
  let G:∀ b o,b≠S->Y.get? b=some o->B.get? b=some o:=λb o n e=>(j.2 b n).trans e;let C:ns.drop i=ns.getD i 0::ns.drop (i+1):=by simp[*]
  refine MQ ⟨NM NS _,Q (i+1) _ _ (addN l (ns.getD i 0)) ∅ f (W.frame _ _ _ q λb L o e=>G b o (λz=>M (z▸L)) e) O (by let:=yB l (ns.getD i 0);omega) λh' a y J=>?_⟩
  refine fin h' a (λb o n p e=>y b o n p (G b o n (d b o p e))) ?_;rw[C,Mc];exact J
theorem vt(a:Value){Q₁:Value->Shared->Prop}(h:Q₁ (.ref s.heap.objs.size) {s with heap:=s.heap.push {cls:=.type "set",dict:=none,data:=.set #[] 0 (.fresh 0 0 (!byT w))}}):
  M5 (model prog w) A (.call (.builtin "set.__new__") ⟨[.type "set",a],[]⟩) (wants Q₁ E) s:=by
 refine codeAny_of_tree ?_;show wpAny _ A.in1 (do checkBuiltinCall "set.__new__" ⟨[.type "set",a],[]⟩;again (.builtin "set.__new__" ⟨[.type "set",a],[]⟩)) _ _ s
 refine MN (wpAny_of_eq (PySem.F.newCall_set_1 a) (MQ ⟨NM PySem.F.plain_set_new _,NG PySem.F.entry_set_new ?_⟩));rw[NH PySem.F.plain_set_new _];unfold Builtin.«set.__new__» Builtin.Frozenset.newClass;let b:=PySem.sub_set_self;let M J n m os:=s;dsimp only;wp_walk;refine NT (MQ ?_);dsimp only;simp only[newObj];exact MN (wpAny_alloc (MQ (MQ h)))
theorem eY:∀{vs:List Value}{ns:List Int},Nh vs ns->vs.length=ns.length/\∀(i:Nat)(v:Value),vs[i]?=some v->∃ t,v=.int (ns.getD i 0) t
 |_,_,.nil=>⟨rfl,λi v e=>by simp at e⟩
 |_,_,.cons n t r=>by
  let Y B:=eY r;erw[by simp[*],λi v e=>?_]
  match i,e with
  |0,e=>cases e;erw[t,rfl]
  |i+1,e=>exact B i v e
abbrev newO(w:World):Obj:={cls:=.type "set",dict:=none,data:=.set #[] 0 (.fresh 0 0 (!byT w))}
theorem newG(e:h.get? a=some (newO w)):SetG P w h a [] :=
 ⟨_,#[],0,_,e,⟨rfl,rfl,rfl⟩,rfl,λx J=>by simp at J,⟨[],.nil,.rfl⟩,JF,∅,rfl,SetT.fresh _ _ _,rfl⟩
theorem uQ{lst:Addr}{its:Array Value}(p:A.handled=none)(hl:s.heap.IsList lst its)(k:Nh its.toList ns)(L:its.size+1<scanBound)(q:∀(h':Heap)(tk:Nat),SetG prog w h' s.heap.objs.size (ns.foldl addN [])->(∀ b o,s.heap.get? b=some o->h'.get? b=some o)->Q (.ref s.heap.objs.size) {s with heap:=h',toks:=tk}):
  wpAny (model prog w) A (call (.type "set") [.ref lst]) Q E s:=by
 let H tl ap:=PySem.F.called_set.mro;let al:=PySem.F.called_set.made;let ab:=PySem.F.called_set.sub;let j h:=eY k;let M:ns.length=its.size:=by simp_all
 refine wpAny_call (codeAny_of_tree ?_);show wpAny _ _ (callAny (.type "set") _) _ _ _;refine MQ ⟨Code.quiet_builtin _ ∅,NG PySem.F.entry_type_call ?_⟩
 rw[Around.under_plain (weight_type_call_type "set" [.ref lst] []) rfl];let t:=PySem.F.called_set.notType;let D:=PySem.F.called_set.canCreate;let l:=PySem.F.typeCall_set_1 (.ref lst);repeat (any_goals (first|assumption|wp_step))
 refine M9 (vt (.ref lst) (E:=E) (Q₁:=λn m=>n=.ref s.heap.objs.size/\m={s with heap:=s.heap.push (newO w)}) ⟨rfl,rfl⟩) λr m O=>?_
 cases r with
 |error e=>exact O
 |ok B =>
  cases B with
  |next=>exact O.elim
  |brk=>exact O.elim
  |cont=>exact O.elim
  |ret n =>
   let rfl rfl:=O;let I:(s.heap.push (newO w)).get? s.heap.objs.size=some (newO w):=MT _ rfl;let u:Shared.TypeIs {s with heap:=s.heap.push (newO w)} (.ref s.heap.objs.size) "set":=⟨_,I,rfl⟩;let d:=PySem.F.called_set.init.lookup;let f:=PySem.F.called_set.init.bind (.ref s.heap.objs.size);repeat (any_goals (first|assumption|wp_step))
   refine M9 (codeAny_call_builtin (R:=wants (λr G=>r=.none/\∃ h' tk,G={s with heap:=h',toks:=tk}/\SetG prog w h' s.heap.objs.size (ns.foldl addN [])/\∀ b o,s.heap.get? b=some o->h'.get? b=some o) E) PySem.F.called_set.init.plain PySem.F.entry_set_init (check_set_init_1 u ?_)) λac G g=>?_
   .let N go gc T C:=hl;let c0 Y aI J:=N;simp only at gc C;subst gc;subst C;let am:(s.heap.push (newO w)).get? lst=some {cls:=.type "list",dict:=Y,data:=.seq its T,slots:=J}:=MR _ go;let f6:=PySem.F.sub_list_set;let f7:=PySem.F.sub_list_frozenset;let f8:(Value.type "list" == Value.type "dict")=false:=by decide
    let x:(s.heap.push (newO w)).IsList lst its:=⟨_,am,rfl,T,rfl⟩;unfold Builtin.«set.__init__» noKeywords Builtin.Frozenset.updateFrom;generalize eP:pyIter=PI;wp_walk;subst eP;refine wpAny_pyIter_list x (MN (wpAny_runValue ?_));let lS:lst<s.heap.objs.size:=MA go;let nI:lst≠(s.heap.push (newO w)).objs.size:=by rw[M6];exact Ig (Jv lS)
    let nS:s.heap.objs.size∉[(s.heap.push (newO w)).objs.size,lst]:=by
     rw[M6];intro z;obtain z|z:=HQ.mp z
     .exact NZ z (Ig (JP _))
     .rw[Ih]at z;exact NZ z.symm (Ig lS)
    let an:A.in1.in1.in1.handled=none:=by simp[p]
    refine CM (s:=s) (Walks.list an _ lst nI its) nS ns M (λi v pv=>h i v (by rw[Jd];exact pv)) L its.size 0 _ s.toks [] ∅ (Iz _) ⟨⟨_,MT _ rfl,rfl,rfl⟩,x.push _⟩ (newG (MR _ I)) (HF _) λh' a y gg=>?_
    refine MQ ?_;show wpAny _ _ (ret Value.none) _ _ _;refine MQ ⟨rfl,h',a,rfl,gg,λb o e=>?_⟩;let bl:=MA e;refine y b o (Ig bl) (λz=>?_) (MR _ (MR _ e));rw[Ih,M6]at z;exact NZ z (Ig (Jv bl))
   .cases ac with
    |error e=>exact g
    |ok aa =>
     cases aa with
     |next=>exact g.elim
     |brk=>exact g.elim
     |cont=>exact g.elim
     |ret r =>
      let rfl h' tk rfl g' c:=g;repeat (any_goals (first|assumption|wp_step))
      exact q _ _ g' c
end
theorem bt_set:MC "set"=some (.type "set"):=by rfl
theorem wA:entryFor table "set.__iter__"=some Builtin.«frozenset.__iter__»:=entryFor_alias (id':="frozenset.__iter__") (by kernel_rfl) rfl ∅ (by kernel_rfl)
theorem c8:Slot "set_iterator" "__next__" "set_iterator.__next__" :=
 Slot.of (owner:="set_iterator") (n:="__next__") (by rfl) (by rfl) (by rfl) ∅ (by first|exact .inl (by rfl)|exact .inr ∅) (by rfl)
theorem pF:entryFor table "set_iterator.__next__"=some Builtin.«set_iterator.__next__»:=entryFor_of_tree (by kernel_rfl)
theorem ow_si:Manifest.owners.lookup (String.ofList ['r','o','t','a','r','e','t','i','_','t','e','s'].reverse)=some Manifest.sig_set_iterator:=by kernel_rfl
theorem pK(a:Value):argsOk "set_iterator.__next__" ⟨[a],[]⟩:=by
 unfold argsOk;rw[signature?_of (id:="set_iterator.__next__") (n:=['_','_','t','x','e','n','_','_']) (o:=['r','o','t','a','r','e','t','i','_','t','e','s']) (by kernel_rfl) ow_si]
 kernel_rfl
theorem o7:Slot "set_iterator" "__iter__" "set_iterator.__iter__" :=
 Slot.of (owner:="set_iterator") (n:="__iter__") (by rfl) (by rfl) (by rfl) (by rfl) (by first|exact .inl (by rfl)|exact .inr ∅) (by rfl)
theorem zg:entryFor table "set_iterator.__iter__"=some Builtin.«dict_keyiterator.__iter__»:=entryFor_alias (id':="dict_keyiterator.__iter__") (by kernel_rfl) rfl ∅ (by kernel_rfl)
theorem zN(a:Value):argsOk "set_iterator.__iter__" ⟨[a],[]⟩:=by
 unfold argsOk;rw[signature?_of (id:="set_iterator.__iter__") (n:=['_','_','r','e','t','i','_','_']) (o:=['r','o','t','a','r','e','t','i','_','t','e','s']) (by kernel_rfl) ow_si]
 kernel_rfl
theorem wx{α:Type}:∀{l:List α}{i:Nat}(h:i<l.length),(l[i]::l.eraseIdx i).Perm l
 |x::l,0,_=>List.Perm.refl _
 |x::l,i+1,h=>by
  let Q:=wx (l:=l) (i:=i) (by simpa using h)
  show(l[i]'(by simpa using h)::x::l.eraseIdx i).Perm (x::l)
  exact(LA x _ _).trans (Q.cons x)
theorem AM{α:Type}(next:Nat->Nat):∀(g k:Nat)(left:List α)(out:Array α),left.length=g->(pickOrder.go next g k left out).toList.Perm (out.toList++left)
 |0,k,left,out,h=>by
  let:left=[]:=Ku.mp h;subst this;unfold pickOrder.go;rw[Kl]
 |g+1,k,left,out,h=>by
  let G:next k%left.length<left.length:=Mn _ ∅
  unfold pickOrder.go;rw[Hz G];dsimp only;refine(AM next g (k+1) _ _ (by rw[Md G];omega)).trans ?_
  rw[LR,JK];refine List.Perm.append_left _ ?_;exact wx G
theorem sO(next:Nat->Nat)(xs:Array α):(pickOrder next xs).toList.Perm xs.toList:=by
 let:=AM next xs.size 0 xs.toList #[] (by simp)
 assumption
section
variable{prog:Program}{w:World}{A:Around}{E:Value->Shared->Prop}{s:Shared}
theorem zH{a:Source}{Q:Nat->Shared->Prop}(N:n≠0)(h:∀ i d,i<n->Q i {s with drawn:=d}):wpAny (model prog w) A (choose a n) Q E s:=λ_ _ _=>⟨N,h _ _ (Mn _ (Nat.pos_of_ne_zero N))⟩
theorem yo{α:Type}:∀(n:Nat)(xs:List α)(s:Shared)(Q:List α->Shared->Prop),xs.length=n->(∀ ys d,ys.Perm xs->Q ys {s with drawn:=d})->wpAny (model prog w) A (drawOrder n xs) Q E s
 |0,xs,s,Q,h,q=>by
  let:xs=[]:=Ku.mp h;subst this;unfold drawOrder;exact MQ (q [] s.drawn .rfl)
 |n+1,[],s,Q,h,q=>by cases h
 |n+1,x::xs,s,Q,h,q=>by
  unfold drawOrder;refine MN (zH (by simp) λi d I=>?_)
  rw[Hz I];dsimp only;refine MN (yo n _ _ _ (by rw[Md I];simp at h ⊢;omega) λys t p=>MQ ?_)
  exact q _ t ((p.cons _).trans (wx I))
end
def slA(t:SetTable)(i:Nat):Nat:=if i=0 then 0 else t.place.getD (i-1) 0+1
def ItAt(P:Program)(w:World)(h:Heap)(I a tp:Addr)(ord:List Int)(i:Nat):Prop:=∃ o N M t first g,h.get? a=some o/\o.ExactSet/\o.data=.set N M t/\t.fits N.size=true/\SetT t/\t.led = !byT w /\
 h.get? I=some {cls:=.type "set_iterator",data:=.fields #[first,rawInt (i:Int),.ref a,rawInt (N.size:Int),rawInt (M:Int)]}/\Nh g ord/\g.length=N.size /\
 ((byT w=true/\(∃ z:Nat,first=rawInt (z:Int))/\g=(pickOrder (w.params.setOrder a M) N).toList.map (·.2)) ∨
  (byT w=false/\(!t.plain&&decide (N.size > 1))=false/\first=rawInt (slA t i:Int)/\g=N.toList.map (·.2)) ∨
  (byT w=false/\∃(y:List Nat)(l:Obj)(c:Nat),first=.ref tp/\tp≠I/\tp≠a/\h.get? tp=some l/\l.data=.seq (y.map λp:Nat=>rawInt (p:Int)).toArray c/\y.length=N.size/\∀(j p:Nat),y[j]?=some p->∃ x,N[p]?=some x/\g[j]?=some x.2))
section
variable{prog:Program}{w:World}{A:Around}{E:Value->Shared->Prop}{s:Shared}
theorem tL{es:Array (Int×Value)}{l:List Int}(k:Nh (es.toList.map (·.2)) ns)(L:ns.Perm l){ys:List (Int×Value)}(p:ys.Perm es.toList):∃ ms,Nh (ys.map (·.2)) ms/\ms.Perm l:=by
 let ms Y B:=oi (p.map (·.2)) k;erw[ms,Y,B.trans L]
theorem Dc{l:List Int}(g:SetG prog w s.heap a l)(q:∀(I tp:Addr)(h':Heap)(d:_)(ord:List Int),(∀ b o,s.heap.get? b=some o->h'.get? b=some o)->s.heap.objs.size<=I->I<h'.objs.size->s.heap.objs.size<=tp->tp<h'.objs.size->ord.Perm l->ItAt prog w h' I a tp ord 0->Q (.ref I) {s with heap:=h',drawn:=d}):
  wpAny (model prog w) A (pyIter (.ref a)) Q E s:=by
 let o N M t go m C c{v k L}G sz T tg ld:=id g;let u:s.TypeIs (.ref a) "set":=⟨o,go,m.1⟩;let x:a<s.heap.objs.size:=MA go;let aa:=(eY k).1;let h:N.size<=Mz:=Ia (JS sz ∅)
 refine wpAny_pyIter_slot u PySem.F.slot_set_iter (Nr PySem.F.slot_set_iter u wA ?_ (PySem.F.args_set_iter_1 _));unfold Builtin.«frozenset.__iter__» Builtin.Frozenset.slot0 slotArgs;simp only[LY,Le,Jr,↓reduceIte,bind_assoc,Kj,bne_self_eq_false];unfold Builtin.Frozenset.addrOf Builtin.Frozenset.sizeOf;refine MN (MQ ?_);try dsimp only
 refine MN (MQ (MN (MN (wpAny_setEntries_of go C T (MQ ?_)))));unfold setDrawn setsByText;refine MN (MN (NQ go C T ?_));dsimp only;refine MN (MN (NT (MQ (MQ ?_))));let n0:∀ I:Addr,s.heap.objs.size<=I->a≠I:=λI hI z=>NZ x (by simp[*])
 split
 .rename_i ab;let D:(!byT w&&(!t.plain&&decide (N.size > 1)))=true:=ab;let bt:byT w=false:=by
   cases y:byT w with
   |false=>rfl
   |true=>rw[y]at D;cases D
  refine MN (yo N.size (IG N.size) _ _ Jn λr d p=>?_);let n:r.length=N.size:=by rw[p.length_eq,Jn]
  refine MN (wpAny_newTuple ?_ (by simp[*]))
  unfold setEpoch;let H:(s.heap.push {cls:=.type "tuple",data:=.seq (r.map λi:Nat=>rawInt (i:Int)).toArray}).get? a=some o:=MR _ go;refine MN (MN (NQ H C T (MQ ?_)));unfold newFields;refine MN (Nq ?_ (by size_fits))
  let em:(IG N.size).map (λj=>N.getD j (0,Value.none))=N.toList:=by
   refine LZ (by simp) λj Y B=>?_
   let O:j<N.size:=by omega
   simp[LS,O]
  let pv:(r.map λj=>N.getD j (0,Value.none)).Perm N.toList:=by
   rw[← em];exact p.map _
  let ms J i2:=tL k L pv;refine MQ ⟨_,rfl,"set_iterator",_,⟨_,MT _ rfl,rfl⟩,c8.lookup,?_⟩;refine q _ s.heap.objs.size _ d ms (λb o e=>MR _ (MR _ e)) (by simp) (MA (MT _ rfl)) (HF _) (by rw[M6,M6];exact Jv (JP _)) i2 ?_
  erw[o,N,M,t,_,(r.map λj=>N.getD j (0,Value.none)).map (·.2),MR _ H,m,C,T,tg,ld,MT _ rfl,J,by rw[HD,HD,n],.inr (.inr ⟨bt,r,_,_,rfl,?_,Ji x,MR _ (MT _ rfl),rfl,n,λj pp O=>?_⟩)]
  .simp
  .let f:pp<N.size:=Ja.mp (p.mem_iff.mp (HC O))
   erw[N[pp],JG f,?_];simp[*]
 .rename_i ab;let D:¬ (!byT w&&(!t.plain&&decide (N.size > 1)))=true:=ab;refine MN (MQ ?_);unfold setEpoch;refine MN (MN (NQ go C T (MQ ?_)));unfold newFields;refine MN (Nq ?_ (by size_fits))
  refine MQ ⟨_,rfl,"set_iterator",_,⟨_,MT _ rfl,rfl⟩,c8.lookup,?_⟩
  cases bt:byT w with
  |true =>
   let ms J i2:=tL k L (sO (w.params.setOrder a M) N);refine q _ s.heap.objs.size _ s.drawn ms (λb o e=>MR _ e) (HF _) (by simp) (HF _) (by simp) i2 ?_
   erw[o,N,M,t,_,_,MR _ go,m,C,T,tg,ld,MT _ rfl,J,by rw[HD,(sO _ _).length_eq,IA],.inl ⟨bt,⟨0,rfl⟩,rfl⟩]
  |false =>
   rw[bt]at D;let c2:(!t.plain&&decide (N.size > 1))=false:=by
    cases y:(!t.plain&&decide (N.size > 1)) with
    |false=>rfl
    |true=>contradiction
   refine q _ s.heap.objs.size _ s.drawn v (λb o e=>MR _ e) (HF _) (by simp) (HF _) (by simp) L ?_
   erw[o,N,M,t,_,_,MR _ go,m,C,T,tg,ld,MT _ rfl,k,by simp,.inr (.inl ⟨bt,c2,rfl,rfl⟩)]
theorem tR{t:SetTable}(h:t.fits n=true):t.place.size=n:=by
 unfold SetTable.fits at h;rw[Lh]at h;exact eq_of_beq h.1
theorem uA{t:SetTable}(tg:SetT t)(hi:i<=t.place.size):NP t.place (slA t i)=i:=by
 let b1 b2 b3:=yz tg.1 (slA t i);let up:∀ a b,a<b->b<t.place.size->t.place.getD a (slA t i)<t.place.getD b (slA t i):=λa b m L=>by
  let E:a<t.place.size:=JS m L;let:=Jg.mp tg.1 a b ∅ ∅ m
  simp_all
 let J:∀ k,i=k+1->slA t i=t.place.getD k (slA t i)+1:=λk e=>by
  let f:k<t.place.size:=by omega
  let C:slA t i=t.place.getD k 0+1:=by
   unfold slA;rw[NY ∅,e,LI]
  let T:t.place.getD k 0=t.place.getD k (slA t i):=by simp[LS,f]
  rw[← T];exact C
 generalize L:NP t.place (slA t i)=b at b1 b2 b3;obtain z|z|z:=Nat.lt_trichotomy b i
 .let k rfl:∃ k,i=k+1:=⟨i-1,∅⟩
  let Y:=b2 b (HF _) ∅
  let B:=J k rfl;by_cases e:b=k
  .subst e;omega
  .let:=up b k ∅ ∅
   omega
 .exact z
 .let Y:=b1 i z
  cases i with
  |zero=>have e:slA t 0=0:=rfl;rw[e]at Y;omega
  |succ k =>
   let B:=J k rfl;let:=up k (k+1) ∅ ∅
   omega
theorem xM{Y h2:Heap}(x:ME I h Y)(y:ME I Y h2):ME I h h2:=⟨y.1.trans x.1,λb L=>(y.2 b L).trans (x.2 b L)⟩
theorem G0{n:Int}{Q:Option Value->Shared->Prop}(h:ItAt prog w s.heap I a tp ord i)(D:ord[i]?=some n)(aI:a≠I)(q:∀(t:Tok)(h':Heap),ItAt prog w h' I a tp ord (i+1)->ME I s.heap h'->Q (some (.int n t)) {s with heap:=h'}):wpAny (model prog w) A (pyNext (.ref I)) Q E s:=by
 let o es f t first g go l C T tg ld L k p md:=h;let u:s.TypeIs (.ref I) "set_iterator":=⟨_,L,rfl⟩;unfold pyNext;refine MN (wpAny_attempt (Nu (name:=Str.ofString "__next__") u c8 (Nr c8 u pF ?_ (pK _))));unfold Builtin.«set_iterator.__next__» slotArgs;simp only[LY,Le,Jr,↓reduceIte,bind_assoc,Kj,bne_self_eq_false];refine MN (MQ ?_);try dsimp only
 refine MN (wpAny_fieldsOf L rfl ?_);dsimp only[rawInt];refine MN (wpAny_setEntries_of go C T ?_);rw[NY (by simp)]
 let j:i<ord.length:=(HB.mp D).1;let ol:=(eY k).1;let al:i<g.length:=by omega
 let tk N:∃ tk,g[i]?=some (.int n tk):=by
  let tk e:=(eY k).2 i _ (Hz al);erw[tk,?_];rw[Hz al,e,HU,D];rfl
 let ap:=tR T;let ci:((i:Int)+1)=((i+1:Nat):Int):=by omega
 rcases md with⟨bt,⟨z,rfl⟩,rfl⟩|⟨bt,dr,rfl,rfl⟩|⟨bt,b,ot,c,rfl,tI,m,gt,ac,an,aa⟩
 .dsimp only[rawInt];unfold setNext setsByText setWalk setsByText;refine MN (MN (NQ go C T ?_));dsimp only;refine MN (MN (NT (MQ ?_)));let r:w.params.followText "set-order"=true:=bt;rw[show(Setting.params ⟨(model prog w).prog,(model prog w).w.params⟩).followText "set-order"=true from r,NX rfl,NY (by simp)]
  refine MN (MN (NQ go C T ?_));dsimp only;refine MN (MN (NT (MQ ?_)));rw[show(Setting.params ⟨(model prog w).prog,(model prog w).w.params⟩).followText "set-order"=true from r,NX rfl];refine MN (NT (MQ (MQ ?_)));let M:(pickOrder (w.params.setOrder a f) es)[i]?.map (·.2)=some (.int n tk):=by rw[← Jd,← HN];exact N
  let x J G:=HV.mp M;rw[HP,HP,show(pickOrder ((Setting.params ⟨(model prog w).prog,(model prog w).w.params⟩).setOrder a f) es)[i]?=some x from J];dsimp only[Option.map];refine MN (Ny L (by simp) λY H d=>?_)
  refine MN (Ny (s:={s with heap:=Y}) H (by simp) λB O y=>?_)
  let v:=xM d y;rw[G];refine MQ ⟨_,rfl,MQ (q tk B ?_ v)⟩;erw[o,es,f,t,_,_,(v.2 a aI).trans go,l,C,T,tg,ld,O.trans ?_,k,p,.inl ⟨bt,⟨z,rfl⟩,rfl⟩];rw[ci];rfl
 .dsimp only[rawInt];unfold setNext setsByText;refine MN (MN (NQ go C T ?_));dsimp only;refine MN (MN (NT (MQ ?_)));let r:w.params.followText "set-order"=false:=bt;rw[show(Setting.params ⟨(model prog w).prog,(model prog w).w.params⟩).followText "set-order"=false from r,NY (by simp)]
  refine Nl (λc=>NZ (show(!t.plain&&decide (es.size > 1))=true from c) (by rw[dr];simp)) λ_=>?_
  let ab:t.led=true:=by rw[ld,bt];rfl
  refine MN ?_;show wpAny _ _ (if(!t.led&&!es.isEmpty)=true then _ else _) _ _ _;rw[ab];refine MQ (MQ ?_);rw[HP,uA tg ∅]
  let ie:i<es.size:=by omega
  let ip:i<t.place.size:=by omega
  let G:es[i].2=.int n tk:=by simp_all
  rw[JG ie,JG ip];dsimp only;refine MN (Ny L (by simp) λY H d=>?_)
  refine MN (Ny (s:={s with heap:=Y}) H (by simp) λB O y=>?_)
  let v:=xM d y;rw[G];refine MQ ⟨_,rfl,MQ (q tk B ?_ v)⟩;erw[o,es,f,t,_,_,(v.2 a aI).trans go,l,C,T,tg,ld,O.trans ?_,k,p,.inr (.inl ⟨bt,dr,rfl,rfl⟩)];let es:slA t (i+1)=t.place[i]+1:=by
   unfold slA;rw[NY ∅,LI]
   simp[LS,ip]
  rw[ci,es];rfl
 .dsimp only[rawInt];refine MN (NI gt ac ?_);dsimp only;let ip:i<b.length:=by omega
  let x J am:=aa i _ (Hz ip);let G:x.2=.int n tk:=Iw (am.symm.trans N);rw[HP,List.getElem?_toArray,HN,Hz ip];dsimp only[Option.map,rawInt];unfold setNextDrawn;refine MN (MN (NQ go C T ?_));dsimp only;rw[HP,HP,NY (by simp),J]
  refine MQ ?_;refine MN (Ny L (by simp) λY H d=>?_)
  rw[G];refine MQ ⟨_,rfl,MQ (q tk Y ?_ d)⟩;erw[o,es,f,t,_,g,(d.2 a aI).trans go,l,C,T,tg,ld,H.trans ?_,k,p,.inr (.inr ⟨bt,b,ot,c,rfl,tI,m,(d.2 tp tI).trans gt,ac,an,aa⟩)];rw[ci];rfl
theorem uJ{k:Nat}{Q:Option Value->Shared->Prop}{vs:Array Value}(p:A.handled=none)(B:s.heap.get? I=some {cls:=.type "set_iterator",data:=.fields vs})(f:k<vs.size)(q:∀(h':Heap),Heap.ExtBut I s.heap h'->Q none {s with heap:=h'}):
  wpAny (model prog w) A.in1 (setField (.ref I) k .none >>= λ_=>newExc (.type "StopIteration") [] >>= λe=>raiseNew e) (λ(fin:Fin) s'=>∃ v,fin=Fin.done (Flow.ret v)/\wpAny (model prog w) A (pure (some v)) Q E s')
  (λe s'=>wpAny (model prog w) A (do if ← isInstance e (.type "StopIteration") then pure none else throw e) Q E s') s:=by
 refine MN (wpAny_setField B rfl f ?_);refine MN ?_;simp only[newExc,newTuple];refine MN (Nq ?_ (by size_fits))
 refine MN (m:=firstArgMember _ _) (wpAny_of_eq (a:=Value.none) (by rfl) ?_)
 refine Nq ?_ (by size_fits)
 simp only[raiseNew];refine MN (wpAny_handled ?_);rw[show A.in1.handled=none from p];refine MN (MQ (wpAny_throw ?_));refine MN (Nm (T:="StopIteration") (b:=true) ⟨_,MT _ rfl,rfl⟩ isSubtype_stop ?_);exact MQ (q _ (((Nw ..).extBut.push _).push _))
theorem G3{Q:Option Value->Shared->Prop}(p:A.handled=none)(h:ItAt prog w s.heap I a tp ord i)(N:i=ord.length)(O:a≠I)(q:∀(h':Heap),Heap.ExtBut I s.heap h'->Q none {s with heap:=h'}):wpAny (model prog w) A (pyNext (.ref I)) Q E s:=by
 let o es M t first g go l C T tg ld B k f G:=h;let u:s.TypeIs (.ref I) "set_iterator":=⟨_,B,rfl⟩;unfold pyNext;refine MN (wpAny_attempt (Nu (name:=Str.ofString "__next__") u c8 (Nr c8 u pF ?_ (pK _))));unfold Builtin.«set_iterator.__next__» slotArgs;simp only[LY,Le,Jr,↓reduceIte,bind_assoc,Kj,bne_self_eq_false];refine MN (MQ ?_);try dsimp only
 refine MN (wpAny_fieldsOf B rfl ?_);dsimp only[rawInt];refine MN (wpAny_setEntries_of go C T ?_);rw[NY (by simp)]
 let n:=(eY k).1;let aa:i=g.length:=by omega
 let ac:=tR T;rcases G with⟨bt,⟨z,rfl⟩,rfl⟩|⟨bt,dr,rfl,rfl⟩|⟨bt,y,ot,c,rfl,tI,m,gt,D,ab,j⟩
 .dsimp only[rawInt];unfold setNext setsByText setWalk setsByText;refine MN (MN (NQ go C T ?_));dsimp only;refine MN (MN (NT (MQ ?_)));let r:w.params.followText "set-order"=true:=bt;rw[show(Setting.params ⟨(model prog w).prog,(model prog w).w.params⟩).followText "set-order"=true from r,NX rfl,NY (by simp)]
  refine MN (MN (NQ go C T ?_));dsimp only;refine MN (MN (NT (MQ ?_)));rw[show(Setting.params ⟨(model prog w).prog,(model prog w).w.params⟩).followText "set-order"=true from r,NX rfl];refine MN (NT (MQ (MQ ?_)));let J:(pickOrder (w.params.setOrder a M) es)[i]?=none:=by simp_all
  rw[HP,HP,show(pickOrder ((Setting.params ⟨(model prog w).prog,(model prog w).w.params⟩).setOrder a M) es)[i]?=none from J];exact uJ p B (by simp) q
 .dsimp only[rawInt];unfold setNext setsByText;refine MN (MN (NQ go C T ?_));dsimp only;refine MN (MN (NT (MQ ?_)));let r:w.params.followText "set-order"=false:=bt;rw[show(Setting.params ⟨(model prog w).prog,(model prog w).w.params⟩).followText "set-order"=false from r,NY (by simp)]
  refine Nl (λc=>NZ (show(!t.plain&&decide (es.size > 1))=true from c) (by rw[dr];simp)) λ_=>?_
  let v:t.led=true:=by rw[ld,bt];rfl
  refine MN ?_;show wpAny _ _ (if(!t.led&&!es.isEmpty)=true then _ else _) _ _ _;rw[v];refine MQ (MQ ?_);let ie:i=es.size:=by omega
  rw[HP,uA tg ∅]
  rw[Array.getElem?_eq_none (by omega:es.size<=i),Array.getElem?_eq_none (by omega:t.place.size<=i)]
  exact uJ p B (by simp) q
 .dsimp only[rawInt];refine MN (NI gt D ?_);dsimp only;let ip:y.length<=i:=by omega
  rw[HP,List.getElem?_toArray,HN,Jc ip];dsimp only[Option.map];refine MN (Ny B (by simp) λY H d=>?_)
  exact uJ (s:={s with heap:=Y}) p H (by simp) λh' x=>q h' λb o L e=>x b o L ((d.2 b L).trans e)
theorem Bu(x:ItAt prog w h I a tp ord i)(k:∀ b∈[I,a,tp],∀ o,h.get? b=some o->h'.get? b=some o):ItAt prog w h' I a tp ord i:=by
 let o N M t first g go m C T tg ld B f p G:=x;erw[o,N,M,t,first,g,k a (by simp) _ go,m,C,T,tg,ld,k I (by simp) _ B,f,p,?_]
 obtain z|z|⟨bt,y,l,c,e,n,d,j,r,D,A⟩:=G
 .exact .inl z
 .exact .inr (.inl z)
 .exact .inr (.inr ⟨bt,y,l,c,e,n,d,k tp (by simp) _ j,r,D,A⟩)
theorem D5(p:A.handled=none)(I a tp:Addr)(O:a≠I)(ord:List Int):Walks prog w A I [I,a,tp] [I] ord.length (λi v=>∃ t n,ord[i]?=some n/\v=.int n t) (λi h=>ItAt prog w h I a tp ord i) where
 sub:=λb L=>by simp_all
 frame:=λ_ _ _ st f=>Bu st f
 item:=λi s Q E N st D=>by
  refine G0 st (Hz N) O λt J l j=>?_;exact D _ J s.toks ⟨t,_,Hz N,rfl⟩ l λb o L e=>j.extBut b o (λh=>L (by simp[h])) e
 done:=λs Q E st D=>G3 p st rfl O λJ G=>D J s.toks λb o L e=>G b o (λh=>L (by simp[h])) e
 self:=λ_ s Q _ st h=>by
  let o y M t first g go m C T tg ld B k c d:=st;let u:s.TypeIs (.ref I) "set_iterator":=⟨_,B,rfl⟩;refine wpAny_pyIter_slot u o7 (Nr o7 u zg ?_ (zN _));show wpAny _ _ (ret (.ref I)) _ _ s;exact MQ ⟨_,rfl,"set_iterator",_,u,c8.lookup,h⟩
theorem D8{r:Addr}{Q:Bool->Shared->Prop}(u:s.TypeIs (.ref r) "set")(h:Q false s):wpAny (model prog w) A (Nk (.ref r)) Q E s:=by
 unfold Nk;refine MN (Nj u PySem.F.slot_set_len.lookup ?_);generalize a:("set.__len__" : String)=c;wp_delta;rw[show splitId c=some ("set","__len__") from by subst a;rfl]
 subst a;refine MN (Nm (T:="set") (b:=true) u (by rfl) ?_)
 refine Nl (λm=>NZ m ∅) (λ_=>?_)
 refine Nl (λ_=>?_) (λm=>NZ (by rfl) m)
 refine MN (wpAny_typeOf u ?_);exact MQ h
theorem SetG.len{l:List Int}(g:SetG prog w h a l):l.length<scanBound:=by
 let o N M t go m C c{v k L}G sz T tg ld:=g;let:=(eY k).1;rw[HD,IA,L.length_eq]at this;omega
theorem SetG.typ{l:List Int}(g:SetG prog w s.heap a l):s.TypeIs (.ref a) "set":=by
 let o N M t go m r:=g;erw[o,go,m.1]
theorem SetG.lt{l:List Int}(g:SetG prog w h a l):a<h.objs.size:=by
 let o N M t go m r:=g;exact MA go
theorem wZ{l:List Int}{Q:List Value->Shared->Prop}(hh:A.handled=none)(g:SetG prog w s.heap a l)(h:∀(h':Heap)(tk:Nat)(d:Drawn)(p:Array Value)(ord:List Int),(∀ b o,s.heap.get? b=some o->h'.get? b=some o)->s.heap.objs.size<h'.objs.size->ord.Perm l->ItemsOf (λi v=>∃ t n,ord[i]?=some n/\v=.int n t) p ord.length->Q p.toList {s with heap:=h',toks:=tk,drawn:=d}):wpAny (model prog w) A (collect (.ref a)) Q E s:=by
 unfold collect;refine MN (wpAny_runValue (NG entry_proto_collect' ?_));show wpAny _ _ (do again (.builtin "list.__iadd__" ⟨[← newList [],.ref a],[]⟩)) _ _ s
 refine MN (ND (MQ ⟨Code.quiet_builtin _ ∅,NG entry_list_iadd' ?_⟩))
 rw[NH PySem.F.plain_list_iadd _];show wpAny _ A.in1 (NU (.ref s.heap.objs.size) (.ref a) (.ref s.heap.objs.size)) _ _ {s with heap:=s.heap.push (NB "list" #[] 0)};let H:SetG prog w (s.heap.push (NB "list" #[] 0)) a l:=g.keeps λo e=>MR _ e;let aS:s.heap.objs.size≠a:=Ji g.lt;let M:(s.heap.push (NB "list" #[] 0)).get? s.heap.objs.size=some {cls:=.type "list",data:=.seq #[] 0}:=MT _ rfl;unfold NU;refine MN (wpAny_typeOf (T:="set") H.typ ?_);let Y:NV (.ref s.heap.objs.size) (.ref a)=false:=by simp[NV,aS]
 simp only[Y,show(Value.type "set" == Value.type "list")=false by decide,show(Value.type "set" == Value.type "tuple")=false by decide,Mx,Jr,if_false]
 refine MN (Dc H λI tp B d ord G lI sI lt st O it=>?_);let k:(s.heap.push (NB "list" #[] 0)).objs.size=s.heap.objs.size+1:=M6 ..;rw[k]at lI lt;let SI:s.heap.objs.size≠I:=Ig lI;let ST:s.heap.objs.size≠tp:=Ig lt;let aI:a≠I:=Ig (JS g.lt lI);let ap:s.heap.objs.size∉[I,a,tp]:=by simp[*]
 let N:ord.length<=Mz:=by
  rw[O.length_eq];exact Ia (JS g.len ∅)
 let m:∀(J:Heap)(am tk:Nat),ItAt prog w J I a tp ord 0->(∀ b o,b≠s.heap.objs.size->B.get? b=some o->J.get? b=some o) ->
   J.get? s.heap.objs.size=some {cls:=.type "list",data:=.seq #[] am}->M5 (model prog w) A (.builtin "list.extend.loop" ⟨[.ref s.heap.objs.size,.ref I,.ref s.heap.objs.size],[]⟩) (λr u=>∃ h' tk d c x,r=.ok (.ret (.ref s.heap.objs.size))/\u={s with heap:=h',toks:=tk,drawn:=d}/\(∀ b o,s.heap.get? b=some o->h'.get? b=some o)/\h'.get? s.heap.objs.size=some {cls:=.type "list",dict:=none,data:=.seq c x,slots:=#[]}/\ItemsOf (λi v=>∃ t n,ord[i]?=some n/\v=.int n t) c ord.length) {s with heap:=J,toks:=tk,drawn:=d}:=by
  intro J am tk ac f aa;refine codeAny_extend_loopS (D5 (A:=A.in1) hh I a tp aI ord).toS N _ ap _ ord.length 0 _ #[] am rfl (Iz _) ac aa (ItemsOf.nil _) λu c x y al q=>?_;rw[Moved.eq_with y];erw[u.heap,u.toks,d,c,x,rfl,rfl,λb o e=>y.heap b o (λan=>?_) (f b o (Ig (MA e)) (G b o (MR _ e))),al,q];obtain e'|an:=HQ.mp an
  .exact NZ (MA e) (by simp_all)
  .exact NZ (MA e) (by rw[Ih.mp an];exact Lf (Ia lI))
 let fin:∀(r:Result)(u:Shared),(∃ h' tk d c x,r=.ok (.ret (.ref s.heap.objs.size))/\u={s with heap:=h',toks:=tk,drawn:=d}/\(∀ b o,s.heap.get? b=some o->h'.get? b=some o)/\h'.get? s.heap.objs.size=some {cls:=.type "list",dict:=none,data:=.seq c x,slots:=#[]}/\ItemsOf (λi v=>∃ t n,ord[i]?=some n/\v=.int n t) c ord.length)->∃ v,r=.ok (.ret v)/\v=.ref s.heap.objs.size/\wpAny (model prog w) A (do
   let o ← load s.heap.objs.size
   match o.data with
   |.seq j _=>pure j.toList
   |_=>unsupported "internal:collect") Q E u:=λr u ⟨h',tk,d,c,x,C,D,f,M,q⟩=>⟨_,C,rfl,by
  subst D;refine MN (wpAny_load M ?_)
  exact MQ (h h' tk d c ord f (MA M) O q)⟩
 let aa:=G _ _ M;let g2:SetG prog w B a l:=H.keeps λo e=>G _ _ e;refine MN (MO (D8 (s:={s with heap:=B,drawn:=d}) g2.typ ?_));refine Nl (λ_=>?_) (λ_=>MQ ⟨NM JD _,M9 (m _ 0 _ it (λb o _ e=>e) aa) λr aW q'=>?_⟩);rotate_left
 .let v C D z:=fin _ _ q'
  cases C
  cases D
  exact z
 refine MN (wpAny_rule ?_);refine MN ?_;show wpAny _ _ (NK s.heap.objs.size (·.push .none) >>= λ_=>NK s.heap.objs.size (·.pop)) _ _ _;refine MN (NL aa rfl ?_);let ab:=Nd (Nc (·.push Value.none)) aa rfl;refine NL (hz:=by seq_fits) ab rfl ?_
 let aT:=Nd (Nc (·.pop)) ab rfl;let oth:∀ b o,b≠s.heap.objs.size->B.get? b=some o->((B.update s.heap.objs.size (Nc (·.push Value.none))).update s.heap.objs.size (Nc (·.pop))).get? b=some o:=λb o L e=>(Nf _ _ (Ne.symm L)).trans ((Nf _ _ (Ne.symm L)).trans e);refine MQ ⟨NM JD _,M9 (m _ _ _ (Bu it λb L o e=>oth b o (λz=>ap (z▸L)) e) oth aT) λr aW q'=>?_⟩;let v C D z:=fin _ _ q'
 cases C
 cases D
 exact z
end
section
variable{X:Cx}{pins:List (Addr×Obj)}{σ:List (Option V)}{H:Hp}{s:Shared}
theorem Inv.drew{d:Drawn}(I:Inv X pins σ H s):Inv X pins σ H {s with drawn:=d}:=⟨I.ok,I.os,I.bare,I.base,I.loc,I.cell,I.free,I.freeC,I.pin,I.hok,I.len⟩
def setO(P:Program)(w:World)(a:Addr)(l:List Int):HO:=.ext λh=>SetG P w h a l
inductive rSetI(P:Program)(w:World)(K:HE)(xs:List V)(H:L2.Hp)(Q:L2.VK):Prop
 |mk (p:Addr)(ns:List Int) (h0_:xs=[.ref p])(h1_:SqL K H p (ns.map V.int))(h2_:ns.length+1<4096)(h3_:∀ a:Addr,H a=none->Q (.ref a) (upd H a (setO P w a (ns.foldl addN []))))
theorem Cu(l:X.calm=true)(c:X.prog=P)(e:X.w=w)(n:X.K=K):jB X (.type "set") (rSetI P w K):=by
 subst c e n;intro pins s σ H j i Q I r h;let p v rfl C L q:=h;let u rfl x:=mN r
 cases x
 let E rv f b:=I.list C;let N:=kS rv;let G:=rv.length;rw[HD]at G;refine uQ (I.ok.hd l) f.isList N (by rw[IE,← G];exact L) λJ m g k=>?_
 erw[.ref s.heap.objs.size,_,I.laid (t':=m) k (HF _) (show bu X.prog X.w _ _ _ (setO X.prog X.w s.heap.objs.size (v.foldl addN [])) from⟨g,?_,λY B a d=>a.keeps d⟩),rfl,q _ (I.hok.fresh (HF _))];let o y M t a r:=g;erw[o,a]
theorem EJ(ns:List Int):∀(l:List Int)(x:Int),x∈ns.foldl addN l↔x∈l∨x∈ns:=by
 induction ns with
 |nil=>intro l x;simp
 |cons n ns Q =>
  intro l x;rw[Mc,Q,HQ];unfold addN;split
  .rename_i c;erw[λz=>z.elim .inl λy=>.inr (.inr y),λz=>z.elim .inl λy=>y.elim (λe=>.inl (e▸c)) .inr]
  .rw[HY,Ih];lia
end
inductive rSortT(P:Program)(w:World)(xs:List V)(H:L2.Hp)(Q:L2.VK):Prop
 |mk (a:Addr)(ms:List Int) (h0_:xs=[.ref a])(h1_:H a=some (setO P w a ms))(h2_:ms.length<64)(h3_:∀(l:Addr)(out:List Int),H l=none->(∀ x,x∈out↔x∈ms)->out.Pairwise (· < ·)->Q (.ref l) (upd H l (.lst (out.map V.int))))
theorem zI(l:X.calm=true)(eP:X.prog=P)(eW:X.w=w):jB X (.builtin "sorted") (rSortT P w):=by
 subst eP eW;intro B s M H z L Q I r h;let a ms rfl E am q:=h;let u rfl ru:=mN r
 cases ru
 let g _ _:=(show bu X.prog X.w H s.heap a (setO X.prog X.w a ms) from I.hok a _ E);let g:SetG X.prog X.w s.heap a ms:=g;let nd:ms.Nodup:=let ⟨_,_,_,_,_,_,_,_,_,nd,_,_,_,_⟩:=g;nd;refine Calls.call_function_entry kind_sorted plain_sorted entry_sorted (args_sorted1 _) ?_;unfold Builtin.«sorted»;refine MN (m:=checkCount "sorted" 1 1 _) (MQ ?_);refine MN (wZ (I.ok.hd l) g λh' tk d c aS f aa pm ab=>?_);let N:Nh c.toList aS:=by
  let all:∀(O:List Value)(ns:List Int),O.length=ns.length->(∀(j:Nat) v,O[j]?=some v->∃ t n,ns[j]?=some n/\v=.int n t)->Nh O ns:=λO=>by
   induction O with
   |nil=>intro ns e _;rw[KD e.symm];exact .nil
   |cons v O p =>
    intro ns e k
    cases ns with
    |nil=>cases e
    |cons n ns =>
     let t m C T:=k 0 v rfl
     cases C
     rw[T];exact .cons _ _ (p ns (Nat.succ.inj e) λj v e=>k (j+1) v e)
  exact all _ _ (by rw[IA];exact ab.1) λj v e=>ab.2 j v (by simp_all)
 let i:c.toList.length<=Mz:=by
  rw[IA,ab.1,pm.length_eq];exact Ia (JS g.len ∅)
 refine MN (ND ?_ i);let al:(h'.push (NB "list" c.toList.toArray 0)).get? h'.objs.size=some (NB "list" c.toList.toArray 0):=MT _ rfl;show wpAny _ _ _ _ _ {s with heap:=h'.push (NB "list" c.toList.toArray 0),toks:=tk,drawn:=d};let ap:∀(out:Array Value)(b:Addr)(o:Obj),s.heap.get? b=some o->(sortedHeap (h'.push (NB "list" c.toList.toArray 0)) h'.objs.size c.toList out).get? b=some o:=λout b o e=>by
  let T:=f b o e;rw[sortedHeap_old (Ig (MA T)) (by rw[M6];exact Jv (MA T))]
  exact MR _ T
 let ac:s.heap.objs.size<=h'.objs.size:=Ia aa;refine MN (MO (Nr slot_list_sort ⟨_,al,rfl⟩ entry_list_sort (list_sort_tree al N (by rw[IA,ab.1,pm.length_eq];exact am) λout an A J a3=>⟨_,rfl,?_⟩) (args_list_sort _)))
 let e D:=sortedHeap_at (out:=out) al;let aI:=J.trans pm;refine MQ ⟨_,rfl,?_⟩;erw[.ref h'.objs.size,_,(I.laid (t':=tk) (ap out) ac (show bu X.prog X.w _ _ _ (.lst (an.map V.int)) from⟨?_,out.toList,e,uH A,?_⟩)).drew,rfl,q _ an (I.hok.fresh ac) (λx=>aI.mem_iff) ?_]
 .rw[HD,aI.length_eq];exact Ia (JS g.len ∅)
 .exact D
 .exact(List.Pairwise.and a3 (aI.nodup_iff.mpr nd)).imp λ{x y} ⟨Y,G⟩=>by
   lia
end L2
namespace L2.C2
open PySem PySem.Spec PyProof.Rows
section
variable{prog:Program}{w:World}{A:Around}{E:Value->Shared->Prop}{s:Shared}{d:Addr}
theorem uG{Q:Option Obj->Shared->Prop}(h:Q (s.heap.get? a) s):wpAny (model prog w) A (loadIfAlive a) Q E s:=λc p b=>by
 show Sem.wp _ _ (.loadIfAlive a _) _ _ _ _;rw[Sem.wp_loadIfAlive];exact(MQ (M:=model prog w) (A:=A) (E:=E) h) c p b
def ItAt(h:Heap)(it d:Addr)(i n ep:Nat):Prop:=∃ Q t g f,h.get? it=some {cls:=.type "dict_itemiterator",dict:=none,data:=.fields #[Q,t,.ref d,.int i 0,.int n 0,.int ep 0,g,f],slots:=#[]}/\((Q=.none/\t=.bool false)∨∃(a:Addr)(o:Obj),Q=rawInt a/\h.get? a=some o/\a≠it)
theorem ItAt.keep(x:ItAt h it d i n ep)(z:∀ o,h.get? it=some o->h'.get? it=some o)(k:∀ b o,b≠it->h.get? b=some o->∃ A,h'.get? b=some A):ItAt h' it d i n ep:=by
 let Q t g f e c:=x;erw[Q,t,g,f,z _ e,?_];obtain c|⟨a,o,c1,c2,c3⟩:=c
 .exact .inl c
 .let A q:=k a o c3 c2;exact .inr ⟨a,A,c1,q,c3⟩
theorem Bt{es:Array DictEntry}{Q:Option Value->Shared->Prop}(z:ItAt s.heap it d i es.size ep)(y:Ent s.heap d es ep)(p:A.handled=none)(B:∀ e,es[i]?=some e->∀ h',ItAt h' it d (i+1) es.size ep->h'.get? s.heap.objs.size=some {cls:=.type "tuple",data:=.seq #[e.key,e.val]}->(∀ b o,b≠it->s.heap.get? b=some o->h'.get? b=some o)->Q (some (.ref s.heap.objs.size)) {s with heap:=h'})(f:es[i]?=none->∀ h',Heap.ExtBut it s.heap h'->Q none {s with heap:=h'}):wpAny (model prog w) A (pyNext (.ref it)) Q E s:=by
 let h t ok ov z c:=z;rcases c with⟨rfl,rfl⟩|⟨a,oa,rfl,an,ac⟩
 .refine BZ (ok:=ok) (ov:=ov) z y p (λe D h' k n Y=>B e D h' ⟨_,_,_,_,k,.inr ⟨s.heap.objs.size,_,rfl,n,?_⟩⟩ n Y) f;exact Ji (MA z)
 let o C v g:=y;let u:s.TypeIs (.ref it) "dict_itemiterator":=⟨_,z,rfl⟩;let own:Nt "dict_itemiterator"=true:=by rfl
 unfold pyNext;refine MN (wpAny_attempt (Nu (name:=Str.ofString "__next__") u F.slot_dict_itemiterator_next (Nr F.slot_dict_itemiterator_next u F.entry_dict_itemiterator_next ?_ (F.args_dict_itemiterator_next_1 _))));refine MN (MQ (MN (MN (MN (Nv u (MQ ?_))))));refine MN (wpAny_fieldsOf z rfl ?_);simp only[own,if_true];show wpAny _ _ (if(Value.ref d == Value.none)=true then _ else _) _ _ _;rw[NY (show ¬ ((Value.ref d == Value.none)=true) from Io)];refine MN (MQ (MN (wpAny_dictEntries C g ?_)));rw[NY (by simp)]
 refine MN (MQ (MN (wpAny_dictEpoch C g ?_)));rw[NY (by simp)]
 refine MQ ?_;let n0:¬ ((i:Int)<0):=by omega
 simp only[n0,if_false,HP]
 cases D:es[i]? with
 |none =>
  refine MN (MN (Nv u (MQ ?_)));show wpAny _ _ (setField (.ref it) 2 .none >>= _) _ _ s;refine MN (wpAny_setField z rfl (by simp) ?_)
  show wpAny _ _ (newExc (.type "StopIteration") [] >>= _) _ _ _;refine MN ?_;simp only[newExc,newTuple];refine MN (Nq (MN (m:=firstArgMember _ _) (wpAny_of_eq (a:=Value.none) (by rfl) (Nq ?_ (by size_fits)))) (by size_fits))
  simp only[raiseNew];refine MN (wpAny_handled ?_);rw[show A.in1.handled=none from p];refine MN (MQ (wpAny_throw ?_));refine MN (Nm (T:="StopIteration") (b:=true) ⟨_,MT _ rfl,rfl⟩ isSubtype_stop (MQ ?_));exact f D _ (((Nw ..).extBut.push _).push _)
 |some e =>
  refine MN (MN (Nv u (MQ ?_)));refine MN (Nx u ?_);show wpAny _ _ (setField (.ref it) 3 (rawInt ((i:Int)+1)) >>= _) _ _ s;refine MN (Ny z (by simp) λH k J=>?_)
  let c1:((i+1:Nat):Int)=(i:Int)+1:=by omega
  let aa:H.get? it=some {cls:=.type "dict_itemiterator",dict:=none,data:=.fields #[rawInt a,t,.ref d,.int ((i+1:Nat):Int) 0,.int es.size 0,.int ep 0,ok,ov],slots:=#[]}:=by assumption
  let lt:it<s.heap.objs.size:=MA z;let N:H.objs.size=s.heap.objs.size:=J.1;let ab:Shared.TypeIs {s with heap:=H} (.ref it) "dict_itemiterator":=⟨_,aa,rfl⟩;refine MN (MO (MN (Nx ab (MN (Nx ab ?_)))));show wpAny _ _ (Nz (.ref it) 6 e.key e.val) _ _ {s with heap:=H};unfold Nz Builtin.Dict_items.ownedTupleIsFree;refine MN (wpAny_newTuple ?_);let n:(H.push {cls:=.type "tuple",data:=.seq #[e.key,e.val]}).get? it=some {cls:=.type "dict_itemiterator",dict:=none,data:=.fields #[rawInt a,t,.ref d,.int ((i+1:Nat):Int) 0,.int es.size 0,.int ep 0,ok,ov],slots:=#[]}:=MR _ aa;let I:(H.push {cls:=.type "tuple",data:=.seq #[e.key,e.val]}).get? s.heap.objs.size=some {cls:=.type "tuple",data:=.seq #[e.key,e.val]}:=by rw[← N];exact MT _ rfl
  let G:∀ b o,b≠it->s.heap.get? b=some o->(H.push {cls:=.type "tuple",data:=.seq #[e.key,e.val]}).get? b=some o:=λb o L q=>MR _ (J.extBut b o L q);rw[N];generalize H.push {cls:=.type "tuple",data:=.seq #[e.key,e.val]}=O at n I G;show wpAny _ _ (_ >>= _) _ _ {s with heap:=O};let l:O.get? ((a:Int).toNat)=some oa:=by rw[HP];exact G a oa ac an
  refine MN (MN (wpAny_field n rfl (x:=rawInt a) rfl ?_));show wpAny _ _ (loadIfAlive ((a:Int).toNat) >>= _) _ _ {s with heap:=O};refine MN (uG ?_);show wpAny _ _ (if((O.get? ((a:Int).toNat)).isNone)=true then _ else _) _ _ _;rw[l,NY (show ¬ (some oa).isNone=true from Io)];let am:∀ j,j.get? it=some {cls:=.type "dict_itemiterator",dict:=none,data:=.fields #[rawInt a,.bool true,.ref d,.int ((i+1:Nat):Int) 0,.int es.size 0,.int ep 0,ok,ov],slots:=#[]}->(∀ b o,b≠it->O.get? b=some o->j.get? b=some o)->Q (some (.ref s.heap.objs.size)) {s with heap:=j}:=λj Y M =>
   B e D j ⟨_,_,_,_,Y,.inr ⟨a,oa,rfl,M a oa ac (G a oa ac an),ac⟩⟩ (M _ _ (Ji lt) I) λb o L q=>M b o L (G b o L q)
  refine MN (wpAny_field n rfl (x:=t) rfl ?_);by_cases r:t=.bool true
  .rw[NY (by rw[r];decide)]
   refine MQ ?_;subst r;exact MQ (MQ ⟨_,rfl,MQ (am O n λb o _ q=>q)⟩)
  .rw[NX (by simpa using r)]
   refine MN (Ny n (by simp) λj Y M=>?_)
   exact MQ (MQ (MQ ⟨_,rfl,MQ (am j Y λb o L q=>M.extBut b o L q)⟩))
def EM(h₀ h:Heap)(es:Array DictEntry)(p:Array Value)(i:Nat):Prop:=p.size=i/\∀(j:Nat)(v:Value),p[j]?=some v->∃(t:Addr)(e:DictEntry),v=.ref t/\es[j]?=some e/\h₀.objs.size<=t/\h.get? t=some {cls:=.type "tuple",data:=.seq #[e.key,e.val]}
def lH(p:Array Value):Prop:=p.toList.Nodup
theorem BU{S:Addr}{es:Array DictEntry}{res:Value}{h₀:Heap}(hh:A.handled=none)(N:es.size<=Mz)(aT:S≠it)(aI:S≠d)(a0:d≠it):
  ∀(k i:Nat)(s:Shared)(p:Array Value)(c:Nat),es.size-i=k->i<=es.size->ItAt s.heap it d i es.size ep->Ent s.heap d es ep->s.heap.get? S=some {cls:=.type "list",dict:=none,data:=.seq p c,slots:=#[]}->EM h₀ s.heap es p i->lH p->h₀.objs.size<=s.heap.objs.size ->
  (∀ h' h c',(∀ b o,b≠S->b≠it->s.heap.get? b=some o->h'.get? b=some o)->h'.get? S=some {cls:=.type "list",dict:=none,data:=.seq h c',slots:=#[]}->EM h₀ h' es h es.size->lH h->R (.ok (.ret res)) {s with heap:=h'}) ->
  M5 (model prog w) A (.builtin "list.extend.loop" ⟨[.ref S,.ref it,res],[]⟩) R s:=by
 intro k;induction k with
 |zero =>
  intro i s p c f I al y M l an ab x;let aa:i=es.size:=by omega
  subst aa;refine NG F.entry_extend_loop ?_;rw[NH F.plain_extend_loop _];show wpAny _ A.in1 (pyNext (.ref it) >>= _) _ _ s;refine MN (Bt al y hh (λe D=>?_) λ_ h' q=>?_)
  .simp_all
  .refine MQ (x h' p c (λb o _ L e=>q b o L e) (q S _ aT M) ⟨l.1,λj v O=>?_⟩ an);let t e g J C a4:=l.2 j v O;erw[t,e,g,J,C,q t _ (λz=>?_) a4];let _ _ _ _ u _:=al;rw[z,u]at a4;lia
 |succ k Q =>
  intro i s p c f I al y M l an ab x;refine NG F.entry_extend_loop ?_;rw[NH F.plain_extend_loop _];show wpAny _ A.in1 (pyNext (.ref it) >>= _) _ _ s;refine MN (Bt al y hh (λe D h' G n Y=>?_) λD=>NZ D (by simp_all))
  let am:=Y S _ aT M;let lt:it<s.heap.objs.size:=by let _ _ _ _ z _:=al;exact MA z
  let aW:=MA M;show wpAny _ A.in1 (NK S (·.push (.ref s.heap.objs.size)) >>= _) _ _ _;refine MN ?_;let aS:∀ b,b≠S->∀ o,h'.get? b=some o->(h'.update S (Nc (·.push (.ref s.heap.objs.size)))).get? b=some o:=λb L o e=>(Nf _ _ (Ne.symm L)).trans e;let m:∀(B:Heap),(∀ b o,b≠S->h'.get? b=some o->B.get? b=some o)->EM h₀ B es (p.push (.ref s.heap.objs.size)) (i+1):=λB r=>by
   erw[by rw[Array.size_push,l.1],λj v O=>?_]
   rw[Array.getElem?_push]at O;split at O
   .rename_i H
    cases O
    rw[l.1]at H;subst H;erw[s.heap.objs.size,e,rfl,D,ab,r _ _ (Ji aW) n]
   .let t T g J C a4:=l.2 j v O;let ti:t≠it:=λz=>by
     let _ _ _ _ u _:=al;lia
    erw[t,T,g,J,C,r t _ (λz=>?_) (Y t _ ti a4)];rw[z,M]at a4;lia
  let ap:lH (p.push (.ref s.heap.objs.size)):=by
   unfold lH;rw[LR];refine Iu.mpr ⟨an,by simp,λa E b L e=>?_⟩
   rw[Ih.mp L]at e;subst e;let j O:=II E;let t T g _ _ a4:=l.2 j _ (by rw[← Jd];exact O)
   cases g
   exact JI _ (MA a4)
  refine NL am rfl (MQ ⟨NM F.plain_extend_loop _,Q (i+1) _ (p.push (.ref s.heap.objs.size)) _ ∅ ∅ ?_ ?_ (Nd _ am rfl) (m _ λb o L e=>aS b L o e) ap ?_ λa5 h c' m1 m2 m3 m4=>?_⟩)
   (by rw[l.1];omega) (by show(p.push _).size<=Mz+1;rw[Array.size_push,l.1];omega)
  .exact G.keep (λo e=>aS it (Ne.symm aT) o e) λb o _ e=>by
    by_cases z:b=S
    .rw[z];erw[_,Nd _ am rfl]
    .erw[o,aS b z o e]
  .let o g J C:=y;erw[o,aS d (Ne.symm aI) o (Y d o a0 g),J,C]
  .show h₀.objs.size<=(h'.update _ _).objs.size;rw[NF];exact IK ab (Ia (MA n))
  .exact x a5 h c' (λb o L ac e=>m1 b o L ac (aS b L o (Y b o ac e))) m2 m3 m4
theorem yT{r:Addr}{Q:Bool->Shared->Prop}(u:s.TypeIs (.ref r) "dict_items")(h:Q false s):wpAny (model prog w) A (Nk (.ref r)) Q E s:=by
 unfold Nk;refine MN (Nj u PySem.F.slot_dict_items_len.lookup ?_);generalize a:("dict_items.__len__" : String)=c;wp_delta;rw[show splitId c=some ("dict_items","__len__") from by subst a;rfl]
 subst a;refine MN (Nm (T:="dict_items") (b:=true) u (by rfl) ?_)
 refine Nl (λm=>NZ m ∅) (λ_=>?_)
 refine Nl (λ_=>?_) (λm=>NZ (by rfl) m)
 refine MN (wpAny_typeOf u ?_);exact MQ h
theorem zf{S r:Addr}{es:Array DictEntry}{res:Value}(p:A.handled=none)(hv:s.heap.IsItemsView r d)(y:Ent s.heap d es ep)(D:es.size<=Mz)(al:S≠r)(aa:S≠d)(M:s.heap.get? S=some {cls:=.type "list",dict:=none,data:=.seq #[] N,slots:=#[]})(x:∀ h' c c',(∀ b o,b≠S->s.heap.get? b=some o->h'.get? b=some o)->h'.get? S=some {cls:=.type "list",dict:=none,data:=.seq c c',slots:=#[]}->EM s.heap h' es c es.size->lH c->R (.ok (.ret res)) {s with heap:=h'}):
  wpAny (model prog w) A.in1 (NU (.ref S) (.ref r) res)
   (λfin s'=>match fin with | .done f=>R (.ok f) s' | .again c'=>c'.quiet=true/\M5 (model prog w) A c' R s') (λe s'=>R (.error e) s') s:=by
 let O ab am ac:=id hv;let B l G J:=id y;let dl:d<s.heap.objs.size:=MA l;let ap:S≠s.heap.objs.size:=Ig (MA M);let C:∀(g:Heap)(i m:Nat),ItAt g s.heap.objs.size d 0 es.size ep->(∀ b o,b≠S->s.heap.get? b=some o->g.get? b=some o)->s.heap.objs.size<=g.objs.size ->
   g.get? S=some {cls:=.type "list",dict:=none,data:=.seq #[] i,slots:=#[]}->m=s.toks->M5 (model prog w) A (.builtin "list.extend.loop" ⟨[.ref S,.ref s.heap.objs.size,res],[]⟩) R {s with heap:=g,toks:=m}:=λg i m k n q I t=>by
  subst t;refine BU (h₀:=s.heap) p D ap aa (Ig dl) es.size 0 _ #[] i (Nat.sub_zero _) (Iz _) k ⟨B,n d B (Ne.symm aa) l,G,J⟩ I ⟨rfl,λj v e=>by simp at e⟩ (by unfold lH;simp) q λh' c c' H Q m3 m4=>?_
  exact x h' c c' (λb o L e=>H b o L (Ig (MA e)) (n b o L e)) Q m3 m4
 unfold NU;refine MN (wpAny_typeOf (T:="dict_items") hv.typeIs ?_);let Y:NV (.ref S) (.ref r)=false:=by simp[NV,al]
 let nl:(Value.type "dict_items" == Value.type "list")=false:=by rfl
 let nt:(Value.type "dict_items" == Value.type "tuple")=false:=by assumption
 simp only[Y,nl,nt,Mx,Jr,if_false];refine MN (Eo hv y ?_);let a:=MR {cls:=.type "dict_itemiterator",data:=.fields #[.none,.bool false,.ref d,.int 0 0,.int es.size 0,.int ep 0,.none,.none]} M;let an:ItAt (s.heap.push {cls:=.type "dict_itemiterator",data:=.fields #[.none,.bool false,.ref d,.int 0 0,.int es.size 0,.int ep 0,.none,.none]}) s.heap.objs.size d 0 es.size ep :=
  ⟨_,_,_,_,MT _ rfl,.inl ⟨rfl,rfl⟩⟩
 let u:∀ b o,s.heap.get? b=some o->(s.heap.push {cls:=.type "dict_itemiterator",data:=.fields #[.none,.bool false,.ref d,.int 0 0,.int es.size 0,.int ep 0,.none,.none]}).get? b=some o:=λb o e=>MR _ e;let big:s.heap.objs.size<=(s.heap.push {cls:=.type "dict_itemiterator",data:=.fields #[.none,.bool false,.ref d,.int 0 0,.int es.size 0,.int ep 0,.none,.none]}).objs.size:=by simp
 let aI:(⟨s.heap.push {cls:=.type "dict_itemiterator",data:=.fields #[.none,.bool false,.ref d,.int 0 0,.int es.size 0,.int ep 0,.none,.none]},s.gens,s.drawn,s.toks,s.os⟩:Shared).TypeIs (.ref r) "dict_items":=⟨O,u _ _ ab,am⟩;generalize s.heap.push {cls:=.type "dict_itemiterator",data:=.fields #[.none,.bool false,.ref d,.int 0 0,.int es.size 0,.int ep 0,.none,.none]}=g0 at a an u big aI;refine MN (MO (yT aI ?_));refine Nl (λ_=>?_) (λ_=>MQ ⟨NM JD _,C g0 _ s.toks an (λb o _ e=>u b o e) big a rfl⟩);refine MN (wpAny_rule ?_);refine MN ?_;show wpAny _ _ (NK S (·.push .none) >>= λ_=>NK S (·.pop)) _ _ _;refine MN (NL a rfl ?_);let h:=Nd (Nc (·.push Value.none)) a rfl;refine NL (hz:=by seq_fits) h rfl ?_
 let E:=Nd (Nc (·.pop)) h rfl;let ne:∀ b,b≠S->∀ o,g0.get? b=some o->((g0.update S (Nc (·.push Value.none))).update S (Nc (·.pop))).get? b=some o:=λb L o e=>(Nf _ _ (Ne.symm L)).trans ((Nf _ _ (Ne.symm L)).trans e);refine MQ ⟨NM JD _,C _ _ s.toks (an.keep (λo e=>ne _ (Ne.symm ap) o e) λb o _ e=>?_) (λb o L e=>ne b L o (u b o e)) (by rw[NF,NF];exact big) E rfl⟩
 by_cases z:b=S
 .rw[z];erw[_,E]
 .erw[o,ne b z o e]
end
end L2.C2
namespace L2
open PySem PySem.Spec PyProof.Rows
section
open PySem.W
variable{f:Nat->Int}{n:Nat}
def QOk{α:Type}(f:Nat->Int)(n:Nat):KasT α->(α->Prop)->Prop
 |.ret a,P=>P a
 |.ask i j k,P=>i<n/\j<n/\∀ b:Bool,(b=true->f i<=f j)->(b=false->f j<=f i)->QOk f n (k b) P
theorem QOk.bind{α c:Type}{g:α->KasT c}{P:c->Prop}:∀{t:KasT α},QOk f n t (λa=>QOk f n (g a) P)->QOk f n (t.bind g) P
 |.ret _,h=>h
 |.ask _ _ _,h=>⟨h.1,h.2.1,λb x y=>QOk.bind (h.2.2 b x y)⟩
theorem QOk.imp{α:Type}{P c:α->Prop}(M:∀ a,P a->c a):∀{t:KasT α},QOk f n t P->QOk f n t c
 |.ret _,h=>M _ h
 |.ask _ _ _,h=>⟨h.1,h.2.1,λb x y=>QOk.imp M (h.2.2 b x y)⟩
theorem QOk.wp{α:Type}{P:α->Prop}{s:Shared}{G:Nat->Nat->(Bool->Shared->Prop)->Shared->Prop}{Q:α->Shared->Prop}(g:∀ i j C,i<n->j<n->(∀ b:Bool,(b=true->f i<=f j)->(b=false->f j<=f i)->C b s)->G i j C s)(d:∀ a,P a->Q a s):∀{t:KasT α},QOk f n t P->t.kasWp G Q s
 |.ret _,h=>d _ h
 |.ask i j k,h=>g i j _ h.1 h.2.1 λb x y=>QOk.wp g d (h.2.2 b x y)
def Pmn(n:Nat)(p:Array Nat):Prop:=p.Perm (IG n).toArray
theorem Pmn.size{p:Array Nat}(h:Pmn n p):p.size=n:=by rw[Array.Perm.size_eq h];simp
theorem Pmn.lt{p:Array Nat}(h:Pmn n p)(hi:i<n):p.getD i 0<n:=by
 let:p.getD i 0=p[i]'(by rw[h.size];exact hi):=by simp[LS,h.size,hi]
 rw[this];let:=(Mf.mp h).mem_iff.mp (Array.getElem_mem_toList (by rw[h.size];exact hi))
 simp_all
def kyA(f:Nat->Int)(p:Array Nat)(i:Nat):Int:=f (p.getD i 0)
theorem tE{p q:Array Nat}(h:p[i]?=q[j]?):kyA f p i=kyA f q j:=by
 unfold kyA;simp[*]
def Sin(f:Nat->Int)(p:Array Nat)(m:Nat):Prop:=∀ i j,i<=j->j<m->kyA f p i<=kyA f p j
def Nin(f:Nat->Int)(p:Array Nat)(m:Nat):Prop:=∀ i j,i<=j->j<m->kyA f p j<=kyA f p i
theorem Sin.up{p:Array Nat}(h:Sin f p m)(c:kyA f p (m-1)<=kyA f p m):Sin f p (m+1):=λi j Y B=>by
 by_cases z:j<m
 .exact h i j Y z
 .let e:j=m:=by omega
  by_cases y:i=j
  .rw[y];exact IT _
  .let:=h i (m-1) ∅ ∅
   rw[e];omega
theorem Nin.up{p:Array Nat}(h:Nin f p m)(c:kyA f p m<=kyA f p (m-1)):Nin f p (m+1):=λi j Y B=>by
 by_cases z:j<m
 .exact h i j Y z
 .let e:j=m:=by omega
  by_cases y:i=j
  .rw[y];exact IT _
  .let:=h i (m-1) ∅ ∅
   rw[e];omega
theorem tD{p:Array Nat}(O:j<=p.size)(k:Nat):kyA f (kas_rev p i j) k=if i<=k/\k<j then kyA f p (i+j-1-k) else kyA f p k:=by
 let e:=getElem?_mirror_all (i:=i) O k;split
 .rw[NX (by assumption)]at e;exact tE e
 .rw[NY (by assumption)]at e;exact tE e
theorem Pmn.rev{p:Array Nat}(h:Pmn n p)(i j:Nat):Pmn n (kas_rev p i j):=Array.Perm.trans (mirror_perm _ _ _ _) h
theorem F9{p:Array Nat}(h:Pmn n p):∀ g m,1<=m->m+g<=n->Sin f p m->QOk f n (kas_asc p g m) λr=>m<=r/\r<=m+g/\Sin f p r/\(r<m+g->kyA f p r<=kyA f p (r-1))
 |0,m,_,_,s=>⟨HF _,HF _,s,λz=>NZ z (JI _)⟩
 |g+1,m,H,k,s=>⟨h.lt ∅,h.lt ∅,λb x y=>by
  cases b with
  |true=>exact⟨HF _,Ks ..,s,λ_=>x rfl⟩
  |false=>exact(F9 h g (m+1) ∅ ∅ (s.up (y rfl))).imp λr z=>⟨∅,∅,z.2.2.1,λw=>z.2.2.2 ∅⟩⟩
def Rnq(f:Nat->Int)(p:Array Nat)(m q:Nat):Prop:=∀ i,m-(q+1)<=i->i<m->kyA f p i=kyA f p (m-1)
theorem Rnq.rev{p:Array Nat}{q:Nat}(h:Rnq f p m q)(y:m<=p.size)(k:Nat):kyA f (kas_rev p (m-(q+1)) m) k=kyA f p k:=by
 rw[tD y];split
 .rw[h k ∅ ∅,h _ ∅ ∅]
 .rfl
structure Dsq(f:Nat->Int)(n m:Nat)(r:Array Nat×Nat×Nat):Prop where
 p:Pmn n r.1
 a:m<=r.2.1
 b:r.2.1<=n
 s:Nin f r.1 r.2.1
 q:Rnq f r.1 r.2.1 r.2.2
theorem xT:∀ g p m q,1<=m->m+g<=n->Pmn n p->Nin f p m->Rnq f p m q->QOk f n (kas_desc g p m q) (Dsq f n m)
 |0,p,m,q,_,k,h,s,e=>⟨h,HF _,k,s,e⟩
 |g+1,p,m,q,H,k,h,s,e=>⟨h.lt ∅,h.lt ∅,λb x y=>by
  let up:∀{r},Dsq f n (m+1) r->Dsq f n m r:=λz=>⟨z.p,by let:=z.a;omega,z.b,z.s,z.q⟩
  cases b with
  |true =>
   let one:∀ w:Array Nat,Rnq f w (m+1) 0:=λw i Y B=>by grind
   show QOk f n (if q > 0 then _ else _) _;split
   .refine(xT g _ (m+1) 0 ∅ ∅ (h.rev _ _) ?_ (one _)).imp λr=>up
    let l:=e.rev (by rw[h.size];omega)
    let t:=s.up (x rfl);exact λi j Y B=>by rw[l,l];exact t i j Y B
   .exact(xT g p (m+1) 0 ∅ ∅ h (s.up (x rfl)) (one _)).imp λr=>up
  |false=>exact⟨h.lt ∅,h.lt ∅,λd u v=>by
    cases d with
    |true=>exact⟨h,HF _,by grind,s,e⟩
    |false =>
     refine(xT g p (m+1) (q+1) ∅ ∅ h (s.up (v rfl)) λi Y B=>?_).imp λr=>up
     let C:kyA f p (m-1)=kyA f p m:=KS (y rfl) (v rfl);by_cases c:i=m
     .simp_all
     .rw[e i ∅ ∅];exact C⟩⟩
structure Cnq(f:Nat->Int)(n:Nat)(r:Nat×Array Nat):Prop where
 p:Pmn n r.2
 a:1<=r.1
 b:r.1<=n
 s:Sin f r.2 r.1
theorem E7{p:Array Nat}(h:Pmn n p)(H:1<=m)(k:m<=n)(s:Nin f p m):QOk f n (kas_tail3 m n p) (Cnq f n):=by
 refine QOk.bind ((F9 (h.rev 0 m) (n-m) m H ∅ λi j Y B=>?_).imp λr z=>⟨h.rev 0 m,by lia,∅,z.2.2.1⟩)
 rw[tD (by rw[h.size];exact k),tD (by rw[h.size];exact k),NX ∅,NX ∅]
 exact s _ _ ∅ ∅
theorem E8{p:Array Nat}(h:Pmn n p)(k:m<n)(s:Nin f p (m+1)):QOk f n (kas_descPart m n p) (Cnq f n):=by
 refine QOk.bind ((xT (n-(m+1)) p (m+1) 0 ∅ ∅ h s λi Y B=>by grind).imp λr z=>?_)
 let b g a d o:=z;show QOk f n (if r.2.2 > 0 then _ else _) _;split
 .refine E7 (b.rev _ _) ∅ a λi j Y B=>?_
  rw[o.rev (by rw[b.size];exact a),o.rev (by rw[b.size];exact a)]
  exact d i j Y B
 .exact E7 b ∅ a d
theorem F8{p:Array Nat}(N:2<=n)(h:Pmn n p):QOk f n (kas_count n p) (Cnq f n):=by
 refine QOk.bind ((F9 h (n-1) 1 (HF _) ∅ λi j Y B=>by simp_all).imp λm z=>?_)
 let g a d l:=z;show QOk f n (if(m == n)=true then _ else if m > 1 then _ else _) _;split
 .erw[h,g,by lia,d]
 .rename_i c;let k:m<n:=by lia
  let c0:=l ∅
  split
  .erw[h.lt ∅,h.lt ∅,λb x y=>?_]
   cases b with
   |true=>exact⟨h,g,by show m<=n;omega,d⟩
   |false =>
    let e:∀ i,i<m->kyA f p i=kyA f p 0:=λi I=>KS (LX (d i (m-1) ∅ ∅) (y rfl)) (d 0 i (Iz _) I)
    refine E8 (h.rev 0 m) k λi j Y B=>?_;rw[tD (by rw[h.size];omega),tD (by rw[h.size];omega)]
    by_cases c1:j<m
    .rw[NX ∅,NX ∅,e (0+m-1-j) ∅,e (0+m-1-i) ∅];exact IT _
    .grind
  .let e:m=1:=by omega
   subst e;exact E8 h k λi j Y B=>by
    rcases(show i=j∨(i=0/\j=1) by omega)with z|⟨z,y⟩
    .rw[z];exact IT _
    .rw[z,y];exact c0
theorem uZ{p:Array Nat}{k:Nat}(h:Pmn n p)(c:k<n)(s:Sin f p k):∀ g l r,l<=r->r<=k->r-l<=g->(∀ i,i<l->kyA f p i<=kyA f p k)->(∀ i,r<=i->i<k->kyA f p k<=kyA f p i) ->
  QOk f n (kas_place p k g l r) λl=>l<=k/\(∀ i,i<l->kyA f p i<=kyA f p k)/\∀ i,l<=i->i<k->kyA f p k<=kyA f p i
 |0,l,r,Y,B,J,lo,I=>⟨∅,lo,λi a b=>I i ∅ b⟩
 |g+1,l,r,Y,B,J,lo,I=>by
  show QOk f n (if l ≥ r then _ else _) _;split
  .erw[∅,lo,λi a b=>I i ∅ b]
  .erw[h.lt c,h.lt ∅,λb x y=>?_]
   cases b with
   |true=>exact uZ h c s g _ _ ∅ ∅ ∅ lo λi a b=>LX (x rfl) (s _ _ a b)
   |false=>exact uZ h c s g _ _ ∅ ∅ ∅ (λi a=>LX (s i ((l+r)/2) ∅ ∅) (y rfl)) I
theorem q_bin:∀ g p k,Pmn n p->k+g=n->Sin f p k->QOk f n (kas_bin g p k) λr=>Pmn n r/\Sin f r n
 |0,p,k,h,e,s=>⟨h,by rw[← e];exact s⟩
 |g+1,p,k,h,e,s=>QOk.bind ((uZ h ∅ s k 0 k (Iz _) (HF _) ∅ (λi z=>NZ z (IX _)) λi a b=>NZ a ∅).imp λl z=>by
  refine q_bin g _ (k+1) (Array.Perm.trans (bubble_perm _ _ _) h) ∅ ?_
  let y lo I:=z;let H:∀ i,kyA f (bubble p k (k-l)) i=if i=l then kyA f p k else if l<i/\i<=k then kyA f p (i-1) else kyA f p i:=λi=>by
   let e:=getElem?_bubble (show k<p.size by rw[h.size];omega) (k-l) ∅ i
   rw[show k-(k-l)=l by omega]at e
   by_cases c:i=l
   .rw[NX c]at e ⊢;exact tE e
   .rw[NY c]at e ⊢;by_cases d:l<i/\i<=k
    .rw[NX d]at e ⊢;exact tE e
    .rw[NY d]at e ⊢;exact tE e
  intro i j Y B;rw[H,H];repeat' split
  all_goals first
   | (lia)
   |exact IT _
   |exact lo _ ∅
   |grind
   |exact s _ _ ∅ ∅)
theorem q_sort(f:Nat->Int)(N:2<=n):QOk f n (kas_sort n) λp=>Pmn n p/\Sin f p n:=by
 refine QOk.bind ((F8 N (Array.Perm.refl _)).imp λr z=>?_);let b g a j:=z;show QOk f n (if r.1<n then _ else _) _;split
 .rw[show max r.1 1=r.1 by omega]
  exact q_bin _ _ _ b ∅ j
 .erw[b,by rw[show n=r.1 by omega];exact j]
end
section
open PySem.W
variable{prog:Program}{w:World}{A:Around}{E:Value->Shared->Prop}{s:Shared}
def prOf(h:Heap):Value->Int×Int
 |.ref a=>match h.get? a with
  |some o=>match o.data with
   |.seq j _=>match(j[0]? : Option Value),(j[1]? : Option Value) with
    |some (.int x _),some (.int y _)=>(x,y)
    |_,_=>(0,0)
   |_=>(0,0)
  |none=>(0,0)
 |_=>(0,0)
theorem u9{x y:Int}{g ty:Tok}(Y:h.get? a=some o)(J:o.data=.seq #[.int x g,.int y ty] n):prOf h (.ref a)=(x,y):=by
 unfold prOf;simp only[Y,J];rfl
def fiV(h:Heap)(v:Value):Int:=(prOf h v).1
theorem ym{x y:Int}{g ty:Tok}(Y:h.get? a=some o)(J:o.data=.seq #[.int x g,.int y ty] n):fiV h (.ref a)=x:=by
 unfold fiV;rw[u9 Y J]
theorem prv_lo{v:Value}{b:Bool}{Q:Bool->Shared->Prop}(f:PrV s.heap u)(hv:PrV s.heap v)(L:b=true)(h:∀ c:Bool,(c=true->fiV s.heap u<=fiV s.heap v)->(c=false->fiV s.heap v<=fiV s.heap u)->Q c s):wpAny (model prog w) A (keyLt' (tuples' b) u v) Q E s:=by
 let a o n x y g ty rfl Y B J:=f;let r i j t I k l rfl d G M:=hv;subst L;rw[ym Y J,ym d M]at h;refine kat_lt Y J d M (kat_cons (wpAny_eqBool_int (kat_go (λe=>?_) λe=>kat_no (oneLt_int (h _ (λz=>Int.le_of_lt (NO z)) λz=>Int.not_lt.mp (of_decide_eq_false z))))));let T:x=t:=by simpa using e
 let C:∀ c,Q c s:=λc=>h c (λ_=>by rw[T];exact IT _) λ_=>by rw[T];exact IT _
 exact kat_yes (kat_cons (wpAny_eqBool_int (kat_go (λ_=>kat_yes (kat_nil (C _))) λ_=>kat_no (kat_one _ _ (PyProof.Rows.lt_int (show PySem.W.BoolBack Q (.bool _) s from C _))))))
theorem yk{v:Value}(p:PrV h v)(k:∀ b o,v=.ref b->h.get? b=some o->h'.get? b=some o):fiV h' v=fiV h v:=by
 let a o n x y g ty rfl Y _ J:=p;rw[ym Y J,ym (k _ _ rfl Y) J]
theorem uO{P:PySem.Fin->Shared->Prop}(t:s.heap.get? a=some (NB "list" vs.toArray n))(g:∀ v∈vs,PrV s.heap v)(al:vs.length<64)(h:∀ out:List Value,out.Perm vs->out.Pairwise (λu v=>fiV s.heap u<=fiV s.heap v)->P (.done (.ret .none)) {s with heap:=sortedHeap s.heap a vs out.toArray}):wpAny (model prog w) A (Builtin.«list.sort» ⟨[.ref a],[]⟩) P E s:=by
 let line:vs.length<=Mz:=by rw[sizeLine_eq];omega
 let D aI:∃ D,(s.heap.update a (Nc λ_=>(#[]:Array Value))).get? a=some (NB "list" #[] D):=⟨_,NC t λ_=>#[]⟩;let an:(((s.heap.update a (Nc λ_=>(#[]:Array Value))).push (NB "tuple" vs.toArray 0)).push (NB "list" #[] 0)).get? a=some (NB "list" #[] D):=MR _ (MR _ aI);let ac:∀ v∈vs,∀ b o,v=.ref b->s.heap.get? b=some o->(((s.heap.update a (Nc λ_=>(#[]:Array Value))).push (NB "tuple" vs.toArray 0)).push (NB "list" #[] 0)).get? b=some o:=λv N b o eb e=>by
  refine MR _ (MR _ ?_);let nb:b≠a:=λz=>by
   let a' o' n' x y tx ty rfl k1 l _:=g v N;lia
  rw[Heap.get?_update_ne _ _ _ _ nb];exact e
 let am:=λv N=>(g v N).keep (ac v N);let ap:=λv N=>yk (g v N) (ac v N);clear ac;rw[list_sort_plain];refine MN (listItems_at t rfl (MN (listUpdate_at t rfl (MN (seqEpoch_at aI rfl (MN (wpAny_newTuple (MN (ND (MO ?_) (Iz _))) line)))) ∅ (Iz _))))
 show wpAny (model prog w) A _ P E {s with heap:=((s.heap.update a (Nc λ_=>(#[]:Array Value))).push (NB "tuple" vs.toArray 0)).push (NB "list" #[] 0)};let fin:∀ out:List Value,sortedHeap s.heap a vs out.toArray=(((s.heap.update a (Nc λ_=>(#[]:Array Value))).push (NB "tuple" vs.toArray 0)).push (NB "list" #[] 0)).update a (Nc λ_=>out.toArray):=λ_=>rfl;generalize ((s.heap.update a (Nc λ_=>(#[]:Array Value))).push (NB "tuple" vs.toArray 0)).push (NB "list" #[] 0)=h6 at an am fin ap;dsimp only;by_cases B:vs.toArray.size<2
 .rw[NX B,NX B];refine MN (MQ ?_);rw[StateT.run_pure];refine MN (MQ (MN (seqEpoch_at an rfl ?_)));dsimp only;let eo:(arrOf (SortSt.mk' general' (vs.toArray.zip vs.toArray) #[] 7 none)).map (·.2)=vs.toArray:=by
   show(vs.toArray.zip vs.toArray).map (·.2)=vs.toArray;apply Array.ext
   .simp
   .intro i Y B;simp
  rw[eo];refine MN (listUpdate_at an rfl ?_ (Iz _) (by rw[IE];exact LP line))
  simp only[bne_self_eq_false,Jr,if_false];refine MQ ?_;rw[IE]at B;let:=h vs (List.Perm.refl _) (Jg.mpr λi j I O aS=>by omega)
  rw[fin]at this;exact this
 .rw[NY B,NY B];rw[IE]at B;let fs T f2 f3:=xU (s:={s with heap:=h6}) (M:=model prog w) am;refine MN (kat_kind T ∅ f3 ∅ ?_)
  let aT:(Value.type "int" != Value.type "tuple")=true:=by rfl
  let H:∀ i,i<vs.length->vs.getD i Value.none∈vs:=λi I=>by simp[*]
  refine MN (MG (kat_run (ks:=vs) (vs:=vs) (Q:=λab k=>k={s with heap:=h6}/\failedOf ab=none/\∃ p:Array Nat,(Pmn vs.length p/\Sin (λi=>fiV h6 (vs.getD i Value.none)) p vs.length)/\arrOf ab=p.map (kas_item (vs.toArray.zip vs.toArray))) (G:=λp k=>k={s with heap:=h6}/\Pmn vs.length p/\Sin (λi=>fiV h6 (vs.getD i Value.none)) p vs.length) rfl ∅ al (λp ab k q J a3 a4=>⟨a4.1,a3,p,a4.2,J⟩) (QOk.wp (f:=λi=>fiV h6 (vs.getD i Value.none)) (λi j C I O hC=>?_) (λp d=>⟨rfl,d⟩) (q_sort _ ∅))) ?_ λ_ _ e=>e)
  .exact prv_lo (am _ (H i I)) (am _ (H j O)) aT hC
  rintro⟨⟨⟩,ab⟩ k ⟨rfl,r,p,⟨aa,m⟩,a0⟩;dsimp only;let aW:=kat_snds (ks:=vs) (vs:=vs) rfl a0;rw[aW];let L:(p.toList.map λi=>vs.getD i Value.none).Perm vs:=by
   let z:=(Mf.mp aa).map λi=>vs.getD i Value.none
   rwa[show(IG vs.length).toArray.toList.map (λi=>vs.getD i Value.none)=vs from LQ λi=>by
    show((IG vs.length).map _)[i]?=_;rw[HN];by_cases c:i<vs.length
    .simp[*]
    .simp[*]]at z
  refine MN (seqEpoch_at an rfl (MN (listUpdate_at an rfl ?_ (Iz _) (by rw[IE,L.length_eq];exact LP line))))
  rw[r];simp only[bne_self_eq_false,Jr,if_false];refine MQ ?_
  let:=h _ L (Kz.mpr (Jg.mpr λi j I O aS=>by
   rw[IA,aa.size]at I O;let z:fiV h6 _<=fiV h6 _:=m i j (Ia aS) O;let ei:∀ i (I:i<p.toList.length),p.getD i 0=p.toList[i]:=λi I=>by
    rw[IA]at I;simp[LS,I]
   rw[ap _ (H _ (aa.lt I)),ap _ (H _ (aa.lt O)),ei,ei]at z
   exact z))
  rw[fin]at this;exact this
theorem pV{l:Addr}(hl:s.heap.IsList l vs.toArray)(M:∀ v∈vs,PrV s.heap v)(c:vs.length<64)(h:∀ out:List Value,out.Perm vs->out.Pairwise (λu v=>fiV s.heap u<=fiV s.heap v)->Q (.ref (s.heap.objs.size+1)) {s with heap:=sortedAll s.heap vs out.toArray}):wpAny (model prog w) A (call (.builtin "sorted") [.ref l]) Q E s:=by
 refine Calls.call_function_entry kind_sorted plain_sorted entry_sorted (args_sorted1 _) ?_;unfold Builtin.«sorted»;refine MN (m:=checkCount "sorted" 1 1 _) (MQ ?_);refine MN (collect_list hl ?_ (by rw[sizeLine_eq];omega))
 refine MN (ND ?_ (by rw[sizeLine_eq];omega))
 let O:((s.heap.push (NB "list" #[] 0)).update s.heap.objs.size (Nc (·++vs.toArray))).objs.size=s.heap.objs.size+1:=by simp
 let a:(((s.heap.push (NB "list" #[] 0)).update s.heap.objs.size (Nc (·++vs.toArray))).push (NB "list" vs.toArray 0)).get? (s.heap.objs.size+1)=some (NB "list" vs.toArray 0):=by rw[← O];exact MT _ rfl
 show wpAny _ _ _ _ _ {s with heap:=((s.heap.push (NB "list" #[] 0)).update s.heap.objs.size (Nc (·++vs.toArray))).push (NB "list" vs.toArray 0)};rw[O];let G:∀(b:Addr)(o:Obj),s.heap.get? b=some o->(((s.heap.push (NB "list" #[] 0)).update s.heap.objs.size (Nc (·++vs.toArray))).push (NB "list" vs.toArray 0)).get? b=some o:=λb o q=>by
  let L:b<s.heap.objs.size:=MA q;rw[Heap.get?_push_ne _ _ _ (by rw[O];exact Ig (Jv L)),Heap.get?_update_ne _ _ _ _ (Ig L),Heap.get?_push_ne _ _ _ (Ig L)]
  exact q
 refine MN (MO (Nr slot_list_sort ⟨_,a,rfl⟩ entry_list_sort (uO a (λv N=>(M v N).keep λb o _ q=>G b o q) c λout g J=>⟨_,rfl,?_⟩) (args_list_sort _)));let d:=λv N=>yk (M v N) λb o _ q=>G b o q;exact MQ ⟨_,rfl,h out g (List.Pairwise.imp_of_mem (λ{u v} f N q=>by rw[← d u (g.mem_iff.mp f),← d v (g.mem_iff.mp N)];exact q) J)⟩
end
def PAt(H:Hp)(ys:List V)(ps:List (Int×Int)):Prop:=ys.length=ps.length/\∀(i:Nat)(p:Int×Int),ps[i]?=some p->∃ t,ys[i]?=some (.ref t)/\H t=some (.tup [.int p.1,.int p.2])
theorem PAt.mono{ps:List (Int×Int)}(h:PAt H ys ps)(s:∀ b o,H b=some o->H' b=some o):PAt H' ys ps:=⟨h.1,λi p e=>by
 let t a b:=h.2 i p e
 erw[t,a,s _ _ b]⟩
theorem PAt.nil(H:Hp):PAt H [] []:=⟨rfl,λi p e=>by simp at e⟩
theorem PAt.app{ps qs:List (Int×Int)}(h:PAt H ys ps)(g:PAt H zs qs):PAt H (ys++zs) (ps++qs):=⟨by rw[HJ,HJ,h.1,g.1],λi p e=>by
 by_cases c:i<ps.length
 .rw[HH c]at e;let t a b:=h.2 i p e;erw[t,by rw[HH (by grind)];exact a,b]
 .rw[HG ∅]at e
  let t a b:=g.2 _ p e
  erw[t,by rw[HG (by let:=h.1;omega),h.1];exact a,b]⟩
theorem PAt.one{t:Addr}{p:Int×Int}(h:H t=some (.tup [.int p.1,.int p.2])):PAt H [.ref t] [p]:=⟨rfl,λi q e=>by
 match i,e with
 |0,e=>cases e;erw[t,rfl,h]⟩
theorem PAt.rev{ps:List (Int×Int)}(h:PAt H ys ps):PAt H ys.reverse ps.reverse:=⟨by rw[KP,KP,h.1],λi p e=>by
 let I:=(HB.mp e).1;rw[KP]at I;rw[Lr I]at e;let t a b:=h.2 _ p e
 erw[t,by rw[Lr (by rw[h.1];exact I),h.1];exact a,b]⟩
inductive rSortQ(K:HE)(xs:List V)(H:L2.Hp)(Q:L2.VK):Prop
 |mk (p:Addr)(ys:List V)(ps:List (Int×Int)) (h0_:xs=[.ref p])(h1_:SqL K H p ys)(h2_:PAt H ys ps)(h3_:ys.length<64)(h4_:∀(l:Addr)(out:List V)(ps':List (Int×Int)),H l=none->ps'.Perm ps->ps'.Pairwise (λa b=>a.1<=b.1)->PAt H out ps'->Q (.ref l) (upd H l (.lst out)))
theorem zJ:jB X (.builtin "sorted") (rSortQ X.K):=by
 intro B s M H m l Q I r h;let p t ps rfl C hL al q:=h;let u rfl ru:=mN r
 cases ru
 let E rv pl L:=I.list C;let g:=rv.length;let aa:∀(i:Nat)(v:Value),E[i]?=some v->∃(a:Addr)(o:Obj)(n:Nat)(tx ty:Tok)(r:Int×Int),v=.ref a/\ps[i]?=some r/\t[i]?=some (.ref a)/\H a=some (.tup [.int r.1,.int r.2])/\s.heap.get? a=some o/\o.cls=.type "tuple"/\o.data=.seq #[.int r.1 tx,.int r.2 ty] n:=λi v A=>by
  let N:i<E.length:=(HB.mp A).1;let an O:∃ r,ps[i]?=some r:=⟨_,Hz (by let:=hL.1;omega)⟩
  let a ya T:=hL.2 i an O;let v' ac rel:=rv.get ya;rw[A]at ac
  cases ac
  cases (show v=Value.ref a from rel)
  let _ ab f ob b1 b2 nb b3:=(show bu X.prog X.w H s.heap a (.tup [.int an.1,.int an.2]) from I.hok a _ T);let u1 u2 rfl{t1 rfl}{t2 rfl}:=CL f;erw[a,ob,nb,t1,t2,an,rfl,O,ya,T,b1,b2,b3]
 let am:∀ v∈E,∃ i,E[i]?=some v:=λv A=>II A;let aS:∀ v∈E,PrV s.heap v:=λv A=>by
  let i N:=am v A;let a o n tx ty r rfl O _ _ Y G J:=aa i v N;erw[a,o,n,r.1,r.2,tx,ty,rfl,Y,G,J]
 let ap:∀(i:Nat)(v:Value)(r:Int×Int),E[i]?=some v->ps[i]?=some r->prOf s.heap v=r:=λi v r A O=>by
  let a o n tx ty r' rfl k _ _ Y G J:=aa i v A;rw[O]at k
  cases k
  exact u9 Y J
 refine pV pl.isList aS ∅ λout pm up=>?_
 let aI:E.map (prOf s.heap)=ps:=by
  refine LQ λi=>?_;rw[HN];by_cases N:i<E.length
  .let r O:∃ r,ps[i]?=some r:=⟨_,Hz (by let:=hL.1;omega)⟩
   rw[O,Hz N];show some _=_;rw[ap i _ r (Hz N) O]
  .rw[Jc ∅,Jc (by let:=hL.1;omega)]
   rfl
 let d r3 l3 m3:=rW rv (out:=out) λv A=>pm.mem_iff.mp A;let e D:=sortedAll_at s.heap E out.toArray
 let LO:PAt H d (out.map (prOf s.heap)):=⟨by rw[l3,HD],λi r O=>by
  rw[HN]at O;let v A rfl:=HV.mp O;let j x:=am v (pm.mem_iff.mp (HC A));let a o n tx ty r' rfl k _ T Y G J:=aa j v x;let y c:∃ y,d[i]?=some y:=⟨_,Hz (by rw[l3];exact(HB.mp A).1)⟩
  let v' ac rel:=r3.get c;rw[A]at ac
  cases ac
  erw[a,?_,by rw[u9 Y J];exact T]
  rw[c]
  cases y with
  |ref b=>cases (show Value.ref a=Value.ref b from rel);rfl
  |int _=>obtain⟨_,z⟩:=rel;cases z
  |str _=>obtain⟨_,z⟩:=rel;cases z
  |byt _=>obtain⟨_,z⟩:=rel;cases z
  |flt _=>obtain⟨_,z⟩:=rel;cases z
  |non=>cases rel
  |bl _=>cases rel
  |ty _=>cases rel⟩
 let pr:(out.map (prOf s.heap)).Perm ps:=by
  let:=pm.map (prOf s.heap);rwa[aI]at this
 let pw:(out.map (prOf s.heap)).Pairwise (λa b=>a.1<=b.1):=Kz.mpr up;erw[.ref (s.heap.objs.size+1),_,I.laid (t':=s.toks) (λ_ _=>sortedAll_old) (Kh _) (show bu X.prog X.w _ _ _ (.lst d) from⟨?_,out,e,r3,D⟩),rfl,q _ d _ (I.hok.fresh (Kh _)) pr pw LO];let:=pm.length_eq;exact Ia (aq ∅)
end L2
namespace L2.C2
open PySem PySem.Spec PyProof.Rows
section
variable{prog:Program}{w:World}{A:Around}{E:Value->Shared->Prop}{s:Shared}{d:Addr}
theorem list_itemsT{r:Addr}{es:Array DictEntry}(p:A.handled=none)(hv:s.heap.IsItemsView r d)(y:Ent s.heap d es ep)(N:es.size<=Mz)(D:∀ h' c c',(∀ b o,s.heap.get? b=some o->h'.get? b=some o)->h'.get? s.heap.objs.size=some {cls:=.type "list",dict:=none,data:=.seq c c',slots:=#[]}->(c.size=es.size/\∀(j:Nat)(v:Value),c[j]?=some v->∃(t:Addr)(e:DictEntry),v=.ref t/\es[j]?=some e/\s.heap.objs.size<t/\h'.get? t=some {cls:=.type "tuple",data:=.seq #[e.key,e.val]})->c.toList.Nodup->Q (.ref s.heap.objs.size) {s with heap:=h'}):
  wpAny (model prog w) A (call (.type "list") [.ref r]) Q E s:=by
 let O q H z:=id hv;let B l G g:=id y;refine callType_codes (Q₁:=λn m=>n=.ref s.heap.objs.size/\m={s with heap:=s.heap.push {cls:=.type "list",data:=.seq #[]}}) PySem.F.called_list (Mp _) Mt
  (code_list_new _ ⟨rfl,rfl⟩) λn m a=>?_
 let rfl rfl:=a;let M:(s.heap.push {cls:=.type "list",data:=.seq #[]}).get? s.heap.objs.size=some {cls:=.type "list",data:=.seq #[]}:=MT _ rfl;let C:s.heap.objs.size≠r:=Ji (MA q);let k:s.heap.objs.size≠d:=Ji (MA l);erw[⟨_,M,rfl⟩,Ml _ _,?_];show wpAny _ _ (do let u ← NW (.ref s.heap.objs.size);Builtin.List.listUpdate (.ref s.heap.objs.size) (λ_=>#[]);letGo u.toList.reverse;NU (.ref s.heap.objs.size) (.ref r) .none) _ _ _
 refine MN ?_;unfold NW;refine MN (NI M rfl (MQ ?_));show wpAny _ _ (NK s.heap.objs.size (λ_=>#[]) >>= λ_=>letGo (#[]:Array Value).toList.reverse >>= λ_=>NU (.ref s.heap.objs.size) (.ref r) .none) _ _ _;refine MN (NL M rfl ?_);let h:=Nd (Nc (λ_=>(#[]:Array Value))) M rfl;let oth:∀ b o,s.heap.get? b=some o->((s.heap.push {cls:=.type "list",data:=.seq #[]}).update s.heap.objs.size (Nc (λ_=>(#[]:Array Value)))).get? b=some o :=
  λb o e=>(Nf _ _ (Ji (MA e))).trans (MR _ e)
 refine MN (NA ?_);refine zf (A:=A.in1) p ⟨O,oth _ _ q,H,z⟩ ⟨B,oth _ _ l,G,g⟩ N C k h λh' c c' f x i T=>?_
 erw[rfl,D h' c c' (λb o e=>f b o (Ig (MA e)) (oth b o e)) x ⟨i.1,λj v hv=>by
  let t e J I x3 L:=i.2 j v hv;erw[t,e,J,I,?_,L];rw[NF,size_push']at x3
  exact x3⟩ T]
end
end L2.C2
namespace L2.AT
open PySem PySem.Spec PyProof.Rows
section
variable{X:Cx}{pins:List (Addr×Obj)}{σ:St}{H H':Hp}{s:Shared}{h':Heap}
theorem Inv.many(I:Inv X pins σ H s)(k:∀ b o,s.heap.get? b=some o->h'.get? b=some o)(N:∀ b,b<s.heap.objs.size->H' b=H b)(new:∀ b u,s.heap.objs.size<=b->H' b=some u->bu X.prog X.w H' h' b u):Inv X pins σ H' {s with heap:=h',toks:=t'}:=by
 let up:∀ b u,H b=some u->H' b=some u:=λb u e=>by rw[N b (I.hok.lt e)];exact e
 refine I.un ⟨λb o e n _ _=>k b o e,λb o e n _ _=>⟨o.slots,k b o e⟩,λb o e n _=>by rw[N b (MA e)];exact n,λb o e _=>⟨o,k b o e⟩,λb j e=>up b _ e,λb o u e=>up b _ e,λb A e=>⟨#[],by rw[up b _ e];simp⟩⟩ λb u e=>?_
 by_cases z:b<s.heap.objs.size
 .rw[N b z]at e;exact(I.hok b u e).stay (λc v _ q=>k c v q) (λc q=>up c _ q) λc j q=>up c _ q
 .exact new b u (KA z) e
theorem DZ{l:List (Addr×α)}{x:α}(nd:(l.map (·.1)).Nodup)(h:(a,x)∈l):l.lookup a=some x:=by
 induction l with
 |nil=>cases h
 |cons p r Q =>
  rw[Il,HS]at nd;obtain e|h:=HQ.mp h
  .subst e;simp[Lc]
  .let ne:(a == p.1)=false:=beq_eq_false_iff_ne.mpr λz=>nd.1 (z▸Im.mpr ⟨_,h,rfl⟩)
   simp only[Lc,ne];exact Q nd.2 h
theorem Bg{l:List (Addr×α)}{x:α}(h:l.lookup a=some x):(a,x)∈l:=by
 induction l with
 |nil=>cases h
 |cons p r Q =>
  simp only[Lc]at h;split at h
  .rename_i e
   cases h
   let:=beq_iff_eq.mp e;rw[this];exact HL
  .exact HK _ (Q h)
def adr:Value->Addr
 |.ref a=>a
 |_=>0
end
end L2.AT
namespace L2
open PySem PySem.Spec PyProof.Rows AT
inductive rListT(xs:List V)(H:L2.Hp)(Q:L2.VK):Prop
 |mk (v d:Addr)(kvs:List (Key×V))(ps:List (Int×Int)) (h0_:xs=[.ref v])(h1_:H v=some (yd v d))(h2_:H d=some (.dK kvs))(h3_:kvs=ps.map (λe=>(Sum.inl e.1,V.int e.2)))(h4_:∀(l:Addr)(out:List V)(H':Hp),(∀ b u,H b=some u->H' b=some u)->H l=none->H' l=some (.lst out)->out.length=ps.length->(∀(i:Nat)(e:Int×Int),ps[i]?=some e->∃ t,out[i]?=some (.ref t)/\H' t=some (.tup [.int e.1,.int e.2]))->Q (.ref l) H')
theorem zL(E:X.calm=true):jB X (.type "list") rListT:=by
 intro B s M H n us Q I r h;let v d p ps rfl A hd ek q:=h;let u rfl ru:=mN r
 cases ru
 let vw _ _:=(show bu X.prog X.w H s.heap v (yd v d) from I.hok v _ A);let _ y ep aS aT a6:=B0 (P:=X.prog) (w:=X.w) (H:=H) (h:=s.heap) (d:=d) (u:=.dK p) True.intro (I.hok d _ hd);let hz _:=(show bu X.prog X.w H s.heap d (.dK p) from I.hok d _ hd);let aW:y.size=ps.length:=by
  rw[aT];show p.length=_;rw[ek,HD]
 let kl:p.length=ps.length:=by rw[ek,HD]
 let a7:∀(j:Nat)(e:DictEntry),y[j]?=some e->∃ x tx ty,ps[j]?=some x/\e.key=.int x.1 tx/\e.val=.int x.2 ty:=λj e D=>by
  let a b c1 c2 c3:=a6 j e D;rcases c1 with⟨ab,k,C,T,e3⟩|⟨_,_,_,C,_⟩
  .cases C;rw[ek,HN]at T;let x J e4:=HV.mp T
   cases e4
   subst e3;let tx e5:=(show ∃ t,e.key=Value.int x.1 t from c2);let ty e6:=(show ∃ t,e.val=Value.int x.2 t from c3);erw[x,tx,ty,J,e5,e6]
  .cases C
 refine C2.list_itemsT (I.ok.hd E) vw aS (by rw[aT];exact hz) λg aa c f hS ap am=>?_
 let tk:∀ w∈aa.toList,∃(j:Nat)(t:Addr)(x:Int×Int)(tx ty:Tok),aa.toList[j]?=some w/\w=.ref t/\ps[j]?=some x/\s.heap.objs.size<t/\g.get? t=some {cls:=.type "tuple",data:=.seq #[.int x.1 tx,.int x.2 ty]}:=λw hw=>by
  let j O:=II hw;let t e a1 a2 a3 a4:=ap.2 j w (by rw[← Jd];exact O)
  let x tx ty b1 b2 b3:=a7 j e a2;rw[b2,b3]at a4;erw[j,t,x,tx,ty,O,a1,b1,a3,a4]
 let al:aa.toList.length=ps.length:=by rw[IA,ap.1,aW]
 let aI:(aa.toList.map adr).map Value.ref=aa.toList:=by
  rw[Jq];refine(Jf (g:=id) λw hw=>?_).trans (List.map_id _);let _ t _ _ _ _ a2 _:=tk w hw;rw[a2];rfl
 let ba:(aa.toList.map adr).Nodup:=by
  rw[← aI]at am;exact(Kz.mp am).imp λh e=>h (by rw[e])
 let zk:((aa.toList.map adr).zip ps).map (·.1)=aa.toList.map adr:=List.map_fst_zip (by rw[HD,al];exact HF _)
 let H' an:∃ H':Hp,H'=λb=>if b=s.heap.objs.size then some (.lst ((aa.toList.map adr).map V.ref)) else match((aa.toList.map adr).zip ps).lookup b with|some e=>some (.tup [.int e.1,.int e.2])|none=>H b:=⟨_,rfl⟩
 let ac:∀ b,b<s.heap.objs.size->H' b=H b:=λb L=>by
  rw[an];show(if b=s.heap.objs.size then _ else _)=_;rw[NY (Ig L)]
  cases z:((aa.toList.map adr).zip ps).lookup b with
  |none=>rfl
  |some e =>
   let m:=Bg z;let w hw ew:=Im.mp (Lp m).1;let _ t _ _ _ _ a2 _ a4 _:=tk w hw;subst a2;let:t=b:=ew;subst this;exact NZ L (Lf (Ia a4))
 let a0:∀(i:Nat)(e:Int×Int),ps[i]?=some e->∃ t tx ty,aa.toList[i]?=some (.ref t)/\s.heap.objs.size<t/\H' t=some (.tup [.int e.1,.int e.2])/\g.get? t=some {cls:=.type "tuple",data:=.seq #[.int e.1 tx,.int e.2 ty]}:=λi e D=>by
  let N:i<aa.toList.length:=by rw[al];exact(HB.mp D).1
  let j t x tx ty a1 a2 a3 a4 a5:=tk _ (JQ N);let ej:i=j:=(List.getElem?_inj N am).mp ((Hz N).trans a1.symm);subst ej;rw[D]at a3
  cases a3
  rw[a2]at a1;erw[t,tx,ty,a1,a4,?_,a5];rw[an];show(if t=s.heap.objs.size then _ else _)=_;rw[NY (Ji a4),DZ (by rw[zk];exact ba) (x:=e) (HC (i:=i) (by rw[Mh];erw[by rw[HN,a1];rfl,D]))]
 let I2:Inv X B M H' {s with heap:=g}:=by
  refine Inv.many (t':=s.toks) I f ac λb u L hu=>?_;by_cases zb:b=s.heap.objs.size
  .subst zb;let T:H' s.heap.objs.size=some (.lst ((aa.toList.map adr).map V.ref)):=by rw[an];exact NX rfl
   rw[T]at hu
   cases hu
   erw[by rw[HD,HD,al,← kl];exact hz,aa.toList,c,?_,?_]
   .let:∀ l:List Addr,Vals (l.map V.ref) (l.map Value.ref):=λl=>by
     induction l with
     |nil=>exact .nil
     |cons a l o=>exact .cons rfl o
    let z:=this (aa.toList.map adr);rw[aI]at z;exact z
   .exact hS
  .let T:H' b=(match((aa.toList.map adr).zip ps).lookup b with|some e=>some (.tup [.int e.1,.int e.2])|none=>H b):=by rw[an];exact NY zb
   rw[T]at hu
   cases z:((aa.toList.map adr).zip ps).lookup b with
   |none =>
    rw[z]at hu;let:=I.hok.lt (show H b=some u from hu);exact NZ L (Nat.not_le_of_lt this)
   |some e =>
    rw[z]at hu
    cases hu
    let m:=Bg z;let i N:=II m;let Y G:=Mh.mp N;rw[HN]at Y;let t tx ty b1 b2 b3 b4:=a0 i e G;rw[b1]at Y
    cases Y
    erw[(by decide:(2:Nat)<=Mz),[.int e.1 tx,.int e.2 ty],.cons ⟨tx,rfl⟩ (.cons ⟨ty,rfl⟩ .nil),_,b4,rfl,_,rfl]
 erw[.ref s.heap.objs.size,H',I2,rfl,q s.heap.objs.size _ H' (λb u e=>by rw[ac b (I.hok.lt e)];exact e) (I.hok.fresh (HF _)) (by rw[an];exact NX rfl) (by rw[HD,HD,al]) λi e D=>?_]
 let t _ _ b1 _ b2 _:=a0 i e D;erw[t,by rw[HN,HN,b1];rfl,b2]
end L2
namespace L2
open PySem PySem.Spec PyProof.Rows
theorem xE.g{O:TE}{J:It}(h:xE O σ J H1 QQ):ik (tP 0) tYes O 1 σ J H1 QQ:=by
 let W f st:=h;erw[W,f,λi m Y H w=>?_];let l h:=st i m Y H w;erw[l,h.imp id λ⟨go,N,q,h⟩=>⟨go,λj u=>∃ y,j=Y++[y]/\N y u,λj u ⟨y,e,n⟩=>e▸q y u n,λx G a=>⟨rfl,yesT ?_⟩⟩]
 let e:(λy E=>∃ I,Y++[y]=Y++[I]/\N I E)=N:=funext λy=>funext λE=>propext ⟨λ⟨I,e,n⟩=>by
  let:y=I:=by simpa using e
  rw[this];exact n,λn=>⟨y,rfl,n⟩⟩
 rw[e];exact h x G a
theorem bz{O:TE}(Pv:Nat->List V->Hp->Prop)(hz:xs.length<=Mz)(o:Pv 0 [] H1)(hl:∀ i ys H,i<=xs.length->Pv i ys H->SqL K H a xs)(hs:∀ i x ys H,xs[i]?=some x->Pv i ys H->O (some x::σ) H λy H2=>Pv (i+1) (ys++[y]) H2)(hd:∀ ys H,ys.length=xs.length->Pv xs.length ys H->QQ ys H):ik (tP 0) tYes O 1 σ (Itl K a) H1 QQ:=(Cq Pv hz o hl hs hd).g
theorem cg{lo:Int}{O:TE}(Pv:Nat->List V->Hp->Prop)(hz:n<=Mz)(o:Pv 0 [] H1)(hs:∀ i ys H,i<n->Pv i ys H->O (some (.int (lo+i))::σ) H λy H2=>Pv (i+1) (ys++[y]) H2)(hd:∀ ys H,ys.length=n->Pv n ys H->QQ ys H):ik (tP 0) tYes O 1 σ (Itr lo n) H1 QQ:=(zF Pv hz o hs hd).g
section
variable{X:Cx}{scope:Scope}{fr:List (Str×Nat)}{xs:List Str}{elt iter tg:Expr}{ifs:List Expr}{pos:Pos}{tt:TT}{tgt:TG}{wi:TI}{te:TE}
end
section
variable{prog:Program}{w:World}{A:Around}{E:Value->Shared->Prop}{s:Shared}
theorem Bi{Pv:Nat->Value->Prop}{Sq:Nat->Heap->Prop}{T:String}(W:Walks prog w A.in1.in1 I fp [I] n Pv Sq)(N:n<=Mz)(st:Sq 0 s.heap)(z:I∈fp)(ab:∀ b∈fp,b<s.heap.objs.size)(u:∀ h,Sq 0 h->∃ o,h.get? I=some o/\o.cls=.type T)(j:(Value.type T == Value.type "list")=false)(t2:(Value.type T == Value.type "tuple")=false)(hint:∀(h:Heap)(v:Bool->Shared->Prop)(J:Value->Shared->Prop),Sq 0 h->(∀ tk,v false {s with heap:=h,toks:=tk})->wpAny (model prog w) A.in1.in1 (Nk (.ref I)) v J {s with heap:=h})(D:∀ h' tk c c',(∀ b o,b≠I->s.heap.get? b=some o->h'.get? b=some o)->h'.get? s.heap.objs.size=some {cls:=.type "list",dict:=none,data:=.seq c c',slots:=#[]}->ItemsOf Pv c n->Q (.ref s.heap.objs.size) {s with heap:=h',toks:=tk}):
  wpAny (model prog w) A (call (.type "list") [.ref I]) Q E s:=by
 refine callType_codes (Q₁:=λt m=>t=.ref s.heap.objs.size/\m={s with heap:=s.heap.push {cls:=.type "list",data:=.seq #[]}}) PySem.F.called_list (Mp _) Mt
  (code_list_new _ ⟨rfl,rfl⟩) λt m a=>?_
 let rfl rfl:=a;let M:(s.heap.push {cls:=.type "list",data:=.seq #[]}).get? s.heap.objs.size=some {cls:=.type "list",data:=.seq #[]}:=MT _ rfl;let p:s.heap.objs.size∉fp:=λy=>JI _ (ab _ y);erw[⟨_,M,rfl⟩,Ml _ _,?_];show wpAny _ _ (NW (.ref s.heap.objs.size) >>= λd=>Builtin.List.listUpdate (.ref s.heap.objs.size) (λ_=>#[]) >>= λ_=>letGo d.toList.reverse >>= λ_=>NU (.ref s.heap.objs.size) (.ref I) .none) _ _ _;refine MN ?_;unfold NW;refine MN (NI M rfl (MQ ?_));show wpAny _ _ (NK s.heap.objs.size (λ_=>#[]) >>= λ_=>letGo (#[]:Array Value).toList.reverse >>= λ_=>NU (.ref s.heap.objs.size) (.ref I) .none) _ _ _;refine MN (NL M rfl ?_);let H:=Nd (Nc (λ_=>(#[]:Array Value))) M rfl;let oth:∀ b o,s.heap.get? b=some o->((s.heap.push {cls:=.type "list",data:=.seq #[]}).update s.heap.objs.size (Nc (λ_=>(#[]:Array Value)))).get? b=some o:=λb o e=>(Nf _ _ (Ji (MA e))).trans (MR _ e);refine MN (NA ?_);generalize ((s.heap.push {cls:=.type "list",data:=.seq #[]}).update s.heap.objs.size (Nc (λ_=>(#[]:Array Value))))=B at H oth;let g:=W.frame 0 s.heap B st λb _ o e=>oth b o e;let C:∀(h:Heap)(c1 tk:Nat),(∀ b o,s.heap.get? b=some o->h.get? b=some o)->h.get? s.heap.objs.size=some {cls:=.type "list",data:=.seq #[] c1}->M5 (model prog w) A.in1 (.builtin "list.extend.loop" ⟨[.ref s.heap.objs.size,.ref I,.none],[]⟩) (wants (λr G=>r=Value.none/\Q (.ref s.heap.objs.size) G) E) {s with heap:=h,toks:=tk}:=by
  intro h c1 tk f O;refine codeAny_extend_loopS W.toS N s.heap.objs.size p .none n 0 _ #[] c1 rfl (Iz _) (W.frame 0 s.heap h st λb _ o e=>f b o e) O (ItemsOf.nil _) λk c c' y x l=>?_;rw[Moved.eq_with y];erw[rfl,D k.heap k.toks c c' (λb o L e=>y.heap b o (λi=>?_) (f b o e)) x l];obtain q|i:=HQ.mp i
  .exact Ig (MA e) q
  .exact L (Ih.mp i)
 unfold NU;refine MN (wpAny_typeOf (T:=T) (u _ g) ?_);let Y:NV (.ref s.heap.objs.size) (.ref I)=false:=by
  let:s.heap.objs.size≠I:=λe=>p (e▸z);simp[NV,this]
 simp only[Y,j,t2,Mx,Jr,if_false];refine MN (W.self 0 _ _ _ g (MN (MO (hint _ _ _ g λtk=>?_))));refine Nl (λ_=>?_) (λ_=>MQ ⟨NM JD _,C _ _ _ oth H⟩);refine MN (wpAny_rule (MN ?_));show wpAny _ _ (NK s.heap.objs.size (·.push .none) >>= λ_=>NK s.heap.objs.size (·.pop)) _ _ _;refine MN (NL H rfl ?_);let aa:=Nd (Nc (·.push Value.none)) H rfl;refine NL (hz:=by seq_fits) aa rfl ?_
 let ac:=Nd (Nc (·.pop)) aa rfl;exact MQ ⟨NM JD _,C _ _ _ (λb o e=>(Nf _ _ (Ji (MA e))).trans ((Nf _ _ (Ji (MA e))).trans (oth b o e))) ac⟩
end
theorem FL{p:Array Value}(rv:Vals ys its)(h:ItemsOf (λi v=>its.toArray[its.toArray.size-1-i]?=some v) p its.toArray.size):Vals ys.reverse p.toList:=by
 let e:p.toList=its.reverse:=by
  apply LQ;intro i;by_cases I:i<its.length
  .let l:i<p.size:=by rw[h.1];simpa using I
   let q:=h.2 i p[i] (JG l);rw[Jd,JG l,Lr I,← q];simp
  .rw[Jc (by rw[IA,h.1];simpa using I),Jc (by simp_all)]
 rw[e];exact rv.reverse
theorem sP{e:Expr}{te:TE}{p p2 ac:Pos}(g:X.calm=true)(m:Gl X "list")(y:X.mg "list"=none)(am:Gl X "reversed")(al:X.mg "reversed"=none)(D:PE X e te)(Y:MF [.Call (.Name "reversed" p2) [e] [] ac] X.env=[(false,eval (.Call (.Name "reversed" p2) [e] [] ac) X.env)]:=by rfl)(h2:MF [e] X.env=(false,eval e X.env)::MF [] X.env:=by rfl):
  PE X (.Call (.Name "list" p) [.Call (.Name "reversed" p2) [e] [] ac] [] pos) (λσ H Q=>te σ H λx H1=>∃ l ys,x=.ref l/\SqL X.K H1 l ys/\∀ q,H1 q=none->Q (.ref q) (upd H1 q (.lst ys.reverse))):=by
 intro B s σ H Q I h;refine Na (kQ I m y ib ?_);refine MU ?_ Y rfl;rw[Y];refine M8 ?_;refine Na (kQ I am al xo ?_);refine MU ?_ h2 rfl;rw[h2];refine M8 (thn (D B s σ H _ I h) λu J ⟨x,H1,j,w,G⟩=>?_);let l ys rfl d q:=G
 cases w
 refine M7 ?_;let E rv pl t:=j.list d;let N:E.toArray.size=ys.length:=by rw[IE,rv.length]
 refine call_reversed_list pl.isList ?_;refine M7 ?_;let i:l<J.heap.objs.size:=by
  let o n C _:=pl;exact MA C
 let v:Inv X B σ H1 {J with heap:=J.heap.push (revObj l ((E.toArray.size:Int)-1))}:=j.kept (t':=J.toks) λb o e=>MR _ e;let ab:(J.heap.push (revObj l ((E.toArray.size:Int)-1))).IsRevIter J.heap.objs.size l ((E.toArray.size:Int)-1):=⟨_,MT _ rfl,rfl,rfl⟩;refine Bi (T:="list_reverseiterator") (Walks.listRev (A:=X.A.in1.in1) (I.ok.hd g) J.heap.objs.size l (Ig i) E.toArray) (by rw[N];exact t) ⟨Iz _,by simpa using ab,pl.isList.push _⟩ (by simp) (λb L=>?fp) (λh z=>let ⟨o,O,g,_⟩:=z.2.1;⟨o,O,g⟩) ∅ ∅ (λh Q' E' z k=>D9 z.2.1.typeIs (k J.toks)) λr tk c a f M aa=>?_
 case fp =>
  rw[M6];obtain e|e:=HQ.mp L
  .rw[e];exact JP _
  .rw[Ih.mp e];exact Jv i
 let f0 f1 f2 f3 f4 f5:=j.fpOk (H':=H1) (HF _) (j.hok.fresh (HF _));let I3:Inv X B σ H1 {J with heap:=r,toks:=tk}:=v.turned (t':=tk) (λb o L e=>f b o L e) f0 f1 f3 f4 f5;let fS:=v.fpOk (H':=H1) (HF _) (v.hok.fresh (HF _));let I4:=I3.track (o:=.lst ys.reverse) fS ⟨by rw[KP];exact t,c.toList,a,FL rv aa,by rw[Array.toArray_toList];exact M⟩
 erw[.ref _,_,I4,rfl,q _ fS.1]
section
variable{X:Cx}{k n:Nat}{f:Addr}{fd:FuncData}{ps:List Str}{sp:Sp}{x:Str}{p pos:Pos}{e:Expr}{es:List Expr}{t:TA}
theorem Cal.c(G:Cal X.prog X.w X.K X.mg X.base k x ps sp f fd)(O:Room n X.A)(E:PA X (e::es) t)(j:Gl X x:=by rfl)(hl:k<=n:=by first|decide|omega)(b:(x == ("__debug__" : Str))=false:=by decide)(D:MF (e::es) X.env=(false,eval e X.env)::MF es X.env:=by rfl)(a:(backTo pos (MF es X.env)).any (·.1)=false:=by rfl):PE X (.Call (.Name x p) (e::es) [] pos) (CV sp [] E0 t) :=
 Gk G.ok (O.mono hl) j G.mg G.kp G.bn .nil nX E b D a
theorem Cal.d(G:Cal X.prog X.w X.K X.mg X.base k x ps sp f fd)(O:Room n X.A)(j:Gl X x:=by rfl)(hl:k<=n:=by first|decide|omega)(b:(x == ("__debug__" : Str))=false:=by decide):PE X (.Call (.Name x p) [] [] pos) (CV sp [] E0 tNil) :=
 Dr G.ok (O.mono hl) j G.mg G.kp G.bn .nil nX b
end
section
variable{X:Cx}{a b:Expr}{ta tb:TE}{pos:Pos}
theorem aV(E:PE X a ta)(L:PE X b tb)(hs:oO b:=by exact λ_ _=>rfl):PE X (.Subscript a b pos) (tOp (rIxL X.K) ta tb):=Dm Br E L hs
theorem aZ(E:PE X a ta)(L:PE X b tb)(hs:oO b:=by exact λ_ _=>rfl):PE X (.Subscript a b pos) (tOp (rIxT X.K) ta tb):=Dm Fj E L hs
theorem qC(K:HE)(E:PE X a ta)(L:PE X b tb)(hs:oO b:=by exact λ_ _=>rfl)(h:X.K=K:=by rfl):PE X (.Subscript a b pos) (tOp (rIxL K) ta tb):=Dm (D4 h) E L hs
theorem l7(K:HE)(E:PE X a ta)(L:PE X b tb)(hs:oO b:=by exact λ_ _=>rfl)(h:X.K=K:=by rfl):PE X (.Subscript a b pos) (tOp (rIxT K) ta tb):=Dm (GZ h) E L hs
theorem aA(i:Nat){e:Expr}{O:TE}{a:Pos}(q:X.N.Nodup)(D:PE X e O)(hi:X.N[i]?=some x:=by rfl)(J:Loc X.env.scope x:=by first|exact .inl rfl|exact .inr rfl)(hs:swapsWith e (some (.Name x a)) pos.line X.env=pure false:=by rfl)(r:X.fn x=true∨X.env.scope.names.lookup x=some .local:=by first|exact .inl rfl|exact .inr rfl|assumption):
  PS X (.Assign [.Name x a] e pos) (tAsg O (tP i)):=ps_set q hi J D hs r
theorem bO(i:Nat)(q:X.N.Nodup)(hi:X.N[i]?=some x:=by rfl)(J:Loc X.env.scope x:=by first|exact .inl rfl|exact .inr rfl)(r:X.fn x=true∨X.env.scope.names.lookup x=some .local:=by first|exact .inl rfl|exact .inr rfl|assumption):PG X (.Name x pos) (tP i):=bp q hi J r
end
def AllL{α:Type}(Q:α->Prop):List α->Prop
 |[]=>True
 |x::r=>Q x/\AllL Q r
theorem AllL.mem{α:Type}{Q:α->Prop}:∀{l:List α},AllL Q l->∀ x∈l,Q x
 |_::_,h,_,.head _=>h.1
 |_::_,h,_,.tail _ m=>AllL.mem h.2 _ m
section
variable{X:Cx}{scope:Scope}{elt iter tg:Expr}{ifs:List Expr}{pos:Pos}{tt:TT}{tgt:TG}{wi:TI}{te:TE}
theorem mU.au{xs:List Str}(clos:closureFor scope X.env=pure (clOf X.env fr):=by rfl)(cell:∀ y∈scope.names,y.2≠.cell:=by decide)(kind:scope.kind=.function:=by rfl)(names:∀ y∈scope.names,y.2=.local->scope.names.lookup y.1=some .local:=by decide)(slot:AllL (λp=>X.N[p.2]?=some p.1/\X.env.kindOf p.1=some .cell) fr:=by repeat (first|exact True.intro|erw[⟨rfl,rfl⟩,?_]))(g:∀ z∈scope.names,z.2=.free->z.1∈fr.map (·.1):=by decide)(frk:AllL (λp=>(relabel scope X.env).names.lookup p.1=some .cell) fr:=by repeat (first|exact True.intro|erw[rfl,?_])):mU X scope fr xs :=
 .of clos cell kind names slot.mem g frk.mem
theorem d8(fr:List (Str×Nat))(xs:List Str)(hi:PI X tg iter wi)(a:∀ C ex s H,PG (cxG X scope fr xs C ex s H) tg tgt)(i:∀ C ex s H,PTs (cxG X scope fr xs C ex s H) ifs tt)(D:∀ C ex s H,PE (cxG X scope fr xs C ex s H) elt te)(g:X.calm=true:=by rfl)(O:mU X scope fr xs:=by exact .au)(hs:∀ x,MV iter X.env x=pure x:=by intro _;rfl):PE X (.ListComp elt [⟨tg,iter,ifs,0⟩] scope pos) (EU wi tgt tt te xs.length fr) :=
 Dq g O hi a i D hs
theorem nU(i:Nat)(fr:List (Str×Nat))(xs:List Str){y:Str}{c b:Pos}(q:X.N.Nodup)(hi:PI X tg iter wi)(a:∀ C ex s H,PG (cxG X scope fr xs C ex s H) tg tgt)(L:∀ C ex s H,PTs (cxG X scope fr xs C ex s H) ifs tt)(D:∀ C ex s H,PE (cxG X scope fr xs C ex s H) elt te)(g:X.calm=true:=by rfl)(M:X.N[i]?=some y:=by rfl)(Q:X.env.scope.names.lookup y=some .local:=by rfl)(O:mU X scope fr xs:=by exact .au)(d:swapsWith (.ListComp elt [⟨tg,iter,ifs,0⟩] scope pos) (some (.Name y c)) b.line X.env=pure true:=by rfl)(hs:∀ x,MV iter X.env x=pure x:=by intro _;rfl):
  PS X (.Assign [.Name y c] (.ListComp elt [⟨tg,iter,ifs,0⟩] scope pos) b) (r8 i wi tgt tt te xs.length fr) :=
 u6 g q M Q O hi a L D d hs
theorem pg_c{xs:List Str}(q:(xs++fr.map (·.1)).Nodup:=by decide)(o:(xs++fr.map (·.1))[0]?=some x:=by rfl)(J:∀ C ex s H,Loc (cxG X scope fr xs C ex s H).env.scope x:=by exact λ_ _ _ _=>.inl rfl)(r:∀ C ex s H,(cxG X scope fr xs C ex s H).fn x=true∨(cxG X scope fr xs C ex s H).env.scope.names.lookup x=some .local:=by exact λ_ _ _ _=>.inr rfl):
  ∀ C ex s H,PG (cxG X scope fr xs C ex s H) (.Name x pos) (tP 0):=λC ex s H=>bp (X:=cxG X scope fr xs C ex s H) q o (J C ex s H) (r C ex s H)
theorem pt_c{xs:List Str}:∀ C ex s H,PTs (cxG X scope fr xs C ex s H) [] tYes:=λ_ _ _ _=>Gb
end
end L2
theorem U.{u}{α:Sort u}{a:α}:a=a:=rfl
open Option renaming some->Z
local macro_rules | `(#[$xs,*]) => `(⟨$xs,*⟩)
namespace K2
def S:List Nat->Nat
 |[]=>0
 |p::r=>2^p+S r
theorem Hx{p:Nat}(h:n.testBit p=false)(i:Nat):(n+2^p).testBit i=(n.testBit i||decide (i=p)):=by
 let e:n+2^p=n|||2^p:=by
  let L:n&&&2^p=0:=by
   apply IB;intro j;rw[Kg,Ic,Jt];by_cases O:p=j
   .subst O;simp[h]
   .simp[O]
  let q:∀ m k:Nat,(m|||k)+(m&&&k)=m+k:=by
   intro m;induction m using L9 with
   |ind m Q =>
    intro n;by_cases o:m=0
    .simp[*]
    .let a:=Q (m/2) ∅ (n/2)
     rw[← Nat.or_div_two,← Nat.and_div_two]at a;let d:=@Nat.or_mod_two_eq_one m n;let g:=@Nat.and_mod_two_eq_one m n;omega
  let:=q n (2^p);rw[L]at this;omega
 rw[e,I9,Ic];congr 1;exact decide_eq_decide.mpr #[λh=>h.symm,λh=>h.symm]
theorem S_bit:∀{D:List Nat},D.Nodup->∀ i,(S D).testBit i=decide (i∈D)
 |[],_,i=>by simp[S]
 |p::r,G,i=>by
  let ⟨Y,B⟩:=HS.mp G;let M:(S r).testBit p=false:=by rw[S_bit B];exact My Y
  let e:S (p::r)=S r+2^p:=LV _ _;rw[e,Hx M,S_bit B];grind
def bitsF(k n:Nat):List Nat:=if h:n=0 then[] else(if n%2=1 then[k] else[])++bitsF (k+1) (n/2)
termination_by n
decreasing_by omega
theorem bitsF_zero(k:Nat):bitsF k 0=[]:=by rw[bitsF];simp
theorem bitsF_odd{k:Nat}(h:n%2=1):bitsF k n=k::bitsF (k+1) (n/2):=by
 rw[bitsF,dif_neg ∅,NX h];rfl
theorem bitsF_even{k:Nat}(o:n≠0)(h:¬ n%2=1):bitsF k n=bitsF (k+1) (n/2):=by
 rw[bitsF,dif_neg o,NY h];rfl
theorem rR:∀(f n k:Nat),n<=f->∀ p∈bitsF k n,k<=p
 |0,n,k,h=>by
  let z:n=0:=by omega
  subst z;rw[bitsF_zero];simp
 |f+1,n,k,h=>by
  intro p M;by_cases z:n=0
  .subst z;rw[bitsF_zero]at M;cases M
  .by_cases o:n%2=1
   .rw[bitsF_odd o]at M;obtain e|M:=HQ.mp M
    .omega
    .let:=rR f (n/2) (k+1) ∅ p M;omega
   .rw[bitsF_even z o]at M;let:=rR f (n/2) (k+1) ∅ p M;omega
theorem bitsF_sorted:∀(f n k:Nat),n<=f->(bitsF k n).Pairwise (· < ·)
 |0,n,k,h=>by
  let z:n=0:=by omega
  subst z;rw[bitsF_zero];simp
 |f+1,n,k,h=>by
  by_cases z:n=0
  .subst z;rw[bitsF_zero];simp
  .by_cases o:n%2=1
   .rw[bitsF_odd o];exact List.Pairwise.cons (λp M=>rR f (n/2) (k+1) ∅ p M) (bitsF_sorted f (n/2) (k+1) ∅)
   .rw[bitsF_even z o];exact bitsF_sorted f (n/2) (k+1) ∅
theorem bitsF_sum:∀(f n k:Nat),n<=f->S (bitsF k n)=n*2^k
 |0,n,k,h=>by
  let z:n=0:=by omega
  subst z;rw[bitsF_zero];simp[S]
 |f+1,n,k,h=>by
  by_cases z:n=0
  .subst z;rw[bitsF_zero];simp[S]
  .let Q:=bitsF_sum f (n/2) (k+1) ∅
   let e:n/2*2^(k+1)=(2*(n/2))*2^k:=by rw[Nat.pow_succ,Nat.mul_comm (2^k) 2,← Nat.mul_assoc,Nat.mul_comm (n/2) 2]
   by_cases o:n%2=1
   .rw[bitsF_odd o];show 2^k+S (bitsF (k+1) (n/2))=_;rw[Q,e];let:n=2*(n/2)+1:=by omega
    let T:n*2^k=(2*(n/2)+1)*2^k:=by rw[← this]
    rw[T,Nat.add_mul,Nat.one_mul];omega
   .rw[bitsF_even z o,Q,e];let:n=2*(n/2):=by omega
    let T:n*2^k=(2*(n/2))*2^k:=by rw[← this]
    rw[T]
theorem bitsF_lt:∀(m n k:Nat),n<2^m->∀ p∈bitsF k n,p<k+m
 |0,n,k,h=>by
  let z:n=0:=by omega
  subst z;rw[bitsF_zero];intro p M;cases M
 |m+1,n,k,h=>by
  intro p M;let B:n/2<2^m:=by rw[Nat.pow_succ]at h;omega
  by_cases z:n=0
  .subst z;rw[bitsF_zero]at M;cases M
  .by_cases o:n%2=1
   .rw[bitsF_odd o]at M;obtain e|M:=HQ.mp M
    .omega
    .let:=bitsF_lt m (n/2) (k+1) B p M;omega
   .rw[bitsF_even z o]at M;let:=bitsF_lt m (n/2) (k+1) B p M;omega
theorem bitsF_len:∀(m n k:Nat),n<2^m->(bitsF k n).length<=m
 |0,n,k,h=>by
  let z:n=0:=by omega
  subst z;rw[bitsF_zero];exact HF _
 |m+1,n,k,h=>by
  let B:n/2<2^m:=by rw[Nat.pow_succ]at h;omega
  by_cases z:n=0
  .subst z;rw[bitsF_zero];exact Iz _
  .by_cases o:n%2=1
   .rw[bitsF_odd o];let:=bitsF_len m (n/2) (k+1) B;simp[*]
   .rw[bitsF_even z o];let:=bitsF_len m (n/2) (k+1) B;omega
theorem nodup_of_lt(h:l.Pairwise (· < ·)):l.Nodup:=h.imp λh=>Ig h
end K2
namespace KF
open PySem L2
def top(i:Nat):Stmt:=PySem.Challenge.pw_spinfloor_k38_whole_what_a_paper_leaves.main.body.getD i (.Pass #[0,0,0,0])
abbrev kG:Stmt:=top 16
abbrev m7:Stmt:=top 18
abbrev i8:Stmt:=top 19
abbrev iy:Stmt:=top 20
abbrev mX:Stmt:=top 21
abbrev qk:Stmt:=top 22
abbrev xP:Stmt:=top 11
abbrev xN:Stmt:=top 12
abbrev Df:Stmt:=top 13
abbrev kH:Stmt:=top 14
abbrev du:Stmt:=top 25
abbrev gC:Stmt:=top 26
abbrev bN:Stmt:=top 27
abbrev gB:Stmt:=top 28
abbrev mY:Stmt:=top 29
abbrev kE:Stmt:=top 30
abbrev kJ:Stmt:=top 31
abbrev kK:Stmt:=top 41
abbrev mZ:Stmt:=top 42
abbrev qq:Stmt:=top 43
abbrev gA:Stmt:=top 33
abbrev Lk:=Nat×Nat×Int
def bey(l:Lk)(r:Nat):Nat:=if r=l.1 then l.2.1 else l.1
def mQ(l:Lk)(r:Nat):Prop:=r=l.1∨r=l.2.1
theorem rS{l:Lk}{r:Nat}(h:mQ l r):mQ l (bey l r):=by
 unfold bey;split
 .exact .inr U
 .exact .inl U
theorem oK{l:Lk}{r:Nat}(h:mQ l r):bey l (bey l r)=r:=by
 unfold bey;by_cases c:r=l.1
 .simp_all
 .rw[NY c,NX U];obtain h|h:=h
  .contradiction
  .exact h.symm
theorem bey_lt{l:Lk}{r:Nat}(Y:l.1<n)(h2:l.2.1<n):bey l r<n:=by
 unfold bey;split<;>assumption
inductive Up(ls:List Lk)(vv:List (Option Nat))(s:Nat):Nat->Nat->Prop where
 |root:Up ls vv s 0 s
 |step {j r k:Nat} {l:Lk} (hv:vv[r]?=Z (Z k)) (hl:ls[k]?=Z l) (h:Up ls vv s j (bey l r)):Up ls vv s (j+1) r
theorem Up.uniq{ls:List Lk}{d:List (Option Nat)}{s:Nat}(o:d[s]?=Z none):∀{j i r:Nat},Up ls d s j r->Up ls d s i r->j=i
 |_,_,_,.root,.root=>rfl
 |_,_,_,.root,.step A _ _=>by simp_all
 |_,_,_,.step A _ _,.root=>by simp_all
 |_,_,_,.step A G h,.step b q J=>by
  rw[A]at b;cases b;rw[G]at q;cases q;rw[Up.uniq o h J]
theorem Up.lt{ls:List Lk}{s r:Nat}(o:O[s]?=Z none)(h:Up ls O s j r):r<O.length:=by
 cases h with
 |root=>exact(HB.mp o).1
 |step A _ _=>exact(HB.mp A).1
theorem Up.chain{ls:List Lk}{d:List (Option Nat)}{s:Nat}(o:d[s]?=Z none):∀{j r:Nat},Up ls d s j r->∃ c:List Nat,c.length=j+1/\c.Nodup/\∀ x∈c,x<d.length/\∃ i,i<=j/\Up ls d s i x
 |_,_,.root=>#[[s],U,HS.mpr #[(by simp),JF],λx J=>by rw[Ih.mp J];exact#[Up.lt (ls:=ls) o .root,0,HF _,.root]]
 |j+1,r,.step A G h=>by
  let c v b g:=Up.chain o h;let e:Up ls d s (j+1) r:=.step A G h;refine#[r::c,by simp[*],HS.mpr #[λO=>?_,b],λx J=>?_]
  .let _ i I f:=g r O;let:=Up.uniq o e f;omega
  .obtain rfl|J:=HQ.mp J
   .exact#[Up.lt o e,j+1,HF _,e]
   .let a i I f:=g x J;exact#[a,i,∅,f]
theorem kM:∀(n:Nat)(c:List Nat),c.Nodup->(∀ x∈c,x<n)->c.length<=n
 |0,c,_,h=>by
  cases c with
  |nil=>exact HF _
  |cons x r=>exact NZ (h x (HL ..)) (IX _)
 |n+1,c,G,h=>by
  let Y:=kM n (c.erase n) (G.erase _) λx J=>by
   let y:=Lq J;let:=h x y;grind
  grind
theorem Up.short{ls:List Lk}{s r:Nat}(o:O[s]?=Z none)(h:Up ls O s j r):j+1<=O.length:=by
 let c v G g:=Up.chain o h;rw[← v];exact kM _ c G λx J=>(g x J).1
def cOf(o:Option Int):Nat:=if o.isSome then 1 else 0
def cnt(T:List (Option Int)):Nat:=(T.map cOf).sum
def vOf(B:Nat)(o:Option Int):Nat:=match o with|none=>B|some x=>x.toNat
def wgt(B:Nat)(T:List (Option Int)):Nat:=(T.map (vOf B)).sum
theorem pO{α:Type}(f:α->Nat):∀(l:List α)(i:Nat)(x y:α),l[i]?=Z x->((l.set i y).map f).sum+f x=(l.map f).sum+f y
 |a::l,0,x,y,e=>by
  cases e
  grind
 |a::l,i+1,x,y,e=>by
  let:=pO f l i x y e;grind
 |[],i,x,y,e=>by contradiction
theorem Ft:∀(T:List (Option Int)){i:Nat},T[i]?=Z none->cnt T+1<=T.length
 |[],i,e=>by contradiction
 |a::T,0,e=>by
  cases e
  let:∀ T:List (Option Int),cnt T<=T.length:=λT=>by
   induction T with
   |nil=>exact HF _
   |cons b T Q =>
    let C:cnt (b::T)=cOf b+cnt T:=by rfl
    let D:cOf b<=1:=by unfold cOf;grind
    grind
  let C:cnt (none::T)=cOf none+cnt T:=by rfl
  let D:cOf none=0:=rfl;simp[*]
 |a::T,i+1,e=>by
  let Q:=Ft T (i:=i) e;let C:cnt (a::T)=cOf a+cnt T:=by rfl
  let D:cOf a<=1:=by unfold cOf;split<;>omega
  grind
structure FI(n:Nat)(ls:List Lk)(s:Nat)(M:Nat)(T:List (Option Int))(vv:List (Option Nat))(W:List Nat)(ex:Nat->Nat->Prop):Prop where
 w0:∀ l∈ls,0<=l.2.2/\l.2.2<=(M:Int)
 tl:T.length=n
 vl:vv.length=n
 st:T[s]?=Z (Z 0)
 vs:vv[s]?=Z none
 nn:∀(r:Nat)(x:Int),T[r]?=Z (Z x)->0<=x
 bd:∀(r:Nat)(x:Int),T[r]?=Z (Z x)->x+(M:Int)<=(cnt T:Int)*(M:Int)
 pr:∀(r k:Nat),vv[r]?=Z (Z k)->∃(l:Lk)(x y:Int),ls[k]?=Z l/\mQ l r/\T[r]?=Z (Z x)/\T[bey l r]?=Z (Z y)/\y+l.2.2<=x
 up:∀(r:Nat)(x:Int),T[r]?=Z (Z x)->∃ j,Up ls vv s j r
 rl:∀(r:Nat)(x:Int)(i:Nat)(l:Lk),T[r]?=Z (Z x)->r∉W->ls[i]?=Z l->mQ l r->ex r i∨∃ y:Int,T[bey l r]?=Z (Z y)/\y<=x+l.2.2
 wk:∀ r∈W,∃ x:Int,T[r]?=Z (Z x)
theorem xJ{l:List α}{x:α}(hi:i<l.length):(l.set i x)[j]?=if i=j then Z x else l[j]?:=by
 rw[IQ];simp[*]
theorem FI.mend{ls:List Lk}{s:Nat}{W':List Nat}(I:FI n ls s M T O W ex){k:Nat}{l:Lk}{x:Int}{o:Option Int}(hl:ls[k]?=Z l)(w:mQ l m)(J:T[m]?=Z (Z x))(t:T[bey l m]?=Z o)(L:∀ y,o=Z y->x+l.2.2<y)(hW:∀ r,r∈W'↔r∈W∨r=bey l m)(ac:∀ r i,ex r i->ex' r i∨(r=m/\i=k)):
  FI n ls s M (T.set (bey l m) (Z (x+l.2.2))) (O.set (bey l m) (Z k)) W' ex':=by
 let p hM:=I.w0 l (HC hl);let tt:bey l m<T.length:=(HB.mp t).1;let tl:=I.tl;let vl:=I.vl;let x0:=I.nn m x J;let v:bey l m≠s:=λe=>by
  rw[e,I.st]at t;grind
 let nm:bey l m≠m:=λe=>by
  rw[e,J]at t
  cases t
  let:=L x U;omega
 let gT:∀ r:Nat,(T.set (bey l m) (Z (x+l.2.2)))[r]?=if bey l m=r then Z (Z (x+l.2.2)) else T[r]?:=λr=>xJ tt;let gV:∀ r:Nat,(O.set (bey l m) (Z k))[r]?=if bey l m=r then Z (Z k) else O[r]?:=λr=>xJ ∅
 let ab:∀(r:Nat)(y:Int),T[r]?=Z (Z y)->∃ z:Int,(T.set (bey l m) (Z (x+l.2.2)))[r]?=Z (Z z)/\z<=y:=λr y e=>by
  rw[gT];by_cases c:bey l m=r
  .rw[NX c];rw[← c,t]at e
   cases e
   exact#[_,U,Int.le_of_lt (L y U)]
  .rw[NY c];exact#[y,e,IT _]
 let keep:∀{j r:Nat},Up ls O s j r->∀ y,T[r]?=Z (Z y)->(∀ z,o=Z z->y<z)->Up ls (O.set (bey l m) (Z k)) s j r:=by
  intro j r h;induction h with
  |root=>intro _ _ _;exact .root
  | @step j r k' l' A q h Q =>
   intro y a G;let ne:bey l m≠r:=λe=>by
    rw[e,a]at t
    cases t
    exact NZ (G y U) (Int.lt_irrefl _)
   let l2 b f C D g e4 e5:=I.pr r k' A;rw[q]at C;cases C;rw[a]at g;cases g;let w0:=(I.w0 l' (HC q)).1;refine .step (by simp[*]) q (Q f e4 λz al=>?_)
   let:=G z al;omega
 let jm um:=I.up m x J;let an:=keep um x J λz G=>by grind
 let ut:Up ls (O.set (bey l m) (Z k)) s (jm+1) (bey l m):=.step (by simp[*]) hl (by rw[oK w];exact an)
 let all:∀{j r:Nat},Up ls O s j r->∃ i,Up ls (O.set (bey l m) (Z k)) s i r:=by
  intro j r h;induction h with
  |root=>exact#[0,.root]
  | @step j r k' l' A q h Q =>
   by_cases c:bey l m=r
   .rw[← c];exact#[_,ut]
   .let i N:=Q;exact#[i+1,.step (by simp[*]) q N]
 let cs:=pO cOf T (bey l m) o (Z (x+l.2.2)) t;let c1:cOf (Z (x+l.2.2))=1:=rfl;let cc:cnt (T.set (bey l m) (Z (x+l.2.2)))+cOf o=cnt T+1:=by assumption
 let am:cnt T<=cnt (T.set (bey l m) (Z (x+l.2.2))):=by
  let:cOf o<=1:=by unfold cOf;lia
  omega
 let mul_le:(cnt T:Int)*(M:Int)<=(cnt (T.set (bey l m) (Z (x+l.2.2))):Int)*(M:Int):=Int.mul_le_mul_of_nonneg_right ∅ ∅
 let bm:=I.bd m x J;refine#[I.w0,by simp[*],by simp[*],by rw[gT,NY v];exact I.st,by rw[gV,NY v];exact I.vs,λr y e=>?_,λr y e=>?_,λr k' e=>?_,λr y e=>?_,λr y i l' e d q aa=>?_,λr d=>?_]
 .rw[gT]at e;by_cases c:bey l m=r
  .rw[NX c]at e;grind
  .rw[NY c]at e;exact I.nn r y e
 .rw[gT]at e;by_cases c:bey l m=r
  .rw[NX c]at e;cases e
   cases o with
   |none =>
    let C:cnt (T.set (bey l m) (Z (x+l.2.2)))=cnt T+1:=by assumption
    rw[C];grind
   |some z =>
    let:=L z U;let:=I.bd (bey l m) z t;omega
  .rw[NY c]at e;let:=I.bd r y e;omega
 .rw[gV]at e;by_cases c:bey l m=r
  .rw[NX c]at e;cases e;refine#[l,x+l.2.2,x,hl,c▸rS w,by rw[gT,NX c],?_,IT _]
   rw[← c,oK w,gT,NY nm];exact J
  .rw[NY c]at e;let l2 b f C D g e4 e5:=I.pr r k' e;let z e6 e7:=ab _ _ e4;exact#[l2,b,z,C,D,by simp[*],e6,∅]
 .rw[gT]at e;by_cases c:bey l m=r
  .rw[← c];exact#[_,ut]
  .rw[NY c]at e;let j u:=I.up r y e;exact all u
 .let nr:r∉W/\r≠bey l m:=#[λz=>d ((hW r).mpr (.inl z)),λz=>d ((hW r).mpr (.inr z))]
  rw[gT,NY (Ne.symm nr.2)]at e;obtain h|⟨z,Y,B⟩:=I.rl r y i l' e nr.1 q aa
  .obtain h|⟨Y,B⟩:=ac r i h
   .exact .inl h
   .simp_all
  .let z' H E:=ab _ _ Y;exact .inr #[z',H,∅]
 .rcases(hW r).mp d with h|h
  .let y e:=I.wk r h;let z H _:=ab _ _ e;exact#[z,H]
  .rw[h];exact#[_,by rw[gT,NX U]]
theorem FI.leave{ls:List Lk}{s:Nat}(I:FI n ls s M T O W ex){k:Nat}{l:Lk}{x y:Int}(hl:ls[k]?=Z l)(J:T[m]?=Z (Z x))(Q:T[bey l m]?=Z (Z y))(b:y<=x+l.2.2)(d:∀ r i,ex r i->ex' r i∨(r=m/\i=k)):FI n ls s M T O W ex' :=
 #[I.w0,I.tl,I.vl,I.st,I.vs,I.nn,I.bd,I.pr,I.up,λr z i c e o q a=>by
  obtain h|h:=I.rl r z i c e o q a
  .obtain h|⟨Y,B⟩:=d r i h
   .exact .inl h
   .simp_all
  .exact .inr h,I.wk]
theorem CK{ls:List Lk}{s:Nat}(I:FI n ls s M T O W ex){t:Nat}{x w:Int}{o:Option Int}(f:0<=w)(a:w<=(M:Int))(J:T[m]?=Z (Z x))(c:T[t]?=Z o)(L:∀ y,o=Z y->x+w<y):
  wgt (n*M+1) (T.set t (Z (x+w)))+1<=wgt (n*M+1) T:=by
 let e:=pO (vOf (n*M+1)) T t o (Z (x+w)) c;let u:=I.nn m x J;let b:=I.bd m x J;let C:vOf (n*M+1) (Z (x+w))=(x+w).toNat:=rfl;unfold wgt;rw[C]at e
 cases o with
 |none =>
  let v:=Ft T c;let D:vOf (n*M+1) none=n*M+1:=rfl;rw[D]at e;let Y:cnt T*M<=n*M:=Lu M (by rw[I.tl]at v;omega)
  let B:x+(M:Int)<=((n*M:Nat):Int):=by grind
  omega
 |some z =>
  let:=L z U;let D:vOf (n*M+1) (Z z)=z.toNat:=rfl;grind
theorem FI.first{ls:List Lk}{s:Nat}(f:∀ l∈ls,0<=l.2.2/\l.2.2<=(M:Int))(hs:s<n):FI n ls s M ((HR n none).set s (Z 0)) (HR n none) [s] (λ_ _=>False):=by
 let u:∀ r:Nat,((HR n (none:Option Int)).set s (Z 0))[r]?=if s=r then Z (Z 0) else(HR n none)[r]?:=λr=>xJ (by simp[*])
 let a:∀{b:Type}(r:Nat)(x:b),(HR n (none:Option b))[r]?≠Z (Z x):=λr x e=>by
  let:=HC e;simp_all
 let one:∀(r:Nat)(x:Int),((HR n (none:Option Int)).set s (Z 0))[r]?=Z (Z x)->r=s/\x=0:=λr x e=>by
  rw[u]at e;by_cases c:s=r
  .simp_all
  .rw[NY c]at e;exact NZ e (a r x)
 refine#[f,by rw[IV,Ki],Ki,by rw[u,NX U],by rw[Jo,NX hs],λr x e=>?_,λr x e=>?_,λr k e=>NZ e (a r k),λr x e=>?_,λr x i l e O=>?_,λr O=>?_]
 .rw[(one r x e).2];exact IT _
 .rw[(one r x e).2];let d:=pO cOf (HR n (none:Option Int)) s none (Z 0) (by rw[Jo,NX hs])
  let c1:cOf (Z 0)=1:=rfl;let c0:cOf none=0:=rfl;let:1<=cnt ((HR n (none:Option Int)).set s (Z 0)):=by unfold cnt;omega
  let B:1*M<=cnt ((HR n (none:Option Int)).set s (Z 0))*M:=Lu M this;let J:((1*M:Nat):Int)<=((cnt ((HR n (none:Option Int)).set s (Z 0))*M:Nat):Int):=by exact_mod_cast B
  push_cast at J;omega
 .rw[(one r x e).1];exact#[0,.root]
 .rw[(one r x e).1]at O;exact NZ (Ih.mpr U) O
 .rw[Ih.mp O];exact#[0,by rw[u,NX U]]
theorem FI.take{ls:List Lk}{s:Nat}{W':List Nat}(I:FI n ls s M T O W (λ_ _=>False))(b:∀ r,r∈W'↔r∈W/\r≠m):FI n ls s M T O W' (λr _=>r=m) :=
 #[I.w0,I.tl,I.vl,I.st,I.vs,I.nn,I.bd,I.pr,I.up,λr x i l e o G a=>by
  by_cases c:r=m
  .exact .inl c
  .rcases I.rl r x i l e (λz=>o ((b r).mpr ⟨z,c⟩)) G a with h|h
   .exact h.elim
   .exact .inr h,λr o=>I.wk r ((b r).mp o).1]
theorem FI.exw{ls:List Lk}{s:Nat}(I:FI n ls s M T O W ex)(h:∀ r i l,ls[i]?=Z l->mQ l r->ex r i->ex' r i):FI n ls s M T O W ex' :=
 #[I.w0,I.tl,I.vl,I.st,I.vs,I.nn,I.bd,I.pr,I.up,λr x i l e o G a=>by
  obtain z|z:=I.rl r x i l e o G a
  .exact .inl (h r i l G a z)
  .exact .inr z,I.wk]
theorem ai(h:H p=none)(o:HO):Same H (upd H p o):=λb u q=>by rw[ao (aD q h)];exact q
theorem aH{l:Addr}(h:Same H H2)(hl:H l=none)(o:HO):Same H (upd H2 l o):=λb u q=>by rw[ao (aD q hl)];exact h b u q
theorem eQ(s:Same H H')(h:H' p=none):H p=none:=by
 cases y:H p with
 |none=>rfl
 |some o=>rw[s _ _ y]at h;cases h
def iV(p:Nat):V:=.int (p:Int)
theorem at0{x:V}:atI [x,y] 0=Z x:=rfl
theorem at1{x:V}:atI [x,y] 1=Z y:=rfl
theorem a30{x:V}:atI [x,y,z] 0=Z x:=rfl
theorem a31{x:V}:atI [x,y,z] 1=Z y:=rfl
theorem a32{x:V}:atI [x,y,z] 2=Z z:=rfl
def LkAt(H:Hp)(v:V)(l:Lk):Prop:=∃ t,v=.ref t/\H t=Z (.tup [.int (l.1:Int),.int (l.2.1:Int),.int l.2.2])
def LnAt(H:Hp)(v:V)(ls:List Lk):Prop:=∃ a Y,v=.ref a/\H a=Z (.lst Y)/\LsAt LkAt H Y ls
theorem LkAt.mono{p:Lk}(h:LkAt H v p)(s:Same H H'):LkAt H' v p:=by
 let t e z:=h;exact#[t,e,s _ _ z]
theorem LnAt.mono{H H':Hp}{v:V}{r:List Lk}(h:LnAt H v r)(s:Same H H'):LnAt H' v r:=by
 let a Y e z l:=h;exact#[a,Y,e,s _ _ z,l.imp λ_ _ q=>q.mono s]
def MM:Nat:=10^31
structure Lok(n:Nat)(ls:List Lk):Prop where
 n1:n<=40
 l9:ls.length<=60
 sm:∀ l∈ls,l.1<n/\l.2.1<n
 w0:∀ l∈ls,0<=l.2.2/\l.2.2<=(MM:Int)
def bg(S:Addr->Prop)(H:Hp)(xs:List V)(ts:List (List Nat)):Prop:=xs.length=ts.length/\∀(i:Nat)(l:List Nat),ts[i]?=Z l->∃ p,xs[i]?=Z (.ref p)/\¬ S p/\H p=Z (.lst (l.map iV))
theorem bg.mono{S:Addr->Prop}(h:bg S H xs ts)(s:∀ b u,¬ S b->H b=Z u->H' b=Z u):bg S H' xs ts:=#[h.1,λi e q=>by
 let p a n b:=h.2 i e q
 exact#[p,a,n,s _ _ n b]]
theorem bg.snoc{S:Addr->Prop}(h:bg S H xs ts)(n:¬ S q)(e:H q=Z (.lst (l.map iV))):bg S H (xs++[.ref q]) (ts++[l]):=by
 refine#[by rw[HJ,HJ,h.1];rfl,λj k D=>?_]
 by_cases O:j<ts.length
 .rw[HH O]at D;let p g s C:=h.2 j k D;exact#[p,by rw[HH (by rw[h.1];exact O)];exact g,s,C]
 .rw[HG (KA O)]at D;let b:j=ts.length:=by
   let:=(HB.mp D).1;rw[Ik]at this;omega
  subst b;rw[Iq]at D
  cases D
  exact#[q,by rw[← h.1,HG (HF _),Iq];rfl,n,e]
def Dist(xs:List V):Prop:=∀(i j:Nat)(p:Addr),xs[i]?=Z (.ref p)->xs[j]?=Z (.ref p)->i=j
theorem bg.set{S:Addr->Prop}(h:bg S H xs ts)(D:Dist xs)(e:xs[i]?=Z (.ref p)):bg S (upd H p (.lst (l'.map iV))) xs (ts.set i l'):=by
 refine#[by rw[IV];exact h.1,λj l z=>?_]
 let I:i<ts.length:=by rw[← h.1];exact(HB.mp e).1
 rw[IQ]at z;by_cases O:i=j
 .subst O;rw[NX U,NX I]at z
  cases z
  let w g s C:=h.2 i _ (Hz I);rw[e]at g
  cases g
  exact#[p,e,s,af]
 .rw[NY O]at z;let w g s C:=h.2 j l z;exact#[w,g,s,by rw[ao (λy=>by rw[y]at g;exact O (D i j p e g))];exact C]
theorem oz{S:Addr->Prop}(h:bg S H xs ts)(D:Dist xs)(d:H q=none):Dist (xs++[.ref q]):=by
 let u:∀ i p,xs[i]?=Z (V.ref p)->p≠q:=λi p e z=>by
  let I:i<ts.length:=by rw[← h.1];exact(HB.mp e).1
  let w g _ m:=h.2 i _ (Hz I);simp_all
 let b:∀ i p,(xs++[V.ref q])[i]?=Z (V.ref p)->(xs[i]?=Z (V.ref p))∨(i=xs.length/\p=q):=λi p e=>by
  by_cases c:i<xs.length
  .rw[HH c]at e;exact .inl e
  .rw[HG (KA c)]at e;let B:=(HB.mp e).1;rw[Ik]at B;let J:i-xs.length=0:=by omega
   rw[J]at e;grind
 intro i j p C T;obtain Y|⟨Y,l⟩:=b i p C
 .obtain B|⟨B,a⟩:=b j p T
  .exact D i j p Y B
  .exact NZ a (u i p Y)
 .grind
structure AtM(n c:Nat)(rows:List (List Nat))(mem:Nat->Nat->Prop):Prop where
 len:rows.length=n
 mm:∀(r:Nat)(row:List Nat),rows[r]?=Z row->∀ j,j∈row↔mem r j
 few:∀ row∈rows,row.length<=c
theorem AtM.put{c:Nat}{rows:List (List Nat)}{mem:Nat->Nat->Prop}(h:AtM n c rows mem){a:Nat}(hl:rows[a]?=Z l):AtM n (c+1) (rows.set a (l++[i])) (λr j=>mem r j∨(r=a/\j=i)):=by
 let E:=(HB.mp hl).1;refine#[by rw[IV];exact h.len,λr b e j=>?_,λb O=>?_]
 .rw[xJ E]at e;by_cases z:a=r
  .rw[NX z]at e
   cases e
   subst z;rw[HY,Ih,h.mm a l hl j];lia
  .rw[NY z]at e;rw[h.mm r b e j];exact#[.inl,λy=>y.elim id λy=>NZ y.1.symm z]
 .obtain y|y:=Kr O
  .let:=h.few b y;omega
  .let:=h.few l (HC hl)
   simp[*]
def memL(ls:List Lk)(r j:Nat):Prop:=∃ l,ls[j]?=Z l/\mQ l r
structure Txt(mg:Str->Option Value):Prop where
 n_len:mg "len"=none
 n_int:mg "int"=none
 n_bool:mg "bool"=none
 n_list:mg "list"=none
 n_tuple:mg "tuple"=none
 n_range:mg "range"=none
 n_min:mg "min"=none
 n_abs:mg "abs"=none
 n_enumerate:mg "enumerate"=none
 n_isinstance:mg "isinstance"=none
inductive F0(vs:List L2.V)(H:L2.Hp)(Q:L2.VK)(x3_:L2.XK):Prop
 |mk (v:V)(l:Lk)(r:Nat) (h0_:vs=[v,.int (r:Int)])(h1_:LkAt H v l)(h2_:Q (.int ((bey l r:Nat):Int)) H)
inductive spAt(vs:List L2.V)(H:L2.Hp)(Q:L2.VK)(x3_:L2.XK):Prop
 |mk (v:V)(n:Nat)(ls:List Lk) (h0_:vs=[.int (n:Int),v])(h1_:LnAt H v ls)(h2_:Lok n ls)(h3_:∀(p:Addr)(ys:List V)(rows:List (List Nat)) H',Same H H'->H p=none->H' p=Z (.lst ys)->bg (λq=>q=p∨H q≠none) H' ys rows->AtM n 120 rows (memL ls)->Q (.ref p) H')
theorem Az:ay ["link","room"] ["link","room"] (ar m7):=by ac_nf
theorem ok_bey(F:Fun K "beyond" "beyond" m7 f fd):FnOk P w K mg base CX0 1 f fd ["link","room"] F0:=by
 refine F.ok Az (by walk_at "l") λY A o s H g Q E O h=>?_
 let v l r rfl{t rfl i}q:=h;refine#[_,(ak (aE (jb (aB eG (pv 1) (aZ (pv 0) aj) (aC _)) (aZ (pv 0) aj) (aZ (pv 0) aj)))),?_];refine#[_,U,_,U,t,_,0,_,U,U,SqT.of i,a30,U,_,U,?_];refine ite2 (λc=>?_) (λc=>?_)
 .let D:r=l.1:=by lia
  let e:bey l r=l.2.1:=by unfold bey;rw[NX D]
  rw[e]at q;exact#[_,U,t,_,1,_,U,U,SqT.of i,a31,q]
 .let D:¬ r=l.1:=λz=>c (Ni (congrArg V.int ∅))
  let e:bey l r=l.1:=by unfold bey;rw[NY D]
  rw[e]at q;exact#[_,U,t,_,0,_,U,U,SqT.of i,a30,q]
theorem gs:ay ["many","links","at","number","link"] ["many","links"] (ar i8):=by ac_nf
theorem ok_at(F:Fun K "links_at" "links_at" i8 f fd)(T:Txt mg):FnOk P w K mg base CX0 1 f fd ["many","links"] spAt:=by
 refine F.ok gs (by walk_at "l") λN A o s H k Q E O h=>?_
 let v n ls rfl{a xs rfl hA hL}ok d:=h;let n1:=ok.n1;let l9:=ok.l9;let xl:=hL.1
 refine#[_,(ag (nU 2 [] ["room"] gs.nd (aN U T.n_range (ae (pv 0) ah)) pg_c pt_c (λC ex s H=>(bw ah)))
   (ag (bc PassesOwn.never U (jW U T.n_enumerate (ae (pv 1) ah)) (pf U (aJ (bO 3 gs.nd) (aJ (bO 4 gs.nd) cP))) (ag (aO (d9 HZ Ij Ii aQ (aV (pv 2) (aZ (pv 4) aj)) (ae (pv 3) ah)))
   (ak (aO (d9 HZ Ij Ii aQ (aV (pv 2) (aZ (pv 4) aj)) (ae (pv 3) ah))))))
   (ak (aE (pv 2))))),?_]
 refine#[_,U,_,U,∅,∅,cg (n:=(n:Int).toNat) (λi t L=>Same H L/\bg (λp=>H p≠none) L t (HR i [])/\Dist t) (by rw[HP];exact Ia (aq ∅)) #[λ_ _ e=>e,#[U,λi l e=>by simp at e],λi j p e=>by contradiction] ?_ ?_]
 .rintro i t L I ⟨m,rx,D⟩;refine#[(by simp),λl G=>?_]
  let q:=ai G (.lst []);refine#[m.trans q,?_,oz rx D G];rw[JU];exact(rx.mono λb u _ z=>q _ _ z).snoc (λz=>z (eQ m G)) af
 rintro t L aI ⟨m,rx,D⟩ pn al;rw[HP]at rx;let q:=ai al (.lst t);let bn:H pn=none:=eQ m al
 let bv:bg (λp=>p=pn∨H p≠none) (upd L pn (.lst t)) t (HR n []):=#[rx.1,λi l z=>by
  let p a1 a2 a3:=rx.2 i l z;let n2:p≠pn:=aD a3 al
  exact#[p,a1,by rintro(y|y);exact n2 y;exact a2 y,q _ _ a3]]
 let m0:AtM n 0 (HR n []) (memL (ls.take 0)):=#[Ki,λr aS e j=>by
  let:=(List.mem_replicate.mp (HC e)).2;subst this
  exact#[(λz=>nomatch z),λ⟨l,z,_⟩=>by contradiction],λaS O=>by simp_all]
 refine#[_,U,a,U,#[_,SqL.of ((m.trans q) _ _ hA)],qZ (K:=K) (xs:=xs) (λi M H5=>∃ v4 v5 rows,M=[Z (.int (n:Int)),Z (.ref a),Z (.ref pn),v4,v5]/\Same H H5/\H5 pn=Z (.lst t)/\bg (λp=>p=pn∨H p≠none) H5 t rows/\AtM n (2*i) rows (memL (ls.take i)))
  #[_,_,_,U,m.trans q,af,bv,m0] (λi M H5 _ aa=>by let _ _ _ _ z _:=aa;exact SqL.of (z _ _ hA)) ?_ ?_]
 .rintro i x M H5 T2 J ⟨v4,v5,rows,rfl,s5,a0,a4,am⟩ ab;let l G p rfl g:=hL.get J;let b1 b2:=ok.sm l (HC G);let sT:=ai ab (.tup [.int (i:Int),.ref p]);let s6:=s5.trans sT;let bf:=s6 _ _ g;let ap:=am.len;let bQ:i<ls.length:=(HB.mp G).1;let r1 ac:∃ r,rows[l.1]?=Z r:=#[_,Hz ∅]
  let bi:bg (λp=>p=pn∨H p≠none) (upd H5 T2 (.tup [.int (i:Int),.ref p])) t rows:=a4.mono λb u _ z=>sT _ _ z;let p1 y1 y2 y3:=bi.2 _ _ ac;let a7:∀{p:Addr},¬ (p=pn∨H p≠none)->H p=none/\p≠pn:=λ{p} n=>by
   simp_all
  let an bB:=a7 y2;let f1:=am.few r1 (HC ac);let ba:=sT _ _ a0;refine#[T2,_,U,SqT.of af,U,_,_,U,_,_,U,U,?_];refine#[_,U,_,U,p,_,0,_,U,U,SqT.of bf,a30,pn,t,_,_,U,U,SqL.of ba,ax y1,.inl #[U,_,SqL.of y3],_,U,p1,_,_,U,U,y3,aq (by rw[HD];omega),?_]
  let aW:(r1.map iV)++[V.int (i:Int)]=(r1++[i]).map iV:=by rw[HW];rfl
  rw[aW];let bJ:=bi.set D y1 (l':=r1++[i]);let bK:=am.put (i:=i) ac;let s7:Same H (upd (upd H5 T2 (.tup [.int (i:Int),.ref p])) p1 (.lst ((r1++[i]).map iV))):=aH s6 an _;let bP:=s7 _ _ g;let bb:(upd (upd H5 T2 (.tup [.int (i:Int),.ref p])) p1 (.lst ((r1++[i]).map iV))) pn=Z (.lst t):=by rw[ao bB.symm];exact ba
  let r2 a5:∃ r,(rows.set l.1 (r1++[i]))[l.2.1]?=Z r:=#[_,Hz (by simp[*])]
  let p2 z1 z2 z3:=bJ.2 _ _ a5;let aT bm:=a7 z2;let f2:=bK.few r2 (HC a5);refine#[_,U,_,U,p,_,1,_,U,U,SqT.of bP,a31,pn,t,_,_,U,U,SqL.of bb,ax z1,.inl #[U,_,SqL.of z3],_,U,p2,_,_,U,U,z3,aq (by grind),?_]
  let a6:(r2.map iV)++[V.int (i:Int)]=(r2++[i]).map iV:=by rw[HW];rfl
  rw[a6];let bC:=bK.put (i:=i) a5;refine#[_,_,(rows.set l.1 (r1++[i])).set l.2.1 (r2++[i]),U,aH s7 aT _,by rw[ao bm.symm];exact bb,bJ.set D z1,bC.len,λr aS e j=>?_,λaS O=>?_]
  .rw[bC.mm r aS e j];unfold memL;rw[Ie,G];let be:(ls.take i).length=i:=by rw[IC];omega
   constructor
   .rintro((⟨l',Y,B⟩|⟨Y,B⟩)|⟨Y,B⟩)
    .exact#[l',by rw[HH (HB.mp Y).1];exact Y,B]
    .subst B;exact#[l,by rw[HG ∅,be,Iq];rfl,.inl Y]
    .subst B;exact#[l,by rw[HG ∅,be,Iq];rfl,.inr Y]
   .rintro⟨l',Y,B⟩;by_cases c:j<i
    .rw[HH ∅]at Y
     exact .inl (.inl #[l',Y,B])
    .rw[HG ∅]at Y
     let h3:=(HB.mp Y).1;let h4:j=i:=by
      let:(Option.toList (Z l)).length=1:=rfl;omega
     subst h4;rw[be,Iq]at Y
     cases Y
     obtain B|B:=B
     .exact .inl (.inr #[B,U])
     .exact .inr #[B,U]
  .let:=bC.few aS O;omega
 .rintro M H5 ⟨v4,v5,rows,rfl,s5,a0,a4,am⟩;rw[xl,Ip]at am;exact#[_,U,d pn t rows H5 s5 bn a0 a4 #[am.len,am.mm,λaS O=>by let:=am.few aS O;omega]]
inductive my(vs:List L2.V)(H:L2.Hp)(Q:L2.VK)(x3_:L2.XK):Prop
 |mk (n:Int) (h0_:vs=[.int n])(h1_:0<=n)(h2_:n<1208925819614629174706176)(h3_:∀ r H',Same H H'->H r=none->H' r=Z (.lst ((K2.bitsF 0 n.toNat).map iV))->Q (.ref r) H')
theorem lN:ay ["mask","numbers","number","rest"] ["mask"] (ar xP):=by ac_nf
theorem ok_bits(F:Fun K "bits" "bits" xP f fd):FnOk P w K mg base CX0 1 f fd ["mask"] my:=by
 refine F.ok lN (by walk_at "l") λN A y s H B Q E O h=>?_
 let n rfl p Y k:=h
 refine#[_,(ag (aA 1 lN.nd (bw ah))
   (ag (aA 2 lN.nd aj)
   (ag (aA 3 lN.nd (pv 0))
   (ag (gD PassesOwn.never (aB Dw (pv 3) aj (aC _)) (ag (bV (aB eG (aw bq (pv 3) aj) aj (aC _)) (ak (aO (d9 HZ Ij Ii aQ (pv 1) (ae (pv 2) ah)))) aR)
   (ag (aA 3 lN.nd (aw b9 (pv 3) aj))
   (ak (aA 2 lN.nd (aw br (pv 2) aj))))))
   (ak (aE (pv 1))))))),?_]
 refine#[(by show 0<=Mz;decide),λl G=>?_]
 let ab:(2:Nat)^80=1208925819614629174706176:=by decide
 let m:(K2.bitsF 0 n.toNat).length<=80:=K2.bitsF_len 80 n.toNat 0 ∅
 refine#[_,U,i5 (λM u=>∃(kn C:Nat)(J:List Nat),M=[Z (.int n),Z (.ref l),Z (.int (kn:Int)),Z (.int (C:Int))]/\u l=Z (.lst (J.map iV))/\J++K2.bitsF kn C=K2.bitsF 0 n.toNat/\Same H u)
  (λM _=>match M with | [_,_,_,Z (.int r)]=>r.toNat|_=>0) #[0,n.toNat,[],?_,af,U,ai G _] ?_ ?_]
 .let e:((n.toNat:Nat):Int)=n:=by omega
  rw[e];rfl
 .rintro M u ⟨kn,C,J,rfl,g,L,d⟩;refine#[_,U,_,_,U,U,_,U,?_];refine ite2 (λc=>?_) (λc=>?_)
  .let x:(0:Int)<(C:Int):=NO c
   let t:((C:Int)/2)=((C/2:Nat):Int):=by omega
   let aa:J.length<=80:=by
    let:=congrArg List.length L;rw[HJ]at this;omega
   walk_at "rd";refine ite2 (λo=>?_) (λo=>?_)
   .let o':(C:Int)%2=1:=V.int.inj (NO o)
    refine#[_,U,.inl #[U,_,SqL.of g],_,U,l,_,_,U,U,g,aq (by rw[HD];omega),?_]
    walk_at "rd";refine#[#[kn+1,C/2,J++[kn],?_,?_,?_,?_],?_]
    .show[Z (V.int n),Z (V.ref l),Z (V.int ((kn:Int)+1)),Z (V.int ((C:Int)/2))]=_;rw[t];rfl
    .rw[af,HW];rfl
    .rw[JK,← L];let z:=K2.bitsF_odd (k:=kn) (n:=C) ∅
     rw[z];rfl
    .exact aH d G _
    .show((C:Int)/2).toNat<((C:Nat):Int).toNat;omega
   .let o':¬ (C:Int)%2=1:=λz=>o (Ni (congrArg V.int z))
    walk_at "rd";refine#[#[kn+1,C/2,J,?_,g,?_,d],?_]
    .show[Z (V.int n),Z (V.ref l),Z (V.int ((kn:Int)+1)),Z (V.int ((C:Int)/2))]=_;rw[t];rfl
    .rw[← L,K2.bitsF_even (k:=kn) (n:=C) ∅ ∅]
    .show((C:Int)/2).toNat<((C:Nat):Int).toNat;omega
  .let x:¬ (0:Int)<(C:Int):=λz=>c (Ni z)
   let z:C=0:=by omega
   subst z;rw[K2.bitsF_zero,Kl]at L;refine#[_,U,?_];exact k l u d G (by rw[g,L])
 .rintro M u Q1 Q2 I ⟨v,e,i,j,a,b,D,T,q⟩;exact#[v,e,i,j,a,b,D,T,I _ _ q]
def flat(PL:List (Nat×Nat)):List Nat:=PL.flatMap λp=>[p.1,p.2]
def cst(d:Nat->Nat->Int)(PL:List (Nat×Nat)):Int:=(PL.map λp=>d p.1 p.2).sum
def Cs(d:Nat->Nat->Int)(S:List Nat)(c:Int):Prop:=∃ k,(flat k).Perm S/\cst d k=c
structure Met(n:Nat)(d:Nat->Nat->Int):Prop where
 sy:∀ a b,d a b=d b a
 nn:∀ a b,0<=d a b
 tr:∀ a b c,a<n->b<n->c<n->d a c<=d a b+d b c
theorem flat_cons(p:Nat×Nat)(PL:List (Nat×Nat)):flat (p::PL)=p.1::p.2::flat PL:=rfl
theorem jz(d:Nat->Nat->Int)(p:Nat×Nat)(PL:List (Nat×Nat)):cst d (p::PL)=d p.1 p.2+cst d PL:=by rfl
theorem Cs.perm{d:Nat->Nat->Int}{S:List Nat}{c:Int}(h:Cs d S c)(p:S.Perm l):Cs d l c:=by
 let k Y B:=h;exact#[k,Y.trans p,B]
theorem part0{d:Nat->Nat->Int}(sy:∀ a b,d a b=d b a){a:Nat}:∀{PL:List (Nat×Nat)},a∈flat PL->∃ e f,(flat PL).Perm (a::e::flat f)/\cst d PL=d a e+cst d f
 |[],h=>nomatch h
 | (x,y)::PL,h=>by
  rw[flat_cons]at h;by_cases c1:a=x
  .subst c1;exact#[y,PL,.refl _,jz ..]
  by_cases c2:a=y
  .subst c2;exact#[x,PL,.swap _ _ _,by rw[jz];simp[*]]
  let J:a∈flat PL:=by simp_all
  let e f p i:=part0 sy J;refine#[e,(x,y)::f,?_,by rw[jz,jz,i];omega]
  rw[flat_cons,flat_cons];let v:(x::y::flat PL).Perm (x::y::a::e::flat f):=(p.cons y).cons x;refine v.trans ?_;let k:([x,y]++([a,e]++flat f)).Perm ([a,e]++([x,y]++flat f)):=by
   rw[← JK,← JK];exact(Jw).append_right _
  exact k
theorem Cs.part{d:Nat->Nat->Int}(sy:∀ a b,d a b=d b a){S:List Nat}{c:Int}{a:Nat}(h:Cs d S c)(E:a∈S):∃ e R c0,S.Perm (a::e::R)/\Cs d R c0/\c=d a e+c0:=by
 let k p i:=h;let e f w g:=part0 sy (p.mem_iff.mpr E);exact#[e,flat f,cst d f,p.symm.trans w,#[f,.refl _,U],by rw[← i,g]]
theorem Cs.add{d:Nat->Nat->Int}{R:List Nat}{c0:Int}(a e:Nat)(h:Cs d R c0):Cs d (a::e::R) (d a e+c0):=by
 let k p i:=h;exact#[(a,e)::k,by rw[flat_cons];exact(p.cons e).cons a,by rw[jz,i]]
def tog(S:List Nat)(a:Nat):List Nat:=if a∈S then S.erase a else a::S
theorem tog_nd{S:List Nat}(h:S.Nodup)(a:Nat):(tog S a).Nodup:=by
 unfold tog;split
 .exact h.erase _
 .exact HS.mpr #[by assumption,h]
theorem mV{S:List Nat}(p:S.Perm l)(a:Nat):(tog S a).Perm (tog l a):=by
 unfold tog;by_cases c:a∈S
 .rw[NX c,NX (p.mem_iff.mp c)];exact p.erase a
 .rw[NY c,NY (λz=>c (p.mem_iff.mpr z))];exact p.cons a
theorem FR{S:List Nat}(h:S.Nodup)(a:Nat):(tog (tog S a) a).Perm S:=by
 by_cases c:a∈S
 .let e:tog S a=S.erase a:=by unfold tog;rw[NX c]
  let n:a∉S.erase a:=h.not_mem_erase;let T:tog (S.erase a) a=a::S.erase a:=by unfold tog;rw[NY n]
  rw[e,T];exact(KG c).symm
 .let e:tog S a=a::S:=by unfold tog;rw[NY c]
  let T:tog (a::S) a=S:=by unfold tog;simp
  rw[e,T]
theorem GO{S:List Nat}(h:S.Nodup){a x:Nat}:x∈tog S a↔(x∈S/\x≠a)∨(x=a/\a∉S):=by
 unfold tog;by_cases c:a∈S
 .rw[NX c,h.mem_erase_iff];exact#[λz=>.inl #[z.2,z.1],λz=>z.elim (λy=>#[y.2,y.1]) λy=>NZ c y.2]
 .rw[NY c,HQ];constructor
  .rintro(z|z)
   .exact .inr #[z,c]
   .exact .inl #[z,λy=>c (y▸z)]
  .rintro(z|z)
   .exact .inr z.1
   .exact .inl z.1
theorem Cs.two{d:Nat->Nat->Int}(M:Met n d){S:List Nat}{c:Int}(nd:S.Nodup)(lt:∀ x∈S,x<n)(h:Cs d S c){a b:Nat}(E:a<n)(L:b<n):∃ c',Cs d (tog (tog S a) b) c'/\c'<=c+d a b:=by
 let A:=M.nn a b;by_cases w:a=b
 .subst w;exact#[c,h.perm (FR nd a).symm,∅]
 by_cases g:a∈S
 .let e R c0 p o i:=h.part M.sy g;let H:tog S a=S.erase a:=by unfold tog;rw[NX g]
  let v:(S.erase a).Perm (e::R):=by
   let:=p.erase a;rw[JV]at this;exact this
  let k:e<n:=lt e (p.mem_iff.mpr (HK _ (HL ..)));rw[H];by_cases m:b∈S.erase a
  .let G:tog (S.erase a) b=(S.erase a).erase b:=by unfold tog;rw[NX m]
   rw[G];by_cases l:e=b
   .subst l;let r:=v.erase e;rw[JV]at r;refine#[c0,o.perm r.symm,?_];lia
   .let t:b∈R:=by
     rcases HQ.mp (v.mem_iff.mp m)with z|z
     .exact NZ z.symm l
     .exact z
    let f R2 c1 q Y y:=o.part M.sy t;let flt:f<n:=lt f (p.mem_iff.mpr (HK _ (HK _ (q.mem_iff.mpr (HK _ (HL ..))))));let r:((S.erase a).erase b).Perm (e::f::R2):=by
     let s:(S.erase a).Perm (b::e::f::R2):=v.trans ((q.cons e).trans (.swap _ _ _));let u:=s.erase b;rw[JV]at u;exact u
    refine#[d e f+c1,(Y.add e f).perm r.symm,?_];let j:=M.tr e a f k E flt;let I:=M.tr a b f E L flt;let J:=M.sy e a;omega
  .let G:tog (S.erase a) b=b::S.erase a:=by unfold tog;rw[NY m]
   rw[G];refine#[d b e+c0,(o.add b e).perm (v.symm.cons b),?_];let j:=M.tr b a e L E k;let J:=M.sy b a;omega
 .let H:tog S a=a::S:=by unfold tog;rw[NY g]
  rw[H];by_cases m:b∈S
  .let G:tog (a::S) b=a::S.erase b:=by
    unfold tog;simp[*]
   rw[G];let e R c0 p o i:=h.part M.sy m;let v:(S.erase b).Perm (e::R):=by
    let:=p.erase b;rw[JV]at this;exact this
   let k:e<n:=lt e (p.mem_iff.mpr (HK _ (HL ..)));refine#[d a e+c0,(o.add a e).perm (v.symm.cons a),?_];let j:=M.tr a b e E L k;omega
  .let G:tog (a::S) b=b::a::S:=by
    unfold tog;rw[NY (λz=>by simp_all)]
   rw[G];refine#[d b a+c,h.add b a,?_];let:=M.sy b a;omega
end KF
variable{ls:List KF.Lk}
namespace KF
open PySem L2
def lpF:Pos:=#[70,32,70,55]
theorem Fun.okT{j:Str}{st:Stmt}{c TT:Addr}{N ps:List Str}{k:Nat}(F:Fun K x j st f fd)(S:ay N ps (ar st))(i:Km K x=some (c,TT))(D:ID K MB x=some (some (.ref f)))(len:∀ vs H Q E,sp vs H Q E->vs.length=ps.length)(a:∀(A:Around)(outer:List Env)(s:Shared)(H:Hp)(vs:List V)(Q:VK)(E:XK),Room k (A.deeper (PyProof.Rows.envOfC j (ar st) s.heap.objs.size f (.ref c)))->sp vs H Q E ->
   ∃ t,PSs (cxOf CX0 P w K mg base N j (ar st) f (.ref c) A outer s H E).nox (cf st) t/\t {nx:=λ_ H'=>Q .non H',rt:=Q} (pQ N vs) H):FnOk P w K mg base CX0 (k+1) f fd ps sp:=by
 let g B kV M L d Y l b rfl y z:=F.ex;let e:Y=.ref c:=by
  unfold Km at i;rw[D]at i;simp only[y]at i
  cases Y<;>first|(contradiction)|skip
  simp only at i;split at i
  .split at i
   .simp_all
   .contradiction
  .cases i
 subst e;refine fn_of y z S len λA outer s H vs Q E O J=>?_;let t h q:=a A outer s H vs Q E O J;exact#[t,h.nox,q]
def oV:Option Int->V|none=>.non|some x=>.int x
def oN:Option Nat->V|none=>.non|some k=>.int (k:Int)
def kw(r:Nat):Key×V:=(Sum.inl (r:Int),.bl true)
def lqF:Str:=("fares" : Str)++".<locals>."++"<lambda>"
def sF(d va wd TT p:Addr):Prop:=p=TT∨p=d∨p=va∨p=wd
def KpS(S:Addr->Prop)(H H':Hp):Prop:=∀ b o,¬ S b->H b=Z o->H' b=Z o
theorem KpS.upd{S:Addr->Prop}(a:KpS S H H1)(M:S p)(o:HO):KpS S H (L2.upd H1 p o):=λc u n h=>by
 rw[ao (λz=>n (by rw[z];exact M))]
 exact a c u n h
inductive spFares(TT:Addr)(vs:List L2.V)(H:L2.Hp)(Q:L2.VK)(x3_:L2.XK):Prop
 |mk (v:V)(n s:Nat)(ls:List Lk) (h0_:vs=[.int (n:Int),v,.int (s:Int)])(h1_:LnAt H v ls)(h2_:Lok n ls)(h3_:s<n)(h4_:Tb lqF lpF TT H)(h5_:∀(t ta va:Addr)(TL:List (Option Int))(VL:List (Option Nat)) H',TbS TT H H'->Tb lqF lpF TT H'->H ta=none->H va=none->H' t=Z (.tup [.ref ta,.ref va])->H' ta=Z (.lst (TL.map oV))->H' va=Z (.lst (VL.map oN))->FI n ls s MM TL VL [] (λ_ _=>False)->Q (.ref t) H')
structure FH(ta va wd TT:Addr)(n s:Nat)(ls:List Lk)(H1:Hp)(TL:List (Option Int))(VL:List (Option Nat))(W:List Nat)(ex:Nat->Nat->Prop)(H:Hp):Prop where
 kp:KpS (sF ta va wd TT) H1 H
 ht:H ta=Z (.lst (TL.map oV))
 hv:H va=Z (.lst (VL.map oN))
 hw:H wd=Z (.dK (W.map kw))
 tb:Tb lqF lpF TT H
 fi:FI n ls s MM TL VL W ex
 nd:W.Nodup
def vW(n:Nat)(v:V):Nat:=match v with | .int x=>x.toNat|_=>n*MM+1
def mesH(n:Nat)(d wd:Addr)(H:Hp):Nat:=match H d,H wd with
 |some (.lst j),Z (.dK L)=>(j.map (vW n)).sum*(n+1)+L.length
 |_,_=>0
theorem FH.mes{TT:Addr}{s:Nat}(h:FH a va wd TT n s ls H1 T O W ex H):mesH n a wd H=wgt (n*MM+1) T*(n+1)+W.length:=by
 unfold mesH wgt;rw[h.ht,h.hw];let e:(T.map oV).map (vW n)=T.map (vOf (n*MM+1)):=by
  rw[Jq];refine Jf λo _=>?_
  cases o<;>rfl
 simp[*]
theorem FH.wlen{TT:Addr}{s:Nat}(h:FH a va wd TT n s ls H1 T O W ex H):W.length<=n :=
 kM n W h.nd λx J=>by
  let y Q:=h.fi.wk x J;let:=(HB.mp Q).1;rw[h.fi.tl]at this;exact this
theorem Fh{r s:Nat}(h:(kw r).1=(kw s).1):r=s:=by
 let:(r:Int)=(s:Int):=by injection h
 omega
theorem zX{r:Nat}:∀{W:List Nat},r∈W->valV (W.map kw) (.inl (r:Int))=Z (.bl true)
 |w::W,h=>by
  rw[Il];by_cases c:(kw w).1=Sum.inl (r:Int)
  .rw[bj c];rfl
  .rw[bo c];refine zX ?_;obtain h|h:=HQ.mp h
   .exact NZ (by rw[h];rfl) c
   .exact h
theorem no_kw{r:Nat}:∀{W:List Nat},r∉W->valV (W.map kw) (.inl (r:Int))=none
 |[],_=>rfl
 |w::W,h=>by
  rw[Il,bo (λc=>h (by rw[Fh (r:=w) (s:=r) c];exact HL ..))]
  exact no_kw λz=>h (HK _ z)
theorem wB(r:Nat):∀ W:List Nat,mS (W.map kw) (.inl (r:Int))=(W.filter (λx=>decide (x≠r))).map kw
 |[]=>rfl
 |w::W=>by
  rw[Il];by_cases c:w=r
  .rw[B3 (by rw[c];rfl),wB r W,Mw (by simpa using c)]
  .rw[B4 (k:=Sum.inl (r:Int)) (λz=>c (Fh (r:=w) (s:=r) z)),wB r W,Ld (by simp_all),Il]
theorem put_kw{t:Nat}(nd:W.Nodup):∃ W':List Nat,putK (W.map kw) (.inl (t:Int)) (.bl true)=W'.map kw/\W'.Nodup/\∀ r,r∈W'↔r∈W∨r=t:=by
 by_cases c:t∈W
 .refine#[W,?_,nd,λr=>#[.inl,λz=>z.elim id λz=>z▸c]];unfold putK;rw[gm,zX c,Option.isSome_some,NX U];rw[Jq];refine Jf λx _=>?_;show(if(kw x).1=Sum.inl (t:Int) then((kw x).1,V.bl true) else kw x)=kw x;split<;>rfl
 .refine#[W++[t],by rw[qw _ (no_kw c),HW];rfl,vx nd c,λr=>by simp]
structure Sg(la aa ta va wd TT:Addr)(n s:Nat)(ls:List Lk)(xs ys:List V)(rows:List (List Nat))(H1:Hp):Prop where
 hA:H1 la=Z (.lst xs)
 hL:LsAt LkAt H1 xs ls
 ok:Lok n ls
 hR:H1 aa=Z (.lst ys)
 rx:bg (sF ta va wd TT) H1 ys rows
 am:AtM n 120 rows (memL ls)
 nla:¬ sF ta va wd TT la
 naa:¬ sF ta va wd TT aa
 tt:∀ t o,H1 t=Z (.tup o)->¬ sF ta va wd TT t
 ntv:ta≠va
 ntw:ta≠wd
 nvw:va≠wd
 nTt:ta≠TT
 nTv:va≠TT
 nTw:wd≠TT
theorem nK{q:Str}{N:Pos}{TT:Addr}(h:Tb q N TT H)(k:∀ b,(b=TT∨∃ c,H b=Z (codO c q))->H' b=H b):Tb q N TT H':=by
 obtain h|⟨c,Y,B⟩:=h
 .exact .inl ((k TT (.inl U)).trans h)
 .exact .inr #[c,(k TT (.inl U)).trans Y,(k c (.inr #[c,B])).trans B]
theorem FH.new{TT:Addr}{s:Nat}(h:FH a va wd TT n s ls H1 T O W ex H)(M:H p=none)(o:HO):FH a va wd TT n s ls H1 T O W ex (upd H p o):=by
 let sm:=ai M o;refine#[λb u f e=>sm _ _ (h.kp b u f e),sm _ _ h.ht,sm _ _ h.hv,sm _ _ h.hw,nK h.tb λb L=>ao λz=>?_,h.fi,h.nd];subst z;obtain L|⟨c,L⟩:=L
 .subst L;obtain y|⟨_,y,_⟩:=h.tb<;>rw[M]at y<;>cases y
 .simp_all
theorem FH.tab{TT:Addr}{s:Nat}(h:FH a va wd TT n s ls H1 T O W ex H)(d:a≠TT)(g:va≠TT)(c:wd≠TT)(sm:TbS TT H H')(tb:Tb lqF lpF TT H'):FH a va wd TT n s ls H1 T O W ex H' :=
 #[λb u f e=>sm _ _ (λz=>f (.inl z)) (h.kp b u f e),sm _ _ d h.ht,sm _ _ g h.hv,sm _ _ c h.hw,tb,h.fi,h.nd]
def FrI(h k d va wd TT:Addr)(n s:Nat)(ls:List Lk)(H1:Hp)(σ:St)(H:Hp):Prop:=∃(e g b a:Option V)(o:List (Option Int))(c:List (Option Nat))(W:List Nat),
 σ=[Z (.int (n:Int)),Z (.ref h),Z (.int (s:Int)),Z (.ref k),Z (.ref d),Z (.ref va),Z (.ref wd),e,g,b,a]/\FH d va wd TT n s ls H1 o c W (λ_ _=>False) H
def InI(h k d va wd TT:Addr)(n s:Nat)(ls:List Lk)(row:List Nat)(m f v:Nat)(H1:Hp)(i:Nat)(σ:St)(H:Hp):Prop:=∃(g b a:Option V)(o:List (Option Int))(c:List (Option Nat))(W:List Nat),
 σ=[Z (.int (n:Int)),Z (.ref h),Z (.int (s:Int)),Z (.ref k),Z (.ref d),Z (.ref va),Z (.ref wd),Z (.int (m:Int)),g,b,a]/\FH d va wd TT n s ls H1 o c W (λr j=>r=m/\j∉row.take i) H/\(∃ x,o[m]?=Z (Z x)) /\
 ((wgt (n*MM+1) o=f/\W.length<v)∨wgt (n*MM+1) o<f)
inductive restF(la TT:Addr)(n s:Nat)(ls:List Lk)(D:L2.Ends)(σ:L2.St)(H:L2.Hp):Prop
 |mk (aa ta va wd:Addr)(xs ys:List V)(rows:List (List Nat))(H1:Hp)(v8 v9 v10:Option V)(TL:List (Option Int))(VL:List (Option Nat))(W:List Nat)(m l0:Nat) (h0_:Sg la aa ta va wd TT n s ls xs ys rows H1)(h1_:σ=[Z (.int (n:Int)),Z (.ref la),Z (.int (s:Int)),Z (.ref aa),Z (.ref ta),Z (.ref va),Z (.ref wd),Z (.int (m:Int)),v8,v9,v10])(h2_:FH ta va wd TT n s ls H1 TL VL W (λr _=>r=m) H)(h3_:(∃ x,TL[m]?=Z (Z x)))(h4_:W.length<l0)(h5_:∀ σ' H',FrI la aa ta va wd TT n s ls H1 σ' H'->mesH n ta wd H'<wgt (n*MM+1) TL*(n+1)+l0->D.nx σ' H')
inductive restM(la TT:Addr)(n s:Nat)(ls:List Lk)(D:L2.Ends)(σ:L2.St)(H:L2.Hp):Prop
 |mk (aa ta va wd:Addr)(xs ys:List V)(rows:List (List Nat))(H1:Hp)(TL:List (Option Int))(VL:List (Option Nat))(W:List Nat)(m w0 l0 i k:Nat)(row:List Nat)(l:Lk)(x:Int)(o:Option Int) (h0_:Sg la aa ta va wd TT n s ls xs ys rows H1)(h1_:σ=[Z (.int (n:Int)),Z (.ref la),Z (.int (s:Int)),Z (.ref aa),Z (.ref ta),Z (.ref va),Z (.ref wd),Z (.int (m:Int)),Z (.int (k:Int)),Z (.int ((bey l m:Nat):Int)),Z (.int (x+l.2.2))])(h2_:FH ta va wd TT n s ls H1 TL VL W (λr j=>r=m/\j∉row.take i) H)(h3_:ls[k]?=Z l)(h4_:mQ l m)(h5_:TL[m]?=Z (Z x))(h6_:TL[bey l m]?=Z o)(h7_:(∀ y,o=Z y->x+l.2.2<y))(h8_:row[i]?=Z k)(h9_:((wgt (n*MM+1) TL=w0/\W.length<l0)∨wgt (n*MM+1) TL<w0))(h10_:∀ σ' H',InI la aa ta va wd TT n s ls row m w0 l0 H1 (i+1) σ' H'->D.nx σ' H')
theorem BV{row:List Nat}{k:Nat}(f:row[i]?=Z k):∀ r j,(r=m/\j∉row.take i)->(r=m/\j∉row.take (i+1))∨(r=m/\j=k):=λr j ⟨Y,B⟩=>by
 by_cases c:j=k
 .exact .inr #[Y,c]
 .refine .inl #[Y,λz=>?_];rw[Ie,f]at z;simp_all
theorem vq{r:Nat}{o:Option Int}(h:T[r]?=Z o):(T.map oV)[r]?=Z (oV o):=by simp[*]
theorem eF:ay ["many","links","start","at","told","via","waiting","room","number","there","fare"] ["many","links","start"] (ar iy):=by ac_nf
theorem ok_fares{c TT:Addr}{bf:FuncData}(F:Fun K "fares" "fares" iy f fd)(T:Txt mg)(ht:Km K "fares"=Z (c,TT))(hn:ID K MB "fares"=Z (Z (.ref f)))(a1:Kd base c TT)(bU:Bm mg base)(bi:Cal P w K mg base 1 "links_at" ["many","links"] spAt f1 G)(a6:Cal P w K mg base 1 "beyond" ["link","room"] F0 f2 bf):FnOk P w K mg base CX0 2 f fd ["many","links","start"] (spFares TT):=by
 refine Fun.okT F eF ht hn (λvs H Q E h=>?_) (λA ac s H vs Q E O h=>?_)
 .let v n aT ls rfl _:=h;rfl
 let v n aT ls rfl{la xs rfl hA hL}ok hs bb kk:=h;let hu:=tO O;let a2:=O.units;let n1:=ok.n1;let l9:=ok.l9;let LM:∀ N,Lam (cxOf CX0 P w K mg base N "fares" (ar iy) f (.ref c) A ac s H E).nox c TT (s.heap.objs.size+1) lqF:=λN=>#[U,a1,bU,U,U,U,U]
 refine#[_,(ag (aA 3 eF.nd (bi.c O (ae (pv 0) (ae (pv 1) ah))))
   (ag (aA 4 eF.nd (d8 [] ["room"] (aN U T.n_range (ae (pv 0) ah)) pg_c pt_c (λC ex s H=>ph)))
   (ag (nU 5 [] ["room"] eF.nd (aN U T.n_range (ae (pv 0) ah)) pg_c pt_c (λC ex s H=>ph))
   (ag (mB aj (mC (pv 4) (pv 2) fj))
   (ag (aA 6 eF.nd (vj (qx (pv 2) oQ vc) U U (λz=>by cases z) ∅))
   (ag (gD PassesOwn.never (aB (op_neE a2) (pv 6) m9 (aC _)) (ag (aA 7 eF.nd (Gi (it:=4) (LM _) U U (O.mono ∅) U (Or.inr (Or.inl U)) U T.n_min (ae (pv 6) ah)))
   (ag (aO (Dn (pv 6) (pv 7) #[U,U,U,U]))
   (lZ (t2:=restF la TT n aT ls) (ak (bc PassesOwn.never U (aP (aV (pv 3) (pv 7))) (bO 8 eF.nd) (ag (aA 9 eF.nd (a6.c O (ae (aV (pv 1) (pv 8)) (ae (pv 7) ah))))
   (ag (aA 10 eF.nd (aw br (aV (pv 4) (pv 7)) (aZ (aV (pv 1) (pv 8)) aj)))
   (ak (bV (PW.pt (u5 (aB op_isN (aV (pv 4) (pv 9)) ph (aC _)) (sL (aB AX (pv 10) (aV (pv 4) (pv 9)) (aC _))))) (lZ (t2:=restM la TT n aT ls) (ag (mB (pv 10) (mC (pv 4) (pv 9) fj))
   (ag (mB (pv 8) (mC (pv 5) (pv 9) fj))
   (ak (l4 hu (pv 6) (pv 9) oQ U)))) (λD0 S0 H0 h0=>?restm)) aR)))))) (λD0 S0 H0 h0=>?restf)))))
   (ak (aE (cR (ae (pv 4) (ae (pv 5) ah))))))))))),?_]
 case restm =>
  let aa ta va wd xs ys rows H1 TL VL W m w0 l0 i k row l x o sg rfl fh j hm J ho al D bR kn:=h0;let tl:=fh.fi.tl;let vl:=fh.fi.vl;let tt:bey l m<n:=by rw[← tl];exact(HB.mp ho).1
  let ci:=(fh.fi.w0 l (HC j));let bS:=sg.ntv;let bm:=sg.ntw;let bC:=sg.nvw;let bP:=sg.nTt;let bQ:=sg.nTv;let bB:=sg.nTw;refine#[_,U,_,U,_,U,ta,_,_,bey l m,U,U,fh.ht,iP (by simp[*]),?_]
  refine#[_,U,_,U,_,U,va,_,_,bey l m,U,U,by rw[ao (Ne.symm bS)];exact fh.hv,iP (by simp[*]),?_]
  let cq:(upd (upd H0 ta (.lst ((TL.map oV).set (bey l m) (.int (x+l.2.2))))) va (.lst ((VL.map oN).set (bey l m) (.int (k:Int))))) wd=Z (.dK (W.map kw)):=by rw[ao (Ne.symm bC),ao (Ne.symm bm)];exact fh.hw
  let wl:=fh.wlen;refine#[_,U,_,U,wd,_,U,DPut.k (k:=.inl ((bey l m:Nat):Int)) (v:=.bl true) cq (by rw[HD];exact aq ∅),?_]
  let W' eW cd mW:=put_kw (t:=bey l m) fh.nd;rw[eW];let B:(TL.map oV).set (bey l m) (.int (x+l.2.2))=(TL.set (bey l m) (Z (x+l.2.2))).map oV:=by rw[LW];rfl
  let e2:(VL.map oN).set (bey l m) (.int (k:Int))=(VL.set (bey l m) (Z k)).map oN:=by rw[LW];rfl
  rw[B,e2];let cs:=fh.fi.mend (W':=W') j hm J ho al mW (BV D);let cv:=CK fh.fi ci.1 ci.2 J ho al;let nm:bey l m≠m:=λe=>by
   rw[e,J]at ho
   cases ho
   lia
  refine kn _ _ #[_,_,_,_,_,W',U,#[((fh.kp.upd (.inr (.inl U)) _).upd (.inr (.inr (.inl U))) _).upd (.inr (.inr (.inr U))) _,?_,?_,af,?_,cs,cd],#[x,by simp[*]],.inr (by grind)]
  .rw[ao bm,ao bS];exact af
  .rw[ao bC];exact af
  .refine nK fh.tb λb L=>?_;rw[ao (λz=>?_),ao (λz=>?_),ao (λz=>?_)]
   .obtain L|⟨c',L⟩:=L
    .exact bP (z▸L)
    .rw[z,fh.ht]at L;cases L
   .obtain L|⟨c',L⟩:=L
    .exact bQ (z▸L)
    .rw[z,fh.hv]at L;cases L
   .obtain L|⟨c',L⟩:=L
    .exact bB (z▸L)
    .rw[z,fh.hw]at L;cases L
 case restf =>
  let aa ta va wd xs ys rows H1 v8 v9 aI TL VL W m l0 sg rfl fh{x J}ck kn:=h0;let mn:m<n:=by rw[← fh.fi.tl];exact(HB.mp J).1
  let rl:=sg.am.len;let row a3:∃ row,rows[m]?=Z row:=#[_,Hz ∅]
  let pr r1 r2 r3:=sg.rx.2 _ _ a3;let hR:=fh.kp _ _ sg.naa sg.hR;let ct:=fh.kp _ _ r2 r3;let an:=sg.am.few row (HC a3);refine#[_,U,_,U,aa,_,_,_,U,U,SqL.of hR,ax r1,pr,U,#[_,SqL.of ct],bI (K:=K) (xs:=row.map iV) (InI la aa ta va wd TT n aT ls row m (wgt (n*MM+1) TL) l0 H1) #[_,_,_,TL,VL,W,U,#[fh.kp,fh.ht,fh.hv,fh.hw,fh.tb,fh.fi.exw λr i l _ _ z=>#[z,by simp],fh.nd],#[x,J],.inl #[U,ck]] (λi M u _ z=>?_) ?_ ?_]
  .let _ _ _ _ _ _ _ f2 _:=z;exact SqL.of (f2.kp _ _ r2 r3)
  .rintro i y M u hy ⟨v8,v9,aI,bn,bT,W2,rfl,f2,⟨x2,be⟩,bR⟩;rw[HN]at hy;let k D rfl:=HV.mp hy;let l j aW:=(sg.am.mm m row a3 k).mp (HC D);let lv b7 bZ:=sg.hL.2 k l j;let lt rfl ca:=bZ;let cb:=f2.kp _ _ (sg.tt _ _ ca) ca;let cl:=f2.kp _ _ sg.nla sg.hA;let b1 b2:=sg.ok.sm l (HC j);let tt:bey l m<n:=bey_lt b1 b2;let cw:=f2.fi.tl;let o ho:∃ o,bn[bey l m]?=Z o:=#[_,Hz ∅]
   refine#[_,U,_,U,la,_,_,_,U,U,SqL.of cl,ax b7,_,U,.ref lt,l,m,U,#[lt,U,cb],?_];refine#[_,U,_,U,ta,_,_,_,U,U,SqL.of f2.ht,ax (vq be),_,U,_,U,la,_,_,_,U,U,SqL.of cl,ax b7,lt,_,2,_,U,U,SqT.of cb,a32,_,_,U,U,?_];refine#[_,U,_,U,ta,_,_,_,U,U,SqL.of f2.ht,ax (vq ho),U,_,U,?_]
   cases o with
   |none =>
    refine iteT (iteT ?_);exact#[aa,ta,va,wd,xs,ys,rows,H1,bn,bT,W2,m,wgt (n*MM+1) TL,l0,i,k,row,l,x2,none,sg,U,f2,j,aW,be,ho,(λy e=>nomatch e),D,bR,λap H' z=>z]
   |some y0 =>
    refine iteF ?_;refine#[_,U,_,U,_,U,ta,_,_,_,U,U,SqL.of f2.ht,ax (vq ho),_,_,U,U,_,U,?_];refine ite2 (λc=>?_) (λc=>?_)
    .let c':x2+l.2.2<y0:=NO c
     exact#[aa,ta,va,wd,xs,ys,rows,H1,bn,bT,W2,m,wgt (n*MM+1) TL,l0,i,k,row,l,x2,Z y0,sg,U,f2,j,aW,be,ho,(λy e=>by simp_all),D,bR,λap H' z=>z]
    .let c':¬ x2+l.2.2<y0:=λz=>c (Ni z)
     exact#[_,_,_,bn,bT,W2,U,#[f2.kp,f2.ht,f2.hv,f2.hw,f2.tb,f2.fi.leave j be ho ∅ (BV D),f2.nd],#[x2,be],bR]
  .rintro M u ⟨v8,v9,aI,bn,bT,W2,rfl,f2,_,bR⟩
   let fin:FH ta va wd TT n aT ls H1 bn bT W2 (λ_ _=>False) u:=#[f2.kp,f2.ht,f2.hv,f2.hw,f2.tb,f2.fi.exw λr i l j aW ⟨z1,z2⟩=>by
    subst z1;rw[HD,Ip]at z2
    exact z2 ((sg.am.mm r row a3 i).mpr #[l,j,aW]),f2.nd]
   refine kn _ _ #[_,_,_,_,bn,bT,W2,U,fin] ?_;rw[fin.mes];let wl:=fin.wlen;rcases bR with⟨d1,d2⟩|d
   .simp_all
   .let Y:(wgt (n*MM+1) bn+1)*(n+1)<=wgt (n*MM+1) TL*(n+1):=Lu _ d
    lia
 refine#[_,U,_,U,.ref la,n,ls,U,#[la,xs,U,hA,hL],ok,λaa ys rows Ha sa co cu rx am=>?_];refine#[_,U,_,U,∅,∅,cg (n:=(n:Int).toNat) (λi zs u=>u=Ha/\zs=HR i V.non) (by rw[HP];exact Ia (aq ∅)) #[U,U] ?_ ?_]
 .rintro i zs u I ⟨rfl,rfl⟩;exact#[U,by rw[JU]]
 rintro zs u _ ⟨rfl,rfl⟩ ta a0;rw[HP];let z1:=ai a0 (.lst (HR n V.non));refine#[_,U,_,U,∅,∅,cg (n:=(n:Int).toNat) (λi zs H3=>H3=upd u ta (.lst (HR n V.non))/\zs=HR i V.non) (by rw[HP];exact Ia (aq ∅)) #[U,U] ?_ ?_]
 .rintro i zs H3 I ⟨rfl,rfl⟩;exact#[U,by rw[JU]]
 rintro zs H3 _ ⟨rfl,rfl⟩ va a4;rw[HP];let bS:ta≠va:=λz=>by rw[← z,af]at a4;contradiction
 let z2:=ai a4 (.lst (HR n V.non));refine#[_,U,_,U,ta,_,_,aT,U,U,by rw[ao bS];exact af,iP (by simp[*]),?_]
 intro wd ce;refine#[_,U,af,[kw aT],U,(by show 1<=15;decide),?_]
 let bm:ta≠wd:=λz=>by rw[← z,af]at ce;contradiction
 let b0:u va=none:=eQ z1 a4;let cc:(upd (upd u ta (.lst (HR n V.non))) va (.lst (HR n V.non))) wd=none:=by rw[ao (Ne.symm bm)]at ce;exact ce
 let bC:va≠wd:=λz=>by rw[← z,af]at cc;contradiction
 let bK:u wd=none:=eQ (z1.trans z2) cc;let cp:H TT≠none:=by obtain y|⟨_,y,_⟩:=bb<;>rw[y]<;>simp
 let aS:u TT≠none:=by
  cases y:H TT with
  |none=>contradiction
  |some o=>rw[sa _ _ y];simp
 let bP:ta≠TT:=λz=>aS (z▸a0);let bQ:va≠TT:=λz=>aS (z▸b0);let bB:wd≠TT:=λz=>aS (z▸bK);let ba:Same u (upd (upd (upd (upd (upd u ta (.lst (HR n V.non))) va (.lst (HR n V.non))) ta (.lst ((HR n V.non).set aT (.int 0)))) wd (.dK [])) wd (.dK (f9 [] [kw aT]))):=aH (aH (aH (z1.trans z2) a0 _) bK _) bK _;let eT:((HR n V.non).set aT (.int 0))=((HR n (none:Option Int)).set aT (Z 0)).map oV:=by rw[LW,List.map_replicate];rfl
 let eV:(HR n V.non)=(HR n (none:Option Nat)).map oN:=by rw[List.map_replicate];rfl
 let g1:(upd (upd (upd (upd (upd u ta (.lst (HR n V.non))) va (.lst (HR n V.non))) ta (.lst ((HR n V.non).set aT (.int 0)))) wd (.dK [])) wd (.dK (f9 [] [kw aT]))) ta=Z (.lst (((HR n (none:Option Int)).set aT (Z 0)).map oV)):=by
  rw[ao bm,ao bm,← eT];exact af
 let g2:(upd (upd (upd (upd (upd u ta (.lst (HR n V.non))) va (.lst (HR n V.non))) ta (.lst ((HR n V.non).set aT (.int 0)))) wd (.dK [])) wd (.dK (f9 [] [kw aT]))) va=Z (.lst ((HR n (none:Option Nat)).map oN)):=by
  rw[ao bC,ao bC,ao (Ne.symm bS),← eV];exact af
 let g3:(upd (upd (upd (upd (upd u ta (.lst (HR n V.non))) va (.lst (HR n V.non))) ta (.lst ((HR n V.non).set aT (.int 0)))) wd (.dK [])) wd (.dK (f9 [] [kw aT]))) wd=Z (.dK ([aT].map kw)):=af;generalize (upd (upd (upd (upd (upd u ta (.lst (HR n V.non))) va (.lst (HR n V.non))) ta (.lst ((HR n V.non).set aT (.int 0)))) wd (.dK [])) wd (.dK (f9 [] [kw aT])))=H1 at ba g1 g2 g3;let sH:Same H H1:=sa.trans ba;let nS:∀ b,u b≠none->b≠TT->¬ sF ta va wd TT b:=λb L nT z=>by
  obtain z|z|z|z:=z
  .exact nT z
  .exact L (z▸a0)
  .exact L (z▸b0)
  .exact L (z▸bK)
 let sg:Sg la aa ta va wd TT n aT ls xs ys rows H1:=#[sH _ _ hA,hL.imp λ_ _ q=>q.mono sH,ok,ba _ _ cu,#[rx.1,λi l e=>by
   let p p1 p2 p3:=rx.2 i l e;exact#[p,p1,nS p (by grind) (λz=>p2 (.inr (z▸cp))),ba _ _ p3]],am,nS la (by rw[sa _ _ hA];simp) (λz=>by obtain y|⟨_,y,_⟩:=bb<;>rw[← z,hA]at y<;>cases y),nS aa (by simp_all) (λz=>cp (z▸co)),(λt o e z=>by
   obtain z|z|z|z:=z
   .rw[z]at e;obtain y|⟨_,y,_⟩:=bb<;>rw[sH _ _ y]at e<;>cases e
   .rw[z,g1]at e;cases e
   .simp_all
   .rw[z,g3]at e;cases e),bS,bm,bC,bP,bQ,bB]
 let b8:Tb lqF lpF TT H1:=by
  obtain y|⟨c',y1,y2⟩:=bb
  .exact .inl (sH _ _ y)
  .exact .inr #[c',sH _ _ y1,sH _ _ y2]
 refine i5 (FrI la aa ta va wd TT n aT ls H1) (λ_ H'=>mesH n ta wd H') #[_,_,_,_,_,_,[aT],U,#[λ_ _ _ e=>e,g1,g2,g3,b8,FI.first ok.w0 hs,HS.mpr #[(by simp),JF]]] ?_ ?_
 .rintro M H3 ⟨v7,v8,v9,aI,TL,VL,W,rfl,fh⟩;refine#[_,U,λp g=>?_];let bJ:=fh.new g (.dK []);refine#[wd,p,W.map kw,U,U,bJ.hw,af,_,U,?_];refine ite2 (λc=>?_) (λc=>?_)
  .let ne:W.map kw≠[]:=λz=>by simp_all
   refine#[_,U,wd,W.map kw,ta,_,U,bJ.hw,ne,U,bJ.ht,bJ.tb,λkv ch=>?_,λkv ch H4 bv a7=>?_]
   .let r O rfl:=Im.mp ch;let x J:=bJ.fi.wk r O;exact#[r,x,U,vq J]
   let r O rfl:=Im.mp ch;let a5:=bJ.tab bP bQ bB bv a7;let x J:=a5.fi.wk r O;refine#[_,U,wd,U,.inl #[_,.inl a5.hw],_,U,W.map kw,.inl (r:Int),.bl true,a5.hw,U,zX O,?_];rw[wB];let mW:∀ y,y∈W.filter (λx=>decide (x≠r))↔y∈W/\y≠r:=λy=>by simp
   let lW:(W.filter (λx=>decide (x≠r))).length<W.length:=by simp[*]
   refine#[aa,ta,va,wd,xs,ys,rows,H1,_,_,_,TL,VL,_,r,W.length,sg,U,#[a5.kp.upd (.inr (.inr (.inr U))) _,by rw[ao bm];exact a5.ht,by rw[ao bC];exact a5.hv,af,nK a5.tb λb L=>ao λz=>?_,a5.fi.take mW,a5.nd.filter _],#[x,J],lW,λap H' y1 y2=>#[y1,by rw[fh.mes];exact y2]]
   obtain L|⟨c',L⟩:=L
   .exact bB (z▸L)
   .rw[z,a5.hw]at L;cases L
  .let e0:W=[]:=by simp_all
   subst e0;refine#[_,U,_,U,(by show 2<=Mz;decide),λt ht=>?_]
   let a5:=bJ.new ht (.tup [.ref ta,.ref va]);refine kk t ta va TL VL _ (λb o nb e=>?_) a5.tb (eQ sa a0) (eQ sa b0) af a5.ht a5.hv a5.fi;exact a5.kp _ _ (nS b (by rw[sa _ _ e];simp) nb) (sH _ _ e)
 .rintro M H4 Q1 Q2 I ⟨v1,B,h⟩;refine#[v1,B,λp g=>?_];let a b ab q1 q2 q3 q4 c' q5 q6:=h p g;exact#[a,b,ab,q1,q2,q3,q4,c',q5,I _ _ q6]
theorem andN(a b:Nat):MY (a:Int) (b:Int)=((a&&&b:Nat):Int):=by
 rfl
theorem shlN(p:Nat):(1:Int)*2^((p:Nat):Int).toNat=((2^p:Nat):Int):=by
 simp
theorem xa(m n:Nat):(m^^^n)+2*(m&&&n)=m+n:=by
 let h:=PyProof.Rows.nat_or_add_and m n;let B:(m|||n)=(m^^^n)+(m&&&n):=by
  let e:(m^^^n)+(m&&&n)=(m^^^n)|||(m&&&n):=by
   let q:=PyProof.Rows.nat_or_add_and (m^^^n) (m&&&n);let z:(m^^^n)&&&(m&&&n)=0:=by
    apply IB;intro i;simp only[Kg,IP,Jt]
    cases m.testBit i<;>cases n.testBit i<;>rfl
   omega
  rw[e];apply IB;intro i;simp only[Kg,IP,I9]
  cases m.testBit i<;>cases n.testBit i<;>rfl
 omega
theorem xorN(a b:Nat):M4 (a:Int) (b:Int)=((a^^^b:Nat):Int):=by
 rw[PyProof.Rows.bitXor_and,andN];let q:=xa a b;omega
def bl(c:Nat):List Nat:=K2.bitsF 0 c
theorem Cy(c:Nat):(bl c).Pairwise (· < ·):=K2.bitsF_sorted c c 0 (HF _)
theorem bl_nd(c:Nat):(bl c).Nodup:=K2.nodup_of_lt (Cy c)
theorem cY{c x:Nat}:x∈bl c↔c.testBit x=true:=by
 let e:K2.S (K2.bitsF 0 c)=c:=by
  let:=K2.bitsF_sum c c 0 (HF _);rw[this,Nat.pow_zero,Nat.mul_one]
 let b:=K2.S_bit (bl_nd c) x;unfold bl at b ⊢;simp_all
theorem bl_lt{c x:Nat}(h:c<2^m)(J:x∈bl c):x<m:=by
 let:=K2.bitsF_lt m c 0 h x J;omega
theorem rP:bl 0=[]:=K2.bitsF_zero 0
def cut2(c f t:Nat):Nat:=c^^^2^f^^^2^t
theorem rH{c f t:Nat}(r:f∈bl c)(i:t∈bl c)(n:f≠t)(x:Nat):x∈bl (cut2 c f t)↔x∈bl c/\x≠f/\x≠t:=by
 rw[cY]at r i;rw[cY,cY];unfold cut2;rw[IP,IP,Ic,Ic];by_cases c1:x=f
 .subst c1;rw[r];simp[Ne.symm n]
 .by_cases c2:x=t
  .subst c2;simp_all
  .let a:¬ f=x:=λz=>c1 z.symm
   lia
theorem Cm{c f t:Nat}{rest:List Nat}(e:bl c=f::rest)(i:t∈rest):(bl (cut2 c f t)).Perm (rest.erase t):=by
 let G:=bl_nd c;rw[e]at G;let I A:=HS.mp G;let g:f≠t:=λz=>I (z▸i);refine(Jp (bl_nd _) (A.erase _)).mpr λx=>?_;rw[rH (by rw[e];exact HL ..) (by simp[*]) g,e,A.mem_erase_iff,HQ]
 constructor
 .rintro⟨Y|Y,B,J⟩
  .contradiction
  .exact#[J,Y]
 .rintro⟨Y,B⟩;exact#[.inr B,λz=>I (z▸B),Y]
theorem Ho{c f t:Nat}(h:c<2^m)(r:f<m)(i:t<m):cut2 c f t<2^m :=
 Jh (Jh h (IL ∅ r)) (IL ∅ i)
def Opt(D:Nat->Nat->Int)(l:List Nat)(t:Int):Prop:=Cs D l t/\∀ c,Cs D l c->t<=c
theorem Opt.perm{D:Nat->Nat->Int}{l l':List Nat}{t:Int}(h:Opt D l t)(p:l.Perm l'):Opt D l' t:=#[h.1.perm p,λc z=>h.2 c (z.perm p.symm)]
theorem Opt.nil{D:Nat->Nat->Int}:Opt D [] 0:=by
 refine#[#[[],.refl _,U],λc h=>?_];let k p e:=h
 cases k with
 |nil=>rw[← e];exact IT _
 |cons q r=>have:=p.length_eq;contradiction
theorem Opt.step{D:Nat->Nat->Int}(sy:∀ a b,D a b=D b a){f h:Nat}{rest:List Nat}{k:Int}(o:h∈rest)(j:Opt D (rest.erase h) k)(y:∀ t∈rest,∃ tr,Opt D (rest.erase t) tr/\D f h+k<=D f t+tr):Opt D (f::rest) (D f h+k):=by
 refine#[(j.1.add f h).perm ((KG o).symm.cons f),λc g=>?_];let e R c0 p A i:=g.part sy (HL ..);let v:rest.Perm (e::R):=p.cons_inv;let m:e∈rest:=v.mem_iff.mpr (HL ..);let r:R.Perm (rest.erase e):=by
  let:=(v.erase e).symm;rw[JV]at this;exact this
 let tr d B:=y e m;let Y:=d.2 c0 (A.perm r);omega
def BtAt(H:Hp)(v:V)(D:Nat->Nat->Int)(m:Nat):Prop:=∃ a Y,v=.ref a/\H a=Z (.lst Y)/\∀ i,i<m->∃ p j,Y[i]?=Z (.ref p)/\H p=Z (.lst j)/\∀ k,k<m->j[k]?=Z (.int (D i k))
def mr(H:Hp)(v:V)(t:Int):Prop:=∃ a y z,v=.ref a/\H a=Z (.tup [.int t,y,z])
def Ent(H:Hp)(D:Nat->Nat->Int)(m:Nat)(kvs:List (Key×V))(c:Nat)(v:V):Prop:=c<2^m/\((c=0/\mr H v 0)∨∃(t:Int)(f g:Nat)(a:Addr)(n:V)(j:Int),v=.ref a/\H a=Z (.tup [.int t,.int (f:Int),.int (g:Int)])/\f∈bl c/\g∈bl c/\f≠g/\valV kvs (.inl ((cut2 c f g:Nat):Int))=Z n/\mr H n j/\t=D f g+j/\Opt D (bl c) t)
structure TI(H:Hp)(D:Nat->Nat->Int)(m:Nat)(kvs:List (Key×V)):Prop where
 en:∀ k v,valV kvs k=Z v->∃ c:Nat,k=.inl (c:Int)/\Ent H D m kvs c v
 z:∃ v,valV kvs (.inl ((0:Nat):Int))=Z v
 nd:(kvs.map (·.1)).Nodup
def Grw(kvs b:List (Key×V))(n:Nat):Prop:=(∀ k v,valV kvs k=Z v->valV b k=Z v)/\∀ c:Nat,valV kvs (.inl (c:Int))=none->valV b (.inl (c:Int))≠none->(bl c).length<=n
def Tps(H H':Hp):Prop:=∀ a j,H a=Z (.tup j)->H' a=Z (.tup j)
theorem mr.mono{t:Int}(h:mr H v t)(s:Tps H H'):mr H' v t:=by
 let a y z e q:=h;exact#[a,y,z,e,s _ _ q]
theorem Ent.cost{c:Nat}(h:Ent H D m kvs c v):∃ t,mr H v t/\Opt D (bl c) t:=by
 obtain⟨_,⟨rfl,h⟩|⟨t,f,g,a,n,j,C,T,_,_,_,_,_,_,q⟩⟩:=h
 .exact#[0,h,by rw[rP];exact Opt.nil]
 .exact#[t,#[a,_,_,C,T],q]
theorem Ent.mono{H H':Hp}{D:Nat->Nat->Int}{m c:Nat}{kvs b:List (Key×V)}{v:V}(h:Ent H D m kvs c v)(s:Tps H H')(g:∀ k v,valV kvs k=Z v->valV b k=Z v):Ent H' D m b c v:=by
 obtain⟨o,⟨e,h⟩|⟨t,f,r,a,n,j,C,T,E,d,p,i,u,l,q⟩⟩:=h
 .exact#[o,.inl #[e,h.mono s]]
 .exact#[o,.inr #[t,f,r,a,n,j,C,s _ _ T,E,d,p,g _ _ i,u.mono s,l,q]]
theorem TI.mono{H H':Hp}{D:Nat->Nat->Int}{m:Nat}{kvs:List (Key×V)}(h:TI H D m kvs)(s:Tps H H'):TI H' D m kvs:=#[λk v e=>by
 let x C T:=h.en k v e
 exact#[x,C,T.mono s λ_ _ z=>z],h.z,h.nd]
theorem TrA.mono{t:T3}(h:TrA H v t)(s:Tps H H'):TrA H' v t:=by
 let a e q:=h;exact#[a,e,s _ _ q]
theorem TbS.tps(s:TbS tb H H')(i:H tb=Z (.dK kvs)):Tps H H':=λa j q=>s _ _ (λw=>by simp_all) q
theorem BtAt.mono(h:BtAt H v D m)(L:H tb=Z (.dK kvs))(s:TbS tb H H'):BtAt H' v D m:=by
 let a Y e q r:=h;refine#[a,Y,e,s _ _ (λw=>by simp_all) q,λi I=>?_]
 let p j o f A:=r i I;exact#[p,j,o,s _ _ (λw=>by simp_all) f,A]
theorem sV{α c:Type}{f:α->c}:∀{l:List α},l.Nodup->(∀ a∈l,∀ b∈l,f a=f b->a=b)->(l.map f).Nodup
 |[],_,_=>JF
 |x::l,G,h=>by
  let I A:=HS.mp G;rw[Il];refine HS.mpr #[λz=>?_,sV A λa E b L=>h a (HK _ E) b (HK _ L)];let y Q e:=Im.mp z;exact I (h x (HL ..) y (HK _ Q) e.symm▸Q)
theorem TI.len(h:TI H D m kvs)(y:m<=14):kvs.length<Mz:=by
 let C:∀ k∈kvs.map (·.1),∃ c:Nat,k=Sum.inl (c:Int)/\c<2^m:=λk f=>by
  cases A:valV kvs k with
  |none=>exact NZ f (xC A)
  |some v =>
   let c e q:=h.en k v A;exact#[c,e,q.1]
 let j:((kvs.map (·.1)).map λk:Key=>match k with | .inl i=>i.toNat | .inr _=>0).Nodup:=by
  refine sV h.nd λa E b L e=>?_;let c1 rfl _:=C a E;let c2 rfl _:=C b L;let T:c1=c2:=by simpa using e
  rw[T]
 let z:=kM (2^m) _ j λx J=>by
  let k f rfl:=Im.mp J;let c rfl g:=C k f;assumption
 rw[HD,HD]at z;let:2^m<=2^14:=IZ ∅ y
 let d:(2:Nat)^14=16384:=by rfl
 let:=PySem.sizeLine_eq;omega
inductive restR(tb:Addr)(bv:V)(c m:Nat)(D:Nat->Nat->Int)(kvs:List (Key×V))(H0:Hp)(Q:VK)(D0:L2.Ends)(σ:L2.St)(H:L2.Hp):Prop
 |mk (v4 v5 v6 v7 v8:Option V)(kvs':List (Key×V))(v:V) (h0_:σ=[Z bv,Z (.int (c:Int)),Z (.ref tb),v4,v5,v6,v7,v8])(h1_:TbS tb H0 H)(h2_:H tb=Z (.dK kvs'))(h3_:TI H D m kvs')(h4_:Grw kvs kvs' (bl c).length)(h5_:valV kvs' (.inl (c:Int))=Z v)(h6_:∀ x H',Q x H'->D0.rt x H')
def LpI(l:V)(tb r wa:Addr)(c f m:Nat)(D:Nat->Nat->Int)(kvs:List (Key×V))(rest:List Nat)(Hb:Hp)(i:Nat)(σ:St)(H:Hp):Prop:=∃(e g:Option V)(a:List (Key×V))(J:List T3)(Y:List V),σ=[Z l,Z (.int (c:Int)),Z (.ref tb),Z (.ref r),Z (.int (f:Int)),Z (.ref wa),e,g]/\(∀ b o,b≠tb->b≠wa->Hb b=Z o->H b=Z o)/\H tb=Z (.dK a)/\TI H D m a/\Grw kvs a (rest.length-1)/\H wa=Z (.lst Y)/\LsAt TrA H Y J/\J.length=i /\
 ∀(d t:Nat),(rest.take i)[d]?=Z t->∃(j:Int)(n:V),J[d]?=Z (D f t+j,(f:Int),(t:Int))/\Opt D (rest.erase t) j/\valV a (.inl ((cut2 c f t:Nat):Int))=Z n/\mr H n j
inductive spLaid(D:Nat->Nat->Int)(m j:Nat)(vs:List L2.V)(H:L2.Hp)(Q:L2.VK)(x3_:L2.XK):Prop
 |mk (bv:V)(tb:Addr)(c:Nat)(kvs:List (Key×V)) (h0_:vs=[bv,.int (c:Int),.ref tb])(h1_:BtAt H bv D m)(h2_:H tb=Z (.dK kvs))(h3_:TI H D m kvs)(h4_:c<2^m)(h5_:m<=14)(h6_:(bl c).length<2*j)(h7_:(bl c).length%2=0)(h8_:∀ v t kvs' H',TbS tb H H'->H' tb=Z (.dK kvs')->TI H' D m kvs'->Grw kvs kvs' (bl c).length->valV kvs' (.inl (c:Int))=Z v->mr H' v t->Opt D (bl c) t->Q v H')
theorem bh:ay ["between","chosen","table","numbers","first","ways","mate","rest"] ["between","chosen","table"] (ar bN):=by ac_nf
theorem DL(sy:∀ a b,D a b=D b a)(F:Fun K "laid_in_pairs" "laid_in_pairs" bN f fd)(T:Txt mg)(al:Cal P w K mg base 1 "bits" ["mask"] my f1 G)(ac:Cal P w K mg base (j+2) "laid_in_pairs" ["between","chosen","table"] (spLaid D m j) f fd):FnOk P w K mg base CX0 (j+3) f fd ["between","chosen","table"] (spLaid D m (j+1)):=by
 refine F.ok bh (by walk_at "l") λaa A n s H vs Q E O h=>?_
 let bv tb c kvs rfl hB hT ti g bS len ev kk:=h;let hu:=tO O;let aW:=O.units
 refine#[_,(ag (bV (AJ (nW hu (pv 1) (pv 2))) (ag (aA 3 bh.nd (al.c O (ae (pv 1) ah)))
   (ag (aA 4 bh.nd (aV (pv 3) aj))
   (ag (aA 5 bh.nd (bw ah))
   (ag (bc PassesOwn.never U (aP (dA fJ (pv 3) (d7 aj) iz)) (bO 6 bh.nd) (ag (aA 7 bh.nd (aw fY (aw fY (pv 1) (aw cE aj (pv 4))) (aw cE aj (pv 6))))
   (ak (aO (d9 HZ Ij Ii aQ (pv 5) (ae (cR (ae (aw br (aV (aV (pv 0) (pv 4)) (pv 6)) (aZ (ac.c O (ae (pv 0) (ae (pv 7) (ae (pv 2) ah)))) aj)) (ae (pv 4) (ae (pv 6) ah)))) ah))))))
   (ak (l4 hu (pv 2) (pv 1) (az (Cv U aW) (by rfl) T.n_min ur (ae (pv 5) ah)) U)))))) aR)
   (lZ (t2:=restR tb bv c m D kvs H Q) (ak (aE (jX hu (pv 2) (pv 1) (λ_ _=>rfl)))) (λD0 S0 H0 h0=>?restr))),?_]
 case restr =>
  let v4 v5 v6 v7 v8 ab v rfl sT bb be gr N kq:=h0;let c' e en:=be.en _ v N;let ec:c'=c:=by
   let:((c:Nat):Int)=(c':Int):=by injection e
   omega
  subst ec;let t Y B:=en.cost;refine#[_,U,_,U,tb,v,U,by let:=DGet.k (k:=.inl ((c':Nat):Int)) bb;rw[N]at this;exact this,?_]
  exact kq _ _ (kk v t ab H0 sT bb be gr N Y B)
 refine#[_,U,_,U,tb,_,U,DGet.k (k:=.inl ((c:Nat):Int)) hT,_,U,?_]
 cases N:valV kvs (.inl ((c:Nat):Int)) with
 |some v =>
  exact iteF #[_,_,_,_,_,kvs,v,U,(λ_ _ _ e=>e),hT,ti,#[λ_ _ z=>z,λc' z1 z2=>NZ z1 z2],N,λ_ _ z=>z]
 |none =>
  refine iteT ?_;let c0:c≠0:=λz=>by
   subst z;let v0 bf:=ti.z;rw[N]at bf;contradiction
  let f rest bK:∃ f rest,bl c=f::rest:=by
   cases q:bl c with
   |cons f rest=>exact#[f,rest,U]
   |nil =>
    refine NZ (IB λi=>?_) c0;rw[Jt]
    cases z:c.testBit i with
    |false=>rfl
    |true =>
     let:=cY.mpr z;simp_all
  let nd:=bl_nd c;rw[bK]at nd;let nf bi:=HS.mp nd;let a1:(bl c).length=rest.length+1:=by simp[*]
  let flt:f<m:=bl_lt g (by grind)
  let cy:∀ t∈rest,t<m:=λt L=>bl_lt g (by simp[*])
  let rm:rest.length+1<=m:=by
   rw[← a1];exact kM m _ (bl_nd c) λx J=>bl_lt g J
  let dd:c<16384:=by
   let:2^m<=2^14:=IZ ∅ bS
   let bR:(2:Nat)^14=16384:=by rfl
   omega
  refine#[_,U,(c:Int),U,∅,∅,λr H1 s1 a2 aT=>?_]
  let cB:(K2.bitsF 0 ((c:Nat):Int).toNat).map iV=iV f::rest.map iV:=by
   rw[HP];show(bl c).map iV=_;simp[*]
  rw[cB]at aT;refine#[_,U,r,_,0,_,U,U,SqL.of aT,(show atI (iV f::rest.map iV) ((0:Nat):Int)=Z (iV f) from ax U),?_];refine#[(by simp),λwa b8=>?_]
  let s2:=ai b8 (.lst []);refine#[_,U,_,U,r,_,U,SqL.of (s2 _ _ aT),λsl bT=>?_];let ca:cutV (iV f::rest.map iV) (Z 1) none=rest.map iV:=by
   let C:HT.sIx (iV f::rest.map iV).length 0 (Z ((1:Nat):Int))=1:=by rfl
   unfold cutV;rw[show(Z (1:Int))=Z ((1:Nat):Int) from rfl,C,HT.sIx_none,List.drop_succ_cons,List.drop_zero,IM];exact JA ∅
  rw[ca];let s3:=ai bT (.lst (rest.map iV));let aI:Same H (upd (upd H1 wa (.lst [])) sl (.lst (rest.map iV))):=s1.trans (s2.trans s3);let bP:wa≠sl:=λz=>by rw[← z,af]at bT;contradiction
  let g1:(upd (upd H1 wa (.lst [])) sl (.lst (rest.map iV))) wa=Z (.lst []):=by rw[ao bP];exact af
  let g2:=af (H:=upd H1 wa (.lst [])) (a:=sl) (o:=.lst (rest.map iV));let df:H wa=none:=eQ s1 b8;generalize (upd (upd H1 wa (.lst [])) sl (.lst (rest.map iV)))=Hb at aI g1 g2;let cD:=aI _ _ hT;let cb:wa≠tb:=λz=>by simp_all
  let cd:sl≠tb:=λz=>by simp_all
  let cF:TbS tb H Hb:=λb o _ e=>aI _ _ e;let cG:TI Hb D m kvs:=ti.mono λa xs q=>aI _ _ q;let dg:BtAt Hb bv D m:=hB.mono hT cF;refine#[sl,U,#[_,SqL.of g2],bI (K:=K) (xs:=rest.map iV) (LpI bv tb r wa c f m D kvs rest Hb) #[_,_,kvs,[],[],U,λ_ _ _ _ e=>e,cD,cG,#[λ_ _ z=>z,λc' z1 z2=>NZ z1 z2],g1,LsAt.nil,U,λa3 t e=>by simp at e] (λi M u _ an=>by let _ _ _ _ _ _ z _:=an;exact SqL.of (z _ _ cd (Ne.symm bP) g2)) ?_ ?_]
  .rintro i x M u J ⟨v7,v8,am,ws,I,rfl,k2,ap,bm,bn,a6,hL,wl,done⟩;rw[HN]at J;let t L rfl:=HV.mp J;let tm:=HC L;let tl:=cy t tm;let ce:f≠t:=λz=>nf (z▸tm);let cp:=Cm bK tm;let cl:(bl (cut2 c f t)).length+1=rest.length:=by
    rw[cp.length_eq,K6 tm];let:=JB tm;omega
   refine#[_,U,_,U,_,_,U,U,#[by lia,by lia,by decide],_,_,U,U,_,U,_,_,U,U,#[by grind,by show(t:Int)<=1000000;omega,by decide],_,_,U,U,?_]
   let ec:M4 (M4 (c:Int) (1*2^((f:Nat):Int).toNat)) (1*2^((t:Nat):Int).toNat)=((cut2 c f t:Nat):Int):=by rw[shlN,shlN,xorN,xorN];rfl
   simp only[ec];let yl:=hL.1;let upL:∀ b zs,H b=Z (.lst zs)->u b=Z (.lst zs):=λb zs q=>k2 b _ (λz=>by simp_all) (λz=>by simp_all) (aI _ _ q)
   let ba zs rfl ch rr:=id hB
   let cK:BtAt u (.ref ba) D m:=#[ba,zs,U,upL _ _ ch,λi' aS=>by
    let p xs r1 r2 r3:=rr i' aS
    exact#[p,xs,r1,upL _ _ r2,r3]]
   let p xs r1 r2 r3:=rr f flt;refine#[_,U,.inl #[U,_,SqL.of a6],_,U,_,U,ba,_,_,_,U,U,SqL.of (upL _ _ ch),ax r1,_,U,p,_,_,_,U,U,SqL.of (upL _ _ r2),ax (r3 t tl),_,U,_,U,_,U,.ref ba,tb,cut2 c f t,am,U,cK,ap,bm,Ho g flt tl,bS,∅,∅,λv tr co H3 bU cQ cT bZ bJ cq cU=>?_]
   let va y z rfl a0:=id cq;refine#[va,_,0,_,U,U,SqT.of a0,a30,_,_,U,U,_,U,_,U,(by show 3<=Mz;decide),λt3 bB=>?_]
   let s4:=ai bB (.tup [.int (D f t+tr),.int (f:Int),.int (t:Int)]);let cs:H3 wa=Z (.lst I):=bU _ _ cb a6;let dh:i<rest.length:=(HB.mp L).1;refine#[wa,I,_,U,U,s4 _ _ cs,aq ∅,?_]
   let ct:Tps u H3:=TbS.tps bU ap;let bC:Tps H3 (upd (upd H3 t3 (.tup [.int (D f t+tr),.int (f:Int),.int (t:Int)])) wa (.lst (I++[.ref t3]))):=λa xs q=>by
    rw[ao (λz=>by simp_all)]
    exact s4 _ _ q
   let bQ:Tps u (upd (upd H3 t3 (.tup [.int (D f t+tr),.int (f:Int),.int (t:Int)])) wa (.lst (I++[.ref t3]))):=λa xs q=>bC _ _ (ct _ _ q);let cW:t3≠wa:=λz=>by simp_all
   refine#[_,_,co,ws++[(D f t+tr,(f:Int),(t:Int))],I++[.ref t3],U,λb o n1 n2 e=>?_,?_,cT.mono bC,#[λk v z=>bZ.1 _ _ (bn.1 _ _ z),λc' y1 y2=>?_],af,?_,by simp[*],λa3 t' e=>?_]
   .rw[ao n2];exact s4 _ _ (bU _ _ n1 (k2 b o n1 n2 e))
   .rw[ao (Ne.symm cb)];exact s4 _ _ cQ
   .cases q2:valV am (.inl (c':Int)) with
    |none=>have:=bZ.2 c' q2 y2;omega
    |some v'=>exact bn.2 c' y1 (by rw[q2];simp)
   .exact(hL.imp λ_ _ q=>TrA.mono q bQ).snoc #[t3,U,by rw[ao cW];exact af]
   .let a5:(rest.take i).length=i:=by grind
    rw[Ie,L]at e;by_cases ci:a3<i
    .rw[HH ∅]at e
     let b0 vr d1 d2 d3 d4:=done a3 t' e;exact#[b0,vr,by grind,d2,bZ.1 _ _ d3,d4.mono bQ]
    .rw[HG ∅]at e
     let h5:=(HB.mp e).1;let h6:a3=i:=by grind
     subst h6;rw[a5,Iq]at e
     cases e
     exact#[tr,.ref va,by simp[*],cU.perm cp,bJ,cq.mono bC]
  .rintro M u ⟨v7,v8,am,ws,I,rfl,k2,ap,bm,bn,a6,hL,wl,done⟩;rw[HD]at wl done;rw[Ip]at done;let rp:1<=rest.length:=by omega
   let c7:ws≠[]:=λz=>by grind
   refine#[_,U,wa,I,ws,U,SqL.of a6,hL,c7,λa3 y t3 hy bB cu=>?_];let il:a3<rest.length:=by rw[← wl];exact(HB.mp bB).1
   let t et:∃ t,rest[a3]?=Z t:=#[_,Hz il];let tm:=HC et;let tr vr d1 d2 d3 d4:=done a3 t et;rw[bB]at d1
   cases d1
   let w' cv a rfl ha:=hL.get hy;rw[bB]at cv
   cases cv
   let ce:f≠t:=λz=>nf (z▸tm);let fb:f∈bl c:=by rw[bK];exact HL ..
   let da:t∈bl c:=by simp[*]
   let db:Opt D (bl c) (D f t+tr):=by
    rw[bK];refine Opt.step sy tm d2 λt' a4=>?_;let k l ek:=Jk a4;let b0 di b7 dc _ _:=done k t' (by simp[*])
    exact#[b0,dc,cu _ (HC b7)]
   let cw:valV am (.inl ((c:Nat):Int))=none:=by
    cases q2:valV am (.inl ((c:Nat):Int)) with
    |none=>rfl
    |some v'=>have:=bn.2 c N (by rw[q2];simp);omega
   let cne:((cut2 c f t:Nat):Int)≠(c:Int):=λz=>by
    simp_all
   let a7:∀ k v,valV am k=Z v->valV (putK am (.inl ((c:Nat):Int)) (.ref a)) k=Z v:=λk v e=>by
    rw[gk,NY (λz=>by simp_all)]
    exact e
   refine#[_,U,_,U,tb,_,U,DPut.k (k:=.inl ((c:Nat):Int)) (v:=.ref a) ap (bm.len bS),?_];let tp:Tps u (upd u tb (.dK (putK am (.inl ((c:Nat):Int)) (.ref a)))):=λb xs q=>by
    rw[ao (λz=>by simp_all)]
    exact q
   refine#[_,_,_,_,_,putK am (.inl ((c:Nat):Int)) (.ref a),.ref a,U,λb o n1 e=>?_,af,#[λk v e=>?_,?_,GK _ bm.nd cw],#[λk v e=>a7 _ _ (bn.1 _ _ e),λc' y1 y2=>?_],by rw[gk,NX U],λ_ _ z=>z]
   .rw[ao n1];exact k2 b o n1 (λz=>by simp_all) (aI _ _ e)
   .rw[gk]at e;by_cases ck:k=.inl ((c:Nat):Int)
    .rw[NX ck]at e
     cases e
     exact#[c,ck,g,.inr #[D f t+tr,f,t,a,vr,tr,U,tp _ _ ha,fb,da,ce,a7 _ _ d3,d4.mono tp,U,db]]
    .rw[NY ck]at e;let c' C d:=bm.en k v e;exact#[c',C,d.mono tp a7]
   .let v0 bf:=bm.z;exact#[v0,a7 _ _ bf]
   .by_cases cc:c'=c
    .rw[cc];exact HF _
    .rw[gk,NY (λz=>cc (by grind))]at y2
     let:=bn.2 c' y1 y2;omega
theorem ok_laid{f f1:Addr}{fd e:FuncData}{D:Nat->Nat->Int}{m:Nat}(sy:∀ a b,D a b=D b a) (F:Fun K "laid_in_pairs" "laid_in_pairs" bN f fd) (T:Txt mg) (k:Cal P w K mg base 1 "bits" ["mask"] my f1 e) (n:fe K fd ["between","chosen","table"] []) (y:mg "laid_in_pairs"=Z (.ref f)) (G:IY K (.ref f)=true):∀ j,FnOk P w K mg base CX0 (j+2) f fd ["between","chosen","table"] (spLaid D m j)
 |0=>#[λg H Q E h=>by
   let l d c L _ _ _ _ _ _ z _:=h;omega,λA o s H x i g Q E _ _ _ _ h=>by
   let l d c L _ _ _ _ _ _ z _:=h
   omega]
 |j+1=>DL sy F T k #[ok_laid sy F T k n y G j,n,y,G]
theorem DR{r:Nat}{o:Option Nat}(h:O[r]?=Z o):(O.map oN)[r]?=Z (oN o):=by simp[*]
theorem FI.even{s:Nat}(I:FI n ls s M T O [] (λ_ _=>False)){r k:Nat}(h:O[r]?=Z (Z k)):∃(l:Lk)(x y:Int),ls[k]?=Z l/\mQ l r/\T[r]?=Z (Z x)/\T[bey l r]?=Z (Z y)/\y+l.2.2=x:=by
 let l x y C D g d p:=I.pr r k h;rcases I.rl (bey l r) y k l d (by simp) C (rS D)with m|⟨t,m,J⟩
 .exact m.elim
 .rw[oK D,g]at m;cases m;exact#[l,x,y,C,D,g,d,∅]
inductive Pth(ls:List Lk)(vv:List (Option Nat))(s:Nat):Nat->List Nat->Prop where
 |root:Pth ls vv s s []
 |step {r k:Nat} {l:Lk} {ks:List Nat} (hv:vv[r]?=Z (Z k)) (hl:ls[k]?=Z l) (h:Pth ls vv s (bey l r) ks):Pth ls vv s r (k::ks)
theorem Up.path{s r:Nat}(h:Up ls O s j r):∃ ks,Pth ls O s r ks/\ks.length=j:=by
 induction h with
 |root=>exact#[[],.root,U]
 |step A G _ Q =>
  let ks p e:=Q;exact#[_::ks,.step A G p,by simp[*]]
theorem Pth.up{s r:Nat}(h:Pth ls O s r ks):Up ls O s ks.length r:=by
 induction h with
 |root=>exact .root
 |step A G _ Q=>exact .step A G Q
def lkA(ls:List Lk)(k:Nat):Lk:=ls.getD k (0,0,0)
theorem lkA_is{k:Nat}{l:Lk}(h:ls[k]?=Z l):lkA ls k=l:=by unfold lkA;simp[*]
def endX(l:Lk):Nat:=2^l.1^^^2^l.2.1
def oddE(ls:List Lk)(u:Nat):Nat->Nat
 |0=>0
 |i+1=>if u.testBit i=true then oddE ls u i^^^endX (lkA ls i) else oddE ls u i
def cstU(ls:List Lk)(u:Nat):Nat->Int
 |0=>0
 |i+1=>if u.testBit i=true then cstU ls u i+(lkA ls i).2.2 else cstU ls u i
theorem lL(x a:Nat):(bl (x^^^2^a)).Perm (tog (bl x) a):=by
 refine(Jp (bl_nd _) (tog_nd (bl_nd x) a)).mpr λy=>?_;rw[GO (bl_nd x),cY,IP,Ic,cY,cY];by_cases c:y=a
 .subst c;simp_all
 .let D:¬ a=y:=λz=>c z.symm
  simp_all
theorem low_join{n:Nat}{d:Nat->Nat->Int}(M:Met n d){ls:List Lk}(u:Nat)(hl:∀ l∈ls,l.1<n/\l.2.1<n/\d l.1 l.2.1<=l.2.2):∀ i,i<=ls.length->oddE ls u i<2^n/\∃ c,Cs d (bl (oddE ls u i)) c/\c<=cstU ls u i
 |0,_=>#[Js n,0,by show Cs d (bl 0) 0;rw[rP];exact Opt.nil.1,IT _]
 |i+1,h=>by
  let Y c B H:=low_join M u hl i ∅
  unfold oddE cstU;by_cases b:u.testBit i=true
  .rw[NX b,NX b];let l e:∃ l,ls[i]?=Z l:=#[_,Hz ∅]
   let j z f:=hl l (HC e);rw[lkA_is e];let G:oddE ls u i^^^endX l=oddE ls u i^^^2^l.1^^^2^l.2.1:=by unfold endX;rw[I8]
   rw[G];refine#[Jh (Jh Y (IL ∅ j)) (IL ∅ z),?_]
   let D a O:=B.two M (bl_nd _) (λx J=>bl_lt Y J) j z;refine#[D,a.perm ?_,∅]
   exact((lL _ _).trans (mV (lL _ _) _)).symm
  .rw[NY b,NY b];exact#[Y,c,B,H]
theorem kL(ls:List Lk)(u v:Nat):∀ i,oddE ls (u^^^v) i=oddE ls u i^^^oddE ls v i
 |0=>(JY 0).symm
 |i+1=>by
  unfold oddE;rw[kL ls u v i,IP];let L:∀ a b e:Nat,(a^^^e)^^^(b^^^e)=a^^^b:=λa b e=>by rw[K4 b e,← I8,I8 a e e,JY,K3]
  cases u.testBit i<;>cases v.testBit i<;>simp
  .rw[I8]
  .rw[I8,I8,K4 (oddE ls v i)]
  .exact(L _ _ _).symm
theorem lx(ls:List Lk)(hw:∀ l∈ls,0<=l.2.2)(u v:Nat):∀ i,i<=ls.length->cstU ls (u^^^v) i<=cstU ls u i+cstU ls v i
 |0,_=>IT _
 |i+1,h=>by
  let Q:=lx ls hw u v i ∅
  let l e:∃ l,ls[i]?=Z l:=#[_,Hz ∅]
  let f:=hw l (HC e);unfold cstU;rw[IP,lkA_is e];grind
inductive Wk(ls:List Lk):Nat->Nat->Int->Prop where
 |nil (a:Nat):Wk ls a a 0
 |step {a b i:Nat} {x:Int} {l:Lk} (h:Wk ls a b x) (hl:ls[i]?=Z l) (he:mQ l b):Wk ls a (bey l b) (x+l.2.2)
theorem Wk.trans{a b c:Nat}{x y:Int}(h:Wk ls a b x)(g:Wk ls b c y):Wk ls a c (x+y):=by
 induction g with
 |nil=>rw[Int.add_zero];exact h
 |step _ G D Q =>
  rw[← Int.add_assoc];exact .step Q G D
theorem Wk.link{a:Nat}{l:Lk}(hl:ls[i]?=Z l)(D:mQ l a):Wk ls a (bey l a) l.2.2:=by
 let:=Wk.step (.nil a) hl D;rw[Jl]at this;exact this
theorem Wk.rev{a b:Nat}{x:Int}(h:Wk ls a b x):Wk ls b a x:=by
 induction h with
 |nil=>exact .nil _
 | @step b i x l h G D Q =>
  let g:=Wk.link G (rS D);rw[oK D]at g;rw[Int.add_comm];exact g.trans Q
theorem Wk.nn(hw:∀ l∈ls,0<=l.2.2){a b:Nat}{x:Int}(h:Wk ls a b x):0<=x:=by
 induction h with
 |nil=>exact IT _
 |step _ G _ Q=>have:=hw _ (HC G);omega
theorem Wk.rel{s:Nat}(I:FI n ls s M T O [] (λ_ _=>False)){a b:Nat}{x:Int}(h:Wk ls a b x):∀ y,T[a]?=Z (Z y)->∃ z,T[b]?=Z (Z z)/\z<=y+x:=by
 induction h with
 |nil=>intro y c;exact#[y,c,∅]
 | @step b i x l h G D Q =>
  intro y c;let z Y B:=Q y c;obtain q|⟨d,J,u⟩:=I.rl b z i l Y (by simp) G D
  .exact q.elim
  .exact#[d,J,∅]
theorem Up.wk{s:Nat}(I:FI n ls s M T O [] (λ_ _=>False)){r:Nat}(h:Up ls O s j r):∀ x,T[r]?=Z (Z x)->Wk ls s r x:=by
 induction h with
 |root=>intro x J;rw[I.st]at J;cases J;exact .nil _
 | @step j r k l A G h Q =>
  intro x J;let c t y C D E d p:=I.even A;rw[G]at C;cases C;rw[J]at E;cases E;let g:=Wk.step (Q y d) G (rS D);rw[oK D,p]at g;exact g
theorem D1{P:Nat->Prop}(h:∃ n,P n):∃ n,P n/\∀ m,P m->n<=m:=by
 let n N:=h;induction n using L9 with
 |ind n Q =>
  by_cases c:∃ m,m<n/\P m
  .let m Y B:=c;exact Q m Y B
  .exact#[n,N,λm y=>KA λz=>c #[m,z,y]]
open Classical in
noncomputable def farD (ls:List Lk) (a b:Nat):Int:=if h:∃ x:Nat,Wk ls a b (x:Int) then((Classical.choose (D1 h):Nat):Int) else 0
theorem g8(hw:∀ l∈ls,0<=l.2.2){a b:Nat}{x:Int}(h:Wk ls a b x):Wk ls a b (farD ls a b)/\∀ y,Wk ls a b y->farD ls a b<=y:=by
 let u:=h.nn hw;let G:∃ x:Nat,Wk ls a b (x:Int):=#[x.toNat,by rw[Jm u];exact h]
 let e:farD ls a b=((Classical.choose (D1 G):Nat):Int):=by unfold farD;rw[dif_pos G]
 let c1 c2:=Classical.choose_spec (D1 G);rw[e];refine#[c1,λy Q=>?_];let c:=Q.nn hw;let:=c2 y.toNat (by rw[Jm c];exact Q)
 omega
theorem BK(ls:List Lk)(a b:Nat):farD ls a b=farD ls b a:=by
 let e:∀ x:Nat,Wk ls a b (x:Int)=Wk ls b a (x:Int):=λx=>propext #[Wk.rev,Wk.rev];let T:(λx:Nat=>Wk ls a b (x:Int))=λx:Nat=>Wk ls b a (x:Int):=funext e;unfold farD;by_cases h:∃ x:Nat,Wk ls a b (x:Int)
 .simp_all
 .simp_all
def Conn(n:Nat)(ls:List Lk):Prop:=∀ b,b<n->∃ x,Wk ls 0 b x
theorem Conn.two(h:Conn n ls){a b:Nat}(E:a<n)(L:b<n):∃ x,Wk ls a b x:=by
 let x J:=h a E;let y Q:=h b L;exact#[_,J.rev.trans Q]
theorem far_met(hw:∀ l∈ls,0<=l.2.2)(g:Conn n ls):Met n (farD ls) where
 sy:=BK ls
 nn:=λa b=>by
  unfold farD;split
  .omega
  .exact IT _
 tr:=λa b c E L d=>by
  let x J:=g.two E L;let y Q:=g.two L d;exact(g8 hw (J.trans Q)).2 _ ((g8 hw J).1.trans (g8 hw Q).1)
theorem far_link(hw:∀ l∈ls,0<=l.2.2){l:Lk}(hl:l∈ls):farD ls l.1 l.2.1<=l.2.2:=by
 let i I e:=Jk hl;let g:=Wk.link (ls:=ls) (i:=i) (l:=l) (a:=l.1) (by simp[*]) (.inl U)
 let b1:bey l l.1=l.2.1:=by unfold bey;rw[NX U]
 rw[b1]at g;exact(g8 hw g).2 _ g
theorem FI.is{s:Nat}(I:FI n ls s M T O [] (λ_ _=>False))(g:Conn n ls)(hs:s<n){r:Nat}(o:r<n):T[r]?=Z (Z (farD ls s r)):=by
 let p:∀ l∈ls,0<=l.2.2:=λl G=>(I.w0 l G).1;let x J:=g.two hs o;let z Y B:=J.rel I 0 I.st;let j u:=I.up r z Y;let b:=u.wk I z Y;let t D:=g8 p J;let c H a:=t.rel I 0 I.st;rw[Y]at H;cases H;let:=D z b;grind
def gH(ks:List Nat):Nat:=ks.foldl (λm k=>m|||2^k) 0
theorem iJ(ks:List Nat)(i:Nat):(gH ks).testBit i=decide (i∈ks):=by
 let d:∀(ks:List Nat)(m:Nat),(ks.foldl (λm k=>m|||2^k) m).testBit i=(m.testBit i||decide (i∈ks)):=by
  intro ks;induction ks with
  |nil=>intro m;simp
  |cons k ks Q =>
   intro m;rw[Mc,Q,I9,Ic];by_cases c:k=i
   .subst c;simp
   .let D:¬ i=k:=λz=>c z.symm
    simp[c,D]
 unfold gH;rw[d];simp
theorem qG(ls:List Lk)(k:Nat):∀ i,oddE ls (2^k) i=if k<i then endX (lkA ls k) else 0
 |0=>by rfl
 |i+1=>by
  unfold oddE;rw[qG ls k i,Ic];by_cases c:k=i
  .subst c;simp
  .lia
theorem rM(ls:List Lk)(k:Nat):∀ i,cstU ls (2^k) i=if k<i then(lkA ls k).2.2 else 0
 |0=>by rw[NY (IX _)];rfl
 |i+1=>by
  unfold cstU;rw[rM ls k i,Ic];by_cases c:k=i
  .simp_all
  .rw[NY (by simpa using c)]
   by_cases d:k<i
   .rw[NX d,NX ∅]
   .rw[NY d,NY ∅]
theorem iB(ls:List Lk):∀ i,oddE ls 0 i=0
 |0=>rfl
 |i+1=>by unfold oddE;rw[Jt,NY Io];exact iB ls i
theorem iS(ls:List Lk):∀ i,cstU ls 0 i=0
 |0=>rfl
 |i+1=>by unfold cstU;rw[Jt,NY Io];exact iS ls i
theorem Pth.node{s r:Nat}(h:Pth ls O s r ks):∀ k∈ks,∃ q j,O[q]?=Z (Z k)/\Up ls O s j q/\j<=ks.length:=by
 induction h with
 |root=>intro k f;cases f
 | @step r k l ks A G h Q =>
  intro c f;obtain rfl|f:=HQ.mp f
  .exact#[r,_,A,.step A G h.up,HF _]
  .let q j Y B J:=Q c f;exact#[q,j,Y,B,by rw[IM];omega]
theorem Pth.join{s:Nat}(I:FI n ls s M T O [] (λ_ _=>False)){r:Nat}(h:Pth ls O s r ks):
  (∀ k∈ks,k<ls.length)/\oddE ls (gH ks) ls.length=2^s^^^2^r/\∀ x,T[r]?=Z (Z x)->cstU ls (gH ks) ls.length<=x:=by
 induction h with
 |root =>
  refine#[(λk f=>nomatch f),?_,λx J=>?_]
  .show oddE ls 0 ls.length=_;rw[iB,JY]
  .rw[I.st]at J;cases J;show cstU ls 0 ls.length<=0;rw[iS];exact IT _
 | @step r k l ks A G h Q =>
  let o Y B:=Q;let l' x y C D g e4 e5:=I.even A;rw[G]at C;cases C;let e:k<ls.length:=(HB.mp G).1;let me:Up ls O s (ks.length+1) r:=.step A G h.up;let nk:k∉ks:=λz=>by
   let q j H d L:=h.node k z;let E _ _ t v _:=I.pr q k H;rw[G]at t;cases t;let qr:q≠r:=λw=>by
    subst w;let:=Up.uniq I.vs me d;omega
   let b:bey l q=r:=by
    unfold bey;obtain N|N:=v<;>obtain u|u:=D
    .exact NZ (N.trans u.symm) qr
    .rw[NX N];exact u.symm
    .simp_all
    .exact NZ (N.trans u.symm) qr
   let:Up ls O s (ks.length+1+1) q:=.step H G (by rw[b];exact me)
   let:=Up.uniq I.vs this d;omega
  let em:gH (k::ks)=gH ks^^^2^k:=IB λi=>by
   rw[iJ,IP,iJ,Ic];by_cases c:i=k
   .simp[*]
   .let a:¬ k=i:=λz=>c z.symm
    simp[c,a]
  rw[em];refine#[λp f=>?_,?_,λx' m=>?_]
  .obtain rfl|f:=HQ.mp f
   .exact e
   .exact o p f
  .rw[kL,Y,qG,NX e,lkA_is G];let ee:endX l=2^bey l r^^^2^r:=by
    unfold endX bey;obtain z|z:=D
    .rw[NX z,z,K4]
    .simp_all
   rw[ee,← I8,I8 (2^s),JY,K3]
  .rw[m]at g;cases g;let H:=lx ls (λl G=>(I.w0 l G).1) (gH ks) (2^k) ls.length (HF _);let d:=B y e4;rw[rM,NX e,lkA_is G]at H;omega
def wy(l:Lk):Nat:=2^l.1|||2^l.2.1
def one1(m:Nat)(l:Lk):Nat:=if m&&&wy l=0 then m else m|||wy l
def cN(ls:List Lk)(m:Nat):Nat:=ls.foldl one1 m
inductive Run(ls:List Lk):Nat->Nat->Nat->Prop where
 |stop {m:Nat}:Run ls m m m
 |go {m a r:Nat} (h:m≠a) (n:Run ls (cN ls m) m r):Run ls m a r
theorem AZ(m:Nat)(l:Lk):m<=one1 m l:=by
 unfold one1;split
 .exact HF _
 .exact Nat.left_le_or
theorem AY{l:Lk}(h:m<2^n)(Y:l.1<n)(h2:l.2.1<n):one1 m l<2^n:=by
 unfold one1 wy;split
 .exact h
 .exact LN h (LN (IL ∅ Y) (IL ∅ h2))
theorem sQ{l:Lk}(h:ls[i]?=Z l):cN (ls.take (i+1)) m=one1 (cN (ls.take i) m) l:=by
 unfold cN;rw[Ie,h,K9];rfl
theorem orN(a b:Nat):MZ (a:Int) (b:Int)=((a|||b:Nat):Int):=by
 rw[PyProof.Rows.bitOr_and,andN];let q:=PyProof.Rows.nat_or_add_and a b;omega
theorem endsV(l:Lk):MZ (1*2^((l.1:Nat):Int).toNat) (1*2^((l.2.1:Nat):Int).toNat)=((wy l:Nat):Int):=by rw[shlN,shlN,orN];rfl
def PaAt(H:Hp)(v:V)(l:Lk):Prop:=∃ t,v=.ref t/\H t=Z (.tup [.int (l.1:Int),.int (l.2.1:Int)])
theorem B6(a b:Int):decide (V.int a=V.int b)=decide (a=b):=decide_eq_decide.mpr #[V.int.inj,congrArg V.int]
inductive spReach(vs:List L2.V)(H:L2.Hp)(Q:L2.VK)(x3_:L2.XK):Prop
 |mk (a:Addr)(ys:List V)(n:Nat)(ls:List Lk) (h0_:vs=[.int 0,.ref a])(h1_:H a=Z (.lst ys))(h2_:LsAt PaAt H ys ls)(h3_:Lok n ls)(h4_:1<=n)(h5_:∀ r:Nat,Run ls 1 0 r->Q (.int (r:Int)) H)
inductive spWhl(vs:List L2.V)(H:L2.Hp)(Q:L2.VK)(x3_:L2.XK):Prop
 |mk (v:V)(n:Nat)(ls:List Lk) (h0_:vs=[.int (n:Int),v])(h1_:LnAt H v ls)(h2_:Lok n ls)(h3_:1<=n)(h4_:∀(r:Nat) H',Run ls 1 0 r->Same H H'->Q (.bl (decide ((r:Int)=1*2^((n:Nat):Int).toNat-1))) H')
structure TxtR(mg:Str->Option Value):Prop where
 n_list:mg "list"=none
 n_reversed:mg "reversed"=none
theorem cm:ay ["start","pairs","mask","ahead","one","two","ends"] ["start","pairs"] (ar kG):=by ac_nf
def mRz(n:Nat)(σ:St):Nat:=match σ with | [_,_,Z (.int M),Z (.int a),_,_,_]=>2*((2^n:Nat)-M).toNat+(if M=a then 0 else 1)|_=>0
theorem ok_reached(F:Fun K "reached" "reached" kG f fd):FnOk P w K mg base CX0 1 f fd ["start","pairs"] spReach:=by
 refine F.ok cm (by walk_at "l") λv A o s H B Q E O h=>?_
 let a Y n k rfl hA hL ok n1 L:=h;let ab:=ok.n1
 refine#[_,(ag (aA 2 cm.nd (aw cE aj (pv 0)))
   (ag (aA 3 cm.nd aj)
   (ag (gD PassesOwn.never (aB jZ (pv 2) (pv 3) (aC _)) (ag (aA 3 cm.nd (pv 2))
   (ak (bc PassesOwn.never U (aP (pv 1)) (pf U (aJ (bO 4 cm.nd) (aJ (bO 5 cm.nd) cP))) (ag (aA 6 cm.nd (aw yJ (aw cE aj (pv 4)) (aw cE aj (pv 5))))
   (ak (bV (aB jZ (aw jD (pv 2) (pv 6)) aj (aC _)) (ak (aA 2 cm.nd (aw yJ (pv 2) (pv 6)))) aR)))))))
   (ak (aE (pv 2)))))),?_]
 refine#[_,U,_,_,U,U,#[by decide,∅,by decide],?_]
 refine i5 (λd u=>∃(M Ah:Nat),∃ v4 v5 v6,u=H/\d=[Z (.int 0),Z (.ref a),Z (.int (M:Int)),Z (.int (Ah:Int)),v4,v5,v6]/\M<2^n/\∀ r,Run k M Ah r->Run k 1 0 r)
  (λd _=>mRz n d) #[1,0,_,_,_,U,U,Nat.one_lt_two_pow ∅,λr z=>z] ?_ ?_
 .rintro d u ⟨M,Ah,v4,v5,v6,rfl,rfl,hM,run⟩;refine#[_,U,_,U,U,_,U,?_];by_cases D:M=Ah
  .subst D;refine qT U ?_;exact#[_,U,L M (run M .stop)]
  refine ite2 (λc=>?_) (λc=>NZ (by rw[B6,My (λz=>D ∅)];rfl) c)
  refine#[_,U,?_];refine#[_,U,a,U,#[_,SqL.of hA],bI (K:=K) (xs:=Y) (λi d j=>∃ v4 v5 v6,j=u/\d=[Z (.int 0),Z (.ref a),Z (.int ((cN (k.take i) M:Nat):Int)),Z (.int (M:Int)),v4,v5,v6]/\cN (k.take i) M<2^n/\M<=cN (k.take i) M) #[_,_,_,U,U,hM,HF _] (λi d j _ aa=>by let _ _ _ z _:=aa;rw[z];exact SqL.of hA) ?_ ?_]
  .rintro i x d j J ⟨v4,v5,v6,rfl,rfl,al,am⟩;let l G p rfl g:=hL.get J;let b1 b2:=ok.sm l (HC G);refine#[p,_,U,SqT.of g,U,_,_,U,_,_,U,U,?_];refine#[_,U,_,_,U,U,#[∅,∅,by decide],_,U,_,_,U,U,#[∅,∅,by decide],_,_,U,U,?_]
   simp only[endsV];refine#[_,U,_,U,_,_,U,U,U,_,U,?_];let t:=sQ (m:=M) G;let ac:=AY al b1 b2;let an:=AZ (cN (k.take i) M) l;simp only[andN];by_cases z:cN (k.take i) M&&&wy l=0
   .refine qT (by rw[z];rfl) ?_
    let e:one1 (cN (k.take i) M) l=cN (k.take i) M:=by unfold one1;rw[NX z]
    exact#[_,_,_,U,by rw[t,e];rfl,by rw[t];exact ac,by rw[t];omega]
   .refine ite2 (λ_=>?_) (λc=>NZ (by rw[B6,My (λy=>z ∅)];rfl) c)
    let e:one1 (cN (k.take i) M) l=cN (k.take i) M|||wy l:=by unfold one1;rw[NY z]
    refine#[_,U,_,U,_,_,U,U,?_];simp only[orN];exact#[_,_,_,U,by rw[t,e];rfl,by rw[t];exact ac,by rw[t];omega]
  .rintro d j ⟨v4,v5,v6,rfl,rfl,al,am⟩;rw[hL.1,Ip]at al am ⊢;refine#[#[_,M,_,_,_,U,U,al,λr z=>run r (.go D z)],?_];show 2*(((2^n:Nat):Int)-((cN k M:Nat):Int)).toNat+(if((cN k M:Nat):Int)=(M:Int) then 0 else 1)<2*(((2^n:Nat):Int)-(M:Int)).toNat+(if(M:Int)=(Ah:Int) then 0 else 1);rw[NY (show ¬ (M:Int)=(Ah:Int) from λz=>D ∅)]
   generalize (2^n:Nat)=N at hM al;split<;>omega
 .rintro d q Q1 Q2 I ⟨v1,C,v2,T,e3,b,e4,q'⟩;exact#[v1,C,v2,T,e3,b,e4,I _ _ q']
theorem Dd:ay ["many","links"] ["many","links"] (ar qk):=by ac_nf
theorem ok_whl(F:Fun K "whole" "whole" qk f fd)(N:Cal P w K mg base 1 "reached" ["start","pairs"] spReach f1 G):FnOk P w K mg base CX0 2 f fd ["many","links"] spWhl:=by
 refine F.ok Dd (by walk_at "l") λY A o s H g Q E O h=>?_
 let v n k rfl{a xs rfl hA B}ok I T:=h;let ab:=ok.n1;let l9:=ok.l9;let xl:=B.1;refine#[_,(ak (aE (vk eG (N.c O (ae aj (ae (d8 [] ["link"] (aP (pv 1)) pg_c pt_c (λC m s H=>(cR (ae (l7 K (pv 0) aj) (ae (l7 K (pv 0) aj) ah))))) ah))) (aw iA (aw cE aj (pv 0)) aj) (aC _)))),?_];refine#[_,U,a,U,#[_,SqL.of hA],bz (K:=K) (xs:=xs) (λi d u=>Same H u/\LsAt PaAt u d (k.take i)) (Ia (aq ∅)) #[λ_ _ e=>e,LsAt.nil] (λi d u _ z=>SqL.of (z.1 _ _ hA)) ?_ ?_]
 .rintro i x d u J ⟨y,hZ⟩;let l j p rfl M:=B.get J;let aa:=y _ _ M;refine#[_,U,p,_,0,_,U,U,SqT.of aa,a30,_,U,p,_,1,_,U,U,SqT.of aa,a31,(by show 2<=Mz;decide),λt L=>?_]
  let q:=ai L (.tup [.int (l.1:Int),.int (l.2.1:Int)]);refine#[y.trans q,?_];rw[Ie,j];exact(hZ.imp λ_ _ ⟨t,e,z⟩=>#[t,e,q _ _ z]).snoc #[t,U,af]
 rintro d u _ ⟨y,hZ⟩ D b;rw[xl,Ip]at hZ;let q:=ai b (.lst d);refine#[D,d,n,k,U,af,hZ.imp λ_ _ ⟨t,e,z⟩=>#[t,e,q _ _ z],ok,I,λr run=>?_];refine#[_,U,_,_,U,U,#[∅,∅,by decide],_,_,U,U,U,?_]
 rw[B6];exact T r _ run (y.trans q)
structure TxtM(mg:Str->Option Value):Prop where
 most:∃ t,mg "MOST_MARKS"=Z (.int 14 t)
theorem CO{p q:Nat}:(M&&&(2^p|||2^q)=0↔M.testBit p=false/\M.testBit q=false)/\(M|||(2^p|||2^q)=M->M.testBit p=true/\M.testBit q=true):=by
 let b1:∀ i,(2^p|||2^q).testBit i=(decide (p=i)||decide (q=i)):=λi=>by rw[I9,Ic,Ic]
 refine#[#[λh=>?_,λ⟨Y,B⟩=>?_],λh=>?_]
 .let Y:=congrArg (λz=>Ky z p) h
  let B:=congrArg (λz=>Ky z q) h;simp only[Kg,b1,Jt]at Y B;constructor
  .simpa using Y
  .simpa using B
 .refine IB λi=>?_;rw[Kg,b1,Jt];lia
 .let Y:=congrArg (λz=>Ky z p) h
  grind
theorem BI(h:M<2^m)(k:∀ p,p<m->M.testBit p=true):M=2^m-1:=by
 refine IB λi=>?_;rw[KO];by_cases z:i<m
 .simp[*]
 .rw[My z];exact Li (Iy h (IZ ∅ ∅))
theorem qD{n:Int}(j:Gl X x)(y:∃ t,X.mg x=Z (.int n t))(hd:(x == ("__debug__" : Str))=false:=by decide):PE X (.Name x pos) (tC (.int n)):=by
 let t h:=y;exact Gj j h #[t,U] hd
theorem mD:∀ i,m<=cN (ls.take i) m/\cN (ls.take i) m<=cN ls m:=λi=>by
 let u:∀(l:List Lk)(m:Nat),m<=cN l m:=λl=>by
  induction l with
  |nil=>intro m;exact HF _
  |cons x l Q=>intro m;exact IK (AZ m x) (Q _)
 refine#[u _ _,?_];let e:cN ls m=cN (ls.drop i) (cN (ls.take i) m):=by
  unfold cN;rw[← K9,JT]
 simp[*]
theorem xc{r:Nat}(h:cN ls r=r){l:Lk}(hl:l∈ls):r.testBit l.1=r.testBit l.2.1:=by
 let i I e:=Jk hl;let a:ls[i]?=Z l:=by simp[*]
 let j:=mD (ls:=ls) (m:=r) i;let E:=mD (ls:=ls) (m:=r) (i+1);let C:cN (ls.take i) r=r:=by omega
 let T:cN (ls.take (i+1)) r=r:=by omega
 rw[sQ a,C]at T;let b1 b2:=CO (M:=r) (p:=l.1) (q:=l.2.1);unfold one1 wy at T;split at T
 .simp_all
 .let s u:=b2 T;simp_all
theorem Run.shut{a r:Nat}(h:Run ls m a r)(hl:∀ l∈ls,l.1<n/\l.2.1<n):(m=a->cN ls m=m)->m<2^n->cN ls r=r/\r<2^n/\(m.testBit 0=true->r.testBit 0=true):=by
 induction h with
 |stop=>intro Y B;exact#[Y U,B,id]
 | @go m a r h b Q =>
  intro _ B;let lt:∀(k:List Lk),(∀ l∈k,l.1<n/\l.2.1<n)->∀ m,m<2^n->cN k m<2^n:=λk=>by
   induction k with
   |nil=>intro _ m y;exact y
   |cons x k c =>
    intro f m y;let b1 b2:=f x (HL ..);exact c (λl hl=>f l (HK _ hl)) _ (AY y b1 b2)
  let bit:∀(k:List Lk)(m:Nat),m.testBit 0=true->(cN k m).testBit 0=true:=λk=>by
   induction k with
   |nil=>intro m y;exact y
   |cons x k c =>
    intro m y;refine c _ ?_;unfold one1;split
    .exact y
    .rw[I9,y];rfl
  let H O j:=Q (λe=>by rw[e];exact e) (lt ls hl m B)
  exact#[H,O,λz=>j (bit ls m z)]
theorem run_full{r:Nat}(h:Run ls 1 0 r)(hl:∀ l∈ls,l.1<n/\l.2.1<n)(n1:1<=n)(g:Conn n ls):r=2^n-1:=by
 let H O j:=h.shut hl (λz=>by cases z) (Nat.one_lt_two_pow ∅)
 refine BI O λp M=>?_;let x J:=g p M;let d:∀{a b:Nat}{x:Int},Wk ls a b x->r.testBit a=r.testBit b:=λh=>by
  induction h with
  |nil=>rfl
  | @step b i x l m q D Q =>
   rw[Q];let v:=xc H (HC q);unfold bey;obtain z|z:=D
   .rw[NX z,z];exact v
   .simp_all
 rw[← d J];exact j ∅
inductive spOnes(vs:List L2.V)(H:L2.Hp)(Q:L2.VK)(x3_:L2.XK):Prop
 |mk (n:Nat) (h0_:vs=[.int (n:Int)])(h1_:n<2^40)(h2_:∀ H',Same H H'->Q (.int (((bl n).length:Nat):Int)) H')
inductive spOdd(vs:List L2.V)(H:L2.Hp)(Q:L2.VK)(x3_:L2.XK):Prop
 |mk (n:Nat) (h0_:vs=[.int (n:Int)])(h1_:n<2^40)(h2_:∀ H',Same H H'->Q (.int (((bl n).length:Nat)%2:Int)) H')
def mw(K:HE):Sp:=λg H Q _=>∃(a:Addr),∃(b:List Nat),(g=[.ref a]/\SqL K H a (b.map iV)/\(∀ k∈b,k<80)/\Q (.int ((gH b:Nat):Int)) H)
inductive FZ(vs:List L2.V)(H:L2.Hp)(Q:L2.VK)(x3_:L2.XK):Prop
 |mk (v:V)(n mk:Nat)(ls:List Lk) (h0_:vs=[.int (n:Int),v,.int (mk:Int)])(h1_:LnAt H v ls)(h2_:Lok n ls)(h3_:1<=n)(h4_:Conn n ls)(h5_:mk<2^n)(h6_:(bl mk).length%2=0)(h7_:(bl mk).length<=14)(h8_:∀ H',Same H H'->Q .non H')
theorem F4:ay ["mask"] ["mask"] (ar xN):=by ac_nf
theorem ok_ones(F:Fun K "ones" "ones" xN f fd)(T:Txt mg)(k:Cal P w K mg base 1 "bits" ["mask"] my f1 G):FnOk P w K mg base CX0 2 f fd ["mask"] spOnes:=by
 refine F.ok F4 (by walk_at "l") λY A o s H g Q E O h=>?_
 let n rfl N y:=h;let b:(2:Nat)^40=1099511627776:=by rfl
 refine#[_,(ak (aE (az av (by rfl) T.n_len aX (ae (k.c O (ae (pv 0) ah)) ah)))),?_]
 refine#[_,U,_,U,∅,∅,λr m J _ a=>?_]
 refine#[r,_,U,.inl (SqL.of a),?_];rw[HD,HP];exact y _ J
theorem sc_odd:ay ["mask"] ["mask"] (ar Df):=by ac_nf
theorem ok_odd(F:Fun K "odd" "odd" Df f fd)(j:Cal P w K mg base 2 "ones" ["mask"] spOnes f1 G):FnOk P w K mg base CX0 3 f fd ["mask"] spOdd:=by
 refine F.ok sc_odd (by walk_at "l") λY A o s H g Q E O h=>?_
 let n rfl N y:=h;refine#[_,(ak (aE (aw bq (j.c O (ae (pv 0) ah)) aj))),?_];exact#[_,U,n,U,N,λm J=>#[_,_,U,U,(by show(0:Int)<2;decide),y _ J]]
theorem i6:ay ["places","mask","place"] ["places"] (ar kH):=by ac_nf
theorem ok_mask(F:Fun K "mask_of" "mask_of" kH f fd):FnOk P w K mg base CX0 1 f fd ["places"] (mw K):=by
 refine F.ok i6 (by walk_at "l") λY A o s H g Q E O h=>?_
 let a b rfl v c q:=h
 refine#[_,(ag (aA 1 i6.nd aj)
   (ag (bc PassesOwn.never U (aP (pv 0)) (bO 2 i6.nd) (ak (aA 1 i6.nd (aw yJ (pv 1) (aw cE aj (pv 2))))))
   (ak (aE (pv 1))))),?_]
 refine#[_,U,a,U,#[_,v],bI (K:=K) (xs:=b.map iV) (λi M u=>∃ G,M=[Z (.ref a),Z (.int ((gH (b.take i):Nat):Int)),G]/\u=H) #[_,U,U] (λi M u _ ⟨_,_,z⟩=>by rw[z];exact v) ?_ ?_]
 .rintro i x M u J ⟨G,rfl,rfl⟩;rw[HN]at J;let k l rfl:=HV.mp J;let d:=c k (HC l);refine#[_,U,_,U,_,_,U,U,#[by lia,by lia,by decide],_,_,U,U,?_]
  let e:MZ ((gH (b.take i):Nat):Int) (1*2^((k:Nat):Int).toNat)=((gH (b.take (i+1)):Nat):Int):=by
   rw[shlN,orN];unfold gH;rw[Ie,l,K9];rfl
  simp only[e];exact#[_,U,U]
 .rintro M u ⟨G,rfl,rfl⟩;rw[HD,Ip];exact#[_,U,q]
theorem nM:ay ["many","links","marks"] ["many","links","marks"] (ar du):=by ac_nf
theorem ok_ref{d q:FuncData}(F:Fun K "refuse_marks" "refuse_marks" du f fd)(T:TxtM mg)(ab:Cal P w K mg base 3 "odd" ["mask"] spOdd f1 G)(aa:Cal P w K mg base 2 "whole" ["many","links"] spWhl f2 d)(j:Cal P w K mg base 2 "ones" ["mask"] spOnes a q):FnOk P w K mg base CX0 4 f fd ["many","links","marks"] FZ:=by
 refine F.ok nM (by walk_at "l") λY A o s H B Q E O h=>?_
 let v n mk k rfl x ok I g l N L y:=h;let b:=ok.n1;let D:mk<2^40:=Iy l (IZ ∅ b)
 let tM e:=T.most
 refine#[_,(ag (bV (aB eG (ab.c O (ae (pv 2) ah)) aj (aC _)) (ak bY) aR)
   (ag (bV (AI (sM (aa.c O (ae (pv 0) (ae (pv 1) ah))))) (ak bY) aR)
   (ak (bV (aB Dw (j.c O (ae (pv 2) ah)) (qD U T.most) (aC _)) (ak bY) aR)))),?_]
 refine#[_,U,mk,U,D,λm J=>?_];refine#[U,_,U,ite2 (λz=>NZ (V.int.inj (NO z)) ∅) (λ_=>?_)]
 refine#[_,U,_,U,v,n,k,U,x.mono J,ok,I,λr u run t=>?_];let M:=run_full run ok.sm I g
 let i:decide ((r:Int)=1*2^((n:Nat):Int).toNat-1)=true:=Ni (by
  rw[shlN,M];let:=Js n
  omega)
 rw[i];refine#[_,U,iteF ?_];refine#[_,U,mk,U,D,λC p=>?_];refine#[_,_,U,U,_,U,ite2 (λz=>NZ (NO z) (by grind)) (λ_=>?_)]
 exact y _ (J.trans (t.trans p))
inductive spRow(vs:List L2.V)(H:L2.Hp)(Q:L2.VK)(x3_:L2.XK):Prop
 |mk (v:V)(va:Addr)(r s:Nat)(ls:List Lk)(VL:List (Option Nat))(ks:List Nat) (h0_:vs=[v,.ref va,.int (r:Int)])(h1_:LnAt H v ls)(h2_:H va=Z (.lst (VL.map oN)))(h3_:VL[s]?=Z none)(h4_:Pth ls VL s r ks)(h5_:ks.length<=40)(h6_:∀ q H',Same H H'->H' q=Z (.lst (ks.reverse.map iV))->Q (.ref q) H')
theorem ku:ay ["links","via","room","back","here"] ["links","via","room"] (ar mX):=by ac_nf
theorem ok_row(F:Fun K "row_to" "row_to" mX f fd)(T:TxtR mg)(am:Cal P w K mg base 1 "beyond" ["link","room"] F0 f1 G):FnOk P w K mg base CX0 2 f fd ["links","via","room"] spRow:=by
 refine F.ok ku (by walk_at "l") λY A o s H B Q E O h=>?_
 let v va r s0 ls VL b rfl{a m rfl hA hL}ac an hP a1 D:=h
 refine#[_,(ag (aA 3 ku.nd (bw ah))
   (ag (aA 4 ku.nd (pv 2))
   (ag (gD PassesOwn.never (aB Gn (aV (pv 1) (pv 4)) ph (aC _)) (ag (aO (d9 HZ Ij Ii aQ (pv 3) (ae (aV (pv 1) (pv 4)) ah)))
   (ak (aA 4 ku.nd (am.c O (ae (aV (pv 0) (aV (pv 1) (pv 4))) (ae (pv 4) ah)))))))
   (ak (aE (sP U U T.n_list U T.n_reversed (pv 3))))))),?_]
 refine#[(by simp),λl g=>?_]
 let lv:l≠va:=λz=>by simp_all
 refine#[_,U,i5 (λM u=>∃(ap:Nat)(aa rest:List Nat),M=[Z (.ref a),Z (.ref va),Z (.int (r:Int)),Z (.ref l),Z (.int (ap:Int))]/\u l=Z (.lst (aa.map iV))/\aa++rest=b/\Pth ls VL s0 ap rest/\Same H u)
  (λ_ u=>match u l with|some (.lst d)=>100-d.length|_=>0) #[r,[],b,U,af,U,hP,ai g _] ?_ ?_]
 .rintro M u ⟨ap,aa,rest,rfl,y,al,L,t⟩;let ab:aa.length+rest.length<=40:=by
   let:=congrArg List.length al;rw[HJ]at this;omega
  let aT:=t _ _ ac
  cases L with
  |root =>
   refine#[_,U,_,U,va,_,_,_,U,U,SqL.of aT,ax (DR an),U,_,U,iteF ?_];rw[Kl]at al;subst al;refine#[_,U,l,_,U,SqL.of y,λq C=>?_];refine D q _ (t.trans (ai C _)) ?_;rw[af,List.map_reverse]
  | @step _ k lk a0 N aS aI =>
   let a2 aW lt rfl n:=hL.2 k lk aS;refine#[_,U,_,U,va,_,_,_,U,U,SqL.of aT,ax (DR N),U,_,U,iteT ?_];rw[IM]at ab;refine#[_,U,.inl #[U,_,SqL.of y],_,U,_,U,va,_,_,_,U,U,SqL.of aT,ax (DR N),l,_,_,U,U,y,aq (by rw[HD];omega),?_]
   let p:=aH t g (.lst (aa.map iV++[.int (k:Int)]));refine#[_,U,_,U,_,U,va,_,_,_,U,U,SqL.of (p _ _ ac),ax (DR N),a,_,_,_,U,U,SqL.of (p _ _ hA),ax aW,_,U,.ref lt,lk,ap,U,#[lt,U,p _ _ n],?_];refine#[#[bey lk ap,aa++[k],a0,U,?_,?_,aI,p],?_]
   .rw[af,HW];rfl
   .rw[JK];exact al
   .rw[y];show(match(upd u l (.lst (aa.map iV++[.int (k:Int)]))) l with|some (.lst d)=>100-d.length|_=>0)<100-(aa.map iV).length
    rw[af];show 100-(aa.map iV++[V.int (k:Int)]).length<100-(aa.map iV).length;rw[HJ,HD,Ik];omega
 .rintro M u Q1 Q2 I ⟨v',e,i,j,a',b',x,d',f',g',J,i',j',k',l',q⟩;exact#[v',e,i,j,a',b',x,d',f',g',J,i',j',k',l',I _ _ q]
def RM(rho:Nat->Nat)(c:Nat):Nat->Nat
 |0=>0
 |i+1=>if c.testBit i=true then RM rho c i^^^2^rho i else RM rho c i
theorem CD(rho:Nat->Nat)(u v:Nat):∀ i,RM rho (u^^^v) i=RM rho u i^^^RM rho v i
 |0=>(JY 0).symm
 |i+1=>by
  unfold RM;rw[CD rho u v i,IP];let L:∀ a b e:Nat,(a^^^e)^^^(b^^^e)=a^^^b:=λa b e=>by rw[K4 b e,← I8,I8 a e e,JY,K3]
  cases u.testBit i<;>cases v.testBit i<;>simp
  .rw[I8]
  .rw[I8,I8,K4 (RM rho v i)]
  .exact(L _ _ _).symm
theorem CF(rho:Nat->Nat)(k:Nat):∀ i,RM rho (2^k) i=if k<i then 2^rho k else 0
 |0=>by rfl
 |i+1=>by
  unfold RM;rw[CF rho k i,Ic];by_cases c:k=i
  .simp[*]
  .rw[NY (by simpa using c)]
   lia
theorem CC(rho:Nat->Nat):∀ i,RM rho 0 i=0
 |0=>rfl
 |i+1=>by unfold RM;rw[Jt,NY Io];exact CC rho i
theorem CG{l:List Nat}(nd:l.Nodup)(x:Nat):∀ i,i<=l.length->(RM (λi=>l.getD i 0) (2^l.length-1) i).testBit x=decide (x∈l.take i)
 |0,_=>by rw[List.take_zero];show(0:Nat).testBit x=_;simp
 |i+1,h=>by
  unfold RM;rw[NX (by rw[KO];exact Ni ∅),IP,CG nd x i ∅,Ic]
  let e:l[i]?=Z l[i]:=Hz ∅
  let b:l.getD i 0=l[i]:=by rw[HU,e];rfl
  rw[b];let O:l[i]∉l.take i:=λz=>by
   let k f d:=Jk z;rw[IC]at f;rw[List.getElem_take]at d;let:=(List.getElem_inj nd).mp d;omega
  let a:x∈l.take (i+1)↔(x∈l.take i∨x=l[i]):=by
   rw[Ie,e];exact HY.trans (or_congr Iff.rfl Ih)
  by_cases c:x=l[i]
  .rw[My (λz=>O (c▸z)),Ni c.symm,Ni (a.mpr (.inr c))];rfl
  .rw[My (show ¬ l[i]=x from λz=>c z.symm),IS];exact decide_eq_decide.mpr #[λh=>a.mpr (.inl h),λh=>(a.mp h).resolve_right c]
theorem RM_all(mk:Nat):RM (λi=>(bl mk).getD i 0) (2^(bl mk).length-1) (bl mk).length=mk:=IB λx=>by
 rw[CG (bl_nd mk) x _ (HF _),Ip]
 cases z:mk.testBit x with
 |true=>exact Ni (cY.mpr z)
 |false=>exact My λy=>by rw[cY,z]at y;cases y
theorem Cn{c f g:Nat}(r:f∈bl c)(j:g∈bl c)(n:f≠g):cut2 c f g<c:=by
 let sub:cut2 c f g&&&c=cut2 c f g:=IB λi=>by
  rw[Kg]
  cases z:(cut2 c f g).testBit i with
  |false=>rfl
  |true =>
   let:=(rH r j n i).mp (cY.mpr z);rw[cY.mp this.1];rfl
 let u:cut2 c f g<=c:=by rw[← sub];exact Nat.and_le_right
 let ne:cut2 c f g≠c:=λz=>by
  let:=(rH r j n f).mp (by rw[z];exact r)
  exact this.2.1 U
 omega
theorem Cs.map{d:Nat->Nat->Int}{rho:Nat->Nat}{l:List Nat}{c:Int}(h:Cs (λi j=>d (rho i) (rho j)) l c):Cs d (l.map rho) c:=by
 let k p e:=h;refine#[k.map λq=>(rho q.1,rho q.2),?_,?_]
 .let a:∀ k:List (Nat×Nat),flat (k.map λq=>(rho q.1,rho q.2))=(flat k).map rho:=λk=>by
   induction k with
   |nil=>rfl
   |cons q r Q=>rw[Il,flat_cons,flat_cons,Q,Il,Il]
  rw[a];exact p.map rho
 .rw[← e];unfold cst;rw[Jq];rfl
theorem Cs.back{d:Nat->Nat->Int}{rho ix:Nat->Nat}{c:Int}(hi:∀ i∈l,ix (rho i)=i)(h:Cs d (l.map rho) c):Cs (λi j=>d (rho i) (rho j)) l c:=by
 let PL p e:=h;let mem:∀ x∈flat PL,rho (ix x)=x:=λx J=>by
  let i M rfl:=Im.mp (p.mem_iff.mp J);rw[hi i M]
 refine#[PL.map λq=>(ix q.1,ix q.2),?_,?_]
 .let a:∀ PL:List (Nat×Nat),flat (PL.map λq=>(ix q.1,ix q.2))=(flat PL).map ix:=λPL=>by
   induction PL with
   |nil=>rfl
   |cons q r Q=>rw[Il,flat_cons,flat_cons,Q,Il,Il]
  rw[a];refine(p.map ix).trans ?_;rw[Jq];let:l.map (ix∘rho)=l:=by
   conv=>rhs;rw[← List.map_id l]
   exact Jf λi M=>hi i M
  rw[this]
 .rw[← e];unfold cst;rw[Jq];refine congrArg List.sum (Jf λq C=>?_);let H:q.1∈flat PL:=by
   unfold flat;exact List.mem_flatMap.mpr #[q,C,HL ..]
  let v:q.2∈flat PL:=by
   unfold flat;exact List.mem_flatMap.mpr #[q,C,HK _ (HL ..)]
  simp[*]
theorem rQ(m:Nat):(bl (2^m-1)).Perm (IG m):=by
 refine(Jp (bl_nd _) (List.nodup_range)).mpr λx=>?_;rw[cY,KO,Ja,decide_eq_true_iff]
theorem Opt.rooms{d:Nat->Nat->Int}(nd:l.Nodup){t:Int}(h:Opt (λi j=>d (l.getD i 0) (l.getD j 0)) (bl (2^l.length-1)) t):Opt d l t:=by
 let J:=h.perm (rQ l.length);let em:(IG l.length).map (λi=>l.getD i 0)=l:=by
  refine LZ (by rw[HD,Jn]) λi Y B=>?_
  rw[List.getElem_map,List.getElem_range,HU,Hz B];rfl
 let ix:∀ i∈IG l.length,l.idxOf (l.getD i 0)=i:=λi I=>by
  simp_all
 refine#[?_,λc g=>J.2 c (Cs.back (rho:=λi=>l.getD i 0) (ix:=λx=>l.idxOf x) ix (by rw[em];exact g))]
 let:=Cs.map (rho:=λi=>l.getD i 0) J.1;rw[em]at this;exact this
inductive pU(vs:List L2.V)(H:L2.Hp)(Q:L2.VK)(x3_:L2.XK):Prop
 |mk (ta r:Addr)(xs vals:List V)(ks:List Nat) (h0_:vs=[.ref ta,.ref r])(h1_:H ta=Z (.lst xs))(h2_:H r=Z (.lst (ks.map iV)))(h3_:vals.length=ks.length)(h4_:ks.length<=900)(h5_:(∀(i k:Nat),ks[i]?=Z k->∃ y,xs[k]?=Z y/\vals[i]?=Z y))(h6_:∀ q H',Same H H'->H q=none->H' q=Z (.lst vals)->Q (.ref q) H')
def uK:Sp:=λg H Q _=>g=[]/\∀ p t G,Same H G->H p=none->G p=Z (.dK [(.inl ((0:Nat):Int),.ref t)])->G t=Z (.tup [.int 0,.non,.non])->Q (.ref p) G
theorem sr:ay ["entries","numbers"] ["entries","numbers"] (ar gC):=by ac_nf
theorem ok_chosen(F:Fun K "chosen_of" "chosen_of" gC f fd):FnOk P w K mg base CX0 1 f fd ["entries","numbers"] pU:=by
 refine F.ok sr (by walk_at "l") λv A o s H g Q E O h=>?_
 let m r xs D b rfl c a p e N L:=h;refine#[_,(ak (aE (d8 [("entries",0)] ["number"] (aP (pv 1)) pg_c pt_c (λC G s H=>(qC K (pv 1) (pv 0)))))),?_];refine#[_,U,r,U,#[_,SqL.of a],bz (K:=K) (xs:=b.map iV) (λi j u=>u=H/\j=D.take i) (Ia (aq (by grind))) #[U,U] (λi j u _ z=>by rw[z.1];exact SqL.of a) ?_ ?_]
 .rintro i x j u J ⟨rfl,rfl⟩;rw[HN]at J;let k l rfl:=HV.mp J;let y Y B:=N i k l;refine#[_,U,_,U,m,_,_,_,U,U,SqL.of c,ax Y,U,?_];rw[Ie,B];rfl
 rintro j u _ ⟨rfl,rfl⟩ q d;rw[HD,← p,Ip];exact L q _ (ai d _) d af
theorem sj:ay [] [] (ar gB):=by ac_nf
theorem ok_table(F:Fun K "new_table" "new_table" gB f fd):FnOk P w K mg base CX0 1 f fd [] uK:=by
 refine F.ok sj (λg H Q E h=>?_) (λY A o s H g Q E O h=>?_)
 .rw[h.1];rfl
 let rfl y:=h;refine#[_,(ak (aE (vj (qx aj (cR (ae aj (ae ph (ae ph ah)))) vc) U U (λz=>by cases z) ∅))),?_]
 intro p M;refine#[(by show 3<=Mz;decide),λt i=>?_]
 let N:=ai M (.dK []);let u:=ai i (.tup [.int 0,.non,.non]);let pt:p≠t:=λz=>by rw[← z,af]at i;cases i
 refine#[by rw[ao pt];exact af,[(.inl ((0:Nat):Int),.ref t)],U,(by show 1<=15;decide),?_]
 refine y p t _ (aH (N.trans u) M _) M af ?_;rw[ao (Ne.symm pt)];exact af
def FdAt(n:Nat)(ls:List Lk)(H:Hp)(v:V)(s:Nat):Prop:=∃ t d a o c,v=.ref t/\H t=Z (.tup [.ref d,.ref a])/\H d=Z (.lst (o.map oV))/\H a=Z (.lst (c.map oN))/\FI n ls s MM o c [] (λ_ _=>False)
theorem tb_same{q:Str}{N:Pos}{TT:Addr}(h:Tb q N TT H)(s:Same H H'):Tb q N TT H':=by
 obtain y|⟨D,B,J⟩:=h
 .exact .inl (s _ _ y)
 .exact .inr #[D,s _ _ B,s _ _ J]
theorem tb_ne{q:Str}{N:Pos}{TT:Addr}(h:Tb q N TT H){b:Addr}{o:HO}(e:H b=Z o)(n:∀ ps,o≠.tbl ps):b≠TT:=λz=>by
 rw[z]at e;obtain y|⟨_,y,_⟩:=h<;>rw[y]at e<;>cases e<;>exact n _ U
def SmT(H H':Hp):Prop:=∀ b o,(∀ A,o≠.tbl A)->H b=Z o->H' b=Z o
theorem SmT.trans(a:SmT H H1)(b:SmT H1 H2):SmT H H2:=λc o n e=>b c o n (a c o n e)
theorem SmT.of(s:Same H H'):SmT H H':=λc o _ e=>s c o e
theorem TbS.smT{q:Str}{N:Pos}{TT:Addr}(s:TbS TT H H')(h:Tb q N TT H):SmT H H':=λb o n e=>s b o (tb_ne h e n) e
theorem SmT.lst{H H':Hp}(s:SmT H H'){b:Addr}{xs:List V}(e:H b=Z (.lst xs)):H' b=Z (.lst xs):=s _ _ (λA z=>by cases z) e
theorem SmT.tup{H H':Hp}(s:SmT H H'){b:Addr}{xs:List V}(e:H b=Z (.tup xs)):H' b=Z (.tup xs):=s _ _ (λA z=>by cases z) e
theorem FdAt.mono{s:Nat}(h:FdAt n ls H v s)(sm:SmT H H'):FdAt n ls H' v s:=by
 let t d a o c e Y B J u:=h;exact#[t,d,a,o,c,e,sm.tup Y,sm.lst B,sm.lst J,u]
theorem LnAt.smT{r:List Lk}(h:LnAt H v r)(s:SmT H H'):LnAt H' v r:=by
 let a Y e z l:=h;exact#[a,Y,e,s.lst z,l.imp λ_ _ ⟨t,e,q⟩=>#[t,e,s.tup q]]
def LT(H H':Hp):Prop:=(∀ b j,H b=Z (.lst j)->H' b=Z (.lst j))/\∀ b j,H b=Z (.tup j)->H' b=Z (.tup j)
theorem LT.same(s:Same H H'):LT H H':=#[λ_ _ e=>s _ _ e,λ_ _ e=>s _ _ e]
theorem LT.tbS(s:TbS tb H H')(h:H tb=Z (.dK kvs)):LT H H':=#[λb j e=>s _ _ (λz=>by simp_all) e,λb j e=>s _ _ (λz=>by simp_all) e]
theorem FdAt.lt{s:Nat}(h:FdAt n ls H v s)(sm:LT H H'):FdAt n ls H' v s:=by
 let t d a o c e Y B J u:=h;exact#[t,d,a,o,c,e,sm.2 _ _ Y,sm.1 _ _ B,sm.1 _ _ J,u]
theorem mr.uniq{t t':Int}(h:mr H v t)(h':mr H v t'):t=t':=by
 let a y z e q:=h;let r I c T b:=h';lia
theorem DW(h:∀ k∈ks,k<N):gH ks<2^N:=JE _ λi I=>by
 rw[iJ];exact My λz=>by let:=h i z;omega
theorem Be(ks:List Nat):gH ks.reverse=gH ks:=IB λi=>by
 rw[iJ,iJ];simp
def PrI(v:V)(n mk m N:Nat)(ls:List Lk)(r E l tb:Addr)(kvs:List (Key×V))(t:Int)(H8:Hp)(σ:St)(H:Hp):Prop:=∃(c u:Nat)(a b:Option V)(w:V)(e:Int),σ=[Z (.int (n:Int)),Z v,Z (.int (mk:Int)),Z (.ref r),Z (.ref E),Z (.ref l),Z (.ref tb),Z (.int (c:Int)),Z (.int t),Z (.int (u:Int)),a,b]/\Same H8 H/\valV kvs (.inl (c:Int))=Z w/\mr H8 w e/\u<2^N/\oddE ls u N=mk^^^RM (λi=>(bl mk).getD i 0) c m/\cstU ls u N<=t-e
inductive spPaired(TT:Addr)(vs:List L2.V)(H:L2.Hp)(Q:L2.VK)(x3_:L2.XK):Prop
 |mk (v:V)(n mk:Nat)(ls:List Lk) (h0_:vs=[.int (n:Int),v,.int (mk:Int)])(h1_:LnAt H v ls)(h2_:Lok n ls)(h3_:1<=n)(h4_:Conn n ls)(h5_:mk<2^n)(h6_:(bl mk).length%2=0)(h7_:(bl mk).length<=14)(h8_:Tb lqF lpF TT H)(h9_:∀(t:Addr)(cost:Int)(u:Nat) H',SmT H H'->Tb lqF lpF TT H'->H' t=Z (.tup [.int cost,.int (u:Int)])->u<2^ls.length->oddE ls u ls.length=mk->Opt (farD ls) (bl mk) cost->cstU ls u ls.length<=cost->Q (.ref t) H')
def RwA(ls:List Lk)(mk:Nat)(H:Hp)(v:V)(s:Nat):Prop:=∃ p,v=V.ref p/\H p=Z (.lst ((bl mk).map λx=>V.int (farD ls s x)))
noncomputable def dR (ls:List Lk) (mk:Nat) (i j:Nat):Int:=farD ls ((bl mk).getD i 0) ((bl mk).getD j 0)
theorem bD:ay ["many","links","marks","rooms","found","between","table","left","cost","used","first","mate"] ["many","links","marks"] (ar mY):=by ac_nf
def mPz(σ:St):Nat:=match σ with | [_,_,_,_,_,_,_,Z (.int c),_,_,_,_]=>c.toNat|_=>0
theorem ok_paired{TT f4 f5 f6 f7 f8:Addr}{bR cb ci cG cK dq cQ:FuncData}(F:Fun K "paired" "paired" mY f fd)(T:Txt mg)(aW:Cal P w K mg base 4 "refuse_marks" ["many","links","marks"] FZ f1 G)(ap:Cal P w K mg base 1 "bits" ["mask"] my f2 bR)(bB:Cal P w K mg base 2 "fares" ["many","links","start"] (spFares TT) I cb)(a1:Cal P w K mg base 1 "chosen_of" ["entries","numbers"] pU f4 ci)(a2:Cal P w K mg base 1 "new_table" [] uK f5 cG)(GL:∀(D:Nat->Nat->Int)(m:Nat),(∀ a b,D a b=D b a)->Cal P w K mg base 10 "laid_in_pairs" ["between","chosen","table"] (spLaid D m 8) f6 cK)(an:Cal P w K mg base 1 "mask_of" ["places"] (mw K) f7 dq)(ch:Cal P w K mg base 2 "row_to" ["links","via","room"] spRow f8 cQ):FnOk P w K mg base CX0 11 f fd ["many","links","marks"] (spPaired TT):=by
 refine F.ok bD (by walk_at "l") λab A aa s H vs Q E O h=>?_
 let v n mk ls rfl hV ok n1 hc a6 ev ac bP kk:=h;let hu:=tO O;let bb:=ok.n1;let cB:=ok.l9;let am:=GL (dR ls mk) (bl mk).length (λa b=>BK _ _ _);let cc:mk<1099511627776:=by
  let Y:2^n<=2^40:=IZ ∅ bb
  let cy:(2:Nat)^40=1099511627776:=by rfl
  omega
 let be:∀ x∈bl mk,x<n:=λx J=>bl_lt a6 J
 refine#[_,(ag (aO (aW.c O (ae (pv 0) (ae (pv 1) (ae (pv 2) ah)))))
   (ag (aA 3 bD.nd (ap.c O (ae (pv 2) ah)))
   (ag (nU 4 [("many",0),("links",1)] ["room"] bD.nd (aP (pv 3)) pg_c pt_c (λC ex s H=>(bB.c O (ae (pv 1) (ae (pv 2) (ae (pv 0) ah))))))
   (ag (nU 5 [("rooms",3)] ["told","via"] bD.nd (aP (pv 4)) (λC ex s H=>(gE (n:=2) (K:=K) U U (aJ (bp (i:=0) (show(["told","via","rooms"]:List Str).Nodup from by decide) U (Or.inl U)) (aJ (bp (i:=1) (show(["told","via","rooms"]:List Str).Nodup from by decide) U (Or.inl U)) cP)))) pt_c (λC ex s H=>(a1.c O (ae (pv 0) (ae (pv 2) ah)))))
   (ag (aA 6 bD.nd (a2.d O))
   (ag (aA 7 bD.nd (aw iA (aw cE aj (az av (by rfl) T.n_len aX (ae (pv 3) ah))) aj))
   (ag (aA 8 bD.nd (aZ (am.c O (ae (pv 5) (ae (pv 7) (ae (pv 6) ah)))) aj))
   (ag (aA 9 bD.nd aj)
   (ag (gD PassesOwn.never (aB jZ (pv 7) aj (aC _)) (ag (aA 10 bD.nd (aZ (jX hu (pv 6) (pv 7) (λ_ _=>rfl)) aj))
   (ag (aA 11 bD.nd (aZ (jX hu (pv 6) (pv 7) (λ_ _=>rfl)) aj))
   (ag (aA 9 bD.nd (aw fY (pv 9) (an.c O (ae (ch.c O (ae (pv 1) (ae (aZ (aV (pv 4) (pv 10)) aj) (ae (aV (pv 3) (pv 11)) ah)))) ah))))
   (ak (aA 7 bD.nd (aw fY (aw fY (pv 7) (aw cE aj (pv 10))) (aw cE aj (pv 11)))))))))
   (ak (aE (cR (ae (pv 8) (ae (pv 9) ah)))))))))))))),?_]
 refine#[_,U,_,U,_,U,v,n,mk,ls,U,hV,ok,n1,hc,a6,ev,ac,λH1 s1=>?_];refine#[_,U,(mk:Int),U,∅,∅,λr H2 s2 ba bK=>?_]
 rw[HP]at bK;let aS:=s1.trans s2;let ck:=tb_same bP aS;let bC:H2 r=Z (.lst ((bl mk).map iV)):=bK;let bi:((bl mk).map iV).length=(bl mk).length:=HD ..;refine#[_,U,r,U,#[_,SqL.of bC],cJ (K:=K) (xs:=(bl mk).map iV) (λi zs H3=>SmT H2 H3/\Tb lqF lpF TT H3/\LsAt (FdAt n ls) H3 zs ((bl mk).take i)) (Ia (aq ∅)) #[λ_ _ _ e=>e,ck,LsAt.nil] (λi zs H3 _ z=>SqL.of (z.1.lst bC)) ?_ ?_ ?_]
 .rintro i x zs H3 J ⟨bS,bT,hZ⟩;rw[HN]at J;let k hk rfl:=HV.mp J;refine#[U,yesT #[_,U,_,U,_,U,v,n,k,ls,U,LnAt.smT (hV.mono aS) bS,ok,be k (HC hk),bT,λt ta va TL VL H4 bZ a7 _ _ ht a0 a3 fi=>?_]];let b0:=TbS.smT bZ bT;refine#[bS.trans b0,a7,?_];rw[Ie,hk];exact(hZ.imp λ_ _ q=>q.mono b0).snoc #[t,ta,va,TL,VL,U,ht,a0,a3,fi]
 .rintro zs H3 ⟨bS,bT,hZ⟩ fa b7;rw[bi,Ip]at hZ;let z4:=ai b7 (.lst zs);let bJ:SmT H2 (upd H3 fa (.lst zs)):=bS.trans (.of z4);let a7:=tb_same bT z4;let bU:LsAt (FdAt n ls) (upd H3 fa (.lst zs)) zs (bl mk):=hZ.imp λ_ _ q=>q.mono (.of z4);let a5:(upd H3 fa (.lst zs)) fa=Z (.lst zs):=af;generalize upd H3 fa (.lst zs)=H4 at bJ a7 bU a5;let zl:=bU.1;let b8:=bJ.lst bC;refine#[_,U,fa,U,#[_,SqL.of a5],cJ (K:=K) (xs:=zs) (λi ws H5=>Same H4 H5/\LsAt (RwA ls mk) H5 ws ((bl mk).take i)) (Ia (aq ∅)) #[λ_ _ e=>e,LsAt.nil] (λi ws H5 _ z=>SqL.of (z.1 _ _ a5)) ?_ ?_ ?_]
  .rintro i x ws H5 J ⟨s5,hW⟩;let s0 bQ t ta va TL VL rfl ht a0 a3 fi:=bU.get J;let cl:=be s0 (HC bQ);refine#[t,_,U,SqT.of (s5 _ _ ht),U,_,_,U,_,_,U,U,U,yesT #[_,U,_,U,ta,r,_,(bl mk).map λx=>V.int (farD ls s0 x),bl mk,U,s5 _ _ a0,s5 _ _ b8,HD ..,∅,λj k hk=>?_,λq H6 s6 dr hq=>?_]]
   .refine#[.int (farD ls s0 k),?_,by simp[*]]
    exact vq (fi.is hc cl (be k (HC hk)))
   .refine#[s5.trans s6,?_];rw[Ie,bQ];exact(hW.imp λ_ _ ⟨p,e,z⟩=>#[p,e,s6 _ _ z]).snoc #[q,U,hq]
  .rintro ws H5 ⟨s5,hW⟩ bv cT;rw[zl,Ip]at hW;let z6:=ai cT (.lst ws);refine#[U,λtb t0 H7 s7 co bn cp=>?_];let bf:Same H4 H7:=s5.trans (z6.trans s7);let cU:LsAt (RwA ls mk) H7 ws (bl mk):=hW.imp λ_ _ ⟨p,e,z⟩=>#[p,e,s7 _ _ (z6 _ _ z)];let cq:H7 bv=Z (.lst ws):=s7 _ _ af;let aI:∀ i,i<(bl mk).length->(bl mk)[i]?=Z ((bl mk).getD i 0):=λi N=>by simp[*]
   let bt:BtAt H7 (.ref bv) (dR ls mk) (bl mk).length:=#[bv,ws,U,cq,λi N=>by
    let y hy p rfl hp:=cU.2 i _ (aI i N)
    exact#[p,_,hy,hp,λk hk=>by rw[HN,aI k hk];rfl]]
   let ti:TI H7 (dR ls mk) (bl mk).length [(.inl ((0:Nat):Int),.ref t0)]:=#[(λk w e=>by
    by_cases c:(Sum.inl ((0:Nat):Int):Key)=k
    .rw[bj c]at e
     cases e
     exact#[0,c.symm,Js _,.inl #[U,t0,_,_,U,cp]]
    .rw[bo c]at e
     cases e),#[_,bj U],HS.mpr #[(by simp),JF]]
   let cs:=bf _ _ b8;let ca:=tb_same a7 bf;let eL:(1:Int)*2^((((bl mk).map iV).length:Nat):Int).toNat-1=((2^(bl mk).length-1:Nat):Int):=by
    rw[bi,shlN];let:=Js (bl mk).length;omega
   refine#[_,U,r,_,U,.inl (SqL.of cs),_,_,U,U,#[∅,by grind,by decide],_,_,U,U,?_]
   simp only[eL];let cW:(bl (2^(bl mk).length-1)).length=(bl mk).length:=by rw[(rQ _).length_eq,Jn]
   refine#[_,U,_,U,_,U,.ref bv,tb,2^(bl mk).length-1,_,U,bt,bn,ti,by let:=Js (bl mk).length;omega,ac,by grind,by rw[cW];exact ev,λw t al H8 sT cd ce gr hv cv op=>?_]
   let ct:=LT.tbS sT bn;let va y z rfl a3:=id cv;refine#[va,_,0,_,U,U,SqT.of a3,a30,?_];let dc:Opt (farD ls) (bl mk) t:=Opt.rooms (bl_nd mk) op;let ds:Tb lqF lpF TT H8:=nK ca λb L=>by
    let hs:∃ o,H7 b=Z o/\b≠tb:=by
     obtain rfl|⟨c',L⟩:=L
     .obtain q|⟨_,q,_⟩:=ca
      .exact#[_,q,λz=>by simp_all]
      .exact#[_,q,λz=>by simp_all]
     .exact#[_,L,λz=>by rw[z,bn]at L;cases L]
    let o Y B:=hs;rw[Y];exact sT _ _ B Y
   let cD:SmT H H8:=λb o no e=>by
    let e4:=bJ b o no (aS _ _ e);let e7:=bf _ _ e4;refine sT _ _ (λz=>?_) e7;subst z;let:=eQ (s5.trans z6) co;simp_all
   let dt:LsAt (FdAt n ls) H8 zs (bl mk):=bU.imp λ_ _ q=>(q.lt (LT.same bf)).lt ct;let dd:=ct.1 _ _ (bf _ _ a5);let dv:=ct.1 _ _ cs;let dw:LnAt H8 v ls:=(LnAt.smT hV cD);refine i5 (PrI v n mk (bl mk).length ls.length ls r fa bv tb al t H8) (λM _=>mPz M) #[2^(bl mk).length-1,0,_,_,_,t,U,λ_ _ e=>e,hv,cv,Js _,by rw[iB,RM_all,JY],by rw[iS];omega] ?_ ?_
   .rintro M H9 ⟨c,u,aT,a4,w,tc,rfl,s9,hw,cw,df,ou,cu⟩;let c' cF dh en:=ce.en _ _ hw;let dx:c'=c:=by
     let:(c:Int)=(c':Int):=by injection cF
     omega
    subst dx;refine#[_,U,U,_,U,?_];by_cases c0:c'=0
    .subst c0;refine qT U ?_;let dG:tc=0:=by
      rcases en with⟨_,q⟩|⟨_,f,_,_,_,_,_,_,q,_⟩
      .exact cw.uniq q
      .rw[rP]at q;cases q
     refine#[_,U,_,U,(by show 2<=Mz;decide),λt9 dy=>?_]
     let z9:=ai dy (.tup [.int t,.int (u:Int)]);refine kk t9 t u _ (cD.trans (.of (s9.trans z9))) (tb_same ds (s9.trans z9)) af df ?_ dc ∅
     rw[ou,CC,K3]
    .refine ite2 (λ_=>?_) (λz=>NZ (by rw[My (λy=>c0 (by let:=V.int.inj y;omega))];rfl) z)
     let tt f g a vr tr rfl ha hf hg fg dz dC dH _:∃(t:Int)(f g:Nat)(a:Addr)(vr:V)(tr:Int),w=.ref a/\H8 a=Z (.tup [.int t,.int (f:Int),.int (g:Int)])/\f∈bl c'/\g∈bl c'/\f≠g/\valV al (.inl ((cut2 c' f g:Nat):Int))=Z vr/\mr H8 vr tr/\t=dR ls mk f g+tr/\Opt (dR ls mk) (bl c') t:=by
      rcases en with⟨q,_⟩|q
      .exact NZ q c0
      .exact q
     let dM:tc=tt:=cw.uniq #[a,_,_,U,ha];let flt:=bl_lt dh hf;let c7:=bl_lt dh hg;let da:=s9 _ _ cd;let di:=s9 _ _ ha;let dg:DGet H9 tb (.int (c':Int)) (Z (.ref a)):=by let:=DGet.k (k:=.inl ((c':Nat):Int)) da;rw[hw]at this;exact this
     refine#[_,U,_,U,tb,_,U,dg,a,_,1,_,U,U,SqT.of di,a31,?_];refine#[_,U,_,U,tb,_,U,dg,a,_,2,_,U,U,SqT.of di,a32,?_];let y hy tF dN dD TL VL rfl dE dF dn fi:=dt.2 f _ (aI f flt);let gl:=be _ (HC (aI g c7));let fl:=be _ (HC (aI f flt));let xg:=fi.is hc fl gl;let j up:=fi.up _ _ xg;let ks dp kl:=up.path;let sh:=up.short fi.vs;let vl:=fi.vl;let j1 j2 j3:=dp.join fi;let dU:=j3 _ xg;refine#[_,U,_,U,_,U,_,U,fa,_,_,_,U,U,SqL.of (s9 _ _ dd),ax hy,tF,_,1,_,U,U,SqT.of (s9 _ _ dE),at1,_,U,_,U,r,_,_,_,U,U,SqL.of (s9 _ _ dv),ax (show((bl mk).map iV)[g]?=Z (V.int (((bl mk).getD g 0:Nat):Int)) by rw[HN,aI g c7];rfl),v,dD,(bl mk).getD g 0,(bl mk).getD f 0,ls,VL,ks,U,dw.mono s9,s9 _ _ dn,fi.vs,dp,∅,λq db bm hq=>?_]
     refine#[q,ks.reverse,U,SqL.of hq,λk hk=>by let:=j1 k (List.mem_reverse.mp hk);omega,_,_,U,U,?_]
     let ex:M4 (u:Int) ((gH ks.reverse:Nat):Int)=((u^^^gH ks:Nat):Int):=by rw[Be,xorN]
     simp only[ex];refine#[_,U,_,U,_,_,U,U,#[∅,∅,by decide],_,_,U,U,_,U,_,_,U,U,#[∅,∅,by decide],_,_,U,U,?_]
     let ec:M4 (M4 (c':Int) (1*2^((f:Nat):Int).toNat)) (1*2^((g:Nat):Int).toNat)=((cut2 c' f g:Nat):Int):=by rw[shlN,shlN,xorN,xorN];rfl
     simp only[ec];let cx:=lx ls (λl hl=>(ok.w0 l hl).1) u (gH ks) ls.length (HF _);refine#[#[cut2 c' f g,u^^^gH ks,Z (.int (f:Int)),Z (.int (g:Int)),vr,tr,U,s9.trans bm,dz,dC,Jh df (DW j1),?_,?_],?_]
     .rw[kL,ou,j2];unfold cut2;rw[CD,CD,CF,CF,NX flt,NX c7,I8,I8]
     .let ed:dR ls mk f g=farD ls ((bl mk).getD f 0) ((bl mk).getD g 0):=rfl
      omega
     .show((cut2 c' f g:Nat):Int).toNat<((c':Nat):Int).toNat;let:=Cn hf hg fg;omega
   .rintro M H9 Q1 Q2 N ⟨v1,e1,e2,b,e3,q⟩;exact#[v1,e1,e2,b,e3,N _ _ q]
  .rintro i ws H5 ⟨_,hW⟩;rw[hW.1,IC];omega
 .rintro i zs H3 ⟨_,_,hZ⟩;rw[hZ.1,IC];omega
theorem yc(ok:Lok n ls)(g:Conn n ls){u:Nat}{cost:Int}(O:Opt (farD ls) (bl mk) cost)(e:oddE ls u ls.length=mk):cost<=cstU ls u ls.length:=by
 let p:∀ l∈ls,0<=l.2.2:=λl G=>(ok.w0 l G).1;let _ c Y B:=low_join (far_met p g) u (λl G=>#[(ok.sm l G).1,(ok.sm l G).2,far_link p G]) ls.length (HF _);rw[e]at Y;let:=O.2 c Y;omega
theorem Opt.turn{d:Nat->Nat->Int}(M:Met n d)(z:∀ a,d a a=0){S:List Nat}(nd:S.Nodup)(lt:∀ s∈S,s<n){x:Nat}(J:x<n){R:Nat->Int}(A:∀ s∈S,Opt d (S.erase s) (R s)){m:Int}(j:∃ s∈S,m=d s x+R s)(hl:∀ s∈S,m<=d s x+R s):Opt d (tog S x) m:=by
 let b o r:=j;unfold tog;by_cases c:x∈S
 .rw[NX c];let Y:=hl x c;rw[z x]at Y;let D H O:=(A b o).1.two M (nd.erase _) (λy Q=>lt y (Lq Q)) (lt b o) J;let k:b∉S.erase b:=List.Nodup.not_mem_erase nd;let C:tog (S.erase b) b=b::S.erase b:=by unfold tog;rw[NY k]
  let v:(tog (tog (S.erase b) b) x).Perm (S.erase x):=by
   rw[C];let:=mV (KG o).symm x;refine this.trans ?_;unfold tog;rw[NX c]
  let B:=(A x c).2 _ (H.perm v);let:m=R x:=by omega
  rw[this];exact A x c
 .rw[NY c];let e:m=d x b+R b:=by rw[r,M.sy x b]
  rw[e];refine Opt.step M.sy o (A b o) λt i=>#[R t,A t i,?_];let:=hl t i;rw[← e,M.sy x t];exact this
theorem Ee(hw:∀ l∈ls,0<=l.2.2)(a:Nat):farD ls a a=0:=by
 let Y:=(g8 hw (Wk.nil (ls:=ls) a)).2 0 (.nil a);let B:0<=farD ls a a:=by
  unfold farD;split
  .omega
  .exact IT _
 omega
theorem Opt.map{d:Nat->Nat->Int}{rho ix:Nat->Nat}{L:List Nat}{t:Int}(hi:∀ i∈L,ix (rho i)=i)(h:Opt (λi j=>d (rho i) (rho j)) L t):Opt d (L.map rho) t :=
 #[Cs.map h.1,λc g=>h.2 c (Cs.back hi g)]
theorem Opt.but{d:Nat->Nat->Int}(nd:l.Nodup){k:Nat}(f:k<l.length){t:Int}(h:Opt (λi j=>d (l.getD i 0) (l.getD j 0)) (bl ((2^l.length-1)^^^2^k)) t):Opt d (l.erase (l.getD k 0)) t:=by
 let em:(IG l.length).map (λi=>l.getD i 0)=l:=by
  refine LZ (by rw[HD,Jn]) λi Y B=>?_
  rw[List.getElem_map,List.getElem_range,HU,Hz B];rfl
 let ix:∀ i∈IG l.length,l.idxOf (l.getD i 0)=i:=λi I=>by
  simp_all
 let v:(bl ((2^l.length-1)^^^2^k)).Perm ((IG l.length).erase k):=by
  refine(lL _ _).trans ((mV (rQ _) k).trans ?_);unfold tog;rw[NX (Ja.mpr f)]
 let B:=(h.perm v).map (rho:=λi=>l.getD i 0) (ix:=λx=>l.idxOf x) λi I=>ix i (Lq I);refine B.perm ?_;let r:=(KG (Ja.mpr f)).map (λi=>l.getD i 0);rw[em,Il]at r;let M:=r.erase (l.getD k 0);rw[JV]at M;exact M.symm
theorem Hs{k:Nat}(f:k<m):(bl ((2^m-1)^^^2^k)).length=m-1:=by
 let v:(bl ((2^m-1)^^^2^k)).Perm ((IG m).erase k):=by
  refine(lL _ _).trans ((mV (rQ _) k).trans ?_);unfold tog;simp[*]
 rw[v.length_eq,List.length_erase,NX (Ja.mpr f),Jn]
def XL(l:List Nat):Nat:=l.foldr (λs m=>2^s^^^m) 0
theorem Fx:∀{l:List Nat},l.Nodup->∀ x,(XL l).testBit x=decide (x∈l)
 |[],_,x=>by rw[show XL []=0 from rfl,Jt];simp
 |s::l,G,x=>by
  let Y B:=HS.mp G;show(2^s^^^XL l).testBit x=_;rw[IP,Ic,Fx B x];by_cases c:s=x
  .subst c;simp[Y]
  .let D:¬ x=s:=λz=>c z.symm
   simp[c,D]
theorem XL_bl(m:Nat):XL (bl m)=m:=IB λx=>by
 rw[Fx (bl_nd m)]
 cases h:m.testBit x with
 |true=>exact Ni (cY.mpr h)
 |false=>exact My λz=>by rw[cY.mp z]at h;cases h
theorem CS(ok:Lok n ls)(g:Conn n ls)(nd:l.Nodup)(lt:∀ s∈l,s<n){b:List Int}(B:∀ k,k<l.length->Opt (λi j=>farD ls (l.getD i 0) (l.getD j 0)) (bl ((2^l.length-1)^^^2^k)) (b.getD k 0)){x:Nat}(J:x<n){m:Int}(Y:m∈(IG l.length).map λk=>farD ls (l.getD k 0) x+b.getD k 0)(h2:∀ y∈(IG l.length).map λk=>farD ls (l.getD k 0) x+b.getD k 0,m<=y):Opt (farD ls) (tog l x) m:=by
 let p:∀ l∈ls,0<=l.2.2:=λl G=>(ok.w0 l G).1;let a:∀ s∈l,l.idxOf s<l.length/\l.getD (l.idxOf s) 0=s:=λs d=>by
  let h:=Mb d;simp[*]
 let o:∀ k,k<l.length->l.getD k 0∈l:=λk f=>by
  simp[*]
 refine Opt.turn (far_met p g) (Ee p) nd lt J (R:=λs=>b.getD (l.idxOf s) 0) (λs d=>?_) ?_ (λs d=>?_)
 .let H O:=a s d;let:=Opt.but nd H (B _ H);rw[O]at this;exact this
 .let k f e:=Im.mp Y;let c:=Ja.mp f;refine#[l.getD k 0,o k c,?_];simp_all
 .let H O:=a s d;let:=h2 _ (Im.mpr #[l.idxOf s,Ja.mpr H,U]);rw[O]at this;exact this
structure TxtZ(mg:Str->Option Value):Prop extends Txt mg where
 n_zip:mg "zip"=none
def aM(mk:Nat):Nat:=(bl mk).getD 0 0
theorem qv(h:mk<2^n)(n1:1<=n):aM mk<n:=by
 unfold aM;rw[HU]
 cases e:(bl mk)[0]? with
 |none=>exact n1
 |some x=>exact bl_lt h (HC e)
theorem AE(h:mk<2^n)(n1:1<=n)(N:(bl mk).length%2=0)(L:(bl mk).length<=14):(mk^^^2^aM mk)<2^n/\(bl (mk^^^2^aM mk)).length<=14/\(bl (mk^^^2^aM mk)).length%2=1/\1<=(bl (mk^^^2^aM mk)).length:=by
 let G:=qv h n1;refine#[Jh h (IL ∅ G),?_]
 let e:=(lL mk (aM mk)).length_eq;rw[e];unfold tog;by_cases c:aM mk∈bl mk
 .rw[NX c,List.length_erase,NX c];grind
 .rw[NY c,IM];let a:(bl mk).length=0:=by
   cases z:bl mk with
   |nil=>rfl
   |cons x r =>
    refine NZ ?_ c;unfold aM;rw[z];exact HL ..
  omega
def TdAt(n:Nat)(ls:List Lk)(H:Hp)(v:V)(s:Nat):Prop:=∃ d o c,v=.ref d/\H d=Z (.lst (o.map oV))/\FI n ls s MM o c [] (λ_ _=>False)
theorem TdAt.lt{s:Nat}(h:TdAt n ls H v s)(k:∀ b xs,H b=Z (.lst xs)->H' b=Z (.lst xs)):TdAt n ls H' v s:=by
 let d o c e Y B:=h;exact#[d,o,c,e,k _ _ Y,B]
theorem ES{TT:Addr}(h:Tb lqF lpF TT H)(a:H tb=Z (.dK kvs))(f:TbS tb H H'):Tb lqF lpF TT H':=nK h λb L=>by
 let d:∃ o,H b=Z o/\b≠tb:=by
  obtain rfl|⟨D,L⟩:=L
  .obtain q|⟨_,q,_⟩:=h
   .exact#[_,q,λz=>by simp_all]
   .exact#[_,q,λz=>by simp_all]
  .exact#[_,L,λz=>by rw[z,a]at L;cases L]
 let o Y B:=d;rw[Y];exact f _ _ B Y
noncomputable def dO (ls:List Lk) (l:List Nat) (i j:Nat):Int:=farD ls (l.getD i 0) (l.getD j 0)
def RwO(ls:List Lk)(l:List Nat)(H:Hp)(v:V)(s:Nat):Prop:=∃ p,v=V.ref p/\H p=Z (.lst (l.map λx=>V.int (farD ls s x)))
inductive Ag(vs:List L2.V)(H:L2.Hp)(Q:L2.VK)(x3_:L2.XK):Prop
 |mk (mk:Nat) (h0_:vs=[.int (mk:Int)])(h1_:mk<1099511627776)(h2_:∀ H',Same H H'->Q (.int ((aM mk:Nat):Int)) H')
inductive spHts(TT:Addr)(vs:List L2.V)(H:L2.Hp)(Q:L2.VK)(x3_:L2.XK):Prop
 |mk (v:V)(n mk:Nat)(ls:List Lk) (h0_:vs=[.int (n:Int),v,.int (mk:Int)])(h1_:LnAt H v ls)(h2_:Lok n ls)(h3_:1<=n)(h4_:Conn n ls)(h5_:mk<2^n)(h6_:(bl mk).length%2=0)(h7_:(bl mk).length<=14)(h8_:Tb lqF lpF TT H)(h9_:∀(p:Addr)(cs:List Int) H',SmT H H'->Tb lqF lpF TT H'->H' p=Z (.lst (cs.map λc=>V.int (cs.getD (aM mk) 0-c)))->cs.length=n->(∀ x,x<n->Opt (farD ls) (bl (mk^^^2^aM mk^^^2^x)) (cs.getD x 0))->Q (.ref p) H')
theorem yG:ay ["marks"] ["marks"] (ar kE):=by ac_nf
theorem ok_root(F:Fun K "root_of" "root_of" kE f fd)(k:Cal P w K mg base 1 "bits" ["mask"] my f1 G):FnOk P w K mg base CX0 2 f fd ["marks"] Ag:=by
 refine F.ok yG (by walk_at "l") λY A o s H g Q E O h=>?_
 let mk rfl D y:=h;refine#[_,(ak (aE (jb (aB jZ (pv 0) aj (aC _)) (aV (k.c O (ae (pv 0) ah)) aj) aj))),?_];refine#[_,U,U,_,U,?_];by_cases c0:mk=0
 .subst c0;refine qT U ?_;let e:aM 0=0:=by unfold aM;rw[rP];rfl
  let:=y H λ_ _ e=>e;rw[e]at this;exact this
 .refine ite2 (λ_=>?_) (λz=>NZ (by simp_all) z)
  refine#[_,U,(mk:Int),U,∅,∅,λr m d _ a=>?_]
  rw[HP]at a;let x J:∃ x,(bl mk)[0]?=Z x:=by
   cases z:(bl mk)[0]? with
   |some x=>exact#[x,U]
   |none =>
    let:bl mk=[]:=by simp_all
    let B:=XL_bl mk;rw[this]at B;exact NZ B.symm c0
  let e:aM mk=x:=by unfold aM;rw[HU,J];rfl
  let i:atI ((bl mk).map iV) 0=Z (iV x):=ax (j:=0) (by simp[*])
  let:=y m d;rw[e]at this;exact#[r,_,_,_,U,U,SqL.of a,i,this]
theorem bG:ay ["many","links","marks","root","others","found","between","table","everyone","rests","costs","room"] ["many","links","marks"] (ar kJ):=by ac_nf
theorem ok_hts{TT f4 f5 f6 f8:Addr}{bS cd ck cU cW c7:FuncData}(F:Fun K "heights" "heights" kJ f fd)(T:TxtZ mg)(aT:Cal P w K mg base 4 "refuse_marks" ["many","links","marks"] FZ f1 G)(an:Cal P w K mg base 1 "bits" ["mask"] my f2 bS)(bn:Cal P w K mg base 2 "fares" ["many","links","start"] (spFares TT) I cd)(a0:Cal P w K mg base 1 "chosen_of" ["entries","numbers"] pU f4 ck)(a1:Cal P w K mg base 1 "new_table" [] uK f5 cU)(GL:∀(D:Nat->Nat->Int)(m:Nat),(∀ a b,D a b=D b a)->Cal P w K mg base 10 "laid_in_pairs" ["between","chosen","table"] (spLaid D m 8) f6 cW)(a5:Cal P w K mg base 2 "root_of" ["marks"] Ag f8 c7):FnOk P w K mg base CX0 11 f fd ["many","links","marks"] (spHts TT):=by
 refine F.ok bG (by walk_at "l") λab A aa s H vs Q E O h=>?_
 let v n mk ls rfl hV ok n1 L a6 ev ac bP kk:=h;let hu:=tO O;let bb:=ok.n1;let cK:=ok.l9;let l el:∃ l,l=bl (mk^^^2^aM mk):=#[_,U];let ob dd o2 o1:=AE a6 n1 ev ac;rw[← el]at dd o2 o1;let nd:l.Nodup:=by rw[el];exact bl_nd _
 let be:∀ x∈l,x<n:=λx J=>by rw[el]at J;exact bl_lt ob J
 let am:=GL (dO ls l) l.length (λa b=>BK _ _ _);let cG:(2:Nat)^40=1099511627776:=by decide
 let Y:2^n<=2^40:=IZ ∅ bb
 let ce:mk<1099511627776:=by omega
 let rn:=qv a6 n1
 refine#[_,(ag (aO (aT.c O (ae (pv 0) (ae (pv 1) (ae (pv 2) ah)))))
   (ag (aA 3 bG.nd (a5.c O (ae (pv 2) ah)))
   (ag (aA 4 bG.nd (an.c O (ae (aw fY (pv 2) (aw cE aj (pv 3))) ah)))
   (ag (nU 5 [("many",0),("links",1)] ["room"] bG.nd (aP (pv 4)) pg_c pt_c (λC ex s H=>(l7 K (bn.c O (ae (pv 1) (ae (pv 2) (ae (pv 0) ah)))) aj)))
   (ag (aA 6 bG.nd (d8 [("others",4)] ["told"] (aP (pv 5)) pg_c pt_c (λC ex s H=>(a0.c O (ae (pv 0) (ae (pv 1) ah))))))
   (ag (aA 7 bG.nd (a1.d O))
   (ag (aA 8 bG.nd (aw iA (aw cE aj (az av (by rfl) T.n_len aX (ae (pv 4) ah))) aj))
   (ag (nU 9 [("table",7),("everyone",8),("between",6)] ["number"] bG.nd (aN U T.n_range (ae (az av (by rfl) T.n_len aX (ae (pv 4) ah)) ah)) pg_c pt_c (λC ex s H=>(l7 K (am.c O (ae (pv 3) (ae (aw fY (pv 2) (aw cE aj (pv 0))) (ae (pv 1) ah)))) aj)))
   (ag (aA 10 bG.nd (bw ah))
   (ag (bc PassesOwn.never U (aN U T.n_range (ae (pv 0) ah)) (bO 11 bG.nd) (ak (aO (d9 HZ Ij Ii aQ (pv 10) (ae (az (uo U) (by rfl) T.n_min ur (ae (d8 [("room",11)] ["told","rest"] (AN U T.n_zip (ae (pv 5) (ae (pv 9) ah))) (λC ex s H=>(gE (n:=2) (K:=K) U U (aJ (bp (i:=0) (show(["told","rest","room"]:List Str).Nodup from by decide) U (Or.inl U)) (aJ (bp (i:=1) (show(["told","rest","room"]:List Str).Nodup from by decide) U (Or.inl U)) cP)))) pt_c (λC ex s H=>(aw br (qC K (pv 0) (pv 2)) (pv 1)))) ah)) ah)))))
   (ak (aE (d8 [("root",3),("costs",10)] ["cost"] (aP (pv 10)) pg_c pt_c (λC ex s H=>(aw iA (qC K (pv 2) (pv 1)) (pv 0)))))))))))))))),?_]
 refine#[_,U,_,U,_,U,v,n,mk,ls,U,hV,ok,n1,L,a6,ev,ac,λH1 s1=>?_];refine#[_,U,mk,U,ce,λdE dw=>?_];let ex:M4 (mk:Int) (1*2^((aM mk:Nat):Int).toNat)=((mk^^^2^aM mk:Nat):Int):=by rw[shlN,xorN]
 refine#[_,U,_,U,_,_,U,U,#[∅,∅,by decide],_,_,U,U,?_]
 simp only[ex];refine#[((mk^^^2^aM mk:Nat):Int),U,∅,∅,λr u s2 ba bK=>?_]
 rw[HP]at bK;let bB:u r=Z (.lst (l.map iV)):=by rw[el];exact bK
 let aI:=s1.trans (dw.trans s2);let co:=tb_same bP aI;let bi:(l.map iV).length=l.length:=HD ..;refine#[_,U,r,U,#[_,SqL.of bB],cJ (K:=K) (xs:=l.map iV) (λi zs H3=>SmT u H3/\Tb lqF lpF TT H3/\LsAt (TdAt n ls) H3 zs (l.take i)) (Ia (aq ∅)) #[λ_ _ _ e=>e,co,LsAt.nil] (λi zs H3 _ z=>SqL.of (z.1.lst bB)) ?_ ?_ ?_]
 .rintro i x zs H3 J ⟨bT,bU,hZ⟩;rw[HN]at J;let k B rfl:=HV.mp J;refine#[U,yesT #[_,U,_,U,_,U,v,n,k,ls,U,LnAt.smT (hV.mono aI) bT,ok,be k (HC B),bU,λt ta va TL VL H4 b0 a7 _ _ ht aW a2 fi=>?_]];let b7:=TbS.smT b0 bU;refine#[t,_,0,_,U,U,SqT.of ht,at0,bT.trans b7,a7,?_];rw[Ie,B];exact(hZ.imp λ_ _ q=>q.lt λ_ _ e=>b7.lst e).snoc #[ta,TL,VL,U,aW,fi]
 .rintro zs H3 ⟨bT,bU,hZ⟩ fa b8;rw[bi,Ip]at hZ;let z4:=ai b8 (.lst zs);let bC:SmT u (upd H3 fa (.lst zs)):=bT.trans (.of z4);let a7:=tb_same bU z4;let bZ:LsAt (TdAt n ls) (upd H3 fa (.lst zs)) zs l:=hZ.imp λ_ _ q=>q.lt λ_ _ e=>z4 _ _ e;let a4:(upd H3 fa (.lst zs)) fa=Z (.lst zs):=af;generalize upd H3 fa (.lst zs)=H4 at bC a7 bZ a4;let zl:=bZ.1;let cb:=bC.lst bB;let ap:∀ i,i<l.length->l[i]?=Z (l.getD i 0):=λi N=>by rw[HU,Hz N];rfl
  refine#[_,U,fa,U,#[_,SqL.of a4],bz (K:=K) (xs:=zs) (λi ws H5=>Same H4 H5/\LsAt (RwO ls l) H5 ws (l.take i)) (Ia (aq ∅)) #[λ_ _ e=>e,LsAt.nil] (λi ws H5 _ z=>SqL.of (z.1 _ _ a4)) ?_ ?_]
  .rintro i x ws H5 J ⟨s5,hW⟩;let s0 bQ ta TL VL rfl aW fi:=bZ.get J;let cp:=be s0 (HC bQ);refine#[_,U,_,U,ta,r,_,l.map λx=>V.int (farD ls s0 x),l,U,s5 _ _ aW,s5 _ _ cb,HD ..,∅,λj k B=>?_,λq H6 s6 dv hq=>?_]
   .refine#[.int (farD ls s0 k),?_,by rw[HN,B];rfl]
    exact vq (fi.is L cp (be k (HC B)))
   .refine#[s5.trans s6,?_];rw[Ie,bQ];exact(hW.imp λ_ _ ⟨p,e,z⟩=>#[p,e,s6 _ _ z]).snoc #[q,U,hq]
  .rintro ws H5 _ ⟨s5,hW⟩ bv da;rw[zl,Ip]at hW;let z6:=ai da (.lst ws);refine#[U,λtb t0 H7 s7 cq bm ct=>?_];let bf:Same H4 H7:=s5.trans (z6.trans s7);let db:LsAt (RwO ls l) H7 ws l:=hW.imp λ_ _ ⟨p,e,z⟩=>#[p,e,s7 _ _ (z6 _ _ z)];let cu:H7 bv=Z (.lst ws):=s7 _ _ af
   let bt:BtAt H7 (.ref bv) (dO ls l) l.length:=#[bv,ws,U,cu,λi N=>by
    let y hy p rfl g:=db.2 i _ (ap i N)
    exact#[p,_,hy,g,λk B=>by rw[HN,ap k B];rfl]]
   let ti:TI H7 (dO ls l) l.length [(.inl ((0:Nat):Int),.ref t0)]:=#[(λk w e=>by
    by_cases c:(Sum.inl ((0:Nat):Int):Key)=k
    .rw[bj c]at e
     cases e
     exact#[0,c.symm,Js _,.inl #[U,t0,_,_,U,ct]]
    .rw[bo c]at e
     cases e),#[_,bj U],HS.mpr #[(by simp),JF]]
   let cw:=bf _ _ cb;let cc:=tb_same a7 bf;let eL:(1:Int)*2^(((l.map iV).length:Nat):Int).toNat-1=((2^l.length-1:Nat):Int):=by
    rw[bi,shlN];let:=Js l.length;omega
   refine#[_,U,r,_,U,.inl (SqL.of cw),_,_,U,U,#[∅,by rw[bi];omega,by decide],_,_,U,U,?_]
   simp only[eL];refine#[_,U,r,_,U,.inl (SqL.of cw),_,U,∅,∅,kj (k:=(l.map iV).length) (λi ys H9=>∃(aS:List (Key×V))(js:List Int),TbS tb H7 H9/\H9 tb=Z (.dK aS)/\TI H9 (dO ls l) l.length aS/\ys=js.map V.int/\js.length=i/\∀ k,k<i->Opt (dO ls l) (bl ((2^l.length-1)^^^2^k)) (js.getD k 0)) (Ia (aq ∅)) #[_,[],λ_ _ _ e=>e,bm,ti,U,U,λk B=>NZ B (IX _)] ?_ ?_ ?_]
   .rintro i ys H9 N ⟨aS,js,sT,cQ,df,rfl,jl,hO⟩;rw[bi]at N;let e0:(0:Int)+(i:Int)=(i:Int):=Jl _;rw[e0];let dx:M4 ((2^l.length-1:Nat):Int) (1*2^((i:Nat):Int).toNat)=(((2^l.length-1)^^^2^i:Nat):Int):=by rw[shlN,xorN]
    refine#[U,yesT #[_,U,_,U,_,U,_,_,U,U,#[∅,∅,by decide],_,_,U,U,?_]]
    simp only[dx];let dg:=Hs N;let p2:=Js l.length;refine#[_,U,.ref bv,tb,(2^l.length-1)^^^2^i,aS,U,bt.mono bm sT,cQ,df,Jh ∅ (IL ∅ N),dd,by rw[dg];omega,by rw[dg];omega,λw t al H8 dy ch ci gr hv cv op=>?_]
    let va y z rfl a2:=id cv;refine#[va,_,0,_,U,U,SqT.of a2,a30,al,js++[t],λb o n e=>dy b o n (sT b o n e),ch,ci,by rw[HW];rfl,by rw[HJ,jl];rfl,λk B=>?_]
    by_cases c:k=i
    .subst c;rw[HU,HG ∅,jl,Iq]
     exact op
    .let:=hO k ∅
     rw[HU]at this ⊢;rw[HH ∅]
     exact this
   .rintro ys H9 ⟨aS,js,sT,cQ,df,rfl,jl,hO⟩ ra dh;rw[bi]at jl hO;let cT:=LT.tbS sT bm;let dz:=ES cc bm sT;let zA:=ai dh (.lst (js.map V.int));let cy:upd H9 ra (.lst (js.map V.int)) ra=Z (.lst (js.map V.int)):=af
    let bJ:SmT H (upd H9 ra (.lst (js.map V.int))):=(show SmT H H9 from λb o no e=>by
     let e4:=bC b o no (aI _ _ e);refine sT _ _ (λz=>?_) (bf _ _ e4);subst z
     rw[eQ (s5.trans z6) cq]at e4;cases e4).trans (.of zA)
    let di:=tb_same dz zA;let cB:upd H9 ra (.lst (js.map V.int)) fa=Z (.lst zs):=zA _ _ (cT.1 _ _ (bf _ _ a4));let dn:LsAt (TdAt n ls) (upd H9 ra (.lst (js.map V.int))) zs l:=bZ.imp λ_ _ q=>q.lt λ_ _ e=>zA _ _ (cT.1 _ _ (bf _ _ e));generalize upd H9 ra (.lst (js.map V.int))=HA at cy bJ di cB dn;refine#[(by show 0<=Mz;decide),λca dp=>?_]
    let zB:=ai dp (.lst []);refine#[_,U,_,U,∅,∅,bE (n:=n) (λi M H3=>∃(a3:Option V)(cs:List Int),M=[Z (.int (n:Int)),Z v,Z (.int (mk:Int)),Z (.int ((aM mk:Nat):Int)),Z (.ref r),Z (.ref fa),Z (.ref bv),Z (.ref tb),Z (.int ((2^l.length-1:Nat):Int)),Z (.ref ra),Z (.ref ca),a3]/\Same HA H3/\H3 ca=Z (.lst (cs.map V.int))/\cs.length=i/\∀ x,x<i->Opt (farD ls) (tog l x) (cs.getD x 0)) #[_,[],U,zB,af,U,λx J=>NZ J (IX _)] ?_ ?_]
    .rintro i M H3 N ⟨a3,cs,rfl,s3,bR,cl,dc⟩;let e0:(0:Int)+(i:Int)=(i:Int):=Jl _;rw[e0];refine#[_,U,.inl #[U,_,SqL.of bR],_,U,_,U,fa,ra,U,#[_,SqL.of (s3 _ _ cB)],#[_,SqL.of (s3 _ _ cy)],uh (K:=K) (xs:=zs) (zs:=js.map V.int) (λj ys H5=>Same H3 H5/\ys=((IG j).map λk=>farD ls (l.getD k 0) i+js.getD k 0).map V.int) (Ia (aq ∅)) (by rw[HD];omega) #[λ_ _ e=>e,U] (λj ys H5 _ z=>#[SqL.of (z.1 _ _ (s3 _ _ cB)),SqL.of (z.1 _ _ (s3 _ _ cy))]) ?_ ?_ ?_]
     .rintro j x z ys H5 T5 J hz ⟨cD,rfl⟩ dC;let s0 bQ ta TL VL rfl aW fi:=dn.get J;let cp:=be s0 (HC bQ);let dq:j<js.length:=by
       let:=(HB.mp hz).1;rw[HD]at this;exact this
      let ez:z=.int (js.getD j 0):=by
       rw[HN,Hz dq]at hz
       cases hz
       rw[HU,Hz dq];rfl
      subst ez;let dD:s0=l.getD j 0:=by rw[HU,bQ];rfl
      let s6:=ai dC (.tup [.ref ta,.int (js.getD j 0)]);refine#[T5,_,U,SqT.of af,U,_,_,U,_,_,U,U,U,yesT #[_,U,_,U,ta,_,_,_,U,U,SqL.of (s6 _ _ (cD _ _ (s3 _ _ aW))),ax (vq (fi.is L cp N)),_,U,_,_,U,U,cD.trans s6,?_]];rw[Lo,HW,HW,dD];rfl
     .rintro ys H5 ⟨cD,rfl⟩ q hq;let zq:=ai hq (.lst (((IG zs.length).map λk=>farD ls (l.getD k 0) i+js.getD k 0).map V.int));refine#[q,_,U,SqL.of af,by rw[HD,Jn,zl];omega,λm dr cF=>?_]
      rw[zl]at dr cF;let om:=CS ok L nd be hO N dr cF;let ds:=zq _ _ (cD _ _ bR);refine#[ca,_,_,U,U,ds,aq (by rw[HD];omega),?_]
      refine#[_,cs++[m],U,aH (s3.trans (cD.trans zq)) dp _,by rw[af,HW];rfl,by rw[HJ,cl];rfl,λx J=>?_]
      by_cases c:x=i
      .subst c;rw[HU,HG ∅,cl,Iq]
       exact om
      .let:=dc x ∅
       rw[HU]at this ⊢;rw[HH ∅]
       exact this
     .rintro j ys H5 ⟨_,rfl⟩;rw[HD,HD,Jn];exact HF _
    .rintro M H3 ⟨a3,cs,rfl,s3,bR,cl,dc⟩;let dt:∀ k,k<n->(cs.map V.int)[k]?=Z (.int (cs.getD k 0)):=λk B=>by rw[HN,HU,Hz ∅];rfl
     refine#[_,U,ca,U,#[_,SqL.of bR],cJ (K:=K) (xs:=cs.map V.int) (λi zs H4=>H4=H3/\zs=(cs.take i).map λc=>V.int (cs.getD (aM mk) 0-c)) (Ia (aq (by rw[HD];omega))) #[U,U] (λi zs H4 _ z=>by rw[z.1];exact SqL.of bR) ?_ ?_ ?_]
     .rintro i x zs H4 J ⟨rfl,rfl⟩;rw[HN]at J;let k B rfl:=HV.mp J;refine#[U,yesT #[_,U,_,U,ca,_,_,_,U,U,SqL.of bR,ax (dt _ rn),_,U,_,_,U,U,U,?_]];rw[Ie,B,HW];rfl
     .rintro zs H4 ⟨rfl,rfl⟩ p g;rw[HD,Ip];let zp:=ai g (.lst (cs.map λc=>V.int (cs.getD (aM mk) 0-c)));refine kk p cs _ (bJ.trans (.of (s3.trans zp))) (tb_same di (s3.trans zp)) af cl λx J=>?_;refine(dc x J).perm ?_;rw[el];exact(lL _ _).symm
     .rintro i zs H4 ⟨_,rfl⟩;grind
   .rintro i ys H9 ⟨aS,js,_,_,_,rfl,jl,_⟩;rw[HD,jl];exact HF _
 .rintro i zs H3 ⟨_,_,hZ⟩;rw[hZ.1,IC];omega
end KF
namespace HM
def par(f:Nat->Bool):Nat->Bool
 |0=>false
 |i+1=>par f i ^^ f i
def csw(w:Nat->Nat)(F:Nat->Bool):Nat->Nat
 |0=>0
 |i+1=>csw w F i+cond (F i) (w i) 0
def tg(F P:Nat->Bool):Nat->Bool:=λi=>F i ^^ P i
def one(e:Nat):Nat->Bool:=λi=>i == e
theorem gF(f g:Nat->Bool):∀ n,par (λi=>f i ^^ g i) n=(par f n ^^ par g n)
 |0=>rfl
 |n+1=>by
  show(par (λi=>f i ^^ g i) n ^^ (f n ^^ g n))=((par f n ^^ f n) ^^ (par g n ^^ g n));rw[gF f g n]
  cases par f n<;>cases par g n<;>cases f n<;>cases g n<;>rfl
theorem par_congr{f g:Nat->Bool}:∀{n:Nat},(∀ i,i<n->f i=g i)->par f n=par g n
 |0,_=>rfl
 |n+1,h=>by
  show(par f n ^^ f n)=(par g n ^^ g n);rw[par_congr λi I=>h i ∅,h n ∅]
theorem nY{f:Nat->Bool}:∀{n:Nat},(∀ i,i<n->f i=false)->par f n=false
 |0,_=>rfl
 |n+1,h=>by
  show(par f n ^^ f n)=false;rw[nY λi I=>h i ∅,h n ∅]
  rfl
theorem par_some{f:Nat->Bool}(h:par f n=true):∃ i,i<n/\f i=true:=by
 by_cases c:∃ i,i<n/\f i=true
 .exact c
 .rw[nY λi I=>by simp_all]at h
  cases h
theorem jY{f:Nat->Bool}{e:Nat}:∀{n:Nat},(∀ i,i<n->i≠e->f i=false)->par f n=(decide (e<n)&&f e)
 |0,_=>by simp[par]
 |n+1,h=>by
  show(par f n ^^ f n)=_;rw[jY (e:=e) λi I=>h i ∅]
  by_cases c:n=e
  .subst c;simp
  .rw[h n ∅ c]
   let:decide (e<n+1)=decide (e<n):=decide_eq_decide.mpr ∅
   rw[this,IS]
theorem Fd(S:Nat->Bool){c:Nat}(h:c<n):par (λv=>S v&&(c == v)) n=S c:=by
 rw[jY (e:=c) λi _ I=>by rw[show(c == i)=false from beq_eq_false_iff_ne.mpr (Ne.symm I),LD],Ni h]
 simp
theorem csw_congr{w v:Nat->Nat}{F G:Nat->Bool}:∀{n:Nat},(∀ i,i<n->cond (F i) (w i) 0=cond (G i) (v i) 0)->csw w F n=csw v G n
 |0,_=>rfl
 |n+1,h=>by
  show csw w F n+_=csw v G n+_;rw[csw_congr λi I=>h i ∅,h n ∅]
theorem csw_le{w v:Nat->Nat}{F G:Nat->Bool}:∀{n:Nat},(∀ i,i<n->cond (F i) (w i) 0<=cond (G i) (v i) 0)->csw w F n<=csw v G n
 |0,_=>HF _
 |n+1,h=>by
  let a:=csw_le (n:=n) λi I=>h i ∅
  let b:=h n ∅
  show csw w F n+_<=csw v G n+_;omega
theorem csw_add(w v:Nat->Nat)(F:Nat->Bool):∀ n,csw (λi=>w i+v i) F n=csw w F n+csw v F n
 |0=>rfl
 |n+1=>by
  show csw (λi=>w i+v i) F n+_=_;rw[csw_add w v F n];show _=(csw w F n+cond (F n) (w n) 0)+(csw v F n+cond (F n) (v n) 0);grind
theorem nE{w:Nat->Nat}{wz:Nat->Bool}(h:∀ i,i<n->wz i=true->w i=0):csw w (tg F wz) n=csw w F n:=csw_congr λi I=>by
 unfold tg
 cases z:wz i with
 |false=>rw[IS]
 |true=>rw[h i I z];cases F i<;>rfl
theorem pG{w:Nat->Nat}{F:Nat->Bool}{e:Nat}:∀{n:Nat},e<n->F e=false->csw w (tg F (one e)) n=csw w F n+w e
 |n+1,h,f=>by
  show csw w (tg F (one e)) n+cond (F n ^^ (n == e)) (w n) 0=csw w F n+cond (F n) (w n) 0+w e;by_cases c:n=e
  .subst c;rw[f,csw_congr (G:=F) (v:=w) λi I=>by show cond (F i ^^ (i == n)) _ _=_;rw[show(i == n)=false from beq_eq_false_iff_ne.mpr ∅,IS]]
   simp
  .rw[pG (n:=n) ∅ f,show(n == e)=false from beq_eq_false_iff_ne.mpr c,IS]
   omega
theorem tg_tg(F P:Nat->Bool):tg (tg F P) P=F:=funext λi=>by unfold tg;simp
theorem g9{w:Nat->Nat}{e:Nat}(h:e<n)(f:F e=true):csw w (tg F (one e)) n+w e=csw w F n:=by
 let:=pG (w:=w) (F:=tg F (one e)) h (by unfold tg one;simp_all)
 rw[tg_tg]at this;exact this.symm
theorem wY{w:Nat->Nat}{J K P:Nat->Bool}:∀{n:Nat},(∀ i,i<n->P i=true->(J i ^^ K i)=true)->csw w (tg J P) n+csw w (tg K P) n=csw w J n+csw w K n
 |0,_=>rfl
 |n+1,h=>by
  let Q:=wY (w:=w) (J:=J) (K:=K) (P:=P) (n:=n) λi I=>h i ∅
  let N:=h n ∅
  show csw w (tg J P) n+cond (J n ^^ P n) (w n) 0+(csw w (tg K P) n+cond (K n ^^ P n) (w n) 0)=csw w J n+cond (J n) (w n) 0+(csw w K n+cond (K n) (w n) 0);lia
theorem csw_pos{w:Nat->Nat}{F:Nat->Bool}{e:Nat}:∀{n:Nat},e<n->F e=true->w e<=csw w F n
 |n+1,h,f=>by
  show w e<=csw w F n+cond (F n) (w n) 0;by_cases c:n=e
  .simp_all
  .let:=csw_pos (w:=w) (F:=F) (n:=n) ∅ f
   omega
theorem Hq{w:Nat->Nat}:∀{n:Nat},csw w F n=0->∀ i,i<n->F i=true->w i=0:=λ{n} h i I f=>by
 let:=csw_pos (w:=w) I f;omega
section
variable{N n:Nat}{a b:Nat->Nat}
def bd(N:Nat)(a b:Nat->Nat)(F:Nat->Bool)(v:Nat):Bool:=par (λi=>F i&&((a i == v) ^^ (b i == v))) N
theorem dX(F P:Nat->Bool)(v:Nat):bd N a b (tg F P) v=(bd N a b F v ^^ bd N a b P v):=by
 unfold bd;rw[← gF];refine par_congr λi _=>?_;unfold tg
 cases F i<;>cases P i<;>simp
theorem iY{e:Nat}(h:e<N)(v:Nat):bd N a b (one e) v=((a e == v) ^^ (b e == v)):=by
 unfold bd;rw[jY (e:=e) λi _ I=>by unfold one;simp_all,Ni h]
 unfold one;simp
theorem Hu(v:Nat):bd N a b (λ_=>false) v=false:=nY λi _=>rfl
theorem cut(S F:Nat->Bool):∀{N:Nat},(∀ i,i<N->a i<n/\b i<n)->par (λi=>F i&&(S (a i) ^^ S (b i))) N=par (λv=>S v&&bd N a b F v) n
 |0,_=>(nY λi _=>by show(S i&&false)=false;simp_all).symm
 |N+1,h=>by
  show(par (λi=>F i&&(S (a i) ^^ S (b i))) N ^^ (F N&&(S (a N) ^^ S (b N))))=_;rw[cut S F λi I=>h i ∅]
  let e:par (λv=>S v&&(F N&&((a N == v) ^^ (b N == v)))) n=(F N&&(S (a N) ^^ S (b N))):=by
   cases F N with
   |false=>exact nY λ_ _=>by simp
   |true =>
    let Y B:=h N ∅
    rw[Ka,← Fd S Y,← Fd S B,← gF];refine par_congr λi _=>?_
    cases S i<;>simp
  rw[← e,← gF];refine par_congr λv _=>?_;show _=(S v&&(bd N a b F v ^^ (F N&&((a N == v) ^^ (b N == v)))))
  cases S v<;>simp
theorem exits(D:Nat->Bool):∀(c:Nat)(F:Nat->Bool)(r:Nat),csw (λ_=>1) F N<=c->D r=false->(∀ v,D v=false->bd N a b F v=(r == v)) ->
  ∃(e:Nat)(P:Nat->Bool)(y x:Nat),e<N/\F e=true/\P e=false/\(∀ i,P i=true->i<N/\F i=true/\D (a i)=false/\D (b i)=false)/\D y=false/\D x=true/\(∀ v,((a e == v) ^^ (b e == v))=((y == v) ^^ (x == v)))/\(a e=y∨b e=y)/\(D (a e) ^^ D (b e))=true/\∀ v,bd N a b P v=((r == v) ^^ (y == v)):=by
 intro c;induction c with
 |zero =>
  intro F r g O L;let h:=L r O;rw[beq_self_eq_true]at h;let i I Y:=par_some h;rw[Lh]at Y;exact NZ (Hq (w:=λ_=>1) (Nat.le_zero.mp g) i I Y.1) ∅
 |succ c Q =>
  intro F r g O L;let h:=L r O;rw[beq_self_eq_true]at h;let i I Y:=par_some h;rw[Lh]at Y;let f B:=Y;let z t G hd:∃ z,z≠r/\(∀ v,((a i == v) ^^ (b i == v))=((r == v) ^^ (z == v)))/\((a i=r/\b i=z)∨(a i=z/\b i=r)):=by
   by_cases c1:a i=r
   .refine#[b i,λz=>?_,λv=>by rw[c1],.inl #[c1,U]]
    simp_all
   .let c2:b i=r:=by grind
    exact#[a i,c1,λv=>by rw[c2,Kq],.inr #[U,c2]]
  cases M:D z with
  |true =>
   refine#[i,λ_=>false,r,z,I,f,U,(λ_ o=>L4 o),O,M,G,hd.elim (λh=>.inl h.1) (λh=>.inr h.2),?_,λv=>by rw[Hu,KL]]
   rcases hd with⟨C,T⟩|⟨C,T⟩<;>rw[C,T,O,M]<;>rfl
  |false =>
   let cF:=g9 (w:=λ_=>1) I f;let e P y x Y B J u k E s q n m:=Q (tg F (one i)) z ∅ M λv A=>by
    rw[dX,iY I,G,L v A,← K5,KL,LB]
   let ne:e≠i:=λz=>by rw[z]at B;unfold tg one at B;simp_all
   let Pi:P i=false:=by
    cases p:P i with
    |false=>rfl
    |true=>have:=(u i p).2.1;unfold tg one at this;rw[f]at this;simp at this
   refine#[e,tg P (one i),y,x,Y,?_,?_,λj o=>?_,k,E,s,q,n,λv=>?_]
   .unfold tg one at B;rw[show(e == i)=false from beq_eq_false_iff_ne.mpr ne,IS]at B;exact B
   .unfold tg one;rw[show(e == i)=false from beq_eq_false_iff_ne.mpr ne,IS];exact J
   .by_cases c1:j=i
    .subst c1;refine#[I,f,?_];rcases hd with⟨C,T⟩|⟨C,T⟩<;>rw[C,T]<;>exact#[by assumption,by assumption]
    .unfold tg one at o;rw[show(j == i)=false from beq_eq_false_iff_ne.mpr c1,IS]at o;let H d l:=u j o;unfold tg one at d;rw[show(j == i)=false from beq_eq_false_iff_ne.mpr c1,IS]at d;exact#[H,d,l]
   .rw[dX,iY I,G,m]
    cases (r == v)<;>cases (z == v)<;>cases (y == v)<;>rfl
end
section
variable{N n:Nat}{a b:Nat->Nat}{O D:Nat->Bool}{l m:Nat->Nat}{M0:Nat}
structure Cfg(N n:Nat)(a b:Nat->Nat)(O:Nat->Bool)(l m:Nat->Nat):Prop where
 ends:∀ i,i<N->a i<n/\b i<n
 mn:∀ v,v<n->∃ F,(∀ x,bd N a b F x=(O x ^^ (v == x)))/\csw l F N=m v
 lo:∀ v F,v<n->(∀ x,bd N a b F x=(O x ^^ (v == x)))->m v<=csw l F N
 pr:∀ i,i<N->(l i+m (a i)+m (b i))%2=0
structure Top(N n:Nat)(a b:Nat->Nat)(l m:Nat->Nat)(D:Nat->Bool)(M0:Nat):Prop where
 ne:∃ x,D x=true
 lt:∀ x,D x=true->x<n
 tp:∀ x,D x=true->m x=M0
 low:∀ v,v<n->M0<=m v
 cr:∀ i,i<N->(D (a i) ^^ D (b i))=true->1<=l i
 zc:∀ x y,D x=true->D y=true->∃ wz:Nat->Bool,(∀ i,wz i=true->i<N/\D (a i)=true/\D (b i)=true/\l i=0)/\∀ v,bd N a b wz v=((x == v) ^^ (y == v))
theorem pN(h:(D (a i) ^^ D (b i))=true):∃ y x,D y=false/\D x=true/\(∀ v,((a i == v) ^^ (b i == v))=((y == v) ^^ (x == v)))/\(a i=y∨b i=y):=by
 cases Y:D (a i) with
 |true =>
  let B:D (b i)=false:=by rw[Y]at h;simpa using h
  exact#[b i,a i,B,Y,λv=>Kq ..,.inr U]
 |false =>
  let B:D (b i)=true:=by rw[Y]at h;simpa using h
  exact#[a i,b i,Y,B,λv=>rfl,.inl U]
theorem x3(o p q:Bool):((o ^^ p) ^^ (p ^^ q))=(o ^^ q):=by simp
theorem Cfg.out(C:Cfg N n a b O l m){y:Nat}(hi:i<N)(h:a i=y∨b i=y):y<n:=by
 let Y B:=C.ends i hi;lia
theorem Cfg.uniq(C:Cfg N n a b O l m)(T:Top N n a b l m D M0){v:Nat}(hv:v<n)(L:∀ x,bd N a b J x=(O x ^^ (v == x)))(E:csw l J N=m v):
  (D v=false->∃ e,e<N/\J e=true/\(D (a e) ^^ D (b e))=true)/\(D v=true->∀ f,f<N->J f=true->(D (a f) ^^ D (b f))=true->False) /\
  ∀ f g,f<N->g<N->J f=true->J g=true->(D (a f) ^^ D (b f))=true->(D (a g) ^^ D (b g))=true->f=g:=by
 let an:D v=true->∀ f,f<N->J f=true->(D (a f) ^^ D (b f))=true->False:=λdv f r jf xf=>by
  let y x dy h G Q:=pN xf;let wz s u:=T.zc v x dv h;let c1:=g9 (w:=l) r jf;let c2:=nE (w:=l) (F:=tg J (one f)) (wz:=wz) (n:=N) λi _ I=>(s i I).2.2.2;let yn:=C.out r Q;let:=C.lo y (tg (tg J (one f)) wz) yn λw=>by
   rw[dX,dX,iY r,G,L,u]
   cases (O w)<;>cases (v == w)<;>cases (y == w)<;>cases (x == w)<;>rfl
  let j:=T.tp v dv;let d:=T.low y yn;let q:=T.cr f r xf;omega
 cases dv:D v with
 |true =>
  refine#[λz=>(by cases z),λ_=>an dv,λf g r _ jf _ xf _=>(an dv f r jf xf).elim]
 |false =>
  let t dt:=T.ne;let K kb kc:=C.mn t (T.lt t dt);rw[T.tp t dt]at kc;let e P y x Y B H o h5 h6 h7 h8 h9 am:=exits (N:=N) (a:=a) (b:=b) D _ (tg J K) v (HF _) dv λw M=>by
   rw[dX,L,kb,show(t == w)=false from beq_eq_false_iff_ne.mpr λz=>by simp_all]
   cases (O w)<;>cases (v == w)<;>rfl
  let yn:=C.out Y h8;let sub:∀ i,i<N->tg P (one e) i=true->(J i ^^ K i)=true:=λi _ I=>by
   by_cases c:i=e
   .rw[c];exact B
   .unfold tg one at I;rw[show(i == e)=false from beq_eq_false_iff_ne.mpr c,IS]at I;exact(o i I).2.1
  let k:=wY (w:=l) sub;let wz s u:=T.zc t x dt h6;let bP:∀ w,bd N a b (tg P (one e)) w=((v == w) ^^ (x == w)):=λw=>by
   rw[dX,iY Y,h7,am];simp_all
  let l1:=C.lo x (tg J (tg P (one e))) (T.lt x h6) λw=>by rw[dX,L,bP,x3]
  rw[T.tp x h6]at l1;let c2:=nE (w:=l) (F:=tg K (tg P (one e))) (wz:=wz) (n:=N) λi _ I=>(s i I).2.2.2;let l2:=C.lo v (tg (tg K (tg P (one e))) wz) hv λw=>by
   rw[dX,dX,kb,bP,u]
   cases (O w)<;>cases (v == w)<;>cases (t == w)<;>cases (x == w)<;>rfl
  let le:=T.cr e Y h9;let ac:=T.low y yn;let Je:J e=true:=by
   cases je:J e with
   |true=>rfl
   |false =>
    let q:csw l (tg J (tg P (one e))) N=csw l (tg (tg J P) (one e)) N:=csw_congr λi _=>by unfold tg;rw[K5]
    let c3:=pG (w:=l) (F:=tg J P) Y (by unfold tg;rw[je,H];rfl)
    let l3:=C.lo y (tg J P) yn λw=>by rw[dX,L,am,x3]
    omega
  let ue:∀ f,f<N->J f=true->(D (a f) ^^ D (b f))=true->f=e:=λf r jf xf=>by
   by_cases c:f=e
   .exact c
   exfalso;let y' x' aT ab aa al:=pN xf;let Pf:P f=false:=by
    cases p:P f with
    |false=>rfl
    |true=>simp_all
   let Z' aI aS:=T.zc x x' h6 ab;let c3:=g9 (w:=l) (F:=tg J (tg P (one e))) r (by unfold tg one;simp_all)
   let c4:=nE (w:=l) (F:=tg (tg J (tg P (one e))) (one f)) (wz:=Z') (n:=N) λi _ I=>(aI i I).2.2.2;let ap:=C.out r al;let l3:=C.lo y' (tg (tg (tg J (tg P (one e))) (one f)) Z') ap λw=>by
    rw[dX,dX,dX,L,bP,iY r,aa,aS]
    cases (O w)<;>cases (v == w)<;>cases (y' == w)<;>cases (x == w)<;>cases (x' == w)<;>rfl
   let:=T.low y' ap;let:=T.cr f r xf;omega
  exact#[λ_=>#[e,Y,Je,h9],λz=>(by cases z),λf g r A jf jg xf xg=>(ue f r jf xf).trans (ue g A jg xg).symm]
theorem Cfg.ring(C:Cfg N n a b O l m){R:Nat->Bool}(h:∀ x,bd N a b R x=false):csw l R N%2=0:=by
 let e:∀ k,k<=N->csw l R k%2=cond (par (λi=>R i&&((m (a i)%2 == 1) ^^ (m (b i)%2 == 1))) k) 1 0:=by
  intro k;induction k with
  |zero=>intro _;rfl
  |succ k Q =>
   intro f;let J:=Q ∅
   let p:=C.pr k ∅
   show(csw l R k+cond (R k) (l k) 0)%2=cond (par (λi=>R i&&((m (a i)%2 == 1) ^^ (m (b i)%2 == 1))) k ^^ (R k&&((m (a k)%2 == 1) ^^ (m (b k)%2 == 1)))) 1 0;let t:m (a k)%2=0∨m (a k)%2=1:=by omega
   let d:m (b k)%2=0∨m (b k)%2=1:=by omega
   cases R k<;>cases M:par (λi=>R i&&((m (a i)%2 == 1) ^^ (m (b i)%2 == 1))) k<;>rw[M]at J<;>obtain t|t:=t<;>obtain d|d:=d<;>rw[t,d]<;>simp at J ⊢<;>omega
 rw[e N (HF _),cut (λv=>m v%2 == 1) R C.ends,nY λv _=>by rw[h v,LD]]
 rfl
theorem Co{l:Nat->Nat}{F G:Nat->Bool}:∀ n,(csw l (tg F G) n+csw l F n+csw l G n)%2=0
 |0=>rfl
 |n+1=>by
  let:=Co (l:=l) (F:=F) (G:=G) n;show(csw l (tg F G) n+cond (F n ^^ G n) (l n) 0+(csw l F n+cond (F n) (l n) 0)+(csw l G n+cond (G n) (l n) 0))%2=0
  cases F n<;>cases G n<;>simp<;>omega
def chi(D:Nat->Bool)(a b:Nat->Nat)(i:Nat):Nat:=cond (D (a i) ^^ D (b i)) 1 0
def rho(D J:Nat->Bool)(a b:Nat->Nat)(i:Nat):Nat:=cond (D (a i) ^^ D (b i)) (cond (J i) 0 1) 0
theorem Cfg.low2(C:Cfg N n a b O l m)(T:Top N n a b l m D M0){v:Nat}(hv:v<n)(L:∀ x,bd N a b J x=(O x ^^ (v == x)))(g:csw l J N=m v):
  ∀(q:Nat)(K:Nat->Bool),csw (rho D J a b) K N<=q->(∀ x,bd N a b K x=(O x ^^ (v == x)))->m v+csw (chi D a b) K N<=csw l K N+csw (chi D a b) J N:=by
 intro q;induction q using L9 with
 |ind q Q =>
 intro K d kb;let kl:=C.lo v K hv kb;by_cases c:∃ f,f<N/\K f=true/\(D (a f) ^^ D (b f))=true/\J f=false
 .let t ac k1 al j1:=c;let y1 k aS aT ab aW:=pN al;let f2 P y j Y B H E h5 h6 h7 h8 h9 aa:=exits (N:=N) (a:=a) (b:=b) D _ (tg (tg K J) (one t)) y1 (HF _) aS λw M=>by
   rw[dX,dX,iY ac,ab,kb,L,show(k == w)=false from beq_eq_false_iff_ne.mpr λz=>by simp_all]
   simp_all
  let am:f2≠t:=λz=>by rw[z]at B;unfold tg one at B;simp_all
  let F2:(K f2 ^^ J f2)=true:=by
   unfold tg one at B;rw[show(f2 == t)=false from beq_eq_false_iff_ne.mpr am,IS]at B;exact B
  let P1:P t=false:=by
   cases p:P t with
   |false=>rfl
   |true=>simp_all
  let wz s u:=T.zc k j aT h6;let Z1:∀ f,(D (a f) ^^ D (b f))=true->wz f=false:=λf xf=>by
   cases p:wz f with
   |false=>rfl
   |true=>simp_all
  let R A:∃ R,R=tg (tg P (one t)) (one f2):=#[_,U];let aI:∀ i,i<N->R i=true->(J i ^^ K i)=true:=λi _ I=>by
   rw[Kq];by_cases c1:i=t
   .simp_all
   by_cases c2:i=f2
   .rw[c2];exact F2
   rw[A]at I;unfold tg one at I;rw[show(i == t)=false from beq_eq_false_iff_ne.mpr c1,show(i == f2)=false from beq_eq_false_iff_ne.mpr c2,IS,IS]at I;let:=(E i I).2.1;unfold tg one at this;rw[show(i == t)=false from beq_eq_false_iff_ne.mpr c1,IS]at this;exact this
  let sm:=wY (w:=l) aI;let zl:∀{F:Nat->Bool},csw l (tg F wz) N=csw l F N:=nE λi _ I=>(s i I).2.2.2;let bR:∀ w,bd N a b R w=((k == w) ^^ (j == w)):=λw=>by
   rw[A,dX,dX,iY ac,iY Y,ab,h7,aa]
   cases (y1 == w)<;>cases (y == w)<;>cases (k == w)<;>cases (j == w)<;>rfl
  let bJ:∀ w,bd N a b (tg (tg J R) wz) w=(O w ^^ (v == w)):=λw=>by
   rw[dX,dX,L,bR,u];simp_all
  let bK:∀ w,bd N a b (tg (tg K R) wz) w=(O w ^^ (v == w)):=λw=>by
   rw[dX,dX,kb,bR,u];simp_all
  let lJ:=C.lo v _ hv bJ;rw[zl]at lJ;let an:∀{w:Nat->Nat}{F:Nat->Bool},(∀ i,(D (a i) ^^ D (b i))=false->w i=0)->csw w (tg (tg F R) wz) N=csw w (tg (tg F (one t)) (one f2)) N:=λ{w F} o=>csw_congr λi I=>by
   cases xi:(D (a i) ^^ D (b i)) with
   |false=>rw[o i xi];simp_all
   |true =>
    let Pi:P i=false:=by
     cases p:P i with
     |false=>rfl
     |true=>simp_all
    let:tg (tg F R) wz i=tg (tg F (one t)) (one f2) i:=by
     rw[A];unfold tg;rw[Z1 i xi,Pi];simp
    rw[this]
  let x0:∀ i,(D (a i) ^^ D (b i))=false->chi D a b i=0:=λi h=>by unfold chi;rw[h];rfl
  let q0:∀ i,(D (a i) ^^ D (b i))=false->rho D J a b i=0:=λi h=>by unfold rho;rw[h];rfl
  let xa:chi D a b t=1:=by unfold chi;rw[al];rfl
  let xb:chi D a b f2=1:=by unfold chi;rw[h9];rfl
  let ap:tg K (one t) f2=K f2:=by unfold tg one;rw[show(f2 == t)=false from beq_eq_false_iff_ne.mpr am,IS]
  let o1:=g9 (w:=chi D a b) ac k1;let o2:=g9 (w:=rho D J a b) ac k1;let w1:rho D J a b t=1:=by unfold rho;rw[al,j1];rfl
  rw[w1]at o2;rw[xa]at o1;let cK:=an (F:=K) x0;let cQ:=an (F:=K) q0;let zK:=zl (F:=tg K R)
  cases j2:J f2 with
  |true =>
   let r:K f2=false:=by rw[j2]at F2;simpa using F2
   let p1:=pG (w:=chi D a b) (F:=tg K (one t)) Y (by rw[ap];exact r)
   let e:=pG (w:=rho D J a b) (F:=tg K (one t)) Y (by rw[ap];exact r)
   let w2:rho D J a b f2=0:=by unfold rho;rw[j2];simp_all
   grind
  |false =>
   let r:K f2=true:=by rw[j2]at F2;simpa using F2
   let p1:=g9 (w:=chi D a b) (F:=tg K (one t)) Y (by rw[ap];exact r)
   let e:=g9 (w:=rho D J a b) (F:=tg K (one t)) Y (by rw[ap];exact r)
   let J1:tg (tg J R) wz t=true:=by
    rw[A];unfold tg one;rw[Z1 t al,j1,P1,show(t == f2)=false from beq_eq_false_iff_ne.mpr (Ne.symm am)];simp
   let J2:tg (tg J R) wz f2=true:=by
    rw[A];unfold tg one;rw[Z1 f2 h9,j2,H,show(f2 == t)=false from beq_eq_false_iff_ne.mpr am];simp
   let a0:csw l (tg J R) N≠m v:=λz=>am ((C.uniq T hv bJ (by rw[zl];exact z)).2.2 f2 t Y ac J2 J1 h9 al)
   let rg:=C.ring (R:=tg R wz) λw=>by rw[dX,bR,u,KL]
   rw[zl]at rg;let pa:=Co (l:=l) (F:=J) (G:=R) N;grind
 .let:csw (chi D a b) K N<=csw (chi D a b) J N:=csw_le λi I=>by
   cases ki:K i with
   |false=>exact Iz _
   |true =>
    cases xi:(D (a i) ^^ D (b i)) with
    |false=>unfold chi;rw[xi];cases J i<;>exact HF _
    |true =>
     cases ji:J i with
     |true=>exact HF _
     |false=>exact NZ #[i,I,ki,xi,ji] c
  omega
theorem nF{w:Nat->Nat}{F:Nat->Bool}:∀{n:Nat},(∀ i,i<n->F i=true->w i=0)->csw w F n=0
 |0,_=>rfl
 |n+1,h=>by
  show csw w F n+cond (F n) (w n) 0=0;rw[nF λi I=>h i ∅]
  cases f:F n with
  |false=>rfl
  |true=>rw[K0];exact h n ∅ f
theorem Cfg.one_out(C:Cfg N n a b O l m)(T:Top N n a b l m D M0){v:Nat}(hv:v<n)(L:∀ x,bd N a b J x=(O x ^^ (v == x)))(g:csw l J N=m v):csw (chi D a b) J N=cond (D v) 0 1:=by
 let Y B H:=C.uniq T hv L g;let u:∀{i:Nat},¬ (D (a i) ^^ D (b i))=true->chi D a b i=0:=λ{i} h=>by unfold chi;rw[Bool.not_eq_true _ |>.mp h];rfl
 cases r:D v with
 |true=>exact nF λi I j=>u (B r i I j)
 |false =>
  let e d k p:=Y r;let o:=g9 (w:=chi D a b) d k;let z:csw (chi D a b) (tg J (one e)) N=0:=nF λi I j=>u λf=>by
   by_cases c:i=e
   .rw[c]at j;unfold tg one at j;simp_all
   .unfold tg one at j;rw[show(i == e)=false from beq_eq_false_iff_ne.mpr c,IS]at j;exact c (H i e I d j k f p)
  let q:chi D a b e=1:=by unfold chi;rw[p];rfl
  rw[z,q]at o;exact o.symm
theorem Cfg.odd(C:Cfg N n a b O l m)(T:Top N n a b l m D M0){v:Nat}(hv:v<n)(r:D v=false):par (λx=>D x&&(O x ^^ (v == x))) n=true:=by
 let J L g:=C.mn v hv;let Y _ H:=C.uniq T hv L g;let e d k p:=Y r;let c:=cut (n:=n) D J C.ends;let c2:par (λx=>D x&&bd N a b J x) n=par (λx=>D x&&(O x ^^ (v == x))) n:=par_congr λx _=>by rw[L]
 rw[← c2,← c,jY (e:=e) λi I ne=>?_,Ni d,k,p]
 .rfl
 .cases j:J i with
  |false=>rfl
  |true =>
   cases f:(D (a i) ^^ D (b i)) with
   |false=>rfl
   |true=>exact NZ (H i e I d j k f p) ne
theorem Cfg.step(C:Cfg N n a b O l m)(T:Top N n a b l m D M0):Cfg N n a b O (λi=>l i-chi D a b i) (λv=>m v-cond (D v) 0 1)/\∀ v,v<n->D v=false->1<=m v:=by
 let u:∀ i,i<N->chi D a b i<=l i:=λi I=>by
  unfold chi
  cases x:(D (a i) ^^ D (b i)) with
  |false=>exact Iz _
  |true=>exact T.cr i I x
 let w:∀ F,csw l F N=csw (λi=>l i-chi D a b i) F N+csw (chi D a b) F N:=λF=>by
  rw[← csw_add];exact csw_congr λi I=>by rw[Nat.sub_add_cancel (u i I)]
 let f:∀ v,v<n->D v=false->1<=m v:=λv A d=>by
  let J L g:=C.mn v A;let:=C.one_out T A L g;grind
 refine#[#[C.ends,λv A=>?_,λv F A j=>?_,λi I=>?_],f]
 .let J L g:=C.mn v A;refine#[J,L,?_];let:=C.one_out T A L g;let s:=w J;rw[this,g]at s;omega
 .let J L g:=C.mn v A;let o:=C.one_out T A L g;let:=C.low2 T A L g _ F (HF _) j;let s:=w F;grind
 .let p:=C.pr i I
  let e:=u i I;let r G:=C.ends i I;let c:=f (a i) r;let q:=f (b i) G;show(l i-chi D a b i+(m (a i)-cond (D (a i)) 0 1)+(m (b i)-cond (D (b i)) 0 1))%2=0;unfold chi at e ⊢
  cases k:D (a i)<;>cases t:D (b i)<;>rw[k,t]at e<;>simp at e ⊢<;>(try have:=c k)<;>(try have:=q t)<;>omega
def cn:List (Nat->Bool)->Nat->Nat
 |[],_=>0
 |D::c,v=>cond (D v) 0 1+cn c v
def cx(a b:Nat->Nat):List (Nat->Bool)->Nat->Nat
 |[],_=>0
 |D::c,i=>chi D a b i+cx a b c i
def lH(D E:Nat->Bool):Prop:=∀ x,D x=true->E x=true->False
structure Pce(N n:Nat)(a b:Nat->Nat)(l m:Nat->Nat)(D:Nat->Bool)(M0:Nat):Prop where
 ne:∃ x,D x=true
 lt:∀ x,D x=true->x<n
 tp:∀ x,D x=true->m x=M0
 zc:∀ x y,D x=true->D y=true->∃ wz:Nat->Bool,(∀ i,wz i=true->i<N/\D (a i)=true/\D (b i)=true/\l i=0)/\∀ v,bd N a b wz v=((x == v) ^^ (y == v))
theorem Fu{E:Nat->Bool}(Y:D (a i)=true)(h2:D (b i)=true)(h:lH D E):chi E a b i=0:=by
 unfold chi;let C:E (a i)=false:=by cases z:E (a i)with|false=>rfl|true=>exact(h _ Y z).elim
 let T:E (b i)=false:=by cases z:E (b i)with|false=>rfl|true=>exact(h _ h2 z).elim
 rw[C,T];rfl
theorem Cfg.many:∀(Ds:List (Nat->Bool)){l m:Nat->Nat}{M0:Nat},Cfg N n a b O l m->(∀ D∈Ds,Pce N n a b l m D M0)->(∀ v,v<n->M0<=m v)->(∀ D∈Ds,∀ i,i<N->(D (a i) ^^ D (b i))=true->cx a b Ds i<=l i)->Ds.Pairwise lH ->
  Cfg N n a b O (λi=>l i-cx a b Ds i) (λv=>m v-cn Ds v)/\(∀ v,v<n->cn Ds v<=m v)/\∀ D∈Ds,∀ v,v<n->D v=false->par (λx=>D x&&(O x ^^ (v == x))) n=true
 |[],l,m,M0,C,_,_,_,_=>#[by simpa only[cx,cn,Nat.sub_zero] using C,λv _=>Iz _,λD h=>by cases h]
 |D::Ds,l,m,M0,C,M,e,cr,o=>by
  let w aa:=Ke.mp o;let pD:=M D (HL ..)
  let T:Top N n a b l m D M0:=#[pD.ne,pD.lt,pD.tp,e,λi I x=>by
   let:=cr D (HL ..) i I x;let q:chi D a b i=1:=by unfold chi;rw[x];rfl
   let:cx a b (D::Ds) i=chi D a b i+cx a b Ds i:=rfl
   omega,pD.zc]
  let C1 t:=C.step T;let ab:∀ E∈Ds,Pce N n a b (λi=>l i-chi D a b i) (λv=>m v-cond (D v) 0 1) E (M0-1):=λE f=>by
   let pE:=M E (HK _ f);refine#[pE.ne,pE.lt,λx J=>?_,λx y J Q=>?_]
   .show m x-cond (D x) 0 1=M0-1;let:D x=false:=by cases z:D x with|false=>rfl|true=>exact(w E f x z J).elim
    rw[this,pE.tp x J];rfl
   .let wz s u:=pE.zc x y J Q;refine#[wz,λi I=>?_,u];let k G Y g:=s i I;simp_all
  let ac:∀ v,v<n->M0-1<=m v-cond (D v) 0 1:=λv A=>by
   let:=e v A
   cases D v<;>simp<;>omega
  let al:∀ E∈Ds,∀ i,i<N->(E (a i) ^^ E (b i))=true->cx a b Ds i<=l i-chi D a b i:=λE f i I L=>by
   let:=cr E (HK _ f) i I L;let:cx a b (D::Ds) i=chi D a b i+cx a b Ds i:=rfl;omega
  let H c j:=Cfg.many Ds C1 ab ac al aa;refine#[?_,λv A=>?_,λE f v A r=>?_]
  .let B:(λi=>l i-cx a b (D::Ds) i)=λi=>l i-chi D a b i-cx a b Ds i:=funext λi=>Lz ..
   let d:(λv=>m v-cn (D::Ds) v)=λv=>m v-cond (D v) 0 1-cn Ds v:=funext λv=>Lz ..;rw[B,d];exact H
  .let:=c v A
   let p:=t v A;show cond (D v) 0 1+cn Ds v<=m v
   cases r:D v with
   |true=>simp_all
   |false=>rw[r]at this;let:=p r;simp at *;omega
  .obtain h|h:=HQ.mp f
   .rw[h]at r ⊢;exact C.odd T A r
   .exact j E h v A r
theorem EF:∀{Ds:List (Nat->Bool)}{v:Nat},(∀ D∈Ds,D v=false)->cn Ds v=Ds.length
 |[],_,_=>rfl
 |D::Ds,v,h=>by
  show cond (D v) 0 1+cn Ds v=_;rw[h D (HL ..),EF λE f=>h E (HK _ f),IM];grind
theorem EG:∀{Ds:List (Nat->Bool)}{v:Nat},Ds.Pairwise lH->D∈Ds->D v=true->cn Ds v+1=Ds.length
 |E::Ds,v,o,h,r=>by
  let w c:=Ke.mp o;show cond (E v) 0 1+cn Ds v+1=_;rw[IM];obtain h|h:=HQ.mp h
  .rw[← h,r,EF λF d=>by cases z:F v with|false=>rfl|true=>exact(w F d v (by rw[← h];exact r) z).elim]
   simp
  .let e:E v=false:=by cases z:E v with|false=>rfl|true=>exact(w D h v z r).elim
   let:=EG c h r;lia
theorem cx_in:∀{Ds:List (Nat->Bool)}{i:Nat},Ds.Pairwise lH->D∈Ds->D (a i)=true->D (b i)=true->cx a b Ds i=0
 |E::Ds,i,o,h,k,t=>by
  let w c:=Ke.mp o;show chi E a b i+cx a b Ds i=0;obtain h|h:=HQ.mp h
  .let e:∀ f:List (Nat->Bool),(∀ F∈f,lH D F)->cx a b f i=0:=λf=>by
    induction f with
    |nil=>intro _;rfl
    |cons F f Q=>intro d;show chi F a b i+cx a b f i=0;rw[Fu k t (d F (HL ..)),Q λG g=>d G (HK _ g)]
   rw[e Ds λF d=>by rw[h];exact w F d]
   unfold chi;rw[← h,k,t];rfl
  .rw[Fu k t λx J H=>w D h x H J,cx_in c h k t]
theorem Cfg.down(Ds:List (Nat->Bool))(o:Ds.Pairwise lH):∀(t:Nat){l m:Nat->Nat}{M0:Nat},Cfg N n a b O l m->(∀ D∈Ds,Pce N n a b l m D M0)->(∀ v,v<n->(∃ D∈Ds,D v=true)∨M0+t<=m v)->(∀ i,i<N->t*cx a b Ds i<=l i) ->
  Cfg N n a b O (λi=>l i-t*cx a b Ds i) (λv=>m v-t*cn Ds v)/\(∀ v,v<n->t*cn Ds v<=m v)/\(0<t->∀ D∈Ds,∀ v,v<n->D v=false->par (λx=>D x&&(O x ^^ (v == x))) n=true)
 |0,l,m,M0,C,_,_,_=>#[by simpa only[Nat.zero_mul,Nat.sub_zero] using C,λv _=>by rw[Nat.zero_mul];exact Iz _,λh=>by omega]
 |t+1,l,m,M0,C,M,e,cr=>by
  let sm:∀ k:Nat,(t+1)*k=t*k+k:=λk=>Nat.succ_mul t k
  let w Y B:=C.many Ds M (λv A=>by
   rcases e v A with⟨D,p,r⟩|h
   .exact Nat.le_of_eq ((M D p).tp v r).symm
   .omega) (λD p i I x=>by let:=cr i I;lia) o
  let aa:∀ D∈Ds,Pce N n a b (λi=>l i-cx a b Ds i) (λv=>m v-cn Ds v) D (M0+1-Ds.length):=λD p=>by
   let pD:=M D p;refine#[pD.ne,pD.lt,λx J=>?_,λx y J Q=>?_]
   .let:=EG o p J
    let:=pD.tp x J;let:=Y x (pD.lt x J);grind
   .let wz s u:=pD.zc x y J Q;refine#[wz,λi I=>?_,u];let G E q g:=s i I;simp_all
  let f:Ds.length<=M0+1:=by
   by_cases c:Ds=[]
   .simp[*]
   .let D p:=List.exists_mem_of_ne_nil _ c;let x J:=(M D p).ne;let:=EG o p J;let:=(M D p).tp x J;let:=Y x ((M D p).lt x J);omega
  let ab:∀ v,v<n->(∃ D∈Ds,D v=true)∨M0+1-Ds.length+t<=m v-cn Ds v:=λv A=>by
   by_cases c:∃ D∈Ds,D v=true
   .exact .inl c
   .let h:M0+(t+1)<=m v:=(e v A).elim (λz=>NZ z c) id
    let:=EF (Ds:=Ds) (v:=v) λD p=>by simp_all
    let:=Y v A;omega
  let ac:∀ i,i<N->t*cx a b Ds i<=l i-cx a b Ds i:=λi I=>by
   let:=cr i I;lia
  let H d L:=Cfg.down Ds o t w aa ab ac;refine#[?_,λv A=>?_,λ_=>B]
  .let j:(λi=>l i-(t+1)*cx a b Ds i)=λi=>l i-cx a b Ds i-t*cx a b Ds i:=funext λi=>by rw[sm,LV,Lz]
   let T:(λv=>m v-(t+1)*cn Ds v)=λv=>m v-cn Ds v-t*cn Ds v:=funext λv=>by rw[sm,LV,Lz]
   rw[j,T];exact H
  .let:=d v A
   grind
end
section
variable{N n:Nat}{a b:Nat->Nat}{O:Nat->Bool}{len h:Nat->Int}{pc:Nat->Nat}{L:Int}{l m:Nat->Nat}
def dm(M:Nat):Nat->Bool:=λx=>M.testBit x
def ZC(N:Nat)(a b:Nat->Nat)(pc l:Nat->Nat)(M x y:Nat):Prop:=∃ wz:Nat->Bool,(∀ i,wz i=true->i<N/\pc (a i)=M/\pc (b i)=M/\l i=0)/\∀ v,bd N a b wz v=((x == v) ^^ (y == v))
theorem ZC.refl(M x:Nat):ZC N a b pc l M x x:=#[λ_=>false,λ_ h=>L4 h,λv=>by rw[Hu,KL]]
theorem ZC.symm{x y:Nat}(h:ZC N a b pc l M x y):ZC N a b pc l M y x:=by
 let wz s u:=h;exact#[wz,s,λv=>by rw[u,Kq]]
theorem ZC.trans{x y z:Nat}(h:ZC N a b pc l M x y)(g:ZC N a b pc l M y z):ZC N a b pc l M x z:=by
 let wz s u:=h;let Y B J:=g;refine#[tg wz Y,λi I=>?_,λv=>by rw[dX,u,J,x3]]
 unfold tg at I
 cases c:wz i with
 |true=>exact s i c
 |false=>rw[c,LB]at I;exact B i I
theorem ZC.imp{d:Nat->Nat}{x y:Nat}(h:ZC N a b pc l M x y)(c:∀ i,i<N->a i<n/\b i<n)(k:∀ v,v<n->pc v=M->d v=j):ZC N a b d l j x y:=by
 let wz s u:=h;refine#[wz,λi I=>?_,u];let J t p q:=s i I;exact#[J,k _ (c i J).1 t,k _ (c i J).2 p,q]
structure Run(N n:Nat)(a b:Nat->Nat)(O:Nat->Bool)(len h:Nat->Int)(pc:Nat->Nat)(L:Int)(l m:Nat->Nat):Prop where
 C:Cfg N n a b O l m
 cc:∃ c:Int,∀ v,v<n->(2*h v<=L->(m v:Int)=c-2*h v)/\(L<=2*h v->(m v:Int)=c-L)
 pa:∀ v,v<n->pc v≠0->(pc v).testBit v=true
 pb:∀ v x,v<n->(pc v).testBit x=true->x<n/\pc x=pc v
 dr:∀ v,v<n->pc v≠0->L<=2*h v
 we:∀ v,v<n->pc v=0->2*h v<=L
 zc:∀ x y,x<n->y<n->pc x≠0->pc y=pc x->ZC N a b pc l (pc x) x y
 fl:∀ i,i<N->(pc (a i)=0->pc (b i)=0->(l i:Int)=2*len i)/\(pc (a i)≠0->pc (b i)=0->(l i:Int)+(2*h (a i)-L)=2*len i)/\(pc (a i)=0->pc (b i)≠0->(l i:Int)+(2*h (b i)-L)=2*len i)/\(pc (a i)≠0->pc (b i)≠0->pc (a i)≠pc (b i)->(l i:Int)+(2*h (a i)-L)+(2*h (b i)-L)=2*len i)
theorem bit0{v:Nat}:Ky 0 v≠true:=by simp
theorem Fo{i:Nat}:∀{Ds:List (Nat->Bool)},(∀ D∈Ds,D (a i)=true->D (b i)=true->False)->cx a b Ds i+cn Ds (a i)+cn Ds (b i)=2*Ds.length
 |[],_=>rfl
 |D::Ds,h=>by
  let Q:=Fo (i:=i) λE f=>h E (HK _ f);let hd:=h D (HL ..);show chi D a b i+cx a b Ds i+(cond (D (a i)) 0 1+cn Ds (a i))+(cond (D (b i)) 0 1+cn Ds (b i))=_;rw[IM];unfold chi;grind
theorem Run.down(R:Run N n a b O len h pc L l m)(lip:∀ i,i<N->h (a i)-h (b i)<=len i/\h (b i)-h (a i)<=len i){Ms:List Nat}(hM:∀ M,M∈Ms↔M≠0/\∃ v,v<n/\pc v=M)(nd:Ms.Nodup)(ne:∃ v,v<n/\pc v≠0){t:Nat}(hw:∀ v,v<n->pc v=0->2*h v<=L-t)(hl:∀ i,i<N->pc (a i)≠0->pc (b i)≠0->pc (a i)≠pc (b i)->h (a i)+h (b i)-len i<=L-t):
  ∃ l' m',Run N n a b O len h pc (L-t) l' m'/\(∀ v,v<n->m v=m' v+t*cn (Ms.map dm) v)/\(∀ i,i<N->l i=l' i+t*cx a b (Ms.map dm) i)/\(0<t->∀ M∈Ms,∀ v,v<n->M.testBit v=false->par (λx=>M.testBit x&&(O x ^^ (v == x))) n=true):=by
 let c g:=R.cc;let aa:∀{M x:Nat},M∈Ms->M.testBit x=true->x<n/\pc x=M:=λ{M x} Y B=>by
  let _ v A e:=(hM M).mp Y;rw[← e]at B ⊢;exact R.pb v x A B
 let ap:(Ms.map dm).Pairwise lH:=Kz.mpr (nd.imp_of_mem λ{M M'} Y B ne x d1 d2=>ne ((aa Y d1).2.symm.trans (aa B d2).2));let mem:∀ v,v<n->pc v≠0->dm (pc v)∈Ms.map dm:=λv A z=>Im.mpr #[_,(hM _).mpr #[z,v,A,U],U];let cD:∀ v,v<n->pc v≠0->cn (Ms.map dm) v+1=(Ms.map dm).length:=λv A z=>EG ap (mem v A z) (R.pa v A z);let cW:∀ v,pc v=0->cn (Ms.map dm) v=(Ms.map dm).length:=λv z=>EF λD hD=>by
  let M Y rfl:=Im.mp hD
  cases q:dm M v with
  |false=>rfl
  |true=>exact NZ (z▸(aa Y q).2).symm ((hM M).mp Y).1
 let xS:∀ i,i<N->pc (a i)≠0->pc (b i)=pc (a i)->cx a b (Ms.map dm) i=0:=λi I z e=>by
  let ea eb:=R.C.ends i I;exact cx_in ap (mem _ ea z) (R.pa _ ea z) (by rw[← e];exact R.pa _ eb (by rw[e];exact z))
 let xO:∀ i,i<N->(pc (a i)=pc (b i)->pc (a i)=0)->cx a b (Ms.map dm) i+cn (Ms.map dm) (a i)+cn (Ms.map dm) (b i)=2*(Ms.map dm).length:=λi I z=>Fo λD hD d1 d2=>by
  let M Y rfl:=Im.mp hD;let j:=(aa Y d1).2;let T:=(aa Y d2).2;exact((hM M).mp Y).1 (j.symm.trans (z (j.trans T.symm)))
 let v0 ab z0:=ne;let c0:=(g v0 ab).2 (R.dr v0 ab z0);let M0 an:∃ M0:Nat,(M0:Int)=c-L:=#[m v0,c0];let tl:∀ i,i<N->t*cx a b (Ms.map dm) i<=l i:=λi I=>by
  let f1 f2 f3 f4:=R.fl i I;let ea eb:=R.C.ends i I;let am:=lip i I;by_cases za:pc (a i)=0<;>by_cases zb:pc (b i)=0
  .let:=xO i I λ_=>za
   let:=cW _ za;let:=cW _ zb;lia
  .let:=xO i I λ_=>za
   let:=cW _ za;let:=cD _ eb zb;grind
  .let:=xO i I λe=>e.trans zb
   let:=cD _ ea za;let:=cW _ zb;let:=f2 za zb;let:=hw _ eb zb;grind
  .by_cases e:pc (a i)=pc (b i)
   .simp[*]
   .grind
 let H g2 g3:=R.C.down (Ms.map dm) ap t (M0:=M0) (λD hD=>by
  let M Y rfl:=Im.mp hD;let z v A e:=(hM M).mp Y;let ac:∀ x,dm M x=true->x<n/\pc x=M/\pc x≠0:=λx J=>#[(aa Y J).1,(aa Y J).2,by rw[(aa Y J).2];exact z]
  refine#[#[v,by show M.testBit v=true;rw[← e];exact R.pa v A (by rw[e];exact z)],λx J=>(ac x J).1,λx J=>?_,λx y J Q=>?_]
  .let k E q3:=ac x J;let:=(g x k).2 (R.dr x k q3);omega
  .let k E q3:=ac x J;let o r2 r3:=ac y Q;let wz s u:=R.zc x y k o q3 (r2.trans E.symm);refine#[wz,λi I=>?_,u];let G f p s4:=s i I;let ea eb:=R.C.ends i G;refine#[G,?_,?_,s4]
   .show M.testBit (a i)=true;rw[← E,← f];exact R.pa _ ea (by rw[f];exact q3)
   .show M.testBit (b i)=true;rw[← E,← p];exact R.pa _ eb (by rw[p];exact q3)) (λv A=>by
  by_cases z:pc v=0
  .let:=(g v A).1 (R.we v A z)
   let:=hw v A z;exact .inr ∅
  .exact .inl #[_,mem v A z,R.pa v A z]) tl
 refine#[_,_,#[H,#[c-t*(Ms.map dm).length,λv A=>?_],R.pa,R.pb,λv A z=>?_,hw,λx y J Q z e=>?_,λi I=>?_],λv A=>?_,λi I=>?_,λr M Y v A dv=>g3 r (dm M) (Im.mpr #[M,Y,U]) v A dv]
 .let le:=g2 v A
  let al:=g v A;let em:(((m v-t*cn (Ms.map dm) v:Nat):Nat):Int)=(m v:Int)-((t*cn (Ms.map dm) v:Nat):Int):=by omega
  rw[em];by_cases z:pc v=0
  .let e:=cW v z
   let w:=hw v A z;rw[e];let:=al.1 (R.we v A z);push_cast;lia
  .let e:=cD v A z
   let d:=R.dr v A z;let:=al.2 d;let T:(t:Int)*((Ms.map dm).length:Int)=(t:Int)*(cn (Ms.map dm) v:Int)+t:=by
    rw[← e];push_cast;rfl
   rw[T];push_cast;lia
 .let:=R.dr v A z
  omega
 .let wz s u:=R.zc x y J Q z e;refine#[wz,λi I=>?_,u];simp[*]
 .let le:=tl i I
  let f1 f2 f3 f4:=R.fl i I;let ea eb:=R.C.ends i I;let em:(((l i-t*cx a b (Ms.map dm) i:Nat):Nat):Int)=(l i:Int)-((t*cx a b (Ms.map dm) i:Nat):Int):=by omega
  show((pc (a i)=0->pc (b i)=0->(((l i-t*cx a b (Ms.map dm) i:Nat):Nat):Int)=2*len i)/\(pc (a i)≠0->pc (b i)=0->(((l i-t*cx a b (Ms.map dm) i:Nat):Nat):Int)+(2*h (a i)-(L-t))=2*len i)/\(pc (a i)=0->pc (b i)≠0->(((l i-t*cx a b (Ms.map dm) i:Nat):Nat):Int)+(2*h (b i)-(L-t))=2*len i)/\(pc (a i)≠0->pc (b i)≠0->pc (a i)≠pc (b i)->(((l i-t*cx a b (Ms.map dm) i:Nat):Nat):Int)+(2*h (a i)-(L-t))+(2*h (b i)-(L-t))=2*len i));rw[em];refine#[λza zb=>?_,λza zb=>?_,λza zb=>?_,λza zb e=>?_]
  .let:=xO i I λ_=>za
   let:=cW _ za;let:=cW _ zb;let:=f1 za zb;rw[show cx a b (Ms.map dm) i=0 by omega]
   omega
  .let:=xO i I λe=>e.trans zb
   let:=cD _ ea za;let:=cW _ zb;let:=f2 za zb;rw[show cx a b (Ms.map dm) i=1 by omega]
   omega
  .let:=xO i I λ_=>za
   let:=cW _ za;let:=cD _ eb zb;let:=f3 za zb;rw[show cx a b (Ms.map dm) i=1 by omega]
   omega
  .let:=xO i I λy=>NZ y e
   let:=cD _ ea za;let:=cD _ eb zb;let:=f4 za zb e;rw[show cx a b (Ms.map dm) i=2 by omega]
   omega
 .simp[*]
 .simp[*]
def jn2(pc:Nat->Nat)(P v:Nat):Nat:=if P.testBit v=true then P else pc v
theorem Run.join(R:Run N n a b O len h pc L l m){u w P:Nat}(f:u<n)(hw:w<n)(lu:L<=2*h u)(lw:L<=2*h w)(hz:u=w∨∃ i,i<N/\a i=u/\b i=w/\h u+h w-len i=L)(hP:P=2^u|||2^w|||pc u|||pc w):Run N n a b O len h (jn2 pc P) L l m/\(jn2 pc P u=P/\jn2 pc P w=P/\P≠0)/\(∀ v,P.testBit v=true->v<n)/\∀ x v,x<n->v<n->pc v≠0->pc x=pc v->jn2 pc P x=jn2 pc P v/\jn2 pc P v≠0:=by
 let bP:∀ v,P.testBit v=true↔(v=u∨v=w∨(pc u).testBit v=true∨(pc w).testBit v=true):=λv=>by
  rw[hP,I9,I9,I9,Ic,Ic,JN,JN,JN,decide_eq_true_iff,decide_eq_true_iff];constructor
  .rintro(((h|h)|h)|h)
   .exact .inl h.symm
   .exact .inr (.inl h.symm)
   .exact .inr (.inr (.inl h))
   .exact .inr (.inr (.inr h))
  .rintro(h|h|h|h)
   .exact .inl (.inl (.inl h.symm))
   .exact .inl (.inl (.inr h.symm))
   .exact .inl (.inr h)
   .exact .inr h
 let Pu:P.testBit u=true:=(bP u).mpr (.inl U);let Pw:P.testBit w=true:=(bP w).mpr (.inr (.inl U));let P0:P≠0:=λz=>by rw[z]at Pu;exact bit0 Pu
 let inP:∀ v,P.testBit v=true->v<n/\(v=u∨v=w∨(pc v=pc u/\pc v≠0)∨(pc v=pc w/\pc v≠0)):=λv A=>by
  rcases(bP v).mp A with h|h|h|h
  .exact#[∅,.inl h]
  .exact#[∅,.inr (.inl h)]
  .let k E:=R.pb u v f h;exact#[k,.inr (.inr (.inl #[E,λz=>by rw[← E,z]at h;exact bit0 h]))]
  .let k E:=R.pb w v hw h;exact#[k,.inr (.inr (.inr #[E,λz=>by rw[← E,z]at h;exact bit0 h]))]
 let same:∀ x v,v<n->x<n->pc v≠0->pc x=pc v->P.testBit x=true->P.testBit v=true:=λx v A J z e M=>by
  let pv:=R.pa v A z;rcases(inP x M).2 with h|h|h|h
  .rw[h]at e;exact(bP v).mpr (.inr (.inr (.inl (by rw[e];exact pv))))
  .rw[h]at e;exact(bP v).mpr (.inr (.inr (.inr (by rw[e];exact pv))))
  .exact(bP v).mpr (.inr (.inr (.inl (by rw[← h.1,e];exact pv))))
  .exact(bP v).mpr (.inr (.inr (.inr (by rw[← h.1,e];exact pv))))
 let jP:∀{v},P.testBit v=true->jn2 pc P v=P:=λh=>NX h;let jN:∀{v},¬ P.testBit v=true->jn2 pc P v=pc v:=λh=>NY h;let aa:∀ v,v<n->jn2 pc P v≠0->L<=2*h v:=λv A z=>by
  by_cases c:P.testBit v=true
  .rcases(inP v c).2 with h|h|h|h
   .rw[h];exact lu
   .rw[h];exact lw
   .exact R.dr v A h.2
   .exact R.dr v A h.2
  .rw[jN c]at z;exact R.dr v A z
 let up:∀ v,pc v≠0->jn2 pc P v≠0:=λv z=>by
  by_cases c:P.testBit v=true
  .rw[jP c];exact P0
  .rw[jN c];exact z
 let jS:∀ x v,x<n->v<n->pc v≠0->pc x=pc v->jn2 pc P x=jn2 pc P v:=λx v J A z e=>by
  by_cases c:P.testBit x=true
  .rw[jP c,jP (same x v A J z e c)]
  .rw[jN c,jN λD=>c (same v x J A (by rw[e];exact z) e.symm D),e]
 refine#[#[R.C,R.cc,λv A z=>?_,λv x A J=>?_,aa,λv A z=>?_,λx y J Q z e=>?_,λi I=>?_],#[jP Pu,jP Pw,P0],λv A=>(inP v A).1,λx v J A z e=>#[jS x v J A z e,up v z]]
 .by_cases c:P.testBit v=true
  .rw[jP c];exact c
  .rw[jN c]at z ⊢;exact R.pa v A z
 .by_cases c:P.testBit v=true
  .rw[jP c]at J ⊢;exact#[(inP x J).1,jP J]
  .rw[jN c]at J ⊢;let k E:=R.pb v x A J;let z:pc v≠0:=λz=>by rw[z]at J;exact bit0 J
   refine#[k,?_];rw[jN λD=>c (same x v A k z E D)];exact E
 .by_cases c:P.testBit v=true
  .rw[jP c]at z;exact NZ z P0
  .rw[jN c]at z;exact R.we v A z
 .skip
  let d:∀ x y,x<n->y<n->pc x≠0->pc y=pc x->ZC N a b (jn2 pc P) l (jn2 pc P x) x y:=λx y J Q z e=>(R.zc x y J Q z e).imp R.C.ends λv vn A=>jS v x vn J z A;let wu:ZC N a b (jn2 pc P) l P w u:=by
   obtain rfl|⟨i,I,H,s,r⟩:=hz
   .exact .refl _ _
   .by_cases c:pc u=pc w/\pc w≠0
    .let:=d w u hw f c.2 c.1
     rw[jP Pw]at this;exact this
    .let t Y f3 f4:=R.fl i I;rw[H,s]at t Y f3 f4;let l0:l i=0:=by
      by_cases zu:pc u=0<;>by_cases zw:pc w=0
      .let:=t zu zw
       let:=R.we u f zu;let:=R.we w hw zw;omega
      .let:=f3 zu zw
       let:=R.we u f zu;omega
      .let:=Y zu zw
       let:=R.we w hw zw;omega
      .let:=f4 zu zw λe=>c #[e,zw]
       omega
     refine ZC.symm #[one i,λj o=>?_,λv=>by rw[iY I,H,s]]
     rw[eq_of_beq o];exact#[I,by rw[H];exact jP Pu,by rw[s];exact jP Pw,l0]
  let ab:∀ x,P.testBit x=true->ZC N a b (jn2 pc P) l P x u:=λx J=>by
   let xn q:=inP x J;obtain rfl|rfl|⟨B,T⟩|⟨B,T⟩:=q
   .exact .refl _ _
   .exact wu
   .let:=d x u xn f T B.symm
    rw[jP J]at this;exact this
   .let:=d x w xn hw T B.symm
    rw[jP J]at this;exact this.trans wu
  by_cases c:P.testBit x=true
  .rw[jP c]at e z ⊢;let cy:P.testBit y=true:=by
    by_cases cy:P.testBit y=true
    .exact cy
    .rw[jN cy]at e;let:=R.pa y Q (by rw[e];exact z)
     rw[e]at this;exact this
   exact(ab x c).trans (ab y cy).symm
  .let G:=jN c
   rw[G]at e z;let cy:¬ P.testBit y=true:=λcy=>by
    rw[jP cy]at e;let:=R.pa x J z;rw[← e]at this;exact c this
   rw[jN cy]at e;exact d x y J Q z e
 .let t Y f3 f4:=R.fl i I;let H s:=R.C.ends i I;let wa:=R.we (a i) H;let wb:=R.we (b i) s;let da:=aa (a i) H;let db:=aa (b i) s;let ua:=up (a i);let ub:=up (b i);let js:=jS (a i) (b i) H s;by_cases za:pc (a i)=0<;>by_cases zb:pc (b i)=0
  .let B:=t za zb
   let T:=wa za;let g:=wb zb;refine#[λ_ _=>B,λp _=>?_,λ_ p=>?_,λp q _=>?_]
   .let:=da p;omega
   .let:=db p;omega
   .let:=da p;let:=db q;omega
  .let B:=f3 za zb
   let T:=wa za;refine#[λ_ p=>NZ p (ub zb),λ_ p=>NZ p (ub zb),λ_ _=>B,λp q _=>?_];let:=da p;omega
  .let B:=Y za zb
   let T:=wb zb;refine#[λp _=>NZ p (ua za),λ_ _=>B,λp _=>NZ p (ua za),λp q _=>?_];let:=db q;omega
  .refine#[λp _=>NZ p (ua za),λ_ p=>NZ p (ub zb),λp _=>NZ p (ua za),λ_ _ ne=>f4 za zb λe=>ne (js zb e)]
theorem Run.end(R:Run N n a b O len h pc L l m)(all:∀ v,v<n->pc v≠0)(whole:∀ i,i<N->pc (b i)=pc (a i)){v:Nat}(hv:v<n):m v=0:=by
 let F j g:=R.C.mn v hv;let d:∀ k,k<=N->∃ wz:Nat->Bool,(∀ i,wz i=true->i<N/\l i=0)/\∀ x,bd N a b wz x=bd N a b (λi=>F i&&decide (i<k)) x:=by
  intro k;induction k with
  |zero=>exact λ_=>#[λ_=>false,λ_ h=>L4 h,λx=>by rw[Hu];exact(nY λi _=>by simp).symm]
  |succ k Q =>
   intro f;let wz s u:=Q ∅
   cases e:F k with
   |false =>
    refine#[wz,s,λx=>?_];rw[u];refine par_congr λi _=>?_;show((F i&&decide (i<k))&&_)=((F i&&decide (i<k+1))&&_);by_cases c:i=k
    .rw[c,e];rfl
    .rw[show decide (i<k+1)=decide (i<k) from decide_eq_decide.mpr ∅]
   |true =>
    let r G:=R.C.ends k ∅
    let Y B J:=R.zc (a k) (b k) r G (all _ r) (whole k ∅)
    refine#[tg wz Y,λi I=>?_,λx=>?_]
    .unfold tg at I
     cases c:wz i with
     |true=>exact s i c
     |false=>rw[c,LB]at I;exact#[(B i I).1,(B i I).2.2.2]
    .rw[dX,u,J,← iY (N:=N) (a:=a) (b:=b) (show k<N by omega),← dX]
     refine par_congr λi _=>?_;show(((F i&&decide (i<k)) ^^ (i == k))&&_)=((F i&&decide (i<k+1))&&_);by_cases c:i=k
     .rw[c,e];simp
     .rw[show decide (i<k+1)=decide (i<k) from decide_eq_decide.mpr ∅,show(i == k)=false from beq_eq_false_iff_ne.mpr c,IS]
 let wz s u:=d N (HF _);let:=R.C.lo v wz hv λx=>by
  rw[u,← j];refine par_congr λi I=>?_;show((F i&&decide (i<N))&&_)=_;simp_all
 rw[nF λi _ o=>(s i o).2]at this;omega
end
theorem Cfg.lip{a b:Nat->Nat}{l m:Nat->Nat}(C:Cfg N n a b J l m)(hi:i<N):m (b i)<=m (a i)+l i/\m (a i)<=m (b i)+l i:=by
 let r G:=C.ends i hi;let one:∀ x y,x<n->y<n->(∀ v,((a i == v) ^^ (b i == v))=((x == v) ^^ (y == v)))->m y<=m x+l i:=λx y d Q e=>by
  let F j g:=C.mn x d;let:=C.lo y (tg F (one i)) Q λv=>by rw[dX,j,iY hi,e,x3]
  cases f:F i with
  |false=>rw[pG hi f]at this;omega
  |true=>have:=g9 (w:=l) hi f;omega
 exact#[one _ _ r G λv=>rfl,one _ _ G r λv=>Kq ..]
end HM
namespace KF
open PySem L2
def aL(ls:List Lk)(i:Nat):Nat:=(lkA ls i).1
def bL(ls:List Lk)(i:Nat):Nat:=(lkA ls i).2.1
def nL(ls:List Lk)(i:Nat):Int:=(lkA ls i).2.2
def dL(ls:List Lk)(i:Nat):Nat:=(2*nL ls i).toNat
theorem Hg(l:Lk)(v:Nat):(endX l).testBit v=((l.1 == v) ^^ (l.2.1 == v)):=by
 unfold endX;rw[IP,Ic,Ic];rfl
theorem yA(ls:List Lk)(u v:Nat):∀ i,HM.bd i (aL ls) (bL ls) (λj=>u.testBit j) v=(oddE ls u i).testBit v
 |0=>by show false=Ky 0 v;simp
 |i+1=>by
  show(HM.bd i (aL ls) (bL ls) (λj=>u.testBit j) v ^^ (u.testBit i&&((aL ls i == v) ^^ (bL ls i == v))))=_;rw[yA ls u v i];show _=(if u.testBit i=true then oddE ls u i^^^endX (lkA ls i) else oddE ls u i).testBit v
  cases b:u.testBit i with
  |false=>simp
  |true =>
   rw[NX U,IP,Hg];rfl
theorem oE{ls:List Lk}(hw:∀ l∈ls,0<=l.2.2)(u:Nat):∀ i,i<=ls.length->((HM.csw (dL ls) (λj=>u.testBit j) i:Nat):Int)=2*cstU ls u i
 |0,_=>rfl
 |i+1,h=>by
  let Q:=oE hw u i ∅
  let l e:∃ l,ls[i]?=Z l:=#[_,Hz ∅]
  let f:=hw l (HC e);show((HM.csw (dL ls) (λj=>u.testBit j) i+cond (u.testBit i) (dL ls i) 0:Nat):Int)=_;unfold cstU dL nL;rw[lkA_is e]
  cases u.testBit i with
  |false=>assumption
  |true =>
   simp only[if_true,cond_true];let:HM.csw (dL ls) (λj=>u.testBit j) i=HM.csw (λi=>(2*(lkA ls i).2.2).toNat) (λj=>u.testBit j) i:=rfl;omega
def mkF(F:Nat->Bool):Nat->Nat
 |0=>0
 |i+1=>mkF F i|||cond (F i) (2^i) 0
theorem Bc(F:Nat->Bool)(j:Nat):∀ i,(mkF F i).testBit j=(decide (j<i)&&F j)
 |0=>by show Ky 0 j=_;simp
 |i+1=>by
  show(mkF F i|||cond (F i) (2^i) 0).testBit j=_
  rw[I9,Bc F j i];by_cases c:j=i
  .subst c
   cases f:F j<;>simp
  .let D:¬ i=j:=λz=>c z.symm
   let e:decide (j<i+1)=decide (j<i):=decide_eq_decide.mpr ∅
   rw[e]
   cases F i<;>simp[D]
def xorL(l:List Nat):Nat:=l.foldr (λs m=>2^s^^^m) 0
theorem zV(p:l.Perm l'):xorL l=xorL l':=by
 induction p with
 |nil=>rfl
 |cons x _ Q=>show 2^x^^^xorL _=2^x^^^xorL _;rw[Q]
 |swap x y l=>show 2^y^^^(2^x^^^xorL l)=2^x^^^(2^y^^^xorL l);grind
 |trans _ _ Y B=>exact Y.trans B
theorem xy:∀{l:List Nat},l.Nodup->∀ i,(xorL l).testBit i=decide (i∈l)
 |[],_,i=>by show Ky 0 i=_;simp
 |x::l,h,i=>by
  let Y B:=HS.mp h;show(2^x^^^xorL l).testBit i=_;rw[IP,Ic,xy B i];by_cases c:x=i
  .subst c;simp[Y]
  .let D:¬ i=x:=λz=>c z.symm
   simp[c,D]
theorem FK(X:Nat):xorL (bl X)=X:=IB λi=>by
 rw[xy (bl_nd X) i]
 cases z:X.testBit i with
 |true=>exact Ni (cY.mpr z)
 |false=>exact My λy=>by rw[cY.mp y]at z;cases z
theorem Wk.set(hw:∀ l∈ls,0<=l.2.2){a b:Nat}{x:Int}(h:Wk ls a b x):∃ u,oddE ls u ls.length=2^a^^^2^b/\cstU ls u ls.length<=x:=by
 induction h with
 |nil=>exact#[0,by rw[iB,JY],by rw[iS];exact IT _]
 | @step b i x l h G D Q =>
  let u Y B:=Q;let f:i<ls.length:=(HB.mp G).1;refine#[u^^^2^i,?_,?_]
  .rw[kL,Y,qG,NX f,lkA_is G];let I:endX l=2^b^^^2^bey l b:=by
    unfold endX bey;obtain z|z:=D
    .rw[NX z,z]
    .by_cases w:b=l.1
     .rw[NX w,w]
     .rw[NY w,z,K4]
   rw[I,← I8,I8 (2^a),JY,K3]
  .let g:=lx ls hw u (2^i) ls.length (HF _)
   rw[rM,NX f,lkA_is G]at g;omega
theorem Cs.set{n:Nat}{ls:List Lk}(hw:∀ l∈ls,0<=l.2.2)(E:Conn n ls){X:Nat}{c:Int}(b:X<2^n)(h:Cs (farD ls) (bl X) c):∃ u,oddE ls u ls.length=X/\cstU ls u ls.length<=c:=by
 let PL p e:=h;let C:∀ PL:List (Nat×Nat),(∀ s∈flat PL,s<n)->∃ u,oddE ls u ls.length=xorL (flat PL)/\cstU ls u ls.length<=cst (farD ls) PL:=by
  intro PL;induction PL with
  |nil=>exact λ_=>#[0,by rw[iB];rfl,by rw[iS];exact IT _]
  |cons q PL Q =>
   intro d;rw[flat_cons]at d;let u Y B:=Q λs a=>d s (HK _ (HK _ a));let x J:=E.two (d q.1 (HL ..)) (d q.2 (HK _ (HL ..)));let v H O:=Wk.set hw (g8 hw J).1;refine#[v^^^u,?_,?_]
   .rw[kL,H,Y,flat_cons,I8];rfl
   .let g:=lx ls hw v u ls.length (HF _)
    rw[jz];omega
 let u Y B:=C PL λs d=>bl_lt b (p.mem_iff.mp d);exact#[u,by rw[Y,zV p,FK],∅]
theorem cfg0(ok:Lok n ls)(E:Conn n ls){m0:Nat}(y:m0<2^n){c:Nat->Int}(t:∀ x,x<n->Opt (farD ls) (bl (m0^^^2^x)) (c x)):
  HM.Cfg ls.length n (aL ls) (bL ls) (λx=>m0.testBit x) (dL ls) (λv=>(2*c v).toNat)/\∀ v,v<n->0<=c v:=by
 let p:∀ l∈ls,0<=l.2.2:=λl G=>(ok.w0 l G).1;let a:∀ v x:Nat,(m0^^^2^v).testBit x=(m0.testBit x ^^ (v == x)):=λv x=>by rw[IP,Ic];rfl
 let lt:∀ v,v<n->m0^^^2^v<2^n:=λv A=>Jh y (IL ∅ A)
 let H:∀ v,v<n->∃ u,oddE ls u ls.length=m0^^^2^v/\cstU ls u ls.length=c v:=λv A=>by
  let u Y B:=Cs.set p E (lt v A) (t v A).1;exact#[u,Y,KS B (yc ok E (t v A) Y)]
 refine#[#[λi I=>?_,λv A=>?_,λv F A L=>?_,λi _=>by simp only[dL];omega],λv A=>?_]
 .let:=ok.sm ls[i] (JQ I)
  unfold aL bL;rw[lkA_is (Hz I)];exact this
 .let u Y B:=H v A;refine#[λj=>u.testBit j,λx=>by rw[yA,Y,a],?_]
  let:=oE p u ls.length (HF _);lia
 .let u f:∃ u,u=mkF F ls.length:=#[_,U];let b:∀ j,j<ls.length->u.testBit j=F j:=λj O=>by rw[f,Bc,Ni O,Ka]
  let C:∀ x,HM.bd ls.length (aL ls) (bL ls) (λj=>u.testBit j) x=HM.bd ls.length (aL ls) (bL ls) F x:=λx=>HM.par_congr λi I=>by show(u.testBit i&&_)=_;rw[b i I]
  let T:HM.csw (dL ls) (λj=>u.testBit j) ls.length=HM.csw (dL ls) F ls.length:=HM.csw_congr λi I=>by show cond (u.testBit i) _ _=_;rw[b i I]
  let d:oddE ls u ls.length=m0^^^2^v:=IB λx=>by rw[← yA,C,L,a]
  let:=yc ok E (t v A) d;let g:=oE p u ls.length (HF _);omega
 .let u _ B:=H v A;let g:=oE p u ls.length (HF _);omega
def upK(kv:List (Nat×Nat))(M t:Nat):List (Nat×Nat):=if(kv.any λe=>decide (e.1=M))=true then kv.map (λe=>if e.1=M then(e.1,e.2+t) else e) else kv++[(M,t)]
def wsum(g:Nat->Nat)(kv:List (Nat×Nat)):Nat:=(kv.map λe=>e.2*g e.1).sum
theorem xr:(kv.any λe=>decide (e.1=M))=true↔M∈kv.map (·.1):=by
 rw[L3,Im];grind
theorem CN(kv:List (Nat×Nat))(M t:Nat):(upK kv M t).map (·.1)=if M∈kv.map (·.1) then kv.map (·.1) else kv.map (·.1)++[M]:=by
 unfold upK;by_cases c:M∈kv.map (·.1)
 .rw[NX (xr.mpr c),NX c,Jq];refine Jf λe _=>?_;show(if e.1=M then(e.1,e.2+t) else e).1=e.1;split<;>rfl
 .rw[NY λz=>c (xr.mp z),NY c,HW];rfl
theorem EN{t:Nat}(h:(kv.map (·.1)).Nodup):((upK kv M t).map (·.1)).Nodup:=by
 rw[CN];split
 .exact h
 .rename_i c;exact Iu.mpr #[h,by simp,λx J y Q e=>c (by rw[Ih]at Q;rw[← Q,← e];exact J)]
theorem FN(g:Nat->Nat){t:Nat}:∀{kv:List (Nat×Nat)},(kv.map (·.1)).Nodup->wsum g (upK kv M t)=wsum g kv+t*g M:=λ{kv} h=>by
 unfold upK;split
 .rename_i c;let C:∀ kv:List (Nat×Nat),(kv.map (·.1)).Nodup->wsum g (kv.map λe=>if e.1=M then(e.1,e.2+t) else e)=wsum g kv+(if M∈kv.map (·.1) then t*g M else 0):=by
   intro kv;induction kv with
   |nil=>intro _;rfl
   |cons e kv Q =>
    intro N;rw[Il]at N;let Y B:=HS.mp N;let:=Q B;let J:∀(x:Nat×Nat)(l:List (Nat×Nat)),wsum g (x::l)=x.2*g x.1+wsum g l:=λx l=>by unfold wsum;rfl
    rw[Il,J,J,this];by_cases c:e.1=M
    .rw[NX c,NY (λz=>Y (by rw[c];exact z)),NX (by rw[Il,c];exact HL ..)]
     grind
    .rw[NY c];grind
  rw[C kv h,NX (xr.mp c)]
 .unfold wsum;rw[HW,List.sum_append];simp
theorem FO{t:Nat}(h:e∈upK kv M t):(∃ p,(e.1,p)∈kv/\p<=e.2)∨(e.1=M/\e.2=t):=by
 unfold upK at h;split at h
 .let x J rfl:=Im.mp h;split
  .exact .inl #[x.2,J,by lia]
  .exact .inl #[x.2,J,HF _]
 .obtain h|h:=HY.mp h
  .exact .inl #[e.2,h,HF _]
  .rw[Ih.mp h];exact .inr #[U,U]
def inP(r t y:Nat):Bool:=decide (0<t)&&decide (y≠0)&&!y.testBit r
def mh(r t:Nat)(kv:List (Nat×Nat))(hs:List Nat):List (Nat×Nat):=hs.foldl (λkv y=>if inP r t y=true then upK kv y t else kv) kv
theorem nC{r t:Nat}:∀{hs:List Nat}{kv:List (Nat×Nat)},(kv.map (·.1)).Nodup->((mh r t kv hs).map (·.1)).Nodup
 |[],_,h=>h
 |y::hs,kv,h=>by
  show((mh r t (if inP r t y=true then upK kv y t else kv) hs).map (·.1)).Nodup;split
  .exact nC (EN h)
  .exact nC h
theorem lh(g:Nat->Nat){r t:Nat}:∀{hs:List Nat}{kv:List (Nat×Nat)},(kv.map (·.1)).Nodup->wsum g (mh r t kv hs)=wsum g kv+t*(hs.map λy=>if inP r t y=true then g y else 0).sum
 |[],_,_=>by rfl
 |y::hs,kv,h=>by
  show wsum g (mh r t (if inP r t y=true then upK kv y t else kv) hs)=_;rw[Il,LJ,Nat.mul_add];split
  .rw[lh g (EN h),FN g h];omega
  .rw[lh g h,Nat.mul_zero];omega
theorem gh{r t:Nat}:∀{hs:List Nat}{kv:List (Nat×Nat)}{e:Nat×Nat},e∈mh r t kv hs->(∃ p,(e.1,p)∈kv/\p<=e.2)∨(e.1∈hs/\inP r t e.1=true/\t<=e.2)
 |[],_,e,h=>.inl #[e.2,h,HF _]
 |y::hs,kv,e,h=>by
  let m:e∈mh r t (if inP r t y=true then upK kv y t else kv) hs:=h;by_cases c:inP r t y=true
  .rw[NX c]at m;rcases gh m with⟨p,Y,B⟩|⟨Y,B,J⟩
   .rcases FO Y with⟨w,J,u⟩|⟨J,u⟩
    .exact .inl #[w,J,∅]
    .simp_all
   .exact .inr #[HK _ Y,B,J]
  .rw[NY c]at m;obtain h|⟨Y,B,J⟩:=gh m
   .exact .inl h
   .exact .inr #[HK _ Y,B,J]
def evs(n:Nat)(ls:List Lk)(h:Nat->Int):List (Int×Int):=(IG n).map (λv=>(2*h v,((2^v:Nat):Int)))++ls.map λl=>(h l.1+h l.2.1-l.2.2,((2^l.1|||2^l.2.1:Nat):Int))
def pcs(ps:List Nat)(v:Nat):Nat:=ps.getD v 0
def Sm(ps:List Nat)(D:Nat):Prop:=∀ x y,D.testBit x=true->D.testBit y=true->pcs ps x=pcs ps y/\pcs ps x≠0
def nest(A B:Nat):Prop:=A&&&B=0∨A&&&B=A∨A&&&B=B
structure HI(n:Nat)(ls:List Lk)(mk:Nat)(h:Nat->Int)(row:List (Int×Int))(m0 j:Nat)(L:Int)(ps:List Nat)(l m:Nat->Nat)(kv:List (Nat×Nat)):Prop where
 pl:ps.length=n
 pb:∀ x∈ps,x<2^n
 R:HM.Run ls.length n (aL ls) (bL ls) (λx=>(mk^^^2^aM mk).testBit x) (nL ls) h (pcs ps) L l m
 dn:∀ i e,i<j->row[i]?=Z e->Sm ps e.2.toNat
 s1:wsum (λ_=>1) kv+m (aM mk)=m0
 s2:∀ i,i<ls.length->wsum (λM=>HM.chi (HM.dm M) (aL ls) (bL ls) i) kv+l i<=dL ls i
 nd:(kv.map (·.1)).Nodup
 ke:∀ e∈kv,1<=e.2/\1<=e.1/\e.1<2^n/\HM.par (λx=>e.1.testBit x&&mk.testBit x) n=true/\Sm ps e.1
 ne:∀ e∈kv,∀ e'∈kv,nest e.1 e'.1
theorem BX{h:Nat->Int}(ok:Lok n ls)(lip:∀ i,i<ls.length->h (aL ls i)-h (bL ls i)<=nL ls i/\h (bL ls i)-h (aL ls i)<=nL ls i){e:Int×Int}(D:e∈evs n ls h):
  ∃ u w,u<n/\w<n/\e.2.toNat=2^u|||2^w/\e.2=((2^u|||2^w:Nat):Int)/\e.1<=2*h u/\e.1<=2*h w/\(u=w∨∃ i,i<ls.length/\aL ls i=u/\bL ls i=w/\h u+h w-nL ls i=e.1):=by
 obtain D|D:=HY.mp D
 .let v A rfl:=Im.mp D;let b:=Ja.mp A;let a:(2^v|||2^v:Nat)=2^v:=Nat.or_self _
  exact#[v,v,b,b,by rw[a,HP],by rw[a],IT _,IT _,.inl U]
 .let l G rfl:=Im.mp D;let i I e:=Jk G;let c:=lkA_is (ls:=ls) (k:=i) (l:=l) (by simp[*])
  let sm:=ok.sm l G;let N:=lip i I;unfold aL bL nL at N;rw[c]at N;refine#[l.1,l.2.1,sm.1,sm.2,HP _,U,?_,?_,.inr #[i,I,by unfold aL;rw[c],by unfold bL;rw[c],by unfold nL;rw[c]]]
  .omega
  .lia
theorem dZ{u w v:Nat}:(2^u|||2^w).testBit v=true↔v=u∨v=w:=by
 rw[I9,Ic,Ic,JN,decide_eq_true_iff,decide_eq_true_iff];exact#[λh=>h.imp Eq.symm Eq.symm,λh=>h.imp Eq.symm Eq.symm]
theorem A8{A B:Nat}(h:nest A B):nest B A:=by
 unfold nest at *;rw[Nat.and_comm];obtain h|h|h:=h
 .exact .inl h
 .exact .inr (.inr h)
 .exact .inr (.inl h)
theorem HI.join{n:Nat}{ls:List Lk}{mk:Nat}{h:Nat->Int}{row:List (Int×Int)}{m0 j:Nat}{L:Int}{ps:List Nat}{l m:Nat->Nat}{kv:List (Nat×Nat)}(I:HI n ls mk h row m0 j L ps l m kv)(ok:Lok n ls)(lip:∀ i,i<ls.length->h (aL ls i)-h (bL ls i)<=nL ls i/\h (bL ls i)-h (aL ls i)<=nL ls i){e:Int×Int}(d:row[j]?=Z e)(ac:e∈evs n ls h)(eL:e.1=L){P:Nat}{qs:List Nat}(O:∀ v,P.testBit v=true↔(e.2.toNat.testBit v=true∨∃ k,e.2.toNat.testBit k=true/\(pcs ps k).testBit v=true))(ql:qs.length=n)(C:∀ v,v<n->pcs qs v=HM.jn2 (pcs ps) P v):
  HI n ls mk h row m0 (j+1) L qs l m kv/\∃ v,v<n/\pcs qs v≠0:=by
 let u w f p T _ lu lw t:=BX ok lip ac;rw[eL]at lu lw t;let eP:P=2^u|||2^w|||pcs ps u|||pcs ps w:=IB λv=>by
  let tb:(2^u|||2^w|||pcs ps u|||pcs ps w).testBit v=(((2^u|||2^w).testBit v||(pcs ps u).testBit v)||(pcs ps w).testBit v):=by rw[I9,I9]
  rw[KU,O,T,tb,JN,JN];constructor
  .rintro(h|⟨k,Y,B⟩)
   .exact .inl (.inl h)
   .obtain rfl|rfl:=dZ.mp Y
    .exact .inl (.inr B)
    .exact .inr B
  .rintro((h|h)|h)
   .exact .inl h
   .exact .inr #[u,dZ.mpr (.inl U),h]
   .exact .inr #[w,dZ.mpr (.inr U),h]
 let R2{ju jw P0}Pn js:=I.R.join f p lu lw t eP;let off:∀ v,¬ v<n->pcs qs v=0/\pcs ps v=0:=λv A=>by
  unfold pcs;rw[HU,HU,Jc ∅,Jc (by let:=I.pl;omega)]
  exact#[U,U]
 let eq:pcs qs=HM.jn2 (pcs ps) P:=funext λv=>by
  by_cases c:v<n
  .exact C v c
  .let:=off v c
   rw[this.1];unfold HM.jn2;rw[NY λz=>c (Pn v z),this.2]
 let sm:∀ D,Sm ps D->Sm qs D:=λD b x y J Q=>by
  let o s:=b x y J Q;let xn:x<n:=Decidable.byContradiction λz=>s (off x z).2;let yn:y<n:=Decidable.byContradiction λz=>s (o.trans (off y z).2);rw[eq];let G E:=js x y xn yn (λz=>s (o.trans z)) o;exact#[G,by rw[G];exact E]
 refine#[#[ql,λx J=>?_,by rw[eq];exact R2,λi q N M=>?_,I.s1,I.s2,I.nd,λq aa=>?_,I.ne],u,f,by rw[eq,ju];exact P0]
 .let v A rfl:=Jk J;let g:qs[v]=pcs qs v:=by unfold pcs;rw[HU,Hz A];rfl
  rw[g];refine JE _ λi N=>?_
  cases z:(pcs qs v).testBit i with
  |false=>rfl
  |true =>
   rw[eq]at z;let:=(R2.pb v i ∅ z).1
   omega
 .by_cases c:i=j
  .subst c;rw[d]at M
   cases M
   rw[T];intro x y J Q;rw[eq];let H:HM.jn2 (pcs ps) P x=P:=by obtain rfl|rfl:=dZ.mp J<;>assumption
   let ab:HM.jn2 (pcs ps) P y=P:=by obtain rfl|rfl:=dZ.mp Q<;>assumption
   rw[H,ab];exact#[U,P0]
  .exact sm _ (I.dn i q ∅ M)
 .let a r k3 k4 k5:=I.ke q aa;exact#[a,r,k3,k4,sm _ k5]
theorem AS{r:Nat}(h:HM.par (λx=>M.testBit x&&((mk^^^2^r).testBit x ^^ (r == x))) n=true):HM.par (λx=>M.testBit x&&mk.testBit x) n=true:=by
 rw[← h];refine HM.par_congr λx _=>?_;rw[IP,Ic];show _=(M.testBit x&&((mk.testBit x ^^ decide (r=x)) ^^ decide (r=x)));simp_all
theorem EW{r t:Nat}(i:0<t):∀ hs:List Nat,(hs.map λy=>if inP r t y=true then 1 else 0).sum=HM.cn ((hs.filter λy=>decide (y≠0)).map HM.dm) r
 |[]=>rfl
 |y::hs=>by
  rw[Il,LJ,EW i hs,Lg];unfold inP;rw[Ni i];by_cases c:y=0
  .simp[c]
  .rw[Ni c,NX U,Il];show _=cond (HM.dm y r) 0 1+_;unfold HM.dm
   cases y.testBit r<;>simp
theorem EV{r t i:Nat}{a b:Nat->Nat}:∀ hs:List Nat,(hs.map λy=>if inP r t y=true then HM.chi (HM.dm y) a b i else 0).sum<=HM.cx a b ((hs.filter λy=>decide (y≠0)).map HM.dm) i
 |[]=>HF _
 |y::hs=>by
  let Q:=EV (r:=r) (t:=t) (i:=i) (a:=a) (b:=b) hs;rw[Il,LJ,Lg];by_cases c:y=0
  .let:inP r t y=false:=by unfold inP;simp[c]
   rw[this,NY (by simp),NY (by simp[c])]
   omega
  .rw[Ni c,NX U,Il];show _<=HM.chi (HM.dm y) a b i+_;split<;>omega
section
variable{n:Nat}{ls:List Lk}{mk:Nat}{h:Nat->Int}{row:List (Int×Int)}{m0 j:Nat}{L:Int}{ps qs:List Nat}{l m:Nat->Nat}{kv:List (Nat×Nat)}
theorem wq{v:Nat}(hv:v<n):(2*h v,((2^v:Nat):Int))∈evs n ls h:=IU _ (Im.mpr #[v,Ja.mpr hv,U])
theorem BY(hi:i<ls.length):(h (aL ls i)+h (bL ls i)-nL ls i,((2^aL ls i|||2^bL ls i:Nat):Int))∈evs n ls h:=Ir _ (Im.mpr #[ls[i],JQ hi,by
 unfold aL bL nL
 rw[lkA_is (Hz hi)]])
theorem He(o:row.Perm (evs n ls h))(k:row.Pairwise λa b=>b.1<=a.1){T:Int×Int}(f:row[j]?=Z T){e:Int×Int}(D:e∈evs n ls h):(∃ i,i<j/\row[i]?=Z e)∨e.1<=T.1:=by
 let i I:=II (o.mem_iff.mpr D);by_cases c:i<j
 .exact .inl #[i,c,I]
 .by_cases d:i=j
  .simp_all
  .let J A:=HB.mp I;let g l:=HB.mp f;let:=Jg.mp k j i g J ∅
   simp_all
theorem HI.down(I:HI n ls mk h row m0 (j+1) L qs l m kv)(lip:∀ i,i<ls.length->h (aL ls i)-h (bL ls i)<=nL ls i/\h (bL ls i)-h (aL ls i)<=nL ls i)(ne:∃ v,v<n/\pcs qs v≠0)(rp:row.Perm (evs n ls h))(am:row.Pairwise λa b=>b.1<=a.1){e':Int×Int}(ac:row[j+1]?=Z e')(hL:e'.1<=L){hs:List Nat}(aS:hs.Nodup)(w:∀ y,y∈hs↔y∈qs)(rn:aM mk<n):∃ l' m',HI n ls mk h row m0 (j+1) e'.1 qs l' m' (mh (aM mk) (L-e'.1).toNat kv hs):=by
 let t g:∃ t:Nat,(L-e'.1).toNat=t:=#[_,U];let eL:L-(t:Int)=e'.1:=by omega
 rw[g];let mq:∀ M,M∈qs↔∃ v,v<n/\pcs qs v=M:=λM=>by
  constructor
  .intro Y;let v A e:=Jk Y;exact#[v,by let:=I.pl;omega,by unfold pcs;simp[*]]
  .rintro⟨v,A,e⟩;let ab:v<qs.length:=by let:=I.pl;omega
   unfold pcs at e;rw[HU,Hz ab]at e;rw[← e];exact JQ ab
 let Ms aI:∃ Ms,Ms=hs.filter λy=>decide (y≠0):=#[_,U];let hM:∀ M,M∈Ms↔M≠0/\∃ v,v<n/\pcs qs v=M:=λM=>by
  rw[aI,JM,w,mq,decide_eq_true_iff];exact And.comm
 let l' m' R' em el od:=I.R.down (t:=t) lip hM (by rw[aI];exact List.Nodup.sublist List.filter_sublist aS) ne (λv A z=>by
  rw[eL];rcases He rp am ac (wq A) with⟨i,N,O⟩|Y
  .let s:=I.dn i _ N O
   rw[HP]at s;let b:(2^v).testBit v=true:=by simp
   exact NZ z (s v v b b).2
  .exact Y) (λi N za zb ne=>by
  rw[eL];rcases He rp am ac (BY N) with⟨k,f,O⟩|Y
  .let s:=I.dn k _ f O
   rw[HP]at s;exact NZ (s (aL ls i) (bL ls i) (dZ.mpr (.inl U)) (dZ.mpr (.inr U))).1 ne
  .exact Y)
 rw[eL]at R';let pk:∀{M:Nat},M∈hs->M≠0->Sm qs M/\∀ x,M.testBit x=true↔pcs qs x=M:=λ{M} Y B=>by
  let v A e:=(mq M).mp ((w M).mp Y);let aa:∀ x,M.testBit x=true->pcs qs x=M:=λx J=>by
   let:=(I.R.pb v x A (by rw[e];exact J)).2
   rw[this,e]
  refine#[λx y J Q=>#[(aa x J).trans (aa y Q).symm,by rw[aa x J];exact B],λx=>#[aa x,λo=>?_]]
  let xn:x<n:=Decidable.byContradiction λz=>B (by
   rw[← o];unfold pcs;rw[HU,Jc (by let:=I.pl;omega)]
   rfl)
  let:=I.R.pa x xn (by rw[o];exact B)
  rw[o]at this;exact this
 let al:∀{D M:Nat},Sm qs D->M∈hs->M≠0->nest D M:=λ{D M} hD Y B=>by
  let _ mb:=pk Y B;by_cases c:∃ x,D.testBit x=true/\M.testBit x=true
  .let x d1 d2:=c;refine .inr (.inl (IB λy=>?_));rw[Kg]
   cases dy:D.testBit y with
   |false=>rfl
   |true =>
    let:=(hD y x dy d1).1;rw[(mb y).mpr (this.trans ((mb x).mp d2))];rfl
  .refine .inl (IB λy=>?_);grind
 let an:∀{y:Nat},inP (aM mk) t y=true->0<t/\y≠0/\y.testBit (aM mk)=false:=λ{y} Y=>by
  unfold inP at Y;simp_all
 refine#[l',m',I.pl,I.pb,R',I.dn,?_,λi N=>?_,nC I.nd,λe d=>?_,λe d T ap=>?_]
 .rw[lh _ I.nd];let G:=I.s1;let C:=em (aM mk) rn;by_cases c:0<t
  .rw[EW c,← aI];omega
  .let t0:t=0:=by omega
   simp_all
 .rw[lh _ I.nd];let q:=I.s2 i N;let C:=el i N;let:=Nat.mul_le_mul_left t (EV (r:=aM mk) (t:=t) (i:=i) (a:=aL ls) (b:=bL ls) hs);lia
 .rcases gh d with⟨p,Y,B⟩|⟨Y,B,H⟩
  .let k1 k2 k3 k4 k5:=I.ke _ Y;exact#[by lia,k2,k3,k4,k5]
  .let i1 i2 i3:=an B;let E:=(w _).mp Y;exact#[∅,∅,I.pb _ E,AS (od i1 _ ((hM _).mpr #[i2,(mq _).mp E]) _ rn i3),(pk Y i2).1]
 .rcases gh d with⟨p,Y,_⟩|⟨Y,B,_⟩
  .rcases gh ap with⟨p2,u,_⟩|⟨u,g2,_⟩
   .exact I.ne (e.1,p) Y (T.1,p2) u
   .exact al (I.ke _ Y).2.2.2.2 u (an g2).2.1
  .rcases gh ap with⟨p2,u,_⟩|⟨u,g2,_⟩
   .exact A8 (al (I.ke _ u).2.2.2.2 Y (an B).2.1)
   .exact al (pk Y (an B).2.1).1 u (an g2).2.1
theorem HI.end(I:HI n ls mk h row m0 j L ps l m kv)(ok:Lok n ls)(lip:∀ i,i<ls.length->h (aL ls i)-h (bL ls i)<=nL ls i/\h (bL ls i)-h (aL ls i)<=nL ls i)(o:row.Perm (evs n ls h)){e:Int×Int}(D:row[j]?=Z e)(c:e.1=L)(O:row.length=j+1)(C:aM mk<n):m (aM mk)=0:=by
 let a:e∈evs n ls h:=o.mem_iff.mp (HC D);let u w f p T _:=BX ok lip a
 let z _:=I.join ok lip D a c (P:=2^u|||2^w|||pcs ps u|||pcs ps w) (qs:=(IG n).map λv=>HM.jn2 (pcs ps) (2^u|||2^w|||pcs ps u|||pcs ps w) v) (λv=>by
  let d:(2^u|||2^w|||pcs ps u|||pcs ps w).testBit v=(((2^u|||2^w).testBit v||(pcs ps u).testBit v)||(pcs ps w).testBit v):=by rw[I9,I9]
  rw[d,T,JN,JN];constructor
  .rintro((h|h)|h)
   .exact .inl h
   .exact .inr #[u,dZ.mpr (.inl U),h]
   .exact .inr #[w,dZ.mpr (.inr U),h]
  .rintro(h|⟨k,Y,B⟩)
   .exact .inl (.inl h)
   .obtain rfl|rfl:=dZ.mp Y
    .exact .inl (.inr B)
    .exact .inr B) (by simp) (λv A=>by
  show((IG n).map _).getD v 0=_
  simp[*])
 let all:∀ e,e∈evs n ls h->Sm _ e.2.toNat:=λe D=>by
  let i N:=II (o.mem_iff.mpr D);exact z.dn i e (by let:=(HB.mp N).1;omega) N
 refine z.R.end (λv A=>?_) (λi N=>?_) C
 .let s:=all _ (wq A)
  rw[HP]at s;let b:(2^v).testBit v=true:=by simp
  exact(s v v b b).2
 .let s:=all _ (BY N)
  rw[HP]at s;exact(s (bL ls i) (aL ls i) (dZ.mpr (.inr U)) (dZ.mpr (.inl U))).1
end
structure Hls(n:Nat)(ls:List Lk)(mk:Nat)(cost:Int)(kv:List (Nat×Nat)):Prop where
 ke:∀ e∈kv,1<=e.2/\1<=e.1/\e.1<2^n/\HM.par (λx=>e.1.testBit x&&mk.testBit x) n=true
 nd:(kv.map (·.1)).Nodup
 ne:∀ e∈kv,∀ e'∈kv,nest e.1 e'.1
 pd:∀ i,i<ls.length->((wsum (λM=>HM.chi (HM.dm M) (aL ls) (bL ls) i) kv:Nat):Int)<=2*nL ls i
 sm:((wsum (λ_=>1) kv:Nat):Int)=2*cost
theorem HI.first(ok:Lok n ls)(g:Conn n ls)(l:mk<2^n)(d:aM mk<n){c:Nat->Int}(O:∀ x,x<n->Opt (farD ls) (bl (mk^^^2^aM mk^^^2^x)) (c x)){row:List (Int×Int)}(o:row.Perm (evs n ls λv=>c (aM mk)-c v))(k:row.Pairwise λa b=>b.1<=a.1){e:Int×Int}(D:row[0]?=Z e):
  HI n ls mk (λv=>c (aM mk)-c v) row (2*c (aM mk)).toNat 0 e.1 (HR n 0) (dL ls) (λv=>(2*c v).toNat) []/\(∀ i,i<ls.length->(c (aM mk)-c (aL ls i))-(c (aM mk)-c (bL ls i))<=nL ls i/\(c (aM mk)-c (bL ls i))-(c (aM mk)-c (aL ls i))<=nL ls i)/\0<=c (aM mk):=by
 let C c0:=cfg0 ok g (m0:=mk^^^2^aM mk) (Jh l (IL ∅ d)) O
 let z:∀ v,pcs (HR n 0) v=0:=λv=>by
  unfold pcs;rw[HU,Jo];split<;>rfl
 let f:∀ i,i<ls.length->0<=nL ls i:=λi I=>by
  unfold nL;rw[lkA_is (Hz I)];exact(ok.w0 _ (JQ I)).1
 let top:∀ v,v<n->2*(c (aM mk)-c v)<=e.1:=λv A=>by
  rcases He o k D (wq (ls:=ls) (h:=λv=>c (aM mk)-c v) A) with⟨i,I,_⟩|h
  .omega
  .exact h
 let cr:=c0 _ d;refine#[#[Ki,λx J=>by rw[List.eq_of_mem_replicate J];exact Js n,#[C,#[2*c (aM mk),λv A=>?_],λv _ y=>NZ (z v) y,λv x _ y=>by rw[z]at y;exact NZ y HM.bit0,λv _ y=>NZ (z v) y,λv A _=>top v A,λx y _ _ w=>NZ (z x) w,λi I=>?_],λi e I=>NZ I (IX _),by show 0+_=_;rw[K0],λi _=>by show 0+_<=_;rw[K0];exact HF _,JF,λe D=>(nomatch D),λe D=>(nomatch D)],λi I=>?_,cr]
 .let:=top v A
  let:=c0 v A;omega
 .let:=f i I
  rw[z,z];let B:((dL ls i:Nat):Int)=2*nL ls i:=by unfold dL;omega
  exact#[λ_ _=>B,λy=>NZ U y,λ_ y=>NZ U y,λy=>NZ U y]
 .let N:=C.lip I
  let r G:=C.ends i I;let:=c0 _ r;let:=c0 _ G;let:=f i I;let B:((dL ls i:Nat):Int)=2*nL ls i:=by unfold dL;omega
  let j:(2*c (bL ls i)).toNat<=(2*c (aL ls i)).toNat+dL ls i:=N.1;let E:(2*c (aL ls i)).toNat<=(2*c (bL ls i)).toNat+dL ls i:=N.2;omega
theorem HI.hls{h:Nat->Int}{row:List (Int×Int)}{L:Int}{l m:Nat->Nat}{c:Int}(I:HI n ls mk h row (2*c).toNat j L ps l m kv)(c0:0<=c)(ok:Lok n ls)(z:m (aM mk)=0):Hls n ls mk c kv:=by
 refine#[λe D=>?_,I.nd,I.ne,λi N=>?_,?_]
 .let d G M p _:=I.ke e D;exact#[d,G,M,p]
 .let t:=I.s2 i N
  let f:0<=nL ls i:=by
   unfold nL;rw[lkA_is (Hz N)];exact(ok.w0 _ (JQ N)).1
  let C:((dL ls i:Nat):Int)=2*nL ls i:=by unfold dL;omega
  omega
 .let J:=I.s1
  rw[z]at J;omega
theorem yx(u i:Nat):(MY ((u:Int)/2^((i:Nat):Int).toNat) 1=1)↔u.testBit i=true:=by
 let C:(u:Int)/2^((i:Nat):Int).toNat=((u/2^i:Nat):Int):=by rfl
 let T:MY ((u/2^i:Nat):Int) 1=((u/2^i&&&1:Nat):Int):=andN _ 1;rw[C,T,Nat.and_one_is_mod,Kw,decide_eq_true_iff];omega
theorem Ed{b:Addr}{g:TG}{tb:TS}{D:Ends}(n:Nat)(Pv:Nat->St->Hp->Prop)(o:Pv 0 σ H)(Y:n<=xs.length)(J:zs.length=n)(hl:∀ i σ H,i<=n->Pv i σ H->SqL K H a xs/\SqL K H b zs)(hs:∀ i x z σ H T,xs[i]?=Z x->zs[i]?=Z z->Pv i σ H->H T=none->g (.ref T) σ (upd H T (.tup [x,z])) λc H2=>tb {D with nx:=Pv (i+1),ct:=Pv (i+1),bk:=D.nx} c H2)(hd:∀ σ H,Pv n σ H->D.nx σ H):
  ∃ W:Nat->Nat->St->Hp->Prop,(∃ m,W 0 m σ H)/\∀ i m σ H,W i m σ H ->
   ((Itz K a b).stop i H/\D.nx σ H)∨((Itz K a b).go i H/\∃ N:St->Hp->Prop,(∀ σ' H',N σ' H'->∃ d,d<m/\W (i+1) d σ' H')/\∀ x H',(Itz K a b).yld i H x H'->g x σ H' λc H2=>tb {D with nx:=N,ct:=N,bk:=D.nx} c H2):=by
 refine#[λi m σ H=>m=n-i/\i<=n/\Pv i σ H,#[n,by simp,Iz _,o],?_]
 rintro i m σ H ⟨rfl,I,p⟩;let k q:=hl i σ H I p;by_cases L:i<n
 .let j:i<xs.length:=by omega
  let f:i<zs.length:=by omega
  refine .inr #[#[xs,zs,xs[i],zs[i],k,q,by simp,by simp],Pv (i+1),λσ' H' w=>#[n-(i+1),∅,U,L,w],λv H' y=>?_]
  let T x z u rfl rfl B C:=y;exact hs i x z σ _ T (B xs k) (C zs q) p u
 .let e:i=n:=by omega
  subst e;exact .inl #[#[xs,zs,k,q,.inr ∅],hd σ H p]
theorem EA(xs:List V):cutV xs (Z 1) none=xs.drop 1:=by
 unfold cutV;let q:=HT.sIx_nat xs.length 0 1;rw[show((1:Nat):Int)=(1:Int) from rfl]at q;rw[q,HT.sIx_none];rw[JA (by simp)]
 by_cases h:1<=xs.length
 .rw[JX h]
 .simp_all
theorem De(s:Same H H2){l:Addr}(hl:H l=none)(o:HO):Same H (upd H2 l o):=λb u e=>by
 rw[ao (λz=>by simp_all)]
 exact s _ _ e
theorem Ff{α:Type} [DecidableEq α]:∀{l ps:List α},l.Nodup->(∀ x∈l,x∈ps)->l.length<=ps.length
 |[],_,_,_=>Iz _
 |x::l,ps,h,k=>by
  let Y B:=HS.mp h;let m:=k x (HL ..);let:=Ff (l:=l) (ps:=ps.erase x) B λy Q=>(List.mem_erase_of_ne (λ(e:y=x)=>Y (by rw[← e];exact Q))).mpr (k y (HK _ Q))
  rw[K6 m]at this;let p:=JB m;rw[IM];omega
structure TxtH(mg:Str->Option Value):Prop extends TxtZ mg where
 n_reversed:mg "reversed"=none
 n_sorted:mg "sorted"=none
 n_set:mg "set"=none
structure Drw(n:Nat)(ls:List Lk)(h:Nat->Int)(row:List (Int×Int)):Prop where
 rp:row.Perm (evs n ls h)
 srt:row.Pairwise λa b=>b.1<=a.1
inductive spDry(vs:List L2.V)(H:L2.Hp)(Q:L2.VK)(x3_:L2.XK):Prop
 |mk (v:V)(ta:Addr)(n:Nat)(ls:List Lk)(tops:List Int) (h0_:vs=[v,.ref ta])(h1_:LnAt H v ls)(h2_:Lok n ls)(h3_:H ta=Z (.lst (tops.map V.int)))(h4_:tops.length=n)(h5_:n+ls.length<64)(h6_:∀(q:Addr)(out:List V)(row:List (Int×Int)) H',Same H H'->H' q=Z (.lst out)->PAt H' out row->Drw n ls (λv=>tops.getD v 0) row->Q (.ref q) H')
inductive E4(vs:List L2.V)(H:L2.Hp)(Q:L2.VK)(x3_:L2.XK):Prop
 |mk (p:Addr)(n rm:Nat)(ps:List Nat) (h0_:vs=[.ref p,.int (rm:Int)])(h1_:H p=Z (.lst (ps.map iV)))(h2_:ps.length=n)(h3_:(∀ x∈ps,x<2^n))(h4_:rm<2^n)(h5_:n<=40)(h6_:∀(q:Addr)(qs:List Nat)(P:Nat) H',Same H H'->H' q=Z (.lst (qs.map iV))->qs.length=n->(∀ v,P.testBit v=true↔(rm.testBit v=true∨∃ k,rm.testBit k=true/\(pcs ps k).testBit v=true))->(∀ v,v<n->pcs qs v=HM.jn2 (pcs ps) P v)->Q (.ref q) H')
def toK(kv:List (Nat×Nat)):List (Key×V):=kv.map λe=>(Sum.inl (e.1:Int),V.int (e.2:Int))
inductive spHills(TT:Addr)(vs:List L2.V)(H:L2.Hp)(Q:L2.VK)(x3_:L2.XK):Prop
 |mk (v:V)(n mk:Nat)(ls:List Lk) (h0_:vs=[.int (n:Int),v,.int (mk:Int)])(h1_:LnAt H v ls)(h2_:Lok n ls)(h3_:1<=n)(h4_:Conn n ls)(h5_:mk<2^n)(h6_:(bl mk).length%2=0)(h7_:(bl mk).length<=14)(h8_:n+ls.length<64)(h9_:Tb lqF lpF TT H)(h10_:∀(p:Addr)(ys:List V)(kv:List (Nat×Nat))(cost:Int) H',SmT H H'->Tb lqF lpF TT H'->H' p=Z (.lst ys)->PAt H' ys (kv.map λe=>((e.1:Int),(e.2:Int)))->kv.length<=3000->Opt (farD ls) (bl mk) cost->Hls n ls mk cost kv->Q (.ref p) H')
theorem o9:ay ["links","tops","found"] ["links","tops"] (ar kK):=by ac_nf
theorem ok_dry(F:Fun K "dryings" "dryings" kK f fd)(T:TxtH mg):FnOk P w K mg base CX0 1 f fd ["links","tops"] spDry:=by
 refine F.ok o9 (by walk_at "l") λN A o s H B Q E O h=>?_
 let v ta n ls al rfl hV ok am tl aa c:=h;let aI:=ok.n1;let an:=O.units;let la Y rfl a4 hL:=id hV
 refine#[_,(ag (nU 2 [] ["room","top"] o9.nd (jW U T.n_enumerate (ae (pv 1) ah)) (λC ex s H=>(gE (n:=2) (K:=K) U U (aJ (bp (i:=0) (show(["room","top"]:List Str).Nodup from by decide) U (Or.inl U)) (aJ (bp (i:=1) (show(["room","top"]:List Str).Nodup from by decide) U (Or.inl U)) cP)))) pt_c (λC ex s H=>(cR (ae (aw dS aj (pv 1)) (ae (aw cE aj (pv 0)) ah)))))
   (ag (aO (d9 HZ PySem.F.slot_list_extend PySem.F.type_list_extend Ba (pv 2) (ae (d8 [("tops",1)] ["one","two","length"] (aP (pv 0)) (λC ex s H=>(gE (n:=3) (K:=K) U U (aJ (bp (i:=0) (show(["one","two","length","tops"]:List Str).Nodup from by decide) U (Or.inl U)) (aJ (bp (i:=1) (show(["one","two","length","tops"]:List Str).Nodup from by decide) U (Or.inl U)) (aJ (bp (i:=2) (show(["one","two","length","tops"]:List Str).Nodup from by decide) U (Or.inl U)) cP))))) pt_c (λC ex s H=>(cR (ae (aw iA (aw br (qC K (pv 3) (pv 0)) (qC K (pv 3) (pv 1))) (pv 2)) (ae (aw yJ (aw cE aj (pv 0)) (aw cE aj (pv 1))) ah))))) ah)))
   (ak (aE (sP U U T.n_list U T.n_reversed (az zJ (by rfl) T.n_sorted oJ (ae (pv 2) ah))))))),?_]
 let a5:(al.map V.int).length=n:=by simp[*]
 refine#[_,U,ta,U,#[_,SqL.of am],jA (K:=K) (xs:=al.map V.int) (λi j u=>Same H u/\PAt u j ((IG i).map λv=>(2*al.getD v 0,((2^v:Nat):Int)))) (Ia (aq ∅)) #[λ_ _ e=>e,PAt.nil _] (λi j u _ z=>SqL.of (z.1 _ _ am)) ?_ ?_ (λi j u z=>by let:=z.2.1;simp[*])]
 .rintro i x j u T2 J ⟨m,hZ⟩ ac;let I:i<n:=by rw[← a5];exact(HB.mp J).1
  let sT:=ai ac (.tup [.int (i:Int),x]);rw[HN]at J;let tp ba rfl:=HV.mp J;refine#[T2,_,U,SqT.of af,U,_,_,U,_,_,U,U,U,yesT ?_];refine#[_,U,_,_,U,U,.inl #[by decide,by decide],_,U,_,_,U,U,#[∅,∅,by decide],(by show 2<=Mz;decide),λt7 a0=>?_]
  let s7:=sT.trans (ai a0 (.tup [.int (2*tp),.int (1*2^((i:Nat):Int).toNat)]));refine#[m.trans s7,?_];rw[Lo,HW];refine(hZ.mono s7).app (PAt.one ?_);let et:al.getD i 0=tp:=by rw[HU,ba];rfl
  show _=Z (HO.tup [.int (2*al.getD i 0),.int ((2^i:Nat):Int)]);rw[et,← shlN i];exact af
 rintro j u ⟨m,hZ⟩ fa aS;rw[a5]at hZ;let bb:H fa=none:=eQ m aS;let z3:=ai aS (.lst j);let a:=m.trans z3;let a3:=hZ.mono z3;let ap:(upd u fa (.lst j)) fa=Z (.lst j):=af;generalize upd u fa (.lst j)=r at a a3 ap;let a6:LsAt LkAt r Y ls:=hL.imp λ_ _ y=>y.mono a;let yl:=a6.1;refine#[_,U,.inl #[U,_,SqL.of ap],_,U,la,U,#[_,SqL.of (a _ _ a4)],cJ (K:=K) (xs:=Y) (λi ws H4=>Same r H4/\PAt H4 ws ((ls.take i).map λl=>(al.getD l.1 0+al.getD l.2.1 0-l.2.2,((2^l.1|||2^l.2.1:Nat):Int)))) (Ia (aq ∅)) #[λ_ _ e=>e,PAt.nil _] (λi ws H4 _ z=>SqL.of (z.1 _ _ (a _ _ a4))) ?_ ?_ (λi ws H4 z=>by let:=z.2.1;grind)]
 .rintro i x ws H4 J ⟨s4,hW⟩;let l G t rfl L:=a6.get J;let l1 l2:=ok.sm l (HC G);let ab:∀ k,k<n->(al.map V.int)[k]?=Z (.int (al.getD k 0)):=λk b=>by
   simp[*]
  let aW:=s4 _ _ (a _ _ am);refine#[t,_,U,SqT.of (s4 _ _ L),U,_,_,U,_,_,U,_,_,U,U,U,yesT ?_];refine#[_,U,_,U,ta,_,_,_,U,U,SqL.of aW,ax (ab _ l1),_,U,_,U,ta,_,_,_,U,U,SqL.of aW,ax (ab _ l2),_,_,U,U,_,U,_,_,U,U,?_];refine#[_,U,_,_,U,U,#[∅,∅,by decide],_,U,_,_,U,U,#[∅,∅,by decide],_,_,U,U,(by show 2<=Mz;decide),λt7 a0=>?_]
  let ex:MZ (1*2^((l.1:Nat):Int).toNat) (1*2^((l.2.1:Nat):Int).toNat)=((2^l.1|||2^l.2.1:Nat):Int):=by rw[shlN,shlN,orN]
  let s7:=ai a0 (.tup [.int (al.getD l.1 0+al.getD l.2.1 0-l.2.2),.int (MZ (1*2^((l.1:Nat):Int).toNat) (1*2^((l.2.1:Nat):Int).toNat))]);refine#[s4.trans s7,?_];rw[Ie,G,KZ,HW];refine(hW.mono s7).app (PAt.one ?_);show _=Z (HO.tup [.int (al.getD l.1 0+al.getD l.2.1 0-l.2.2),.int ((2^l.1|||2^l.2.1:Nat):Int)])
  rw[← ex];exact af
 rintro ws H4 ⟨s4,hW⟩ D hD;rw[yl,Ip]at hW;let zl:j.length=n:=by let:=a3.1;rw[HD,Jn]at this;exact this
 let wl:ws.length=ls.length:=by let:=hW.1;rw[HD]at this;exact this
 let sD:=ai hD (.lst ws);let fD:fa≠D:=λz=>by rw[← z,s4 _ _ ap]at hD;cases hD
 let aT:=s4.trans sD;refine#[fa,D,j,ws,U,U,aT _ _ ap,af,Ia (aq ∅),?_]
 let s6:Same H (upd (upd H4 D (.lst ws)) fa (.lst (j++ws))):=De (a.trans aT) bb _;let M:PAt (upd (upd H4 D (.lst ws)) fa (.lst (j++ws))) (j++ws) (evs n ls λv=>al.getD v 0):=by
  let g:=(a3.mono aT).app (hW.mono sD)
  exact#[g.1,λi p e=>by
   let t a1 a2:=g.2 i p e
   exact#[t,a1,by rw[ao (λz=>by rw[z,aT _ _ ap]at a2;cases a2)];exact a2]]
 let a7:(upd (upd H4 D (.lst ws)) fa (.lst (j++ws))) fa=Z (.lst (j++ws)):=af;generalize upd (upd H4 D (.lst ws)) fa (.lst (j++ws))=H6 at s6 M a7;let bf:(j++ws).length=n+ls.length:=by simp[*]
 refine#[_,U,fa,j++ws,_,U,SqL.of a7,M,∅,λl out be G pm pw pa=>?_]
 let s7:=ai G (.lst out);refine#[l,out,U,SqL.of af,λq d=>?_];let s8:=ai d (.lst out.reverse);refine c q out.reverse be.reverse _ (s6.trans (s7.trans s8)) af (pa.rev.mono (s7.trans s8)) #[(List.reverse_perm _).trans pm,List.pairwise_reverse.mpr pw]
theorem kC:ay ["pieces","rooms","piece","room"] ["pieces","rooms"] (ar mZ):=by ac_nf
theorem ok_join(F:Fun K "joined" "joined" mZ f fd)(T:Txt mg)(aa:Cal P w K mg base 1 "bits" ["mask"] my f1 G):FnOk P w K mg base CX0 2 f fd ["pieces","rooms"] E4:=by
 refine F.ok kC (by walk_at "l") λq A o s H t Q E O h=>?_
 let p n rm ps rfl g pl pb rb ap kk:=h;let aI:(2:Nat)^40=1099511627776:=by rfl
 let Y:2^n<=2^40:=IZ ∅ ap
 refine#[_,(ag (aA 2 kC.nd (pv 1))
   (ag (bc PassesOwn.never U (aP (aa.c O (ae (pv 1) ah))) (bO 3 kC.nd) (ak (aA 2 kC.nd (aw yJ (pv 2) (aV (pv 0) (pv 3))))))
   (ak (aE (d8 [("piece",2)] ["room","before"] (jW U T.n_enumerate (ae (pv 0) ah)) (λC ex s H=>(gE (n:=2) (K:=K) U U (aJ (bp (i:=0) (show(["room","before","piece"]:List Str).Nodup from by decide) U (Or.inl U)) (aJ (bp (i:=1) (show(["room","before","piece"]:List Str).Nodup from by decide) U (Or.inl U)) cP)))) pt_c (λC ex s H=>(jb (aB eG (aw jD (aw fZ (pv 2) (pv 0)) aj) aj (aC _)) (pv 2) (pv 1)))))))),?_]
 refine#[_,U,_,U,(rm:Int),U,∅,∅,λr m d _ am=>?_]
 rw[HP]at am;let aT:m r=Z (.lst ((bl rm).map iV)):=am;let an:=d _ _ g;let ab:∀ k,k<n->(ps.map iV)[k]?=Z (iV (ps.getD k 0))/\ps.getD k 0<2^n:=λk l=>by
  simp[*]
 refine#[r,U,#[_,SqL.of aT],bI (K:=K) (xs:=(bl rm).map iV) (λi M u=>∃(v3:Option V)(pc:Nat),M=[Z (.ref p),Z (.int (rm:Int)),Z (.int (pc:Int)),v3]/\u=m/\∀ v,pc.testBit v=true↔(rm.testBit v=true∨∃ k,k∈(bl rm).take i/\(pcs ps k).testBit v=true)) #[_,rm,U,U,λv=>#[.inl,λz=>z.elim id λ⟨k,l,_⟩=>by simp at l]] (λi M u _ ac=>by let _ _ _ z _:=ac;rw[z];exact SqL.of aT) ?_ ?_]
 .rintro i x M u J ⟨v3,pc,rfl,rfl,aS⟩;rw[HN]at J;let k l rfl:=HV.mp J;let kn:=bl_lt rb (HC l);let a1 a2:=ab k kn;let ex:MZ (pc:Int) ((ps.getD k 0:Nat):Int)=((pc|||ps.getD k 0:Nat):Int):=orN _ _
  refine#[_,U,_,U,_,U,p,_,_,_,U,U,SqL.of an,ax a1,_,_,U,U,?_];simp only[ex];refine#[_,_,U,U,λv=>?_];rw[I9,JN,aS,Ie,l];constructor
  .rintro((z|⟨k',Y,B⟩)|z)
   .exact .inl z
   .exact .inr #[k',IU _ Y,B]
   .exact .inr #[k,Ir _ (by simp),z]
  .rintro(z|⟨k',Y,B⟩)
   .exact .inl (.inl z)
   .obtain Y|Y:=HY.mp Y
    .exact .inl (.inr #[k',Y,B])
    .let:k'=k:=by simpa using Y
     rw[this]at B;exact .inr B
 rintro M u ⟨v3,pc,rfl,rfl,aS⟩;rw[HD,Ip]at aS;let a3:∀ v,pc.testBit v=true↔(rm.testBit v=true∨∃ k,rm.testBit k=true/\(pcs ps k).testBit v=true):=λv=>by
  rw[aS v];exact or_congr Iff.rfl #[λ⟨k,Y,B⟩=>#[k,cY.mp Y,B],λ⟨k,Y,B⟩=>#[k,cY.mpr Y,B]]
 let aW:(ps.map iV).length=n:=by simp[*]
 refine#[_,U,p,U,#[_,SqL.of an],jA (K:=K) (xs:=ps.map iV) (λi j H3=>Same u H3/\∃ qs:List Nat,j=qs.map iV/\qs.length=i/\∀ v,v<i->pcs qs v=HM.jn2 (pcs ps) pc v) (Ia (aq ∅)) #[λ_ _ e=>e,[],U,U,λv N=>NZ N (IX _)] (λi j H3 _ z=>SqL.of (z.1 _ _ an)) ?_ ?_ (λi j H3 ac=>by let _ qs e ql _:=ac;simp[*])]
 .rintro i x j H3 T2 J ⟨s3,qs,rfl,ql,qb⟩ al;let I:i<n:=by rw[← aW];exact(HB.mp J).1
  let sT:=ai al (.tup [.int (i:Int),x]);rw[HN]at J;let b L rfl:=HV.mp J;let bb:=pb b (HC L)
  let step:∀ y:Nat,y=HM.jn2 (pcs ps) pc i->∃ a0:List Nat,qs.map iV++[iV y]=a0.map iV/\a0.length=i+1/\∀ v,v<i+1->pcs a0 v=HM.jn2 (pcs ps) pc v:=λy a=>#[qs++[y],by rw[HW];rfl,by rw[HJ,ql];rfl,λv N=>by
   unfold pcs;rw[HU];by_cases c:v<i
   .rw[HH ∅,← HU]
    exact qb v c
   .let:v=qs.length:=by omega
    rw[this,HG (HF _),Iq,ql]
    exact a]
  let eb:pcs ps i=b:=by unfold pcs;rw[HU,L];rfl
  refine#[T2,_,U,SqT.of af,U,_,_,U,_,_,U,U,U,yesT ?_];refine#[_,U,_,U,_,_,U,U,(show(0:Int)<=(i:Int) by omega),_,_,U,U,U,_,U,ite2 (λc=>?_) (λc=>?_)]
  .let c':pc.testBit i=true:=(yx pc i).mp (V.int.inj (NO c))
   exact#[_,U,s3.trans sT,step pc (by unfold HM.jn2;rw[NX c'])]
  .let c':¬ pc.testBit i=true:=λz=>c (Ni (congrArg V.int ((yx pc i).mpr z)))
   exact#[_,U,s3.trans sT,step b (by unfold HM.jn2;rw[NY c',eb])]
 rintro j H3 ⟨s3,qs,rfl,ql,qb⟩ D hD;exact kk D qs pc _ (d.trans (s3.trans (ai hD _))) af (by rw[ql,aW]) a3 λv N=>qb v (by rw[aW];exact N)
theorem bit01(u i:Nat):MY ((u:Int)/2^((i:Nat):Int).toNat) 1=0∨MY ((u:Int)/2^((i:Nat):Int).toNat) 1=1:=by
 let C:(u:Int)/2^((i:Nat):Int).toNat=((u/2^i:Nat):Int):=by rfl
 let T:MY ((u/2^i:Nat):Int) 1=((u/2^i&&&1:Nat):Int):=andN _ 1;grind
theorem BW(ok:Lok n ls){h h':Nat->Int}(e:∀ v,v<n->h v=h' v):evs n ls h=evs n ls h':=by
 unfold evs;congr 1
 .simp_all
 .exact Jf λl G=>by rw[e _ (ok.sm l G).1,e _ (ok.sm l G).2]
def oldP(kv:List (Nat×Nat))(M:Nat):Nat:=((kv.find? λe=>decide (e.1=M)).map (·.2)).getD 0
theorem FV(kv:List (Nat×Nat))(M:Nat):(valV (toK kv) (.inl (M:Int))).getD (.int 0)=V.int ((oldP kv M:Nat):Int):=by
 unfold valV toK oldP;rw[List.find?_map];let:((λkv:Key×V=>decide (kv.1=Sum.inl (M:Int)))∘λe:Nat×Nat=>((Sum.inl (e.1:Int):Key),V.int (e.2:Int)))=λe=>decide (e.1=M):=funext λe=>by
  show decide (Sum.inl (e.1:Int)=(Sum.inl (M:Int):Key))=_;exact decide_eq_decide.mpr #[λz=>KJ (Sum.inl.inj z),λz=>by rw[z]]
 rw[this]
 cases kv.find? λe=>decide (e.1=M)<;>rfl
theorem A0{M:Nat}:∀{kv:List (Nat×Nat)},(kv.map (·.1)).Nodup->∀ e∈kv,e.1=M->oldP kv M=e.2
 |x::kv,h,e,D,em=>by
  rw[Il]at h;let Y B:=HS.mp h;unfold oldP;rw[Kk];by_cases c:x.1=M
  .rw[Ni c];obtain rfl|D:=HQ.mp D
   .rfl
   .exact NZ (Im.mpr #[e,D,em.trans c.symm]) Y
  .rw[My c];obtain rfl|D:=HQ.mp D
   .exact NZ em c
   .exact A0 B e D em
theorem FT{t:Nat}(nd:(kv.map (·.1)).Nodup):putK (toK kv) (.inl (M:Int)) (V.int (((oldP kv M:Nat):Int)+(t:Int)))=toK (upK kv M t):=by
 let any:((toK kv).any λe=>decide (e.1=Sum.inl (M:Int)))=kv.any λe=>decide (e.1=M):=by
  unfold toK;rw[List.any_map];congr 1;funext e;show decide (Sum.inl (e.1:Int)=(Sum.inl (M:Int):Key))=_;exact decide_eq_decide.mpr #[λz=>KJ (Sum.inl.inj z),λz=>by rw[z]]
 unfold putK upK;rw[any];split
 .unfold toK;rw[Jq,Jq];refine Jf λe D=>?_;show(if(Sum.inl (e.1:Int):Key)=Sum.inl (M:Int) then _ else _)=((Sum.inl (((if e.1=M then(e.1,e.2+t) else e).1:Nat):Int):Key),V.int (((if e.1=M then(e.1,e.2+t) else e).2:Nat):Int));by_cases c:e.1=M
  .rw[NX (by rw[c]),NX c,A0 nd e D c]
   rfl
  .rw[NY (show ¬ (Sum.inl (e.1:Int):Key)=Sum.inl (M:Int) from λz=>c (KJ (Sum.inl.inj z))),NY c]
 .rename_i c;let j:oldP kv M=0:=by
   unfold oldP;rw[List.find?_eq_none.mpr λe D z=>c (L3.mpr #[e,D,z])];rfl
  rw[j];unfold toK;simp
theorem yV{r t:Nat}{hs:List Nat}{y:Nat}(h:hs[j]?=Z y):mh r t kv (hs.take (j+1))=if inP r t y=true then upK (mh r t kv (hs.take j)) y t else mh r t kv (hs.take j):=by
 unfold mh;rw[Ie,h,KZ,K9];rfl
theorem FU(kv:List (Nat×Nat)):(toK kv).length=kv.length:=HD ..
theorem FP(kv:List (Nat×Nat))(M t:Nat):(upK kv M t).length<=kv.length+1:=by
 unfold upK;split
 .simp
 .simp
theorem uD:∀(ns l:List Int),(ns.foldl addN l).length<=l.length+ns.length
 |[],_=>HF _
 |k::ns,l=>by
  let:=uD ns (addN l k);let:=yB l k;grind
theorem dk:ay ["many","links","marks","row","root","pieces","prices","drying","lower","levels","piece"] ["many","links","marks"] (ar qq):=by ac_nf
theorem ok_hills{TT f3 f4:Addr}{a5 a7 bJ:FuncData}(F:Fun K "hills" "hills" qq f fd)(T:TxtH mg)(bb:Cal P w K mg base 11 "heights" ["many","links","marks"] (spHts TT) f1 G)(be:Cal P w K mg base 1 "dryings" ["links","tops"] spDry f2 a5)(aT:Cal P w K mg base 2 "root_of" ["marks"] Ag f3 a7)(bn:Cal P w K mg base 2 "joined" ["pieces","rooms"] E4 f4 bJ):FnOk P w K mg base CX0 12 f fd ["many","links","marks"] (spHills TT):=by
 refine F.ok dk (by walk_at "l") λab A aa s H vs Q E O h=>?_
 let v n mk ls rfl hV ok n1 hc aW ev fw ac a4 kk:=h;let hu:=tO O;let a0:=ok.n1;let bZ:(2:Nat)^40=1099511627776:=by rfl
 let Y:2^n<=2^40:=IZ ∅ a0
 let rn:=qv aW n1
 refine#[_,(ag (aA 3 dk.nd (be.c O (ae (pv 1) (ae (bb.c O (ae (pv 0) (ae (pv 1) (ae (pv 2) ah)))) ah))))
   (ag (aA 4 dk.nd (aT.c O (ae (pv 2) ah)))
   (ag (nU 5 [] ["room"] dk.nd (aN U T.n_range (ae (pv 0) ah)) pg_c pt_c (λC ex s H=>aj))
   (ag (aA 6 dk.nd m9)
   (ag (bc PassesOwn.never U (AN U T.n_zip (ae (pv 3) (ae (dA fJ (pv 3) (d7 aj) iz) ah))) (pf U (aJ (bO 7 dk.nd) (aJ (bO 8 dk.nd) cP))) (ag (aA 5 dk.nd (bn.c O (ae (pv 5) (ae (aZ (pv 7) aj) ah))))
   (ag (aA 9 dk.nd (aw iA (aZ (pv 7) aj) (aZ (pv 8) aj)))
   (ak (bc PassesOwn.never U (aP (az (zI U U U) (by rfl) T.n_sorted oJ (ae (cS (Cu U U U U) (by rfl) T.n_set bt_set (ae (pv 5) ah)) ah))) (bO 10 dk.nd) (ak (bV (PW.pt (AH (aB Dw (pv 9) aj (aC _)) (AH (aB jZ (pv 10) aj (aC _)) (AG (aB eG (aw jD (aw fZ (pv 10) (pv 4)) aj) aj (aC _)))))) (ak (l4 hu (pv 6) (pv 10) (aw br (Dp hu (pv 6) (pv 10) aj #[U,U,U,U]) (pv 9)) U)) aR)))))))
   (ak (aE (cS (zL U) (by rfl) T.n_list ib (ae (Fc La Mr PySem.F.type_dict_items DT (pv 6)) ah))))))))),?_]
 refine#[_,U,_,U,_,U,_,U,v,n,mk,ls,U,hV,ok,n1,hc,aW,ev,fw,a4,λp cs H1 a1 bU hp cl cB=>?_];refine#[v,p,n,ls,cs.map λc=>cs.getD (aM mk) 0-c,U,hV.smT a1,ok,by rw[hp,Jq];rfl,by rw[HD,cl],ac,λq out row L s2 hq bm cu=>?_]
 let aS:Drw n ls (λv=>cs.getD (aM mk) 0-cs.getD v 0) row:=#[by
  rw[BW ok (h':=λv=>(cs.map λc=>cs.getD (aM mk) 0-c).getD v 0) λv hv=>?_]
  .exact cu.rp
  .simp[*],cu.srt]
 clear cu;let rl:row.length=n+ls.length:=by
  rw[aS.rp.length_eq];unfold evs;rw[HJ,HD,HD,Jn]
 let ol:out.length=row.length:=bm.1;let e0 cD:∃ e0,row[0]?=Z e0:=#[_,Hz ∅]
 let I0 lip c0:=HI.first ok hc aW rn cB aS.rp aS.srt cD;let oc:Opt (farD ls) (bl mk) (cs.getD (aM mk) 0):=by
  let:=cB _ rn;rw[I8,JY,K3]at this;exact this
 generalize bT:cs.getD (aM mk) 0=cr at I0 lip c0 oc aS;generalize dd:(λv=>cr-cs.getD v 0)=hv at I0 lip aS;let bf:∀ i,i<ls.length->hv (aL ls i)-hv (bL ls i)<=nL ls i/\hv (bL ls i)-hv (aL ls i)<=nL ls i:=by rw[← dd];exact lip
 refine#[_,U,mk,U,∅,λH3 s3=>?_]
 refine#[_,U,_,U,(by lia),(by ac_rfl),cg (n:=n) (λi zs H4=>H4=H3/\zs=(HR i 0).map iV) (Ia (aq (by lia))) #[U,U] ?_ ?_]
 .rintro i zs H4 N ⟨rfl,rfl⟩;refine#[U,?_];rw[JU,HW];rfl
 rintro zs H4 _ ⟨rfl,rfl⟩ pp df;let s5:=ai df (.lst ((HR n 0).map iV));refine λd hd=>?_;let sd:=ai hd (.dK []);let b0:Same L (upd (upd H4 pp (.lst ((HR n 0).map iV))) d (.dK [])):=s3.trans (s5.trans sd);let ap:=b0 _ _ hq;let cb:=sd _ _ (show upd H4 pp (.lst ((HR n 0).map iV)) pp=_ from af);let bK:L d=none:=eQ (s3.trans s5) hd;let gd:(upd (upd H4 pp (.lst ((HR n 0).map iV))) d (.dK [])) d=Z (.dK []):=af;let cc:=bm.mono b0;generalize upd (upd H4 pp (.lst ((HR n 0).map iV))) d (.dK [])=H6 at b0 ap cb gd cc;refine#[_,U,_,U,_,U,q,_,U,SqL.of ap,λq7 a3=>?_];rw[EA];let s7:=ai a3 (.lst (out.drop 1));let dg:q7≠d:=λz=>by rw[z,gd]at a3;cases a3
 let bP:(upd H6 q7 (.lst (out.drop 1))) q7=Z (.lst (out.drop 1)):=af;let b7:=s7 _ _ gd;let bv:=b0.trans s7;let cd:=s7 _ _ cb;let dh:q≠d:=λz=>by rw[z,gd]at ap;cases ap
 let ce:=cc.mono s7;let bQ:=s7 _ _ ap;generalize upd H6 q7 (.lst (out.drop 1))=H7 at s7 bP b7 bv cd ce bQ;let dl:(out.drop 1).length=out.length-1:=Kc ..;let cF:∀{H9:Hp}{i:Nat}{e:Int×Int},TbS d H7 H9->row[i]?=Z e->∃ t,out[i]?=Z (.ref t)/\H9 t=Z (.tup [.int e.1,.int e.2]):=λ{H9 i e} sT J=>by
  let t z1 z2:=ce.2 i e J;exact#[t,z1,sT _ _ (λy=>by rw[y,b7]at z2;cases z2) z2]
 let bi:∀{i:Nat}{e:Int×Int},row[i]?=Z e->row.getD i (0,0)=e:=λ{i e} h=>by rw[HU,h];rfl
 refine#[q,q7,U,#[_,SqL.of bQ],#[_,SqL.of bP],Ed (K:=K) (xs:=out) (zs:=out.drop 1) (out.length-1) (λi M H9=>∃(v7 v8 v9 am:Option V)(pa:Addr)(ps:List Nat)(kv:List (Nat×Nat))(l m:Nat->Nat),M=[Z (.int (n:Int)),Z v,Z (.int (mk:Int)),Z (.ref q),Z (.int ((aM mk:Nat):Int)),Z (.ref pa),Z (.ref d),v7,v8,v9,am]/\TbS d H7 H9/\H9 d=Z (.dK (toK kv))/\kv.length<=40*i/\H9 pa=Z (.lst (ps.map iV))/\HI n ls mk hv row (2*cr).toNat i (row.getD i (0,0)).1 ps l m kv)
  #[_,_,_,_,pp,HR n 0,[],_,_,U,λ_ _ _ e=>e,b7,HF _,cd,by rw[bi cD];exact I0] (Nat.sub_le _ _) dl (λi M H9 _ al=>by let _ _ _ _ _ _ _ _ _ _ sT _:=al;exact#[SqL.of (sT _ _ dh bQ),SqL.of (sT _ _ dg bP)]) ?_ ?_]
 .rintro i x z M H9 T9 J hz ⟨v7,v8,v9,am,pa,ps,kv,lq,m,rfl,sT,bR,kl,cG,I⟩ cq;let N:i<out.length-1:=by rw[← dl];exact(HB.mp hz).1
  let e D:∃ e,row[i]?=Z e:=#[_,Hz ∅]
  let e' a2:∃ e,row[i+1]?=Z e:=#[_,Hz ∅]
  let tx an cK:=cF sT D;let tz ck di:=cF sT a2;rw[J]at an
  cases an
  rw[Kv,LV,ck]at hz
  cases hz
  rw[bi D]at I;let ba:e∈evs n ls hv:=aS.rp.mem_iff.mp (HC D);let u w' dn dp e2 e3 _:=BX ok bf ba;let dq:e.2.toNat<2^n:=by
   rw[e2];exact LN (IL ∅ dn) (IL ∅ dp)
  let e4:V.int e.2=V.int ((e.2.toNat:Nat):Int):=by rw[e2,e3]
  let dr:e'.1<=e.1:=by
   let i1 i2:=HB.mp D;let j1 j2:=HB.mp a2;let:=Jg.mp aS.srt i (i+1) i1 j1 ∅
   rw[i2,j2]at this;exact this
  let s9:=ai cq (.tup [.ref tx,.ref tz]);refine#[T9,_,U,SqT.of af,U,_,_,U,_,_,U,U,?_];refine#[_,U,_,U,tx,_,1,_,U,U,SqT.of (s9 _ _ cK),at1,pa,n,e.2.toNat,ps,by rw[← e4];rfl,s9 _ _ cG,I.pl,I.pb,dq,a0,λqa qs PP HA sA b8 ql ds bS=>?_]
  let I2 dt:=I.join ok bf D ba U ds ql bS;let ca:=s9.trans sA;refine#[_,U,tx,_,0,_,U,U,SqT.of (ca _ _ cK),at0,_,U,tz,_,0,_,U,U,SqT.of (ca _ _ di),at0,_,_,U,U,?_];let en:qs.map iV=(qs.map λx:Nat=>(x:Int)).map V.int:=by rw[Jq];rfl
  let nl:(qs.map λx:Nat=>(x:Int)).length=n:=by rw[HD,ql]
  refine#[_,U,qa,qs.map λx:Nat=>(x:Int),U,SqL.of (by rw[b8,en]),∅,λa ha=>?_]
  let cv:HA d=Z (.dK (toK kv)):=ca _ _ bR;let cw:((qs.map λx:Nat=>(x:Int)).foldl addN []).length<64:=by
   let:=uD (qs.map λx:Nat=>(x:Int)) [];rw[Kj]at this;omega
  refine#[a,_,U,af,cw,λl hs hl mem pw=>?_];let ld:l≠d:=λy=>by
   subst y;let B:=(ai ha (setO P w a ((qs.map λx:Nat=>(x:Int)).foldl addN []))) _ _ cv
   cases (hl.symm.trans B)
  let qd:qa≠d:=λy=>by
   rw[y,cv]at b8;cases b8
  let ch:∀ x,x∈hs↔x∈qs.map λx:Nat=>(x:Int):=λx=>by
   rw[mem x,EJ];exact#[λh=>h.elim (λh=>(nomatch h)) id,.inr]
  let hn dv:∃ hn:List Nat,hn=hs.map Int.toNat:=#[_,U];let cy:hs=hn.map λx:Nat=>(x:Int):=by
   rw[dv,Jq];refine((Jf (g:=id) λx J=>?_).trans (List.map_id _)).symm;let y _ rfl:=Im.mp ((ch x).mp J);rfl
  let cQ:hn.Nodup:=by
   rw[cy]at pw;exact(Kz.mp pw).imp λh e=>by rw[e]at h;omega
  let cT:∀ y,y∈hn↔y∈qs:=λy=>by
   let:=ch (y:Int);rw[cy,Im,Im]at this;constructor
   .intro h;let x Y B:=this.mp #[y,h,U];rw[← KJ B];exact Y
   .intro h;let x Y B:=this.mpr #[y,h,U];rw[← KJ B];exact Y
  let cp:hn.length<=n:=by
   let:=Ff (l:=hn) (ps:=qs) cQ λx J=>(cT x).mp J;omega
  let t ht:∃ t:Nat,(e.1-e'.1).toNat=t:=#[_,U];let et:e.1-e'.1=(t:Int):=by omega
  let dw:(hs.map V.int)=hn.map iV:=by rw[cy,Jq];rfl
  rw[dw];refine#[l,U,#[_,SqL.of af],bI (K:=K) (xs:=hn.map iV) (λj M HX=>∃(am:Option V)(aI:List (Nat×Nat)),M=[Z (.int (n:Int)),Z v,Z (.int (mk:Int)),Z (.ref q),Z (.int ((aM mk:Nat):Int)),Z (.ref qa),Z (.ref d),Z (.ref tx),Z (.ref tz),Z (.int (e.1-e'.1)),am]/\TbS d HA HX/\HX l=Z (.lst (hn.map iV))/\HX d=Z (.dK (toK aI))/\aI=mh (aM mk) t kv (hn.take j)/\aI.length<=40*i+j) #[_,kv,U,λb o _ e=>((ai ha _).trans (ai hl _)) _ _ e,af,((ai ha _).trans (ai hl _)) _ _ cv,U,kl] (λj M HX _ al=>by let _ _ _ _ z _:=al;exact SqL.of z) ?_ ?_]
  .rintro j y M HX hy ⟨am,aI,rfl,sX,cU,bB,bC,cW⟩;let hj:j<hn.length:=by
    let:=(HB.mp hy).1;rw[HD]at this;exact this
   rw[HN]at hy;let yv dx rfl:=HV.mp hy;let c7:=yV (r:=aM mk) (t:=t) (kv:=kv) dx;let no:inP (aM mk) t yv=false->∃(am:Option V)(aI:List (Nat×Nat)),[Z (V.int (n:Int)),Z v,Z (.int (mk:Int)),Z (.ref q),Z (.int ((aM mk:Nat):Int)),Z (.ref qa),Z (.ref d),Z (.ref tx),Z (.ref tz),Z (.int (e.1-e'.1)),Z (iV yv)]=[Z (.int (n:Int)),Z v,Z (.int (mk:Int)),Z (.ref q),Z (.int ((aM mk:Nat):Int)),Z (.ref qa),Z (.ref d),Z (.ref tx),Z (.ref tz),Z (.int (e.1-e'.1)),am]/\TbS d HA HX/\HX l=Z (.lst (hn.map iV))/\HX d=Z (.dK (toK aI))/\aI=mh (aM mk) t kv (hn.take (j+1))/\aI.length<=40*i+(j+1):=λz=>#[_,aI,U,sX,cU,bB,by rw[c7,z,NY (by simp)];exact bC,∅]
   refine#[_,U,_,_,U,U,_,U,ite2 (λc1=>?_) (λc1=>no ?_)];rotate_left
   .unfold inP;rw[My (λz=>c1 (Ni (by show(0:Int)<e.1-e'.1;omega)))]
    rfl
   let dc:(0:Int)<e.1-e'.1:=NO c1;refine#[_,U,U,_,U,ite2 (λc2=>?_) (λc2=>no ?_)];rotate_left
   .let:yv=0:=Decidable.byContradiction λz=>c2 (by
     rw[My (show ¬ iV yv=V.int 0 from λy=>z (KJ (V.int.inj y)))]
     rfl)
    unfold inP;rw[this];simp
   let dy:yv≠0:=λz=>by
    rw[z]at c2;exact NZ c2 (by rw[Ni (show iV 0=V.int 0 from rfl)];decide)
   refine#[_,U,_,U,_,_,U,U,(show(0:Int)<=((aM mk:Nat):Int) by omega),_,_,U,U,U,_,U,ite2 (λc3=>?_) (λc3=>no ?_)]
   rotate_left
   .cases z:yv.testBit (aM mk) with
    |true=>unfold inP;rw[z];simp
    |false =>
     exfalso;refine c3 (Ni (congrArg V.int ?_));let h0:=(yx yv (aM mk));rw[z]at h0;let Y:=bit01 yv (aM mk);obtain Y|Y:=Y
     .exact Y
     .exact NZ (h0.mp Y) (by simp)
   let dz:yv.testBit (aM mk)=false:=by
    cases z:yv.testBit (aM mk) with
    |false=>rfl
    |true =>
     let h0:=(yx yv (aM mk)).mpr z;let Y:MY ((yv:Int)/2^((aM mk:Nat):Int).toNat) 1=0:=V.int.inj (NO c3);rw[h0]at Y
     cases Y
   let dC:inP (aM mk) t yv=true:=by
    unfold inP;rw[Ni (show 0<t by omega),Ni dy,dz]
    rfl
   let big:(toK aI).length<Mz:=by
    rw[FU];let:aI.length<3000:=by omega
    exact JS this ∅
   let ci:=FV aI yv;let co:(aI.map (·.1)).Nodup:=by rw[bC];exact nC I2.nd
   refine#[_,U,d,U,.inl #[_,.inl bB],_,U,_,DGet.k (k:=.inl (yv:Int)) bB,_,U,_,_,ci,U,_,U,_,U,d,_,U,DPut.k (k:=.inl (yv:Int)) bB big,?_];rw[et,FT co];refine#[_,upK aI yv t,U,(λb o nb e=>by rw[ao nb];exact sX b o nb e),by rw[ao ld];exact cU,af,by rw[c7,dC,NX U,bC],?_]
   let:=FP aI yv t;omega
  .rintro M HX ⟨am,aI,rfl,sX,_,bB,bC,cW⟩;rw[HD]at cW;rw[HD,Ip]at bC;let l' m' I3:=I2.down bf dt aS.rp aS.srt a2 dr cQ cT rn;rw[ht,← bC]at I3;exact#[_,_,_,_,qa,qs,aI,l',m',U,λb o nb e=>sX b o nb (ca _ _ (sT b o nb e)),bB,∅,sX _ _ qd b8,by rw[bi a2];exact I3]
 .rintro M H9 ⟨v7,v8,v9,am,pa,ps,kv,lq,m,rfl,sT,bR,kl,cG,I⟩;let e D:∃ e,row[out.length-1]?=Z e:=#[_,Hz ∅]
  rw[bi D]at I;let m0:=I.end ok bf aS.rp D U ∅ rn
  let hH:=I.hls c0 ok m0;refine#[_,U,.inr (.inr (.inl #[U,.inl #[_,bR]])),d,_,U,U,bR,True.intro,λvw dD=>?_];let sv:=ai dD (yd vw d);refine#[vw,d,toK kv,kv.map (λe=>((e.1:Int),(e.2:Int))),U,af,sv _ _ bR,by unfold toK;rw[Jq];rfl,λl ys ct da hl db yl dE=>?_]
  let a6:Tb lqF lpF TT H7:=tb_same (tb_same bU s2) bv;refine kk l ys kv cr ct (λb o no e=>?_) (tb_same (ES a6 b7 sT) (sv.trans da)) db #[yl,dE] ∅ oc hH
  let e2:=s2 _ _ (a1 b o no e);exact da _ _ (sv _ _ (sT b o (λz=>by rw[z,bK]at e2;cases e2) (bv _ _ e2)))
def chN(a b M:Nat):Nat:=cond (M.testBit a ^^ M.testBit b) 1 0
def pdN(kv:List (Nat×Nat))(l:Lk):Nat:=wsum (chN l.1 l.2.1) kv
def tgB(ls:List Lk)(kv:List (Nat×Nat))(k:Nat):Bool:=decide (((pdN kv (lkA ls k):Nat):Int)=2*(lkA ls k).2.2)
def crN(ls:List Lk)(ww:Nat->Bool)(N M:Nat):Nat:=HM.csw (λi=>chN (aL ls i) (bL ls i) M) ww N
structure Kpt(ls:List Lk)(kv:List (Nat×Nat))(ww:Nat->Bool)(N:Nat):Prop where
 tg:∀ k,k<N->ww k=true->tgB ls kv k=true
 cr:∀ e∈kv,crN ls ww N e.1=1
theorem Cp(t:Nat)(w:Nat->Nat)(ww:Nat->Bool):∀ n,HM.csw (λi=>t*w i) ww n=t*HM.csw w ww n
 |0=>rfl
 |n+1=>by
  show HM.csw (λi=>t*w i) ww n+cond (ww n) (t*w n) 0=t*(HM.csw w ww n+cond (ww n) (w n) 0);rw[Cp t w ww n,Nat.mul_add]
  cases ww n<;>rfl
theorem Fq(ls:List Lk)(ww:Nat->Bool)(N:Nat):∀ kv:List (Nat×Nat),HM.csw (λi=>pdN kv (lkA ls i)) ww N=wsum (crN ls ww N) kv
 |[]=>by
  let:∀ n,HM.csw (λ_=>0) ww n=0:=λn=>by
   induction n with
   |zero=>rfl
   |succ n Q=>show HM.csw (λ_=>0) ww n+cond (ww n) 0 0=0;simp_all
  exact this N
 |e::kv=>by
  show HM.csw (λi=>e.2*chN (aL ls i) (bL ls i) e.1+pdN kv (lkA ls i)) ww N=e.2*crN ls ww N e.1+wsum (crN ls ww N) kv;rw[HM.csw_add,Cp,Fq ls ww N kv];rfl
theorem csw_eq{w v:Nat->Nat}{ww:Nat->Bool}(h:∀ i,i<n->w i<=v i)(e:HM.csw w ww n=HM.csw v ww n):∀ i,i<n->ww i=true->w i=v i:=by
 induction n with
 |zero=>exact λi I=>NZ I (IX _)
 |succ n Q =>
  intro i I u;let a:=HM.csw_le (w:=w) (v:=v) (F:=ww) (G:=ww) (n:=n) λj O=>by cases ww j<;>simp[h j ∅]
  let b:cond (ww n) (w n) 0<=cond (ww n) (v n) 0:=by cases ww n<;>simp[h n ∅]
  let e:HM.csw w ww n+cond (ww n) (w n) 0=HM.csw v ww n+cond (ww n) (v n) 0:=e;by_cases c:i=n
  .lia
  .exact Q (λj O=>h j ∅) ∅ i ∅ u
theorem xA{g:Nat->Nat}:∀{kv:List (Nat×Nat)},(∀ e∈kv,1<=e.2/\1<=g e.1)->wsum (λ_=>1) kv<=wsum g kv/\(wsum g kv=wsum (λ_=>1) kv->∀ e∈kv,g e.1=1)
 |[],_=>#[HF _,λ_ e D=>nomatch D]
 |x::kv,h=>by
  let a b:=xA (g:=g) (kv:=kv) λe D=>h e (HK _ D);let J I:=h x (HL ..);let j:x.2*1<=x.2*g x.1:=Nat.mul_le_mul_left _ I;let C:wsum g (x::kv)=x.2*g x.1+wsum g kv:=rfl;let T:wsum (λ_=>1) (x::kv)=x.2*1+wsum (λ_=>1) kv:=rfl;refine#[∅,λz e D=>?_]
  obtain rfl|D:=HQ.mp D
  .exact Nat.eq_of_mul_eq_mul_left (show 0<e.2 by omega) ∅
  .grind
theorem Hls.kept{u:Nat}{c:Int}(h:Hls n ls mk c kv)(ok:Lok n ls)(T:oddE ls u ls.length=mk):c<=cstU ls u ls.length/\(Kpt ls kv (λi=>u.testBit i) ls.length↔cstU ls u ls.length=c):=by
 let o:=Fq ls (λi=>u.testBit i) ls.length kv;let t:=oE (λl g=>(ok.w0 l g).1) u ls.length (HF _);let H:∀ i,i<ls.length->0<=nL ls i/\aL ls i<n/\bL ls i<n:=λi I=>by
  let e:=Hz I;unfold nL aL bL;rw[lkA_is e];exact#[(ok.w0 _ (HC e)).1,ok.sm _ (HC e)]
 let y:∀ i,i<ls.length->pdN kv (lkA ls i)<=dL ls i:=λi I=>by
  let a:((pdN kv (lkA ls i):Nat):Int)<=2*nL ls i:=h.pd i I;let:=(H i I).1;unfold dL;omega
 let m:=HM.csw_le (w:=λi=>pdN kv (lkA ls i)) (v:=dL ls) (F:=λi=>u.testBit i) (G:=λi=>u.testBit i) (n:=ls.length) λj O=>by cases u.testBit j<;>simp[y j O]
 let cr:∀ e∈kv,1<=e.2/\1<=crN ls (λi=>u.testBit i) ls.length e.1:=λe D=>by
  let d _ _ p:=h.ke e D;let q:=HM.cut (n:=n) (a:=aL ls) (b:=bL ls) (λx=>e.1.testBit x) (λi=>u.testBit i) (N:=ls.length) λi I=>(H i I).2;simp only[yA,T]at q;let i I z:=HM.par_some (q.trans p);let s M:=Bool.and_eq_true_iff.mp z;let:=HM.csw_pos (w:=λi=>chN (aL ls i) (bL ls i) e.1) (F:=λi=>u.testBit i) I s;let C:chN (aL ls i) (bL ls i) e.1=1:=by unfold chN;rw[M];rfl
  simp only[C]at this;exact#[d,this]
 let Q E:=xA cr;let sm:=h.sm;refine#[∅,λk=>?_,λz=>#[λk f A=>Ni ?_,E ∅]]
 .let q:HM.csw (λi=>pdN kv (lkA ls i)) (λi=>u.testBit i) ls.length=HM.csw (dL ls) (λi=>u.testBit i) ls.length:=HM.csw_congr λi I=>by
   cases b:u.testBit i with
   |false=>rfl
   |true =>
    let:=NO (k.tg i I b);show pdN kv (lkA ls i)=dL ls i;unfold dL nL;omega
  let r:wsum (crN ls (λi=>u.testBit i) ls.length) kv=wsum (λ_=>1) kv:=congrArg List.sum (Jf λe D=>by rw[k.cr e D])
  omega
 .let q:HM.csw (λi=>pdN kv (lkA ls i)) (λi=>u.testBit i) ls.length=HM.csw (dL ls) (λi=>u.testBit i) ls.length:=by omega
  let:=csw_eq y q k f A;rw[this];let:=(H k f).1;unfold dL nL at *;omega
def PpK(H:Hp)(v:V)(kv:List (Nat×Nat)):Prop:=∃ a Y,v=.ref a/\H a=Z (.lst Y)/\PAt H Y (kv.map λe=>((e.1:Int),(e.2:Int)))
theorem PpK.mono{H H':Hp}{v:V}{kv:List (Nat×Nat)}(h:PpK H v kv)(s:Same H H'):PpK H' v kv:=by
 let a Y e z l:=h;exact#[a,Y,e,s _ _ z,l.mono s]
theorem pat_get(h:PAt H ys (kv.map λe=>((e.1:Int),(e.2:Int)))){x:V}(J:ys[i]?=Z x):∃ e t,kv[i]?=Z e/\x=.ref t/\H t=Z (.tup [iV e.1,iV e.2]):=by
 let l:=h.1;rw[HD]at l;let e D:∃ e,kv[i]?=Z e:=#[_,Hz (by rw[← l];exact(HB.mp J).1)]
 let t a b:=h.2 i (e.1,e.2) (by simp[*])
 rw[J]at a;exact#[e,t,D,Iw a,b]
theorem xorB{a b:Nat}(M:Nat):MY (M4 ((M:Int)/2^((a:Nat):Int).toNat) ((M:Int)/2^((b:Nat):Int).toNat)) 1=((chN a b M:Nat):Int):=by
 let e:∀ i:Nat,(M:Int)/2^((i:Nat):Int).toNat=((M/2^i:Nat):Int):=λi=>by
  rfl
 rw[e,e,xorN];let T:MY (((M/2^a^^^M/2^b:Nat)):Int) 1=(((M/2^a^^^M/2^b)&&&1:Nat):Int):=andN _ 1;rw[T,Nat.and_one_is_mod];let Y:(M/2^a^^^M/2^b).testBit 0=(M.testBit a ^^ M.testBit b):=by
  rw[IP,Mv,Mv,K0,K0]
 rw[Nat.testBit_zero]at Y;unfold chN
 cases z:(M.testBit a ^^ M.testBit b) with
 |true =>
  rw[z]at Y;let:=NO Y;rw[this];rfl
 |false =>
  rw[z]at Y;let:=of_decide_eq_false Y;rw[show(M/2^a^^^M/2^b)%2=0 by omega]
  rfl
theorem ch_01(a b M:Nat):chN a b M=0∨chN a b M=1:=by unfold chN;cases (M.testBit a ^^ M.testBit b)<;>simp
def pdL(kv:List (Nat×Nat))(a b:Nat):List Int:=(kv.filter λe=>decide (chN a b e.1=1)).map λe=>(e.2:Int)
theorem pdL_sum(a b:Nat):∀ kv:List (Nat×Nat),(pdL kv a b).sum=((wsum (chN a b) kv:Nat):Int)
 |[]=>rfl
 |e::kv=>by
  let Q:=pdL_sum a b kv;let C:wsum (chN a b) (e::kv)=e.2*chN a b e.1+wsum (chN a b) kv:=rfl;rw[C];unfold pdL at *;obtain z|z:=ch_01 a b e.1
  .simp[*]
  .simp[*]
theorem pdL_put(h:kv[i]?=Z e)(a b:Nat):pdL (kv.take (i+1)) a b=if chN a b e.1=1 then pdL (kv.take i) a b++[(e.2:Int)] else pdL (kv.take i) a b:=by
 unfold pdL;rw[Ie,h,KZ,Kf,HW];by_cases c:chN a b e.1=1
 .simp[*]
 .simp[*]
theorem pdL_len(kv:List (Nat×Nat))(a b i:Nat):(pdL (kv.take i) a b).length<=i:=by
 unfold pdL;rw[HD];exact IK (Jj _ _) (by rw[IC];exact Ma _ _)
theorem big3{k:Nat}(h:k<=3000):k<=Mz:=IK h ∅
structure TxtE(mg:Str->Option Value):Prop extends TxtH mg where
 n_sum:mg "sum"=none
inductive spPaid(vs:List L2.V)(H:L2.Hp)(Q:L2.VK)(x3_:L2.XK):Prop
 |mk (v pv:V)(l:Lk)(kv:List (Nat×Nat)) (h0_:vs=[v,pv])(h1_:LkAt H v l)(h2_:PpK H pv kv)(h3_:kv.length<=3000)(h4_:∀ H',Same H H'->Q (.int ((pdN kv l:Nat):Int)) H')
theorem sf:ay ["link","paper"] ["link","paper"] (ar gA):=by ac_nf
theorem ok_paid(F:Fun K "paid_over" "paid_over" gA f fd)(T:TxtE mg):FnOk P w K mg base CX0 1 f fd ["link","paper"] spPaid:=by
 refine F.ok sf (by walk_at "l") λN A o s H g Q E O h=>?_
 let v pv l I rfl{t rfl L}{a Y rfl k r}aa y:=h;let m:=r.1;rw[HD]at m;refine#[_,(ak (aE (az (rO U) (by rfl) T.n_sum yw (ae (d8 [("link",0)] ["rooms","price"] (aP (pv 1)) (λC G s H=>(gE (n:=2) (K:=K) U U (aJ (bp (i:=0) (show(["rooms","price","link"]:List Str).Nodup from by decide) U (Or.inl U)) (aJ (bp (i:=1) (show(["rooms","price","link"]:List Str).Nodup from by decide) U (Or.inl U)) cP)))) (λC G s H=>(jV (aB eG (aw jD (aw fY (aw fZ (pv 0) (l7 K (pv 2) aj)) (aw fZ (pv 0) (l7 K (pv 2) aj))) aj) aj (aC _)))) (λC G s H=>(pv 1))) ah)))),?_]
 refine#[_,U,a,U,#[_,SqL.of k],cJ (K:=K) (xs:=Y) (λi j u=>u=H/\j=(pdL (I.take i) l.1 l.2.1).map V.int) (big3 ∅) #[U,U] (λi j u _ z=>by rw[z.1];exact SqL.of k) ?_ ?_ ?_]
 .rintro i x j u J ⟨rfl,rfl⟩;let e q d rfl b:=pat_get r J;refine#[q,_,U,SqT.of b,U,_,_,U,_,_,U,U,U,?_];refine#[_,U,_,U,t,_,0,_,U,U,SqT.of L,a30,_,_,U,U,(show(0:Int)<=(l.1:Int) by omega),_,U,_,U,t,_,1,_,U,U,SqT.of L,a31,_,_,U,U,(show(0:Int)<=(l.2.1:Int) by omega),_,_,U,U,_,_,U,U,?_]
  dsimp only;rw[xorB,pdL_put d];refine#[U,_,U,ite2 (λc=>?_) (λc=>?_)]
  .let B:chN l.1 l.2.1 e.1=1:=by grind
   rw[NX B,HW];exact#[_,U,U,U]
  .rw[NY (λz=>c (Ni (by rw[z];rfl)))]
   exact#[U,U]
 .rintro j u ⟨rfl,rfl⟩ D p;rw[m,Ip];let M:=y _ (ai p (.lst ((pdL I l.1 l.2.1).map V.int)));unfold pdN at M;rw[← pdL_sum]at M;exact#[D,_,U,SqL.of af,M]
 .rintro i j u ⟨_,rfl⟩;rw[HD];exact pdL_len _ _ _ _
end KF
namespace L2
theorem len_0{l:List α}(h:l.length=0):l=[]:=Ku.mp h
theorem yQ{l:List α}(h:l.length=n+1):∃ x r,l=x::r/\r.length=n:=by
 cases l with
 |nil=>cases h
 |cons x r=>exact#[x,r,U,Nat.succ.inj h]
theorem GU{l:List α}(h:l.length=1):∃ a,l=[a]:=by
 let a r rfl e:=yQ h;exact#[a,by rw[len_0 e]]
theorem len_2{l:List α}(h:l.length=2):∃ a b,l=[a,b]:=by
 let a r rfl e:=yQ h;let b rfl:=GU e;exact#[a,b,U]
theorem len_3{l:List α}(h:l.length=3):∃ a b c,l=[a,b,c]:=by
 let a r rfl e:=yQ h;let b c rfl:=len_2 e;exact#[a,b,c,U]
theorem GQ{l:List α}(h:l.length=4):∃ a b c d,l=[a,b,c,d]:=by
 let a r rfl e:=yQ h;let b c d rfl:=len_3 e;exact#[a,b,c,d,U]
theorem len_5{l:List α}(h:l.length=5):∃ a b c d e,l=[a,b,c,d,e]:=by
 let a r rfl z:=yQ h;let b c d e rfl:=GQ z;exact#[a,b,c,d,e,U]
theorem len_6{l:List α}(h:l.length=6):∃ a b c d e f,l=[a,b,c,d,e,f]:=by
 let a r rfl z:=yQ h;let b c d e f rfl:=len_5 z;exact#[a,b,c,d,e,f,U]
end L2
namespace K8
theorem sub_le:∀{a b:List Nat},a.Nodup->(∀ x∈a,x∈b)->a.length<=b.length
 |[],_,_,_=>Iz _
 |x::a,b,G,h=>by
  let I A:=HS.mp G;let J:=h x (by simp)
  let Q:=sub_le (a:=a) (b:=b.erase x) A λy c=>(List.mem_erase_of_ne (λe:y=x=>I (e▸c))).mpr (h y (HK _ c));rw[K6 J]at Q;let:0<b.length:=JB J;rw[IM];omega
theorem cZ{a:List Nat}(nd:a.Nodup)(h:∀ x∈a,x<N):a.length<=N:=by
 let:=sub_le (b:=IG N) nd λx J=>Ja.mpr (h x J);rwa[Jn]at this
theorem x9(nd:l.Nodup){x:Nat}(hi:l[i]?=Z x)(O:l[j]?=Z x):i=j:=by
 let p:=Jg.mp nd;let Y C:=HB.mp hi;let B T:=HB.mp O;obtain z|z|z:=Nat.lt_trichotomy i j
 .exact NZ (C.trans T.symm) (p i j Y B z)
 .exact z
 .exact NZ (T.trans C.symm) (p j i B Y z)
abbrev En:=List (Nat×Nat)
structure bH(m:Nat)(es:En)(ts:List (List Nat)):Prop where
 len:ts.length=m
 ends:∀ e∈es,e.1<m/\e.2<m/\e.1≠e.2
 nd:∀(p:Nat)(l:List Nat),ts[p]?=Z l->l.Nodup
 mem:∀(p:Nat)(l:List Nat),ts[p]?=Z l->∀ t,t∈l↔∃ e,es[t]?=Z e/\(e.1=p∨e.2=p)
theorem CQ(m:Nat):bH m [] (HR m []) where
 len:=by simp
 ends:=λe h=>by cases h
 nd:=λp l h=>by
  rw[Jo]at h;simp_all
 mem:=λp l h t=>by
  rw[Jo]at h;simp_all
def ins(l:List Nat)(k x:Nat):List Nat:=l.take k++x::l.drop k
theorem vI{k x y:Nat}:y∈ins l k x↔y=x∨y∈l:=by
 unfold ins;rw[HY,HQ];let:=JT k l;constructor
 .rintro(h|h|h)
  .exact .inr (List.mem_of_mem_take h)
  .exact .inl h
  .exact .inr (List.mem_of_mem_drop h)
 .rintro(h|h)
  .exact .inr (.inl h)
  .rw[← this]at h;obtain z|z:=HY.mp h
   .exact .inl z
   .exact .inr (.inr z)
theorem BB{k x:Nat}(nd:l.Nodup)(h:x∉l):(ins l k x).Nodup:=by
 unfold ins;let e:=JT k l;rw[← e]at nd;let a b c:=Iu.mp nd;refine Iu.mpr #[a,HS.mpr #[λz=>h (List.mem_of_mem_drop z),b],λy Q z L=>?_];obtain q|q:=HQ.mp L
 .intro w;exact h (by rw[← q,← w];exact List.mem_of_mem_take Q)
 .exact c y Q z q
theorem bH.put{es:En}{one two k:Nat}(w:bH m es ts)(Y:one<m)(h2:two<m)(N:one≠two)(e1:ts[one]?=Z l)(T:ts[two]?=Z l'):
  bH m (es++[(one,two)]) ((ts.set one (ins l k es.length)).set two (ins l' j es.length)):=by
 let u:∀{p l},ts[p]?=Z l->es.length∉l:=λ{p l} e z=>by
  let x J _:=(w.mem p l e es.length).mp z;let:=(HB.mp J).1;omega
 let get:∀ p q,((ts.set one (ins l k es.length)).set two (ins l' j es.length))[p]?=Z q->(p=two/\q=ins l' j es.length)∨(p=one/\p≠two/\q=ins l k es.length)∨(p≠one/\p≠two/\ts[p]?=Z q):=λp q e=>by
  let L:two<(ts.set one (ins l k es.length)).length:=by rw[IV,w.len];exact h2
  let b:one<ts.length:=by rw[w.len];exact Y
  rw[IQ]at e;by_cases z:two=p
  .rw[NX z,NX L]at e;exact .inl #[z.symm,(Iw e).symm]
  .rw[NY z,IQ]at e;by_cases y:one=p
   .rw[NX y,NX b]at e;lia
   .rw[NY y]at e;exact .inr (.inr #[Ne.symm y,Ne.symm z,e])
 let a:∀ t x,(es++[(one,two)])[t]?=Z x↔(es[t]?=Z x)∨(t=es.length/\x=(one,two)):=λt x=>by
  by_cases z:t<es.length
  .rw[HH z];constructor
   .exact .inl
   .lia
  .rw[HG ∅]
   constructor
   .intro y;let G:=(HB.mp y).1;grind
   .rintro(y|⟨y,rfl⟩)
    .simp_all
    .rw[y,Iq];rfl
 refine#[by rw[IV,IV];exact w.len,λe D=>?_,λp q e=>?_,λp q e t=>?_]
 .obtain z|z:=HY.mp D
  .exact w.ends e z
  .simp_all
 .rcases get p q e with⟨_,rfl⟩|⟨_,_,rfl⟩|⟨_,_,y⟩
  .exact BB (w.nd two l' T) (u T)
  .exact BB (w.nd one l e1) (u e1)
  .exact w.nd p q y
 .rcases get p q e with⟨rfl,rfl⟩|⟨rfl,c,rfl⟩|⟨I,A,y⟩
  .rw[vI,w.mem p l' T t];constructor
   .rintro(z|⟨x,J,M⟩)
    .exact#[(one,p),(a _ _).mpr (.inr #[z,U]),.inr U]
    .exact#[x,(a _ _).mpr (.inl J),M]
   .rintro⟨x,J,M⟩;rcases(a _ _).mp J with z|⟨z,_⟩
    .exact .inr #[x,z,M]
    .exact .inl z
  .rw[vI,w.mem p l e1 t];constructor
   .rintro(z|⟨x,J,M⟩)
    .exact#[(p,two),(a _ _).mpr (.inr #[z,U]),.inl U]
    .exact#[x,(a _ _).mpr (.inl J),M]
   .rintro⟨x,J,M⟩;rcases(a _ _).mp J with z|⟨z,_⟩
    .exact .inr #[x,z,M]
    .exact .inl z
  .rw[w.mem p q y t];constructor
   .rintro⟨x,J,M⟩;exact#[x,(a _ _).mpr (.inl J),M]
   .rintro⟨x,J,M⟩;rcases(a _ _).mp J with z|⟨z,rfl⟩
    .exact#[x,z,M]
    .obtain M|M:=M
     .exact NZ M.symm I
     .exact NZ M.symm A
def hd(es:En)(d:Nat):Nat:=match es[d/2]? with|some e=>if d%2=0 then e.2 else e.1|none=>0
def tl(es:En)(d:Nat):Nat:=match es[d/2]? with|some e=>if d%2=0 then e.1 else e.2|none=>0
def leave(es:En)(t p:Nat):Nat:=match es[t]? with|some e=>if e.1=p then 2*t else 2*t+1|none=>0
def nxt(l:List Nat)(t:Nat):Nat:=(l[(l.idxOf t+1)%l.length]?).getD 0
def fol(es:En)(ts:List (List Nat))(d:Nat):Nat:=leave es (nxt ((ts[hd es d]?).getD []) (d/2)) (hd es d)
section
variable{m:Nat}{es:En}{ts:List (List Nat)}
theorem vJ{t:Nat}(h:t∈l):l[l.idxOf t]?=Z t:=by
 let G:=K7.mpr h;simp[*]
theorem iC{t:Nat}(h:t∈l):l[(l.idxOf t+1)%l.length]?=Z (nxt l t):=by
 let G:0<l.length:=JB h;let:=Mn (l.idxOf t+1) G;unfold nxt;simp[*]
theorem bH.at(w:bH m es ts){d:Nat}(h:d<2*es.length):∃ e l,es[d/2]?=Z e/\hd es d=(if d%2=0 then e.2 else e.1)/\tl es d=(if d%2=0 then e.1 else e.2)/\hd es d<m/\ts[hd es d]?=Z l/\d/2∈l:=by
 let G:d/2<es.length:=by omega
 let C:es[d/2]?=Z es[d/2]:=Hz G;let q:=w.ends _ (HC C);generalize es[d/2]=e at C q;let Y:hd es d=(if d%2=0 then e.2 else e.1):=by unfold hd;rw[C]
 let B:tl es d=(if d%2=0 then e.1 else e.2):=by unfold tl;rw[C]
 let J:hd es d<m:=by rw[Y];split<;>omega
 let u:ts[hd es d]?=Z (ts[hd es d]'(by rw[w.len];exact J)):=Hz _
 refine#[e,_,C,Y,B,J,u,(w.mem _ _ u _).mpr #[e,C,?_]];rw[Y];split
 .exact .inr U
 .exact .inl U
theorem bH.foll(w:bH m es ts){d:Nat}(h:d<2*es.length):∃ l e,ts[hd es d]?=Z l/\d/2∈l/\es[nxt l (d/2)]?=Z e/\(e.1=hd es d∨e.2=hd es d)/\e.1≠e.2/\fol es ts d=(if e.1=hd es d then 2*nxt l (d/2) else 2*nxt l (d/2)+1)/\fol es ts d<2*es.length/\fol es ts d/2=nxt l (d/2)/\tl es (fol es ts d)=hd es d:=by
 let a l Y B J u O E:=w.at h;let N:=iC E;let e D M:=(w.mem _ _ O _).mp (HC N);let L:=(HB.mp D).1;let H:=(w.ends e (HC D)).2.2;let r:fol es ts d=(if e.1=hd es d then 2*nxt l (d/2) else 2*nxt l (d/2)+1):=by
  unfold fol;rw[O];show leave es (nxt l (d/2)) (hd es d)=_;unfold leave;rw[D]
 refine#[l,e,O,E,D,M,H,r,?_,?_,?_]
 .grind
 .lia
 .rw[r];by_cases z:e.1=hd es d
  .let g:2*nxt l (d/2)/2=nxt l (d/2):=by omega
   let s:2*nxt l (d/2)%2=0:=by omega
   rw[NX z];unfold tl;simp_all
  .let g:(2*nxt l (d/2)+1)/2=nxt l (d/2):=by omega
   let s:¬ (2*nxt l (d/2)+1)%2=0:=by omega
   rw[NY z];unfold tl;rw[g,D];show(if(2*nxt l (d/2)+1)%2=0 then e.1 else e.2)=_;rw[NY s];exact M.elim (λy=>NZ y z) id
theorem bH.inj(w:bH m es ts){a b:Nat}(E:a<2*es.length)(L:b<2*es.length)(h:fol es ts a=fol es ts b):a=b:=by
 let l e v r _ _ _ _ _ M N:=w.foll E;let c q k n _ _ _ _ _ Y g:=w.foll L;let p:hd es a=hd es b:=by rw[← N,← g,h]
 rw[p,k]at v
 cases v
 let J:nxt l (a/2)=nxt l (b/2):=by rw[← M,← Y,h]
 let H:=iC r;let O:=iC n;rw[J]at H;let G:=x9 (w.nd _ _ k) H O;let f:=K7.mpr r;let A:=K7.mpr n;let Q:l.idxOf (a/2)=l.idxOf (b/2):=by
  generalize l.idxOf (a/2)=x at *;generalize l.idxOf (b/2)=y at *;by_cases s:x+1=l.length
  .by_cases u:y+1=l.length
   .omega
   .rw[s,LU,JH ∅]at G;omega
  .by_cases u:y+1=l.length
   .rw[u,LU,JH ∅]at G;omega
   .rw[JH ∅,JH ∅]at G;omega
 let i:a/2=b/2:=by
  let j:=vJ r;let B:=vJ n;rw[Q,B]at j;exact(Iw j).symm
 let C _ o D _ _ _ _:=w.at E;let T _ d t _ _ _ _:=w.at L;rw[i,d]at o;let I:T=C:=Iw o;rw[I]at d t;let z:=(w.ends C (HC d)).2.2;rw[D,t]at p;lia
end
structure CH(f:Nat->Nat)(N:Nat):Prop where
 lt:∀ d,d<N->f d<N
 inj:∀ a b,a<N->b<N->f a=f b->a=b
structure Path(f:Nat->Nat)(N first:Nat)(r:List Nat):Prop where
 hd:r[0]?=Z first
 lt:∀ d∈r,d<N
 nd:r.Nodup
 nx:∀ i x y,r[i]?=Z x->r[i+1]?=Z y->y=f x
theorem Dt{f:Nat->Nat}{d:Nat}(h:d<N):Path f N d [d] where
 hd:=rfl
 lt:=λx J=>by simp_all
 nd:=by simp
 nx:=λi x y Y B=>by
  contradiction
theorem Path.snoc{f:Nat->Nat}{d x:Nat}{r:List Nat}(p:CH f N)(h:Path f N d (r++[x]))(D:f x≠d):Path f N d (r++[x]++[f x]) where
 hd:=by rw[HH (by simp)];exact h.hd
 lt:=λy Q=>by
  obtain z|z:=HY.mp Q
  .exact h.lt y z
  .let:y=f x:=by simpa using z
   rw[this];exact p.lt x (h.lt x (by simp))
 nd:=by
  refine Iu.mpr #[h.nd,by simp,λa E b L e=>?_]
  let G:b=f x:=by simpa using L
  subst G;let i I:=IJ.mp E;rw[e]at I;let g:=(HB.mp I).1;rw[HJ,Ik]at g
  cases i with
  |zero =>
   rw[h.hd]at I;exact D (Iw I).symm
  |succ i =>
   let j:(r++[x])[i]?=Z ((r++[x])[i]'(by grind)):=Hz _
   let:=h.nx i _ _ j I;let l:=h.lt _ (HC j);let n:=h.lt x (by simp)
   let T:=p.inj _ _ n l this;rw[← T]at j;let m:(r++[x])[r.length]?=Z x:=by rw[HG (HF _),Iq];rfl
   let:=x9 h.nd j m;omega
 nx:=λi a b Y B=>by
  let k:=(HB.mp B).1;rw[HJ,HJ,Ik,Ik]at k;rw[HH (by simp_all)]at Y
  by_cases z:i+1<(r++[x]).length
  .rw[HH z]at B;exact h.nx i a b Y B
  .rw[HJ,Ik]at z;let c:i=r.length:=by omega
   simp_all
structure Ring(f:Nat->Nat)(N:Nat)(r:List Nat):Prop where
 lt:∀ d∈r,d<N
 nd:r.Nodup
 ne:0<r.length
 nx:∀ i x,r[i]?=Z x->r[(i+1)%r.length]?=Z (f x)
theorem Path.ring{f:Nat->Nat}{d x:Nat}{r:List Nat}(p:CH f N)(h:Path f N d (r++[x]))(D:f x=d):Ring f N (r++[x]) where
 lt:=h.lt
 nd:=h.nd
 ne:=by simp
 nx:=λi y Q=>by
  let G:=(HB.mp Q).1;by_cases z:i+1=(r++[x]).length
  .rw[z,LU];let:i=r.length:=by simp_all
   subst this;rw[HG (HF _),Iq]at Q;let:x=y:=Iw Q;subst this;rw[D];exact h.hd
  .let E:i+1<(r++[x]).length:=by omega
   rw[JH E];let g:=Hz E;rw[g,h.nx i _ _ Q g]
theorem Ring.back{f:Nat->Nat}{a:Nat}{r:List Nat}(p:CH f N)(h:Ring f N r)(E:a<N)(T:f a∈r):a∈r:=by
 let i I:=IJ.mp T;let G:=(HB.mp I).1;let C:∃ j,j<r.length/\(j+1)%r.length=i:=by
  cases i with
  |zero=>exact#[r.length-1,∅,by let:=h.ne;rw[show r.length-1+1=r.length by omega,LU]]
  |succ i=>exact#[i,∅,JH G]
 let j O D:=C;let g:=Hz O;let q:=h.nx j _ g;rw[D,I]at q;let b:=h.lt _ (HC g);let:=p.inj _ _ E b (Iw q);simp[*]
structure cV(f:Nat->Nat)(N i:Nat)(rs:List (List Nat)):Prop where
 ring:∀ r∈rs,Ring f N r
 hdl:∀ r∈rs,∀ h,r[0]?=Z h->h<i/\∀ d∈r,h<=d
 asc:∀(a b:Nat)(r r':List Nat)(h h':Nat),a<b->rs[a]?=Z r->rs[b]?=Z r'->r[0]?=Z h->r'[0]?=Z h'->h<h'
 nd:rs.flatten.Nodup
 all:∀ d,d<i->d∈rs.flatten
theorem yI(f:Nat->Nat)(N:Nat):cV f N 0 [] where
 ring:=λr h=>by cases h
 hdl:=λr h=>by cases h
 asc:=λa b r m h J _ e=>by cases e
 nd:=by simp
 all:=λd h=>by omega
theorem cV.skip{f:Nat->Nat}(w:cV f N i rs)(h:i∈rs.flatten):cV f N (i+1) rs where
 ring:=w.ring
 hdl:=λr O x J=>#[by let:=(w.hdl r O x J).1;omega,(w.hdl r O x J).2]
 asc:=w.asc
 nd:=w.nd
 all:=λd hd=>by
  by_cases z:d=i
  .rw[z];exact h
  .exact w.all d ∅
theorem cV.put{f:Nat->Nat}{r:List Nat}(p:CH f N)(w:cV f N i rs)(h:i∉rs.flatten)(hi:i<N)(O:Ring f N r)(c:Path f N i r):cV f N (i+1) (rs++[r]):=by
 let j:∀(k x:Nat),r[k]?=Z x->x∉rs.flatten:=λk=>by
  induction k with
  |zero =>
   intro x J;rw[c.hd]at J;grind
  |succ k Q =>
   intro x J z;let G:=(HB.mp J).1;let g:=Hz (show k<r.length by omega)
   let e:=c.nx k _ _ g J;let q C o:=IW.mp z;rw[e]at o;exact Q _ g (IW.mpr #[q,C,(w.ring q C).back p (O.lt _ (HC g)) o])
 let D1:∀ d∈r,i<=d:=λd hd=>by
  let k l:=IJ.mp hd;by_cases z:i<=d
  .exact z
  .exact NZ (w.all d ∅) (j k d l)
 refine#[λq C=>?_,λq C x J=>?_,λa b q T x t m E L J H=>?_,?_,λd hd=>?_]
 .obtain z|z:=HY.mp C
  .exact w.ring q z
  .let:q=r:=by simpa using z
   rw[this];exact O
 .obtain z|z:=HY.mp C
  .let:=w.hdl q z x J
   exact#[∅,this.2]
  .let e:q=r:=by simpa using z
   subst e;rw[c.hd]at J;simp_all
 .let bl:=(HB.mp L).1
  rw[HJ,Ik]at bl;rw[HH ∅]at E
  by_cases z:b<rs.length
  .rw[HH z]at L;exact w.asc a b q T x t m E L J H
  .let s:b=rs.length:=by omega
   subst s;rw[HG (HF _),Iq]at L;let e:r=T:=Iw L;subst e;rw[c.hd]at H
   cases H
   exact(w.hdl q (HC E) x J).1
 .rw[KR];let e : [r].flatten=r:=by simp
  rw[e];refine Iu.mpr #[w.nd,O.nd,λa E b L e=>?_];let k l:=IJ.mp L;exact j k b l (e▸E)
 .rw[KR,HY];by_cases z:d=i
  .right;rw[z];simp;exact HC c.hd
  .exact .inl (w.all d ∅)
theorem g7(nd:rs.flatten.Nodup){a b:Nat}{r:List Nat}{d:Nat}(E:rs[a]?=Z r)(L:rs[b]?=Z r')(Y:d∈r)(h2:d∈r'):a=b:=by
 induction rs generalizing a b with
 |nil=>cases E
 |cons q rs Q =>
  rw[Jb]at nd;let _ A O:=Iu.mp nd
  cases a with
  |zero =>
   cases b with
   |zero=>rfl
   |succ b =>
    let e:q=r:=Iw E;subst e;exact NZ U (O d Y d (IW.mpr #[r',HC L,h2]))
  |succ a =>
   cases b with
   |zero =>
    let e:q=r':=Iw L;subst e;exact NZ U (O d h2 d (IW.mpr #[r,HC E,Y]))
   |succ b=>exact congrArg Nat.succ (Q A E L)
def chain(f:Nat->Nat):Nat->List Nat->Nat->Prop
 |x,[],z=>f x=z
 |x,y::l,z=>f x=y/\chain f y l z
theorem dj{f:Nat->Nat}:∀{x:Nat}{l:List Nat}{y:Nat}{k:List Nat}{z:Nat},chain f x (l++y::k) z↔chain f x l y/\chain f y k z
 |x,[],y,k,z=>Iff.rfl
 |x,a::l,y,k,z=>by
  show(f x=a/\chain f a (l++y::k) z)↔(f x=a/\chain f a l y)/\chain f y k z;rw[dj,and_assoc]
theorem lB{f g:Nat->Nat}:∀{x y:Nat}{l:List Nat}{z:Nat},chain f x l z->g y=f x->(∀ t∈l,g t=f t)->chain g y l z
 |x,y,[],z,h,e,_=>e.trans h
 |x,y,a::l,z,h,e,k=>#[e.trans h.1,lB h.2 (k a (HL ..)) λt i=>k t (HK _ i)]
theorem oG{f g F:Nat->Nat}:∀{x:Nat}{l:List Nat}{z:Nat},chain f x l z->(∀ t∈x::l,g (F t)=F (f t))->chain g (F x) (l.map F) (F z)
 |x,[],z,h,k=>by
  show g (F x)=F z;rw[k x (HL ..),show f x=z from h]
 |x,a::l,z,h,k=>#[by rw[k x (HL ..),h.1],oG h.2 λt i=>k t (HK _ i)]
theorem oH{f:Nat->Nat}{S:Nat->Prop}:∀{x:Nat}{l:List Nat}{z:Nat},chain f x l z->(∀ t∈x::l,S t->S (f t))->S x->S z/\∀ t∈l,S t
 |x,[],z,h,k,s=>#[by let:=k x (HL ..) s;rwa[show f x=z from h]at this,λt i=>nomatch i]
 |x,a::l,z,h,k,s=>by
  let J:S a:=by let:=k x (HL ..) s;rwa[h.1]at this
  let Y B:=oH h.2 (λt i=>k t (HK _ i)) J;simp_all
structure CR(f:Nat->Nat)(N:Nat)(r:List Nat):Prop where
 ch:∃ x l,r=x::l/\chain f x l x
 lt:∀ d∈r,d<N
 nd:r.Nodup
theorem CR.closed{f:Nat->Nat}{r:List Nat}(h:CR f N r):∀ d∈r,f d∈r:=by
 let x l rfl c:=h.ch;intro d hd;obtain y|y:=HQ.mp hd
 .subst y
  cases l with
  |nil=>rw[show f d=d from c];omega
  |cons a l=>rw[c.1];simp
 .let A B rfl:=List.append_of_mem y;let c2:=(dj.mp c).2
  cases B with
  |nil=>rw[show f d=x from c2];exact HL ..
  |cons a B=>rw[c2.1];simp
theorem CR.sub{f:Nat->Nat}{r:List Nat}{S:Nat->Prop}(h:CR f N r)(k:∀ t∈r,S t->S (f t)){d:Nat}(hd:d∈r)(s:S d):∀ t∈r,S t:=by
 let x l rfl c:=h.ch;let a:S x->∀ t∈x::l,S t:=λb t i=>by
  obtain y|y:=HQ.mp i
  .rw[y];exact b
  .exact(oH c k b).2 t y
 obtain y|y:=HQ.mp hd
 .exact a (y▸s)
 .let A B rfl:=List.append_of_mem y;let c2:=(dj.mp c).2;exact a (oH c2 (λt i=>k t (by simp[*])) s).1
theorem CR.same{f:Nat->Nat}{r:List Nat}(h:CR f N r)(h':CR f N r'){d:Nat}(Y:d∈r)(h2:d∈r'):∀ t∈r,t∈r':=h.sub (S:=λt=>t∈r') (λt _=>h'.closed t) Y h2
theorem CR.ne{f:Nat->Nat}{r:List Nat}(h:CR f N r):∃ d,d∈r:=by
 let x l rfl _:=h.ch;exact#[x,HL ..]
structure Part(f:Nat->Nat)(N:Nat)(rs:List (List Nat)):Prop where
 cr:∀ r∈rs,CR f N r
 nd:rs.flatten.Nodup
 all:∀ d,d<N->d∈rs.flatten
theorem Part.same:∀{rs qs:List (List Nat)}{f:Nat->Nat}{N:Nat},Part f N rs->Part f N qs->rs.length=qs.length:=by
 let u:∀(k:Nat){rs qs:List (List Nat)}{f:Nat->Nat}{N:Nat},Part f N rs->Part f N qs->rs.length<=qs.length:=by
  intro _ rs qs f N p q;let g:∀ r∈rs,∃ i,i<qs.length/\∃ m,qs[i]?=Z m/\∀ t∈m,t∈r:=λr O=>by
   let c:=p.cr r O;let d hd:=c.ne;let m H v:=IW.mp (q.all d (c.lt d hd));let i I:=IJ.mp H;exact#[i,(HB.mp I).1,m,I,(q.cr m H).same c v hd]
  let:∀(l:List (List Nat)),(∀ r∈l,r∈rs)->l.flatten.Nodup->∃ is:List Nat,is.length=l.length/\is.Nodup/\∀ i∈is,i<qs.length/\∃ r∈l,∃ m,qs[i]?=Z m/\∀ t∈m,t∈r:=λl=>by
   induction l with
   |nil=>intro _ _;exact#[[],U,JF,λi I=>nomatch I]
   |cons r l Q =>
    intro h b;rw[Jb]at b;let w A n:=Iu.mp b;let is C T E:=Q (λr O=>h r (HK _ O)) A;let i Y m B J:=g r (h r (HL ..));refine#[i::is,by simp[C],HS.mpr #[λz=>?_,T],λj o=>?_]
    .let _ D v e x L:=E i z;rw[B]at x
     cases x
     let d hd:=(q.cr m (HC B)).ne;exact n d (J d hd) d (IW.mpr #[D,v,L d hd]) U
    .obtain z|z:=HQ.mp o
     .subst z;exact#[Y,r,HL ..,m,B,J]
     .let a D G M:=E j z;exact#[a,D,HK _ G,M]
  let is C T E:=this rs (λ_ h=>h) p.nd;rw[← C];exact cZ T λi I=>(E i I).1
 intro rs qs f N p q;exact Nat.le_antisymm (u 0 p q) (u 0 q p)
theorem Ring.cr{f:Nat->Nat}{r:List Nat}(h:Ring f N r):CR f N r:=by
 refine#[?_,h.lt,h.nd];let ne:=h.ne;match r,h,ne with
 |x::l,h,_ =>
  refine#[x,l,U,?_];let C:∀(k i:Nat)(y:Nat),i+k+1=(x::l).length->(x::l)[i]?=Z y->chain f y ((x::l).drop (i+1)) x:=λk=>by
   induction k with
   |zero =>
    intro i y I c;let e:=h.nx i y c;rw[show(i+1)%(x::l).length=0 by simp[*]]at e
    rw[List.drop_of_length_le ∅]
    exact(Iw e).symm
   |succ k Q =>
    intro i y I c;let e:=h.nx i y c;rw[JH ∅]at e
    let G T:=HB.mp e;rw[List.drop_eq_getElem_cons G,T];exact#[U,Q (i+1) (f y) ∅ e]
  exact C l.length 0 x (by simp) U
theorem cV.part{f:Nat->Nat}(w:cV f N N rs):Part f N rs:=#[λr O=>(w.ring r O).cr,w.nd,w.all]
theorem tN{A:List Nat}{t:Nat}(h:t∉A):(A++t::B).idxOf t=A.length:=by
 rw[List.idxOf_append,NY h,List.idxOf_cons_self,K0]
theorem a9{A:List Nat}{t:Nat}(h:t∉A):nxt (A++t::B) t=((B++(A++t::B)).head?).getD 0:=by
 unfold nxt;rw[tN h]
 cases B with
 |nil =>
  let e:(A.length+1)%(A++[t]).length=0:=by simp
  rw[e,List.nil_append,List.head?_eq_getElem?]
 |cons b B =>
  let e:(A.length+1)%(A++t::b::B).length=A.length+1:=JH (by simp)
  simp_all
theorem BA{A:List Nat}{u:Nat}(h:u∉A):ins (A++u::B) ((A++u::B).idxOf u+1) n=A++u::n::B:=by
 rw[tN h];unfold ins;let C:(A++u::B).take (A.length+1)=A++[u]:=by grind
 simp[*]
theorem gq{u:Nat}(h:u∈l):∃ A B,l=A++u::B/\u∉A:=by
 induction l with
 |nil=>exact nomatch h
 |cons a l Q =>
  by_cases z:a=u
  .subst z;exact#[[],l,U,KC]
  .obtain y|y:=HQ.mp h
   .exact NZ y.symm z
   .let A B rfl k:=Q y;exact#[a::A,B,U,λw=>by simp_all]
theorem GJ{u:Nat}(f:u∈l)(N:n∉l):
  nxt (ins l (l.idxOf u+1) n) u=n/\nxt (ins l (l.idxOf u+1) n) n=nxt l u/\∀ t∈l,t≠u->nxt (ins l (l.idxOf u+1) n) t=nxt l t:=by
 let A B rfl k:=gq f;rw[BA k];let j:n∉A:=λz=>N (by simp[z])
 let m:n≠u:=λz=>N (by simp[z])
 refine#[?_,?_,λt i h=>?_]
 .rw[a9 k];rfl
 .let e:A++u::n::B=(A++[u])++n::B:=by simp
  rw[e,a9 (λz=>by obtain z|z:=HY.mp z;exact j z;exact m (by simpa using z)),a9 k]
  cases B<;>cases A<;>rfl
 .obtain z|z:=HY.mp i
  .let b d rfl G:=gq z;let C:(b++t::d)++u::n::B=b++t::(d++u::n::B):=by simp
   let T:(b++t::d)++u::B=b++t::(d++u::B):=by simp
   rw[C,T,a9 G,a9 G];simp
  .let c:t∈B:=by simp_all
   by_cases p:t∈A
   .let b d rfl G:=gq p;let C:(b++t::d)++u::n::B=b++t::(d++u::n::B):=by simp
    let T:(b++t::d)++u::B=b++t::(d++u::B):=by simp
    rw[C,T,a9 G,a9 G];simp
   .let o g rfl G:=gq c;let a:t≠n:=λy=>N (by grind)
    let C:A++u::n::(o++t::g)=(A++u::n::o)++t::g:=by simp
    let T:A++u::(o++t::g)=(A++u::o)++t::g:=by simp
    rw[C,T,a9 (by simp[p,h,a,G]),a9 (by simp[p,h,G])]
    cases g<;>cases A<;>rfl
theorem oe{es:En}{t p:Nat}(h:t<es.length):leave (es++[e]) t p=leave es t p:=by
 unfold leave;rw[HH h]
theorem tj{es:En}{p:Nat}:leave (es++[e]) es.length p=if e.1=p then 2*es.length else 2*es.length+1:=by
 unfold leave;rw[HG (HF _),Iq];rfl
theorem pA{es:En}{d:Nat}(h:d<2*es.length):hd (es++[e]) d=hd es d:=by
 unfold hd;rw[HH ∅]
theorem hd_new{es:En}:hd (es++[e]) (2*es.length)=e.2/\hd (es++[e]) (2*es.length+1)=e.1:=by
 let C:2*es.length/2=es.length:=by omega
 let T:(2*es.length+1)/2=es.length:=by omega
 constructor
 .unfold hd;simp
 .unfold hd;rw[T,HG (HF _),Iq];show(if(2*es.length+1)%2=0 then e.2 else e.1)=_;simp_all
theorem hd_inj{es:En}(w:bH m es ts){a b:Nat}(E:a<2*es.length)(L:b<2*es.length)(h:hd es a=hd es b)(h2:a/2=b/2):a=b:=by
 let C _ o D _:=w.at E;let T _ J t _:=w.at L;rw[h2,J]at o
 cases o
 let H:=(w.ends C (HC J)).2.2;rw[D,t]at h;lia
def bX(n:Nat)(e:Nat×Nat)(p:Nat):Nat:=if e.1=p then 2*n else 2*n+1
theorem fX{es:En}{d:Nat}(h:ts[hd es d]?=Z l):fol es ts d=leave es (nxt l (d/2)) (hd es d):=by
 unfold fol;rw[h];rfl
theorem bH.flip{es:En}{a b:Nat}(w:bH m (es++[(a,b)]) ts):bH m (es++[(b,a)]) ts:=by
 let C:∀(x y:Nat)(t p:Nat),(∃ e,(es++[(x,y)])[t]?=Z e/\(e.1=p∨e.2=p))->∃ e,(es++[(y,x)])[t]?=Z e/\(e.1=p∨e.2=p):=λx y t p=>by
  rintro⟨e,Y,B⟩;by_cases z:t<es.length
  .rw[HH z]at Y;exact#[e,by rw[HH z];exact Y,B]
  .let G:=(HB.mp Y).1
   rw[HJ,Ik]at G;let c:t=es.length:=by omega
   subst c;rw[HG (HF _),Iq]at Y
   cases Y
   exact#[(y,x),by rw[HG (HF _),Iq];rfl,B.symm]
 refine#[w.len,λe D=>?_,w.nd,λp l h t=>#[λz=>C a b t p ((w.mem p l h t).mp z),λz=>(w.mem p l h t).mpr (C b a t p z)]];obtain z|z:=HY.mp D
 .exact w.ends e (IU _ z)
 .let:e=(b,a):=by simpa using z
  subst this;let Y B J:=w.ends (a,b) (by simp)
  exact#[B,Y,λy=>J y.symm]
theorem bH.room{es:En}(w:bH m es ts):bH (m+1) es (ts++[[]]):=by
 refine#[by rw[HJ,w.len];rfl,λe D=>?_,λp l h=>?_,λp l h t=>?_]
 .let Y B J:=w.ends e D;omega
 all_goals by_cases z:p<ts.length
 .rw[HH z]at h;exact w.nd p l h
 .let G:=(HB.mp h).1
  simp_all
 .rw[HH z]at h;exact w.mem p l h t
 .let G:=(HB.mp h).1
  rw[HJ,Ik]at G;let c:p=ts.length:=by omega
  subst c;rw[HG (HF _),Iq]at h
  cases h
  refine#[(λy=>nomatch y),?_];rintro⟨e,Y,B⟩;let d r _:=w.ends e (HC Y);let:=w.len;omega
theorem Hf{es:En}(w:bH m es ts){p:Nat}(h:ts[p]?=Z l):es.length∉l:=λz=>by
 let x J _:=(w.mem p l h es.length).mp z;simp_all
theorem vO{es:En}{ts':List (List Nat)}{p u:Nat}(w:bH m es ts)(hl:ts[p]?=Z l)(f:u<2*es.length)(M:hd es u=p)(q:ts'[p]?=Z (ins l (l.idxOf (u/2)+1) es.length)):
  fol (es++[e]) ts' u=bX es.length e p/\(∀ b,b/2=es.length->hd (es++[e]) b=p->fol (es++[e]) ts' b=fol es ts u)/\∀ d,d<2*es.length->d≠u->hd es d=p->fol (es++[e]) ts' d=fol es ts d:=by
 let _ v _ _ _ _ g j:=w.at f;rw[M,hl]at g
 cases g
 let nn:=Hf w hl;let I A O:=GJ j nn;let lt:∀ t∈l,nxt l t<es.length:=λt i=>by
  let x J _:=(w.mem p l hl (nxt l t)).mp (HC (iC i));exact(HB.mp J).1
 refine#[?_,λb L k=>?_,λd h H c=>?_]
 .rw[fX (l:=ins l (l.idxOf (u/2)+1) es.length) (by rw[pA f,M];exact q),I,pA f,M,tj]
  rfl
 .rw[fX (l:=ins l (l.idxOf (u/2)+1) es.length) (by rw[k];exact q),L,A,k,oe (lt _ j),fX (l:=l) (by rw[M];exact hl),M]
 .let _ v _ _ _ _ r a:=w.at h;rw[c,hl]at r
  cases r
  let n:d/2≠u/2:=λz=>H (hd_inj w h f (c.trans M.symm) z);rw[fX (l:=ins l (l.idxOf (u/2)+1) es.length) (by rw[pA h,c];exact q),O _ a n,pA h,c,oe (lt _ a),fX (l:=l) (by rw[c];exact hl),c]
theorem yj{es:En}{ts':List (List Nat)}(w:bH m es ts){d:Nat}(c:d<2*es.length)(h:ts'[hd es d]?=ts[hd es d]?):fol (es++[e]) ts' d=fol es ts d:=by
 let _ l _ _ _ _ r a:=w.at c;let lt:nxt l (d/2)<es.length:=by
  let x J _:=(w.mem _ l r (nxt l (d/2))).mp (HC (iC a));exact(HB.mp J).1
 rw[fX (l:=l) (by rw[pA c,h];exact r),pA c,oe lt,fX r]
theorem cH(n:Nat)(e:Nat×Nat)(p:Nat):bX n e p/2=n:=by
 unfold bX;grind
theorem yq{es:En}{one two:Nat}(H:one≠two)(D:e=(one,two)∨e=(two,one)):hd (es++[e]) (bX es.length e one)=two/\hd (es++[e]) (bX es.length e two)=one/\bX es.length e one≠bX es.length e two/\∀ d,d<2*(es.length+1)->d<2*es.length∨d=bX es.length e one∨d=bX es.length e two:=by
 let Y B:=hd_new (es:=es) (e:=e);unfold bX;obtain D|D:=D
 .let c1:e.1=one:=by rw[D]
  lia
 .let c1:e.1=two:=by rw[D]
  let c2:¬ e.1=one:=by rw[D];exact λz=>H z.symm
  let c3:e.2=one:=by rw[D]
  rw[NX c1,NY c2,Y,B];lia
def par(S:Nat->Bool):List Nat->Bool
 |[]=>false
 |d::l=>S (d/2) ^^ par S l
theorem aF(S:Nat->Bool)(d:Nat)(l:List Nat):par S (d::l)=(S (d/2) ^^ par S l):=rfl
theorem qF(S:Nat->Bool):∀ a b:List Nat,par S (a++b)=(par S a ^^ par S b)
 |[],b=>by show par S b=(false ^^ par S b);simp_all
 |x::a,b=>by rw[JR,aF,aF,qF S a b,K5]
theorem qE(S:Nat->Bool){a b:List Nat}(p:a.Perm b):par S a=par S b:=by
 induction p with
 |nil=>rfl
 |cons x _ Q=>rw[aF,aF,Q]
 |swap x y l=>rw[aF,aF,aF,aF,← K5,← K5,Kq (S (y/2))]
 |trans _ _ a b=>exact a.trans b
theorem AU(S:Nat->Bool)(σ:Nat->Nat):∀ l:List Nat,par S (l.map λd=>2*σ (d/2)+d%2)=par (λt=>S (σ t)) l
 |[]=>rfl
 |d::l=>by
  rw[Il,aF,aF,AU S σ l,show(2*σ (d/2)+d%2)/2=σ (d/2) by omega]
def zP(es:En)(S Pl:Nat->Bool):Prop:=∀(t:Nat)(e:Nat×Nat),es[t]?=Z e->S t=(Pl e.1 ^^ Pl e.2)
theorem yr{es:En}{S:Nat->Bool}(h:zP es S Pl){d:Nat}(c:d<2*es.length):S (d/2)=(Pl (tl es d) ^^ Pl (hd es d)):=by
 let C:es[d/2]?=Z (es[d/2]'∅):=Hz _
 rw[h _ _ C];unfold tl hd;rw[C];show _=(Pl (if d%2=0 then es[d/2].1 else es[d/2].2) ^^ Pl (if d%2=0 then es[d/2].2 else es[d/2].1));split
 .rfl
 .exact Kq _ _
theorem rG{m:Nat}{es:En}{ts:List (List Nat)}{S Pl:Nat->Bool}(w:bH m es ts)(h:zP es S Pl):∀{x:Nat}{l:List Nat}{z:Nat},chain (fol es ts) x l z->x<2*es.length->(∀ t∈l,t<2*es.length)->z<2*es.length->par S (l++[z])=(Pl (hd es x) ^^ Pl (hd es z))
 |x,[],z,c,J,_,L=>by
  let _ _ _ _ _ _ _ _ _ _ k:=w.foll J;let D:fol es ts x=z:=c;rw[List.nil_append,aF,yr h L,← D,k];exact IS _
 |x,a::l,z,c,J,G,L=>by
  let _ _ _ _ _ _ _ _ _ _ k:=w.foll J;let E:=G a (HL ..);rw[JR,aF,rG w h c.2 E (λt i=>G t (HK _ i)) L,yr h E,← c.1,k];simp
structure Gr(m:Nat)(es:En)(ts:List (List Nat)):Prop where
 w:bH m es ts
 part:∃ rs,Part (fol es ts) (2*es.length) rs/\m+rs.length=es.length+2
 conn:∀ S:Nat->Prop,(∀ e∈es,S e.1↔S e.2)->∀ p q,p<m->q<m->S p->S q
 cut:∀ S:Nat->Bool,(∀ r,CR (fol es ts) (2*es.length) r->par S r=false)->∃ Pl:Nat->Bool,zP es S Pl
theorem CR.mono{f g:Nat->Nat}{r:List Nat}(h:CR f N r)(q:N<=M)(k:∀ t∈r,g t=f t):CR g M r:=by
 let x l rfl c:=h.ch;exact#[#[x,l,U,lB c (k x (HL ..)) λt i=>k t (HK _ i)],λd hd=>Iy (h.lt d hd) q,h.nd]
theorem EE{es:En}(c:∀ S:Nat->Prop,(∀ e∈es,S e.1↔S e.2)->∀ p q,p<m->q<m->S p->S q):∀ S:Nat->Prop,(∀ x∈es++[e],S x.1↔S x.2)->∀ p q,p<m->q<m->S p->S q :=
 λS h=>c S λx J=>h x (IU _ J)
theorem Gr.join{es:En}(g:Gr m es ts){right one two:Nat}{xs ys:List Nat}{rest:List (List Nat)}(hl:left<2*es.length)(O:CR (fol es ts) (2*es.length) (left::(xs++right::ys)))(am:chain (fol es ts) left (xs++right::ys) left)(j:right∈left::(xs++right::ys))(Y:hd es left=one)(h2:hd es right=two)(H:one≠two)(D:e=(one,two)∨e=(two,one))(e1:ts[one]?=Z l)(T:ts[two]?=Z l')(pr:Part (fol es ts) (2*es.length) ((left::(xs++right::ys))::rest)):
  Gr m (es++[e]) ((ts.set one (ins l (l.idxOf (left/2)+1) es.length)).set two (ins l' (l'.idxOf (right/2)+1) es.length)) /\
  Part (fol (es++[e]) ((ts.set one (ins l (l.idxOf (left/2)+1) es.length)).set two (ins l' (l'.idxOf (right/2)+1) es.length))) (2*(es++[e]).length) ((left::bX es.length e one::ys)::(right::bX es.length e two::xs)::rest):=by
 let w:=g.w;let a7:right<2*es.length:=O.lt right j;let v:=w.len;let o1:one<m:=by rw[← v];exact(HB.mp e1).1
 let o2:two<m:=by rw[← v];exact(HB.mp T).1
 let W:bH m (es++[e]) ((ts.set one (ins l (l.idxOf (left/2)+1) es.length)).set two (ins l' (l'.idxOf (right/2)+1) es.length)):=by
  obtain rfl|rfl:=D
  .exact w.put o1 o2 H e1 T
  .exact(w.put o1 o2 H e1 T).flip
 let o:((ts.set one (ins l (l.idxOf (left/2)+1) es.length)).set two (ins l' (l'.idxOf (right/2)+1) es.length))[one]?=Z (ins l (l.idxOf (left/2)+1) es.length):=by
  rw[IQ,NY (λz=>H z.symm),IQ,NX U,NX (by rw[v];exact o1)]
 let G:((ts.set one (ins l (l.idxOf (left/2)+1) es.length)).set two (ins l' (l'.idxOf (right/2)+1) es.length))[two]?=Z (ins l' (l'.idxOf (right/2)+1) es.length):=by simp[*]
 let r3:∀ p,p≠one->p≠two->((ts.set one (ins l (l.idxOf (left/2)+1) es.length)).set two (ins l' (l'.idxOf (right/2)+1) es.length))[p]?=ts[p]?:=λp n1 n2=>by
  rw[IQ,NY (λz=>n2 z.symm),IQ,NY (λz=>n1 z.symm)]
 generalize (ts.set one (ins l (l.idxOf (left/2)+1) es.length)).set two (ins l' (l'.idxOf (right/2)+1) es.length)=ts' at W o G r3;let A s a3:=vO (e:=e) w e1 hl Y o;let b1 b2 b3:=vO (e:=e) w T a7 h2 G;let d1 d2 d3 d4:=yq (es:=es) H D;let fa:=b2 _ (cH _ _ _) d1;let fb:=s _ (cH _ _ _) d2;let aS:∀ d,d<2*es.length->d≠left->d≠right->fol (es++[e]) ts' d=fol es ts d:=λd h n1 n2=>by
  by_cases N:hd es d=one
  .exact a3 d h n1 N
  .by_cases M:hd es d=two
   .exact b3 d h n2 M
   .exact yj w h (r3 _ N M)
 generalize E:bX es.length e one=α at *;generalize L:bX es.length e two=β at *;let ba:α/2=es.length:=by rw[← E];exact cH _ _ _
 let bb:β/2=es.length:=by rw[← L];exact cH _ _ _
 let be:right≠left:=λz=>H (by simp_all)
 let c1 c2:=dj.mp am;let nd:=O.nd;let an:∀ t∈xs,t<2*es.length/\t≠left/\t≠right:=λt i=>by
  refine#[O.lt t (by simp[i]),λz=>?_,λz=>?_]
  .simp_all
  .grind
 let ap:∀ t∈ys,t<2*es.length/\t≠left/\t≠right:=λt i=>by
  refine#[O.lt t (by simp[i]),λz=>?_,λz=>?_]
  .simp_all
  .grind
 let I p cnt:=g.part;let a5:=p.same pr;let aW:=pr.nd;rw[Jb]at aW;let _ a4 aT:=Iu.mp aW;let a0:∀ t∈rest.flatten,t<2*es.length/\t≠left/\t≠right:=λt i=>by
  let q k n:=IW.mp i;exact#[(pr.cr q (HK _ k)).lt t n,λz=>aT left (by simp) t i z.symm,λz=>aT right (by simp) t i z.symm]
 let ab:(es++[e]).length=es.length+1:=by rw[HJ];rfl
 let PP:Part (fol (es++[e]) ts') (2*(es++[e]).length) ((left::α::ys)::(right::β::xs)::rest):=by
  refine#[λq C=>?_,?_,λd h=>?_]
  .obtain z|z:=HQ.mp C
   .subst z;refine#[#[left,α::ys,U,A,lB c2 fa λt i=>aS t (ap t i).1 (ap t i).2.1 (ap t i).2.2],λd h=>?_,?_]
    .rw[ab];simp only[HQ]at h;obtain y|y|y:=h
     .omega
     .omega
     .let:=(ap d y).1;omega
    .refine HS.mpr #[λy=>?_,HS.mpr #[λy=>?_,?_]]
     .obtain y|y:=HQ.mp y
      .omega
      .exact(ap _ y).2.1 U
     .let:=(ap _ y).1;omega
     .exact(HS.mp (Iu.mp (HS.mp nd).2).2.1).2
   .obtain z|z:=HQ.mp z
    .subst z;refine#[#[right,β::xs,U,b1,lB c1 fb λt i=>aS t (an t i).1 (an t i).2.1 (an t i).2.2],λd h=>?_,?_]
     .rw[ab];simp only[HQ]at h;obtain y|y|y:=h
      .omega
      .omega
      .let:=(an d y).1;omega
     .refine HS.mpr #[λy=>?_,HS.mpr #[λy=>?_,?_]]
      .obtain y|y:=HQ.mp y
       .omega
       .exact(an _ y).2.2 U
      .let:=(an _ y).1;omega
      .exact(Iu.mp (HS.mp nd).2).1
    .refine(pr.cr q (HK _ z)).mono (by rw[ab];omega) λt i=>?_
     let k1 k2 k3:=a0 t (IW.mpr #[q,z,i]);exact aS t k1 k2 k3
  .let bf:∀ x∈xs,∀ y∈ys,x≠y:=λx J y Q=>(Iu.mp (HS.mp nd).2).2.2 x J y (by simp[Q])
   rw[Jb,Jb];refine Iu.mpr #[?_,Iu.mpr #[?_,a4,λa E b L=>?_],λa E b L=>?_]
   .refine HS.mpr #[λy=>?_,HS.mpr #[λy=>?_,(HS.mp (Iu.mp (HS.mp nd).2).2.1).2]]
    .obtain y|y:=HQ.mp y
     .omega
     .exact(ap _ y).2.1 U
    .let:=(ap _ y).1;omega
   .refine HS.mpr #[λy=>?_,HS.mpr #[λy=>?_,(Iu.mp (HS.mp nd).2).1]]
    .obtain y|y:=HQ.mp y
     .omega
     .exact(an _ y).2.2 U
    .let:=(an _ y).1;omega
   .let k1 k2 k3:=a0 b L;simp only[HQ]at E;obtain y|y|y:=E
    .exact λz=>k3 (z▸y)
    .omega
    .exact aT a (by simp[y]) b L
   .simp only[HQ,HY]at E L;rcases L with(y|y|y)|y
    .obtain z|z|z:=E
     .exact λu=>be (by rw[← y,← u,z])
     .let:=a7;omega
     .exact λu=>(ap a z).2.2 (u.trans y)
    .obtain z|z|z:=E
     .omega
     .omega
     .let:=(ap a z).1;omega
    .obtain z|z|z:=E
     .exact λu=>(an b y).2.1 (u▸z)
     .let:=(an b y).1;omega
     .exact λu=>bf b y a z u.symm
    .let k1 k2 k3:=a0 b y;obtain z|z|z:=E
     .exact λu=>k2 (u▸z)
     .omega
     .exact aT a (by simp[z]) b y
  .rw[ab]at h;simp only[Jb,HY,HQ];obtain y|y|y:=d4 d h
   .let:=pr.all d y
    simp only[Jb,HY,HQ]at this;rcases this with(z|z|z|z)|z
    .exact .inl (.inl z)
    .exact .inr (.inl (.inr (.inr z)))
    .exact .inr (.inl (.inl z))
    .exact .inl (.inr (.inr z))
    .exact .inr (.inr z)
   .exact .inl (.inr (.inl y))
   .exact .inr (.inl (.inr (.inl y)))
 refine#[#[W,#[_,PP,by rw[ab];simp only[IM]at a5 ⊢;omega],EE g.conn,λS ev=>?_],PP]
 let e1:=ev _ (PP.cr _ (HL ..));let T:=ev _ (PP.cr _ (HK _ (HL ..)));rw[aF,aF,ba]at e1;rw[aF,aF,bb]at T;let lr:left∈left::(xs++right::ys):=HL ..;let rr:right∈left::(xs++right::ys):=by simp
 let B:∀ r,CR (fol es ts) (2*es.length) r->par S r=false:=λr aa=>by
  by_cases ac:left∈r
  .let pm:r.Perm (left::(xs++right::ys)):=(Jp aa.nd O.nd).mpr λt=>#[aa.same O ac lr t,O.same aa lr ac t]
   rw[qE S pm,aF,qF,aF];revert e1 T;generalize S (left/2)=a;generalize S (right/2)=b;generalize S es.length=c;generalize par S xs=d;generalize par S ys=f
   cases a<;>cases b<;>cases c<;>cases d<;>cases f<;>decide
  .refine ev r (aa.mono (by rw[ab];omega) λt i=>aS t (aa.lt t i) (λz=>ac (z▸i)) λz=>ac (O.same aa rr (z▸i) left lr))
 let Pl hP:=g.cut S B;refine#[Pl,λt x J=>?_];by_cases i:t<es.length
 .rw[HH i]at J;exact hP t x J
 .let aI:t=es.length:=by
   let:=(HB.mp J).1;rw[ab]at this;omega
  subst aI;rw[HG (HF _),Iq]at J;let al:e=x:=Iw J;subst al;let tw:=rG w hP c1 hl (λt i=>(an t i).1) a7;rw[Y,h2,qF,aF]at tw;let a6:S es.length=(Pl one ^^ Pl two):=by
   rw[← tw];revert T;show _->S es.length=(par S xs ^^ (S (right/2) ^^ false));generalize S (right/2)=b;generalize S es.length=c;generalize par S xs=d
   cases b<;>cases c<;>cases d<;>decide
  obtain z|z:=D
  .rw[z];exact a6
  .rw[z];exact a6.trans (Kq _ _)
theorem Gr.leaf{es:En}(g:Gr m es ts){one:Nat}{rest:List (List Nat)}(hl:left<2*es.length)(O:CR (fol es ts) (2*es.length) (left::B))(am:chain (fol es ts) left B left)(Y:hd es left=one)(D:e=(one,m)∨e=(m,one))(e1:ts[one]?=Z l)(pr:Part (fol es ts) (2*es.length) ((left::B)::rest)):
  Gr (m+1) (es++[e]) (ts.set one (ins l (l.idxOf (left/2)+1) es.length)++[[es.length]]) /\
  Part (fol (es++[e]) (ts.set one (ins l (l.idxOf (left/2)+1) es.length)++[[es.length]])) (2*(es++[e]).length) ((left::bX es.length e one::bX es.length e m::B)::rest):=by
 let w:=g.w;let v:=w.len;let o1:one<m:=by rw[← v];exact(HB.mp e1).1
 let H:one≠m:=by omega
 let W:bH (m+1) (es++[e]) (ts.set one (ins l (l.idxOf (left/2)+1) es.length)++[[es.length]]):=by
  let q:=w.room.put (one:=one) (two:=m) (k:=l.idxOf (left/2)+1) (j:=0) (l:=l) (l':=[]) ∅ ∅ H (by rw[HH ∅];exact e1) (by rw[HG ∅,v,Iq];rfl)
  let n:((ts++[[]]).set one (ins l (l.idxOf (left/2)+1) es.length)).set m (ins [] 0 es.length)=ts.set one (ins l (l.idxOf (left/2)+1) es.length)++[[es.length]]:=by
   rw[List.set_append_left _ _ ∅,List.set_append_right _ _ (by rw[IV];omega),IV,v,Iq]
   rfl
  rw[n]at q;obtain rfl|rfl:=D
  .exact q
  .exact q.flip
 let o:(ts.set one (ins l (l.idxOf (left/2)+1) es.length)++[[es.length]])[one]?=Z (ins l (l.idxOf (left/2)+1) es.length):=by
  rw[HH (by rw[IV];omega),IQ,NX U,NX ∅]
 let f:(ts.set one (ins l (l.idxOf (left/2)+1) es.length)++[[es.length]])[m]?=Z [es.length]:=by
  rw[HG (by simp[*]),IV,v,Iq]
  rfl
 let r3:∀ p,p≠one->p<m->(ts.set one (ins l (l.idxOf (left/2)+1) es.length)++[[es.length]])[p]?=ts[p]?:=λp n1 n2=>by
  rw[HH (by rw[IV];omega),IQ,NY (λz=>n1 z.symm)]
 generalize ts.set one (ins l (l.idxOf (left/2)+1) es.length)++[[es.length]]=ts' at W o f r3;let A s a3:=vO (e:=e) w e1 hl Y o;let d1 d2 d3 d4:=yq (es:=es) H D;let fb:=s _ (cH _ _ _) d2;let fa:fol (es++[e]) ts' (bX es.length e one)=bX es.length e m:=by
  rw[fX (l:=[es.length]) (by rw[d1];exact f),cH,d1]
  let:nxt [es.length] es.length=es.length:=by
   unfold nxt;rw[List.idxOf_cons_self];simp
  rw[this,tj];rfl
 let ap:∀ d,d<2*es.length->d≠left->fol (es++[e]) ts' d=fol es ts d:=λd h n1=>by
  by_cases N:hd es d=one
  .exact a3 d h n1 N
  .let _ _ _ _ _ k4 _:=w.at h;exact yj w h (r3 _ N k4)
 generalize E:bX es.length e one=α at *;generalize L:bX es.length e m=β at *;let a6:α/2=es.length:=by rw[← E];exact cH _ _ _
 let a7:β/2=es.length:=by rw[← L];exact cH _ _ _
 let nd:=O.nd;let aW:∀ t∈B,t<2*es.length/\t≠left:=λt i=>#[O.lt t (by simp[i]),λz=>(HS.mp nd).1 (z▸i)]
 let I p cnt:=g.part;let a4:=p.same pr;let aS:=pr.nd;rw[Jb]at aS;let _ a0 aI:=Iu.mp aS;let aT:∀ t∈rest.flatten,t<2*es.length/\t≠left:=λt i=>by
  let q G n:=IW.mp i;exact#[(pr.cr q (HK _ G)).lt t n,λz=>aI left (by simp) t i z.symm]
 let ab:(es++[e]).length=es.length+1:=by rw[HJ];rfl
 let ba:(left::α::β::B).Nodup:=by
  refine HS.mpr #[λy=>?_,HS.mpr #[λy=>?_,HS.mpr #[λy=>?_,(HS.mp nd).2]]]
  .simp only[HQ]at y;obtain y|y|y:=y
   .omega
   .omega
   .exact(aW _ y).2 U
  .simp only[HQ]at y;obtain y|y:=y
   .exact d3 y
   .let:=(aW _ y).1;omega
  .let:=(aW _ y).1;omega
 let PP:Part (fol (es++[e]) ts') (2*(es++[e]).length) ((left::α::β::B)::rest):=by
  refine#[λq C=>?_,?_,λd h=>?_]
  .obtain z|z:=HQ.mp C
   .subst z;refine#[#[left,α::β::B,U,A,fa,lB am fb λt i=>ap t (aW t i).1 (aW t i).2],λd h=>?_,ba];rw[ab];simp only[HQ]at h;obtain y|y|y|y:=h
    .omega
    .omega
    .omega
    .let:=(aW d y).1;omega
   .refine(pr.cr q (HK _ z)).mono (by rw[ab];omega) λt i=>?_
    let k1 k2:=aT t (IW.mpr #[q,z,i]);exact ap t k1 k2
  .rw[Jb];refine Iu.mpr #[ba,a0,λa E b L=>?_];let k1 k2:=aT b L;simp only[HQ]at E;obtain y|y|y|y:=E
   .exact λu=>k2 (u▸y)
   .omega
   .omega
   .exact aI a (by simp[y]) b L
  .rw[ab]at h;simp only[Jb,HY,HQ];obtain y|y|y:=d4 d h
   .let:=pr.all d y
    simp only[Jb,HY,HQ]at this;rcases this with(z|z)|z
    .exact .inl (.inl z)
    .exact .inl (.inr (.inr (.inr z)))
    .exact .inr z
   .exact .inl (.inr (.inl y))
   .exact .inl (.inr (.inr (.inl y)))
 refine#[#[W,#[_,PP,by rw[ab];simp only[IM]at a4 ⊢;omega],λS M x y J Q sx=>?_,λS ev=>?_],PP]
 .skip
  let bb:S one↔S m:=by
   let:=M e (by simp)
   obtain rfl|rfl:=D
   .exact this
   .exact this.symm
  let T:=g.conn S λx J=>M x (IU _ J);let a5:S one:=by
   by_cases z:x<m
   .exact T x one z o1 sx
   .let:x=m:=by omega
    subst this;exact bb.mpr sx
  by_cases z:y<m
  .exact T one y o1 z a5
  .let:y=m:=by omega
   subst this;exact bb.mp a5
 .let e1:=ev _ (PP.cr _ (HL ..))
  rw[aF,aF,aF,a6,a7]at e1;let T:∀ r,CR (fol es ts) (2*es.length) r->par S r=false:=λr aa=>by
   by_cases ac:left∈r
   .let pm:r.Perm (left::B):=(Jp aa.nd O.nd).mpr λt=>#[aa.same O ac (HL ..) t,O.same aa (HL ..) ac t]
    rw[qE S pm,aF];revert e1;generalize S (left/2)=a;generalize S es.length=c;generalize par S B=d
    cases a<;>cases c<;>cases d<;>decide
   .exact ev r (aa.mono (by rw[ab];omega) λt i=>ap t (aa.lt t i) λz=>ac (z▸i))
  let Pl hP:=g.cut S T;refine#[λp=>if p=m then(Pl one ^^ S es.length) else Pl p,λt x J=>?_];by_cases i:t<es.length
  .rw[HH i]at J;let b1 b2 _:=w.ends x (HC J);show S t=((if x.1=m then _ else Pl x.1) ^^ (if x.2=m then _ else Pl x.2));rw[NY ∅,NY ∅]
   exact hP t x J
  .let an:t=es.length:=by
    let:=(HB.mp J).1;rw[ab]at this;omega
   subst an;rw[HG (HF _),Iq]at J;let al:e=x:=Iw J;subst al;obtain z|z:=D
   .rw[z];show S es.length=((if one=m then _ else Pl one) ^^ (if m=m then(Pl one ^^ S es.length) else _));rw[NY H,NX U]
    cases Pl one<;>cases S es.length<;>rfl
   .rw[z];show S es.length=((if m=m then(Pl one ^^ S es.length) else _) ^^ (if one=m then _ else Pl one));rw[NY H,NX U]
    cases Pl one<;>cases S es.length<;>rfl
theorem gr_two:Gr 2 [(0,1)] [[0],[0]]:=by
 let W:bH 2 [(0,1)] [[0],[0]]:=by
  refine#[U,λe D=>?_,λp l h=>?_,λp l h t=>?_]
  .let:e=(0,1):=by simpa using D
   simp_all
  .match p,h with
   |0,h=>cases h;decide
   |1,h=>cases h;decide
   |p+2,h=>cases h
  .let m:(∃ e,([(0,1)]:En)[t]?=Z e/\(e.1=p∨e.2=p))↔t=0/\(p=0∨p=1):=by
    constructor
    .rintro⟨e,Y,B⟩;match t,Y with
     |0,Y=>cases Y;exact#[U,B.imp Eq.symm Eq.symm]
     |t+1,Y=>cases Y
    .rintro⟨rfl,B⟩;exact#[(0,1),U,B.imp Eq.symm Eq.symm]
   rw[m];match p,h with
   |0,h=>cases h;simp
   |1,h=>cases h;simp
   |p+2,h=>cases h
 refine#[W,#[[[0,1]],#[λr O=>?_,∅,λd hd=>?_],U],λS v p q M C w=>?_,λS N=>?_]
 .let:r=[0,1]:=by simpa using O
  subst this;exact#[#[0,[1],U,∅,(by show fol [(0,1)] [[0],[0]] 1=0;decide)],λd hd=>by simp at hd ⊢;omega,by decide]
 .let G:d<2:=hd
  simp;omega
 .let:=v (0,1) (by simp)
  let a:S 0↔S 1:=this;let b:p=0∨p=1:=by omega
  let n:q=0∨q=1:=by omega
  obtain rfl|rfl:=b<;>obtain rfl|rfl:=n
  .exact w
  .exact a.mp w
  .exact a.mpr w
  .exact w
 .refine#[λp=>if p=1 then S 0 else false,λt x J=>?_];match t,J with
  |0,J =>
   cases J
   show S 0=((if(0:Nat)=1 then S 0 else false) ^^ (if(1:Nat)=1 then S 0 else false));simp
  |t+1,J=>cases J
structure Bij(F:Nat->Nat)(n:Nat):Prop where
 lt:∀ k,k<n->F k<n
 inj:∀ a b,a<n->b<n->F a=F b->a=b
 sur:∀ y,y<n->∃ k,k<n/\F k=y
def ofL(o:List Nat)(k:Nat):Nat:=(o[k]?).getD 0
theorem yy{o:List Nat}(hl:o.length=n)(nd:o.Nodup)(h:∀ x∈o,x<n):Bij (ofL o) n:=by
 let get:∀ k,k<n->o[k]?=Z (ofL o k):=λk f=>by
  unfold ofL;simp[*]
 refine#[λk f=>h _ (HC (get k f)),λa b E L e=>x9 nd (get a E) (by rw[get b L,e]),λy Q=>?_]
 let j:y∈o:=by
  by_cases z:y∈o
  .exact z
  .let:=cZ (a:=y::o) (N:=n) (HS.mpr #[z,nd]) λx J=>by
    obtain u|u:=HQ.mp J
    .omega
    .exact h x u
   grind
 let k f:=IJ.mp j;let c:=(HB.mp f).1;refine#[k,∅,?_]
 simp_all
theorem sW{F:Nat->Nat}:∀{l:List Nat},l.Nodup->(∀ x∈l,∀ y∈l,F x=F y->x=y)->(l.map F).Nodup
 |[],_,_=>JF
 |a::l,G,h=>by
  let I A:=HS.mp G;refine HS.mpr #[λz=>?_,sW A λx J y Q=>h x (HK _ J) y (HK _ Q)];let x J e:=Im.mp z;let:=h x (HK _ J) a (HL ..) e;exact I (this▸J)
theorem GH{F:Nat->Nat}{t:Nat}(i:t∈l)(h:∀ x∈l,F x=F t->x=t):nxt (l.map F) (F t)=F (nxt l t):=by
 let A B rfl k:=gq i;let G:F t∉A.map F:=λz=>by
  grind
 rw[HW,Il,a9 G,a9 k];simp
theorem GG{X Y:List Nat}{t:Nat}(nd:(X++Y).Nodup)(i:t∈X++Y):nxt (Y++X) t=nxt (X++Y) t:=by
 let I a O:=Iu.mp nd;obtain z|z:=HY.mp i
 .let b:t∉Y:=λy=>O t z t y U
  let A B rfl k:=gq z;let C:Y++(A++t::B)=(Y++A)++t::B:=by simp
  let T:(A++t::B)++Y=A++t::(B++Y):=by simp
  rw[C,T,a9 (by simp[b,k]),a9 k]
  cases B<;>cases Y<;>cases A<;>rfl
 .let c:t∉X:=λy=>O t y t z U
  let A B rfl k:=gq z;let C:(A++t::B)++X=A++t::(B++X):=by simp
  let T:X++(A++t::B)=(X++A)++t::B:=by simp
  rw[C,T,a9 k,a9 (by simp[c,k])]
  cases B<;>cases X<;>cases A<;>rfl
structure Ren(m:Nat)(es es2:En)(ts ts2:List (List Nat))(π σ:Nat->Nat):Prop where
 pi:Bij π m
 si:Bij σ es.length
 l1:es2.length=es.length
 l2:ts2.length=m
 es:∀(k:Nat)(e:Nat×Nat),es[k]?=Z e->es2[σ k]?=Z (π e.1,π e.2)
 ts:∀(p:Nat)(l:List Nat),ts[p]?=Z l->∃ X Y,l=X++Y/\ts2[π p]?=Z ((Y++X).map σ)
section
variable{m:Nat}{es es2:En}{ts ts2:List (List Nat)}{π σ:Nat->Nat}
theorem Ren.es'(R:Ren m es es2 ts ts2 π σ){x:Nat×Nat}(h:es2[j]?=Z x):∃ k e,σ k=j/\es[k]?=Z e/\x=(π e.1,π e.2):=by
 let O:=(HB.mp h).1;rw[R.l1]at O;let k f rfl:=R.si.sur j O;let C:es[k]?=Z es[k]:=Hz f;let:=R.es k _ C;rw[h]at this;exact#[k,_,U,C,Iw this]
theorem Ren.ts'(R:Ren m es es2 ts ts2 π σ)(w:bH m es ts){L:List Nat}(h:ts2[j]?=Z L):∃ p l X Y,p<m/\π p=j/\ts[p]?=Z l/\l=X++Y/\L=(Y++X).map σ:=by
 let O:=(HB.mp h).1;rw[R.l2]at O;let p M rfl:=R.pi.sur j O;let C:ts[p]?=Z (ts[p]'(by rw[w.len];exact M)):=Hz _
 let X Y i B:=R.ts p _ C;rw[h]at B;exact#[p,_,X,Y,M,U,C,i,Iw B]
theorem mG(w:bH m es ts){p:Nat}(h:ts[p]?=Z l){t:Nat}(i:t∈l):t<es.length:=by
 let x J _:=(w.mem p l h t).mp i;exact(HB.mp J).1
theorem Ren.turn(R:Ren m es es2 ts ts2 π σ)(w:bH m es ts):bH m es2 ts2:=by
 refine#[R.l2,λx J=>?_,λj L h=>?_,λj L h t=>?_]
 .let j O:=IJ.mp J;let k e _ i rfl:=R.es' O;let g s C:=w.ends e (HC i);exact#[R.pi.lt _ g,R.pi.lt _ s,λz=>C (R.pi.inj _ _ g s z)]
 .let p l X Y M rfl i rfl rfl:=R.ts' w h;let G:=w.nd p _ i;let I A n:=Iu.mp G;refine sW (Iu.mpr #[A,I,λa E b v z=>n b v a E z.symm]) λx J y Q=>R.si.inj x y (mG w i ?_) (mG w i ?_)
  .simp only[HY]at J ⊢;exact J.symm
  .simp only[HY]at Q ⊢;exact Q.symm
 .let p l X Y M rfl i rfl rfl:=R.ts' w h;constructor
  .intro z;let k f rfl:=Im.mp z;let e B H:=(w.mem p _ i k).mp (by simp only[HY]at f ⊢;exact f.symm)
   exact#[_,R.es k e B,H.imp (congrArg π) (congrArg π)]
  .rintro⟨x,B,H⟩;let k e rfl u rfl:=R.es' B;let g s C:=w.ends e (HC u);let f:=(w.mem p _ i k).mpr #[e,u,H.imp (R.pi.inj _ _ g M) (R.pi.inj _ _ s M)];exact Im.mpr #[k,by simp only[HY]at f ⊢;exact f.symm,U]
def Phi(σ:Nat->Nat)(d:Nat):Nat:=2*σ (d/2)+d%2
theorem nG(d:Nat):Phi σ d/2=σ (d/2):=by unfold Phi;omega
theorem Ren.hd(R:Ren m es es2 ts ts2 π σ){d:Nat}(h:d<2*es.length):hd es2 (Phi σ d)=π (hd es d):=by
 let C:es[d/2]?=Z (es[d/2]'∅):=Hz _
 let T:=R.es _ _ C;unfold K8.hd;rw[nG,C,T];let y:Phi σ d%2=d%2:=by unfold Phi;omega
 grind
theorem Ren.fol(R:Ren m es es2 ts ts2 π σ)(w:bH m es ts){d:Nat}(h:d<2*es.length):fol es2 ts2 (Phi σ d)=Phi σ (fol es ts d):=by
 let _ l _ _ _ p r a:=w.at h;let X Y rfl B:=R.ts _ _ r;let G:=w.nd _ _ r;rw[fX (l:=(Y++X).map σ) (by rw[R.hd h];exact B),fX r,nG,R.hd h]
 let b:d/2∈Y++X:=by simp only[HY]at a ⊢;exact a.symm
 rw[GH b λx J=>R.si.inj x _ (mG w r (by grind)) (mG w r a),GG G a]
 let N:=HC (iC a);let L:=mG w r N;generalize nxt (X++Y) (d/2)=t at L;let C:es[t]?=Z es[t]:=Hz L;let g:=(w.ends _ (HC C)).1;unfold leave;rw[R.es _ _ C,C];show(if π es[t].1=π (K8.hd es d) then 2*σ t else 2*σ t+1)=Phi σ (if es[t].1=K8.hd es d then 2*t else 2*t+1);by_cases z:es[t].1=K8.hd es d
 .rw[NX z,NX (congrArg π z)];unfold Phi;simp
 .rw[NY z,NY (λy=>z (R.pi.inj _ _ g p y))];unfold Phi;grind
theorem xx(b:Bij σ es.length){x y:Nat}(J:x<2*es.length)(Q:y<2*es.length)(e:Phi σ x=Phi σ y):x=y:=by
 let C:σ (x/2)=σ (y/2):=by
  let Y:=nG (σ:=σ) x;let B:=nG (σ:=σ) y;rw[e]at Y;exact Y.symm.trans B
 let:=b.inj _ _ ∅ ∅ C
 unfold Phi at e;omega
theorem Ren.gr(R:Ren m es es2 ts ts2 π σ)(g:Gr m es ts):Gr m es2 ts2:=by
 let v p cnt:=g.part;let flt:∀ d∈v.flatten,d<2*es.length:=λd hd=>by
  let r Y B:=IW.mp hd;exact(p.cr r Y).lt d B
 let aa:(v.map (List.map (Phi σ))).flatten=v.flatten.map (Phi σ):=List.map_flatten.symm;refine#[R.turn g.w,#[v.map (List.map (Phi σ)),#[λq C=>?_,?_,λd hd=>?_],by rw[HD,R.l1];exact cnt],λS h x y J Q sx=>?_,λS N=>?_]
 .let r O rfl:=Im.mp C;let c:=p.cr r O;let x l rfl G:=c.ch;refine#[#[Phi σ x,l.map (Phi σ),U,oG G λt i=>R.fol g.w (c.lt t i)],λd hd=>?_,sW c.nd λa E b L=>xx R.si (c.lt a E) (c.lt b L)];let t i rfl:=Im.mp hd;let Y:=c.lt t i;let B:=R.si.lt (t/2) ∅
  rw[R.l1];unfold Phi;omega
 .rw[aa];exact sW p.nd λa E b L=>xx R.si (flt a E) (flt b L)
 .rw[R.l1]at hd;let k f e:=R.si.sur (d/2) ∅
  rw[aa];refine Im.mpr #[2*k+d%2,p.all _ ∅,?_]
  unfold Phi;rw[show(2*k+d%2)/2=k by omega,e]
  omega
 .let u H rfl:=R.pi.sur x J;let I A rfl:=R.pi.sur y Q;refine g.conn (λp=>S (π p)) (λe D=>?_) u I H A sx;let k f:=IJ.mp D;exact h (π e.1,π e.2) (HC (R.es k e f))
 .let n T:=g.cut (λt=>S (σ t)) λr O=>by
   rw[← AU S σ r];refine N _ ?_;let x l rfl G:=O.ch;refine#[#[Phi σ x,l.map (Phi σ),U,oG G λt i=>R.fol g.w (O.lt t i)],λd hd=>?_,sW O.nd λa E b L=>xx R.si (O.lt a E) (O.lt b L)];let t i rfl:=Im.mp hd;let Y:=O.lt t i;let B:=R.si.lt (t/2) ∅
   rw[R.l1];omega
  let s:∀ p,p<m->((IG m).find? λq=>decide (π q=π p))=Z p:=λp M=>by
   cases z:(IG m).find? λq=>decide (π q=π p) with
   |none=>exact NZ (Ni U) (List.find?_eq_none.mp z p (Ja.mpr M))
   |some q =>
    let o:=List.find?_some z;let Y:π q=π p:=NO o;rw[R.pi.inj q p (Ja.mp (List.mem_of_find?_eq_some z)) M Y]
  refine#[λy=>n (((IG m).find? λq=>decide (π q=y)).getD 0),λj x J=>?_];let k e rfl Y rfl:=R.es' J;let b1 b2 _:=g.w.ends e (HC Y);show S (σ k)=(n (((IG m).find? λq=>decide (π q=π e.1)).getD 0) ^^ n (((IG m).find? λq=>decide (π q=π e.2)).getD 0));rw[s _ b1,s _ b2];exact T k e Y
end
end K8
variable{es:K8.En}
namespace K8
open PySem L2
def top(i:Nat):Stmt:=PySem.Challenge.pw_spinfloor_k38_whole_what_a_paper_leaves.main.body.getD i (.Pass #[0,0,0,0])
abbrev kH:Stmt:=top 14
abbrev kG:Stmt:=top 16
abbrev qm:Stmt:=top 35
abbrev qo:Stmt:=top 36
abbrev iu:Stmt:=top 37
abbrev gy:Stmt:=top 38
abbrev jI:Stmt:=top 39
abbrev lR:Stmt:=top 45
abbrev lQ:Stmt:=top 48
abbrev uX:Stmt:=top 49
abbrev iq:Stmt:=top 51
abbrev cC:Stmt:=oo (top 53) 0
abbrev eM:Stmt:=oo (top 53) 1
abbrev cA:Stmt:=oo (top 53) 5
abbrev c9:Stmt:=oo (top 55) 0
abbrev AB:Stmt:=top 57
abbrev nO:Stmt:=top 58
abbrev lY:Stmt:=top 59
abbrev ir:Stmt:=top 60
abbrev jH:Stmt:=top 61
abbrev lP:Stmt:=top 62
abbrev gz:Stmt:=top 64
abbrev fQ:Stmt:=top 65
abbrev eR:Stmt:=top 66
abbrev cz:Stmt:=oo (top 67) 0
abbrev lX:Stmt:=top 69
abbrev lV:Stmt:=top 70
abbrev nQ:Stmt:=top 71
abbrev lT:Stmt:=top 72
abbrev jQ:Stmt:=top 73
abbrev jM:Stmt:=top 74
abbrev d6:Stmt:=top 75
abbrev jO:Stmt:=top 76
abbrev nP:Stmt:=top 77
abbrev jJ:Stmt:=top 78
abbrev jR:Stmt:=top 79
abbrev iw:Stmt:=top 80
abbrev jL:Stmt:=top 81
abbrev jK:Stmt:=top 82
abbrev lU:Stmt:=top 83
abbrev qp:Stmt:=top 84
def tf(a b s:Int):List (Str×V):=putF "strength" (.int s) (putF "two" (.int b) (putF "one" (.int a) []))
theorem nJ(a b s:Int):(tf a b s).lookup ("one" : Str)=Z (.int a):=by
 rfl
theorem rZ(a b s:Int):(tf a b s).lookup ("two" : Str)=Z (.int b):=by
 rfl
theorem tf_str(a b s:Int):(tf a b s).lookup ("strength" : Str)=Z (.int s):=by
 rfl
theorem yE(a b s:Int){m:Str}(Y:¬ m = "strength")(h2:¬ m = "two")(J:¬ m = "one"):(tf a b s).lookup m=none:=by
 unfold tf;rw[aK,NY Y,aK,NY h2,aK,NY J];simp_all
theorem f1_len(a:Int):(putF "one" (.int a) []).length<1000:=by show 1<1000;decide
theorem f2_len(a b:Int):(putF "two" (.int b) (putF "one" (.int a) [])).length<1000:=by
 let e:(putF "two" (.int b) (putF "one" (.int a) []):List (Str×V))=([("one",.int a),("two",.int b)]:List (Str×V)):=by rfl
 rw[e];show 2<1000;decide
structure CT(K:HE)(C:Addr):Prop where
 cl:Cls K C
 n1:fH K C "one"
 n2:fH K C "two"
 n3:fH K C "strength"
inductive oY(K:HE)(vs:List L2.V)(H:L2.Hp)(Q:L2.VK)(x3_:L2.XK):Prop
 |mk (p C dx:Addr)(a b s:Int) (h0_:vs=[.ref p,.int a,.int b,.int s])(h1_:H p=Z (.ins C dx []))(h2_:CT K C)(h3_:a≠b)(h4_:0<=a)(h5_:0<=b)(h6_:0<=s)(h7_:∀ H',H' p=Z (.ins C dx (tf a b s))->(∀ q o,H q=Z o->q≠p->H' q=Z o)->Q .non H')
theorem ai(h:H p=none)(o:HO):Same H (upd H p o):=λb u q=>by rw[ao (aD q h)];exact q
theorem aH{l:Addr}(h:Same H H2)(hl:H l=none)(o:HO):Same H (upd H2 l o):=λb u q=>by rw[ao (aD q hl)];exact h b u q
def iV(p:Nat):V:=.int (p:Int)
theorem iV_at{hs:List Nat}{k x:Nat}(h:hs[k]?=Z x):atI (hs.map iV) (k:Int)=Z (iV x):=ax (by simp[*])
def cM(H:Hp)(ys:List V)(es:En):Prop:=ys.length=es.length/\∀(i:Nat)(e:Nat×Nat),es[i]?=Z e->∃ p,ys[i]?=Z (.ref p)/\H p=Z (.tup [iV e.1,iV e.2])
theorem cM.mono(h:cM H ys es)(s:Same H H'):cM H' ys es:=#[h.1,λi e q=>by
 let p a b:=h.2 i e q
 exact#[p,a,s _ _ b]]
def eB(K:HE)(H:Hp)(xs:List V)(es:En):Prop:=xs.length=es.length/\∀(i:Nat)(e:Nat×Nat),es[i]?=Z e->∃ p C l s,xs[i]?=Z (.ref p)/\H p=Z (.ins C l (tf (e.1:Int) (e.2:Int) s))/\CT K C
theorem eB.mono(t:eB K H xs es)(h:Same H H'):eB K H' xs es:=#[t.1,λi e q=>by
 let p C l s a b d:=t.2 i e q
 exact#[p,C,l,s,a,h _ _ b,d]]
def bF(H:Hp)(xs:List V)(ts:List (List Nat)):Prop:=xs.length=ts.length/\∀(i:Nat)(l:List Nat),ts[i]?=Z l->∃ p,xs[i]?=Z (.ref p)/\H p=Z (.lst (l.map iV))
theorem bF.mono(h:bF H xs ts)(s:Same H H'):bF H' xs ts:=#[h.1,λi e q=>by
 let p a b:=h.2 i e q
 exact#[p,a,s _ _ b]]
theorem bF.snoc(h:bF H xs ts)(e:H q=Z (.lst (l.map iV))):bF H (xs++[.ref q]) (ts++[l]):=by
 refine#[by rw[HJ,HJ,h.1];rfl,λj k D=>?_]
 by_cases O:j<ts.length
 .rw[HH O]at D;let p g s:=h.2 j k D;exact#[p,by rw[HH (by rw[h.1];exact O)];exact g,s]
 .rw[HG ∅]at D
  let b:j=ts.length:=by
   let:=(HB.mp D).1;rw[Ik]at this;omega
  subst b;rw[Iq]at D
  cases D
  exact#[q,by rw[← h.1,HG (HF _),Iq];rfl,e]
def bg(S:Addr->Prop)(H:Hp)(xs:List V)(ts:List (List Nat)):Prop:=xs.length=ts.length/\∀(i:Nat)(l:List Nat),ts[i]?=Z l->∃ p,xs[i]?=Z (.ref p)/\¬ S p/\H p=Z (.lst (l.map iV))
theorem bg.mono{S:Addr->Prop}(h:bg S H xs ts)(s:∀ b u,¬ S b->H b=Z u->H' b=Z u):bg S H' xs ts:=#[h.1,λi e q=>by
 let p a n b:=h.2 i e q
 exact#[p,a,n,s _ _ n b]]
theorem bg.off{S:Addr->Prop}(h:bg S H xs ts):bF H xs ts:=#[h.1,λi e q=>by
 let p a n b:=h.2 i e q
 exact#[p,a,b]]
theorem bg.snoc{S:Addr->Prop}(h:bg S H xs ts)(n:¬ S q)(e:H q=Z (.lst (l.map iV))):bg S H (xs++[.ref q]) (ts++[l]):=by
 refine#[by rw[HJ,HJ,h.1];rfl,λj k D=>?_]
 by_cases O:j<ts.length
 .rw[HH O]at D;let p g s C:=h.2 j k D;exact#[p,by rw[HH (by rw[h.1];exact O)];exact g,s,C]
 .rw[HG ∅]at D
  let b:j=ts.length:=by
   let:=(HB.mp D).1;rw[Ik]at this;omega
  subst b;rw[Iq]at D
  cases D
  exact#[q,by rw[← h.1,HG (HF _),Iq];rfl,n,e]
theorem q8{f:Nat->Nat}(w:cV f N i rs):rs.flatten.length<=N:=cZ w.nd λx J=>by
 let r Y B:=IW.mp J;exact(w.ring r Y).lt x B
theorem xR{f:Nat->Nat}(w:cV f N i rs):rs.length<=N:=by
 let h:∀(l:List (List Nat)),(∀ r∈l,0<r.length)->l.length<=l.flatten.length:=λl=>by
  induction l with
  |nil=>intro _;exact HF _
  |cons a l Q =>
   grind
 exact IK (h rs λr O=>(w.ring r O).ne) (q8 w)
structure TT(K:HE)(H:Hp)(a b:Addr)(m:Nat)(es:En)(ts:List (List Nat)):Prop where
 xs:∃ xs,SqL K H a xs/\eB K H xs es
 ys:∃ ys,SqL K H b ys/\bF H ys ts
 w:bH m es ts
 few:es.length<=62
theorem TT.mono{K:HE}{H H':Hp}{a b:Addr}{m:Nat}{es:En}{ts:List (List Nat)}(t:TT K H a b m es ts)(s:Same H H'):TT K H' a b m es ts:=by
 let{j Y B}{I J u}w f:=t;exact#[#[j,s.seq Y,B.mono s],#[I,s.seq J,u.mono s],w,f]
theorem lM(w:bH m es ts)(f:es.length<=62){p:Nat}(h:ts[p]?=Z l):(∀ t∈l,t<62)/\l.length<=62:=by
 let a:∀ t∈l,t<es.length:=λt i=>by
  let e D _:=(w.mem p l h t).mp i;exact(HB.mp D).1
 exact#[λt i=>by let:=a t i;omega,IK (cZ (w.nd p l h) a) f]
theorem perm(w:bH m es ts):CH (fol es ts) (2*es.length):=#[λd h=>by
 let _ _ _ _ _ _ _ _ z _:=w.foll h
 exact z,λa b E L h=>w.inj E L h]
inductive E5(K:HE)(vs:List L2.V)(H:L2.Hp)(Q:L2.VK)(x3_:L2.XK):Prop
 |mk (a:Addr)(xs:List V)(es:En)(d:Nat) (h0_:vs=[.ref a,.int (d:Int)])(h1_:SqL K H a xs)(h2_:eB K H xs es)(h3_:d<2*es.length)(h4_:Q (iV (hd es d)) H)
inductive E3(K:HE)(vs:List L2.V)(H:L2.Hp)(Q:L2.VK)(x3_:L2.XK):Prop
 |mk (a:Addr)(xs:List V)(es:En)(t p:Nat)(e:Nat×Nat) (h0_:vs=[.ref a,.int (t:Int),.int (p:Int)])(h1_:SqL K H a xs)(h2_:eB K H xs es)(h3_:es[t]?=Z e)(h4_:Q (iV (if e.1=p then 2*t else 2*t+1)) H)
inductive spFol(K:HE)(vs:List L2.V)(H:L2.Hp)(Q:L2.VK)(x3_:L2.XK):Prop
 |mk (a b:Addr)(m:Nat)(es:En)(ts:List (List Nat))(d:Nat) (h0_:vs=[.ref a,.ref b,.int (d:Int)])(h1_:TT K H a b m es ts)(h2_:d<2*es.length)(h3_:Q (iV (fol es ts d)) H)
inductive E6(K:HE)(vs:List L2.V)(H:L2.Hp)(Q:L2.VK)(x3_:L2.XK):Prop
 |mk (a b:Addr)(m:Nat)(es:En)(ts:List (List Nat))(d:Nat) (h0_:vs=[.ref a,.ref b,.int (d:Int)])(h1_:TT K H a b m es ts)(h2_:d<2*es.length)(h3_:∀ q r H',Same H H'->H q=none->H' q=Z (.lst (r.map iV))->Path (fol es ts) (2*es.length) d r->Ring (fol es ts) (2*es.length) r->Q (.ref q) H')
inductive xF(K:HE)(vs:List L2.V)(H:L2.Hp)(Q:L2.VK)(x3_:L2.XK):Prop
 |mk (a b:Addr)(m:Nat)(es:En)(ts:List (List Nat)) (h0_:vs=[.ref a,.ref b])(h1_:TT K H a b m es ts)(h2_:∀ q ys rs H',Same H H'->H' q=Z (.lst ys)->bF H' ys rs->cV (fol es ts) (2*es.length) (2*es.length) rs->Q (.ref q) H')
def ic(H:Hp)(ys:List V)(n:Nat)(rs:List (List Nat)):Prop:=ys.length=n/\∀ i,i<n->∃ p a b r m,ys[i]?=Z (.ref p)/\H p=Z (.tup [iV a,iV b])/\rs[a]?=Z r/\2*i∈r/\rs[b]?=Z m/\2*i+1∈m
inductive Af(K:HE)(vs:List L2.V)(H:L2.Hp)(Q:L2.VK)(x3_:L2.XK):Prop
 |mk (a b:Addr)(xs ys:List V)(es:En)(f:Nat->Nat)(rs:List (List Nat)) (h0_:vs=[.ref a,.ref b])(h1_:SqL K H a xs)(h2_:eB K H xs es)(h3_:es.length<=62)(h4_:SqL K H b ys)(h5_:bF H ys rs)(h6_:cV f (2*es.length) (2*es.length) rs)(h7_:∀ q zs H',Same H H'->H' q=Z (.lst zs)->ic H' zs es.length rs->Q (.ref q) H')
def ui(ns:List Int)(k:Nat):Int:=ns.getD k 0
inductive As(K:HE)(vs:List L2.V)(H:L2.Hp)(Q:L2.VK)(x3_:L2.XK):Prop
 |mk (a:Addr)(k:Nat)(ns:List Int) (h0_:vs=[.ref a,.int (k:Int)])(h1_:SqL K H a (ns.map V.int))(h2_:Q (.int (ui ns k)) H)
inductive spNum(vs:List L2.V)(H:L2.Hp)(Q:L2.VK)(x3_:L2.XK):Prop
 |mk (i:Int) (h0_:vs=[.int i])(h1_:Q (.bl true) H)
structure Txt(mg:Str->Option Value):Prop where
 n_len:mg "len"=none
 n_int:mg "int"=none
 n_bool:mg "bool"=none
 n_list:mg "list"=none
 n_tuple:mg "tuple"=none
 n_range:mg "range"=none
 n_enumerate:mg "enumerate"=none
 n_isinstance:mg "isinstance"=none
 n_min:mg "min"=none
 n_sum:mg "sum"=none
 n_sorted:mg "sorted"=none
theorem Ay:ay ["ties","dart","tie"] ["ties","dart"] (ar AB):=by ac_nf
theorem GA(F:Fun K "head" "head" AB f fd):FnOk P w K mg base CX0 1 f fd ["ties","dart"] (E5 K):=by
 refine F.ok Ay (by walk_at "l") λY A o s H g Q E O h=>?_
 let a j N d rfl M u e k:=h;let G:d/2<N.length:=by omega
 let B:N[d/2]?=Z N[d/2]:=Hz G;let p C l m J I x3:=u.2 _ _ B;let b:hd N d=if d%2=0 then N[d/2].2 else N[d/2].1:=by unfold hd;rw[B]
 let n:(d:Int)/2=((d/2:Nat):Int):=by omega
 refine#[_,(ag (aA 2 Ay.nd (aV (pv 0) (aw b9 (pv 1) aj)))
   (ak (aE (jb (aB eG (aw bq (pv 1) aj) aj (aC _)) (bW (pv 2) U) (bW (pv 2) U))))),?_]
 refine#[_,U,_,U,_,_,U,U,#[by decide,by decide],a,j,_,_,U,U,M,(by rw[n];exact ax J),?_]
 refine#[_,U,_,_,U,U,(by show(0:Int)<2;decide),U,_,U,?_]
 refine ite2 (λq=>?_) (λq=>?_)
 .let T:(d:Int)%2=0:=V.int.inj (NO q)
  refine#[_,U,p,C,l,_,_,U,I,x3.cl,x3.n2,rZ _ _ _,?_];rw[b,NX ∅]at k
  exact k
 .let T:¬ (d:Int)%2=0:=λz=>q (Ni (congrArg V.int z))
  refine#[_,U,p,C,l,_,_,U,I,x3.cl,x3.n1,nJ _ _ _,?_];rw[b,NY ∅]at k
  exact k
theorem yH:ay ["ties","number","place"] ["ties","number","place"] (ar nO):=by ac_nf
theorem yK(F:Fun K "leaving" "leaving" nO f fd):FnOk P w K mg base CX0 1 f fd ["ties","number","place"] (E3 K):=by
 refine F.ok yH (by walk_at "l") λY A o s H g Q E O h=>?_
 let a j N t y e rfl M u D k:=h;let p C l m J I x3:=u.2 _ _ D;let v:CMul 2 (t:Int):=.inl #[by decide,by decide]
 refine#[_,(ak (aE (jb (aB eG (bW (aV (pv 0) (pv 1)) U) (pv 2) (aC _)) (aw dS aj (pv 1)) (aw br (aw dS aj (pv 1)) aj)))),?_];refine#[_,U,_,U,a,j,_,_,U,U,M,ax J,p,C,l,_,_,U,I,x3.cl,x3.n1,nJ _ _ _,_,U,U,_,U,?_];refine ite2 (λq=>?_) (λq=>?_)
 .let T:(e.1:Int)=(y:Int):=V.int.inj (NO q)
  refine#[_,U,_,_,U,U,v,?_];rw[NX ∅]at k
  exact k
 .let T:¬ (e.1:Int)=(y:Int):=λz=>q (Ni (congrArg V.int z))
  refine#[_,U,_,_,U,U,v,_,_,U,U,?_];rw[NY ∅]at k
  exact k
theorem gu:ay ["ties","turns","dart","place","about","behind"] ["ties","turns","dart"] (ar lY):=by ac_nf
theorem vm{ap:FuncData}(F:Fun K "follower" "follower" lY f fd)(T:Txt mg)(ac:Cal P w K mg base 1 "head" ["ties","dart"] (E5 K) C G)(ab:Cal P w K mg base 1 "leaving" ["ties","number","place"] (E3 K) I ap):FnOk P w K mg base CX0 2 f fd ["ties","turns","dart"] (spFol K):=by
 refine F.ok gu (by walk_at "l") λv A o s H g Q E O h=>?_
 let a b m N n d rfl tt aa k:=h;let{j Y B}{t J u}w' L:=tt;let l e x r p3 p4 p5 p6 p7 p8 p9:=w'.foll aa;let al len:=lM w' L x;let q i y:=u.2 _ _ x;let ed:(d:Int)/2=((d/2:Nat):Int):=by omega
 refine#[_,(ag (aA 3 gu.nd (ac.c O (ae (pv 0) (ae (pv 2) ah))))
   (ag (aA 4 gu.nd (aV (pv 1) (pv 3)))
   (ag (aA 5 gu.nd (aw bq (aw br (d9 HZ Mq Mo yb (pv 4) (ae (aw b9 (pv 2) aj) ah)) aj) (az av (by rfl) T.n_len aX (ae (pv 4) ah))))
   (ak (aE (ab.c O (ae (pv 0) (ae (aV (pv 4) (pv 5)) (ae (pv 3) ah))))))))),?_]
 refine#[_,U,_,U,a,j,N,d,U,Y,B,aa,?_];refine#[_,U,_,U,b,t,_,_,U,U,J,ax i,?_];let D:(l.map iV).length=l.length:=HD _;let am:0<l.length:=JB r;let an:(((l.idxOf (d/2):Nat):Int)+1)%((l.map iV).length:Int)=(((l.idxOf (d/2)+1)%l.length:Nat):Int):=by rw[D];rfl
 refine#[_,U,.inl #[U,_,SqL.of y],_,U,_,_,U,U,#[by decide,by decide],q,l,d/2,U,congrArg (λz=>[V.int z]) ed,SqL.of y,λp M=>by let:=al p M;omega,∅,r,_,_,U,U,_,U,q,_,U,.inl (SqL.of y),_,_,U,U,(by show(0:Int)<((l.map iV).length:Int);rw[D];omega),?_]
 refine#[_,U,_,U,_,U,q,_,_,_,U,U,SqL.of y,(by rw[an];exact iV_at (iC r)),_,U,a,j,N,nxt l (d/2),hd N d,e,U,Y,B,p3,?_]
 rw[p6]at k;exact k
theorem eE:ay ["ties","turns","first","row","dart"] ["ties","turns","first"] (ar ir):=by ac_nf
theorem GB(F:Fun K "round_from" "round_from" ir f fd)(ac:Cal P w K mg base 2 "follower" ["ties","turns","dart"] (spFol K) p G):FnOk P w K mg base CX0 3 f fd ["ties","turns","first"] (E6 K):=by
 refine F.ok eE (by walk_at "l") λY A o s H g Q E O h=>?_
 let a b m N n d rfl tt al k:=h;let pm:=perm tt.w
 refine#[_,(ag (aA 3 eE.nd (bw (ae (pv 2) ah)))
   (ag (aA 4 eE.nd (ac.c O (ae (pv 0) (ae (pv 1) (ae (pv 2) ah)))))
   (ag (gD PassesOwn.never (aB jZ (pv 4) (pv 2) (aC _)) (ag (aO (d9 HZ Ij Ii aQ (pv 3) (ae (pv 4) ah)))
   (ak (aA 4 eE.nd (ac.c O (ae (pv 0) (ae (pv 1) (ae (pv 4) ah))))))))
   (ak (aE (pv 3)))))),?_]
 refine#[_,U,(by show 1<=Mz;decide),λq C=>?_]
 let J:=ai C (.lst [.int (d:Int)]);refine#[_,U,_,U,_,U,a,b,m,N,n,d,U,tt.mono J,al,?_];refine i5 (λM u=>∃(r:List Nat)(x:Nat),M=[Z (.ref a),Z (.ref b),Z (.int (d:Int)),Z (.ref q),Z (iV (fol N n x))]/\Same H u/\u q=Z (.lst ((r++[x]).map iV))/\Path (fol N n) (2*N.length) d (r++[x]))
  (λM u=>match u q with|some (.lst j)=>200-j.length|_=>0) #[[],d,U,J,af,Dt al] ?_ ?_
 .rintro M u ⟨r,x,rfl,t,ab,pa⟩;refine#[_,U,_,U,U,_,U,?_];let L:=tt.few;let v:=cZ pa.nd pa.lt;refine ite2 (λc=>?_) (λc=>?_)
  .let D:fol N n x≠d:=λz=>by
    rw[Ni (show iV (fol N n x)=V.int (d:Int) by rw[z];rfl)]at c
    cases c
   let am:=pa.snoc pm D;let aa:=cZ am.nd am.lt;let an:fol N n x<2*N.length:=am.lt _ (by simp)
   refine#[_,U,.inl #[U,_,SqL.of ab],_,U,q,_,_,U,U,ab,aq (by grind),?_]
   let B:=aH t C (.lst ((r++[x]).map iV++[iV (fol N n x)]));refine#[_,U,_,U,_,U,a,b,m,N,n,fol N n x,U,tt.mono B,an,?_];refine#[#[r++[x],fol N n x,U,B,?_,am],?_]
   .rw[af,show((r++[x]++[fol N n x]).map iV)=(r++[x]).map iV++[iV (fol N n x)] from by rw[HW];rfl]
   .show(match(upd u q (.lst ((r++[x]).map iV++[iV (fol N n x)]))) q with|some (.lst j)=>200-j.length|_=>0)<(match u q with|some (.lst j)=>200-j.length|_=>0)
    rw[af,ab];show 200-((r++[x]).map iV++[iV (fol N n x)]).length<200-((r++[x]).map iV).length;rw[HJ,HD,Ik];omega
  .let D:fol N n x=d:=by
    by_cases z:fol N n x=d
    .exact z
    .exact NZ (by rw[My (λy=>z (by let:=V.int.inj y;omega))];rfl) c
   refine#[_,U,?_];exact k q _ u t C ab pa (pa.ring pm D)
 .rintro M u Q1 Q2 I ⟨v',e,b',T,i,D,l,q'⟩;exact#[v',e,b',T,i,D,l,I _ _ q']
theorem cj:ay ["ties","turns","rounds","seen","dart","row","gone"] ["ties","turns"] (ar jH):=by ac_nf
theorem A4(F:Fun K "rounds_of" "rounds_of" jH f fd)(T:Txt mg)(aS:Cal P w K mg base 3 "round_from" ["ties","turns","first"] (E6 K) C G):FnOk P w K mg base CX0 4 f fd ["ties","turns"] (xF K):=by
 refine F.ok cj (by walk_at "l") λab A aa s H vs Q E O h=>?_
 let a b m N ts rfl tt k:=h;let hu:=tO O;let pm:=perm tt.w;let al:=tt.few;let xs Y B:=tt.xs
 refine#[_,(ag (aA 2 cj.nd (bw ah))
   (ag (aA 3 cj.nd m9)
   (ag (bc PassesOwn.never U (aN U T.n_range (ae (aw dS aj (az av (by rfl) T.n_len aX (ae (pv 0) ah))) ah)) (bO 4 cj.nd) (ak (bV (AJ (nW hu (pv 4) (pv 3))) (ag (aA 5 cj.nd (aS.c O (ae (pv 0) (ae (pv 1) (ae (pv 4) ah)))))
   (ag (aO (d9 HZ Ij Ii aQ (pv 2) (ae (pv 5) ah)))
   (ak (bc PassesOwn.never U (aP (pv 5)) (bO 6 cj.nd) (ak (l4 hu (pv 3) (pv 6) oQ U)))))) aR)))
   (ak (aE (pv 2)))))),?_]
 refine#[(by simp),λqr an=>λqs a3=>?_]
 let s1:=(ai an (.lst [])).trans (ai a3 (.dK []));let a4:H qs=none:=by
  cases z:H qs with
  |none=>rfl
  |some o=>rw[ai an (.lst []) qs o z]at a3;omega
 let ac:qr≠qs:=λz=>by rw[← z,af]at a3;contradiction
 let ap:xs.length=N.length:=B.1;let hN:(2*(xs.length:Int)).toNat=2*N.length:=by omega
 refine#[_,U,a,xs,U,.inl (s1.seq Y),_,_,U,U,.inl #[by decide,by decide],_,U,∅,∅,bE (n:=(2*(xs.length:Int)).toNat) (λi M u=>∃ v4 v5 v6 t rs L,M=[Z (.ref a),Z (.ref b),Z (.ref qr),Z (.ref qs),v4,v5,v6]/\Same H u/\u qr=Z (.lst t)/\bg (λp=>p=qr∨p=qs) u t rs/\u qs=Z (.dK L)/\L.length<=rs.flatten.length/\(∀ d:Nat,(valV L (Sum.inl (d:Int))).isSome=true↔d∈rs.flatten)/\cV (fol N ts) (2*N.length) i rs)
  #[_,_,_,[],[],[],U,s1,by rw[ao ac,af],#[U,λi l e=>by simp at e],af,HF _,λd=>by simp[valV],yI _ _] ?_ ?_]
 .rintro i M u I ⟨v4,v5,v6,t,rs,L,rfl,s2,D,rx,v,kl,km,ro⟩;rw[hN]at I;let e0:(0:Int)+(i:Int)=(i:Int):=Jl _;rw[e0];let fl:=q8 ro;let rl:=xR ro;refine#[_,U,_,U,_,_,U,DGet.k (k:=Sum.inl (i:Int)) v,_,U,?_];refine ite2 (λc=>?_) (λc=>?_)
  .let a6:i∉rs.flatten:=λz=>by
    rw[(km i).mpr z]at c
    cases c
   refine#[_,U,_,U,_,U,a,b,m,N,ts,i,U,tt.mono s2,I,λq r H3 s3 hq aT pa ri=>?_];let a1:=s2.trans s3;let nq:¬ (q=qr∨q=qs):=by
    rintro(z|z)
    .rw[z,D]at hq;cases hq
    .rw[z,v]at hq;cases hq
   refine#[_,U,.inl #[U,_,SqL.of (s3 _ _ D)],_,U,qr,_,_,U,U,s3 _ _ D,aq (by rw[rx.1];omega),?_]
   let s4:=aH a1 an (.lst (t++[.ref q]));let aW:∀{H5:Hp},bg (λp=>p=qr∨p=qs) H5 (t++[.ref q]) (rs++[r])->H5 q=Z (.lst (r.map iV)):=λh=>by
    let p z1 _ z2:=h.2 rs.length r (by rw[HG (HF _),Iq];rfl)
    rw[← rx.1,HG (HF _),Iq]at z1
    cases z1
    exact z2
   let a5:bg (λp=>p=qr∨p=qs) (upd H3 qr (.lst (t++[.ref q]))) (t++[.ref q]) (rs++[r]):=by
    refine(rx.mono λp o n z=>?_).snoc nq ?_
    .rw[ao (λz=>n (.inl z))];exact s3 _ _ z
    .rw[ao (λz=>nq (.inl z))];exact aT
   let rl:r.length<=2*N.length:=cZ ri.nd ri.lt
   refine#[_,U,q,U,#[_,SqL.of (aW a5)],bI (xs:=r.map iV) (λj M H5=>∃ v6 am,M=[Z (.ref a),Z (.ref b),Z (.ref qr),Z (.ref qs),Z (.int (i:Int)),Z (.ref q),v6]/\Same H H5/\H5 qr=Z (.lst (t++[.ref q]))/\bg (λp=>p=qr∨p=qs) H5 (t++[.ref q]) (rs++[r])/\H5 qs=Z (.dK am)/\am.length<=rs.flatten.length+j/\∀ d:Nat,(valV am (Sum.inl (d:Int))).isSome=true↔d∈rs.flatten∨d∈r.take j)
    #[_,L,U,s4,af,a5,by rw[ao ac.symm];exact s3 _ _ v,kl,λd=>by rw[km d];simp] (λj M H5 _ p=>?_) ?_ ?_]
   .let _ _ _ _ _ z _:=p;exact SqL.of (aW z)
   .rintro j x M H5 J ⟨v6,am,rfl,s5,f1,aI,f2,a2,a0⟩;rw[HN]at J;let g hg rfl:=HV.mp J;let a7:j<r.length:=(HB.mp hg).1;refine#[_,U,_,U,qs,_,U,DPut.k (k:=Sum.inl (g:Int)) f2 (aq ∅),?_]
    refine#[_,_,U,aH s5 a4 _,by rw[ao ac];exact f1,aI.mono λp o n z=>by rw[ao (λz=>n (.inr z))];exact z,af,by let:=eX am (Sum.inl (g:Int)) (V.bl true);omega,λd=>?_]
    rw[gk];let tk:r.take (j+1)=r.take j++[g]:=by rw[Ie,hg];rfl
    rw[tk];by_cases z:d=g
    .subst z;simp
    .rw[NY (λy=>z (by let:=Sum.inl.inj y;omega)),a0 d]
     simp[z]
   .rintro M H5 ⟨v6,am,rfl,s5,f1,aI,f2,a2,a0⟩;rw[HD]at a2 a0;refine#[_,_,_,_,rs++[r],am,U,s5,f1,aI,f2,by rw[KR,HJ];simpa using a2,λd=>?_,ro.put pm a6 I ri pa]
    rw[a0 d,Ip,KR,HY];simp
  .let ba:i∈rs.flatten:=(km i).mp (by
    cases z:(valV L (Sum.inl (i:Int))).isSome with
    |true=>rfl
    |false=>exact NZ (by rw[z];rfl) c)
   exact#[_,_,_,t,rs,L,U,s2,D,rx,v,kl,km,ro.skip ba]
 .rintro M u ⟨v4,v5,v6,t,rs,L,rfl,s2,D,rx,v,kl,km,ro⟩;rw[hN]at ro;exact#[_,U,k qr t rs u s2 D rx.off ro]
theorem eN:ay ["ties","rounds","number_at","number","row","dart"] ["ties","rounds"] (ar lP):=by ac_nf
theorem DB(F:Fun K "sides_of" "sides_of" lP f fd)(T:Txt mg):FnOk P w K mg base CX0 1 f fd ["ties","rounds"] (Af K):=by
 refine F.ok eN (by walk_at "l") λaa A o s H vs Q E O h=>?_
 let a b xs Y N g rs rfl hS hT ab hB hR ro k:=h;let hu:=tO O;let fl:=q8 ro
 refine#[_,(ag (aA 2 eN.nd m9)
   (ag (bc PassesOwn.never U (jW U T.n_enumerate (ae (pv 1) ah)) (pf U (aJ (bO 3 eN.nd) (aJ (bO 4 eN.nd) cP))) (ak (bc PassesOwn.never U (aP (pv 4)) (bO 5 eN.nd) (ak (l4 hu (pv 2) (pv 5) (pv 3) U)))))
   (ak (aE (d8 [("number_at",2)] ["i"] (aN U T.n_range (ae (az av (by rfl) T.n_len aX (ae (pv 0) ah)) ah)) pg_c pt_c (λC ex s H=>(cR (ae (jX hu (pv 1) (aw dS aj (pv 0)) (λ_ _=>rfl)) (ae (jX hu (pv 1) (aw br (aw dS aj (pv 0)) aj) (λ_ _=>rfl)) ah))))))))),?_]
 intro q hq;let G:=ai hq (.dK []);let kF:∀ i,(rs.take i).flatten.length<=rs.flatten.length:=λi=>by
  let:=congrArg (λz=>z.flatten.length) (JT i rs);grind
 refine#[_,U,b,U,#[_,G.seq hB],qZ (K:=K) (xs:=Y) (λi M u=>∃ v3 v4 v5 L,M=[Z (.ref a),Z (.ref b),Z (.ref q),v3,v4,v5]/\Same H u/\u q=Z (.dK L)/\L.length<=(rs.take i).flatten.length/\∀(d c:Nat)(r:List Nat),c<i->rs[c]?=Z r->d∈r->valV L (Sum.inl (d:Int))=Z (iV c))
  #[_,_,_,[],U,G,af,Iz _,λd c r z=>NZ z (IX _)] (λi M u _ am=>by let _ _ _ _ _ v _:=am;exact v.seq hB) ?_ ?_]
 .rintro i x M u T2 J ⟨v3,v4,v5,L,rfl,v,B,kl,km⟩ an;let a1:i<rs.length:=by
   let:=(HB.mp J).1;rw[hR.1]at this;exact this
  let al:rs[i]?=Z rs[i]:=Hz a1;let p x1 x2:=hR.2 i _ al;rw[J]at x1
  cases x1
  generalize rs[i]=r at al x2;let s3:Same H (upd u T2 (.tup [.int (i:Int),.ref p])):=v.trans (ai an _);let f1:(rs.take (i+1)).flatten=(rs.take i).flatten++r:=by rw[Ie,al];simp
  let f2:=kF (i+1);rw[f1,HJ]at f2;refine#[T2,_,U,SqT.of af,U,_,_,U,_,_,U,U,?_]
  refine#[_,U,p,U,#[_,SqL.of (s3 _ _ x2)],bI (xs:=r.map iV) (λj M H5=>∃ v5 ac,M=[Z (.ref a),Z (.ref b),Z (.ref q),Z (.int (i:Int)),Z (.ref p),v5]/\Same H H5/\H5 q=Z (.dK ac)/\ac.length<=(rs.take i).flatten.length+j/\(∀(d c:Nat)(r:List Nat),c<i->rs[c]?=Z r->d∈r->valV ac (Sum.inl (d:Int))=Z (iV c))/\∀ d∈r.take j,valV ac (Sum.inl (d:Int))=Z (iV i))
   #[_,L,U,s3,ai an _ _ _ B,kl,km,λd hd=>by simp at hd] (λj M H5 _ am=>by let _ _ _ z _:=am;exact SqL.of (z _ _ x2)) ?_ ?_]
  .rintro j x M H5 aS ⟨v5,ac,rfl,s5,g1,aW,aT,a2⟩;rw[HN]at aS;let g hg rfl:=HV.mp aS;let a3:j<r.length:=(HB.mp hg).1;refine#[_,U,_,U,_,U,q,_,U,DPut.k (k:=Sum.inl (g:Int)) g1 (aq ∅),?_]
   refine#[_,_,U,aH s5 hq _,af,by let:=eX ac (Sum.inl (g:Int)) (V.int (i:Int));omega,λd c r' l a0 hd=>?_,λd hd=>?_]
   .rw[gk,NY (λz=>?_)]
    .exact aT d c r' l a0 hd
    .let z':d=g:=by let:=Sum.inl.inj z;omega
     subst z';let:=g7 ro.nd a0 al hd (HC hg);omega
   .rw[gk];by_cases z:d=g
    .subst z;rw[NX U];rfl
    .rw[NY (λy=>z (by let:=Sum.inl.inj y;omega))]
     refine a2 d ?_;rw[Ie,hg]at hd;simpa[z] using hd
  .rintro M H5 ⟨v5,ac,rfl,s5,g1,aW,aT,a2⟩;rw[HD]at aW a2;rw[Ip]at a2;refine#[_,_,_,ac,U,s5,g1,by rw[f1,HJ];exact aW,λd c r' l a0 hd=>?_]
   by_cases z:c=i
   .subst z;rw[al]at a0
    cases a0
    exact a2 d hd
   .exact aT d c r' ∅ a0 hd
 .rintro M u ⟨v3,v4,v5,L,rfl,v,B,kl,km⟩;rw[hR.1]at km;let get:∀ d,d<2*N.length->∃ c r,rs[c]?=Z r/\d∈r/\valV L (Sum.inl (d:Int))=Z (iV c):=λd hd=>by
   let r z1 z2:=IW.mp (ro.all d hd);let c z3:=IJ.mp z1;exact#[c,r,z3,z2,km d c r (HB.mp z3).1 z3 z2]
  let ap:xs.length=N.length:=hT.1;refine#[_,U,a,xs,U,.inl (v.seq hS),_,U,∅,∅,cg (λi m H3=>Same u H3/\ic H3 m i rs) (by rw[HP,ap];exact Ia (aq ∅)) #[λ_ _ e=>e,U,λi I=>NZ I (IX _)] ?_ ?_]
  .rintro i m H3 I ⟨s3,sd⟩;let e0:(0:Int)+(i:Int)=(i:Int):=Jl _;rw[e0];rw[HP,ap]at I;let c1 r1 z1 z2 z3:=get (2*i) ∅
   let c2 r2 y1 y2 y3:=get (2*i+1) ∅
   let m2:CMul 2 (i:Int):=.inl #[by decide,by decide]
   let d1:DGet H3 q (V.int (2*(i:Int))) (Z (iV c1)):=by
    rw[← z3,show((2*i:Nat):Int)=2*(i:Int) by omega]
    exact DGet.k (k:=Sum.inl (2*(i:Int))) (s3 _ _ B)
   let d2:DGet H3 q (V.int (2*(i:Int)+1)) (Z (iV c2)):=by
    rw[← y3,show((2*i+1:Nat):Int)=2*(i:Int)+1 by omega]
    exact DGet.k (k:=Sum.inl (2*(i:Int)+1)) (s3 _ _ B)
   refine#[_,U,_,U,_,_,U,U,m2,q,_,U,d1,_,U,_,U,_,_,U,U,m2,_,_,U,U,q,_,U,d2,(by show 2<=Mz;decide),λt n=>?_]
   let s4:=ai n (.tup [iV c1,iV c2]);refine#[s3.trans s4,by rw[HJ,sd.1];rfl,λj hj=>?_]
   by_cases z:j=i
   .subst z;exact#[t,c1,c2,r1,r2,by rw[← sd.1,HG (HF _),Iq];rfl,af,z1,z2,y1,y2]
   .let p a' b' r r' w1 w2 w3 w4 w5 w6:=sd.2 j ∅
    exact#[p,a',b',r,r',by rw[HH (by rw[sd.1];omega)];exact w1,s4 _ _ w2,w3,w4,w5,w6]
  .rintro m H3 aI ⟨s3,sd⟩ D hD;rw[HP,ap]at sd
   exact k D m _ ((v.trans s3).trans (ai hD _)) af #[sd.1,λi I=>by
    let p a' b' r r' w1 w2 w3 w4 w5 w6:=sd.2 i I
    exact#[p,a',b',r,r',w1,ai hD _ _ _ w2,w3,w4,w5,w6]]
theorem qj:ay ["self","one","two","strength"] ["self","one","two","strength"] (ar cC):=by ac_nf
theorem Gz(F:Fun K "__init__" "Tie.__init__" cC f fd):FnOk P w K mg base CX0 1 f fd ["self","one","two","strength"] (oY K):=by
 refine F.ok qj (by walk_at "l") λY A v s H g Q E O h=>?_
 let p C l a b st rfl M T z u L m k:=h
 refine#[_,(ag (bV (aB eG (pv 1) (pv 2) (aC _)) (ak bY) aR)
   (ag (bV (PW.pt (u5 (aB AX (pv 1) aj (aC _)) (sL (aB AX (pv 2) aj (aC _))))) (ak bY) aR)
   (ag (bV (aB AX (pv 3) aj (aC _)) (ak bY) aR)
   (ag (mz (pv 0) (pv 1) U)
   (ag (mz (pv 0) (pv 2) U)
   (ak (mz (pv 0) (pv 3) U))))))),?_]
 walk_at "rd";refine ite2 (λc=>NZ (V.int.inj (NO c)) z) (λ_=>?_);walk_at "rd";refine ite2 (λc=>NZ (NO c) ∅) (λ_=>?_)
 walk_at "rd";refine ite2 (λc=>NZ (NO c) ∅) (λ_=>?_)
 walk_at "rd";refine ite2 (λc=>NZ (NO c) ∅) (λ_=>?_)
 refine#[_,U,_,U,p,C,l,[],U,M,T.cl,T.n1,(by simp),?_]
 refine#[_,U,_,U,p,C,l,_,U,af,T.cl,T.n2,f1_len a,?_];refine#[_,U,_,U,p,C,l,_,U,af,T.cl,T.n3,f2_len a b,?_];exact k _ af λq o e d=>by rw[ao d,ao d,ao d];exact e
theorem uT:ay ["script","k"] ["script","k"] (ar lX):=by ac_nf
theorem GC(F:Fun K "_law_cell" "_law_cell" lX f fd)(T:Txt mg):FnOk P w K mg base CX0 1 f fd ["script","k"] (As K):=by
 refine F.ok uT (by walk_at "l") λY A o s H g Q E O h=>?_
 let a k v rfl M q:=h
 refine#[_,(ag (bV (aB AX (pv 1) (az av (by rfl) T.n_len aX (ae (pv 0) ah)) (aC _)) (ak (aE (aV (pv 0) (pv 1)))) aR)
   (ak (aE aj))),?_]
 refine#[_,U,_,U,a,_,U,.inl M,_,_,U,U,_,U,?_];refine ite2 (λc=>?_) (λc=>?_)
 .let D:(k:Int)<((v.map V.int).length:Int):=NO c
  rw[HD]at D;let l:k<v.length:=by omega
  let i:atI (v.map V.int) (k:Int)=Z (.int (ui v k)):=ax (by rw[HN,Hz l];unfold ui;simp[*])
  exact#[_,U,_,U,a,_,_,_,U,U,M,i,q]
 .let D:¬ (k:Int)<((v.map V.int).length:Int):=λz=>c (Ni z)
  rw[HD]at D;let e:ui v k=0:=by unfold ui;rw[HU,Jc ∅];rfl
  rw[e]at q;exact q
theorem at0{u:V}:atI [u,v] 0=Z u:=rfl
theorem at1{u:V}:atI [u,v] 1=Z v:=rfl
theorem vy(h:SqL K H a (ps.map iV)):RdD K H (.ref a) (.list ((ps.map λ(p:Nat)=>((p:Nat):Int)).map PyData.int)):=by
 refine RdD.lst h (by simp) λi x d C T=>?_
 rw[HN]at C;rw[HN,HN]at T
 cases z:ps[i]? with
 |none=>rw[z]at C;cases C
 |some n =>
  rw[z]at C T
  cases C
  cases T
  exact .int _
theorem Bz(l:List Int):(PyData.list (l.map PyData.int)).canLay0=true/\(PyData.list (l.map PyData.int)).depth<=10:=by
 let Y:∀ d∈l.map PyData.int,d.canLay0=true/\d.depth<=1:=λd hd=>by
  let x _ rfl:=Im.mp hd;exact#[by rfl,by simp[Nn]]
 let B:=iT λd hd=>(Y d hd).1;let J:=kh λd hd=>(Y d hd).2;exact#[by assumption,by simp only[Nn];omega]
theorem oh(l:List Int):SeqAt.shaped (.list (l.map PyData.int))=true:=jG λd hd=>by
 let x _ rfl:=Im.mp hd;exact#[by rfl,by simp[Nn]]
theorem cM.put{o:HO}(t:cM H ys es)(h:H q=Z (.lst zs)):cM (upd H q o) ys es:=#[t.1,λi e z=>by
 let p a b:=t.2 i e z;refine#[p,a,?_];rw[ao (λz=>by simp_all)]
 exact b]
theorem cM.snoc(t:cM H xs es)(h:H p=Z (.tup [iV e.1,iV e.2])):cM H (xs++[.ref p]) (es++[e]):=by
 refine#[by rw[HJ,HJ,t.1];rfl,λj k D=>?_]
 by_cases O:j<es.length
 .rw[HH O]at D;let p g s:=t.2 j k D;exact#[p,by rw[HH (by rw[t.1];exact O)];exact g,s]
 .rw[HG ∅]at D
  let b:j=es.length:=by
   let:=(HB.mp D).1;rw[Ik]at this;omega
  subst b;rw[Iq]at D
  cases D
  exact#[p,by rw[← t.1,HG (HF _),Iq];rfl,h]
theorem G4{k:Nat}:(ins l k n).length=l.length+1:=by
 unfold ins;rw[HJ,IM,IC,Kc];omega
theorem Fg(X:Int)(n:Nat):0<=X%((n:Int)+1)/\X%((n:Int)+1)<=(n:Int):=#[Jy _ ∅,by let:=Jz X (show(0:Int)<(n:Int)+1 by omega);omega]
def Dist(xs:List V):Prop:=∀(i j:Nat)(p:Addr),xs[i]?=Z (.ref p)->xs[j]?=Z (.ref p)->i=j
theorem bg.set{S:Addr->Prop}(h:bg S H xs ts)(D:Dist xs)(e:xs[i]?=Z (.ref p)):bg S (upd H p (.lst (l'.map iV))) xs (ts.set i l'):=by
 refine#[by rw[IV];exact h.1,λj l z=>?_]
 let I:i<ts.length:=by rw[← h.1];exact(HB.mp e).1
 rw[IQ]at z;by_cases O:i=j
 .subst O;rw[NX U,NX I]at z
  cases z
  let w g s C:=h.2 i _ (Hz I);rw[e]at g
  cases g
  exact#[p,e,s,af]
 .rw[NY O]at z;let w g s C:=h.2 j l z;exact#[w,g,s,by rw[ao (λy=>by rw[y]at g;exact O (D i j p e g))];exact C]
theorem insV{k:Nat}:(l.map iV).take k++V.int (n:Int)::(l.map iV).drop k=(ins l k n).map iV:=by
 unfold ins;rw[HW,Il,KH,KI];rfl
theorem AD(h:SqL K H a xs)(A:bF H xs ts):RdD K H (.ref a) (.list (ts.map λl=>PyData.list ((l.map λ(p:Nat)=>((p:Nat):Int)).map PyData.int))):=by
 refine RdD.lst h (by rw[HD];exact A.1) λi x d C T=>?_
 rw[HN]at T;let l G rfl:=HV.mp T;let p g s:=A.2 i l G;rw[C]at g
 cases g
 exact vy (SqL.of s)
theorem uY(ts:List (List Nat)):SeqAt.shaped (.list (ts.map λl=>PyData.list ((l.map λ(p:Nat)=>((p:Nat):Int)).map PyData.int)))=true:=jG λd hd=>by
 let l _ rfl:=Im.mp hd;exact Bz _
theorem rj(h:SqL K H a xs)(f:cM H xs es):RdD K H (.ref a) (.list (es.map λe=>PyData.tuple [.int (e.1:Int),.int (e.2:Int)])):=by
 refine RdD.lst h (by rw[HD];exact f.1) λi x d C T=>?_
 rw[HN]at T;let e D rfl:=HV.mp T;let p g s:=f.2 i e D;rw[C]at g
 cases g
 refine RdD.tup (SqT.of s) U λj x c k n=>?_;match j with
 |0=>cases k;cases n;exact .int _
 |1=>cases k;cases n;exact .int _
 |j+2=>cases k
theorem oy(es:En):SeqAt.shaped (.list (es.map λe=>PyData.tuple [.int (e.1:Int),.int (e.2:Int)]))=true:=jG λd hd=>by
 let l _ rfl:=Im.mp hd;exact flat2 _ _
end K8
namespace K8
open PySem L2
inductive Ao(K:HE)(vs:List L2.V)(H:L2.Hp)(Q:L2.VK)(x3_:L2.XK):Prop
 |mk (a:Addr)(ys:List V)(es:En)(d:Nat) (h0_:vs=[.ref a,.int (d:Int)])(h1_:SqL K H a ys)(h2_:cM H ys es)(h3_:d<2*es.length)(h4_:Q (iV (hd es d)) H)
theorem uS:ay ["ends","dart"] ["ends","dart"] (ar lV):=by ac_nf
theorem DJ(F:Fun K "_law_head" "_law_head" lV f fd):FnOk P w K mg base CX0 1 f fd ["ends","dart"] (Ao K):=by
 refine F.ok uS (by walk_at "l") λv A o s H g Q E O h=>?_
 let a Y N d rfl M c e k:=h;let G:d/2<N.length:=by omega
 let C:N[d/2]?=Z N[d/2]:=Hz G;let p J I:=c.2 _ _ C;let b:hd N d=if d%2=0 then N[d/2].2 else N[d/2].1:=by unfold hd;rw[C]
 let n:(d:Int)/2=((d/2:Nat):Int):=by omega
 let i:atI [iV N[d/2].1,iV N[d/2].2] (1-(d:Int)%2)=Z (iV (hd N d)):=by
  by_cases z:d%2=0
  .rw[b,NX z,show(1-(d:Int)%2)=1 by omega];rfl
  .rw[b,NY z,show(1-(d:Int)%2)=0 by omega];rfl
 refine#[_,(ak (aE (aZ (aV (pv 0) (aw b9 (pv 1) aj)) (aw iA aj (aw bq (pv 1) aj))))),?_];exact#[_,U,_,U,_,_,U,U,#[by decide,by decide],a,Y,_,_,U,U,M,(by rw[n];exact ax J),_,U,_,_,U,U,(by show(0:Int)<2;decide),_,_,U,U,p,_,_,_,U,U,SqT.of I,i,k]
theorem CR.turn{f:Nat->Nat}{A:List Nat}(h:CR f N (A++B))(g:B≠[]):CR f N (B++A):=by
 let L:(B++A).Perm (A++B):=Jw;refine#[?_,λd hd=>h.lt d (L.mem_iff.mp hd),L.nodup_iff.mpr h.nd];match A,B,h,g with
 |[],B,h,_ =>
  rw[Kl];exact h.ch
 |x::A,b::B,h,_ =>
  let y l e c:=h.ch;rw[JR]at e
  cases e
  let c1 c2:=dj.mp c;exact#[b,B++x::A,U,dj.mpr #[c2,c1]]
theorem Part.perm{f:Nat->Nat}{rs':List (List Nat)}(p:Part f N rs)(h:rs.Perm rs'):Part f N rs' :=
 #[λr O=>p.cr r (h.mem_iff.mpr O),h.flatten.nodup_iff.mp p.nd,λd hd=>h.flatten.mem_iff.mp (p.all d hd)]
theorem Part.swap{f:Nat->Nat}{r:List Nat}{rest:List (List Nat)}(p:Part f N (r::rest))(h:CR f N r')(L:r'.Perm r):Part f N (r'::rest):=by
 let q:((r'::rest).flatten).Perm ((r::rest).flatten):=by
  rw[Jb,Jb];exact L.append_right _
 refine#[λx J=>?_,q.nodup_iff.mpr p.nd,λd hd=>q.mem_iff.mpr (p.all d hd)];obtain z|z:=HQ.mp J
 .rw[z];exact h
 .exact p.cr x (HK _ z)
theorem qB:∀{rs:List (List Nat)}{i:Nat}{r:List Nat},rs[i]?=Z r->rs.Perm (r::rs.eraseIdx i)
 |[],i,r,h=>by cases h
 |x::rs,0,r,h=>by cases h;rfl
 |x::rs,i+1,r,h=>by
  let Q:=qB (rs:=rs) (i:=i) (r:=r) h;show(x::rs).Perm (r::x::rs.eraseIdx i);exact(Q.cons x).trans (LA r x _)
theorem xW(hi:i<rs.length)(r:List Nat):(r::rs.eraseIdx i).Perm (rs.set i r):=by
 let h:(rs.set i r)[i]?=Z r:=by rw[Lj hi]
 let:=qB h;rw[List.eraseIdx_set_eq]at this;exact this.symm
theorem Ad{a:List (List Nat)}(g:Gr m es ts)(pt:Part (fol es ts) (2*es.length) a){w right one two:Nat}{A C:List Nat}(hw:a[w]?=Z (A++left::(B++right::C)))(Y:hd es left=one)(h2:hd es right=two)(H:one≠two)(D:e=(one,two)∨e=(two,one))(e1:ts[one]?=Z l)(T:ts[two]?=Z l'):
  Gr m (es++[e]) ((ts.set one (ins l (l.idxOf (left/2)+1) es.length)).set two (ins l' (l'.idxOf (right/2)+1) es.length)) /\
  Part (fol (es++[e]) ((ts.set one (ins l (l.idxOf (left/2)+1) es.length)).set two (ins l' (l'.idxOf (right/2)+1) es.length))) (2*(es++[e]).length) (a.set w (A++left::bX es.length e one::C)++[B++[right,bX es.length e two]]):=by
 let i:=(HB.mp hw).1;let v:=pt.perm (qB hw);let c0:=v.cr _ (HL ..);let c1:CR (fol es ts) (2*es.length) (left::(B++right::(C++A))):=by
  let:=c0.turn (List.cons_ne_nil _ _);rw[JR,JK,JR]at this;exact this
 let L:(left::(B++right::(C++A))).Perm (A++left::(B++right::C)):=by
  let:(left::(B++right::C)++A).Perm (A++left::(B++right::C)):=Jw;rw[JR,JK,JR]at this;exact this
 let r:=v.swap c1 L;let G:=c1.lt left (HL ..);let x tl z o:=c1.ch
 cases z
 let y:right∈left::(B++right::(C++A)):=by simp
 let p q:=g.join G c1 o y Y h2 H D e1 T r;refine#[p,?_];clear p;generalize (ts.set one (ins l (l.idxOf (left/2)+1) es.length)).set two (ins l' (l'.idxOf (right/2)+1) es.length)=ts' at q ⊢;generalize bX es.length e one=b at q ⊢;generalize bX es.length e two=c at q ⊢;let t:CR (fol (es++[e]) ts') (2*(es++[e]).length) (A++left::b::C):=by
  let h:=q.cr _ (HL ..);by_cases s:A=[]
  .subst s;rw[Kl]at h;exact h
  .let J:CR (fol (es++[e]) ts') (2*(es++[e]).length) ((left::b::C)++A):=h
   exact J.turn s
 let u:(A++left::b::C).Perm (left::b::(C++A)):=(Jw:(A++(left::b::C)).Perm ((left::b::C)++A));let k:=q.swap t u;let n:=k.perm (LA _ _ _);let d:CR (fol (es++[e]) ts') (2*(es++[e]).length) (B++[right,c]):=by
  let h:=n.cr _ (HL ..);by_cases f:B=[]
  .subst f;exact h
  .let J:CR (fol (es++[e]) ts') (2*(es++[e]).length) ([right,c]++B):=h
   exact J.turn f
 let j:=n.swap d (Jw:(B++[right,c]).Perm ([right,c]++B));refine j.perm ?_;refine(List.Perm.cons _ (xW i _)).trans ?_;exact(Jw:([B++[right,c]]++a.set w (A++left::b::C)).Perm _)
theorem Ac{a:List (List Nat)}(g:Gr m es ts)(pt:Part (fol es ts) (2*es.length) a){w one:Nat}{A:List Nat}(hw:a[w]?=Z (A++left::B))(Y:hd es left=one)(D:e=(one,m)∨e=(m,one))(e1:ts[one]?=Z l):
  Gr (m+1) (es++[e]) (ts.set one (ins l (l.idxOf (left/2)+1) es.length)++[[es.length]]) /\
  Part (fol (es++[e]) (ts.set one (ins l (l.idxOf (left/2)+1) es.length)++[[es.length]])) (2*(es++[e]).length) (a.set w (A++left::bX es.length e one::bX es.length e m::B)):=by
 let i:=(HB.mp hw).1;let v:=pt.perm (qB hw);let c0:=v.cr _ (HL ..);let c1:CR (fol es ts) (2*es.length) (left::(B++A)):=c0.turn (List.cons_ne_nil _ _);let r:=v.swap c1 (Jw:((left::B)++A).Perm (A++left::B));let G:=c1.lt left (HL ..);let x tl z o:=c1.ch
 cases z
 let p q:=g.leaf G c1 o Y D e1 r;refine#[p,?_];clear p;generalize ts.set one (ins l (l.idxOf (left/2)+1) es.length)++[[es.length]]=ts' at q ⊢;generalize bX es.length e one=b at q ⊢;generalize bX es.length e m=c at q ⊢;let t:CR (fol (es++[e]) ts') (2*(es++[e]).length) (A++left::b::c::B):=by
  let h:=q.cr _ (HL ..);by_cases s:A=[]
  .subst s;rw[Kl]at h;exact h
  .let J:CR (fol (es++[e]) ts') (2*(es++[e]).length) ((left::b::c::B)++A):=h
   exact J.turn s
 let k:=q.swap t (Jw:(A++(left::b::c::B)).Perm ((left::b::c::B)++A));exact k.perm (xW i _)
inductive E1(K:HE)(vs:List L2.V)(H:L2.Hp)(Q:L2.VK)(x3_:L2.XK):Prop
 |mk (pt q:Addr)(xs:List V)(p d n:Nat)(l:List Nat) (h0_:vs=[.ref pt,.int (p:Int),.int (d:Int),.int (n:Int)])(h1_:SqL K H pt xs)(h2_:xs[p]?=Z (.ref q))(h3_:H q=Z (.lst (l.map iV)))(h4_:d/2∈l)(h5_:l.length<=70)(h6_:(∀ x∈l,x<1000))(h7_:Q .non (upd H q (.lst ((ins l (l.idxOf (d/2)+1) n).map iV))))
theorem o8:ay ["turns","place","behind","fresh","row"] ["turns","place","behind","fresh"] (ar nQ):=by ac_nf
theorem ok_put(F:Fun K "_law_put" "_law_put" nQ f fd):FnOk P w K mg base CX0 1 f fd ["turns","place","behind","fresh"] (E1 K):=by
 refine F.ok o8 (by walk_at "l") λY A o s H g Q E O h=>?_
 let pt q j p d n l rfl v J C hd a b y:=h;let e:l.idxOf (d/2)<l.length:=Mb hd;let u:(l.map iV).length=l.length:=HD ..;let c:(d:Int)/2=((d/2:Nat):Int):=by omega
 refine#[_,(ag (aA 4 o8.nd (aV (pv 0) (pv 1)))
   (ak (aO (d9 HZ Mj Mi sY (pv 4) (ae (aw br (d9 HZ Mq Mo yb (pv 4) (ae (aw b9 (pv 2) aj) ah)) aj) (ae (pv 3) ah)))))),?_]
 refine#[_,U,_,U,pt,j,_,_,U,U,v,ax J,?_];refine#[_,U,.inl #[U,_,SqL.of C],_,U,.inl #[U,_,SqL.of C],_,U,_,_,U,U,#[by decide,by decide],q,l,d/2,U,congrArg (λz=>[V.int z]) c,SqL.of C,λp M=>by let:=b p M;omega,∅,hd,_,_,U,U,_,U,q,_,_,_,U,U,C,∅,∅,aq ∅,?_]
 rw[insV,show(((l.idxOf (d/2):Nat):Int)+1).toNat=l.idxOf (d/2)+1 by omega]
 exact y
structure GwC(S:Addr->Prop)(H:Hp)(pe pt pr:Addr)(ys xs zs:List V)(es:En)(ts rg:List (List Nat)):Prop where
 he:H pe=Z (.lst ys)
 en:cM H ys es
 ht:H pt=Z (.lst xs)
 rx:bg (λp=>p=pe∨p=pt∨p=pr∨S p) H xs ts
 di:Dist xs
 hr:H pr=Z (.lst zs)
 rz:bg (λp=>(p=pe∨p=pt∨p=pr)∨V.ref p∈xs∨S p) H zs rg
 ne:pe≠pt/\pe≠pr/\pt≠pr/\¬ S pe/\¬ S pt/\¬ S pr
 sl:∀ p,S p->H p≠none
def Keep(S:Addr->Prop)(H H':Hp):Prop:=∀ p o,S p->H p=Z o->H' p=Z o
theorem Keep.trans{S:Addr->Prop}(a:Keep S H H1)(b:Keep S H1 H2):Keep S H H2:=λp o s h=>b p o s (a p o s h)
theorem Keep.of{S:Addr->Prop}(a:Same H H1):Keep S H H1:=λp o _ h=>a p o h
theorem Keep.upd{S:Addr->Prop}{o:HO}(n:¬ S q):Keep S H (upd H q o):=λp u s h=>by rw[ao (show p≠q from λz=>n (z▸s))];exact h
theorem zU{S:Addr->Prop}(h:bg S H xs ts)(m:V.ref p∈xs):H p≠none:=by
 let i I:=IJ.mp m;let f:=(HB.mp I).1;let w g _ C:=h.2 i _ (Hz (by rw[← h.1];exact f))
 rw[I]at g;simp_all
section
variable{S:Addr->Prop}{H H':Hp}{pe pt pr:Addr}{ys xs zs:List V}{es:En}{ts rg:List (List Nat)}
theorem GwC.same(c:GwC S H pe pt pr ys xs zs es ts rg)(s:Same H H'):GwC S H' pe pt pr ys xs zs es ts rg :=
 #[s _ _ c.he,c.en.mono s,s _ _ c.ht,c.rx.mono λp o _ z=>s _ _ z,c.di,s _ _ c.hr,c.rz.mono λp o _ z=>s _ _ z,c.ne,λp w z=>by
  cases y:H p with
  |none=>exact c.sl p w y
  |some o=>rw[s _ _ y]at z;cases z]
theorem GwC.new(c:GwC S H pe pt pr ys xs zs es ts rg){b:Addr}(h:H b=none):b≠pe/\b≠pt/\b≠pr/\¬ S b/\V.ref b∉xs/\V.ref b∉zs :=
 #[λz=>(by rw[z,c.he]at h;cases h),λz=>(by rw[z,c.ht]at h;cases h),λz=>(by rw[z,c.hr]at h;cases h),λz=>c.sl b z h,λz=>zU c.rx z h,λz=>zU c.rz z h]
theorem GwC.put(c:GwC S H pe pt pr ys xs zs es ts rg){i:Nat}{q:Addr}(J:xs[i]?=Z (.ref q))(l':List Nat):GwC S (upd H q (.lst (l'.map iV))) pe pt pr ys xs zs es (ts.set i l') rg/\¬ S q:=by
 let f:i<ts.length:=by rw[← c.rx.1];exact(HB.mp J).1
 let T g s C:=c.rx.2 i _ (Hz f);rw[J]at g
 cases g
 let I:pe≠q:=λz=>s (.inl z.symm);let A:pt≠q:=λz=>s (.inr (.inl z.symm));let O:pr≠q:=λz=>s (.inr (.inr (.inl z.symm)));let B:¬ S q:=λz=>s (.inr (.inr (.inr z)));refine#[#[by rw[ao I];exact c.he,c.en.put C,by rw[ao A];exact c.ht,c.rx.set c.di J,c.di,by rw[ao O];exact c.hr,c.rz.mono λp o n z=>?_,c.ne,λp w z=>?_],B]
 .rw[ao (show p≠q from λy=>n (.inr (.inl (y▸HC J))))];exact z
 .rw[ao (show p≠q from λy=>B (y▸w))]at z;exact c.sl p w z
theorem GwC.updR(c:GwC S H pe pt pr ys xs zs es ts rg){a:List V}{rg':List (List Nat)}(hz:bg (λp=>(p=pe∨p=pt∨p=pr)∨V.ref p∈xs∨S p) H a rg'):GwC S (upd H pr (.lst a)) pe pt pr ys xs a es ts rg':=by
 let I A O B D E:=c.ne;refine#[by rw[ao A];exact c.he,c.en.put c.hr,by rw[ao O];exact c.ht,c.rx.mono λp o n z=>?_,c.di,af,hz.mono λp o n z=>?_,c.ne,λp w z=>?_]
 .rw[ao (λy=>n (.inr (.inr (.inl y))))];exact z
 .rw[ao (λy=>n (.inl (.inr (.inr y))))];exact z
 .rw[ao (show p≠pr from λy=>E (y▸w))]at z;exact c.sl p w z
theorem sJ{S:Addr->Prop}{H:Hp}{zs:List V}{rg:List (List Nat)}(h:bg S H zs rg){W:Nat}{b:Addr}{r:List Nat}(n:¬ S b)(e:H b=Z (.lst (r.map iV))):bg S H (zs.set W (.ref b)) (rg.set W r):=by
 refine#[by rw[IV,IV];exact h.1,λj l z=>?_]
 rw[IQ]at z ⊢;by_cases O:W=j
 .rw[NX O]at z ⊢;by_cases G:W<rg.length
  .rw[NX G]at z
   cases z
   exact#[b,by rw[NX (by rw[h.1];exact G)],n,e]
  .rw[NY G]at z;cases z
 .rw[NY O]at z ⊢;exact h.2 j l z
theorem GwC.leaf(c:GwC S H pe pt pr ys xs zs es ts rg){pn:Addr}(M:pn≠pe/\pn≠pt/\pn≠pr/\¬ S pn/\V.ref pn∉xs/\V.ref pn∉zs)(e:H pn=Z (.lst (l.map iV))):GwC S (upd H pt (.lst (xs++[.ref pn]))) pe pt pr ys (xs++[.ref pn]) zs es (ts++[l]) rg:=by
 let I A O B D E:=c.ne;let h v x L N Q:=M;let R:=c.rx.snoc (q:=pn) (l:=l) (by rintro(z|z|z|z);exact h z;exact v z;exact x z;exact L z) e
 refine#[by rw[ao I];exact c.he,c.en.put c.ht,af,R.mono λp o n z=>?_,λi j p C T=>?_,by rw[ao (Ne.symm O)];exact c.hr,#[c.rz.1,λi l G=>?_],c.ne,λp w z=>?_]
 .rw[ao (λy=>n (.inr (.inl y)))];exact z
 .let u:∀ k,(xs++[V.ref pn])[k]?=Z (.ref p)->(xs[k]?=Z (.ref p))∨(k=xs.length/\p=pn):=λk d=>by
   by_cases f:k<xs.length
   .rw[HH f]at d;exact .inl d
   .let:=(HB.mp d).1
    rw[HJ,Ik]at this;let J:k=xs.length:=by omega
    subst J;rw[HG (HF _),Iq]at d
    cases d
    exact .inr #[U,U]
  obtain a|⟨a,r⟩:=u i C
  .obtain b|⟨b,t⟩:=u j T
   .exact c.di i j p a b
   .exact NZ (t▸HC a) N
  .obtain b|⟨b,t⟩:=u j T
   .exact NZ (r▸HC b) N
   .rw[a,b]
 .let p g s m:=c.rz.2 i l G;refine#[p,g,?_,?_]
  .rintro(y|y|y)
   .exact s (.inl y)
   .obtain y|y:=HY.mp y
    .exact s (.inr (.inl y))
    .let:p=pn:=by
      let:=Ih.mp y
      cases this;rfl
     exact Q (this▸HC g)
   .exact s (.inr (.inr y))
  .rw[ao (λy=>s (.inl (.inr (.inl y))))];exact m
 .rw[ao (show p≠pt from λy=>D (y▸w))]at z;exact c.sl p w z
theorem GwC.fin(c:GwC S H pe pt pr ys xs zs es ts rg)(J:xs[i]?=Z (.ref q))(l':List Nat){t:Addr}(L:(upd H q (.lst (l'.map iV))) t=none)(e:Nat×Nat):
  GwC S (upd (upd (upd H q (.lst (l'.map iV))) t (.tup [iV e.1,iV e.2])) pe (.lst (ys++[.ref t]))) pe pt pr (ys++[.ref t]) xs zs (es++[e]) (ts.set i l') rg/\Keep S H (upd (upd (upd H q (.lst (l'.map iV))) t (.tup [iV e.1,iV e.2])) pe (.lst (ys++[.ref t]))):=by
 let c1 b:=c.put J l';let a:=ai L (.tup [iV e.1,iV e.2]);let c2:=c1.same a;let I A O B D E:=c.ne;refine#[#[af,(c2.en.snoc af).put c2.he,by rw[ao (Ne.symm I)];exact c2.ht,c2.rx.mono λp o n z=>?_,c2.di,by rw[ao (Ne.symm A)];exact c2.hr,c2.rz.mono λp o n z=>?_,c.ne,λp w z=>?_],?_]
 .rw[ao (λy=>n (.inl y))];exact z
 .rw[ao (λy=>n (.inl (.inl y)))];exact z
 .rw[ao (show p≠pe from λy=>B (y▸w))]at z;exact c2.sl p w z
 .exact((Keep.upd b).trans (Keep.of a)).trans (Keep.upd B)
end
def GwA(S:Addr->Prop)(H:Hp)(pe pt pr:Addr)(m:Nat)(es:En)(ts rg:List (List Nat)):Prop:=(∃ Y j d,GwC S H pe pt pr Y j d es ts rg)/\Gr m es ts/\Part (fol es ts) (2*es.length) rg
inductive stepT(D:L2.Ends)(σ:L2.St)(H:L2.Hp):Prop
 |mk (pe pt q rg:Addr)(v0 v3 v4 v5 v6 v7 v10 v15:Option V)(a L one two n o:Nat)(xs ys:List V)(ring l:List Nat) (h0_:σ=[v0,Z (.ref pe),Z (.ref pt),v3,v4,v5,v6,v7,Z (.ref rg),Z (.int (a:Int)),v10,Z (.int (one:Int)),Z (.int (two:Int)),Z (.int (n:Int)),Z (.int ((2*n+o:Nat):Int)),v15])(h1_:o<2)(h2_:H pt=Z (.lst xs))(h3_:xs[one]?=Z (.ref q))(h4_:H q=Z (.lst (l.map iV)))(h5_:L/2∈l)(h6_:l.length<=70)(h7_:(∀ x∈l,x<1000))(h8_:H rg=Z (.lst (ring.map iV)))(h9_:ring[a]?=Z L)(h10_:q≠pe)(h11_:H pe=Z (.lst ys))(h12_:ys.length<=70)(h13_:∀ t,(upd H q (.lst ((ins l (l.idxOf (L/2)+1) n).map iV))) t=none->D.nx σ (upd (upd (upd H q (.lst ((ins l (l.idxOf (L/2)+1) n).map iV))) t (.tup (if o=0 then[iV one,iV two] else[iV two,iV one]))) pe (.lst (ys++[.ref t]))))
def Hy(S:Addr->Prop)(H:Hp)(pe pt pr:Addr)(N P:Nat)(Q:Hp->Prop):Prop:=∀(d:Nat)(es':En)(ts' a:List (List Nat))(G:Hp),Keep S H G->GwA S G pe pt pr d es' ts' a->N<=es'.length->es'.length<=N+1->d<=P->Q G
inductive stepO(D:L2.Ends)(σ:L2.St)(H:L2.Hp):Prop
 |mk (S:Addr->Prop)(c:Int)(pe pt pr rq:Addr)(P m W a b:Nat)(v5 v7 v11 v12 v13 v14 v15:Option V)(ys xs zs:List V)(es:En)(ts rg:List (List Nat))(ring:List Nat) (h0_:σ=[Z (.int c),Z (.ref pe),Z (.ref pt),Z (.ref pr),Z (.int (P:Int)),v5,Z (.int (W:Int)),v7,Z (.ref rq),Z (.int (a:Int)),Z (.int (b:Int)),v11,v12,v13,v14,v15])(h1_:GwC S H pe pt pr ys xs zs es ts rg)(h2_:Gr m es ts)(h3_:Part (fol es ts) (2*es.length) rg)(h4_:es.length<=62)(h5_:m<=P)(h6_:zs[W]?=Z (.ref rq))(h7_:rg[W]?=Z ring)(h8_:H rq=Z (.lst (ring.map iV)))(h9_:a<=b)(h10_:b<ring.length)(h11_:(∀ σ',Hy S H pe pt pr es.length P (D.nx σ')))(h12_:Hy S H pe pt pr es.length P (D.rt .non))
theorem uI{r:List Nat}{a:Nat}(h:r[a]?=Z L):r.take (a+1)=r.take a++[L]:=by
 rw[Ie,h];rfl
theorem pR{r:List Nat}{a:Nat}(h:r[a]?=Z L):r=r.take a++L::r.drop (a+1):=by
 let:=(JT (a+1) r).symm;rw[uI h,JK]at this;exact this
theorem Ae{r:List Nat}{a b R:Nat}(h:r[a]?=Z L)(h2:r[b]?=Z R)(lt:a<b):r=r.take a++L::((r.drop (a+1)).take (b-a-1)++R::r.drop (b+1)):=by
 let e:(r.drop (a+1))[b-a-1]?=Z R:=by rw[Kv,show a+1+(b-a-1)=b by omega];exact h2
 let:=pR e;rw[List.drop_drop,show a+1+(b-a-1+1)=b+1 by omega]at this
 rw[← this];exact pR h
theorem mid_at{r:List Nat}{a b R:Nat}(h2:r[b]?=Z R)(lt:a<b):(r.drop (a+1)).take (b-a)=(r.drop (a+1)).take (b-a-1)++[R]:=by
 let e:(r.drop (a+1))[b-a-1]?=Z R:=by rw[Kv,show a+1+(b-a-1)=b by omega];exact h2
 rw[show b-a=b-a-1+1 by omega]
 exact uI e
theorem Hn{c:Nat}(h:c<=xs.length):cutV xs (Z (c:Int)) none=xs.drop c:=by
 unfold cutV;rw[HT.sIx_nat,JX h];show(xs.drop c).take (xs.length-c)=_;exact JA (by simp)
theorem Hm{c:Nat}(h:c<=xs.length):cutV xs none (Z (c:Int))=xs.take c:=by
 unfold cutV;rw[HT.sIx_nat,JX h];rfl
theorem Hl{c d:Nat}(h:c<=xs.length)(h2:d<=xs.length):cutV xs (Z (c:Int)) (Z (d:Int))=(xs.drop c).take (d-c):=by
 unfold cutV;rw[HT.sIx_nat,HT.sIx_nat,JX h,JX h2]
theorem dB{G:Hp}(sm:Same H G)(z:G p=none):H p=none:=by
 cases y:H p with
 |none=>rfl
 |some o=>rw[sm _ _ y]at z;cases z
theorem Ez{o x y:Nat}(b:o<2)(ne:x≠y):bX n (if o=0 then(x,y) else(y,x)) x=2*n+o/\bX n (if o=0 then(x,y) else(y,x)) y=2*n+1-o:=by
 by_cases z:o=0
 .subst z;rw[NX U];unfold bX;exact#[by simp_all,by simp_all]
 .let:o=1:=by omega
  subst this;rw[NY ∅]
  unfold bX;exact#[by rw[NY (Ne.symm ne)],by simp_all]
theorem ER{o x y:Nat}:HO.tup (if o=0 then[iV x,iV y] else[iV y,iV x])=HO.tup [iV (if o=0 then(x,y) else(y,x)).1,iV (if o=0 then(x,y) else(y,x)).2]:=by
 by_cases z:o=0
 .rw[NX z,NX z]
 .rw[NY z,NY z]
theorem AV{o x y:Nat}:(if o=0 then(x,y) else(y,x))=(x,y)∨(if o=0 then(x,y) else(y,x))=(y,x):=by
 by_cases z:o=0
 .exact .inl (NX z)
 .exact .inr (NY z)
theorem pB(g:Gr m es ts):m<=es.length+2:=by
 let v _ c:=g.part;omega
inductive EY(vs:List L2.V)(H:L2.Hp)(Q:L2.VK)(x3_:L2.XK):Prop
 |mk (S:Addr->Prop)(c:Int)(pe pt pr:Addr)(P m:Nat)(es:En)(ts rg:List (List Nat)) (h0_:vs=[.int c,.ref pe,.ref pt,.ref pr,.int (P:Int)])(h1_:GwA S H pe pt pr m es ts rg)(h2_:0<es.length)(h3_:es.length<=62)(h4_:m<=P)(h5_:Hy S H pe pt pr es.length P (Q .non))
theorem aU:ay ["cell","ends","turns","rings","places","mixed","which","rest","ring","a","b","one","two","fresh","out","back"] ["cell","ends","turns","rings","places"] (ar lT):=by ac_nf
theorem Gu{fp:Addr}{dp:FuncData}(F:Fun K "_law_step" "_law_step" lT f fd)(T:Txt mg)(a4:Cal P w K mg base 1 "_law_head" ["ends","dart"] (Ao K) p G)(a6:Cal P w K mg base 1 "_law_put" ["turns","place","behind","fresh"] (E1 K) fp dp):FnOk P w K mg base CX0 2 f fd ["cell","ends","turns","rings","places"] EY:=by
 refine F.ok aU (by walk_at "l") λaa A y s H vs Q E O h=>?_
 obtain⟨S,c,pe,pt,pr,P,m,N,ts,rg,rfl,⟨⟨I,xs,j,C⟩,g,part⟩,e0,am,mP,kk⟩:=h
 refine#[_,(ag (aA 5 aU.nd (aw bq (aw dS (aw bq (pv 0) aj) aj) aj))
   (ag (aA 6 aU.nd (aw bq (aw b9 (pv 5) aj) (az av (by rfl) T.n_len aX (ae (pv 3) ah))))
   (ag (aA 7 aU.nd (aw b9 (aw b9 (pv 5) aj) (az av (by rfl) T.n_len aX (ae (pv 3) ah))))
   (ag (aA 8 aU.nd (aV (pv 3) (pv 6)))
   (ag (aA 9 aU.nd (aw bq (pv 7) (az av (by rfl) T.n_len aX (ae (pv 8) ah))))
   (ag (aA 10 aU.nd (pv 9))
   (ag (bV (aB eG (aw bq (pv 5) aj) aj (aC _)) (ak (aA 10 aU.nd (aw br (pv 9) (aw bq (aw b9 (pv 7) (az av (by rfl) T.n_len aX (ae (pv 8) ah))) (aw iA (az av (by rfl) T.n_len aX (ae (pv 8) ah)) (pv 9)))))) aR)
   (lZ (t2:=stepO) (ag (aA 11 aU.nd (a4.c O (ae (pv 1) (ae (aV (pv 8) (pv 9)) ah))))
   (ag (aA 12 aU.nd (a4.c O (ae (pv 1) (ae (aV (pv 8) (pv 10)) ah))))
   (ag (aA 13 aU.nd (az av (by rfl) T.n_len aX (ae (pv 1) ah)))
   (ag (aA 14 aU.nd (aw br (aw dS aj (pv 13)) (aw bq (aw b9 (pv 0) aj) aj)))
   (ag (aA 15 aU.nd (aw iA (aw br (aw dS aj (pv 13)) aj) (pv 14)))
   (ag (bV (PW.pt (AH (aB eG (pv 11) (pv 12) (aC _)) (AG (aB Gs (az av (by rfl) T.n_len aX (ae (pv 2) ah)) (pv 4) (aC _))))) (ak Gd) aR)
   (ag (bV (aB eG (pv 11) (pv 12) (aC _)) (ag (aA 12 aU.nd (az av (by rfl) T.n_len aX (ae (pv 2) ah)))
   (ag (aO (d9 HZ Ij Ii aQ (pv 2) (ae (bw (ae (pv 13) ah)) ah)))
   (ak (mB (aw nZ (aw nZ (dA fJ (pv 8) iz (d7 (aw br (pv 9) aj))) (bw (ae (pv 14) (ae (pv 15) ah)))) (dA fJ (pv 8) (d7 (aw br (pv 9) aj)) iz)) (mC (pv 3) (pv 6) fj))))) (ag (aO (a6.c O (ae (pv 2) (ae (pv 12) (ae (aV (pv 8) (pv 10)) (ae (pv 13) ah))))))
   (ag (mB (aw nZ (aw nZ (dA fJ (pv 8) iz (d7 (aw br (pv 9) aj))) (bw (ae (pv 14) ah))) (dA fJ (pv 8) (d7 (aw br (pv 10) aj)) iz)) (mC (pv 3) (pv 6) fj))
   (ak (aO (d9 HZ Ij Ii aQ (pv 3) (ae (aw nZ (dA fJ (pv 8) (d7 (aw br (pv 9) aj)) (d7 (aw br (pv 10) aj))) (bw (ae (pv 15) ah))) ah)))))))
   (lZ (t2:=stepT) (ag (aO (a6.c O (ae (pv 2) (ae (pv 11) (ae (aV (pv 8) (pv 9)) (ae (pv 13) ah))))))
   (ak (bV (aB eG (aw bq (pv 14) aj) aj (aC _)) (ak (aO (d9 HZ Ij Ii aQ (pv 1) (ae (cR (ae (pv 11) (ae (pv 12) ah))) ah)))) (ak (aO (d9 HZ Ij Ii aQ (pv 1) (ae (cR (ae (pv 12) (ae (pv 11) ah))) ah))))))) (λD0 S0 H0 h0=>?restp))))))))) (λD0 S0 H0 h0=>?resto))))))))),?_]
 case restp =>
  let pe pt q rg v0 v3 v4 v5 v6 v7 an cQ a L one two n o xs I ring l rfl o2 aW J hq hL bU lb cT cl cU ap dt kk:=h0;let co:(ring.map iV)[a]?=Z (iV L):=by simp[*]
  refine#[_,U,_,U,_,U,_,U,rg,_,_,_,U,U,SqL.of cT,ax co,_,U,pt,q,xs,one,L,n,l,U,SqL.of aW,J,hq,hL,bU,lb,?_];let bB:(upd H0 q (.lst ((ins l (l.idxOf (L/2)+1) n).map iV))) pe=Z (.lst I):=by rw[ao (Ne.symm cU)];exact ap
  refine#[_,U,_,_,U,U,(by show(0:Int)<2;decide),U,_,U,ite2 (λc=>?_) (λc=>?_)]
  .let c':((2*n+o:Nat):Int)%2=0:=V.int.inj (NO c)
   let o0:o=0:=by ac_rfl
   refine#[_,U,.inl #[U,_,SqL.of bB],_,U,_,U,(by show 2<=Mz;decide),λt i=>#[pe,I,_,U,U,ai i _ _ _ bB,aq (by ac_rfl),?_]]
   let:=kk t i;rw[NX o0]at this;exact this
  .let c':¬ ((2*n+o:Nat):Int)%2=0:=λz=>c (Ni (congrArg V.int z))
   let o0:¬ o=0:=by ac_rfl
   refine#[_,U,.inl #[U,_,SqL.of bB],_,U,_,U,(by show 2<=Mz;decide),λt i=>#[pe,I,_,U,U,ai i _ _ _ bB,aq (by ac_rfl),?_]]
   let:=kk t i;rw[NY o0]at this;exact this
 case resto =>
  clear C g part kk mP am e0;let S c pe pt pr rq P m W a b v5 v7 aT bZ dv dw cQ I xs j N ts rg ring rfl C g part am mP cW bJ be ab bl kN kR:=h0;let wf:=g.w;let mf:=pB g;let cr:=part.cr ring (HC bJ);let L hL:∃ L,ring[a]?=Z L:=#[_,Hz (by ac_rfl)]
  let R hR:∃ R,ring[b]?=Z R:=#[_,Hz bl];let cp:=cr.lt L (HC hL);let cq:=cr.lt R (HC hR);let yl:I.length=N.length:=C.en.1;let xl:xs.length=m:=by rw[C.rx.1,wf.len]
  let c7:(ring.map iV)[a]?=Z (iV L):=by simp[*]
  let cs:(ring.map iV)[b]?=Z (iV R):=by rw[HN,hR];rfl
  let aS:(ring.map iV).length=ring.length:=HD _;let da:ring.length<=2*N.length:=cZ cr.nd cr.lt;let _ l _ _ _ k4 k5 k6:=wf.at cp;let _ l' _ _ _ dx cd db:=wf.at cq;let a5 f1:=lM wf am k5;let dc f2:=lM wf am cd;let p1 y1 y2 y3:=C.rx.2 _ _ k5;let p2 z1 z2 z3:=C.rx.2 _ _ cd;let dy a1 a2 a3:=C.rz.2 _ _ bJ;rw[cW]at a1
  cases a1
  let n1 n2 n3 n4 n5 n6:=C.ne;let o ho o2:∃ o:Nat,c/3%2=(o:Int)/\o<2:=#[(c/3%2).toNat,by ac_rfl,by ac_rfl]
  let dd:rq≠pt:=λz=>a2 (.inl (.inr (.inl z)));let ce:rq≠pr:=λz=>a2 (.inl (.inr (.inr z)));let df:V.ref rq∉xs:=λz=>a2 (.inr (.inl z));refine#[_,U,_,U,_,U,rq,_,_,_,U,U,SqL.of be,ax c7,pe,I,N,L,U,SqL.of C.he,C.en,cp,?_];refine#[_,U,_,U,_,U,rq,_,_,_,U,U,SqL.of be,ax cs,pe,I,N,R,U,SqL.of C.he,C.en,cq,?_];refine#[_,U,pe,I,U,.inl (SqL.of C.he),?_];refine#[_,U,_,_,U,U,.inl #[by decide,by decide],_,U,_,_,U,U,#[by decide,by decide],_,_,U,U,(by show(0:Int)<2;decide),_,_,U,U,?_]
  refine#[_,U,_,_,U,U,.inl #[by decide,by decide],_,_,U,U,_,U,_,_,U,U,?_]
  let v:4*(N.length:Int)+1-(2*(N.length:Int)+(o:Int))=((2*N.length+1-o:Nat):Int):=by ac_rfl
  let u:2*(N.length:Int)+(o:Int)=((2*N.length+o:Nat):Int):=by ac_rfl
  rw[ho,yl];dsimp only;rw[v,u];let ca:cutV (ring.map iV) none (Z ((a:Int)+1))=((ring.take a++[L]).map iV):=by
   rw[show(a:Int)+1=((a+1:Nat):Int) by ac_rfl,Hm (by rw[aS];ac_rfl),← uI hL,KH]
  let cb:∀ x,x<ring.length->cutV (ring.map iV) (Z ((x:Int)+1)) none=((ring.drop (x+1)).map iV):=λx J=>by
   rw[show(x:Int)+1=((x+1:Nat):Int) by ac_rfl,Hn (by rw[aS];ac_rfl),KI]
  let zl:j.length=rg.length:=C.rz.1;let ct:rg.length<=N.length+2:=by
   let rs k q2:=g.part;let:=part.same k;ac_rfl
  let Wl:W<rg.length:=(HB.mp bJ).1;refine#[_,U,_,U,U,_,U,ite2 (λB=>?_) (λB=>?_)]
  .refine#[_,U,pt,xs,U,.inl (SqL.of C.ht),_,U,_,_,U,U,_,U,ite2 (λD=>?_) (λD=>?_)]
   .exact kR m N ts rg H0 (Keep.of (λ_ _ z=>z)) #[#[I,xs,j,C],g,part] (HF _) (Kh _) mP
   let bi:m<P:=by
    by_cases z:m<P
    .exact z
    .exact NZ (Ni (by rw[xl];ac_rfl)) D
   refine#[_,U,_,U,U,_,U,ite2 (λ_=>?_) (λz=>NZ B z)];refine#[_,U,pt,xs,U,.inl (SqL.of C.ht),?_];refine#[_,U,.inl #[U,_,SqL.of C.ht],_,U,(by show 1<=Mz;decide),λpn aI=>#[pt,xs,_,U,U,ai aI _ _ _ C.ht,aq (by ac_rfl),?_]]
   let sn:=ai aI (.lst [V.int (N.length:Int)]);let C1:=(C.same sn).leaf (C.new aI) (l:=[N.length]) af;let cu:=sn _ _ be;let a0:(upd (upd H0 pn (.lst [V.int (N.length:Int)])) pt (.lst (xs++[.ref pn]))) rq=Z (.lst (ring.map iV)):=by rw[ao dd];exact cu
   let bK:Keep S H0 (upd (upd H0 pn (.lst [V.int (N.length:Int)])) pt (.lst (xs++[.ref pn]))):=(Keep.of sn).trans (Keep.upd n5);generalize dg:upd (upd H0 pn (.lst [V.int (N.length:Int)])) pt (.lst (xs++[.ref pn]))=G1 at C1 a0 bK;refine#[_,U,_,U,_,_,U,U,_,U,rq,_,U,SqL.of a0,λb1 bP=>?_];rw[ca];let t1:=ai bP (.lst ((ring.take a++[L]).map iV));refine#[_,U,_,U,(by show 2<=Mz;decide),λb2 bQ=>?_]
   let t2:=ai bQ (.lst ([2*N.length+o,2*N.length+1-o].map iV));refine#[b1,b2,(ring.take a++[L]).map iV,[2*N.length+o,2*N.length+1-o].map iV,U,U,SqL.of (t2 _ _ af),SqL.of af,(by rw[HD,HD,HJ,IC];exact Ia (aq (by simp;ac_rfl))),λb3 bm=>?_]
   let t3:=ai bm (.lst ((ring.take a++[L]).map iV++[2*N.length+o,2*N.length+1-o].map iV));let bR:=(t1.trans t2).trans t3;refine#[_,U,_,U,_,_,U,U,_,U,rq,_,U,SqL.of (bR _ _ a0),λb4 ch=>?_];rw[cb a (by ac_rfl)]
   let t4:=ai ch (.lst ((ring.drop (a+1)).map iV));refine#[b3,b4,_,_,U,U,SqL.of (t4 _ _ af),SqL.of af,(by rw[HJ,HD,HD,HJ,IC,HD,Kc];exact Ia (aq (by simp;ac_rfl))),λb5 bS=>?_]
   let bn:(ring.take a++[L]).map iV++[2*N.length+o,2*N.length+1-o].map iV++(ring.drop (a+1)).map iV=(ring.take a++L::(2*N.length+o)::(2*N.length+1-o)::ring.drop (a+1)).map iV:=by simp
   rw[bn];let t5:=ai bS (.lst ((ring.take a++L::(2*N.length+o)::(2*N.length+1-o)::ring.drop (a+1)).map iV));let bT:=bR.trans t4;let bv:=bT.trans t5;let C5:=C1.same bv;let w1 w2 w3 w4 w5 w6:=C1.new (dB bT bS);let C6:=C5.updR (sJ C5.rz (W:=W) (b:=b5) (by rintro((z|z|z)|z|z);exact w1 z;exact w2 z;exact w3 z;exact w5 z;exact w4 z) af)
   refine#[_,U,_,U,pr,j,_,W,U,U,C5.hr,iP (by ac_rfl),?_]
   let bf:=(ao (o:=.lst (j.set W (.ref b5))) ce).trans (bv _ _ a0);let bb:=(bK.trans (Keep.of bv)).trans (Keep.upd (q:=pr) (o:=.lst (j.set W (.ref b5))) n6);let cv:hd N L<ts.length:=by rw[wf.len];exact k4
   let ci u1 u2 u3:=C6.rx.2 (hd N L) l (by rw[HH cv];exact k5)
   refine#[pe,pt,ci,rq,_,_,_,_,_,_,_,_,a,L,hd N L,xs.length,N.length,o,xs++[.ref pn],I,ring,l,U,o2,C6.ht,u1,u3,k6,by ac_rfl,λx J=>by let:=a5 x J;ac_rfl,bf,hL,λz=>u2 (.inl z),C6.he,by ac_rfl,λt i=>?_]
   let C7 di:=C6.fin u1 (ins l (l.idxOf (L/2)+1) N.length) i (if o=0 then(hd N L,xs.length) else(xs.length,hd N L));rw[ER];let ac:hd N L≠xs.length:=by ac_rfl
   let hS:=Ac (e:=if o=0 then(hd N L,xs.length) else(xs.length,hd N L)) (w:=W) g part (bJ.trans (congrArg Z (pR hL))) U (by rw[xl];exact AV) k5
   rw[← xl,(Ez o2 ac).1,(Ez o2 ac).2]at hS;rw[List.set_append_left _ _ cv]at C7;exact kN _ (xs.length+1) _ _ _ _ (bb.trans di) #[#[_,_,_,C7],hS.1,hS.2] (by rw[HJ];ac_rfl) (by rw[HJ];exact HF _) (by ac_rfl)
  .refine iteF ?_;refine#[_,U,_,U,U,_,U,ite2 (λz=>NZ z B) (λ_=>?_)];let ac:hd N L≠hd N R:=λz=>B (Ni (by rw[z]))
   let cw:a<b:=by
    obtain z|z:=Nat.lt_or_ge a b
    .exact z
    .let:a=b:=by ac_rfl
     subst this;rw[hL]at hR
     cases hR
     exact NZ U ac
   refine#[_,U,_,U,_,U,_,U,rq,_,_,_,U,U,SqL.of be,ax cs,_,U,pt,p2,xs,hd N R,R,N.length,l',U,SqL.of C.ht,z1,z3,db,by ac_rfl,λx J=>by let:=dc x J;ac_rfl,?_]
   let C1 bC:=C.put z1 (ins l' (l'.idxOf (R/2)+1) N.length);let a0:(upd H0 p2 (.lst ((ins l' (l'.idxOf (R/2)+1) N.length).map iV))) rq=Z (.lst (ring.map iV)):=by rw[ao (show rq≠p2 from λz=>df (z▸HC z1))];exact be
   let bK:Keep S H0 (upd H0 p2 (.lst ((ins l' (l'.idxOf (R/2)+1) N.length).map iV))):=Keep.upd bC;generalize dg:upd H0 p2 (.lst ((ins l' (l'.idxOf (R/2)+1) N.length).map iV))=G1 at C1 a0 bK;refine#[_,U,_,U,_,_,U,U,_,U,rq,_,U,SqL.of a0,λb1 bP=>?_];rw[ca];let t1:=ai bP (.lst ((ring.take a++[L]).map iV));refine#[_,U,(by show 1<=Mz;decide),λb2 bQ=>?_]
   let t2:=ai bQ (.lst ([2*N.length+o].map iV));refine#[b1,b2,(ring.take a++[L]).map iV,[2*N.length+o].map iV,U,U,SqL.of (t2 _ _ af),SqL.of af,(by rw[HD,HD,HJ,IC];exact Ia (aq (by simp;ac_rfl))),λb3 bm=>?_]
   let t3:=ai bm (.lst ((ring.take a++[L]).map iV++[2*N.length+o].map iV));let bR:=(t1.trans t2).trans t3;refine#[_,U,_,U,_,_,U,U,_,U,rq,_,U,SqL.of (bR _ _ a0),λb4 ch=>?_];rw[cb b bl];let t4:=ai ch (.lst ((ring.drop (b+1)).map iV));refine#[b3,b4,_,_,U,U,SqL.of (t4 _ _ af),SqL.of af,(by rw[HJ,HD,HD,HJ,IC,HD,Kc];exact Ia (aq (by simp;ac_rfl))),λb5 bS=>?_]
   let bn:(ring.take a++[L]).map iV++[2*N.length+o].map iV++(ring.drop (b+1)).map iV=(ring.take a++L::(2*N.length+o)::ring.drop (b+1)).map iV:=by simp
   rw[bn];let t5:=ai bS (.lst ((ring.take a++L::(2*N.length+o)::ring.drop (b+1)).map iV));let bT:=bR.trans t4;let bv:=bT.trans t5;let C5:=C1.same bv;let w1 w2 w3 w4 w5 w6:=C1.new (dB bT bS);let C6:=C5.updR (sJ C5.rz (W:=W) (b:=b5) (by rintro((z|z|z)|z|z);exact w1 z;exact w2 z;exact w3 z;exact w5 z;exact w4 z) af)
   refine#[_,U,_,U,pr,j,_,W,U,U,C5.hr,iP (by ac_rfl),?_]
   let bf:=(ao (o:=.lst (j.set W (.ref b5))) ce).trans (bv _ _ a0);let bb:=(bK.trans (Keep.of bv)).trans (Keep.upd (q:=pr) (o:=.lst (j.set W (.ref b5))) n6);generalize dz:upd _ pr (HO.lst (j.set W (.ref b5)))=G6 at C6 bf bb;refine#[_,U,.inl #[U,_,SqL.of C6.hr],_,U,_,U,_,_,U,U,_,U,_,U,_,_,U,U,_,U,rq,_,U,SqL.of bf,λb6 dn=>?_];let cy:cutV (ring.map iV) (Z ((a:Int)+1)) (Z ((b:Int)+1))=(((ring.drop (a+1)).take (b-a-1)++[R]).map iV):=by
    rw[show(a:Int)+1=((a+1:Nat):Int) by ac_rfl,show(b:Int)+1=((b+1:Nat):Int) by ac_rfl,Hl (by rw[aS];ac_rfl) (by rw[aS];ac_rfl),← mid_at hR cw,KH,KI,show b+1-(a+1)=b-a by ac_rfl]
   rw[cy];let t6:=ai dn (.lst (((ring.drop (a+1)).take (b-a-1)++[R]).map iV));refine#[_,U,(by show 1<=Mz;decide),λb7 dq=>?_]
   let t7:=ai dq (.lst ([2*N.length+1-o].map iV));refine#[b6,b7,((ring.drop (a+1)).take (b-a-1)++[R]).map iV,[2*N.length+1-o].map iV,U,U,SqL.of (t7 _ _ af),SqL.of af,(by rw[HD,HD,HJ,IC,Kc];exact Ia (aq (by simp;ac_rfl))),λb8 cB=>?_]
   let b0:((ring.drop (a+1)).take (b-a-1)++[R]).map iV++[2*N.length+1-o].map iV=((ring.drop (a+1)).take (b-a-1)++[R,2*N.length+1-o]).map iV:=by simp
   rw[b0];let t8:=ai cB (.lst (((ring.drop (a+1)).take (b-a-1)++[R,2*N.length+1-o]).map iV));let cD:=t6.trans t7;let ck:=cD.trans t8;let C8:=C6.same ck;let x1 x2 x3 x4 x5 x6:=C6.new (dB cD cB);let C9:=C8.updR (C8.rz.snoc (q:=b8) (by rintro((z|z|z)|z|z);exact x1 z;exact x2 z;exact x3 z;exact x5 z;exact x4 z) af)
   refine#[pr,j.set W (.ref b5),_,U,U,C8.hr,aq (by rw[IV];ac_rfl),?_]
   let cF:=(ao (o:=.lst (j.set W (.ref b5)++[.ref b8])) ce).trans (ck _ _ bf);let dr:=(bb.trans (Keep.of ck)).trans (Keep.upd (q:=pr) (o:=.lst (j.set W (.ref b5)++[.ref b8])) n6);let ci u1 u2 u3:=C9.rx.2 (hd N L) l (by rw[Lv (Ne.symm ac)];exact k5)
   refine#[pe,pt,ci,rq,_,_,_,_,_,_,_,_,a,L,hd N L,hd N R,N.length,o,xs,I,ring,l,U,o2,C9.ht,u1,u3,k6,by ac_rfl,λx J=>by let:=a5 x J;ac_rfl,cF,hL,λz=>u2 (.inl z),C9.he,by ac_rfl,λt i=>?_]
   let cG cK:=C9.fin u1 (ins l (l.idxOf (L/2)+1) N.length) i (if o=0 then(hd N L,hd N R) else(hd N R,hd N L));rw[ER];let hS:=Ad (e:=if o=0 then(hd N L,hd N R) else(hd N R,hd N L)) (w:=W) g part (bJ.trans (congrArg Z (Ae hL hR cw))) U U ac AV k5 cd;rw[(Ez o2 ac).1,(Ez o2 ac).2]at hS;rw[List.set_comm _ _ (Ne.symm ac)]at cG;exact kN _ m _ _ _ _ (dr.trans cK) #[#[_,_,_,cG],hS.1,hS.2] (by rw[HJ];ac_rfl) (by rw[HJ];exact HF _) mP
 let zl:j.length=rg.length:=C.rz.1;let mf:=pB g;let dC:0<rg.length:=by
  obtain z|z:=Nat.eq_zero_or_pos rg.length
  .let:=part.all 0 (by ac_rfl)
   simp_all
  .exact z
 let ct:rg.length<=N.length+2:=by
  let rs k q2:=g.part;let:=part.same k;ac_rfl
 refine#[_,U,_,_,U,U,(by show(0:Int)<1000000007;decide),_,_,U,U,.inr #[by decide,by decide],_,_,U,U,(by show(0:Int)<2147483647;decide),?_]
 let o0:(0:Int)<=c%1000000007*48271%2147483647:=Jy _ ∅
 let o1:c%1000000007*48271%2147483647<2147483647:=Jz _ ∅
 refine#[_,U,_,_,U,U,#[by decide,by decide],_,U,pr,j,U,.inl (SqL.of C.hr),_,_,U,U,(by show(0:Int)<(j.length:Int);ac_rfl),?_]
 refine#[_,U,_,_,U,U,#[by decide,by decide],_,U,pr,j,U,.inl (SqL.of C.hr),_,_,U,U,#[(by ac_rfl),(by show(j.length:Int)<1073741824;ac_rfl)],?_]
 dsimp only;generalize c%1000000007*48271%2147483647=M at o0 o1;let W hW Wl:∃ W:Nat,M/2%(j.length:Int)=(W:Int)/\W<rg.length:=by
  let h0:=Jy (M/2) (show(j.length:Int)≠0 by ac_rfl)
  let Y:=Jz (M/2) (show(0:Int)<(j.length:Int) by ac_rfl)
  exact#[_,(Jm h0).symm,by ac_rfl]
 let R hR:∃ R:Nat,M/2/(j.length:Int)=(R:Int):=#[_,(Jm (Int.ediv_nonneg (by ac_rfl) (by ac_rfl))).symm]
 rw[hW,hR];let ring ba:∃ r,rg[W]?=Z r:=#[_,Hz Wl];let rq k q2 q3:=C.rz.2 W ring ba;let cr:=part.cr ring (HC ba);let da:ring.length<=2*N.length:=cZ cr.nd cr.lt;let aS:(ring.map iV).length=ring.length:=HD _;let ds:0<ring.length:=by
  let d hd:=cr.ne;exact JB hd
 let a7:(0:Int)<((ring.map iV).length:Int):=by ac_rfl
 refine#[_,U,_,U,pr,j,_,_,U,U,SqL.of C.hr,ax k,?_];refine#[_,U,_,U,rq,_,U,.inl (SqL.of q3),_,_,U,U,a7,?_];dsimp only;let a u al:∃ a:Nat,(R:Int)%((ring.map iV).length:Int)=(a:Int)/\a<ring.length:=by
  let h0:=Jy (R:Int) (show((ring.map iV).length:Int)≠0 by ac_rfl)
  let Y:=Jz (R:Int) a7;exact#[_,(Jm h0).symm,by ac_rfl]
 rw[u];refine#[_,U,?_];refine#[_,U,_,_,U,U,(by show(0:Int)<2;decide),U,_,U,ite2 (λc1=>?_) (λc1=>?_)]
 .let cc:(0:Int)<((ring.map iV).length:Int)-(a:Int):=by ac_rfl
  refine#[_,U,_,U,_,U,rq,_,U,.inl (SqL.of q3),_,_,U,U,#[a7,(by show((ring.map iV).length:Int)<1073741824;ac_rfl)],_,U,rq,_,U,.inl (SqL.of q3),_,U,_,_,U,U,_,_,U,U,cc,_,_,U,U,?_]
  dsimp only;let d hd dl:∃ d:Nat,(R:Int)/((ring.map iV).length:Int)%(((ring.map iV).length:Int)-(a:Int))=(d:Int)/\a+d<ring.length:=by
   let h0:=Jy ((R:Int)/((ring.map iV).length:Int)) (show((ring.map iV).length:Int)-(a:Int)≠0 by ac_rfl)
   let Y:=Jz ((R:Int)/((ring.map iV).length:Int)) cc;exact#[_,(Jm h0).symm,by ac_rfl]
  rw[hd,show(a:Int)+(d:Int)=((a+d:Nat):Int) by ac_rfl]
  exact#[S,c,pe,pt,pr,rq,P,m,W,a,a+d,_,_,_,_,_,_,_,I,xs,j,N,ts,rg,ring,U,C,g,part,am,mP,k,ba,q3,by ac_rfl,dl,λ_=>kk,kk]
 .exact#[S,c,pe,pt,pr,rq,P,m,W,a,a,_,_,_,_,_,_,_,I,xs,j,N,ts,rg,ring,U,C,g,part,am,mP,k,ba,q3,HF _,al,λ_=>kk,kk]
inductive Al(vs:List L2.V)(H:L2.Hp)(Q:L2.VK)(x3_:L2.XK):Prop
 |mk (c:Int)(m:Nat) (h0_:vs=[.int c,.int (m:Int)])(h1_:m<=100)(h2_:∀(q:Addr)(o:List Nat)(H':Hp),Same H H'->H q=none->H' q=Z (.lst (o.map iV))->o.length=m->o.Nodup->(∀ x∈o,x<m)->Q (.ref q) H')
inductive xI(K:HE)(vs:List L2.V)(H:L2.Hp)(Q:L2.VK)(x3_:L2.XK):Prop
 |mk (a:Addr)(P:Nat)(cs:List Int) (h0_:vs=[.ref a,.int (P:Int)])(h1_:SqL K H a (cs.map V.int))(h2_:cs.length<=62)(h3_:2<=P)(h4_:∀(t pe pt pr:Addr)(m:Nat)(es:En)(ts rg:List (List Nat))(H':Hp),Same H H'->H' t=Z (.tup [.ref pe,.ref pt,.ref pr])->GwA (λp=>H p≠none) H' pe pt pr m es ts rg->0<es.length->es.length<=cs.length+1->m<=P->Q (.ref t) H')
theorem Dv:Part (fol [(0,1)] [[0],[0]]) 2 [[0,1]]:=by
 refine#[λr O=>?_,∅,λd hd=>?_]
 .let:r=[0,1]:=by simpa using O
  subst this;exact#[#[0,[1],U,∅,(by show fol [(0,1)] [[0],[0]] 1=0;decide)],λd hd=>by simp at hd ⊢;omega,by decide]
 .grind
theorem Keep.same(s:Same H H1)(k:Keep (λp=>H p≠none) H1 H2):Same H H2:=λp o h=>k p o (λz=>by simp_all) (s p o h)
theorem dP:ay ["cell","many","order","mixed","k"] ["cell","many"] (ar jM):=by ac_nf
theorem DF(F:Fun K "_law_order" "_law_order" jM f fd)(T:Txt mg):FnOk P w K mg base CX0 1 f fd ["cell","many"] Al:=by
 refine F.ok dP (by walk_at "l") λY A v s H g Q E O h=>?_
 let c m rfl y k:=h
 refine#[_,(ag (aA 2 dP.nd (bw ah))
   (ag (aA 3 dP.nd (aw bq (pv 0) aj))
   (ag (bc PassesOwn.never U (aN U T.n_range (ae (pv 1) ah)) (bO 4 dP.nd) (ag (aA 3 dP.nd (aw bq (aw br (aw dS (pv 3) aj) (aw dS aj (pv 4))) aj))
   (ak (aO (d9 HZ Mj Mi sY (pv 2) (ae (aw bq (pv 3) (aw br (pv 4) aj)) (ae (pv 4) ah)))))))
   (ak (aE (pv 2)))))),?_]
 refine#[(by show 0<=Mz;decide),λq C=>?_]
 refine#[_,U,_,_,U,U,(by show(0:Int)<1000000007;decide),?_]
 refine#[_,U,_,U,∅,∅,bE (n:=(m:Int).toNat) (λi d u=>∃(M:Int),∃ b o,d=[Z (.int c),Z (.int (m:Int)),Z (.ref q),Z (.int M),b]/\Same H u/\u q=Z (.lst (o.map iV))/\o.length=i/\o.Nodup/\∀ x∈o,x<i) #[_,_,[],U,ai C _,af,U,JF,λx J=>nomatch J] ?_ ?_]
 .rintro i d u I ⟨M,b,o,rfl,t,e,N,G,lt⟩;rw[HP]at I;let a:(0:Int)+(i:Int)=(i:Int):=Jl _;rw[a];let D:(o.map iV).length=i:=by rw[HD];exact N
  refine#[_,U,_,_,U,U,.inr #[by decide,by decide],_,U,_,_,U,U,.inl #[by decide,by decide],_,_,U,U,_,_,U,U,(by show(0:Int)<2147483647;decide),?_]
  refine#[_,U,.inl #[U,_,SqL.of e],_,U,_,U,_,_,U,U,_,_,U,U,(by show(0:Int)<(i:Int)+1;omega),_,U,q,_,_,_,U,U,e,(Fg _ _).1,(by rw[D];exact(Fg _ _).2),aq ∅,?_]
  rw[insV];refine#[_,_,_,U,aH t C _,af,by rw[G4,N],BB G λz=>by let:=lt i z;omega,λx J=>?_]
  obtain z|z:=vI.mp J
  .omega
  .let:=lt x z;omega
 .rintro d u ⟨M,b,o,rfl,t,e,N,G,lt⟩;rw[HP]at N lt;exact#[_,U,k q o u t C e N G lt]
theorem dQ:ay ["cells","places","ends","turns","rings","cell"] ["cells","places"] (ar jQ):=by ac_nf
theorem DN{fs:Addr}{ds:FuncData}(F:Fun K "_law_grown" "_law_grown" jQ f fd)(a0:Cal P w K mg base 2 "_law_step" ["cell","ends","turns","rings","places"] EY fs ds):FnOk P w K mg base CX0 3 f fd ["cells","places"] (xI K):=by
 refine F.ok dQ (by walk_at "l") λr A v s H k Q E O h=>?_
 let a P cs rfl hS ca P2 D:=h;let a6:(cs.map V.int).length=cs.length:=HD _
 refine#[_,(ag (aA 2 dQ.nd (bw (ae (cR (ae aj (ae aj ah))) ah)))
   (ag (aA 3 dQ.nd (bw (ae (bw (ae aj ah)) (ae (bw (ae aj ah)) ah))))
   (ag (aA 4 dQ.nd (bw (ae (bw (ae aj (ae aj ah))) ah)))
   (ag (bc PassesOwn.never U (aP (pv 0)) (bO 5 dQ.nd) (ak (aO (a0.c O (ae (pv 5) (ae (pv 2) (ae (pv 3) (ae (pv 4) (ae (pv 1) ah)))))))))
   (ak (aE (cR (ae (pv 2) (ae (pv 3) (ae (pv 4) ah)))))))))),?_]
 refine#[(by show 2<=Mz;decide),λt0 a3=>#[(by show 1<=Mz;decide),λpe al=>?_]]
 refine#[(by show 1<=Mz;decide),λp0 bb=>#[(by show 1<=Mz;decide),λp1 an=>#[(by show 2<=Mz;decide),λpt aI=>?_]]]
 refine#[(by show 2<=Mz;decide),λr0 aT=>#[(by show 1<=Mz;decide),λpr ap=>?_]]
 let d:=ai a3 (.tup [.int 0,.int 1]);let q:=ai al (.lst [.ref t0]);let u:=ai bb (.lst [.int 0]);let s4:=ai an (.lst [.int 0]);let s5:=ai aI (.lst [.ref p0,.ref p1]);let s6:=ai aT (.lst [.int 0,.int 1]);let s7:=ai ap (.lst [.ref r0]);let aa:=d.trans q;let ac:=aa.trans u;let be:=ac.trans s4;let am:=be.trans s5;let a1:=am.trans s6;let aS:=a1.trans s7;let bf:=((u.trans s4).trans s5).trans (s6.trans s7);let bT:=(s4.trans s5).trans (s6.trans s7);let aW:=s5.trans (s6.trans s7);let a4:=s6.trans s7;let bi:=(q.trans bf) _ _ (af (a:=t0) (o:=.tup [.int 0,.int 1]));let bm:=bf _ _ (af (a:=pe) (o:=.lst [.ref t0]));let bn:=bT _ _ (af (a:=p0) (o:=.lst [.int 0]));let bv:=aW _ _ (af (a:=p1) (o:=.lst [.int 0]));let bB:=a4 _ _ (af (a:=pt) (o:=.lst [.ref p0,.ref p1]));let bC:=s7 _ _ (af (a:=r0) (o:=.lst [.int 0,.int 1]));let bJ:=dB d al;let bK:=dB aa bb;let bP:=dB ac an;let bQ:=dB be aI;let bR:=dB am aT;let bS:=dB a1 ap;let d1:∀{x:Addr}{G G':Hp}{o:HO},G x=Z o->Same G G'->∀{y},G' y=none->y≠x:=λh s y z e=>by
  rw[e,s _ _ h]at z;cases z
 let B:p0≠pe:=d1 af (λ_ _ z=>z) bb;let T:p1≠pe:=d1 af u an;let e3:pt≠pe:=d1 af (u.trans s4) aI;let e4:r0≠pe:=d1 af ((u.trans s4).trans s5) aT;let e5:pr≠pe:=d1 af (((u.trans s4).trans s5).trans s6) ap;let e6:p1≠p0:=d1 af (λ_ _ z=>z) an;let e7:pt≠p0:=d1 af s4 aI;let e8:r0≠p0:=d1 af (s4.trans s5) aT;let e9:pr≠p0:=d1 af ((s4.trans s5).trans s6) ap;let a5:pt≠p1:=d1 af (λ_ _ z=>z) aI;let cb:r0≠p1:=d1 af s5 aT;let bU:pr≠p1:=d1 af (s5.trans s6) ap;let bZ:r0≠pt:=d1 af (λ_ _ z=>z) aT;let a7:pr≠pt:=d1 af s6 ap;let b0:pr≠r0:=d1 af (λ_ _ z=>z) ap;let C0:GwC (λp=>H p≠none) (upd (upd (upd (upd (upd (upd (upd H t0 (.tup [.int 0,.int 1])) pe (.lst [.ref t0])) p0 (.lst [.int 0])) p1 (.lst [.int 0])) pt (.lst [.ref p0,.ref p1])) r0 (.lst [.int 0,.int 1])) pr (.lst [.ref r0])) pe pt pr [.ref t0] [.ref p0,.ref p1] [.ref r0] [(0,1)] [[0],[0]] [[0,1]]:=by
  refine#[bm,#[U,λi e z=>?_],bB,#[U,λi l z=>?_],λi j p z1 z2=>?_,af,#[U,λi l z=>?_],#[Ne.symm e3,Ne.symm e5,Ne.symm a7,λz=>z bJ,λz=>z bQ,λz=>z bS],λp sp z=>sp (dB aS z)]
  .match i,z with
   |0,z=>cases z;exact#[t0,U,bi]
   |i+1,z=>cases z
  .match i,z with
   |0,z=>cases z;exact#[p0,U,by rintro(y|y|y|y);exact B y;exact e7 y.symm;exact e9 y.symm;exact y bK,bn]
   |1,z=>cases z;exact#[p1,U,by rintro(y|y|y|y);exact T y;exact a5 y.symm;exact bU y.symm;exact y bP,bv]
   |i+2,z=>cases z
  .match i,z1,j,z2 with
   |0,z1,0,z2=>rfl
   |1,z1,1,z2=>rfl
   |0,z1,1,z2=>simp_all
   |1,z1,0,z2=>simp_all
  .match i,z with
   |0,z =>
    cases z
    refine#[r0,U,?_,bC];rintro((y|y|y)|y|y)
    .exact e4 y
    .exact bZ y
    .exact b0 y.symm
    .let:r0=p0∨r0=p1:=by simpa using y
     lia
    .exact y bR
   |i+1,z=>cases z
 refine#[_,U,a,U,#[_,aS.seq hS],bI (xs:=cs.map V.int) (λi M H5=>∃ v5 m N ts rg,M=[Z (.ref a),Z (.int (P:Int)),Z (.ref pe),Z (.ref pt),Z (.ref pr),v5]/\Same H H5/\GwA (λp=>H p≠none) H5 pe pt pr m N ts rg/\0<N.length/\N.length<=i+1/\m<=P)
  #[_,2,[(0,1)],[[0],[0]],[[0,1]],U,aS,#[#[_,_,_,C0],gr_two,Dv],Nat.one_pos,HF _,P2] (λi M H5 _ ab=>by let _ _ _ _ _ _ z _:=ab;exact z.seq hS) ?_ ?_]
 .rintro i x M H5 J ⟨v5,m,N,ts,rg,rfl,s5,gw,e0,ei,mP⟩;rw[HN]at J;let c L rfl:=HV.mp J;let a2:i<cs.length:=(HB.mp L).1;refine#[_,U,_,U,_,U,_,U,_,U,_,c,pe,pt,pr,P,m,N,ts,rg,U,gw,e0,∅,mP,λm' es' ts' ba I kp b7 l1 l2 b8=>?_]
  exact#[_,m',es',ts',ba,U,kp.same s5,b7,∅,∅,b8]
 .rintro M H5 ⟨v5,m,N,ts,rg,rfl,s5,gw,e0,ei,mP⟩;rw[a6]at ei;refine#[_,U,_,U,_,U,(by show 3<=Mz;decide),λt n=>?_]
  let sn:=ai n (.tup [.ref pe,.ref pt,.ref pr]);let{Y xs b C}g part:=gw;exact D t pe pt pr m N ts rg _ (s5.trans sn) af #[#[Y,xs,b,C.same sn],g,part] e0 ei mP
def cutp(c:Int)(p n:Nat):Nat:=(c%1009*((p:Int)+1)%(n:Int)).toNat
def rowN(c:Int)(b:List Nat)(p:Nat)(l:List Nat):List Nat:=(l.drop (cutp c p l.length)++l.take (cutp c p l.length)).map (ofL b)
def en2(d b:List Nat)(es:En):En:=(IG es.length).map λj=>(ofL d ((es[b.idxOf j]?).getD (0,0)).1,ofL d ((es[b.idxOf j]?).getD (0,0)).2)
def ts2(c:Int)(d b:List Nat)(ts:List (List Nat)):List (List Nat):=(IG ts.length).map λj=>rowN c b (d.idxOf j) ((ts[d.idxOf j]?).getD [])
theorem BD{o:List Nat}(nd:o.Nodup){k:Nat}(h:k<o.length):o.idxOf (ofL o k)=k:=by
 let e:o[k]?=Z (ofL o k):=by unfold ofL;rw[Hz h];rfl
 exact x9 nd (vJ (HC e)) e
theorem ren_of{c:Int}(w:bH m es ts)(j:B.length=m)(n1:B.Nodup)(b1:∀ x∈B,x<m)(z:W.length=es.length)(A:W.Nodup)(b2:∀ x∈W,x<es.length):
  Ren m es (en2 B W es) ts (ts2 c B W ts) (ofL B) (ofL W):=by
 let o:=yy j n1 b1;let g:=yy z A b2;refine#[o,g,by simp[en2],by simp[ts2,w.len],λk e h=>?_,λp l h=>?_]
 .let f:=(HB.mp h).1
  unfold en2;rw[HN,KQ (g.lt k f)];show Z (ofL B ((es[W.idxOf (ofL W k)]?).getD (0,0)).1,ofL B ((es[W.idxOf (ofL W k)]?).getD (0,0)).2)=_;rw[BD A ∅,h]
  rfl
 .let M:p<m:=by rw[← w.len];exact(HB.mp h).1
  refine#[l.take (cutp c p l.length),l.drop (cutp c p l.length),(JT _ _).symm,?_];unfold ts2;rw[HN,KQ (by rw[w.len];exact o.lt p M)]
  show Z (rowN c W (B.idxOf (ofL B p)) ((ts[B.idxOf (ofL B p)]?).getD []))=_;rw[BD n1 ∅,h]
  rfl
theorem Gr.rows(g:Gr m es ts)(h2:2<=m){p:Nat}(h:ts[p]?=Z l):0<l.length:=by
 let M:p<m:=by rw[← g.w.len];exact(HB.mp h).1
 cases l with
 |cons a l=>exact Nat.succ_pos _
 |nil =>
  exfalso;let b:∀ e∈es,e.1≠p/\e.2≠p:=λe D=>by
   let t i:=IJ.mp D;refine#[λz=>?_,λz=>?_]
   .exact nomatch (g.w.mem p [] h t).mpr #[e,i,.inl z]
   .exact nomatch (g.w.mem p [] h t).mpr #[e,i,.inr z]
  let:=g.conn (λx=>x=p) (λe D=>#[λz=>NZ z (b e D).1,λz=>NZ z (b e D).2]) p (if p=0 then 1 else 0) M (by lia) U
  lia
theorem cut_hi{c:Nat}(h:c<=xs.length):cutV xs (Z (c:Int)) none=xs.drop c:=by
 unfold cutV;rw[HT.sIx_nat,JX h];show(xs.drop c).take (xs.length-c)=_;exact JA (by simp)
theorem cut_lo{c:Nat}(h:c<=xs.length):cutV xs none (Z (c:Int))=xs.take c:=by
 unfold cutV;rw[HT.sIx_nat,JX h];rfl
structure WebP(H:Hp)(pe pt:Addr)(m:Nat)(es:En)(ts:List (List Nat)):Prop where
 en:∃ ys,H pe=Z (.lst ys)/\cM H ys es
 tu:∃ xs,H pt=Z (.lst xs)/\bF H xs ts
 g:Gr m es ts
theorem WebP.mono{H H':Hp}{pe pt:Addr}{m:Nat}{es:En}{ts:List (List Nat)}(h:WebP H pe pt m es ts)(s:Same H H'):WebP H' pe pt m es ts:=by
 let{Y a b}{j c d}g:=h;exact#[#[Y,s _ _ a,b.mono s],#[j,s _ _ c,d.mono s],g]
theorem at30{u x:V}:atI [u,v,x] 0=Z u:=rfl
theorem at31{u x:V}:atI [u,v,x] 1=Z v:=rfl
theorem at32{u x:V}:atI [u,v,x] 2=Z x:=rfl
structure TxtM(mg:Str->Option Value):Prop extends Txt mg where
 n_max:mg "max"=none
def RingsP(H:Hp)(pr:Addr)(rg:List (List Nat)):Prop:=∃ j,H pr=Z (.lst j)/\bF H j rg
inductive EZ(vs:List L2.V)(H:L2.Hp)(Q:L2.VK)(x3_:L2.XK):Prop
 |mk (t pe pt pr:Addr)(c:Int)(m:Nat)(es:En)(ts rg:List (List Nat)) (h0_:vs=[.ref t,.int c])(h1_:H t=Z (.tup [.ref pe,.ref pt,.ref pr]))(h2_:WebP H pe pt m es ts)(h3_:RingsP H pr rg)(h4_:Part (fol es ts) (2*es.length) rg)(h5_:2<=m)(h6_:es.length<=63)(h7_:∀(t' pe' pt' pr':Addr)(es':En)(ts':List (List Nat))(H':Hp),Same H H'->H' t'=Z (.tup [.ref pe',.ref pt',.ref pr'])->WebP H' pe' pt' m es' ts'->es'.length=es.length->Q (.ref t') H')
theorem aG:ay ["grown","cell","places","ties","ends","k","turns","p","row","cut","rings","ring"] ["grown","cell"] (ar d6):=by ac_nf
theorem ok_ren(F:Fun K "_law_renumbered" "_law_renumbered" d6 f fd)(T:TxtM mg)(a7:Cal P w K mg base 1 "_law_order" ["cell","many"] Al a G):FnOk P w K mg base CX0 2 f fd ["grown","cell"] EZ:=by
 refine F.ok aG (by walk_at "l") λab A aa s H vs Q E O h=>?_
 obtain⟨t,pe,pt,pr,c,m,N,ts,rg,rfl,ht,⟨⟨ys,aI,en⟩,⟨xs,a5,tu⟩,g⟩,⟨us,a3,ru⟩,part,B,db,kk⟩:=h;let w':=g.w;let mf:=pB g;let a0:ys.length=N.length:=en.1;let be:xs.length=m:=by rw[tu.1,w'.len]
 refine#[_,(ag (aA 2 aG.nd (a7.c O (ae (pv 1) (ae (az av (by rfl) T.n_len aX (ae (aZ (pv 0) aj) ah)) ah))))
   (ag (aA 3 aG.nd (a7.c O (ae (aw b9 (pv 1) aj) (ae (az av (by rfl) T.n_len aX (ae (aZ (pv 0) aj) ah)) ah))))
   (ag (aA 4 aG.nd (cS cL (by rfl) T.n_list ib (ae (aZ (pv 0) aj) ah)))
   (ag (bc PassesOwn.never U (aN U T.n_range (ae (az av (by rfl) T.n_len aX (ae (pv 4) ah)) ah)) (bO 5 aG.nd) (ak (mB (cR (ae (aV (pv 2) (aZ (aV (aZ (pv 0) aj) (pv 5)) aj)) (ae (aV (pv 2) (aZ (aV (aZ (pv 0) aj) (pv 5)) aj)) ah))) (mC (pv 4) (aV (pv 3) (pv 5)) fj))))
   (ag (aA 6 aG.nd (cS cL (by rfl) T.n_list ib (ae (aZ (pv 0) aj) ah)))
   (ag (bc PassesOwn.never U (aN U T.n_range (ae (az av (by rfl) T.n_len aX (ae (pv 6) ah)) ah)) (bO 7 aG.nd) (ag (nU 8 [("ties",3)] ["k"] aG.nd (aP (aV (aZ (pv 0) aj) (pv 7))) pg_c pt_c (λC ex s H=>(qC K (pv 1) (pv 0))))
   (ag (aA 9 aG.nd (aw bq (aw dS (aw bq (pv 1) aj) (aw br (pv 7) aj)) (az (Cw U) (by rfl) T.n_max bt_max (ae aj (ae (az av (by rfl) T.n_len aX (ae (pv 8) ah)) ah)))))
   (ak (mB (aw op_cat (dA fJ (pv 8) (d7 (pv 9)) iz) (dA fJ (pv 8) iz (d7 (pv 9)))) (mC (pv 6) (aV (pv 2) (pv 7)) fj))))))
   (ag (aA 10 aG.nd (bw ah))
   (ag (bc PassesOwn.never U (aP (aZ (pv 0) aj)) (bO 11 aG.nd) (ak (aO (d9 HZ Ij Ii aQ (pv 10) (ae (d8 [("ties",3)] ["dart"] (aP (pv 11)) pg_c pt_c (λC ex s H=>(aw br (aw dS aj (qC K (pv 1) (aw b9 (pv 0) aj))) (aw bq (pv 0) aj)))) ah)))))
   (ak (aE (cR (ae (pv 4) (ae (pv 6) (ae (pv 10) ah)))))))))))))),?_]
 refine#[_,U,_,U,t,_,1,_,U,U,SqT.of ht,at31,pt,xs,U,.inl (SqL.of a5),c,m,(by rw[be];rfl),∅,λq1 o1 H1 s1 _ Y l1 n1 b1=>?_]
 refine#[_,U,_,_,U,U,#[by decide,by decide],_,U,t,_,0,_,U,U,SqT.of (s1 _ _ ht),at30,pe,ys,U,.inl (SqL.of (s1 _ _ aI)),_,N.length,(by rw[a0];rfl),∅,λq2 o2 u s2 _ bQ l2 n2 b2=>?_]
 let ac:=s1.trans s2;let R:=ren_of (c:=c) w' l1 n1 b1 l2 n2 b2;let bP:=s2 _ _ Y;refine#[_,U,t,_,0,_,U,U,SqT.of (ac _ _ ht),at30,pe,ys,U,.inl (SqL.of (ac _ _ aI)),λqe ce=>?_];let s3:=ai ce (.lst ys);let ap:=ac.trans s3;let dc:=s3 _ _ bQ;let dd:=s3 _ _ bP;let bU:∀ k,k<m->(o1.map iV)[k]?=Z (iV (ofL o1 k)):=λk hk=>by
  rw[HN];unfold ofL;simp[*]
 let bZ:∀ k,k<N.length->(o2.map iV)[k]?=Z (iV (ofL o2 k)):=λk hk=>by
  rw[HN];unfold ofL;simp[*]
 let da:H qe=none:=by
  cases y:H qe with
  |none=>rfl
  |some o=>rw[ac _ _ y]at ce;omega
 refine#[_,U,qe,ys,U,.inl (SqL.of af),_,U,∅,∅,bE (n:=(ys.length:Int).toNat) (λi M H5=>∃ v5 v6 v7 v8 v9 an a4 zs,M=[Z (.ref t),Z (.int c),Z (.ref q1),Z (.ref q2),Z (.ref qe),v5,v6,v7,v8,v9,an,a4]/\Same u H5/\H5 qe=Z (.lst zs)/\zs.length=N.length/\∀(k:Nat)(e:Nat×Nat),k<i->N[k]?=Z e->∃ p,zs[ofL o2 k]?=Z (.ref p)/\H5 p=Z (.tup [iV (ofL o1 e.1),iV (ofL o1 e.2)]))
  #[_,_,_,_,_,_,_,ys,U,s3,af,a0,λk e z=>NZ z (IX _)] ?_ ?_]
 .rintro i M H5 I ⟨v5,v6,v7,v8,v9,an,a4,zs,rfl,s5,hz,zl,bv⟩;rw[HP,a0]at I;let e0:(0:Int)+(i:Int)=(i:Int):=Jl _;rw[e0];let aS:=ac.trans s5;let e b:∃ e,N[i]?=Z e:=#[_,Hz I];let p x1 x2:=(en.mono aS).2 i e b;let a1 a2 _:=w'.ends e (HC b);let cq:=R.si.lt i I;refine#[_,U,_,U,t,_,0,_,U,U,SqT.of (aS _ _ ht),at30,_,U,pe,ys,_,_,U,U,SqL.of (aS _ _ aI),ax x1,p,_,0,_,U,U,SqT.of x2,at0,q1,_,_,_,U,U,SqL.of (s5 _ _ bP),ax (bU _ a1),_,U,_,U,t,_,0,_,U,U,SqT.of (aS _ _ ht),at30,_,U,pe,ys,_,_,U,U,SqL.of (aS _ _ aI),ax x1,p,_,1,_,U,U,SqT.of x2,at1,q1,_,_,_,U,U,SqL.of (s5 _ _ bP),ax (bU _ a2),(by show 2<=Mz;decide),λtt ch=>?_]
  let sn:=ai ch (.tup [iV (ofL o1 e.1),iV (ofL o1 e.2)]);refine#[_,U,_,U,_,U,q2,_,_,_,U,U,SqL.of (sn _ _ (s5 _ _ bQ)),ax (bZ _ I),qe,zs,_,ofL o2 i,U,U,sn _ _ hz,iP ∅,?_]
  refine#[_,_,_,_,_,_,_,_,U,aH (s5.trans sn) ce _,af,by rw[IV];exact zl,λk e' hk cb=>?_]
  by_cases z:k=i
  .subst z;rw[b]at cb
   cases cb
   exact#[tt,by rw[IQ,NX U,NX ∅],by rw[ao (λz=>by rw[z,hz]at ch;cases ch)];exact af]
  .let p' u1 u2:=bv k e' ∅ cb
   let co:k<N.length:=(HB.mp cb).1;refine#[p',by rw[IQ,NY (λy=>z (R.si.inj _ _ co I y.symm))];exact u1,?_]
   rw[ao (λz=>by rw[z,hz]at u2;cases u2)]
   exact sn _ _ u2
 rintro M H5 ⟨v5,v6,v7,v8,v9,an,a4,zs,rfl,s5,hz,zl,bv⟩;rw[HP,a0]at bv;let aS:=ac.trans s5
 let cB:cM H5 zs (en2 o1 o2 N):=#[by rw[zl,R.l1],λj x h=>by
  let k e rfl h4 rfl:=R.es' h
  exact bv k e (HB.mp h4).1 h4]
 refine#[_,U,t,_,1,_,U,U,SqT.of (aS _ _ ht),at31,pt,xs,U,.inl (SqL.of (aS _ _ a5)),λqt bi=>?_];let s6:=ai bi (.lst xs);let bC:=aS.trans s6
 refine#[_,U,qt,xs,U,.inl (SqL.of af),_,U,∅,∅,bE (n:=(xs.length:Int).toNat) (λi M H7=>∃ v5 v7 v8 v9 an a4 ws,M=[Z (.ref t),Z (.int c),Z (.ref q1),Z (.ref q2),Z (.ref qe),v5,Z (.ref qt),v7,v8,v9,an,a4]/\Same H5 H7/\H7 qt=Z (.lst ws)/\ws.length=m/\∀(p:Nat)(l:List Nat),p<i->ts[p]?=Z l->∃ q,ws[ofL o1 p]?=Z (.ref q)/\H7 q=Z (.lst ((rowN c o2 p l).map iV))/\q≠qt)
  #[_,_,_,_,_,_,xs,U,s6,af,be,λk e z=>NZ z (IX _)] ?_ ?_]
 .rintro i M H7 I ⟨w5,w7,w8,w9,cD,cF,ws,rfl,s7,hw,wl,bJ⟩;rw[HP,be]at I;let e0:(0:Int)+(i:Int)=(i:Int):=Jl _;rw[e0];let a6:=aS.trans s7;let bR:=s5.trans s7;let l v:∃ l,ts[i]?=Z l:=#[_,Hz (by rw[w'.len];exact I)]
  let p x1 x2:=(tu.mono a6).2 i l v;let bm:=g.rows B v;let cs:∀ k∈l,k<N.length:=λk hk=>mG w' v hk;let ci:l.length<=N.length:=cZ (w'.nd _ _ v) cs;let b0:(l.map iV).length=l.length:=HD _;refine#[_,U,t,_,1,_,U,U,SqT.of (a6 _ _ ht),at31,_,U,pt,xs,_,_,U,U,SqL.of (a6 _ _ a5),ax x1,p,U,#[_,SqL.of x2],bz (K:=K) (xs:=l.map iV) (λj zs H8=>H8=H7/\zs=((l.map (ofL o2)).map iV).take j) (by rw[b0];exact Ia (aq ∅)) #[U,U] (λj zs H8 _ z=>z.1▸SqL.of x2) ?_ ?_]
  .rintro j x zs H8 J ⟨rfl,rfl⟩;rw[HN]at J;let k hk rfl:=HV.mp J;refine#[_,U,_,U,q2,_,_,_,U,U,SqL.of (bR _ _ bQ),ax (bZ _ (cs k (HC hk))),U,?_];rw[Ie,HN,HN,hk];rfl
  rintro zs H8 bf ⟨rfl,rfl⟩ D hD;rw[b0,JA (by rw[HD,HD];exact HF _)]
  let sD:=ai hD (.lst ((l.map (ofL o2)).map iV));let dlen:((l.map (ofL o2)).map iV).length=l.length:=by rw[HD,HD]
  let cc:(0:Int)<(((l.map (ofL o2)).map iV).length:Int):=by omega
  let ct:(if(((l.map (ofL o2)).map iV).length:Int) > 1 then(((l.map (ofL o2)).map iV).length:Int) else 1)=(((l.map (ofL o2)).map iV).length:Int):=by split<;>omega
  let c0:=Jy c (show(1009:Int)≠0 by decide)
  let c1:=Jz c (show(0:Int)<1009 by decide)
  refine#[_,U,_,_,U,U,(by show(0:Int)<1009;decide),_,U,_,_,U,U,_,_,U,U,.inl #[by show -(2^64:Int)<c%1009;omega,by show c%1009<(2^64:Int);omega],_,U,D,_,U,.inl (SqL.of af),_,_,U,_,_,U,U,(by rw[ct];exact cc),?_]
  rw[ct];let u0:=Jy (c%1009*((i:Int)+1)) (show(((l.map (ofL o2)).map iV).length:Int)≠0 by omega)
  let u1:=Jz (c%1009*((i:Int)+1)) cc;let cu:c%1009*((i:Int)+1)%(((l.map (ofL o2)).map iV).length:Int)=((cutp c i l.length:Nat):Int):=by
   unfold cutp;rw[dlen]at u0 ⊢;exact(Jm u0).symm
  let cd:cutp c i l.length<=((l.map (ofL o2)).map iV).length:=by omega
  refine#[_,U,_,U,_,U,D,_,U,SqL.of af,λcG bS=>?_];rw[cu,cut_hi cd];let sB:=ai bS (.lst (((l.map (ofL o2)).map iV).drop (cutp c i l.length)));refine#[_,U,_,U,_,U,D,_,U,SqL.of (sB _ _ af),λcq bT=>?_];rw[cut_lo cd];let sC:=ai bT (.lst (((l.map (ofL o2)).map iV).take (cutp c i l.length)));refine#[cG,cq,_,_,U,U,sC _ _ af,af,by rw[Kc,IC];exact Ia (aq ∅),λb3 bB=>?_]
  let aT:((l.map (ofL o2)).map iV).drop (cutp c i l.length)++((l.map (ofL o2)).map iV).take (cutp c i l.length)=(rowN c o2 i l).map iV:=by
   unfold rowN;rw[HW,HW,KI,KI,KH,KH]
  rw[aT];let sE:=ai bB (.lst ((rowN c o2 i l).map iV));let bK:=((sD.trans sB).trans sC).trans sE;refine#[_,U,_,U,_,U,q1,_,_,_,U,U,SqL.of (bK _ _ (bR _ _ bP)),ax (bU _ I),qt,ws,_,ofL o1 i,U,U,bK _ _ hw,iP (by rw[wl];exact R.pi.lt i I),?_]
  let cv:b3≠qt:=λz=>by rw[z,((sD.trans sB).trans sC) _ _ hw]at bB;cases bB
  refine#[_,_,_,_,_,_,_,U,aH (s7.trans bK) bi _,af,by rw[IV];exact wl,λp' l' cl al=>?_]
  by_cases z:p'=i
  .subst z;rw[v]at al
   cases al
   exact#[b3,by rw[IQ,NX U,NX (by rw[wl];exact R.pi.lt p' I)],by rw[ao cv];exact af,cv]
  .let q u1 u2 u3:=bJ p' l' ∅ al
   let aW:p'<m:=by rw[← w'.len];exact(HB.mp al).1
   exact#[q,by rw[IQ,NY (λy=>z (R.pi.inj _ _ aW I y.symm))];exact u1,by rw[ao u3];exact bK _ _ u2,u3]
 rintro M H7 ⟨w5,w7,w8,w9,cD,cF,ws,rfl,s7,hw,wl,bJ⟩;rw[HP,be]at bJ
 let cK:bF H7 ws (ts2 c o1 o2 ts):=#[by rw[wl,R.l2],λj L h=>by
  let hj:j<m:=by rw[← R.l2];exact(HB.mp h).1
  let p hp rfl:=R.pi.sur j hj;let l v:∃ l,ts[p]?=Z l:=#[_,Hz (by rw[w'.len];exact hp)]
  let q z1 z2 _:=bJ p l hp v;refine#[q,z1,?_];unfold ts2 at h;rw[HN,KQ (by rw[w'.len];exact R.pi.lt p hp)]at h
  let h':Z (rowN c o2 (o1.idxOf (ofL o1 p)) ((ts[o1.idxOf (ofL o1 p)]?).getD []))=Z L:=h;rw[BD n1 ∅,v]at h'
  cases h'
  exact z2]
 let a6:=aS.trans s7;refine#[(by show 0<=Mz;decide),λqr bb=>?_]
 let s8:=ai bb (.lst []);let df:=ru.mono (a6.trans s8);let ul:us.length=rg.length:=ru.1;let cp:rg.length<=N.length+2:=by
  let rs x1 x2:=g.part;let:=part.same x1;omega
 let ck:∀(r:List Nat),r∈rg->r.length<=2*N.length/\∀ d∈r,d<2*N.length:=λr O=>#[cZ (part.cr r O).nd (part.cr r O).lt,(part.cr r O).lt];let cQ:=s5.trans s7
 refine#[_,U,t,_,2,_,U,U,SqT.of ((a6.trans s8) _ _ ht),at32,pr,U,#[us,SqL.of ((a6.trans s8) _ _ a3)],bI (xs:=us) (λi M H9=>∃ v5 v7 v8 v9 a4 b7,M=[Z (.ref t),Z (.int c),Z (.ref q1),Z (.ref q2),Z (.ref qe),v5,Z (.ref qt),v7,v8,v9,Z (.ref qr),a4]/\Same H7 H9/\H9 qr=Z (.lst b7)/\b7.length=i)
  #[_,_,_,_,_,[],U,s8,af,U] (λi M H9 _ am=>by let _ _ _ _ _ _ _ z _:=am;exact SqL.of ((a6.trans z) _ _ a3)) ?_ ?_]
 .rintro i x M H9 J ⟨cT,cU,cW,c7,cw,b7,rfl,s9,cy,ca⟩;let I:i<rg.length:=by rw[← ul];exact(HB.mp J).1
  let r O:∃ r,rg[i]?=Z r:=#[_,Hz I];let p x1 x2:=(ru.mono (a6.trans s9)).2 i r O;rw[J]at x1
  cases x1
  let rl ba:=ck r (HC O);refine#[_,U,.inl #[U,_,SqL.of cy],_,U,p,U,#[_,SqL.of x2],bz (K:=K) (xs:=r.map iV) (λj zs H8=>H8=H9) (by rw[HD];exact Ia (aq ∅)) U (λj zs H8 _ z=>z▸SqL.of x2) ?_ ?_]
  .rintro j x zs H8 J rfl;rw[HN]at J;let d hd rfl:=HV.mp J;let dl:=ba d (HC hd);let e2:(d:Int)/2=((d/2:Nat):Int):=by omega
   exact#[_,U,_,U,_,_,U,U,#[by decide,by decide],q2,_,_,_,U,U,SqL.of ((cQ.trans s9) _ _ bQ),(by rw[e2];exact ax (bZ _ ∅)),_,_,U,U,.inl #[by decide,by decide],_,U,_,_,U,U,(by show(0:Int)<2;decide),_,_,U,U,U]
  rintro zs H8 bf rfl D hD;exact#[qr,b7,_,U,U,ai hD _ _ _ cy,aq ∅,_,_,_,_,_,_,U,aH (s9.trans (ai hD _)) bb _,af,by rw[HJ,ca];rfl]
 rintro M H9 ⟨cT,cU,cW,c7,cw,b7,rfl,s9,_⟩;refine#[_,U,_,U,_,U,(by show 3<=Mz;decide),λt' bn=>?_]
 let sT:=ai bn (.tup [.ref qe,.ref qt,.ref qr]);let b8:=s9.trans sT;exact kk t' qe qt qr (en2 o1 o2 N) (ts2 c o1 o2 ts) _ (a6.trans b8) af #[#[zs,b8 _ _ (s7 _ _ hz),(cB.mono s7).mono b8],#[ws,b8 _ _ hw,cK.mono b8],R.gr g] R.l1
theorem ur:MC "min"=Z (.builtin "min"):=by rfl
theorem oz{S:Addr->Prop}(h:bg S H xs ts)(D:Dist xs)(d:H q=none):Dist (xs++[.ref q]):=by
 let u:∀(j:Nat)(p:Addr),j<xs.length->(xs++[V.ref q])[j]?=Z (.ref p)->xs[j]?=Z (.ref p)/\p≠q:=λj p O e=>by
  rw[HH O]at e;let w g _ m:=h.2 j _ (Hz (by rw[← h.1];exact O))
  rw[e]at g
  cases g
  exact#[e,aD m d]
 let new:∀(j:Nat)(p:Addr),¬ j<xs.length->(xs++[V.ref q])[j]?=Z (.ref p)->j=xs.length/\p=q:=λj p O e=>by
  let:=(HB.mp e).1;rw[HJ,Ik]at this;let b:j=xs.length:=by omega
  simp_all
 intro j k p C T;by_cases O:j<xs.length
 .let a J:=u j p O C;by_cases f:k<xs.length
  .exact D j k p a (u k p f T).1
  .exact NZ (new k p f T).2 J
 .let a J:=new j p O C;by_cases f:k<xs.length
  .exact NZ J (u k p f T).2
  .rw[a,(new k p f T).1]
abbrev Kn:=List (Int×Int)
def dY(H:Hp)(J:List V)(ks:Kn):Prop:=J.length=ks.length/\∀(i:Nat)(k:Int×Int),ks[i]?=Z k->(k.1=0∨k.1=1)/\0<=k.2/\∃ p,J[i]?=Z (.ref p)/\H p=Z (.tup [.int k.1,.int k.2])
theorem dY.mono{J:List V}{ks:Kn}(h:dY H J ks)(s:Same H H'):dY H' J ks:=#[h.1,λi k z=>by
 let a b p c d:=h.2 i k z
 exact#[a,b,p,c,s _ _ d]]
theorem dY.snoc{J:List V}{ks:Kn}{k:Int×Int}(t:dY H J ks)(h:H p=Z (.tup [.int k.1,.int k.2]))(Y:k.1=0∨k.1=1)(h2:0<=k.2):dY H (J++[.ref p]) (ks++[k]):=by
 refine#[by rw[HJ,HJ,t.1];rfl,λj x D=>?_]
 by_cases O:j<ks.length
 .rw[HH O]at D;let u v p g s:=t.2 j x D;exact#[u,v,p,by rw[HH (by rw[t.1];exact O)];exact g,s]
 .rw[HG ∅]at D
  let b:j=ks.length:=by
   let:=(HB.mp D).1;rw[Ik]at this;omega
  subst b;rw[Iq]at D
  cases D
  exact#[Y,h2,p,by rw[← t.1,HG (HF _),Iq];rfl,h]
theorem Gr.two(g:Gr m es ts)(h:0<es.length):2<=m:=by
 let a b c:=g.w.ends _ (HC (Hz h));omega
inductive Ap(K:HE)(vs:List L2.V)(H:L2.Hp)(Q:L2.VK)(x3_:L2.XK):Prop
 |mk (a lm:Addr)(n:Nat)(ns Ls:List Int) (h0_:vs=[.ref a,.int (n:Int),.ref lm])(h1_:SqL K H a (ns.map V.int))(h2_:ns.length<=63)(h3_:SqL K H lm (Ls.map V.int))(h4_:0<Ls.length)(h5_:Ls.length<1000)(h6_:(∀ x∈Ls,1<=x/\x<=10^(30:Int).toNat+1))(h7_:0<n)(h8_:n<=100)(h9_:∀(q:Addr)(ws:List V)(ks:Kn)(H':Hp),Same H H'->H' q=Z (.lst ws)->dY H' ws ks->ks.length=n->(∀ k∈ks,k.2<=10^(30:Int).toNat)->Q (.ref q) H')
theorem fq:ay ["script","many","limits","limit","totals","k"] ["script","many","limits"] (ar jO):=by ac_nf
theorem DM(F:Fun K "_law_kinds" "_law_kinds" jO f fd)(T:Txt mg)(ac:Cal P w K mg base 1 "_law_cell" ["script","k"] (As K) p G):FnOk P w K mg base CX0 2 f fd ["script","many","limits"] (Ap K):=by
 refine F.ok fq (by walk_at "l") λaa A o s H B Q E O h=>?_
 let a lm n ns Ls rfl hS aT hL L0 L1 Lb n0 a2 kk:=h;let ab:(ns.map V.int).length=ns.length:=HD _;let an:(Ls.map V.int).length=Ls.length:=HD _;let al:(0:Int)<((Ls.map V.int).length:Int):=by ac_rfl
 refine#[_,(ag (aA 3 fq.nd (aV (pv 2) (aw bq (ac.c O (ae (pv 0) (ae aj ah))) (az av (by rfl) T.n_len aX (ae (pv 2) ah)))))
   (ag (nU 4 [] ["k"] fq.nd (aN U T.n_range (ae (pv 1) ah)) pg_c pt_c (λC ex s H=>aj))
   (ag (bc PassesOwn.never U (aN U T.n_range (ae (az av (by rfl) T.n_len aX (ae (pv 0) ah)) ah)) (bO 5 fq.nd) (ak (mB (aw bq (aw br (aw dS (aV (pv 4) (aw bq (pv 5) (pv 1))) aj) (aV (pv 0) (pv 5))) (aw dS aj (pv 3))) (mC (pv 4) (aw bq (pv 5) (pv 1)) fj))))
   (ak (aE (d8 [] ["total"] (aP (pv 4)) pg_c pt_c (λC ex s H=>(cR (ae (aw bq (pv 0) aj) (ae (aw b9 (pv 0) aj) ah)))))))))),?_]
 let i I il:∃ i:Nat,ui ns 1%((Ls.map V.int).length:Int)=(i:Int)/\i<Ls.length:=by
  let h0:=Jy (ui ns 1) (show((Ls.map V.int).length:Int)≠0 by ac_rfl)
  let Y:=Jz (ui ns 1) al;exact#[_,(Jm h0).symm,by ac_rfl]
 let L aW:∃ L,Ls[i]?=Z L:=#[_,Hz il];let b1 b2:=Lb L (HC aW);let ap:(0:Int)<2*L:=by ac_rfl
 refine#[_,U,_,U,a,1,ns,U,hS,_,U,lm,_,U,.inl hL,_,_,U,U,al,lm,_,_,_,U,U,hL,(by rw[I];exact ax (v:=.int L) (by rw[HN,aW];rfl)),?_]
 refine#[_,U,_,U,by ac_rfl,by ac_rfl,cg (n:=(n:Int).toNat) (λj r u=>u=H/\r=(HR j (0:Int)).map V.int) (by rw[HP];exact Ia (aq (by ac_rfl))) #[U,U] (λj r u _ ⟨z1,z2⟩=>?_) ?_]
 .subst z1 z2;refine#[U,?_];rw[JU,HW];rfl
 rintro r u _ ⟨rfl,rfl⟩ q b;rw[HP];let d:=ai b (.lst ((HR n (0:Int)).map V.int))
 refine#[_,U,a,_,U,.inl (d.seq hS),_,U,by ac_rfl,by ac_rfl,bE (n:=((ns.map V.int).length:Int).toNat) (λj M H3=>∃(v5:Option V)(xs:List Int),M=[Z (.ref a),Z (.int (n:Int)),Z (.ref lm),Z (.int L),Z (.ref q),v5]/\Same u H3/\H3 q=Z (.lst (xs.map V.int))/\xs.length=n/\∀ x∈xs,0<=x/\x<2*L)
  #[_,HR n 0,U,d,af,Ki,λx J=>by simp_all] ?_ ?_]
 .rintro j M H3 hj ⟨v5,xs,rfl,s3,am,xl,xb⟩;rw[HP,ab]at hj;let e0:(0:Int)+(j:Int)=(j:Int):=Jl _;rw[e0];let aS:(0:Int)<(n:Int):=by ac_rfl
  let jm:(j:Int)%(n:Int)=((j%n:Nat):Int):=by ac_rfl
  let jl:j%n<n:=Mn _ n0;let x J:∃ x,xs[j%n]?=Z x:=#[_,Hz (by ac_rfl)]
  let a0:(xs.map V.int)[j%n]?=Z (.int x):=by rw[HN,J];rfl
  let a1:(ns.map V.int)[j]?=Z (.int ns[j]):=by simp_all
  refine#[_,U,_,U,_,U,_,_,U,U,aS,q,_,_,_,U,U,SqL.of am,(by rw[jm];exact ax a0),_,_,U,U,.inr #[by decide,by decide],_,U,_,U,a,_,_,_,U,U,s3.seq hS,ax a1,_,_,U,U,_,U,_,_,U,U,.inl #[by decide,by decide],_,_,U,U,ap,?_]
  let aI:(xs.map V.int).length=xs.length:=HD _;refine#[_,U,_,U,_,U,_,_,U,U,aS,q,xs.map V.int,_,j%n,U,U,am,(by rw[jm];exact iP (by ac_rfl)),?_]
  refine#[_,xs.set (j%n) ((x*5+ns[j])%(2*L)),U,aH s3 b _,?_,by simp[*],λy e=>?_]
  .rw[af,LW]
  .obtain z|z:=Kr e
   .exact xb y z
   .rw[z];exact#[Jy _ (by ac_rfl),Jz _ ap]
 rintro M H3 ⟨v5,xs,rfl,s3,am,xl,xb⟩;let aI:(xs.map V.int).length=xs.length:=HD _;refine#[_,U,q,U,#[_,SqL.of am],bz (K:=K) (xs:=xs.map V.int) (λj m H4=>Same H3 H4/\∃ ks:Kn,dY H4 m ks/\ks.length=j/\∀ k∈ks,k.2<=10^(30:Int).toNat) (by rw[aI];exact Ia (aq (by ac_rfl))) #[λ_ _ z=>z,[],#[U,λi k z=>by contradiction],U,λk z=>nomatch z] (λj m H4 _ z=>SqL.of (z.1 _ _ am)) ?_ ?_]
 .rintro j v m H4 N ⟨s4,ks,tk,kl,kb⟩;rw[HN]at N;let x J rfl:=HV.mp N;let x0 x1:=xb x (HC J);refine#[_,U,_,_,U,U,(by show(0:Int)<2;decide),_,U,_,_,U,U,#[by decide,by decide],(by show 2<=Mz;decide),λt g=>?_]
  let sn:=ai g (.tup [.int (x%2),.int (x/2)]);refine#[s4.trans sn,ks++[(x%2,x/2)],(tk.mono sn).snoc af (by grind) (by lia),by simp[*],λk l=>?_]
  obtain z|z:=HY.mp l
  .exact kb k z
  .rw[Ih.mp z];grind
 rintro m H4 _ ⟨s4,ks,tk,kl,kb⟩ D hD;let sD:=ai hD (.lst m);exact kk D m ks _ ((s3.trans s4).trans sD) af (tk.mono sD) (by rw[kl,aI,xl]) kb
open KF (andN orN shlN xorN)
theorem oZ:∀{a b:List Int},a.Perm b->a.Pairwise (·<=·)->b.Pairwise (·<=·)->a=b
 |[],b,h,_,_=>(List.nil_perm.mp h).symm▸rfl
 |x::a,[],h,_,_=>NZ h.length_eq (by simp)
 |x::a,y::b,h,c,q=>by
  let g s:=Ke.mp c;let b1 b2:=Ke.mp q;let Y:x<=y:=by
   rcases HQ.mp (h.mem_iff.mpr (HL ..):y∈x::a)with z|z
   .rw[z];exact IT _
   .exact g y z
  let B:y<=x:=by
   rcases HQ.mp (h.mem_iff.mp (HL ..):x∈y::b)with z|z
   .rw[z];exact IT _
   .exact b1 x z
  let e:x=y:=KS Y B;subst e;rw[oZ (List.Perm.cons_inv h) s b2]
def cI(l:List Nat):List Int:=l.map λ(p:Nat)=>((p:Nat):Int)
theorem cI_V(l:List Nat):(cI l).map V.int=l.map iV:=by unfold cI;rw[Jq];rfl
theorem F1{r:List Nat}{out:List Int}(M:out.Perm (cI l))(hs:out.Pairwise (·<=·))(T:l.Nodup)(pr:r.Pairwise (· < ·))(y:∀ t,t∈l↔t∈r):out=cI r:=by
 let c:r.Nodup:=pr.imp λh=>Ig h;let q:(cI l).Perm (cI r):=((Jp T c).mpr y).map _;refine oZ (M.trans q) hs ?_;unfold cI;exact List.Pairwise.map _ (λa b h=>by omega) pr
theorem BC:ins l l.length n=l++[n]:=by
 unfold ins;simp
inductive Aj(K:HE)(vs:List L2.V)(H:L2.Hp)(Q:L2.VK)(x3_:L2.XK):Prop
 |mk (a:Addr)(xs:List V)(m:Nat)(es:En) (h0_:vs=[.int (m:Int),.ref a])(h1_:SqL K H a xs)(h2_:eB K H xs es)(h3_:(∀ e∈es,e.1<m/\e.2<m))(h4_:Q .non H)
inductive xG(K:HE)(vs:List L2.V)(H:L2.Hp)(Q:L2.VK)(x3_:L2.XK):Prop
 |mk (a b:Addr)(xs zs:List V)(m:Nat)(es:En)(ts:List (List Nat)) (h0_:vs=[.int (m:Int),.ref a,.ref b])(h1_:SqL K H a xs)(h2_:eB K H xs es)(h3_:SqL K H b zs)(h4_:bF H zs ts)(h5_:bH m es ts)(h6_:es.length<=30)(h7_:m<=40)(h8_:∀ H',Same H H'->Q .non H')
inductive Ai(K:HE)(vs:List L2.V)(H:L2.Hp)(Q:L2.VK)(x3_:L2.XK):Prop
 |mk (a:Addr)(xs:List V)(m:Nat)(es:En)(ts:List (List Nat)) (h0_:vs=[.int (m:Int),.ref a])(h1_:SqL K H a xs)(h2_:eB K H xs es)(h3_:Gr m es ts)(h4_:2<=m)(h5_:m<=40)(h6_:es.length<=30)(h7_:∀ H',Same H H'->Q .non H')
theorem jC:ay ["many","ties","tie"] ["many","ties"] (ar gz):=by ac_nf
theorem DD(F:Fun K "refuse_ends" "refuse_ends" gz f fd):FnOk P w K mg base CX0 1 f fd ["many","ties"] (Aj K):=by
 refine F.ok jC (by walk_at "l") λY A o s H g Q E O h=>?_
 let a xs m N rfl v d y k:=h;refine#[_,(ak (bc PassesOwn.never U (aP (pv 1)) (bO 2 jC.nd) (ak (bV (PW.pt (u5 (aB Gs (bW (pv 2) U) (pv 0) (aC _)) (sL (aB Gs (bW (pv 2) U) (pv 0) (aC _))))) (ak bY) aR)))),?_];refine#[_,U,a,U,#[_,v],bI (K:=K) (xs:=xs) (λi M u=>∃ G,M=[Z (.int (m:Int)),Z (.ref a),G]/\u=H) #[_,U,U] (λi M u _ ⟨_,_,z⟩=>z▸v) ?_ ?_]
 .rintro i x M u J ⟨G,rfl,rfl⟩;let I:i<N.length:=by rw[← d.1];exact(HB.mp J).1
  let e D:∃ e,N[i]?=Z e:=#[_,Hz I];let p C l st q j x3:=d.2 i e D;rw[J]at q
  cases q
  let B T:=y e (HC D);refine#[_,U,p,C,l,_,_,U,j,x3.cl,x3.n1,nJ _ _ _,_,U,_,_,U,U,_,U,?_];refine ite2 (λc=>NZ (NO c) ∅) (λ_=>?_)
  refine#[_,U,p,C,l,_,_,U,j,x3.cl,x3.n2,rZ _ _ _,_,U,_,_,U,U,_,U,?_];refine ite2 (λc=>NZ (NO c) ∅) (λ_=>?_)
  exact#[_,U,U]
 .simp_all
theorem cO:ay ["many","ties","turns","ending","number","tie"] ["many","ties","turns"] (ar fQ):=by ac_nf
theorem A3(F:Fun K "refuse_turns" "refuse_turns" fQ f fd)(T:Txt mg):FnOk P w K mg base CX0 1 f fd ["many","ties","turns"] (xG K):=by
 refine F.ok cO (by walk_at "l") λaa A c s H vs Q E O h=>?_
 let a b xs zs m N ts rfl hS hT hB hR w' ab bP kk:=h;let ap:=O.units
 refine#[_,(ag (nU 3 [] ["place"] cO.nd (aN U T.n_range (ae (pv 0) ah)) pg_c pt_c (λC ex s H=>(bw ah)))
   (ag (bc PassesOwn.never U (jW U T.n_enumerate (ae (pv 1) ah)) (pf U (aJ (bO 4 cO.nd) (aJ (bO 5 cO.nd) cP))) (ag (aO (d9 HZ Ij Ii aQ (aV (pv 3) (bW (pv 5) U)) (ae (pv 4) ah)))
   (ak (aO (d9 HZ Ij Ii aQ (aV (pv 3) (bW (pv 5) U)) (ae (pv 4) ah))))))
   (ak (bV (aB (AW ap) (d8 [] ["about"] (aP (pv 2)) pg_c pt_c (λC ex s H=>(az (uq (K:=K) U) (by rfl) T.n_sorted oJ (ae (pv 0) ah)))) (pv 3) (aC _)) (ak bY) aR)))),?_]
 refine#[_,U,_,U,∅,∅,cg (n:=(m:Int).toNat) (λi Y L=>Same H L/\bg (λp=>H p≠none) L Y (HR i [])/\Dist Y) (by rw[HP];exact Ia (aq ∅)) #[λ_ _ e=>e,#[U,λi l e=>by simp at e],λi j p e=>by contradiction] ?_ ?_]
 .rintro i Y L I ⟨s2,rx,D⟩;refine#[(by simp),λl G=>?_]
  let s3:=ai G (.lst []);refine#[s2.trans s3,?_,oz rx D G];rw[JU];refine(rx.mono λb u _ z=>s3 _ _ z).snoc (λz=>z ?_) af
  cases y:H l with
  |none=>rfl
  |some o=>rw[s2 _ _ y]at G;cases G
 rintro Y L aW ⟨s2,rx,D⟩ pn aI;rw[HP]at rx;let s3:=ai aI (.lst Y);let bB:H pn=none:=by
  cases y:H pn with
  |none=>rfl
  |some o=>rw[s2 _ _ y]at aI;omega
 let bC:bg (λp=>p=pn∨H p≠none) (upd L pn (.lst Y)) Y (HR m []):=#[rx.1,λi l z=>by
  let p a1 a2 a3:=rx.2 i l z;let n2:p≠pn:=aD a3 aI
  exact#[p,a1,by rintro(y|y);exact n2 y;exact a2 y,s3 _ _ a3]]
 refine#[_,U,a,U,#[_,(s2.trans s3).seq hS],qZ (K:=K) (xs:=xs) (λi M H5=>∃ v4 v5 rows,M=[Z (.int (m:Int)),Z (.ref a),Z (.ref b),Z (.ref pn),v4,v5]/\Same H H5/\H5 pn=Z (.lst Y)/\bg (λp=>p=pn∨H p≠none) H5 Y rows/\bH m (N.take i) rows/\∀ r∈rows,r.Pairwise (· < ·))
  #[_,_,_,U,s2.trans s3,af,bC,CQ m,λr O=>by simp_all] (λi M H5 _ am=>by let _ _ _ _ z _:=am;exact z.seq hS) ?_ ?_]
 .rintro i x M H5 T2 J ⟨v4,v5,rows,rfl,s5,a6,a7,w5,pw⟩ an;let I:i<N.length:=by rw[← hT.1];exact(HB.mp J).1
  let e d:∃ e,N[i]?=Z e:=#[_,Hz I];let p C dx st x1 x2 x3:=hT.2 i e d;rw[J]at x1
  cases x1
  let sT:=ai an (.tup [.int (i:Int),.ref p]);let s6:=s5.trans sT;let x6:=s6 _ _ x2;let B v e3:=w'.ends e (HC d);let bi:(N.take i).length=i:=by grind
  let aT:=w5.len;let l G:∃ l,rows[e.1]?=Z l:=#[_,Hz ∅]
  let l' al:∃ l,rows[e.2]?=Z l:=#[_,Hz ∅]
  let bm:bg (λp=>p=pn∨H p≠none) (upd H5 T2 (.tup [.int (i:Int),.ref p])) Y rows:=a7.mono λb u _ z=>sT _ _ z;let p1 y1 y2 y3:=bm.2 _ _ G;let p2 z1 z2 z3:=bm.2 _ _ al;let bb:∀{p:Addr},¬ (p=pn∨H p≠none)->H p=none/\p≠pn:=λ{p} n=>by
   simp_all
  let aS bJ:=bb y2;let a0 bn:=bb z2;let bQ:p2≠p1:=λy=>by rw[y]at z1;exact e3 (D _ _ p1 y1 z1)
  let ll:∀{q:Nat}{r:List Nat},rows[q]?=Z r->∀ t∈r,t<i:=λ{q r} h t ht=>by
   let:=mG w5 h ht;omega
  let bK:∀{q:Nat}{r:List Nat},rows[q]?=Z r->r.length<=30:=λ{q r} h=>by
   let:=cZ (w5.nd _ _ h) (ll h);omega
  let f1:=bK G;let f2:=bK al;let be:=sT _ _ a6;refine#[T2,_,U,SqT.of af,U,_,_,U,_,_,U,U,?_];refine#[_,U,_,U,p,C,dx,_,_,U,x6,x3.cl,x3.n1,nJ _ _ _,pn,Y,_,_,U,U,SqL.of be,ax y1,.inl #[U,_,SqL.of y3],_,U,p1,_,_,U,U,y3,aq (by rw[HD];omega),?_]
  let a4:(l.map iV)++[V.int (i:Int)]=(l++[i]).map iV:=by rw[HW];rfl
  rw[a4];let x7:(upd (upd H5 T2 (.tup [.int (i:Int),.ref p])) p1 (.lst ((l++[i]).map iV))) p=Z (.ins C dx (tf (e.1:Int) (e.2:Int) st)):=by rw[ao (λz=>by rw[z]at x2;rw[x2]at aS;contradiction)];exact x6
  let bf:(upd (upd H5 T2 (.tup [.int (i:Int),.ref p])) p1 (.lst ((l++[i]).map iV))) pn=Z (.lst Y):=by rw[ao bJ.symm];exact be
  let z7:(upd (upd H5 T2 (.tup [.int (i:Int),.ref p])) p1 (.lst ((l++[i]).map iV))) p2=Z (.lst (l'.map iV)):=by rw[ao bQ];exact z3
  refine#[_,U,_,U,p,C,dx,_,_,U,x7,x3.cl,x3.n2,rZ _ _ _,pn,Y,_,_,U,U,SqL.of bf,ax z1,.inl #[U,_,SqL.of z7],_,U,p2,_,_,U,U,z7,aq (by grind),?_]
  let ba:(l'.map iV)++[V.int (i:Int)]=(l'++[i]).map iV:=by rw[HW];rfl
  rw[ba];refine#[_,_,(rows.set e.1 (l++[i])).set e.2 (l'++[i]),U,aH (aH s6 aS _) a0 _,by rw[ao bn.symm];exact bf,(bm.set D y1).set D z1,?_,λr O=>?_]
  .let q:=w5.put (k:=l.length) (j:=l'.length) B v e3 G al
   rw[BC,BC,bi]at q;rw[Ie,d];exact q
  .let app:∀{q:Nat}{r:List Nat},rows[q]?=Z r->(r++[i]).Pairwise (· < ·):=λ{q r} h=>List.pairwise_append.mpr #[pw r (HC h),List.pairwise_singleton _ _,λx J y hy=>by
    let:=ll h x J
    simp_all]
   obtain z|z:=Kr O
   .obtain z|z:=Kr z
    .exact pw r z
    .rw[z];exact app G
   .rw[z];exact app al
 rintro M H5 ⟨v4,v5,rows,rfl,s5,a6,a7,w5,pw⟩;rw[hT.1,Ip]at w5;let a5:zs.length=m:=by rw[hR.1,w'.len]
 refine#[_,U,b,U,#[_,s5.seq hB],bz (K:=K) (xs:=zs) (λi vs H6=>Same H5 H6/\bF H6 vs (rows.take i)) (Ia (aq ∅)) #[λ_ _ e=>e,U,λi l e=>by simp at e] (λi vs H6 _ z=>(s5.trans z.1).seq hB) ?_ ?_]
 .rintro i x vs H6 J ⟨s6,rz⟩;let I:i<ts.length:=by rw[← hR.1];exact(HB.mp J).1
  let l G:∃ l,ts[i]?=Z l:=#[_,Hz I];let r ac:∃ r,rows[i]?=Z r:=#[_,Hz (by rw[w5.len,← w'.len];exact I)]
  let p a1 a2:=(hR.mono (s5.trans s6)).2 i l G;rw[J]at a1
  cases a1
  let bR:l.length<=30:=IK (cZ (w'.nd _ _ G) λt ht=>mG w' G ht) ab;refine#[_,U,p,cI l,U,(by rw[cI_V];exact SqL.of a2),(by unfold cI;grind),λq out hq g hs=>?_]
  let eo:=F1 g hs (w'.nd _ _ G) (pw r (HC ac)) λt=>(w'.mem i l G t).trans (w5.mem i r ac t).symm;subst eo;let s7:=ai hq (.lst ((cI r).map V.int));refine#[s6.trans s7,?_];rw[show rows.take (i+1)=rows.take i++[r] by rw[Ie,ac];rfl]
  exact(rz.mono s7).snoc (by rw[af,cI_V])
 rintro vs H6 _ ⟨s6,rz⟩ D' bS;rw[a5,← w5.len,Ip]at rz;let s7:=ai bS (.lst vs);let bv:=s6.trans s7;refine#[_,U,_,AD (SqL.of af) (rz.mono s7),AD (SqL.of (bv _ _ a6)) (a7.off.mono bv),uY rows,_,U,iteF ?_];exact kk _ (s5.trans bv)
theorem mO:ay ["many","ties"] ["many","ties"] (ar eR):=by ac_nf
theorem DC{fr:Addr}(F:Fun K "refuse_parted" "refuse_parted" eR f fd)(ac:Cal P w K mg base 1 "reached" ["start","pairs"] KF.spReach fr G):FnOk P w K mg base CX0 2 f fd ["many","ties"] (Ai K):=by
 refine F.ok mO (by walk_at "l") λY A o s H k Q E O h=>?_
 let a xs m N ts rfl v hT g m2 an aa T:=h;let ap:xs.length=N.length:=hT.1;refine#[_,(ak (bV (aB jZ (ac.c O (ae aj (ae (d8 [] ["tie"] (aP (pv 1)) pg_c pt_c (λC M s H=>(cR (ae (nV (K:=K) U (pv 0) U) (ae (nV (K:=K) U (pv 0) U) ah))))) ah))) (aw iA (aw cE aj (pv 0)) aj) (aC _)) (ak bY) aR)),?_];refine#[_,U,a,U,#[_,v],bz (K:=K) (xs:=xs) (λi y am=>Same H am/\cM am y (N.take i)) (Ia (aq ∅)) #[λ_ _ e=>e,U,λi l e=>by simp at e] (λi y am _ z=>z.1.seq v) ?_ ?_]
 .rintro i x y am J ⟨al,ez⟩;let I:i<N.length:=by rw[← hT.1];exact(HB.mp J).1
  let e d:∃ e,N[i]?=Z e:=#[_,Hz I];let p C n st q t a3:=(hT.mono al).2 i e d;rw[J]at q
  cases q
  refine#[_,U,p,C,n,_,_,U,t,a3.cl,a3.n1,nJ _ _ _,_,U,p,C,n,_,_,U,t,a3.cl,a3.n2,rZ _ _ _,(by show 2<=Mz;decide),λg u=>?_]
  let ab:=ai u (.tup [iV e.1,iV e.2]);refine#[al.trans ab,?_];rw[show N.take (i+1)=N.take i++[e] by rw[Ie,d];rfl]
  exact(ez.mono ab).snoc af
 rintro y am _ ⟨al,ez⟩ D hD;rw[hT.1,Ip]at ez;let ab:=ai hD (.lst y);let B:=ez.mono ab;let mem:∀ l∈N.map (λe=>((e.1,e.2,0):KF.Lk)),l.1<m/\l.2.1<m:=λl j=>by
  let e d rfl:=Im.mp j;let b1 b2 _:=g.w.ends e d;exact#[b1,b2]
 let cn:KF.Conn m (N.map λe=>((e.1,e.2,0):KF.Lk)):=λb L=>g.conn (λp=>∃ x,KF.Wk (N.map λe=>(e.1,e.2,0)) 0 p x) (λe d=>by
  let i I:=II d;let lk:=KF.Wk.link (show(N.map λe=>((e.1,e.2,0):KF.Lk))[i]?=Z (e.1,e.2,0) by simp[*]) (a:=e.1) (.inl U)
  rw[show KF.bey (e.1,e.2,0) e.1=e.2 from NX U]at lk
  exact#[λ⟨x,h⟩=>#[_,h.trans lk],λ⟨x,h⟩=>#[_,h.trans lk.rev]]) 0 b ∅ L #[0,.nil 0]
 refine#[D,y,m,N.map λe=>(e.1,e.2,0),U,af,#[by simp[*],λi l j=>?_],#[an,by grind,mem,λl j=>?_],∅,λr O=>?_]
 .rw[HN]at j;let e d rfl:=HV.mp j;let p x1 x2:=B.2 i e d;exact#[_,x1,p,U,x2]
 .let e d rfl:=Im.mp j;exact#[IT _,Int.natCast_nonneg _]
 rw[KF.run_full O mem ∅ cn]
 refine#[_,U,_,_,U,U,#[∅,∅,by decide],_,_,U,U,U,_,U,?_]
 refine qT ?_ (T _ (al.trans ab));show V.int _=V.int _;rw[shlN];grind
open KF (andN orN shlN xorN)
def cls(PL PS:Addr)(a:Bool):Addr:=if a=true then PS else PL
def lG(PL PS:Addr)(H:Hp)(xs:List V)(es:En)(ks:Kn):Prop:=xs.length=es.length/\∀(i:Nat)(e:Nat×Nat)(k:Int×Int),es[i]?=Z e->ks[i]?=Z k->∃ p l,xs[i]?=Z (.ref p)/\H p=Z (.ins (cls PL PS (decide (k.1=1))) l (tf (e.1:Int) (e.2:Int) k.2))
theorem lG.mono{PS:Addr}{ks:Kn}(t:lG PL PS H xs es ks)(h:Same H H'):lG PL PS H' xs es ks:=#[t.1,λi e k q r=>by
 let p l a b:=t.2 i e k q r
 exact#[p,l,a,h _ _ b]]
structure CW(K:HE)(C:Addr):Prop where
 cl:Cls K C
 n1:fH K C "many"
 n2:fH K C "ties"
 n3:fH K C "turns"
 n4:fH K C "rounds"
 n5:fH K C "sides"
theorem i9(k:Str)(v:V):∀ fs:List (Str×V),(putF k v fs).length<=fs.length+1
 |[]=>HF _
 | (a,b)::r=>by
  show(if a=k then(a,v)::r else(a,b)::putF k v r).length<=_;let:=i9 k v r;split<;>simp only[IM]<;>omega
theorem none_of{b:Addr}(s:Same H H')(z:H' b=none):H b=none:=by
 cases y:H b with
 |none=>rfl
 |some o=>rw[s _ _ y]at z;cases z
structure WebG(S:Addr->Prop)(H:Hp)(fs:List (Str×V))(m:Nat)(es:En)(ts rs:List (List Nat)):Prop where
 many:fs.lookup ("many" : Str)=Z (.int (m:Int))
 turns:∃ q z,fs.lookup ("turns" : Str)=Z (.ref q)/\¬ S q/\H q=Z (.lst z)/\bg S H z ts
 rounds:∃ q z,fs.lookup ("rounds" : Str)=Z (.ref q)/\H q=Z (.lst z)/\bF H z rs
 sides:∃ q z,fs.lookup ("sides" : Str)=Z (.ref q)/\H q=Z (.lst z)/\ic H z es.length rs
 part:cV (fol es ts) (2*es.length) (2*es.length) rs
theorem ic.mono{z:List V}(h:ic H z n rs)(s:Same H H'):ic H' z n rs:=#[h.1,λi I=>by
 let t a b r m B J C v u w:=h.2 i I
 exact#[t,a,b,r,m,B,s _ _ J,C,v,u,w]]
theorem WebG.mono{S f:Addr->Prop}{H H':Hp}{fs:List (Str×V)}{m:Nat}{es:En}{ts rs:List (List Nat)}(h:WebG S H fs m es ts rs)(s:Same H H')(i:∀ a,f a->S a):WebG f H' fs m es ts rs:=by
 let a{q z b1 g b2 b3}{T c c1 c2 c3}{n u t d b}e:=h;refine#[a,#[q,z,b1,λy=>g (i _ y),s _ _ b2,b3.1,λj l y=>?_],#[T,c,c1,s _ _ c2,c3.mono s],#[n,u,t,s _ _ d,b.mono s],e];let r B J C:=b3.2 j l y;exact#[r,B,λx=>J (i _ x),s _ _ C]
inductive pS(K:HE)(vs:List L2.V)(H:L2.Hp)(Q:L2.VK)(x3_:L2.XK):Prop
 |mk (p C dx qt qh:Addr)(m:Nat)(xs zs:List V)(es:En)(ts:List (List Nat)) (h0_:vs=[.ref p,.int (m:Int),.ref qt,.ref qh])(h1_:H p=Z (.ins C dx []))(h2_:CW K C)(h3_:H qt=Z (.lst xs))(h4_:eB K H xs es)(h5_:H qh=Z (.lst zs))(h6_:bF H zs ts)(h7_:Gr m es ts)(h8_:0<es.length)(h9_:es.length<=30)(h10_:∀(fs:List (Str×V))(q1:Addr)(rs:List (List Nat))(H':Hp),H' p=Z (.ins C dx fs)->WebG (λa=>H a≠none) H' fs m es ts rs->H q1=none->fs.lookup ("ties" : Str)=Z (.ref q1)->H' q1=Z (.lst xs)->(∀ q o,H q=Z o->q≠p->H' q=Z o)->Q .non H')
theorem eB.keep{G:Hp}(t:eB K H xs es)(M:H p=Z (.ins C f []))(k:∀ q u,q≠p->H q=Z u->G q=Z u):eB K G xs es:=#[t.1,λi e z=>by
 let q g c s a b d:=t.2 i e z;refine#[q,g,c,s,a,k _ _ (λz=>?_) b,d];rw[z,M]at b;let B:([]:List (Str×V))=tf (e.1:Int) (e.2:Int) s:=by
  injection b with b;injection b
 contradiction]
theorem kD:ay ["self","many","ties","turns","rounds"] ["self","many","ties","turns"] (ar cz):=by ac_nf
theorem DA{f4 f5:Addr}{d1 d2 d3 d4 d5:FuncData}(F:Fun K "__init__" "Web.__init__" cz f fd)(T:Txt mg)(a3:Cal P w K mg base 1 "refuse_ends" ["many","ties"] (Aj K) f1 d1)(aW:Cal P w K mg base 1 "refuse_turns" ["many","ties","turns"] (xG K) f2 d2)(aI:Cal P w K mg base 2 "refuse_parted" ["many","ties"] (Ai K) I d3)(a4:Cal P w K mg base 4 "rounds_of" ["ties","turns"] (xF K) f4 d4)(a5:Cal P w K mg base 1 "sides_of" ["ties","rounds"] (Af K) f5 d5):
  FnOk P w K mg base CX0 5 f fd ["self","many","ties","turns"] (pS K):=by
 refine F.ok kD (by walk_at "l") λaa A v s H vs Q E O h=>?_
 let p C dx qt qh m xs zs es ts rfl M cw aT hT bb hR g e0 ab kk:=h;let w':=g.w;let m2:=g.two e0;let mf:=pB g;let bQ:xs.length=es.length:=hT.1;let aS:zs.length=m:=by rw[hR.1,w'.len]
 let pl:∀{q:Addr}{Y:List V},H q=Z (.lst Y)->q≠p:=λ{q Y} h z=>by simp_all
 refine#[_,(ag (aO (a3.c O (ae (pv 1) (ae (pv 2) ah))))
   (ag (aO (aW.c O (ae (pv 1) (ae (pv 2) (ae (pv 3) ah)))))
   (ag (aO (aI.c O (ae (pv 1) (ae (pv 2) ah))))
   (ag (aA 4 kD.nd (a4.c O (ae (pv 2) (ae (pv 3) ah))))
   (ag (bV (aB jZ (aw br (aw iA (pv 1) (az av (by rfl) T.n_len aX (ae (pv 2) ah))) (az av (by rfl) T.n_len aX (ae (pv 4) ah))) aj (aC _)) (ak bY) aR)
   (ag (mz (pv 0) (pv 1) U)
   (ag (mz (pv 0) (cS cL (by rfl) T.n_list ib (ae (pv 2) ah)) U)
   (ag (mz (pv 0) (d8 [] ["about"] (aP (pv 3)) pg_c pt_c (λC ex s H=>(cS (pJ (K:=K) U) (by rfl) T.n_list ib (ae (pv 0) ah)))) U)
   (ag (mz (pv 0) (pv 4) U)
   (ak (mz (pv 0) (a5.c O (ae (pv 2) (ae (pv 4) ah))) U))))))))))),?_]
 refine#[_,U,_,U,qt,xs,m,es,U,SqL.of aT,hT,λe d=>#[(w'.ends e d).1,(w'.ends e d).2.1],?_];refine#[_,U,_,U,_,U,qt,qh,xs,zs,m,es,ts,U,SqL.of aT,hT,SqL.of bb,hR,w',ab,∅,λH1 B=>?_]
 refine#[_,U,_,U,qt,xs,m,es,ts,U,SqL.of (B _ _ aT),hT.mono B,g,m2,∅,ab,λL s2=>?_]
 let ac:=B.trans s2;refine#[_,U,_,U,qt,qh,m,es,ts,U,#[#[xs,SqL.of (ac _ _ aT),hT.mono ac],#[zs,SqL.of (ac _ _ bb),hR.mono ac],w',∅],λqr vs rs H3 s3 ap a7 ro=>?_]
 let al:=ac.trans s3;let cnt:m+rs.length=es.length+2:=by
  let bR p' c:=g.part;rw[← p'.same ro.part];exact c
 let bP:vs.length=rs.length:=a7.1;refine#[_,U,_,U,qt,xs,U,.inl (SqL.of (al _ _ aT)),_,_,U,U,_,U,qr,vs,U,.inl (SqL.of ap),_,_,U,U,U,_,U,?_];refine qT (congrArg V.int ∅) ?_
 let bm:=al _ _ M;refine#[_,U,_,U,p,C,dx,[],U,bm,cw.cl,cw.n1,(by simp),?_]
 let keep:∀{G:Hp}{o:HO}{q:Addr}{u:HO},q≠p->G q=Z u->(upd G p o) q=Z u:=λn z=>by rw[ao n];exact z
 refine#[_,U,qt,xs,U,.inl (SqL.of (keep (pl aT) (al _ _ aT))),λk an=>?_];let ba:k≠p:=λz=>by rw[z,af]at an;contradiction
 let t4:=ai an (.lst xs);refine#[_,U,p,C,dx,_,U,t4 _ _ af,cw.cl,cw.n2,?_,?_]
 .let:=i9 "many" (.int (m:Int)) ([]:List (Str×V));grind
 let t1:∀ q u,q≠p->H3 q=Z u->(upd (upd (upd H3 p (.ins C dx (putF "many" (.int (m:Int)) []))) k (.lst xs)) p (.ins C dx (putF "ties" (.ref k) (putF "many" (.int (m:Int)) [])))) q=Z u:=λq u n z=>keep n (t4 _ _ (keep n z));let bn:(upd (upd (upd H3 p (.ins C dx (putF "many" (.int (m:Int)) []))) k (.lst xs)) p (.ins C dx (putF "ties" (.ref k) (putF "many" (.int (m:Int)) [])))) k=Z (.lst xs):=keep ba af;let pa:(upd (upd (upd H3 p (.ins C dx (putF "many" (.int (m:Int)) []))) k (.lst xs)) p (.ins C dx (putF "ties" (.ref k) (putF "many" (.int (m:Int)) [])))) p=Z (.ins C dx (putF "ties" (.ref k) (putF "many" (.int (m:Int)) []))):=af;generalize upd (upd (upd H3 p (.ins C dx (putF "many" (.int (m:Int)) []))) k (.lst xs)) p (.ins C dx (putF "ties" (.ref k) (putF "many" (.int (m:Int)) [])))=H4 at t1 bn pa;let lk:(putF "ties" (.ref k) (putF "many" (.int (m:Int)) []):List (Str×V)).lookup ("ties" : Str)=Z (.ref k):=by rfl
 let ln:(putF "ties" (.ref k) (putF "many" (.int (m:Int)) []):List (Str×V)).length<=2:=by
  let a1:=i9 "many" (.int (m:Int)) ([]:List (Str×V));let a2:=i9 "ties" (.ref k) (putF "many" (.int (m:Int)) ([]:List (Str×V)));simp only[Kj]at a1;omega
 let bv:(putF "ties" (.ref k) (putF "many" (.int (m:Int)) []):List (Str×V)).lookup ("many" : Str)=Z (.int (m:Int)):=by rfl
 generalize (putF "ties" (.ref k) (putF "many" (.int (m:Int)) []):List (Str×V))=fs at pa lk ln bv;let be:=t1 _ _ (pl bb) (al _ _ bb);let bf:∀{b:Addr},H4 b=none->H b=none:=λ{b} z=>by
  cases y:H b with
  |none=>rfl
  |some o =>
   by_cases n:b=p
   .simp_all
   .rw[t1 _ _ n (al _ _ y)]at z;cases z
 let bB:H k=none:=by
  cases y:H k with
  |none=>rfl
  |some o=>rw[keep ba (al _ _ y)]at an;omega
 refine#[_,U,qh,U,#[_,SqL.of be],bz (K:=K) (xs:=zs) (λi Y H5=>Same H4 H5/\bg (λa=>H a≠none) H5 Y (ts.take i)) (Ia (aq ∅)) #[λ_ _ e=>e,U,λi l e=>by simp at e] (λi _ H5 _ z=>SqL.of (z.1 _ _ be)) ?_ ?_]
 .rintro i x Y H5 J ⟨s5,rz⟩;let N:i<ts.length:=by rw[← hR.1];exact(HB.mp J).1
  let l j:∃ l,ts[i]?=Z l:=#[_,Hz N];let r a1 a2:=hR.2 i l j;rw[J]at a1
  cases a1
  refine#[_,U,r,_,U,.inl (SqL.of (s5 _ _ (t1 _ _ (pl a2) (al _ _ a2)))),λg hg=>#[s5.trans (ai hg _),?_]];rw[show ts.take (i+1)=ts.take i++[l] by rw[Ie,j];rfl]
  exact(rz.mono λb u _ z=>ai hg _ _ _ z).snoc (λz=>z (bf (none_of s5 hg))) af
 rintro Y H5 _ ⟨s5,rz⟩ D hD;rw[hR.1,Ip]at rz;let bi:D≠p:=λz=>by rw[z,s5 _ _ pa]at hD;cases hD
 let s6:=s5.trans (ai hD (.lst Y));refine#[_,U,p,C,dx,fs,U,s6 _ _ pa,cw.cl,cw.n3,∅,?_]
 let b0:=i9 "turns" (.ref D) fs;let bS:(putF "turns" (.ref D) fs).lookup ("ties" : Str)=Z (.ref k):=by rw[aK,NY ∅];exact lk
 refine#[_,U,_,U,p,C,dx,_,U,af,cw.cl,cw.n4,∅,?_]
 let b7:=i9 "rounds" (.ref qr) (putF "turns" (.ref D) fs);let bT:(putF "rounds" (.ref qr) (putF "turns" (.ref D) fs)).lookup ("ties" : Str)=Z (.ref k):=by rw[aK,NY ∅];exact bS
 let t7:∀ q u,q≠p->H3 q=Z u->(upd (upd (upd H5 D (.lst Y)) p (.ins C dx (putF "turns" (.ref D) fs))) p (.ins C dx (putF "rounds" (.ref qr) (putF "turns" (.ref D) fs)))) q=Z u:=λq u n z=>keep n (keep n (s6 _ _ (t1 q u n z)));let bC:(upd (upd (upd H5 D (.lst Y)) p (.ins C dx (putF "turns" (.ref D) fs))) p (.ins C dx (putF "rounds" (.ref qr) (putF "turns" (.ref D) fs)))) k=Z (.lst xs):=keep ba (keep ba (s6 _ _ bn));let p7:(upd (upd (upd H5 D (.lst Y)) p (.ins C dx (putF "turns" (.ref D) fs))) p (.ins C dx (putF "rounds" (.ref qr) (putF "turns" (.ref D) fs)))) p=Z (.ins C dx (putF "rounds" (.ref qr) (putF "turns" (.ref D) fs))):=af;let D7:(upd (upd (upd H5 D (.lst Y)) p (.ins C dx (putF "turns" (.ref D) fs))) p (.ins C dx (putF "rounds" (.ref qr) (putF "turns" (.ref D) fs)))) D=Z (.lst Y):=keep bi (keep bi af);let u7:∀ q u,q≠p->H5 q=Z u->(upd (upd (upd H5 D (.lst Y)) p (.ins C dx (putF "turns" (.ref D) fs))) p (.ins C dx (putF "rounds" (.ref qr) (putF "turns" (.ref D) fs)))) q=Z u:=λq u n z=>keep n (keep n (ai hD _ _ _ z));generalize upd (upd (upd H5 D (.lst Y)) p (.ins C dx (putF "turns" (.ref D) fs))) p (.ins C dx (putF "rounds" (.ref qr) (putF "turns" (.ref D) fs)))=H7 at t7 bC p7 D7 u7;let a6:∀{q:Addr}{Y:List V},H3 q=Z (.lst Y)->q≠p:=λ{q Y} h z=>by simp_all
 let bU:bF H7 vs rs:=#[a7.1,λi l z=>by
  let r a1 a2:=a7.2 i l z
  exact#[r,a1,t7 _ _ (a6 a2) a2]]
 let T7:eB K H7 xs es:=(hT.mono al).keep bm t7;refine#[_,U,_,U,qt,qr,xs,vs,es,_,rs,U,SqL.of (t7 _ _ (pl aT) (al _ _ aT)),T7,∅,SqL.of (t7 _ _ (a6 ap) ap),bU,ro,λq5 z5 H8 s8 am bJ=>?_]
 refine#[_,U,p,C,dx,_,U,s8 _ _ p7,cw.cl,cw.n5,∅,?_]
 let bZ:q5≠p:=λz=>by rw[z,s8 _ _ p7]at am;simp_all
 let bK:=t7 _ _ (a6 ap) ap;refine kk _ k rs _ af #[?_,#[D,Y,?_,λz=>z (bf (none_of s5 hD)),keep bi (s8 _ _ D7),rz.1,λi l z=>?_],#[qr,vs,?_,keep (a6 ap) (s8 _ _ bK),a7.1,λi l z=>?_],#[q5,z5,?_,keep bZ am,bJ.1,λi N=>?_],ro] bB (by rw[aK,NY ∅];exact bT) (keep ba (s8 _ _ bC)) λq o z n=>keep n (s8 _ _ (t7 q o n (al _ _ z)))
 .rw[aK,NY ∅,aK,NY ∅,aK,NY ∅]
  exact bv
 .rw[aK,NY ∅,aK,NY ∅,aK,NX U]
 .let r a1 a0 a2:=rz.2 i l z;let nr:r≠p:=λz=>by simp_all
  exact#[r,a1,a0,keep nr (s8 _ _ (u7 r _ nr a2))]
 .rw[aK,NY ∅,aK,NX U]
 .let r a1 a2:=a7.2 i l z;exact#[r,a1,keep (a6 a2) (s8 _ _ (t7 _ _ (a6 a2) a2))]
 .rw[aK,NX U]
 .let t a b r r' y1 y2 y3 y4 y5 y6:=bJ.2 i N;exact#[t,a,b,r,r',y1,keep (λz=>by rw[z,s8 _ _ p7]at y2;cases y2) y2,y3,y4,y5,y6]
theorem lG.at{PS:Addr}{ks:Kn}(t:lG PL PS H xs es ks)(C:ks.length=es.length)(o:CT K PL)(TS:CT K PS):eB K H xs es:=#[t.1,λi e z=>by
 let I:=(HB.mp z).1;let k f:∃ k,ks[i]?=Z k:=#[_,Hz ∅]
 let p l a b:=t.2 i e k z f;refine#[p,_,l,k.2,a,b,?_];unfold cls;split
 .exact TS
 .exact o]
def WebF(S:Addr->Prop)(PL PS o:Addr)(H:Hp)(p:Addr)(m:Nat)(es:En)(ts rs:List (List Nat))(ks:Kn):Prop:=∃ l fs k j,H p=Z (.ins o l fs)/\WebG S H fs m es ts rs/\¬ S k/\fs.lookup ("ties" : Str)=Z (.ref k)/\H k=Z (.lst j)/\lG PL PS H j es ks
theorem WebF.mono{S f:Addr->Prop}{PL PS o p:Addr}{H H':Hp}{m:Nat}{es:En}{ts rs:List (List Nat)}{ks:Kn}(h:WebF S PL PS o H p m es ts rs ks)(s:Same H H')(i:∀ a,f a->S a):WebF f PL PS o H' p m es ts rs ks:=by
 let l fs k j a b n c d e:=h;exact#[l,fs,k,j,s _ _ a,b.mono s i,λy=>n (i _ y),c,s _ _ d,e.mono s]
inductive An(PL PS WC:Addr)(vs:List L2.V)(H:L2.Hp)(Q:L2.VK)(x3_:L2.XK):Prop
 |mk (t pe pt pr pk:Addr)(m:Nat)(es:En)(ts:List (List Nat))(ks:Kn) (h0_:vs=[.ref t,.ref pk])(h1_:H t=Z (.tup [.ref pe,.ref pt,.ref pr]))(h2_:WebP H pe pt m es ts)(h3_:(∃ ws,H pk=Z (.lst ws)/\dY H ws ks))(h4_:es.length<=30)(h5_:ks.length=es.length)(h6_:0<es.length)(h7_:∀(p:Addr)(rs:List (List Nat))(H':Hp),Same H H'->WebF (λa=>H a≠none) PL PS WC H' p m es ts rs ks->Q (.ref p) H')
theorem i7:ay ["grown","kinds","ties","k","end"] ["grown","kinds"] (ar nP):=by ac_nf
theorem Gx{PS WC fW:Addr}{bm:FuncData}(F:Fun K "_law_web" "_law_web" nP f fd)(T:Txt mg)(aW:Mak P w K mg base 1 "Pull" ["self","one","two","strength"] (oY K) PL I G)(a0:Mak P w K mg base 1 "Push" ["self","one","two","strength"] (oY K) PS I G)(TL:CT K PL)(TS:CT K PS)(a4:Mak P w K mg base 5 "Web" ["self","many","ties","turns"] (pS K) WC fW bm)(cw:CW K WC):FnOk P w K mg base CX0 7 f fd ["grown","kinds"] (An PL PS WC):=by
 refine F.ok i7 (by walk_at "l") λab A aa s H vs Q E O h=>?_
 obtain⟨t,pe,pt,pr,pk,m,r,ts,ks,rfl,ht,⟨⟨ys,am,hE⟩,⟨xs,aT,hR⟩,g⟩,⟨ws,al,tk⟩,ac,kl,bb,kk⟩:=h;let a5:ws.length=r.length:=by rw[tk.1,kl]
 let aS:ys.length=r.length:=hE.1;let mf:=pB g;let bv:xs.length=m:=by rw[hR.1,g.w.len]
 refine#[_,(ag (aA 2 i7.nd (bw ah))
   (ag (bc PassesOwn.never U (aN U T.n_range (ae (az av (by rfl) T.n_len aX (ae (pv 1) ah)) ah)) (bO 3 i7.nd) (ag (aA 4 i7.nd (aV (aZ (pv 0) aj) (pv 3)))
   (ak (bV (aB eG (aZ (aV (pv 1) (pv 3)) aj) aj (aC _)) (ak (aO (d9 HZ Ij Ii aQ (pv 2) (ae (vi a0.mkc a0.ok (O.mono ∅) U a0.mg a0.bn .nil nX (ae (aZ (pv 4) aj) (ae (aZ (pv 4) aj) (ae (aZ (aV (pv 1) (pv 3)) aj) ah)))) ah)))) (ak (aO (d9 HZ Ij Ii aQ (pv 2) (ae (vi aW.mkc aW.ok (O.mono ∅) U aW.mg aW.bn .nil nX (ae (aZ (pv 4) aj) (ae (aZ (pv 4) aj) (ae (aZ (aV (pv 1) (pv 3)) aj) ah)))) ah))))))))
   (ak (aE (vi a4.mkc a4.ok (O.mono ∅) U a4.mg a4.bn .nil nX (ae (az av (by rfl) T.n_len aX (ae (aZ (pv 0) aj) ah)) (ae (pv 2) (ae (d8 [] ["row"] (aP (aZ (pv 0) aj)) pg_c pt_c (λC ex s H=>(cS (pJ (K:=K) U) (by rfl) T.n_list ib (ae (pv 0) ah)))) ah)))))))),?_]
 refine#[(by show 0<=Mz;decide),λq hq=>?_]
 let s1:=ai hq (.lst []);refine#[_,U,pk,ws,U,.inl (SqL.of (s1 _ _ al)),_,U,∅,∅,bE (n:=(ws.length:Int).toNat) (λi M L=>∃ v2 v3 us,M=[Z (.ref t),Z (.ref pk),Z (.ref q),v2,v3]/\Same H L/\L q=Z (.lst us)/\lG PL PS L us (r.take i) ks) #[_,_,[],U,s1,af,U,λi e k z=>by simp at z] ?_ ?_]
 .rintro i M L N ⟨v2,v3,us,rfl,s2,ap,tt⟩;rw[HP,a5]at N;let e0:(0:Int)+(i:Int)=(i:Int):=Jl _;rw[e0];let e d:∃ e,r[i]?=Z e:=#[_,Hz N];let k hk:∃ k,ks[i]?=Z k:=#[_,Hz ∅]
  let _ _ ne:=g.w.ends e (HC d);let p x1 x2:=(hE.mono s2).2 i e d;let k1 k2 a6 y1 y2:=(tk.mono s2).2 i k hk;let ul:us.length=i:=by rw[tt.1,IC];omega
  refine#[_,U,t,_,0,_,U,U,SqT.of (s2 _ _ ht),at30,_,U,pe,ys,_,_,U,U,SqL.of (s2 _ _ am),ax x1,?_];refine#[_,U,_,U,pk,ws,_,_,U,U,SqL.of (s2 _ _ al),ax y1,a6,_,0,_,U,U,SqT.of y2,at0,U,_,U,?_];let fin:∀(x dx:Addr)(H':Hp),Same L H'->H' x=Z (.ins (cls PL PS (decide (k.1=1))) dx (tf (e.1:Int) (e.2:Int) k.2))->∃ v2 v3 zs,([Z (.ref t),Z (.ref pk),Z (.ref q),Z (.int (i:Int)),Z (.ref p)]:St)=[Z (.ref t),Z (.ref pk),Z (.ref q),v2,v3]/\Same H (upd H' q (.lst (us++[.ref x])))/\(upd H' q (.lst (us++[.ref x]))) q=Z (.lst zs)/\lG PL PS (upd H' q (.lst (us++[.ref x]))) zs (r.take (i+1)) ks:=λx dx H' s4 Y=>by
   refine#[_,_,_,U,aH (s2.trans s4) hq _,af,by rw[HJ,ul,IC];simp;omega,λj e' k' hj a3=>?_]
   let be:∀{b:Addr}{C dx:Addr}{fs:List (Str×V)},H' b=Z (.ins C dx fs)->b≠q:=λz y=>by rw[y,s4 _ _ ap]at z;cases z
   rw[LK]at hj;by_cases z:j<i
   .rw[NX ∅]at hj
    let p' an a1 a2:=(tt.mono s4).2 j e' k' (by rw[LK,NX z];exact hj) a3
    exact#[p',an,by rw[HH ∅];exact a1,by rw[ao (be a2)];exact a2]
   .by_cases z2:j=i
    .subst z2;rw[NX ∅,d]at hj
     cases hj
     rw[hk]at a3
     cases a3
     exact#[x,dx,by rw[← ul,HG (HF _),Iq];rfl,by rw[ao (be Y)];exact Y]
    .rw[NY ∅]at hj
     cases hj
  refine ite2 (λc=>?_) (λc=>?_)
  .let c':k.1=1:=V.int.inj (NO c)
   refine#[_,U,.inl #[U,_,SqL.of ap],_,U,p,_,0,_,U,U,SqT.of x2,at0,_,U,p,_,1,_,U,U,SqT.of x2,at1,_,U,_,U,pk,ws,_,_,U,U,SqL.of (s2 _ _ al),ax y1,a6,_,1,_,U,U,SqT.of y2,at1,?_];intro x dx nx a7 bf;refine#[x,PS,dx,_,_,_,U,af,TS,∅,∅,∅,k2,λH' Y B=>?_]
   let s4:Same L H':=λb o z=>B b o (by rw[ao (aD z nx),ao (aD z a7)];exact z) (aD z nx)
   refine#[U,q,us,_,U,U,s4 _ _ ap,aq ∅,fin x dx H' s4 ?_]
   rw[Ni c'];exact Y
  .let c':¬ k.1=1:=λz=>c (Ni (by rw[z]))
   refine#[_,U,.inl #[U,_,SqL.of ap],_,U,p,_,0,_,U,U,SqT.of x2,at0,_,U,p,_,1,_,U,U,SqT.of x2,at1,_,U,_,U,pk,ws,_,_,U,U,SqL.of (s2 _ _ al),ax y1,a6,_,1,_,U,U,SqT.of y2,at1,?_];intro x dx nx a7 bf;refine#[x,PL,dx,_,_,_,U,af,TL,∅,∅,∅,k2,λH' Y B=>?_]
   let s4:Same L H':=λb o z=>B b o (by rw[ao (aD z nx),ao (aD z a7)];exact z) (aD z nx)
   refine#[U,q,us,_,U,U,s4 _ _ ap,aq ∅,fin x dx H' s4 ?_]
   rw[My c'];exact Y
 rintro M L ⟨v2,v3,us,rfl,s2,ap,tt⟩;rw[HP,a5,Ip]at tt;let ba:=s2 _ _ aT;refine#[_,U,t,_,1,_,U,U,SqT.of (s2 _ _ ht),at31,pt,xs,U,.inl (SqL.of ba),_,U,_,U,t,_,1,_,U,U,SqT.of (s2 _ _ ht),at31,pt,U,#[_,SqL.of ba],bz (K:=K) (xs:=xs) (λi zs H3=>Same L H3/\bF H3 zs (ts.take i)) (Ia (aq ∅)) #[λ_ _ e=>e,U,λi l e=>by simp at e] (λi zs H3 _ z=>SqL.of (z.1 _ _ ba)) ?_ ?_]
 .rintro i x zs H3 J ⟨s3,rz⟩;let N:i<ts.length:=by rw[← hR.1];exact(HB.mp J).1
  let l v:∃ l,ts[i]?=Z l:=#[_,Hz N];let p a1 a2:=(hR.mono (s2.trans s3)).2 i l v;rw[J]at a1
  cases a1
  refine#[_,U,p,_,U,.inl (SqL.of a2),λg hg=>?_];let s4:=ai hg (.lst (l.map iV));refine#[s3.trans s4,?_];rw[show ts.take (i+1)=ts.take i++[l] by rw[Ie,v];rfl]
  exact(rz.mono s4).snoc af
 rintro zs H3 _ ⟨s3,rz⟩ D hD;rw[hR.1,Ip]at rz;let s4:=ai hD (.lst zs);let aI:=s3.trans s4;intro x dx nx a7 bf;let up:∀ b o,(upd H3 D (.lst zs)) b=Z o->(upd (upd (upd H3 D (.lst zs)) dx (.own x)) x (.ins WC dx [])) b=Z o:=λb o z=>by rw[ao (aD z nx),ao (aD z a7)];exact z
 refine#[x,WC,dx,q,D,m,us,zs,r,ts,(by rw[bv];rfl),af,cw,up _ _ (aI _ _ ap),((tt.at kl TL TS).mono aI).mono up,up _ _ af,(rz.mono s4).mono up,g,bb,∅,λfs q1 rs H' Y hg hn B h3 h4=>#[U,?_]]
 let s5:Same L H':=λb o z=>h4 b o (up _ _ (aI _ _ z)) (aD (aI _ _ z) nx)
 let bi:∀ a,H a≠none->(upd (upd (upd H3 D (.lst zs)) dx (.own x)) x (.ins WC dx [])) a≠none:=λa z y=>z (by
  cases u:H a with
  |none=>rfl
  |some o=>rw[up _ _ (aI _ _ (s2 _ _ u))]at y;cases y)
 exact kk x rs H' (s2.trans s5) #[dx,fs,q1,us,Y,hg.mono (λ_ _ z=>z) bi,λz=>bi _ z hn,B,h3,tt.mono s5]
open KF (andN orN shlN xorN)
theorem yw:MC "sum"=Z (.builtin "sum"):=by rfl
theorem Gg{e:Expr}{j t2:TE}(Y:PE X e j)(h2:PE X e t2):PE X e (λσ H Q=>j σ H Q∨t2 σ H Q):=λB s σ H Q I h=>h.elim (Y B s σ H Q I) (h2 B s σ H Q I)
def bit(l a:Int):Int:=l/2^a.toNat%2
theorem FJ(x y:Int):MY (M4 x y) 1=(x%2+y%2)%2:=by
 let e:MY (M4 x y) 1=M4 x y%2:=PySem.W.kbt_mask _ 1;rw[e,PyProof.Rows.bitXor_and];omega
inductive mv(push:Bool)(vs:List L2.V)(H:L2.Hp)(Q:L2.VK)(x3_:L2.XK):Prop
 |mk (p:_) (h0_:vs=[.ref p])(h1_:Q (.int (if push=true then 1 else 0)) H)
def TieAt(H:Hp)(p C:Addr)(a b s:Int):Prop:=∃ l,H p=Z (.ins C l (tf a b s))
def upL(u:Nat->Bool)(i:Nat):List Nat:=(IG i).filter u
theorem gp(u:Nat->Bool)(i:Nat):upL u (i+1)=if u i=true then upL u i++[i] else upL u i:=by
 unfold upL;rw[Lo,Kf];by_cases h:u i=true
 .simp[*]
 .simp[*]
def yM(ps:List Nat):Nat:=ps.foldl (λm p=>m|||2^p) 0
theorem pj(ps:List Nat)(p:Nat):yM (ps++[p])=yM ps|||2^p:=by unfold yM;simp
def MK(u:Nat->Bool):Nat->Nat
 |0=>0
 |i+1=>if u i=true then MK u i|||2^i else MK u i
theorem n8(u:Nat->Bool):∀ i,yM (upL u i)=MK u i
 |0=>rfl
 |i+1=>by
  rw[gp];show _=if u i=true then MK u i|||2^i else MK u i
  split
  .rw[pj,n8 u i]
  .exact n8 u i
theorem iZ(u:Nat->Bool)(k:Nat):∀ i,(MK u i).testBit k=(decide (k<i)&&u k)
 |0=>by show Ky 0 k=_;simp
 |i+1=>by
  show(if u i=true then MK u i|||2^i else MK u i).testBit k=_
  let Q:=iZ u k i;by_cases h:u i=true
  .rw[NX h,I9,Q,Ic];by_cases z:i=k
   .subst z;simp[h]
   .by_cases M:k<i
    .simp[M,Jv M,z]
    .grind
  .rw[NY h,Q];by_cases M:k<i
   .simp[M,Jv M]
   .grind
def stg(ks:Kn)(t:Nat):Int:=match ks[t]? with|some k=>k.2|none=>0
theorem bitN(N a:Nat):bit (N:Int) (a:Int)=if N.testBit a=true then 1 else 0:=by
 unfold bit;rw[HP,Kw];let e:((N:Int)/2^a%2)=((N/2^a%2:Nat):Int):=by rfl
 rw[e];by_cases z:N/2^a%2=1
 .rw[z,Ni U];rfl
 .rw[My z];let:N/2^a%2=0:=by omega
  rw[this];rfl
def mw(K:HE):Sp:=λg H Q _=>∃(a:Addr),∃(A:List Nat),(g=[.ref a]/\SqL K H a (A.map iV)/\(∀ p∈A,p<80)/\Q (.int ((yM A:Nat):Int)) H)
def sm(l:List Nat)(g:Nat->Nat):Nat:=(l.map g).sum
theorem Au(x:Nat)(l:List Nat)(g:Nat->Nat):sm (x::l) g=g x+sm l g:=by rfl
def WebT(PL PS o:Addr)(H:Hp)(p:Addr)(m:Nat)(es:En)(ts:List (List Nat))(ks:Kn):Prop:=∃ l fs k j Y n,H p=Z (.ins o l fs)/\fs.lookup ("many" : Str)=Z (.int (m:Int))/\fs.lookup ("ties" : Str)=Z (.ref k)/\H k=Z (.lst j)/\lG PL PS H j es ks/\fs.lookup ("turns" : Str)=Z (.ref Y)/\H Y=Z (.lst n)/\bF H n ts
theorem WebF.t{S:Addr->Prop}{PS:Addr}{ks:Kn}(h:WebF S PL PS f H p m es ts rs ks):WebT PL PS f H p m es ts ks:=by
 let l fs k j a b _ c d e:=h;let Y n b1 _ b2 b3:=b.turns;exact#[l,fs,k,j,Y,n,a,b.many,c,d,e,b1,b2,b3.off]
theorem uU:ay ["self"] ["self"] (ar eM):=by ac_nf
theorem Dz(F:Fun K "wish" "Tie.wish" eM f fd):FnOk P w K mg base CX0 1 f fd ["self"] (mv false):=by
 refine F.ok uU (by walk_at "l") λY A o s H g Q E O h=>?_
 let p rfl k:=h;exact#[_,(ak (aE aj)),k]
theorem sG:ay ["self"] ["self"] (ar c9):=by ac_nf
theorem Dy(F:Fun K "wish" "Push.wish" c9 f fd):FnOk P w K mg base CX0 1 f fd ["self"] (mv true):=by
 refine F.ok sG (by walk_at "l") λY A o s H g Q E O h=>?_
 let p rfl k:=h;exact#[_,(ak (aE aj)),k]
theorem qg:ay ["found"] ["found"] (ar iw):=by ac_nf
theorem A5(F:Fun K "_law_number" "_law_number" iw f fd)(T:Txt mg):FnOk P w K mg base CX0 1 f fd ["found"] spNum:=by
 refine F.ok qg (by walk_at "l") λY A o s H g Q E O h=>?_
 let i rfl k:=h;refine#[_,(ak (aE (pe_and (az yu (by rfl) T.n_isinstance lF (ae (pv 0) (ae (AR (v:=.ty "int") U T.n_int uu U) ah))) (pe_one (pe_not (az yu (by rfl) T.n_isinstance lF (ae (pv 0) (ae (AR (v:=.ty "bool") U T.n_bool Ht U) ah)))))))),?_]
 refine#[_,U,_,_,_,_,_,U,TyOf.int i,Or.inl #[_,U,U],kit_ii K,_,U,iteT ?_];exact#[_,U,_,_,_,_,_,U,TyOf.int i,Or.inl #[_,U,U],kit_ib K,_,U,k]
open KF (andN orN shlN xorN)
def bt(M t:Nat):Nat:=M/2^t%2
theorem xk(M t:Nat):bt M t=if M.testBit t=true then 1 else 0:=by
 unfold bt;rw[Kw];by_cases z:M/2^t%2=1
 .simp_all
 .simp_all
theorem uu(M t:Nat):MY ((M:Int)/2^((t:Nat):Int).toNat) 1=((bt M t:Nat):Int):=by
 let e:MY ((M:Int)/2^((t:Nat):Int).toNat) 1=((M:Int)/2^((t:Nat):Int).toNat)%2:=PySem.W.kbt_mask _ 1;assumption
def parR(M:Nat)(r:List Nat):Nat:=sm r (λd=>bt M (d/2))%2
theorem CY(l:List Nat)(g:Nat->Nat):(l.map λd=>((g d:Nat):Int)).sum=((sm l g:Nat):Int):=by
 induction l with
 |nil=>rfl
 |cons x l Q=>rw[Il,LJ,Q,Au];omega
def bA(ks:Kn)(t:Nat):Bool:=match ks[t]? with|some k=>decide (k.1=1)|none=>false
theorem Ga{ks:Kn}{t:Nat}{k:Int×Int}(h:ks[t]?=Z k):bA ks t=decide (k.1=1):=by unfold bA;rw[h]
def oddU(M:Nat)(rs:List (List Nat))(k:Nat):Bool:=decide (parR M (rs.getD k [])=1)
theorem Eb{k:Nat}{r:List Nat}(h:rs[k]?=Z r):rs.getD k []=r:=by simp[*]
def WebR(PL PS o:Addr)(H:Hp)(p:Addr)(es:En)(ks:Kn)(rs:List (List Nat)):Prop:=∃ l fs k j t q,H p=Z (.ins o l fs)/\fs.lookup ("ties" : Str)=Z (.ref k)/\H k=Z (.lst j)/\lG PL PS H j es ks/\fs.lookup ("rounds" : Str)=Z (.ref t)/\H t=Z (.lst q)/\bF H q rs
theorem WebR.mono{PL PS o:Addr}{H H':Hp}{p:Addr}{es:En}{ks:Kn}{rs:List (List Nat)}(h:WebR PL PS o H p es ks rs)(s:Same H H'):WebR PL PS o H' p es ks rs:=by
 let l fs k j t q a b c d e f g:=h;exact#[l,fs,k,j,t,q,s _ _ a,b,s _ _ c,d.mono s,e,s _ _ f,g.mono s]
inductive Ak(PL PS WC:Addr)(vs:List L2.V)(H:L2.Hp)(Q:L2.VK)(x3_:L2.XK):Prop
 |mk (p:Addr)(es:En)(ks:Kn)(rs:List (List Nat)) (h0_:vs=[.ref p])(h1_:WebR PL PS WC H p es ks rs)(h2_:ks.length=es.length)(h3_:es.length<=30)(h4_:∀ H',Same H H'->Q (.int ((MK (bA ks) es.length:Nat):Int)) H')
inductive pT(PL PS WC:Addr)(vs:List L2.V)(H:L2.Hp)(Q:L2.VK)(x3_:L2.XK):Prop
 |mk (p:Addr)(M k:Nat)(es:En)(ks:Kn)(rs:List (List Nat))(r:List Nat) (h0_:vs=[.ref p,.int (M:Int),.int (k:Int)])(h1_:WebR PL PS WC H p es ks rs)(h2_:rs[k]?=Z r)(h3_:r.length<=900)(h4_:∀ H',Same H H'->Q (.int ((parR M r:Nat):Int)) H')
inductive E2(PL PS WC:Addr)(vs:List L2.V)(H:L2.Hp)(Q:L2.VK)(x3_:L2.XK):Prop
 |mk (p:Addr)(es:En)(ks:Kn)(rs:List (List Nat)) (h0_:vs=[.ref p])(h1_:WebR PL PS WC H p es ks rs)(h2_:ks.length=es.length)(h3_:es.length<=30)(h4_:rs.length<=70)(h5_:(∀ r∈rs,r.length<=900))(h6_:∀ H',Same H H'->Q (.int ((MK (oddU (MK (bA ks) es.length) rs) rs.length:Nat):Int)) H')
theorem WebF.r{S:Addr->Prop}{PS:Addr}{ks:Kn}(h:WebF S PL PS f H p m es ts rs ks):WebR PL PS f H p es ks rs:=by
 let l fs k j a g _ b c d:=h;let t q e O i:=g.rounds;exact#[l,fs,k,j,t,q,a,b,c,d,e,O,i]
theorem Aw:ay ["web"] ["web"] (ar qm):=by ac_nf
theorem Gv{PS:Addr}{d0 d1:FuncData}(F:Fun K "pushes" "pushes" qm f fd)(T:Txt mg)(cw:CW K q)(TL:CT K PL)(TS:CT K PS)(ab:Cal P w K mg base 1 "mask_of" ["places"] (mw K) a G)(u0:Met P w K mg base 1 PL "wish" ["self"] (mv false) I d0)(u1:Met P w K mg base 1 PS "wish" ["self"] (mv true) f1 d1):
  FnOk P w K mg base CX0 2 f fd ["web"] (Ak PL PS q):=by
 refine F.ok Aw (by walk_at "l") λv A o s H g Q E O h=>?_
 let p r ks rs rfl{j fs t xs q5 z5 M aI am tk _}kl aa kk:=h;let aS:=TL.cl;let aT:=TS.cl;let an:xs.length=r.length:=tk.1;refine#[_,(ak (aE (ab.c O (ae (d8 [] ["number","tie"] (jW U T.n_enumerate (ae (bW (pv 0) U) ah)) (λC ex s H=>(gE (n:=2) (K:=K) U U (aJ (bp (i:=0) (show(["number","tie"]:List Str).Nodup from by decide) U (Or.inl U)) (aJ (bp (i:=1) (show(["number","tie"]:List Str).Nodup from by decide) U (Or.inl U)) cP)))) (λC ex s H=>(jV (aB eG (Gg (m8 (pv 1) aS u0.me u0.ok (O.mono ∅) u0.bn .nil nX) (m8 (pv 1) aT u1.me u1.ok (O.mono ∅) u1.bn .nil nX)) aj (aC _)))) (λC ex s H=>(pv 0))) ah)))),?_]
 refine#[_,U,p,q,j,fs,_,U,M,cw.cl,cw.n2,aI,t,U,#[_,SqL.of am],jA (K:=K) (xs:=xs) (λi Y u=>Same H u/\Y=(upL (bA ks) i).map iV) (Ia (aq ∅)) #[λ_ _ e=>e,U] (λi Y u _ z=>SqL.of (z.1 _ _ am)) ?_ ?_ ?_]
 .rintro i x Y u T2 J ⟨m,rfl⟩ ac;let N:i<r.length:=by rw[← tk.1];exact(HB.mp J).1
  let e d:∃ e,r[i]?=Z e:=#[_,Hz N];let k l:∃ k,ks[i]?=Z k:=#[_,Hz ∅]
  let B:=m.trans (ai ac (.tup [.int (i:Int),x]));let p' al x1 x2:=(tk.mono B).2 i e k d l;rw[J]at x1
  cases x1
  refine#[T2,_,U,SqT.of af,U,_,_,U,_,_,U,U,U,?_];let hU:=Ga l;let ap:∀ b:Bool,b=bA ks i->(if b=true then tVar 0 ([Z (.int (i:Int)),Z (.ref p')]:St) (upd u T2 (.tup [.int (i:Int),.ref p'])) (λy H4=>Same H H4/\(upL (bA ks) i).map iV++[y]=(upL (bA ks) (i+1)).map iV) else Same H (upd u T2 (.tup [.int (i:Int),.ref p']))/\(upL (bA ks) i).map iV=(upL (bA ks) (i+1)).map iV):=λb L=>by
   rw[gp,← L]
   cases b with
   |true =>
    refine iteT #[_,U,B,?_];rw[NX U,HW];rfl
   |false =>
    refine iteF #[B,?_];rfl
  by_cases c:k.1=1
  .rw[Ni c]at x2 hU;refine .inr #[_,U,p',al,_,U,x2,yE _ _ _ ∅ ∅ ∅,p',U,U,_,U,?_]
   exact ap _ hU.symm
  .rw[My c]at x2 hU;refine .inl #[_,U,p',al,_,U,x2,yE _ _ _ ∅ ∅ ∅,p',U,U,_,U,?_]
   exact ap _ hU.symm
 .rintro Y u ⟨m,rfl⟩ D hD;rw[an];refine#[D,upL (bA ks) r.length,U,SqL.of af,λp M=>?_,?_]
  .let:=Ja.mp (JM.mp M).1;omega
  .rw[n8];exact kk _ (m.trans (ai hD _))
 .rintro i Y u ⟨_,rfl⟩;rw[HD];exact IK (Jj _ _) (by simp)
theorem Ax:ay ["web","ties","number"] ["web","ties","number"] (ar qo):=by ac_nf
theorem DG{PS:Addr}(F:Fun K "odd_at" "odd_at" qo f fd)(T:Txt mg)(cw:CW K a):FnOk P w K mg base CX0 1 f fd ["web","ties","number"] (pT PL PS a):=by
 refine F.ok Ax (by walk_at "l") λv A o s H B Q E O h=>?_
 let p M k N b I r rfl{n fs t xs q5 z5 g _ _ _ l5 aa hR}l G L:=h;let pr q j:=hR.2 k r l;refine#[_,(ak (aE (aw bq (az (rO U) (by rfl) T.n_sum yw (ae (d8 [("ties",1)] ["dart"] (aP (aV (bW (pv 0) U) (pv 2))) pg_c pt_c (λC m s H=>(aw jD (aw fZ (pv 1) (aw b9 (pv 0) aj)) aj))) ah)) aj))),?_]
 refine#[_,U,p,a,n,fs,_,U,g,cw.cl,cw.n4,l5,_,U,q5,z5,_,_,U,U,SqL.of aa,ax q,pr,U,#[_,SqL.of j],bz (K:=K) (xs:=r.map iV) (λi Y u=>Same H u/\Y=((r.take i).map λd=>((bt M (d/2):Nat):Int)).map V.int) (Ia (aq (by rw[HD];omega))) #[λ_ _ e=>e,U] (λi Y u _ z=>SqL.of (z.1 _ _ j)) ?_ ?_]
 .rintro i x Y u J ⟨y,rfl⟩;rw[HN]at J;let d c rfl:=HV.mp J;let ed:(d:Int)/2=((d/2:Nat):Int):=by omega
  refine#[_,U,_,U,_,_,U,U,#[by decide,by decide],_,_,U,U,(show(0:Int)<=(d:Int)/2 by omega),_,_,U,U,y,?_]
  rw[Ie,c,HW,HW];show _++[V.int (MY ((M:Int)/2^((d:Int)/2).toNat) 1)]=_++[V.int ((bt M (d/2):Nat):Int)];rw[ed,uu]
 rintro Y u _ ⟨y,rfl⟩ D hD;rw[HD,Ip];refine#[D,_,U,SqL.of af,_,_,U,U,(by show(0:Int)<2;decide),?_]
 let e:(r.map λd=>((bt M (d/2):Nat):Int)).sum%2=((parR M r:Nat):Int):=by
  rw[CY r λd=>bt M (d/2)];unfold parR;omega
 show Q (V.int ((r.map λd=>((bt M (d/2):Nat):Int)).sum%2)) _;rw[e];exact L _ (y.trans (ai hD _))
theorem kx:ay ["web","pushing"] ["web"] (ar iu):=by ac_nf
theorem Gw{fp PS:Addr}{aT aW:FuncData}(F:Fun K "odd_rounds" "odd_rounds" iu f fd)(T:Txt mg)(cw:CW K I)(ac:Cal P w K mg base 1 "mask_of" ["places"] (mw K) a G)(an:Cal P w K mg base 2 "pushes" ["web"] (Ak PL PS I) fp aT)(am:Cal P w K mg base 1 "odd_at" ["web","ties","number"] (pT PL PS I) q aW):
  FnOk P w K mg base CX0 3 f fd ["web"] (E2 PL PS I):=by
 refine F.ok kx (by walk_at "l") λv A o s H B Q E O h=>?_
 let p y ks rs rfl wb kl aa a0 aI L:=h
 refine#[_,(ag (aA 1 kx.nd (an.c O (ae (pv 0) ah)))
   (ak (aE (ac.c O (ae (d8 [("web",0),("pushing",1)] ["number"] (aN U T.n_range (ae (az av (by rfl) T.n_len aX (ae (bW (pv 0) U) ah)) ah)) pg_c (λC ex s H=>(jV (aB eG (am.c O (ae (pv 1) (ae (pv 2) (ae (pv 0) ah)))) aj (aC _)))) (λC ex s H=>(pv 0))) ah))))),?_]
 refine#[_,U,p,y,ks,rs,U,wb,kl,aa,λm J=>?_];let aS:=wb.mono J;let l fs k j q5 z5 g _ _ _ l5 al hR:=id aS;let ap:z5.length=rs.length:=hR.1;generalize hM:MK (bA ks) y.length=M;rw[hM]at L;refine#[_,U,p,I,l,fs,_,U,g,cw.cl,cw.n4,l5,q5,z5,U,.inl (SqL.of al),_,U,∅,∅,kj (λi Y u=>Same m u/\Y=(upL (oddU M rs) i).map iV) (Ia (aq ∅)) #[λ_ _ e=>e,U] ?_ ?_ ?_]
 .rintro i Y u N ⟨t,rfl⟩;let e0:(0:Int)+(i:Int)=(i:Int):=Jl _;rw[e0];let r ab:∃ r,rs[i]?=Z r:=#[_,Hz ∅]
  refine#[U,_,U,_,U,_,U,p,M,i,y,ks,rs,r,U,aS.mono t,ab,aI r (HC ab),λn b=>#[U,_,U,?_]];let d:oddU M rs i=decide (parR M r=1):=by unfold oddU;rw[Eb ab]
  rw[gp,d];refine ite2 (λc=>?_) (λc=>?_)
  .let x:parR M r=1:=by lia
   refine#[_,U,t.trans b,?_];rw[NX (Ni x),HW];rfl
  .let x:¬ parR M r=1:=λz=>c (Ni (congrArg V.int ∅))
   refine#[t.trans b,?_];rw[NY (by simpa using x)]
 .rintro Y u ⟨t,rfl⟩ D hD;rw[HP,ap];refine#[D,upL (oddU M rs) rs.length,U,SqL.of af,λp g=>?_,?_]
  .let:=Ja.mp (JM.mp g).1;omega
  .rw[n8];exact L _ (J.trans (t.trans (ai hD _)))
 .rintro i Y u ⟨_,rfl⟩;rw[HD];exact IK (Jj _ _) (by simp)
open KF (andN orN shlN xorN)
structure TxtZ(mg:Str->Option Value):Prop extends Txt mg where
 n_zip:mg "zip"=none
def WebS(PL PS o:Addr)(H:Hp)(p:Addr)(es:En)(ks:Kn)(rs:List (List Nat)):Prop:=∃ l fs k j t q,H p=Z (.ins o l fs)/\fs.lookup ("ties" : Str)=Z (.ref k)/\H k=Z (.lst j)/\lG PL PS H j es ks/\fs.lookup ("sides" : Str)=Z (.ref t)/\H t=Z (.lst q)/\ic H q es.length rs
theorem WebS.mono{PL PS o:Addr}{H H':Hp}{p:Addr}{es:En}{ks:Kn}{rs:List (List Nat)}(h:WebS PL PS o H p es ks rs)(s:Same H H'):WebS PL PS o H' p es ks rs:=by
 let l fs k j t q a b c d e f g:=h;exact#[l,fs,k,j,t,q,s _ _ a,b,s _ _ c,d.mono s,e,s _ _ f,g.mono s]
def zO(H:Hp)(zs:List V)(n:Nat)(ks:Kn)(rs:List (List Nat)):Prop:=zs.length=n/\∀ i,i<n->∃ k t a b r m,ks[i]?=Z k/\zs[i]?=Z (.ref t)/\H t=Z (.tup [iV a,iV b,.int k.2])/\rs[a]?=Z r/\2*i∈r/\rs[b]?=Z m/\2*i+1∈m
theorem zO.mono{ks:Kn}(h:zO H zs n ks rs)(s:Same H H'):zO H' zs n ks rs:=#[h.1,λi I=>by
 let k t a b r m c B J C v u w:=h.2 i I
 exact#[k,t,a,b,r,m,c,B,s _ _ J,C,v,u,w]]
inductive uM(PL PS WC:Addr)(vs:List L2.V)(H:L2.Hp)(Q:L2.VK)(x3_:L2.XK):Prop
 |mk (p:Addr)(es:En)(ks:Kn)(rs:List (List Nat)) (h0_:vs=[.ref p])(h1_:WebS PL PS WC H p es ks rs)(h2_:ks.length=es.length)(h3_:es.length<=62)(h4_:∀ q zs H',Same H H'->H q=none->H' q=Z (.lst zs)->zO H' zs es.length ks rs->Q (.ref q) H')
theorem uR:ay ["web"] ["web"] (ar lR):=by ac_nf
theorem DI{PS:Addr}(F:Fun K "links_of" "links_of" lR f fd)(T:TxtZ mg)(cw:CW K q)(TL:CT K PL)(TS:CT K PS):FnOk P w K mg base CX0 1 f fd ["web"] (uM PL PS q):=by
 refine F.ok uR (by walk_at "l") λm A v s H g Q E O h=>?_
 let p N ks rs rfl{L fs G xs q5 z5 M l1 an tk l5 ac hs}kl aa kk:=h;let ap:xs.length=N.length:=tk.1;let aI:z5.length=N.length:=hs.1;let ct:∀ b,CT K (cls PL PS b):=λb=>by
  unfold cls;split
  .exact TS
  .exact TL
 refine#[_,(ak (aE (d8 [] ["sides","tie"] (AN U T.n_zip (ae (bW (pv 0) U) (ae (bW (pv 0) U) ah))) (λC ex s H=>(gE (n:=2) (K:=K) U U (aJ (bp (i:=0) (show(["sides","tie"]:List Str).Nodup from by decide) U (Or.inl U)) (aJ (bp (i:=1) (show(["sides","tie"]:List Str).Nodup from by decide) U (Or.inl U)) cP)))) pt_c (λC ex s H=>(cR (ae (l7 K (pv 0) aj) (ae (l7 K (pv 0) aj) (ae (nV (K:=K) U (pv 1) U) ah)))))))),?_]
 refine#[_,U,p,q,L,fs,_,U,M,cw.cl,cw.n5,l5,_,U,p,q,L,fs,_,U,M,cw.cl,cw.n2,l1,q5,G,U,#[_,SqL.of ac],#[_,SqL.of an],uh (K:=K) (xs:=z5) (zs:=xs) (λi Y u=>Same H u/\zO u Y i ks rs) (Ia (aq ∅)) ∅ #[λ_ _ e=>e,U,λi I=>by omega] (λi Y u _ z=>#[SqL.of (z.1 _ _ ac),SqL.of (z.1 _ _ an)]) ?_ ?_ ?_]
 .rintro i x z Y u T2 J hz ⟨y,hY⟩ ab;let I:i<N.length:=by rw[← aI];exact(HB.mp J).1
  let e d:∃ e,N[i]?=Z e:=#[_,Hz I];let k l:∃ k,ks[i]?=Z k:=#[_,Hz ∅]
  let t a b r r' y1 y2 y3 y4 y5 y6:=hs.2 i I;rw[J]at y1
  cases y1
  let p' al x1 x2:=tk.2 i e k d l;rw[hz]at x1
  cases x1
  let B:=y.trans (ai ab (.tup [.ref t,.ref p']));refine#[T2,_,U,SqT.of af,U,_,_,U,_,_,U,U,U,yesT ?_];refine#[_,U,t,_,0,_,U,U,SqT.of (B _ _ y2),at0,_,U,t,_,1,_,U,U,SqT.of (B _ _ y2),at1,_,U,p',_,al,_,_,U,B _ _ x2,(ct _).cl,(ct _).n3,tf_str _ _ _,(by show 3<=Mz;decide),λt4 aS=>?_]
  let s4:=ai aS (.tup [iV a,iV b,.int k.2]);let am:=(ai ab (.tup [.ref t,.ref p'])).trans s4;let aT:=hY.mono am;refine#[y.trans am,by rw[HJ,hY.1];rfl,λj hj=>?_]
  by_cases c:j<i
  .let k' t' a' b' w1 w2 v0 v1 v2 v3 v4 v5 v6:=aT.2 j c;exact#[k',t',a',b',w1,w2,v0,by rw[HH (by rw[hY.1];exact c)];exact v1,v2,v3,v4,v5,v6]
  .let:j=i:=by omega
   subst this;exact#[k,t4,a,b,r,r',l,by rw[← hY.1,HG (HF _),Iq];rfl,af,y3,y4,y5,y6]
 .rintro Y u ⟨y,hY⟩ D hD;rw[aI]at hY;let aW:H D=none:=by
   cases z:H D with
   |none=>rfl
   |some o=>rw[y _ _ z]at hD;cases hD
  exact kk D Y _ (y.trans (ai hD _)) aW af (hY.mono (ai hD _))
 .rintro i Y u ⟨_,hY⟩;rw[hY.1];exact HF _
open KF (andN orN shlN xorN)
def UN(es:En)(ks:Kn)(L t:Nat):Bool:=match es[t]? with|some e=>(L.testBit e.1 ^^ L.testBit e.2 ^^ bA ks t)|none=>false
theorem UN_at{ks:Kn}{t:Nat}(h:es[t]?=Z e):UN es ks L t=(L.testBit e.1 ^^ L.testBit e.2 ^^ bA ks t):=by unfold UN;rw[h]
theorem Di{ks:Kn}{t:Nat}{k:Int×Int}(h:ks[t]?=Z k):bA ks t=decide (k.1=1):=by unfold bA;rw[h]
theorem EX{ks:Kn}{t:Nat}{k:Int×Int}(h:ks[t]?=Z k):stg ks t=k.2:=by unfold stg;rw[h]
def wS(es:En)(ks:Kn)(L:Nat):Nat->Int
 |0=>0
 |i+1=>if UN es ks L i=true then wS es ks L i+stg ks i else wS es ks L i
def wT(es:En)(ks:Kn)(L:Nat):Int:=wS es ks L es.length
def lA(es:En)(ks:Kn)(m:Nat):List Int:=(IG (2^m)).map (wT es ks)
theorem zE(es:En)(ks:Kn)(m:Nat):(lA es ks m).length=2^m:=by unfold lA;simp
theorem oF{ks:Kn}(h:L<2^m):(lA es ks m)[L]?=Z (wT es ks L):=by unfold lA;rw[HN,KQ h];rfl
theorem xorI{a b:Nat}(L:Nat):MY (M4 ((L:Int)/2^((a:Nat):Int).toNat) ((L:Int)/2^((b:Nat):Int).toNat)) 1=if(L.testBit a ^^ L.testBit b)=true then 1 else 0:=by
 rw[FJ];let Y:=bitN L a;let B:=bitN L b;unfold bit at Y B;rw[Y,B]
 cases L.testBit a<;>cases L.testBit b<;>rfl
theorem EL{ks:Kn}{k:Nat}{y:Int×Int}(D:es[k]?=Z e)(f:ks[k]?=Z y)(d:y.1=0∨y.1=1):(!decide (V.int (if(L.testBit e.1 ^^ L.testBit e.2)=true then 1 else 0)=V.int y.1))=UN es ks L k:=by
 rw[UN_at D,Di f];obtain z|z:=d
 .rw[z]
  cases L.testBit e.1<;>cases L.testBit e.2<;>rfl
 .rw[z]
  cases L.testBit e.1<;>cases L.testBit e.2<;>rfl
theorem E9(h:m<=10):(0:Int)<((2^m:Nat):Int)/\((2^m:Nat):Int)<=1024/\(2:Nat)^m<=1024/\0<2^m:=by
 let r:(2:Nat)^m<=2^10:=IZ ∅ h
 grind
inductive spWor(K:HE)(vs:List L2.V)(H:L2.Hp)(Q:L2.VK)(x3_:L2.XK):Prop
 |mk (pe pk:Addr)(ys ws:List V)(es:En)(ks:Kn)(L:Nat) (h0_:vs=[.ref pe,.ref pk,.int (L:Int)])(h1_:SqL K H pe ys)(h2_:cM H ys es)(h3_:SqL K H pk ws)(h4_:dY H ws ks)(h5_:ks.length=es.length)(h6_:es.length<=900)(h7_:Q (.int (wT es ks L)) H)
inductive Ar(vs:List L2.V)(H:L2.Hp)(Q:L2.VK)(x3_:L2.XK):Prop
 |mk (t pe pt pr pk:Addr)(m:Nat)(es:En)(ts:List (List Nat))(ks:Kn) (h0_:vs=[.ref t,.ref pk])(h1_:H t=Z (.tup [.ref pe,.ref pt,.ref pr]))(h2_:WebP H pe pt m es ts)(h3_:(∃ ws,H pk=Z (.lst ws)/\dY H ws ks))(h4_:ks.length=es.length)(h5_:es.length<=900)(h6_:m<=10)(h7_:∀(q:Addr)(H':Hp),Same H H'->H q=none->H' q=Z (.lst ((lA es ks m).map V.int))->Q (.ref q) H')
theorem dI:ay ["ends","kinds","laying","found","k","unlike"] ["ends","kinds","laying"] (ar jJ):=by ac_nf
theorem Dx(F:Fun K "_law_worth" "_law_worth" jJ f fd)(T:Txt mg):FnOk P w K mg base CX0 1 f fd ["ends","kinds","laying"] (spWor K):=by
 refine F.ok dI (by walk_at "l") λv A o s H g Q E O h=>?_
 let pe pk t J N b L rfl ab hE aa m C e9 y:=h;let ac:t.length=N.length:=hE.1
 refine#[_,(ag (aA 3 dI.nd aj)
   (ag (bc PassesOwn.never U (aN U T.n_range (ae (az av (by rfl) T.n_len aX (ae (pv 0) ah)) ah)) (bO 4 dI.nd) (ag (aA 5 dI.nd (aw jD (aw fY (aw fZ (pv 2) (aZ (aV (pv 0) (pv 4)) aj)) (aw fZ (pv 2) (aZ (aV (pv 0) (pv 4)) aj))) aj))
   (ak (bV (aB jZ (pv 5) (aZ (aV (pv 1) (pv 4)) aj) (aC _)) (ak (aA 3 dI.nd (aw br (pv 3) (aZ (aV (pv 1) (pv 4)) aj)))) aR))))
   (ak (aE (pv 3))))),?_]
 refine#[_,U,pe,t,U,.inl ab,_,U,∅,∅,bE (n:=(t.length:Int).toNat) (λi M u=>∃(v4 j:Option V),M=[Z (.ref pe),Z (.ref pk),Z (.int (L:Int)),Z (.int (wS N b L i)),v4,j]/\u=H) #[_,_,U,U] ?_ ?_]
 .rintro k M u l ⟨v4,j,rfl,rfl⟩;rw[HP,ac]at l;let r:(0:Int)+(k:Int)=(k:Int):=Jl _;rw[r];let e D:∃ e,N[k]?=Z e:=#[_,Hz l];let am al:∃ x,b[k]?=Z x:=#[_,Hz ∅]
  let p q I:=hE.2 k e D;let d G an B a:=m.2 k am al;refine#[_,U,_,U,_,U,pe,t,_,_,U,U,ab,ax q,p,_,0,_,U,U,SqT.of I,at0,_,_,U,U,(show(0:Int)<=(e.1:Int) by omega),_,U,_,U,_,U,pe,t,_,_,U,U,ab,ax q,p,_,1,_,U,U,SqT.of I,at1,_,_,U,U,(show(0:Int)<=(e.2:Int) by omega),_,_,U,U,_,_,U,U,?_]
  dsimp only;rw[xorI];refine#[_,U,_,U,_,U,pk,J,_,_,U,U,aa,ax B,an,_,0,_,U,U,SqT.of a,at0,U,_,U,ite2 (λc=>?_) (λc=>?_)]
  .let cu:UN N b L k=true:=(EL D al d).symm.trans c
   refine#[_,U,_,U,_,U,pk,J,_,_,U,U,aa,ax B,an,_,1,_,U,U,SqT.of a,at1,_,_,U,U,?_];refine#[Z (.int (k:Int)),Z (.int (if(L.testBit e.1 ^^ L.testBit e.2)=true then 1 else 0)),?_,U];let Y:wS N b L (k+1)=wS N b L k+am.2:=by
    show(if UN N b L k=true then _ else _)=_;rw[NX cu,EX al]
   rw[Y];rfl
  .let cu:¬ UN N b L k=true:=λz=>c ((EL D al d).trans z)
   refine#[Z (.int (k:Int)),Z (.int (if(L.testBit e.1 ^^ L.testBit e.2)=true then 1 else 0)),?_,U];let Y:wS N b L (k+1)=wS N b L k:=by
    show(if UN N b L k=true then _ else _)=_;rw[NY cu]
   rw[Y];rfl
 .rintro M u ⟨v4,j,rfl,rfl⟩;rw[HP,ac];exact#[_,U,y]
theorem so:ay ["grown","kinds"] ["grown","kinds"] (ar jR):=by ac_nf
theorem DO(F:Fun K "_law_costs" "_law_costs" jR f fd)(T:Txt mg)(am:Cal P w K mg base 1 "_law_worth" ["ends","kinds","laying"] (spWor K) a G):FnOk P w K mg base CX0 2 f fd ["grown","kinds"] Ar:=by
 refine F.ok so (by walk_at "l") λv A o s H B Q E O h=>?_
 obtain⟨t,pe,pt,pr,pk,m,N,r,b,rfl,L,⟨⟨Y,ab,hE⟩,⟨j,ac,x⟩,g⟩,⟨J,aa,l⟩,kl,e9,an,y⟩:=h;let al:j.length=m:=by rw[x.1,g.w.len]
 let e n q q4:=E9 an;refine#[_,(ak (aE (d8 [("kinds",1),("grown",0)] ["laying"] (aN U T.n_range (ae (aw cE aj (az av (by rfl) T.n_len aX (ae (aZ (pv 0) aj) ah))) ah)) pg_c pt_c (λC M s H=>(am.c O (ae (l7 K (pv 2) aj) (ae (pv 1) (ae (pv 0) ah)))))))),?_]
 let ap:(1:Int)*2^((j.length:Int)).toNat=((2^m:Nat):Int):=by simp[*]
 refine#[_,U,t,_,1,_,U,U,SqT.of L,at31,pt,j,U,.inl (SqL.of ac),_,_,U,U,#[by ac_rfl,by ac_rfl,by decide],((2^m:Nat):Int),congrArg (λz=>[V.int z]) ap,by ac_rfl,by ac_rfl,kj (k:=((2^m:Nat):Int).toNat) (λi d u=>u=H/\d=((IG i).map (wT N b)).map V.int) (by rw[HP];exact IK q ∅) #[U,U] ?_ ?_ ?_]
 .rintro i d u I ⟨rfl,rfl⟩;rw[Jl];refine#[U,yesT ?_];refine#[_,U,t,_,0,_,U,U,SqT.of L,at30,_,U,_,U,pe,pk,Y,J,N,b,i,U,SqL.of ab,hE,SqL.of aa,l,kl,e9,U,?_];rw[Lo,HW,HW];rfl
 .rintro d u ⟨rfl,rfl⟩ D p;rw[HP];exact y D _ (ai p _) p af
 .simp_all
open KF (andN orN shlN xorN)
open KF (qD)
theorem gF(S T:Nat->Bool):∀ l:List Nat,par (λt=>S t ^^ T t) l=(par S l ^^ par T l)
 |[]=>rfl
 |d::l=>by
  rw[aF,aF,aF,gF S T l]
  cases S (d/2)<;>cases T (d/2)<;>cases par S l<;>cases par T l<;>rfl
theorem par_congr{S T:Nat->Bool}:∀{l:List Nat},(∀ d∈l,S (d/2)=T (d/2))->par S l=par T l
 |[],_=>rfl
 |d::l,h=>by rw[aF,aF,h d (HL ..),par_congr λx J=>h x (HK _ J)]
theorem xX:∀ l:List Nat,par (λ_=>false) l=false
 |[]=>rfl
 |d::l=>by rw[aF,xX l];rfl
theorem jY(i:Nat):∀{l:List Nat},l.Nodup->par (λt=>decide (t=i)) l=(decide (2*i∈l) ^^ decide (2*i+1∈l))
 |[],_=>rfl
 |d::l,G=>by
  let I A:=HS.mp G;rw[aF,jY i A];by_cases c0:d=2*i
  .simp_all
  .let a:decide (2*i∈d::l)=decide (2*i∈l):=decide_eq_decide.mpr #[λz=>(HQ.mp z).elim (λy=>NZ y.symm c0) id,HK _]
   by_cases c1:d=2*i+1
   .grind
   .grind
structure Dl(N:Nat)(rs:List (List Nat))(ls:List KF.Lk):Prop where
 nd:rs.flatten.Nodup
 all:∀ d,d<2*N->d∈rs.flatten
 lt:∀ r∈rs,∀ d∈r,d<2*N
 rn:∀ r∈rs,r.Nodup
 ln:ls.length=N
 sd:∀(i:Nat)(l:KF.Lk),ls[i]?=Z l->(∃ r,rs[l.1]?=Z r/\2*i∈r)/\∃ r,rs[l.2.1]?=Z r/\2*i+1∈r
theorem Dl.odd{N:Nat}{rs:List (List Nat)}{ls:List KF.Lk}(D:Dl N rs ls)(u:Nat){a:Nat}{R:List Nat}(A:rs[a]?=Z R):∀ i,i<=N->(KF.oddE ls u i).testBit a=par (λt=>u.testBit t&&decide (t<i)) R
 |0,_=>by
  show(0:Nat).testBit a=_;rw[Jt];exact((par_congr λd _=>by rw[My (IX _),LD]).trans (xX R)).symm
 |i+1,h=>by
  let Q:=D.odd u A i ∅
  let l G:∃ l,ls[i]?=Z l:=#[_,Hz (by rw[D.ln];omega)]
  let{r o f}{m J y}:=D.sd i l G;let b:=D.rn R (HC A);let g:decide (2*i∈R)=decide (l.1=a):=decide_eq_decide.mpr #[λz=>g7 D.nd o A f z,λz=>by rw[z,A]at o;simp_all]
  let b1:decide (2*i+1∈R)=decide (l.2.1=a):=decide_eq_decide.mpr #[λz=>g7 D.nd J A y z,λz=>by rw[z,A]at J;simp_all]
  unfold KF.oddE;by_cases c:u.testBit i=true
  .rw[NX c,IP,Q,KF.lkA_is G];unfold KF.endX;rw[IP,Ic,Ic,← g,← b1,← jY i b,← gF];refine par_congr λd _=>?_;by_cases z:d/2=i
   .rw[z,c,My (JI i),Ni U,Ni (JP i)];rfl
   .rw[My z,IS];congr 1;exact decide_eq_decide.mpr ∅
  .rw[NY c,Q];refine par_congr λd _=>?_;by_cases z:d/2=i
   .simp_all
   .congr 1;exact decide_eq_decide.mpr ∅
theorem Dl.oddN(D:Dl N rs ls)(u:Nat){a:Nat}{R:List Nat}(A:rs[a]?=Z R):(KF.oddE ls u N).testBit a=par (λt=>u.testBit t) R:=by
 rw[D.odd u A N (HF _)];refine par_congr λd hd=>?_;let:=D.lt R (HC A) d hd;rw[Ni (show d/2<N by omega),Bool.and_true]
theorem Dl.rooms(D:Dl N rs ls):∀ l∈ls,l.1<rs.length/\l.2.1<rs.length:=λl G=>by
 let i I:=II G;let{_ o _}{_ J _}:=D.sd i l I;exact#[(HB.mp o).1,(HB.mp J).1]
theorem xY{n:Nat}{ls:List KF.Lk}(hl:∀ l∈ls,l.1<n/\l.2.1<n)(u:Nat):∀ i,i<=ls.length->KF.oddE ls u i<2^n
 |0,_=>Js n
 |i+1,h=>by
  unfold KF.oddE;let Q:=xY hl u i ∅
  split
  .let l e:∃ l,ls[i]?=Z l:=#[_,Hz ∅]
   let j z:=hl l (HC e);rw[KF.lkA_is e];exact Jh Q (Jh (IL ∅ j) (IL ∅ z))
  .exact Q
theorem Cz{x y:Nat}(J:x<2^n)(Q:y<2^n)(h:∀ a,a<n->x.testBit a=y.testBit a):x=y:=IB λa=>by
 by_cases c:a<n
 .exact h a c
 .rw[Li (Iy J (IZ ∅ ∅)),Li (Iy Q (IZ ∅ ∅))]
theorem EC{S:Nat->Bool}(w:bH m es ts)(h:zP es S Pl){r:List Nat}(c:CR (fol es ts) (2*es.length) r):par S r=false:=by
 let x l rfl o:=c.ch;let J:=c.lt x (HL ..);let:=rG w h o J (λt i=>c.lt t (HK _ i)) J;rw[qF]at this;rw[aF];let T:par S [x]=S (x/2):=by rw[aF];exact IS _
 simp_all
def CJ(rs:List (List Nat))(S M:Nat):Prop:=∀(k:Nat)(r:List Nat),rs[k]?=Z r->parR S r=parR M r
theorem mF(S:Nat):∀ r:List Nat,par (λt=>S.testBit t) r=decide (parR S r=1)
 |[]=>rfl
 |d::r=>by
  let Q:=mF S r;rw[aF,Q];unfold parR;rw[Au,xk]
  cases S.testBit (d/2) with
  |true =>
   rw[NX U,Bool.true_xor];grind
  |false =>
   simp_all
theorem C3{ks:Kn}{S:Nat}(g:Gr m es ts)(b:cV (fol es ts) (2*es.length) (2*es.length) rs)(N:CJ rs S (MK (bA ks) es.length)):∃ Pl:Nat->Bool,Pl 0=false/\zP es (λt=>S.testBit t ^^ bA ks t) Pl:=by
 let Pl h:=g.cut (λt=>S.testBit t ^^ bA ks t) λr O=>by
  let d hd:=O.ne;let q G n:=IW.mp (b.all d (O.lt d hd));let a:=(b.ring q G).cr;let L:r.Perm q:=(Jp O.nd a.nd).mpr λt=>#[O.same a hd n t,a.same O n hd t];rw[qE _ L,gF];let C:par (bA ks) q=par (λt=>(MK (bA ks) es.length).testBit t) q:=par_congr λx J=>by
   let:=a.lt x J;rw[iZ,Ni ∅,Ka]
  let k f:=II G;rw[C,mF,mF,N k q f];exact KL _
 refine#[λp=>Pl p ^^ Pl 0,KL _,λt e D=>?_];rw[h t e D];show _=((Pl e.1 ^^ Pl 0) ^^ (Pl e.2 ^^ Pl 0))
 cases Pl e.1<;>cases Pl e.2<;>cases Pl 0<;>rfl
theorem qu(nd:l.Nodup){G:Nat->Bool}(h:∀ s∈l,G (nxt l s)=G s):∀{s s':Nat},s∈l->s'∈l->G s=G s':=by
 let C:∀ j,(O:j<l.length)->G l[j]=G (l[0]'∅):=λj=>by
  induction j with
  |zero=>intro _;rfl
  |succ j Q =>
   intro O;let y:l[j]'∅∈l:=JQ _
   let e:=iC y;rw[nd.idxOf_getElem j ∅,JH O,Hz O]at e
   simp_all
 intro s s' Y B;let j O rfl:=Jk Y;let i I rfl:=Jk B;rw[C j O,C i I]
theorem Dl.whole(D:Dl N rs ls)(g:Gr m es ts)(hN:es.length=N)(cr:∀ r∈rs,CR (fol es ts) (2*es.length) r)(F:Nat->Bool)(hF:∀ (i:Nat) (l:KF.Lk),ls[i]?=Z l->F l.1=F l.2.1){a b:Nat}(E:a<rs.length)(L:b<rs.length):F a=F b:=by
 let w:=g.w;let G hG:∃ G:Nat->Bool,∀ s l,ls[s]?=Z l->G s=F l.1:=#[λs=>match ls[s]? with|some l=>F l.1|none=>false,λs l h=>by simp_all]
 let c:∀{a:Nat}{r:List Nat}{d:Nat},rs[a]?=Z r->d∈r->F a=G (d/2):=λ{a r d} Y B=>by
  let hd:=D.lt r (HC Y) d B;let l j:∃ l,ls[d/2]?=Z l:=#[_,Hz (by rw[D.ln];omega)]
  let{o J I}{y y1 H}:=D.sd _ l j;rw[hG _ l j];by_cases z:d%2=0
  .rw[show 2*(d/2)=d by omega]at I
   rw[g7 D.nd Y J B I]
  .rw[show 2*(d/2)+1=d by omega]at H
   rw[g7 D.nd Y y1 B H,hF _ l j]
 let fl:∀ d,d<2*N->G (fol es ts d/2)=G (d/2):=λd hd=>by
  let r O am:=IW.mp (D.all d hd);let a E:=II O;rw[← c E am,← c E ((cr r O).closed d am)]
 let ab:∀{p:Nat}{l:List Nat},ts[p]?=Z l->∀ s∈l,G (nxt l s)=G s:=λ{p l} j s q=>by
  let e f M:=(w.mem p l j s).mp q;let sl:=(HB.mp f).1;let d d1 d2 d3:∃ d,d/2=s/\hd es d=p/\d<2*es.length:=by
   obtain z|z:=M
   .refine#[2*s+1,∅,?_,∅]
    unfold hd;rw[show(2*s+1)/2=s by omega,f]
    simp_all
   .refine#[2*s,∅,?_,∅]
    unfold hd;simp[*]
  let l' _ x _ _ _ _ _ _ f2 _:=w.foll d3;rw[d2,j]at x
  cases x
  grind
 let r0 ac:∃ r,rs[a]?=Z r:=#[_,Hz E];let o aa:∃ r,rs[b]?=Z r:=#[_,Hz L];let d0 an:=(cr r0 (HC ac)).ne;let d1 al:=(cr o (HC aa)).ne;rw[c ac an,c aa al];let l0:=D.lt _ (HC ac) _ an;let l1:=D.lt _ (HC aa) _ al;let e0 k0 _ _ _ p0 q0 m0:=w.at (d:=d0) ∅
 let C Q _ _ _ p1 k m1:=w.at (d:=d1) ∅
 let:=g.conn (λp=>∃ l s,ts[p]?=Z l/\s∈l/\G s=G (d0/2)) (λe f=>by
  let t n:=II f;let b1 b2 _:=w.ends e f;let u T:∃ l,ts[e.1]?=Z l:=#[_,Hz (by rw[w.len];exact b1)]
  let v A:∃ l,ts[e.2]?=Z l:=#[_,Hz (by rw[w.len];exact b2)]
  let tu:=(w.mem _ u T t).mpr #[e,n,.inl U];let tv:=(w.mem _ v A t).mpr #[e,n,.inr U];constructor
  .rintro⟨l,s,J,I,x3⟩;rw[T]at J
   cases J
   exact#[v,t,A,tv,(qu (w.nd _ _ T) (ab T) tu I).trans x3]
  .rintro⟨l,s,J,I,x3⟩;rw[A]at J
   cases J
   exact#[u,t,T,tu,(qu (w.nd _ _ A) (ab A) tv I).trans x3]) (hd es d0) (hd es d1) p0 p1 #[k0,_,q0,m0,U]
 let l s J I x3:=this;rw[k]at J
 cases J
 rw[qu (w.nd _ _ k) (ab k) m1 I];exact x3.symm
theorem Dl.conn1(D:Dl N rs ls)(g:Gr m es ts)(c:es.length=N)(cr:∀ r∈rs,CR (fol es ts) (2*es.length) r):KF.Conn rs.length ls:=λb L=>by
 let F d:∃ F:Nat->Bool,∀ b,F b=true↔∃ x,KF.Wk (ls) 0 b x:=#[λb=>@decide (∃ x,KF.Wk (ls) 0 b x) (Classical.propDecidable _),λb=>by simp_all]
 let v:∀(i:Nat)(l:KF.Lk),ls[i]?=Z l->F l.1=F l.2.1:=λi l O=>by
  let B:F l.1=true->F l.2.1=true:=λz=>by
   let x J:=(d _).mp z;let:=KF.Wk.step J O (.inl U);let e:KF.bey l l.1=l.2.1:=by unfold KF.bey;rw[NX U]
   rw[e]at this;exact(d _).mpr #[_,this]
  let f:F l.2.1=true->F l.1=true:=λz=>by
   let x J:=(d _).mp z;let:=KF.Wk.step J O (.inr U);by_cases q:l.2.1=l.1
   .rw[← q];exact z
   .let e:KF.bey l l.2.1=l.1:=by unfold KF.bey;rw[NY q]
    rw[e]at this;exact(d _).mpr #[_,this]
  cases p:F l.1 with
  |true=>rw[B p]
  |false =>
   lia
 let:=D.whole g c cr F v (a:=0) (b:=b) ∅ L
 rw[(d 0).mpr #[0,.nil 0]]at this;exact(d b).mp this.symm
def UB(es:En)(ks:Kn)(L t:Nat):Bool:=match es[t]? with|some e=>(L.testBit e.1 ^^ L.testBit e.2 ^^ bA ks t)|none=>false
theorem UB_at{ks:Kn}{t:Nat}(h:es[t]?=Z e):UB es ks L t=(L.testBit e.1 ^^ L.testBit e.2 ^^ bA ks t):=by unfold UB;rw[h]
theorem tQ:∀ PL:List (Nat×Nat),(KF.flat PL).length%2=0
 |[]=>rfl
 |p::PL=>by
  rw[KF.flat_cons,IM,IM];let:=tQ PL;omega
structure Oth(m:Nat)(es:En)(ts:List (List Nat))(ks:Kn)(rs:List (List Nat))(ls:List KF.Lk):Prop where
 g:Gr m es ts
 ro:cV (fol es ts) (2*es.length) (2*es.length) rs
 d:Dl es.length rs ls
 kl:ks.length=es.length
 ws:∀(i:Nat)(l:KF.Lk),ls[i]?=Z l->∃ k,ks[i]?=Z k/\l.2.2=k.2/\0<=k.2/\k.2<=10^(30:Int).toNat
 m2:2<=m
 few:es.length<=16
theorem Oth.cr{m:Nat}{es:En}{ts:List (List Nat)}{ks:Kn}{rs:List (List Nat)}{ls:List KF.Lk}(O:Oth m es ts ks rs ls):∀ r∈rs,CR (fol es ts) (2*es.length) r:=λr o=>(O.ro.ring r o).cr
theorem Oth.lay{ks:Kn}(O:Oth m es ts ks rs ls)(L:Nat):KF.oddE ls (MK (UB es ks L) es.length) es.length=KF.oddE ls (MK (bA ks) es.length) es.length:=by
 refine Cz (n:=rs.length) (by rw[← O.d.ln];exact xY O.d.rooms _ _ (HF _)) (by rw[← O.d.ln];exact xY O.d.rooms _ _ (HF _)) λa E=>?_
 let A:=Hz E;rw[O.d.oddN _ A,O.d.oddN _ A];let lt:=O.d.lt _ (HC A);let S M:∃ S:Nat->Bool,zP es S (λp=>L.testBit p):=#[λs=>match es[s]? with|some x=>(L.testBit x.1 ^^ L.testBit x.2)|none=>false,λs x J=>by simp_all]
 let b:=EC O.g.w M (O.cr _ (HC A));let:par (λt=>(MK (UB es ks L) es.length).testBit t) rs[a]=par (λt=>S t ^^ (MK (bA ks) es.length).testBit t) rs[a]:=par_congr λd hd=>by
  let:=lt d hd;let e D:∃ e,es[d/2]?=Z e:=#[_,Hz ∅]
  rw[iZ,iZ,Ni (show d/2<es.length by omega),Ka,Ka,UB_at D,M _ e D]
 rw[this,gF,b,LB]
theorem Oth.lok1{ks:Kn}(O:Oth m es ts ks rs ls)(N:rs.length<=40):KF.Lok rs.length ls where
 n1:=N
 l9:=by
  let B:=O.d.ln;let J:=O.few;omega
 sm l hl:=O.d.rooms l hl
 w0 l hl:=by
  let i I:=II hl;let k _ e a b:=O.ws i l I;rw[e];refine#[a,LX b ?_];unfold KF.MM;decide
theorem Oth.evenM{ks:Kn}(O:Oth m es ts ks rs ls)(N:rs.length<=40)(M:Nat):KF.oddE ls M es.length<2^rs.length/\(KF.bl (KF.oddE ls M es.length)).length%2=0:=by
 let ok:=O.lok1 N;let p:∀ l∈ls,0<=l.2.2:=λl G=>(ok.w0 l G).1;let E:=O.d.conn1 O.g U O.cr;let Y c{k v _}_:=KF.low_join (KF.far_met p E) M (λl G=>#[(ok.sm l G).1,(ok.sm l G).2,KF.far_link p G]) ls.length (HF _);rw[O.d.ln]at Y v;refine#[Y,?_];rw[← v.length_eq];exact tQ k
theorem Oth.even1{ks:Kn}(O:Oth m es ts ks rs ls)(N:rs.length<=40):KF.oddE ls (MK (bA ks) es.length) es.length<2^rs.length/\(KF.bl (KF.oddE ls (MK (bA ks) es.length) es.length)).length%2=0:=O.evenM N _
theorem Fv(h:mk<2^n):(KF.bl mk).length<=n:=cZ (KF.bl_nd mk) λx J=>KF.bl_lt h J
theorem Dl.marks(D:Dl N rs ls)(M:Nat):MK (oddU M rs) rs.length=KF.oddE ls M N:=by
 refine Cz (n:=rs.length) (JE _ λi I=>by rw[iZ,My ∅,LC]) (by rw[← D.ln];exact xY D.rooms _ _ (HF _)) λa E=>?_
 let A:=Hz E;rw[D.oddN _ A,mF,iZ,Ni E,Ka];unfold oddU;simp[*]
theorem jT(g:Gr m es ts)(b:cV (fol es ts) (2*es.length) (2*es.length) rs):m+rs.length=es.length+2:=by
 let a p c:=g.part;rw[← p.same b.part];exact c
theorem Dl.lnk{ks:Kn}(D:Dl N rs ls)(a:∀ (i:Nat) (l:KF.Lk),ls[i]?=Z l->∃ k,ks[i]?=Z k/\l.2.2=k.2)(h:zO H zs N ks rs):LsAt KF.LkAt H zs ls:=by
 refine#[by rw[h.1,D.ln],λi l G=>?_]
 let k t x y r m A Y B J u O E:=h.2 i (by rw[← D.ln];exact(HB.mp G).1)
 let c C T:=a i l G;rw[A]at C
 cases C
 let{o g s}f b1 b2:=D.sd i l G;let z:=g7 D.nd g J s u;let b:=g7 D.nd b1 O b2 E;refine#[_,Y,t,U,?_];rw[B,T,z,b];rfl
theorem C4{ks:Kn}(C:ks.length=N)(h:ic H zs N rs):∃ ls:List KF.Lk,ls.length=N/\∀(i:Nat)(l:KF.Lk),ls[i]?=Z l->((∃ r,rs[l.1]?=Z r/\2*i∈r)/\∃ r,rs[l.2.1]?=Z r/\2*i+1∈r)/\∃ k,ks[i]?=Z k/\l.2.2=k.2:=by
 let go:∀ n,n<=N->∃ ls:List KF.Lk,ls.length=n/\∀(i:Nat)(l:KF.Lk),ls[i]?=Z l->((∃ r,rs[l.1]?=Z r/\2*i∈r)/\∃ r,rs[l.2.1]?=Z r/\2*i+1∈r)/\∃ k,ks[i]?=Z k/\l.2.2=k.2:=λn=>by
  induction n with
  |zero=>exact λ_=>#[[],U,λi l z=>by contradiction]
  |succ n Q =>
   intro D;let ls b c:=Q ∅
   let p x y r m _ _ J u O E:=h.2 n ∅
   let k f:∃ k,ks[n]?=Z k:=#[_,Hz ∅]
   refine#[ls++[(x,y,k.2)],by simp[*],λi l e=>?_]
   by_cases q:i<n
   .rw[HH ∅]at e
    exact c i l e
   .let:i=n:=by
     let:=(HB.mp e).1;rw[HJ,b]at this;let:i<n+1:=this;omega
    subst this;rw[HG ∅,b,Iq]at e
    cases e
    exact#[#[#[r,J,u],#[m,O,E]],k,f,U]
 exact go N (HF _)
structure TxtO(mg:Str->Option Value):Prop extends TxtZ mg where
 modd:∃ t,mg "MOST_ODD"=Z (.int 12 t)
inductive Am(PL PS WC:Addr)(vs:List L2.V)(H:L2.Hp)(Q:L2.VK)(x3_:L2.XK):Prop
 |mk (p:Addr)(es:En)(ks:Kn)(rs:List (List Nat)) (h0_:vs=[.ref p])(h1_:WebR PL PS WC H p es ks rs)(h2_:ks.length=es.length)(h3_:es.length<=30)(h4_:rs.length<=12)(h5_:(∀ r∈rs,r.length<=900))(h6_:∀ H',Same H H'->Q (.int ((MK (oddU (MK (bA ks) es.length) rs) rs.length:Nat):Int)) H')
theorem nN:ay ["web","marks"] ["web"] (ar lQ):=by ac_nf
theorem DH{PS:Addr}{d:FuncData}(F:Fun K "marks_of" "marks_of" lQ f fd)(T:TxtO mg)(k:Cal P w K mg base 3 "odd_rounds" ["web"] (E2 PL PS a) f1 G)(j:Cal P w K mg base 2 "ones" ["mask"] KF.spOnes f2 d):FnOk P w K mg base CX0 4 f fd ["web"] (Am PL PS a):=by
 refine F.ok nN (by walk_at "l") λY A o s H g Q E O h=>?_
 let p N b v rfl n e L B l y:=h
 refine#[_,(ag (aA 1 nN.nd (k.c O (ae (pv 0) ah)))
   (ag (bV (aB Dw (j.c O (ae (pv 1) ah)) (qD U T.modd) (aC _)) (ak bY) aR)
   (ak (aE (pv 1))))),?_]
 refine#[_,U,p,N,b,v,U,n,e,L,∅,l,λm J=>?_]
 let M:=λu (t:Same m u)=>y u (J.trans t);let lt:MK (oddU (MK (bA b) N.length) v) v.length<2^v.length:=JE _ λi I=>by rw[iZ,My ∅,LC]
 generalize MK (oddU (MK (bA b) N.length) v) v.length=mk at lt M ⊢;let q:=Fv lt;refine#[_,U,mk,U,Iy lt (IZ ∅ ∅),λu t=>?_]
 refine#[_,_,U,U,_,U,ite2 (λz=>NZ (NO z) ∅) (λ_=>?_)]
 exact#[_,U,M _ t]
open KF (andN orN shlN xorN)
inductive spRT(PL PS WC:Addr)(vs:List L2.V)(H:L2.Hp)(Q:L2.VK)(x3_:L2.XK):Prop
 |mk (p:Addr)(S:Nat)(es:En)(ks:Kn)(rs:List (List Nat)) (h0_:vs=[.ref p,.int (S:Int)])(h1_:WebR PL PS WC H p es ks rs)(h2_:ks.length=es.length)(h3_:es.length<=30)(h4_:rs.length<=70)(h5_:(∀ r∈rs,r.length<=900))(h6_:CJ rs S (MK (bA ks) es.length))(h7_:∀ H',Same H H'->Q .non H')
inductive spLO(PL PS WC:Addr)(vs:List L2.V)(H:L2.Hp)(Q:L2.VK)(x3_:L2.XK):Prop
 |mk (p:Addr)(S m:Nat)(es:En)(ts:List (List Nat))(ks:Kn)(rs:List (List Nat)) (h0_:vs=[.ref p,.int (S:Int)])(h1_:WebT PL PS WC H p m es ts ks)(h2_:WebR PL PS WC H p es ks rs)(h3_:Gr m es ts)(h4_:cV (fol es ts) (2*es.length) (2*es.length) rs)(h5_:ks.length=es.length)(h6_:0<m)(h7_:m<=40)(h8_:es.length<=30)(h9_:(∀ k∈ks,k.1=0∨k.1=1))(h10_:CJ rs S (MK (bA ks) es.length))(h11_:∀(L:Nat) H',Same H H'->L<2^m->Q (.int (L:Int)) H')
theorem yf{x y:Nat}(h:(Sum.inl (x:Int):Key)=Sum.inl (y:Int)):x=y:=by
 lia
def sI(b:Bool):Int:=if b=true then 1 else 0
def kvS(Pl:Nat->Bool)(ps:List Nat):List (Key×V):=ps.map λ(p:Nat)=>((.inl ((p:Nat):Int):Key),V.int (sI (Pl p)))
theorem tG{p:Nat}(nd:ps.Nodup)(h:p∈ps):valV (kvS Pl ps) (.inl (p:Int))=Z (.int (sI (Pl p))):=by
 induction ps with
 |nil=>cases h
 |cons x r Q =>
  rw[HS]at nd;show valV (((.inl (x:Int):Key),V.int (sI (Pl x)))::kvS Pl r) _=_;obtain e|h:=HQ.mp h
  .subst e;exact bj U
  .let ne:¬ (Sum.inl (x:Int):Key)=Sum.inl (p:Int):=λz=>nd.1 (by rw[yf z];exact h)
   rw[bo ne];exact Q nd.2 h
theorem Bk{p:Nat}(h:p∉ps):valV (kvS Pl ps) (.inl (p:Int))=none:=by
 induction ps with
 |nil=>rfl
 |cons x r Q =>
  show valV (((.inl (x:Int):Key),V.int (sI (Pl x)))::kvS Pl r) _=_;let ne:¬ (Sum.inl (x:Int):Key)=Sum.inl (p:Int):=λz=>h (by rw[← yf z];exact HL ..)
  rw[bo ne];exact Q λz=>h (HK _ z)
theorem Bl{p:Nat}(h:p∉ps)(b:Bool):putK (kvS Pl ps) (.inl (p:Int)) (.int (sI b))=kvS (λz=>if z=p then b else Pl z) (ps++[p]):=by
 rw[qw _ (Bk h)];unfold kvS;rw[HW];refine congr (congrArg _ (Jf λx J=>?_)) (by simp)
 simp only[NY (show ¬ x=p from λz=>h (by simp_all))]
def oth(e:Nat×Nat)(p:Nat):Nat:=if p=e.1 then e.2 else e.1
structure Met'(m:Nat)(ps wl:List Nat):Prop where
 nd:ps.Nodup
 lt:∀ p∈ps,p<m
 wn:∀ p∈wl,p∈ps
theorem A7(s:Same H H'){b:Addr}(h:H' b=none):H b=none:=by
 cases z:H b with
 |none=>rfl
 |some u=>rw[s _ _ z]at h;cases h
theorem sZ(x:Nat):∀(n:Nat)(ps:List Nat),ps.length=n->(yM ps).testBit x=decide (x∈ps)
 |0,ps,h=>by
  rw[Ku.mp h];show(0:Nat).testBit x=_;rw[Jt];rfl
 |n+1,ps,h=>by
  let ne:ps≠[]:=λe=>by rw[e]at h;cases h
  let a:ps.dropLast++[ps.getLast ne]=ps:=L6 ne;let G:ps.dropLast.length=n:=by rw[List.length_dropLast,h];rfl
  rw[← a,pj,I9,sZ x n _ G,Ic];grind
theorem zG{d:Addr}{g:TG}{O:TE}(Pv:Nat->List V->Hp->Prop)(hz:kvs.length<=Mz)(A:Pv 0 [] H1)(hl:∀ i ys H,i<=kvs.length->Pv i ys H->H d=Z (.frz o (.dK kvs)))
  (hs:∀ i k y ys H,kvs[i]?=Z (k,y)->Pv i ys H->g (kV k) (HR n none++σ) H λc H2=>c.drop n=σ/\tt c H2 λb H3=>if b=true then O c H3 (λy E=>Pv (i+1) (ys++[y]) E) else Pv (i+1) ys H3) (hd:∀ ys H,Pv kvs.length ys H->QQ ys H) (Q:∀ i ys H,Pv i ys H->ys.length<=i)
  : ik g tt O n σ (Itk o kvs d) H1 QQ:=by
 refine#[λi m ys H=>m=kvs.length-i/\i<=kvs.length/\Pv i ys H,#[kvs.length,by simp,Iz _,A],?_]
 rintro i m ys H ⟨rfl,I,p⟩;let q:=hl i ys H I p;let f:=Q i ys H p;refine#[∅,?_]
 by_cases L:i<kvs.length
 .refine .inr #[#[q,L],λj H2=>Pv (i+1) j H2,λj H2 r=>#[kvs.length-(i+1),∅,U,L,r],λx G y=>?_]
  let k y C rfl rfl:=y;exact hs i k y ys _ C p
 .let e:i=kvs.length:=by omega
  subst e;exact .inl #[#[q,HF _],hd ys H p]
theorem xor3(a b c:Bool):M4 (M4 (sI a) (if b=true then 1 else 0)) (sI c)=sI (a ^^ b ^^ c):=by cases a<;>cases b<;>cases c<;>decide
theorem bt_sI(S t:Nat):MY ((S:Int)/2^((t:Nat):Int).toNat) 1=sI (S.testBit t):=by
 rw[uu,xk];unfold sI;split<;>rfl
theorem A9(nd:ps.Nodup)(h:∀ p∈ps,p<m):ps.length<=m:=cZ nd h
inductive kr(C:Addr)(vs:List L2.V)(H:L2.Hp)(Q:L2.VK)(x3_:L2.XK):Prop
 |mk (p a b s x:_) (h0_:vs=[.ref p,.int x])(h1_:TieAt H p C a b s)(h2_:Q (.int (if x=a then b else a)) H)
theorem Met'.new{wl:List Nat}{y:Nat}(h:Met' m ps wl)(c:y∉ps)(d:y<m):Met' m (ps++[y]) (wl++[y]):=by
 refine#[Iu.mpr #[h.nd,by simp,λa E b L z=>c (by rw[← Ih.mp L,← z];exact E)],λy Q=>?_,λy Q=>?_]
 .obtain z|z:=HY.mp Q
  .exact h.lt y z
  .rw[Ih.mp z];exact d
 .obtain z|z:=HY.mp Q
  .exact IU _ (h.wn y z)
  .exact Ir _ z
theorem fP:ay ["web","ties","pushing","number"] ["web","ties"] (ar gy):=by ac_nf
theorem ok_rt{PS:Addr}{d2:FuncData}(F:Fun K "refuse_ties" "refuse_ties" gy f fd)(T:Txt mg)(cw:CW K a)(ap:Cal P w K mg base 2 "pushes" ["web"] (Ak PL PS a) f1 G)(an:Cal P w K mg base 1 "odd_at" ["web","ties","number"] (pT PL PS a) f2 d2):FnOk P w K mg base CX0 3 f fd ["web","ties"] (spRT PL PS a):=by
 refine F.ok fP (by walk_at "l") λv A o s H B Q E O h=>?_
 let p S N b L rfl wb kl aa a0 aT ev y:=h
 refine#[_,(ag (aA 2 fP.nd (ap.c O (ae (pv 0) ah)))
   (ak (bc PassesOwn.never U (aN U T.n_range (ae (az av (by rfl) T.n_len aX (ae (bW (pv 0) U) ah)) ah)) (bO 3 fP.nd) (ak (bV (aB jZ (an.c O (ae (pv 0) (ae (pv 1) (ae (pv 3) ah)))) (an.c O (ae (pv 0) (ae (pv 2) (ae (pv 3) ah)))) (aC _)) (ak bY) aR))))),?_]
 refine#[_,U,p,N,b,L,U,wb,kl,aa,λY J=>?_];let aW:=wb.mono J;let l fs k m q5 z5 g _ _ _ l5 ac hR:=id aW;let aI:z5.length=L.length:=hR.1;generalize hM:MK (bA b) N.length=M at *;refine#[_,U,p,a,l,fs,_,U,g,cw.cl,cw.n4,l5,q5,z5,U,.inl (SqL.of ac),_,U,∅,∅,bE (n:=(z5.length:Int).toNat) (λi d u=>∃ v3,d=[Z (.ref p),Z (.int (S:Int)),Z (.int (M:Int)),v3]/\Same Y u/\∀ j r,j<i->L[j]?=Z r->parR S r=parR M r) #[_,U,λ_ _ e=>e,λj r h=>NZ h (IX _)] ?_ ?_]
 .rintro i d u I ⟨v3,rfl,t,al⟩;let e0:(0:Int)+(i:Int)=(i:Int):=Jl _;rw[e0];let r ab:∃ r,L[i]?=Z r:=#[_,Hz ∅]
  refine#[_,U,_,U,_,U,p,S,i,N,b,L,r,U,aW.mono t,ab,aT r (HC ab),λC q=>?_];refine#[_,U,_,U,_,U,p,M,i,N,b,L,r,U,aW.mono (t.trans q),ab,aT r (HC ab),λH4 s4=>?_];let am:=(t.trans q).trans s4;refine#[U,_,U,ite2 (λc=>?_) (λc=>?_)]
  .let D:parR S r≠parR M r:=λz=>by grind
   exact NZ (ev i r ab) D
  .let D:parR S r=parR M r:=by grind
   refine#[_,U,am,λj r2 x aS=>?_];by_cases e:j=i
   .grind
   .grind
 .rintro d u ⟨v3,rfl,t,al⟩;rw[HP,aI]at al;exact y _ (J.trans t)
theorem qi:ay ["self","place"] ["self","place"] (ar cA):=by ac_nf
theorem sR(F:Fun K "across" "Tie.across" cA f fd)(T:CT K C):FnOk P w K mg base CX0 1 f fd ["self","place"] (kr C):=by
 refine F.ok qi (by walk_at "l") λY A o s H g Q E O h=>?_
 let p a b st x rfl{l M}k:=h;refine#[_,(ak (aE (jb (aB eG (pv 1) (bW (pv 0) U) (aC _)) (bW (pv 0) U) (bW (pv 0) U)))),?_];refine#[_,U,_,U,p,C,l,_,_,U,M,T.cl,T.n1,nJ _ _ _,U,_,U,?_];refine ite2 (λc=>?_) (λc=>?_)
 .refine#[_,U,p,C,l,_,_,U,M,T.cl,T.n2,rZ _ _ _,?_];rw[NX (V.int.inj (NO c))]at k;exact k
 .refine#[_,U,p,C,l,_,_,U,M,T.cl,T.n1,nJ _ _ _,?_];rw[NY (λz=>c (Ni (by rw[z])))]at k
  exact k
theorem bM:ay ["web","ties","signs","waiting","place","number","tie","there"] ["web","ties"] (ar jI):=by ac_nf
theorem ok_lo{cF g0 g1 PS WC:Addr}{d1 d2 cG ci co bJ:FuncData}(F:Fun K "laying_of" "laying_of" jI f fd)(T:Txt mg)(cw:CW K WC)(TL:CT K PL)(TS:CT K PS)(bQ:Cal P w K mg base 3 "refuse_ties" ["web","ties"] (spRT PL PS WC) f1 d1)(am:Cal P w K mg base 1 "mask_of" ["places"] (mw K) f2 d2)(a0:Met P w K mg base 1 PL "across" ["self","place"] (kr PL) I cG)(a1:Met P w K mg base 1 PS "across" ["self","place"] (kr PS) cF ci)(u0:Met P w K mg base 1 PL "wish" ["self"] (mv false) g0 co)(u1:Met P w K mg base 1 PS "wish" ["self"] (mv true) g1 bJ):FnOk P w K mg base CX0 4 f fd ["web","ties"] (spLO PL PS WC):=by
 refine F.ok bM (by walk_at "l") λab A aa s H vs Q E O h=>?_
 let p S m N ts ks rs rfl wt wr g ro kl m0 ck ac bT ev kk:=h;let hu:=tO O;let bb:=O.units;let cc:=TL.cl;let cd:=TS.cl;let mf:=pB g;let bB:=xR ro;let b8:∀ r∈rs,r.length<=900:=λr O=>by
  let:=cZ (ro.ring r O).nd (ro.ring r O).lt;omega
 let dx fs q1 xs q3 z3 hp lm l1 Y tk l3 h3 cK:=id wt
 refine#[_,(ag (aO (bQ.c O (ae (pv 0) (ae (pv 1) ah))))
   (ag (aA 2 bM.nd (vj (qx aj aj vc) U U (λz=>by cases z) ∅))
   (ag (aA 3 bM.nd (bw (ae aj ah)))
   (ag (gD PassesOwn.never (aB (op_neG bb) (pv 3) (bw ah) (aC _)) (ag (aA 4 bM.nd (Fc HZ PySem.F.slot_list_pop PySem.F.type_list_pop mt_pop (pv 3)))
   (ak (bc PassesOwn.never U (aP (aV (bW (pv 0) U) (pv 4))) (bO 5 bM.nd) (ag (aA 6 bM.nd (aV (bW (pv 0) U) (pv 5)))
   (ag (aA 7 bM.nd (Gg (AQ (pv 6) cc a0.me a0.ok (O.mono ∅) a0.bn .nil nX (ae (pv 4) ah)) (AQ (pv 6) cd a1.me a1.ok (O.mono ∅) a1.bn .nil nX (ae (pv 4) ah))))
   (ak (bV (AJ (nW hu (pv 7) (pv 2))) (ag (l4 hu (pv 2) (pv 7) (aw fY (aw fY (jX hu (pv 2) (pv 4) (λ_ _=>rfl)) (Gg (m8 (pv 6) cc u0.me u0.ok (O.mono ∅) u0.bn .nil nX) (m8 (pv 6) cd u1.me u1.ok (O.mono ∅) u1.bn .nil nX))) (aw jD (aw fZ (pv 1) (pv 5)) aj)) U)
   (ak (aO (d9 HZ Ij Ii aQ (pv 3) (ae (pv 7) ah))))) aR))))))))
   (ak (aE (am.c O (ae (d8 [("signs",2)] ["place"] (Ge (pv 2)) pg_c (λC ex s H=>(jV (aB eG (jX hu (pv 1) (pv 0) (λ_ _=>rfl)) aj (aC _)))) (λC ex s H=>(pv 0))) ah)))))))),?_]
 refine#[_,U,_,U,p,S,N,ks,rs,U,wr,kl,ac,∅,b8,ev,λH1 s1=>?_]
 intro d hd;refine#[af,[(.inl ((0:Nat):Int),.int 0)],U,(by show 1<=15;decide),?_]
 let sd:Same H1 (upd (upd H1 d (.dK [])) d (.dK (f9 [] [(.inl ((0:Nat):Int),.int 0)]))):=aH (ai hd _) hd _;let bK:(upd (upd H1 d (.dK [])) d (.dK (f9 [] [(.inl ((0:Nat):Int),.int 0)]))) d=Z (.dK (kvS (λ_=>false) [0])):=by
  rw[af];rfl
 generalize upd (upd H1 d (.dK [])) d (.dK (f9 [] [(.inl ((0:Nat):Int),.int 0)]))=u at sd bK;refine#[(by show 1<=Mz;decide),λq hq=>?_]
 let sq:=ai hq (.lst [.int 0]);let ca:q≠d:=λz=>by simp_all
 let bC:H1 q=none:=A7 sd hq;refine#[λmm M H'=>∃(Pl:Nat->Bool)(ps wl:List Nat)(v4 v5 v6 v7:Option V),mm=2*(m-ps.length)+wl.length/\mm<=80/\M=[Z (.ref p),Z (.int (S:Int)),Z (.ref d),Z (.ref q),v4,v5,v6,v7]/\Same H1 H'/\H' d=Z (.dK (kvS Pl ps))/\H' q=Z (.lst (wl.map iV))/\Met' m ps wl,#[_,λ_=>false,[0],[0],_,_,_,_,U,(by show 2*(m-1)+1<=80;omega),U,sd.trans sq,sq _ _ bK,af,#[(by simp),λx J=>by rw[Ih.mp J];exact m0,λx J=>J]],?_]
 rintro mm M H3 ⟨Pl,ps,wl,v4,v5,v6,v7,rfl,cQ,rfl,s3,bU,bR,mt⟩;refine#[_,U,(by show 0<=Mz;exact Iz _),λl n=>?_]
 let sl:=ai n (.lst []);refine#[_,_,vy (SqL.of (sl _ _ bR)),vy (ps:=[]) (SqL.of af),oh _,oh _,_,U,?_];rw[El];let cp:=s3.trans sl;let cq:=sl _ _ bU;let cs:=sl _ _ bR;generalize upd H3 l (.lst [])=H4 at cp cq cs;refine ite2 (λc=>?_) (λc=>?_)
 .let ne:wl≠[]:=λz=>by rw[z,Ni U]at c;cases c
  let cy:wl.dropLast++[wl.getLast ne]=wl:=L6 ne;let x J:∃ x,x=wl.getLast ne:=#[_,U];let bm hw:∃ bm,bm=wl.dropLast:=#[_,U];rw[← J,← hw]at cy;subst cy;clear J hw ne c;let cB:=mt.wn x (by simp)
  let xm:=mt.lt x cB;let row be:∃ row,ts[x]?=Z row:=#[_,Hz (by rw[g.w.len];exact xm)]
  let cT:=A9 mt.nd mt.lt;refine#[λal H'=>∃(Pl:Nat->Bool)(ap ba:List Nat)(v4 v5 v6 v7:Option V),2*(m-ap.length)+ba.length<2*(m-ps.length)+(bm++[x]).length/\al=[Z (.ref p),Z (.int (S:Int)),Z (.ref d),Z (.ref q),v4,v5,v6,v7]/\Same H1 H'/\H' d=Z (.dK (kvS Pl ap))/\H' q=Z (.lst (ba.map iV))/\Met' m ap ba,λal H' ⟨Pl,ap,ba,a4,a5,a6,a7,lt,e1,e2,e3,e4,e5⟩=>#[_,lt,Pl,ap,ba,a4,a5,a6,a7,U,IK (Ia lt) cQ,e1,e2,e3,e4,e5],?_];let ct:((bm++[x]).map iV)[((bm++[x]).map iV).length-1]?=Z (iV x):=by
   rw[HW,HJ,HD];show(bm.map iV++[iV x])[bm.length+1-1]?=_;rw[LI,HG (by rw[HD];exact HF _),HD,Iq]
   rfl
  refine#[_,U,.inl #[U,_,SqL.of cs],q,_,iV x,U,U,cs,ct,?_];let cu:((bm++[x]).map iV).dropLast=bm.map iV:=by
   rw[HW];exact List.dropLast_concat
  rw[cu];let s5:Same H1 (upd H4 q (.lst (bm.map iV))):=aH cp bC _;let cD:(upd H4 q (.lst (bm.map iV))) d=Z (.dK (kvS Pl ps)):=by rw[ao (Ne.symm ca)];exact cq
  let a3:(upd H4 q (.lst (bm.map iV))) q=Z (.lst (bm.map iV)):=af;generalize upd H4 q (.lst (bm.map iV))=H5 at s5 cD a3;let r r1 r2:=cK.2 x row be;let a2:=s1.trans s5;let rl:row.length<=N.length:=cZ (g.w.nd x row be) λt ht=>by
   let e B _:=(g.w.mem x row be t).mp ht;exact(HB.mp B).1
  refine#[_,U,p,WC,dx,fs,_,U,a2 _ _ hp,cw.cl,cw.n3,l3,_,U,q3,z3,_,_,U,U,SqL.of (a2 _ _ h3),ax r1,r,U,#[_,SqL.of (a2 _ _ r2)],bI (K:=K) (xs:=row.map iV) (λj M H6=>∃(Pl:Nat->Bool)(ap ba:List Nat)(v5 v6 v7:Option V),M=[Z (.ref p),Z (.int (S:Int)),Z (.ref d),Z (.ref q),Z (iV x),v5,v6,v7]/\Same H1 H6/\H6 d=Z (.dK (kvS Pl ap))/\H6 q=Z (.lst (ba.map iV))/\Met' m ap ba/\x∈ap/\2*(m-ap.length)+ba.length<2*(m-ps.length)+(bm++[x]).length) #[Pl,ps,bm,_,_,_,U,s5,cD,a3,#[mt.nd,mt.lt,λy hy=>mt.wn y (by simp[hy])],cB,by rw[HJ,Ik];omega] (λj M H6 _ an=>by let _ _ _ _ _ _ _ z _:=an;exact SqL.of (z _ _ (s1 _ _ r2))) ?_ ?_]
  .rintro j v M H6 aS ⟨Pl,ap,ba,v5,v6,v7,rfl,s6,bS,aW,bv,b0,b7⟩;rw[HN]at aS;let t ht rfl:=HV.mp aS;let e B aT:=(g.w.mem x row be t).mp (HC ht);let k hk:∃ k,ks[t]?=Z k:=#[_,Hz (by let:=(HB.mp B).1;omega)]
   let bZ:=s1.trans s6;let p' bf x1 x2:=(tk.mono bZ).2 t e k B hk;let b1 b2 bne:=g.w.ends e (HC B);let om:oth e x<m:=by unfold oth;split<;>assumption
   let ch:=A9 bv.nd bv.lt;let ce:(if(x:Int)=(e.1:Int) then(e.2:Int) else(e.1:Int))=((oth e x:Nat):Int):=by
    unfold oth;by_cases c:x=e.1
    .rw[NX ∅,NX c]
    .rw[NY ∅,NY c]
   refine#[_,U,p,WC,dx,fs,_,U,bZ _ _ hp,cw.cl,cw.n2,l1,_,U,q1,xs,_,_,U,U,SqL.of (bZ _ _ Y),ax x1,?_];by_cases c:k.1=1
   .rw[Ni c]at x2;refine .inr #[_,U,p',bf,_,U,x2,yE _ _ _ ∅ ∅ ∅,_,U,p',_,_,_,(x:Int),U,#[bf,x2],?_]
    rw[ce];refine#[_,U,_,U,d,_,U,.inl #[_,.inl ((oth e x:Nat):Int),.inl bS,U,U],_,U,?_];by_cases aI:oth e x∈ap
    .rw[tG bv.nd aI];exact iteF #[Pl,ap,ba,_,_,_,U,s6,bS,aW,bv,b0,b7]
    .rw[Bk aI];refine iteT ?_;refine#[_,U,_,U,d,_,U,.inl #[_,.inl (x:Int),.inl bS,U,(tG bv.nd b0).symm],?_];refine .inr #[_,U,p',bf,_,U,x2,yE _ _ _ ∅ ∅ ∅,p',U,_,_,U,U,_,U,_,U,_,_,U,U,(show(0:Int)<=(t:Int) by omega),_,_,U,U,_,_,U,U,?_]
     refine#[_,U,_,U,d,_,U,DPut.k (k:=.inl ((oth e x:Nat):Int)) bS (aq (by unfold kvS;rw[HD];omega)),?_]
     let G cb:∃ G,putK (kvS Pl ap) (.inl ((oth e x:Nat):Int)) (.int (M4 (M4 (sI (Pl x)) (if true=true then 1 else 0)) (MY ((S:Int)/2^((t:Nat):Int).toNat) 1)))=kvS G (ap++[oth e x]):=#[_,by rw[bt_sI,xor3];exact Bl aI _]
     let bP:(upd H6 d (.dK (putK (kvS Pl ap) (.inl ((oth e x:Nat):Int)) (.int (M4 (M4 (sI (Pl x)) (if true=true then 1 else 0)) (MY ((S:Int)/2^((t:Nat):Int).toNat) 1)))))) q=Z (.lst (ba.map iV)):=by rw[ao ca];exact aW
     refine#[_,U,.inl #[U,_,SqL.of bP],_,U,q,_,_,U,U,bP,aq (by rw[HD];omega),?_]
     refine#[G,ap++[oth e x],ba++[oth e x],_,_,_,U,aH (aH s6 hd _) bC _,?_,?_,bv.new aI om,IU _ b0,?_]
     .rw[ao (Ne.symm ca),af,cb]
     .rw[af,HW];rfl
     .simp only[HJ,Ik]at b7 ⊢;let:=A9 (Iu.mpr #[bv.nd,(by simp),λa ha b L z=>aI (by rw[← Ih.mp L,← z];exact ha)]:(ap++[oth e x]).Nodup) (m:=m) (λy hy=>(HY.mp hy).elim (bv.lt y) λz=>by rw[Ih.mp z];exact om)
      rw[HJ,Ik]at this;omega
   .rw[My c]at x2;refine .inl #[_,U,p',bf,_,U,x2,yE _ _ _ ∅ ∅ ∅,_,U,p',_,_,_,(x:Int),U,#[bf,x2],?_]
    rw[ce];refine#[_,U,_,U,d,_,U,.inl #[_,.inl ((oth e x:Nat):Int),.inl bS,U,U],_,U,?_];by_cases aI:oth e x∈ap
    .rw[tG bv.nd aI];exact iteF #[Pl,ap,ba,_,_,_,U,s6,bS,aW,bv,b0,b7]
    .rw[Bk aI];refine iteT ?_;refine#[_,U,_,U,d,_,U,.inl #[_,.inl (x:Int),.inl bS,U,(tG bv.nd b0).symm],?_];refine .inl #[_,U,p',bf,_,U,x2,yE _ _ _ ∅ ∅ ∅,p',U,_,_,U,U,_,U,_,U,_,_,U,U,(show(0:Int)<=(t:Int) by omega),_,_,U,U,_,_,U,U,?_]
     refine#[_,U,_,U,d,_,U,DPut.k (k:=.inl ((oth e x:Nat):Int)) bS (aq (by unfold kvS;rw[HD];omega)),?_]
     let G cb:∃ G,putK (kvS Pl ap) (.inl ((oth e x:Nat):Int)) (.int (M4 (M4 (sI (Pl x)) (if false=true then 1 else 0)) (MY ((S:Int)/2^((t:Nat):Int).toNat) 1)))=kvS G (ap++[oth e x]):=#[_,by rw[bt_sI,xor3];exact Bl aI _]
     let bP:(upd H6 d (.dK (putK (kvS Pl ap) (.inl ((oth e x:Nat):Int)) (.int (M4 (M4 (sI (Pl x)) (if false=true then 1 else 0)) (MY ((S:Int)/2^((t:Nat):Int).toNat) 1)))))) q=Z (.lst (ba.map iV)):=by rw[ao ca];exact aW
     refine#[_,U,.inl #[U,_,SqL.of bP],_,U,q,_,_,U,U,bP,aq (by rw[HD];omega),?_]
     refine#[G,ap++[oth e x],ba++[oth e x],_,_,_,U,aH (aH s6 hd _) bC _,?_,?_,bv.new aI om,IU _ b0,?_]
     .rw[ao (Ne.symm ca),af,cb]
     .rw[af,HW];rfl
     .simp only[HJ,Ik]at b7 ⊢;let:=A9 (Iu.mpr #[bv.nd,(by simp),λa ha b L z=>aI (by rw[← Ih.mp L,← z];exact ha)]:(ap++[oth e x]).Nodup) (m:=m) (λy hy=>(HY.mp hy).elim (bv.lt y) λz=>by rw[Ih.mp z];exact om)
      rw[HJ,Ik]at this;omega
  .rintro M H6 ⟨Pl,ap,ba,v5,v6,v7,rfl,s6,bS,aW,bv,b0,b7⟩;exact#[Pl,ap,ba,_,_,_,_,b7,U,s6,bS,aW,bv]
 .let e0:wl=[]:=by
   cases wl with
   |nil=>rfl
   |cons a b=>exact NZ (by rw[My (by simp)];rfl) c
  subst e0;refine#[_,U,d,_,U,cq,λo=>?_];let ch:=A9 mt.nd mt.lt;refine zG (kvs:=kvS Pl ps) (d:=d) (o:=o) (λi ys H5=>H5=upd H4 d (.frz o (.dK (kvS Pl ps)))/\ys=((ps.take i).filter Pl).map iV) (Ia (aq (by unfold kvS;rw[HD];omega))) #[U,U] (λi ys H5 _ z=>by rw[z.1];exact af) ?_ ?_ ?_
  .rintro i ky y ys H5 cv ⟨rfl,rfl⟩;unfold kvS at cv;rw[HN]at cv;let x J e2:=HV.mp cv
   cases e2
   let et:ps.take (i+1)=ps.take i++[x]:=by rw[Ie,J];rfl
   refine#[U,_,U,_,U,d,_,U,.inl #[_,.inl (x:Int),.inr #[o,af],U,(tG mt.nd (HC J)).symm],U,_,U,?_]
   cases bi:Pl x with
   |true =>
    refine iteT #[_,U,U,?_];rw[et,Kf,HW,Ld bi];rfl
   |false =>
    refine iteF #[U,?_];rw[et,Kf,HW,Mw (by rw[bi];exact Io)]
    simp
  .rintro ys H5 ⟨rfl,rfl⟩ D hD;let el:(kvS Pl ps).length=ps.length:=by unfold kvS;rw[HD]
   rw[el,Ip];refine#[D,ps.filter Pl,U,SqL.of af,λx J=>?_,?_]
   .let:=mt.lt x (JM.mp J).1
    omega
   .let sF:Same H1 (upd (upd H4 d (.frz o (.dK (kvS Pl ps)))) D (.lst (((ps.filter Pl)).map iV))):=(aH cp hd _).trans (ai hD _)
    exact kk _ _ (s1.trans sF) (JE _ λx J=>by rw[sZ x _ _ U];exact My λz=>by let:=mt.lt x (JM.mp z).1;omega)
  .rintro i ys H5 ⟨_,rfl⟩;rw[HD];exact IK (Jj _ _) (by rw[IC];exact Ma _ _)
open KF (andN orN shlN xorN)
theorem bF.smT(h:bF H xs ts)(s:KF.SmT H H'):bF H' xs ts:=#[h.1,λi l e=>by
 let p a b:=h.2 i l e
 exact#[p,a,s.lst b]]
theorem lG.smT{PS:Addr}{ks:Kn}(h:lG PL PS H xs es ks)(s:KF.SmT H H'):lG PL PS H' xs es ks:=#[h.1,λi e k Y B=>by
 let p l a b:=h.2 i e k Y B
 exact#[p,l,a,s _ _ (λA y=>by cases y) b]]
theorem WebR.smT{PL PS o p:Addr}{H H':Hp}{es:En}{ks:Kn}{rs:List (List Nat)}(h:WebR PL PS o H p es ks rs)(s:KF.SmT H H'):WebR PL PS o H' p es ks rs:=by
 let l fs k j t q a b c d e f g:=h;exact#[l,fs,k,j,t,q,s _ _ (λA y=>by cases y) a,b,s.lst c,d.smT s,e,s.lst f,g.smT s]
theorem WebT.smT{PL PS o p:Addr}{H H':Hp}{m:Nat}{es:En}{ts:List (List Nat)}{ks:Kn}(h:WebT PL PS o H p m es ts ks)(s:KF.SmT H H'):WebT PL PS o H' p m es ts ks:=by
 let l fs k j Y n a b c d e f g i:=h;exact#[l,fs,k,j,Y,n,s _ _ (λA y=>by cases y) a,b,c,s.lst d,e.smT s,f,s.lst g,i.smT s]
structure WebL(TT PL PS WC:Addr)(H:Hp)(p m:Nat)(es:En)(ts rs:List (List Nat))(ks:Kn)(ls:List KF.Lk):Prop where
 wf:∃ S,WebF S PL PS WC H p m es ts rs ks
 o:Oth m es ts ks rs ls
 kin:∀ k∈ks,k.1=0∨k.1=1
 few:es.length<=9
 e0:0<es.length
 tb:Tb KF.lqF KF.lpF TT H
def mkW(es:En)(ks:Kn)(ls:List KF.Lk):Nat:=KF.oddE ls (MK (bA ks) es.length) es.length
inductive uN(TT PL PS WC:Addr)(vs:List L2.V)(H:L2.Hp)(Q:L2.VK)(x3_:L2.XK):Prop
 |mk (p:Addr)(m:Nat)(es:En)(ts rs:List (List Nat))(ks:Kn)(ls:List KF.Lk) (h0_:vs=[.ref p])(h1_:WebL TT PL PS WC H p m es ts rs ks ls)(h2_:∀(t:Addr)(c:Int)(v0 v1 v2:V)(u:Nat)(kv:List (Nat×Nat))(H':Hp),KF.SmT H H'->Tb KF.lqF KF.lpF TT H'->H' t=Z (.tup [v0,v1,v2])->KF.PpK H' v2 kv->kv.length<=3000->KF.oddE ls u es.length=mkW es ks ls->KF.cstU ls u es.length<=c->KF.Hls rs.length ls (mkW es ks ls) c kv->Q (.ref t) H')
theorem kA:ay ["web","marks","many","links","found"] ["web"] (ar uX):=by ac_nf
theorem DK{TT PS WC:Addr}{d2 d3 d4 d5:FuncData}(F:Fun K "least" "least" uX f fd)(T:TxtO mg)(cw:CW K WC)(a7:Cal P w K mg base 4 "marks_of" ["web"] (Am PL PS WC) f1 G)(ap:Cal P w K mg base 1 "links_of" ["web"] (uM PL PS WC) f2 d2)(ba:Cal P w K mg base 11 "paired" ["many","links","marks"] (KF.spPaired TT) a d3)(a3:Cal P w K mg base 4 "laying_of" ["web","ties"] (spLO PL PS WC) C d4)(bi:Cal P w K mg base 12 "hills" ["many","links","marks"] (KF.spHills TT) I d5):FnOk P w K mg base CX0 13 f fd ["web"] (uN TT PL PS WC):=by
 refine F.ok kA (by walk_at "l") λaa A y s H vs Q E o h=>?_
 let p m N ts rs ks ls rfl wl kk:=h;let{S wf}O a0 ab e0 tb:=wl;let g:=O.g;let kl:=O.kl;let ln:=O.d.ln;let dx fs e z M wg _ l2 aI tk:=id wf;let q5 z5 l5 an r5:=wg.rounds;let q6 z6 l6 am r6:=wg.sides;let ro:=wg.part;let cnt:=jT g ro;let m2:=O.m2;let ca:rs.length<=12:=by omega
 let bC:1<=rs.length:=by
  let r ac _:=IW.mp (ro.all 0 ∅)
  let:=JB ac;omega
 let be:∀ r∈rs,r.length<=900:=λr o=>by
  let:=cZ (ro.ring r o).nd (ro.ring r o).lt;omega
 let bB:z5.length=rs.length:=r5.1
 refine#[_,(ag (aA 1 kA.nd (a7.c o (ae (pv 0) ah)))
   (ag (aA 2 kA.nd (az av (by rfl) T.n_len aX (ae (bW (pv 0) U) ah)))
   (ag (aA 3 kA.nd (ap.c o (ae (pv 0) ah)))
   (ag (aA 4 kA.nd (ba.c o (ae (pv 2) (ae (pv 3) (ae (pv 1) ah)))))
   (ak (aE (cR (ae (aZ (pv 4) aj) (ae (a3.c o (ae (pv 0) (ae (aZ (pv 4) aj) ah))) (ae (bi.c o (ae (pv 2) (ae (pv 3) (ae (pv 1) ah)))) ah)))))))))),?_]
 refine#[_,U,p,N,ks,rs,U,wf.r,kl,∅,∅,be,λx J=>?_]
 refine#[_,U,p,WC,dx,fs,_,U,J _ _ M,cw.cl,cw.n4,l5,q5,z5,U,.inl (SqL.of (J _ _ an)),?_];rw[bB];refine#[_,U,p,N,ks,rs,U,#[dx,fs,e,z,q6,z6,J _ _ M,l2,J _ _ aI,tk.mono J,l6,J _ _ am,r6.mono J],kl,∅,λq zs u s2 nq hq lk=>?_]
 let bm:=O.d.lnk (λi l j=>by
  let k Y B _:=O.ws i l j
  exact#[k,Y,B]) lk
 let bT:=O.d.marks (MK (bA ks) N.length);let al:=J.trans s2;let bb:=KF.tb_same tb al;let bJ:=O.lok1 ∅
 let bv:=O.d.conn1 O.g U O.cr;let D v:=O.even1 ∅
 let bf:=Fv D;rw[bT];let bK:KF.LnAt u (.ref q) ls:=#[q,zs,U,hq,bm];refine#[_,U,_,U,_,U,.ref q,rs.length,_,ls,U,bK,bJ,bC,bv,D,v,∅,bb,λr4 c4 u4 H4 a4 aS a5 cb bn bP bQ=>?_]
 let aT:=(KF.SmT.of al).trans a4;let ev:CJ rs u4 (MK (bA ks) N.length):=λk r b=>by
  let a1:=O.d.oddN u4 b;let a2:=O.d.oddN (MK (bA ks) N.length) b;rw[ln]at bn;rw[bn,a2,mF,mF]at a1;let:=decide_eq_decide.mp a1;unfold parR at this ⊢;omega
 refine#[_,U,r4,_,0,_,U,U,SqT.of a5,at0,_,U,_,U,r4,_,1,_,U,U,SqT.of a5,at1,p,u4,m,N,ts,ks,rs,U,wf.t.smT aT,wf.r.smT aT,g,ro,kl,∅,∅,∅,a0,ev,λL H5 s5 ly=>?_]
 let bU:=KF.tb_same aS s5;let bR:=a4.trans (KF.SmT.of s5);refine#[_,U,_,U,_,U,.ref q,rs.length,_,ls,U,bK.smT bR,bJ,bC,bv,D,v,∅,∅,bU,λq7 bZ kv c7 H7 b0 a6 aW b7 k3 bS b8=>?_]
 refine#[(by show 3<=Mz;decide),λt n=>?_]
 let st:=ai n (.tup [.int c4,.int (L:Int),.ref q7]);let ce:c7=c4:=KS (bS.2 _ bP.1) (bP.2 _ bS.1);subst ce;rw[ln]at bn bQ;exact kk t c7 _ _ _ u4 kv _ ((KF.SmT.of al).trans (bR.trans (b0.trans (KF.SmT.of st)))) (KF.tb_same a6 st) af #[q7,bZ,U,st _ _ aW,b7.mono st] k3 bn bQ b8
open KF (andN orN shlN xorN)
theorem WebS.smT{PL PS o p:Addr}{H H':Hp}{es:En}{ks:Kn}{rs:List (List Nat)}(h:WebS PL PS o H p es ks rs)(s:KF.SmT H H'):WebS PL PS o H' p es ks rs:=by
 let l fs k j n q a b c d e f g:=h;refine#[l,fs,k,j,n,q,s _ _ (λA y=>by cases y) a,b,s.lst c,d.smT s,e,s.lst f,g.1,λi I=>?_]
 let t x y r m B J C v u w:=g.2 i I;exact#[t,x,y,r,m,B,s.tup J,C,v,u,w]
theorem Dl.side(D:Dl N rs ls)(h:ic H zs N rs){k:Nat}(f:k<N):∃ p,zs[k]?=Z (.ref p)/\H p=Z (.tup [iV (KF.lkA ls k).1,iV (KF.lkA ls k).2.1]):=by
 let p a b r m Y B J u O E:=h.2 k f;let e:=Hz (show k<ls.length by rw[D.ln];exact f)
 let{o g s}G b1 b2:=D.sd k _ e;rw[KF.lkA_is e,g7 D.nd g J s u,g7 D.nd b1 O b2 E];exact#[p,Y,B]
theorem Oth.str{ks:Kn}(O:Oth m es ts ks rs ls){k:Nat}{y:Int×Int}(h:ks[k]?=Z y):(KF.lkA ls k).2.2=y.2:=by
 let f:k<ls.length:=by rw[O.d.ln,← O.kl];exact(HB.mp h).1
 let e:=Hz f;let c C T _:=O.ws k _ e;rw[h]at C
 cases C
 rw[KF.lkA_is e];exact T
inductive spTT(PL PS WC:Addr)(vs:List L2.V)(H:L2.Hp)(Q:L2.VK)(x3_:L2.XK):Prop
 |mk (p:Addr)(pv:V)(m:Nat)(es:En)(ts rs:List (List Nat))(ks:Kn)(ls:List KF.Lk)(kv:List (Nat×Nat)) (h0_:vs=[.ref p,pv])(h1_:WebS PL PS WC H p es ks rs)(h2_:Oth m es ts ks rs ls)(h3_:KF.PpK H pv kv)(h4_:kv.length<=3000)(h5_:∀ H',Same H H'->Q (.int ((MK (KF.tgB ls kv) es.length:Nat):Int)) H')
inductive uL(vs:List L2.V)(H:L2.Hp)(Q:L2.VK)(x3_:L2.XK):Prop
 |mk (s:Addr)(a b M:Nat) (h0_:vs=[.ref s,iV M])(h1_:H s=Z (.tup [iV a,iV b]))(h2_:Q (.bl (decide (KF.chN a b M=1))) H)
inductive spLT(PL PS WC:Addr)(vs:List L2.V)(H:L2.Hp)(Q:L2.VK)(x3_:L2.XK):Prop
 |mk (p pk:Addr)(pv:V)(m:Nat)(ws:List V)(es:En)(ts rs:List (List Nat))(ks:Kn)(ls:List KF.Lk)(kv:List (Nat×Nat)) (h0_:vs=[.ref p,.ref pk,pv])(h1_:WebS PL PS WC H p es ks rs)(h2_:H pk=Z (.lst ws))(h3_:dY H ws ks)(h4_:Oth m es ts ks rs ls)(h5_:KF.PpK H pv kv)(h6_:kv.length<=3000)(h7_:∀ H',Same H H'->Q (.int ((MK (KF.tgB ls kv) es.length:Nat):Int)) H')
theorem qf:ay ["web","paper"] ["web","paper"] (ar iq):=by ac_nf
theorem ok_tt{PS:Addr}{d2 d3:FuncData}(F:Fun K "tight_ties" "tight_ties" iq f fd)(T:Txt mg)(am:Cal P w K mg base 1 "links_of" ["web"] (uM PL PS I) f1 G)(an:Cal P w K mg base 1 "paid_over" ["link","paper"] KF.spPaid f2 d2)(ac:Cal P w K mg base 1 "mask_of" ["places"] (mw K) a d3):FnOk P w K mg base CX0 2 f fd ["web","paper"] (spTT PL PS I):=by
 refine F.ok qf (by walk_at "l") λaa A v s H vs Q E o h=>?_
 let p pw m N ts rs ks ls kv rfl wb O pp k3 kk:=h;let ab:=O.few;let ln:=O.d.ln;refine#[_,(ak (aE (ac.c o (ae (d8 [("paper",1)] ["number","link"] (jW U T.n_enumerate (ae (am.c o (ae (pv 0) ah)) ah)) (λC ex s H=>(gE (n:=2) (K:=K) U U (aJ (bp (i:=0) (show(["number","link","paper"]:List Str).Nodup from by decide) U (Or.inl U)) (aJ (bp (i:=1) (show(["number","link","paper"]:List Str).Nodup from by decide) U (Or.inl U)) cP)))) (λC ex s H=>(jV (aB eG (an.c o (ae (pv 1) (ae (pv 2) ah))) (aw dS aj (l7 K (pv 1) aj)) (aC _)))) (λC ex s H=>(pv 0))) ah)))),?_]
 refine#[_,U,p,N,ks,rs,U,wb,O.kl,∅,λq y g b nq hq lk=>?_]
 let ap:=O.d.lnk (λi l j=>by
  let k Y B _:=O.ws i l j
  exact#[k,Y,B]) lk
 let zl:=ap.1;let aI:=pp.mono b;refine#[q,U,#[_,SqL.of hq],jA (K:=K) (xs:=y) (λi r u=>Same g u/\r=(upL (KF.tgB ls kv) i).map iV) (Ia (aq ∅)) #[λ_ _ e=>e,U] (λi r u _ z=>SqL.of (z.1 _ _ hq)) ?_ ?_ (λi r u z=>by rw[z.2,HD];unfold upL;exact IK (Jj _ _) (by simp))]
 .rintro i x r u T2 J ⟨M,rfl⟩ al;let l j t rfl L:=ap.get J;let sT:=ai al (.tup [.int (i:Int),.ref t]);let s3:=M.trans sT;let tg:KF.tgB ls kv i=decide (((KF.pdN kv l:Nat):Int)=2*l.2.2):=by unfold KF.tgB;rw[KF.lkA_is j]
  refine#[T2,_,U,SqT.of af,U,_,_,U,_,_,U,U,U,?_];refine#[_,U,_,U,.ref t,pw,l,kv,U,#[t,U,s3 _ _ L],aI.mono s3,k3,λH4 s4=>?_];refine#[_,U,t,_,2,_,U,U,SqT.of (s4 _ _ (s3 _ _ L)),U,_,_,U,U,.inl #[by decide,by decide],U,_,U,?_]
  rw[gp,tg];refine ite2 (λc=>?_) (λc=>?_)
  .let c':=V.int.inj (NO c)
   rw[NX (Ni c'),HW];exact#[_,U,s3.trans s4,U]
  .rw[NY (λz=>c (Ni (congrArg V.int (NO z))))];exact#[s3.trans s4,U]
 .rintro r u ⟨M,rfl⟩ D hD;refine#[D,upL (KF.tgB ls kv) y.length,U,SqL.of af,λx J=>?_,?_]
  .let:=Ja.mp (JM.mp J).1
   omega
  .rw[n8,zl,ln];exact kk _ ((b.trans M).trans (ai hD _))
theorem sk:ay ["side","rounds"] ["side","rounds"] (ar jL):=by ac_nf
theorem DE(F:Fun K "_law_parts" "_law_parts" jL f fd):FnOk P w K mg base CX0 1 f fd ["side","rounds"] uL:=by
 refine F.ok sk (by walk_at "l") λY A o s H g Q E O h=>?_
 let s a b M rfl d y:=h;refine#[_,(ak (aE (vk eG (aw jD (aw fY (aw fZ (pv 1) (aZ (pv 0) aj)) (aw fZ (pv 1) (aZ (pv 0) aj))) aj) aj (aC _)))),?_];refine#[_,U,_,U,s,_,0,_,U,U,SqT.of d,at0,_,_,U,U,(show(0:Int)<=(a:Int) by omega),_,U,_,U,s,_,1,_,U,U,SqT.of d,at1,_,_,U,U,(show(0:Int)<=(b:Int) by omega),_,_,U,U,_,_,U,U,?_]
 dsimp only;rw[KF.xorB];refine#[U,?_];rw[show decide (V.int ((KF.chN a b M:Nat):Int)=V.int 1)=decide (KF.chN a b M=1) from decide_eq_decide.mpr #[λz=>by grind,λz=>by rw[z];rfl]]
 exact y
theorem dJ:ay ["web","kinds","paper","found","k","both"] ["web","kinds","paper"] (ar jK):=by ac_nf
theorem ok_lt{PS:Addr}(F:Fun K "_law_tight" "_law_tight" jK f fd)(T:Txt mg)(cw:CW K I)(am:Cal P w K mg base 1 "_law_parts" ["side","rounds"] uL f1 G):FnOk P w K mg base CX0 2 f fd ["web","kinds","paper"] (spLT PL PS I):=by
 refine F.ok dJ (by walk_at "l") λaa A v s H L Q E o h=>?_
 let p pk pv m ws N ts rs ks ls kv rfl{dx fs b xs q6 z6 g _ _ _ l6 al r6}ac tk O{a Y rfl hA hL}k3 kk:=h;let ab:=O.few;let yl:=hL.1;rw[HD]at yl;let wl:ws.length=N.length:=by rw[tk.1,O.kl]
 refine#[_,(ag (aA 3 dJ.nd aj)
   (ag (bc PassesOwn.never U (aN U T.n_range (ae (az av (by rfl) T.n_len aX (ae (pv 1) ah)) ah)) (bO 4 dJ.nd) (ag (aA 5 dJ.nd (az (rO U) (by rfl) T.n_sum yw (ae (d8 [("web",0),("k",4)] ["pair"] (aP (pv 2)) pg_c (λC ex s H=>(jV (sM (am.c o (ae (qC K (nV (K:=K) U (pv 1) U) (pv 2)) (ae (l7 K (pv 0) aj) ah)))))) (λC ex s H=>(l7 K (pv 0) aj))) ah)))
   (ak (bV (aB eG (pv 5) (aw dS aj (aZ (aV (pv 1) (pv 4)) aj)) (aC _)) (ak (aA 3 dJ.nd (aw yJ (pv 3) (aw cE aj (pv 4))))) aR))))
   (ak (aE (pv 3))))),?_]
 refine#[_,U,pk,ws,U,.inl (SqL.of ac),_,U,∅,∅,bE (n:=(ws.length:Int).toNat) (λi M u=>∃(v4 v5:Option V),M=[Z (.ref p),Z (.ref pk),Z (.ref a),Z (.int ((MK (KF.tgB ls kv) i:Nat):Int)),v4,v5]/\Same H u) #[_,_,U,λ_ _ e=>e] ?_ ?_]
 .rintro k M u l ⟨v4,v5,rfl,y⟩;rw[HP,wl]at l;rw[Jl];let k9 an:∃ x,ks[k]?=Z x:=#[_,Hz (by rw[O.kl];exact l)]
  let _ _ ap y1 y2:=(tk.mono y).2 k k9 an;let t x1 x2:=O.d.side (r6.mono y) l;let aI:=hL.mono y;refine#[_,U,a,U,#[_,SqL.of (y _ _ hA)],cJ (K:=K) (xs:=Y) (λi j H3=>H3=u/\j=(KF.pdL (kv.take i) (KF.lkA ls k).1 (KF.lkA ls k).2.1).map V.int) (KF.big3 ∅) #[U,U] (λi j H3 _ z=>by rw[z.1];exact SqL.of (y _ _ hA)) ?_ ?_ (λi j H3 z=>by rw[z.2,HD];exact KF.pdL_len _ _ _ _)]
  .rintro i x j H3 J ⟨rfl,rfl⟩;let e q B rfl r:=KF.pat_get aI J;refine#[U,?_];refine#[_,U,p,I,dx,fs,_,U,y _ _ g,cw.cl,cw.n5,l6,_,U,q6,z6,_,_,U,U,SqL.of (y _ _ al),ax x1,_,U,q,_,0,_,U,U,SqT.of r,at0,t,_,_,e.1,U,x2,_,U,?_];rw[KF.pdL_put B];refine ite2 (λc=>?_) (λc=>?_)
   .rw[NX (NO c),HW];exact#[_,U,q,_,1,_,U,U,SqT.of r,at1,U,U]
   .simp_all
  rintro j H3 ⟨rfl,rfl⟩ D hD;rw[yl,Ip];let sD:=ai hD (.lst ((KF.pdL kv (KF.lkA ls k).1 (KF.lkA ls k).2.1).map V.int));refine#[D,_,U,SqL.of af,?_];rw[KF.pdL_sum];refine#[_,U,_,U,_,U,pk,ws,_,_,U,U,SqL.of (sD _ _ (y _ _ ac)),ax y1,ap,_,1,_,U,U,SqT.of (sD _ _ y2),at1,_,_,U,U,.inl #[by decide,by decide],U,_,U,ite2 (λc=>?_) (λc=>?_)]
  .let c':KF.tgB ls kv k=true:=Ni (by rw[O.str an];exact V.int.inj (NO c))
   refine#[_,U,_,U,_,_,U,U,#[∅,∅,by decide],_,_,U,U,?_]
   refine#[Z (.int (k:Int)),Z (.int ((KF.wsum (KF.chN (KF.lkA ls k).1 (KF.lkA ls k).2.1) kv:Nat):Int)),?_,y.trans sD]
   .rw[show MK (KF.tgB ls kv) (k+1)=MK (KF.tgB ls kv) k|||2^k from by show(if _ then _ else _)=_;rw[NX c'],← orN,← shlN]
    rfl
  .let c':¬ KF.tgB ls kv k=true:=λz=>c (Ni (by rw[← O.str an];exact congrArg V.int (NO z)))
   refine#[Z (.int (k:Int)),Z (.int ((KF.wsum (KF.chN (KF.lkA ls k).1 (KF.lkA ls k).2.1) kv:Nat):Int)),?_,y.trans sD];rw[show MK (KF.tgB ls kv) (k+1)=MK (KF.tgB ls kv) k from by show(if _ then _ else _)=_;rw[NY c']]
   rfl
 .rintro M u ⟨v4,v5,rfl,y⟩;rw[HP,wl];exact#[_,U,kk _ y]
open KF (andN orN shlN xorN)
theorem Du(h:PAt H ys (kv.map λe=>((e.1:Int),(e.2:Int)))):cM H ys kv:=by
 refine#[by rw[h.1,HD],λi e D=>?_]
 exact h.2 i (e.1,e.2) (by simp[*])
theorem lj(h:cM H ys kv):PAt H ys (kv.map λe=>((e.1:Int),(e.2:Int))):=by
 refine#[by rw[h.1,HD],λi p M=>?_]
 rw[HN]at M;let e D rfl:=HV.mp M;exact h.2 i e D
theorem up_cr(ls:List KF.Lk)(ww:Nat->Bool)(M:Nat):∀ N,((upL ww N).filter λk=>decide (KF.chN (KF.lkA ls k).1 (KF.lkA ls k).2.1 M=1)).length=KF.crN ls ww N M
 |0=>rfl
 |N+1=>by
  let Q:=up_cr ls ww M N;show _=KF.crN ls ww N M+cond (ww N) (KF.chN (KF.aL ls N) (KF.bL ls N) M) 0;rw[gp]
  cases ww N with
  |false=>exact Q
  |true =>
   rw[NX U,Kf,HJ,Q];show _=KF.crN ls ww N M+KF.chN (KF.lkA ls N).1 (KF.lkA ls N).2.1 M;obtain z|z:=KF.ch_01 (KF.lkA ls N).1 (KF.lkA ls N).2.1 M
   .simp[*]
   .simp[*]
inductive Aq(PL PS WC:Addr)(vs:List L2.V)(H:L2.Hp)(Q:L2.VK)(x3_:L2.XK):Prop
 |mk (p t pe pt pr pk:Addr)(pv:V)(m L:Nat)(ys ws:List V)(es:En)(ts rs:List (List Nat))(ks:Kn)(ls:List KF.Lk)(kv:List (Nat×Nat)) (h0_:vs=[.ref p,.ref t,.ref pk,iV L,iV (MK (KF.tgB ls kv) es.length),pv])(h1_:WebS PL PS WC H p es ks rs)(h2_:H t=Z (.tup [.ref pe,.ref pt,.ref pr]))(h3_:H pe=Z (.lst ys))(h4_:cM H ys es)(h5_:H pk=Z (.lst ws))(h6_:dY H ws ks)(h7_:Oth m es ts ks rs ls)(h8_:KF.PpK H pv kv)(h9_:kv.length<=3000)(h10_:∀ b H',Same H H'->(b=true↔KF.Kpt ls kv (UN es ks L) es.length)->Q (.bl b) H')
theorem eO:ay ["web","grown","kinds","laying","tight","paper","denied","k","end","pair"] ["web","grown","kinds","laying","tight","paper"] (ar lU):=by ac_nf
theorem Gy{PS:Addr}(F:Fun K "_law_kept" "_law_kept" lU f fd)(T:Txt mg)(cw:CW K I)(ap:Cal P w K mg base 1 "_law_parts" ["side","rounds"] uL f1 G):FnOk P w K mg base CX0 2 f fd ["web","grown","kinds","laying","tight","paper"] (Aq PL PS I):=by
 refine F.ok eO (by walk_at "l") λaa A v s H vs Q E o h=>?_
 let p t pe pt pr pk pw m L Y ws N ts rs ks ls kv rfl{dx fs q1 xs q6 z6 g _ _ _ l6 an r6}r am hE ac tk O{a as rfl hA hL}k3 kk:=h;let ab:=O.few;let al:=hL.1;rw[HD]at al;let wl:ws.length=N.length:=by rw[tk.1,O.kl]
 refine#[_,(ag (aA 6 eO.nd (bw ah))
   (ag (bc PassesOwn.never U (aN U T.n_range (ae (az av (by rfl) T.n_len aX (ae (pv 2) ah)) ah)) (bO 7 eO.nd) (ag (aA 8 eO.nd (aV (aZ (pv 1) aj) (pv 7)))
   (ak (bV (aB jZ (aw jD (aw fY (aw fZ (pv 3) (aZ (pv 8) aj)) (aw fZ (pv 3) (aZ (pv 8) aj))) aj) (aZ (aV (pv 2) (pv 7)) aj) (aC _)) (ag (aO (d9 HZ Ij Ii aQ (pv 6) (ae (pv 7) ah)))
   (ak (bV (aB eG (aw jD (aw fZ (pv 4) (pv 7)) aj) aj (aC _)) (ak (aE oQ)) aR))) aR))))
   (ag (bc PassesOwn.never U (aP (pv 5)) (bO 9 eO.nd) (ak (bV (aB jZ (az av (by rfl) T.n_len aX (ae (d8 [("web",0),("pair",9)] ["k"] (aP (pv 6)) pg_c (λC ex s H=>(jV (sM (ap.c o (ae (qC K (nV (K:=K) U (pv 1) U) (pv 0)) (ae (l7 K (pv 2) aj) ah)))))) (λC ex s H=>(pv 0))) ah)) aj (aC _)) (ak (aE oQ)) aR)))
   (ak (aE oQ))))),?_]
 refine#[(by simp),λdq a1=>?_]
 refine#[_,U,pk,ws,U,.inl (SqL.of (ai a1 _ _ _ ac)),_,U,∅,∅,bE (n:=(ws.length:Int).toNat) (λi M l=>∃(v7 v8:Option V),M=[Z (.ref p),Z (.ref t),Z (.ref pk),Z (iV L),Z (iV (MK (KF.tgB ls kv) N.length)),Z (.ref a),Z (.ref dq),v7,v8,none]/\Same H l/\l dq=Z (.lst ((upL (UN N ks L) i).map iV))/\∀ k,k<i->UN N ks L k=true->KF.tgB ls kv k=true) #[_,_,U,ai a1 _,af,λk b=>NZ b (IX _)] ?_ ?_]
 .rintro k M l b ⟨v7,v8,rfl,s2,aI,a2⟩;rw[HP,wl]at b;rw[Jl];let e B:∃ e,N[k]?=Z e:=#[_,Hz b];let k9 aW:∃ x,ks[k]?=Z x:=#[_,Hz (by rw[O.kl];exact b)]
  let x x1 x2:=(hE.mono s2).2 k e B;let k1 _ a0 y1 y2:=(tk.mono s2).2 k k9 aW;refine#[_,U,t,_,0,_,U,U,SqT.of (s2 _ _ r),at30,_,U,pe,Y,_,_,U,U,SqL.of (s2 _ _ am),ax x1,?_];refine#[_,U,_,U,x,_,0,_,U,U,SqT.of x2,at0,_,_,U,U,(show(0:Int)<=(e.1:Int) by omega),_,U,_,U,x,_,1,_,U,U,SqT.of x2,at1,_,_,U,U,(show(0:Int)<=(e.2:Int) by omega),_,_,U,U,_,_,U,U,?_]
  dsimp only;rw[xorI];refine#[_,U,_,U,pk,ws,_,_,U,U,SqL.of (s2 _ _ ac),ax y1,a0,_,0,_,U,U,SqT.of y2,at0,U,_,U,ite2 (λc=>?_) (λc=>?_)]
  .let cu:UN N ks L k=true:=(EL B aW k1).symm.trans c
   let a4:((upL (UN N ks L) k).map iV).length<=k:=by
    rw[HD];unfold upL;exact IK (Jj _ _) (by simp)
   refine#[_,U,.inl #[U,_,SqL.of aI],_,U,dq,_,_,U,U,aI,aq ∅,?_]
   refine#[_,U,_,U,_,_,U,U,(show(0:Int)<=(k:Int) by omega),_,_,U,U,?_]
   dsimp only;rw[uu,xk,iZ,Ni b,Ka];let sd:=aH s2 a1 (.lst ((upL (UN N ks L) k).map iV++[.int (k:Int)]))
   cases tg:KF.tgB ls kv k with
   |false=>exact#[U,_,U,iteT (kk false _ sd #[λz=>(by cases z),λz=>by rw[z.tg k b cu]at tg;cases tg])]
   |true =>
    refine#[U,_,U,iteF ?_];refine#[_,_,U,sd,?_,λj hj uj=>?_]
    .rw[af,gp,NX cu,HW];rfl
    .by_cases z:j=k
     .rw[z];exact tg
     .grind
  .let cu:¬ UN N ks L k=true:=λz=>c ((EL B aW k1).trans z)
   refine#[_,_,U,s2,?_,λj hj uj=>?_]
   .rw[gp,NY cu];exact aI
   .grind
 rintro M l ⟨v7,v8,rfl,s2,aI,a2⟩;rw[HP,wl]at aI a2;let us aS:∃ us,us=upL (UN N ks L) N.length:=#[_,U];rw[← aS]at aI;let ul:∀ u∈us,u<N.length:=λu hu=>by
  rw[aS]at hu;exact Ja.mp (JM.mp hu).1
 let a5:us.length<=N.length:=by
  rw[aS];unfold upL;exact IK (Jj _ _) (by simp)
 refine#[_,U,a,U,#[_,SqL.of (s2 _ _ hA)],bI (K:=K) (xs:=as) (λi M H3=>∃(v9:Option V),M=[Z (.ref p),Z (.ref t),Z (.ref pk),Z (iV L),Z (iV (MK (KF.tgB ls kv) N.length)),Z (.ref a),Z (.ref dq),v7,v8,v9]/\Same l H3/\∀ j e,j<i->kv[j]?=Z e->KF.crN ls (UN N ks L) N.length e.1=1) #[_,U,λ_ _ e=>e,λj e hj=>NZ hj (IX _)] (λi M H3 _ ⟨_,_,z,_⟩=>SqL.of (z _ _ (s2 _ _ hA))) ?_ ?_]
 .rintro i x M H3 J ⟨v9,rfl,s3,a3⟩;let aT:=s2.trans s3;let e q B rfl hq:=KF.pat_get (hL.mono aT) J;refine#[_,U,dq,U,#[_,SqL.of (s3 _ _ aI)],cJ (K:=K) (xs:=us.map iV) (λi zs H4=>H4=H3/\zs=((us.take i).filter λk=>decide (KF.chN (KF.lkA ls k).1 (KF.lkA ls k).2.1 e.1=1)).map iV) (Ia (aq (by grind))) #[U,U] (λi zs H4 _ z=>by rw[z.1];exact SqL.of (s3 _ _ aI)) ?_ ?_ (λi zs H4 z=>by rw[z.2,HD];exact IK (Jj _ _) (by rw[IC];exact Ma _ _))]
  .rintro j y zs H4 hy ⟨rfl,rfl⟩;rw[HN]at hy;let k b rfl:=HV.mp hy;let tt x1 x2:=O.d.side (r6.mono aT) (ul k (HC b));refine#[U,?_];refine#[_,U,p,I,dx,fs,_,U,aT _ _ g,cw.cl,cw.n5,l6,_,U,q6,z6,_,_,U,U,SqL.of (aT _ _ an),ax x1,_,U,q,_,0,_,U,U,SqT.of hq,at0,tt,_,_,e.1,U,x2,_,U,?_];rw[Ie,b,KZ,Kf,HW];refine ite2 (λc=>?_) (λc=>?_)
   .rw[Ld (p:=λk=>decide (KF.chN (KF.lkA ls k).1 (KF.lkA ls k).2.1 e.1=1)) (a:=k) c];exact#[_,U,U,U]
   .simp[*]
  rintro zs H4 ⟨rfl,rfl⟩ D hD;rw[HD,Ip,aS];let sD:=ai hD (.lst (((upL (UN N ks L) N.length).filter λk=>decide (KF.chN (KF.lkA ls k).1 (KF.lkA ls k).2.1 e.1=1)).map iV));refine#[D,_,U,.inl (SqL.of af),?_];rw[HD,up_cr];refine#[U,_,U,ite2 (λc=>?_) (λc=>?_)]
  .refine kk false _ (aT.trans sD) #[λz=>(by cases z),λz=>?_]
   rw[z.cr e (HC B)]at c
   cases c
  .refine#[_,U,s3.trans sD,λj e' hj a6=>?_];by_cases z:j=i
   .grind
   .grind
 .rintro M H3 ⟨v9,rfl,s3,a3⟩;refine kk true _ (s2.trans s3) #[λ_=>#[a2,λe B=>?_],λ_=>rfl];let j hj:=II B;exact a3 j e (by rw[al];exact(HB.mp hj).1) hj
open KF (andN orN shlN xorN)
theorem WebF.s{S:Addr->Prop}{PS:Addr}{ks:Kn}(h:WebF S PL PS f H p m es ts rs ks):WebS PL PS f H p es ks rs:=by
 let l fs k j a b _ c d e:=h;let B o i g q:=b.sides;exact#[l,fs,k,j,B,o,a,c,d,e,i,g,q]
theorem WebF.oth{S:Addr->Prop}{PS:Addr}{ks:Kn}(h:WebF S PL PS f H p m es ts rs ks)(g:Gr m es ts)(e:ks.length=es.length)(d:∀ k∈ks,0<=k.2/\k.2<=10^(30:Int).toNat)(v:2<=m)(L:es.length<=16):∃ ls,Oth m es ts ks rs ls:=by
 let n fs t j a u _:=h;let c o _ _ q:=u.sides;let b:=u.part;let ls s N:=C4 e q
 exact#[ls,g,b,#[b.nd,b.all,λr O=>(b.ring r O).lt,λr O=>(b.ring r O).nd,s,λi l G=>(N i l G).1],e,λi l G=>by
  let k Y B:=(N i l G).2
  exact#[k,Y,B,(d k (HC Y)).1,(d k (HC Y)).2],v,L]
theorem zW{m:Nat}{es:En}{ts:List (List Nat)}{ks:Kn}{rs:List (List Nat)}{ls:List KF.Lk}(O:Oth m es ts ks rs ls)(L:Nat){u:Nat}(T:∀ i,i<es.length->u.testBit i=UN es ks L i):∀ i,i<=es.length->KF.cstU ls u i=wS es ks L i
 |0,_=>rfl
 |i+1,h=>by
  let k f:∃ k,ks[i]?=Z k:=#[_,Hz (by rw[O.kl];omega)]
  unfold KF.cstU wS;rw[zW O L T i ∅,T i ∅,O.str f,EX f]
theorem Oth.kept{m:Nat}{es:En}{ts:List (List Nat)}{ks:Kn}{rs:List (List Nat)}{ls:List KF.Lk}(O:Oth m es ts ks rs ls)(N:rs.length<=40){c:Int}{kv:List (Nat×Nat)}(h:KF.Hls rs.length ls (mkW es ks ls) c kv)(L:Nat):c<=wT es ks L/\(KF.Kpt ls kv (UN es ks L) es.length↔wT es ks L=c):=by
 let f:∀ i,i<es.length->(MK (UN es ks L) es.length).testBit i=UN es ks L i:=λi I=>by rw[iZ,Ni I,Ka]
 let e:=zW O L f es.length (HF _);let q:=h.kept (O.lok1 N) (u:=MK (UN es ks L) es.length) (by rw[O.d.ln];exact O.lay L)
 rw[O.d.ln,e]at q;refine#[q.1,?_];show _↔wS es ks L es.length=c;rw[← q.2];let cr:∀ M,KF.crN ls (UN es ks L) es.length M=KF.crN ls (λi=>(MK (UN es ks L) es.length).testBit i) es.length M:=λM=>HM.csw_congr λi I=>by rw[f i I]
 exact#[λk=>#[λi I z=>k.tg i I (by rw[← f i I];exact z),λe D=>by rw[← cr];exact k.cr e D],λk=>#[λi I z=>k.tg i I (by rw[f i I];exact z),λe D=>by rw[cr];exact k.cr e D]]
theorem Oth.laid{ks:Kn}(O:Oth m es ts ks rs ls){u:Nat}{c:Int}(T:KF.oddE ls u es.length=mkW es ks ls)(l:KF.cstU ls u es.length<=c):∃ L,L<2^m/\wT es ks L<=c:=by
 let N:CJ rs u (MK (bA ks) es.length):=λk r f=>by
  let A:=O.d.oddN u f;let s:=O.d.oddN (MK (bA ks) es.length) f;unfold mkW at T;rw[T,s,mF,mF]at A;let:=decide_eq_decide.mp A;unfold parR at this ⊢;omega
 let n _ a:=C3 O.g O.ro N;let bL:∀ x,x<m->(MK n m).testBit x=n x:=λx J=>by rw[iZ,Ni J,Ka]
 refine#[MK n m,JE _ λi I=>by rw[iZ,My ∅,LC],?_]
 let:=zW O (MK n m) (u:=u) (λi I=>by
  let e D:∃ e,es[i]?=Z e:=#[_,Hz I];let b1 b2 _:=O.g.w.ends e (HC D);let z:(u.testBit i ^^ bA ks i)=(n e.1 ^^ n e.2):=a i e D;rw[UN_at D,bL _ b1,bL _ b2,← z]
  simp) es.length (HF _)
 unfold wT;rw[← this];exact l
theorem EB(ns:List Int)(a b:Nat):∃ d:List Int,cutV (ns.map V.int) (Z (a:Int)) (Z (b:Int))=d.map V.int/\d.length<=b-a:=by
 refine#[(ns.drop (min a ns.length)).take (min b ns.length-min a ns.length),?_,?_]
 .unfold cutV;rw[HT.sIx_nat,HT.sIx_nat,HD,KH,KI]
 .rw[IC];omega
inductive xH(K:HE)(TT:Addr)(vs:List L2.V)(H:L2.Hp)(Q:L2.VK)(x3_:L2.XK):Prop
 |mk (a:Addr)(ns:List Int) (h0_:vs=[.ref a])(h1_:SqL K H a (ns.map V.int))(h2_:ns.length<=63)(h3_:Tb KF.lqF KF.lpF TT H)(h4_:∀ H',Q (.bl true) H')
structure Lw(TT PL PS WC:Addr)(H:Hp)(t pk p m:Addr)(es:En)(ts rs:List (List Nat))(ks:Kn)(ls:List KF.Lk):Prop where
 wl:WebL TT PL PS WC H p m es ts rs ks ls
 gr:∃ pe pt pr,H t=Z (.tup [.ref pe,.ref pt,.ref pr])/\WebP H pe pt m es ts
 tk:∃ ws,H pk=Z (.lst ws)/\dY H ws ks
 m10:m<=10
theorem WebL.mono{TT PL PS o:Addr}{H H':Hp}{p m:Nat}{es:En}{ts rs:List (List Nat)}{ks:Kn}{ls:List KF.Lk}(h:WebL TT PL PS o H p m es ts rs ks ls)(s:Same H H'):WebL TT PL PS o H' p m es ts rs ks ls:=by
 let{S b}O c L a d:=h;exact#[#[S,b.mono s λ_ z=>z],O,c,L,a,KF.tb_same d s]
theorem WebP.smT{H H':Hp}{pe pt:Addr}{m:Nat}{es:En}{ts:List (List Nat)}(h:WebP H pe pt m es ts)(s:KF.SmT H H'):WebP H' pe pt m es ts:=by
 let{Y a b}{j c d}g:=h;refine#[#[Y,s.lst a,b.1,λi l e=>?_],#[j,s.lst c,d.smT s],g];let p a b:=b.2 i l e;exact#[p,a,s.tup b]
theorem dY.smT{J:List V}{ks:Kn}(h:dY H J ks)(s:KF.SmT H H'):dY H' J ks:=#[h.1,λi k z=>by
 let a b p c d:=h.2 i k z
 exact#[a,b,p,c,s.tup d]]
inductive rL1(TT PL PS WC:Addr)(Q:VK)(D:L2.Ends)(σ:L2.St)(H:L2.Hp):Prop
 |mk (t pk p m:Addr)(es:En)(ts rs:List (List Nat))(ks:Kn)(ls:List KF.Lk)(v0 v4 v5 v6 v7:Option V) (h0_:σ=[v0,Z (.ref t),Z (.ref pk),Z (.ref p),v4,v5,v6,v7,none,none,none,none,none])(h1_:Lw TT PL PS WC H t pk p m es ts rs ks ls)(h2_:D.rt=Q)(h3_:∀ H',Q (.bl true) H')
theorem fu:ay ["script","grown","kinds","web","some","cell","handed","found","paper","tight","costs","floor","laying"] ["script"] (ar qp):=by ac_nf
theorem ok_law{TT fR fC fK fW fO fL fT fN fM fE PS WC:Addr}{dR dC dK dW dO dL dT dN dM dE:FuncData}(F:Fun K "law" "law" qp f fd)(T:Txt mg)(cw:CW K WC)(bi:Cal P w K mg base 3 "_law_grown" ["cells","places"] (xI K) I G)(a1:Cal P w K mg base 2 "_law_renumbered" ["grown","cell"] EZ fR dR)(aS:Cal P w K mg base 1 "_law_cell" ["script","k"] (As K) fC dC)(bm:Cal P w K mg base 2 "_law_kinds" ["script","many","limits"] (Ap K) fK dK)(bn:Cal P w K mg base 2 "_law_costs" ["grown","kinds"] Ar fO dO)(bK:Cal P w K mg base 7 "_law_web" ["grown","kinds"] (An PL PS WC) fW dW)(bT:Cal P w K mg base 13 "least" ["web"] (uN TT PL PS WC) fL dL)(aW:Cal P w K mg base 2 "tight_ties" ["web","paper"] (spTT PL PS WC) fT dT)(a0:Cal P w K mg base 1 "_law_number" ["found"] spNum fN dN)(a3:Cal P w K mg base 2 "_law_tight" ["web","kinds","paper"] (spLT PL PS WC) fM dM)(bB:Cal P w K mg base 2 "_law_kept" ["web","grown","kinds","laying","tight","paper"] (Aq PL PS WC) fE dE):FnOk P w K mg base CX0 14 f fd ["script"] (xH K TT):=by
 refine F.ok fu (by walk_at "l") λab A aa s H vs Q E o h=>?_
 let a ns rfl hS cF tb kk:=h;let aI:=o.units
 refine#[_,(ag (aA 1 fu.nd (a1.c o (ae (bi.c o (ae (dA fJ (pv 0) (d7 aj) (d7 aj)) (ae aj ah))) (ae (aS.c o (ae (pv 0) (ae aj ah))) ah))))
   (ag (aA 2 fu.nd (bm.c o (ae (pv 0) (ae (az av (by rfl) T.n_len aX (ae (aZ (pv 1) aj) ah)) (ae (bw (ae aj (ae aj (ae (aw br (aw Fe aj aj) aj) ah)))) ah)))))
   (ag (aA 3 fu.nd (bK.c o (ae (pv 1) (ae (pv 2) ah))))
   (ag (aA 4 fu.nd (bw ah))
   (ag (bc PassesOwn.never U (aP (pv 0)) (bO 5 fu.nd) (ak (aO (d9 HZ Ij Ii aQ (pv 4) (ae (cR (ae (aw bq (pv 5) (aw cE aj (az av (by rfl) T.n_len aX (ae (bW (pv 3) U) ah)))) (ae (aw br aj (aw bq (aw b9 (pv 5) aj) (aV (bw (ae aj (ae aj (ae (aw Fe aj aj) ah)))) (aw bq (pv 5) aj)))) ah))) ah)))))
   (ag (aA 6 fu.nd (cS cL (by rfl) T.n_list ib (ae (pv 4) ah)))
   (ag (aA 7 fu.nd (aW.c o (ae (pv 3) (ae (pv 6) ah))))
   (ag (bV (PW.pt (u5 (AI (sM (a0.c o (ae (pv 7) ah)))) (u5 (aB jZ (pv 7) (a3.c o (ae (pv 3) (ae (pv 2) (ae (pv 4) ah)))) (aC _)) (sL (aB (AW aI) (pv 6) (pv 4) (aC _)))))) (ak (aE oQ)) aR)
   (lZ (t2:=rL1 TT PL PS WC Q) (ag (aA 8 fu.nd (aZ (bT.c o (ae (pv 3) ah)) aj))
   (ag (aA 6 fu.nd (cS cL (by rfl) T.n_list ib (ae (pv 8) ah)))
   (ag (aA 9 fu.nd (aW.c o (ae (pv 3) (ae (pv 6) ah))))
   (ag (bV (PW.pt (u5 (AI (sM (a0.c o (ae (pv 9) ah)))) (u5 (aB jZ (pv 9) (a3.c o (ae (pv 3) (ae (pv 2) (ae (pv 8) ah)))) (aC _)) (sL (aB (AW aI) (pv 6) (pv 8) (aC _)))))) (ak (aE oQ)) aR)
   (ag (aA 10 fu.nd (bn.c o (ae (pv 1) (ae (pv 2) ah))))
   (ag (aA 11 fu.nd (az (uo U) (by rfl) T.n_min ur (ae (pv 10) ah)))
   (ag (bc PassesOwn.never U (aN U T.n_range (ae (az av (by rfl) T.n_len aX (ae (pv 10) ah)) ah)) (bO 12 fu.nd) (ak (bV (aB jZ (bB.c o (ae (pv 3) (ae (pv 1) (ae (pv 2) (ae (pv 12) (ae (pv 9) (ae (pv 8) ah))))))) (vk eG (aV (pv 10) (pv 12)) (pv 11) (aC _)) (aC _)) (ak (aE oQ)) aR)))
   (ak (aE oQ))))))))) (λD0 S0 H0 h0=>?rest1)))))))))),?_]
 case rest1 =>
  obtain⟨t,pk,p,m,y,ts,rs,ks,ls,v0,v4,v5,v6,v7,rfl,⟨wl,⟨pe,pt,pr,ht,wp⟩,⟨ws,am,tk⟩,cb⟩,er,kk⟩:=h0;let{S wf}O be ac e0 tb:=id wl;let wb:=wf.s;refine#[_,U,p,m,y,ts,rs,ks,ls,U,wl,λt2 c w0 w1 w2 u kv H1 a4 b7 bf pp k3 ho hc r=>?_];let a2 cc rfl cd bQ:=id pp;refine#[t2,_,2,_,U,U,SqT.of bf,U,?_];refine#[_,U,a2,_,U,.inl (SqL.of cd),λhq cq=>?_];let s2:=ai cq (.lst cc);let a6:=a4.trans (KF.SmT.of s2);let e2:=Du (bQ.mono s2);let ct:=wb.smT a6;refine#[_,U,_,U,p,.ref hq,m,y,ts,rs,ks,ls,kv,U,ct,O,#[hq,cc,U,af,lj e2],k3,λH3 s3=>?_];let e3:=e2.mono s3;let b0:=(tk.smT a6).mono s3;let bU:=s3 _ _ (a6.lst am);refine#[_,U,_,U,_,U,iteF ?_];refine#[_,U,_,U,_,U,_,U,p,pk,.ref a2,m,ws,y,ts,rs,ks,ls,kv,U,ct.mono s3,bU,b0,O,#[a2,cc,U,s3 _ _ (s2 _ _ cd),lj e3],k3,λH4 s4=>?_];refine#[U,_,U,qT U ?_];refine#[_,U,_,U,_,rj (SqL.of (s4 _ _ (s3 _ _ af))) (e3.mono s4),rj (SqL.of (s4 _ _ (s3 _ _ (s2 _ _ cd)))) (e3.mono s4),oy _,_,U,iteF ?_];let cu:=s3.trans s4;let ca:=cu _ _ (a6.tup ht);let cG:=(wp.smT a6).mono cu;let e4:=e3.mono s4;refine#[_,U,_,U,t,pe,pt,pr,pk,m,y,ts,ks,U,ca,cG,#[ws,s4 _ _ bU,b0.mono s4],O.kl,by ac_rfl,cb,λqc H5 s5 dF cv=>?_]
  let cl:=zE y ks m;let dc:((lA y ks m).map V.int).length=2^m:=by simp[*]
  let q1 q2 q3 q4:=E9 cb;refine#[_,U,qc,lA y ks m,U,SqL.of cv,by ac_rfl,λfl dd df=>?_]
  let hn:rs.length<=40:=by
   let:=jT O.g O.ro;ac_rfl
  let fc:fl=c:=by
   let L hL:=IJ.mp dd;let Ll:L<2^m:=by rw[← cl];exact(HB.mp hL).1
   rw[oF Ll]at hL;let Y:=(O.kept hn r L).1;rw[Iw hL]at Y;let L2 l2 w2:=O.laid ho hc;let:=df _ (HC (oF l2));ac_rfl
  subst fc;let{ys an hE}_:=id cG;refine#[_,U,qc,_,U,.inl (SqL.of cv),_,U,by ac_rfl,by ac_rfl,bE (n:=(((lA y ks m).map V.int).length:Int).toNat) (λi M H6=>∃(b8:Option V),M=[v0,Z (.ref t),Z (.ref pk),Z (.ref p),v4,v5,Z (.ref hq),v7,Z (.ref a2),Z (.int ((MK (KF.tgB ls kv) y.length:Nat):Int)),Z (.ref qc),Z (.int fl),b8]/\Same H5 H6) #[_,U,λ_ _ z=>z] ?_ ?_]
  .rintro L M H6 N ⟨b8,rfl,s6⟩;rw[HP,dc]at N;rw[Jl];let bC:=s5.trans s6;refine#[_,U,_,U,_,U,_,U,_,U,_,U,p,t,pe,pt,pr,pk,.ref a2,m,L,ys,ws,y,ts,rs,ks,ls,kv,U,ct.mono (cu.trans bC),bC _ _ ca,bC _ _ an,hE.mono bC,bC _ _ (s4 _ _ bU),b0.mono (s4.trans bC),O,#[a2,cc,U,bC _ _ (s4 _ _ (s3 _ _ (s2 _ _ cd))),lj (e4.mono bC)],k3,λb H7 s7 v=>?_];let ci:((lA y ks m).map V.int)[L]?=Z (.int (wT y ks L)):=by rw[HN,oF N];rfl
   let eb:V.bl b=V.bl (decide (V.int (wT y ks L)=V.int fl)):=by
    let q:=v.trans (O.kept hn r L).2
    cases b with
    |true=>rw[Ni (congrArg V.int (q.mp U))]
    |false=>rw[My (λz=>by cases q.mpr (V.int.inj z))]
   refine#[_,U,_,U,qc,_,_,_,U,U,SqL.of (s7 _ _ (s6 _ _ cv)),ax ci,_,U,U,U,_,U,qT eb #[_,U,s6.trans s7]]
  .rintro M H6 ⟨b8,rfl,s6⟩;show D0.rt (.bl true) H6;rw[er];exact kk _
 let cs dg dH:=EB ns 2 10;refine#[_,U,_,U,_,U,a,_,U,hS,λb v=>?_];let sb:=ai v (.lst (cs.map V.int));rw[show cutV (ns.map V.int) (Z 2) (Z 10)=cs.map V.int from dg];refine#[b,6,cs,U,SqL.of af,by ac_rfl,∅,λt pe pt pr m y ts rg H1 s1 ht ⟨⟨ys,xs,zs,C⟩,g,part⟩ e0 el mP=>?_]
 let cK:=sb.trans s1;refine#[_,U,a,0,ns,U,cK.seq hS,t,pe,pt,pr,_,m,y,ts,rg,U,ht,#[#[ys,C.he,C.en],#[xs,C.ht,C.rx.off],g],#[zs,C.hr,C.rz.off],part,g.two e0,by ac_rfl,λt' ce cy cB es' ts' l s2 a7 wp dU=>?_]
 let dh:=cK.trans s2;let{cQ cT di}{dV dD d0}g':=id wp;let dn:cQ.length=es'.length:=di.1;refine#[_,U,_,U,t',_,0,_,U,U,SqT.of a7,at30,ce,cQ,U,.inl (SqL.of cT),_,_,U,U,#[by decide,∅,by decide],_,_,U,U,(by show 3<=Mz;decide),λlm dp=>?_]
 let sl:=ai dp (.lst [V.int 2,V.int 4,V.int (10^(30:Int).toNat+1)]);let cU:=dh.trans sl;refine#[a,lm,es'.length,ns,[2,4,10^(30:Int).toNat+1],(by rw[dn];rfl),cU.seq hS,cF,SqL.of af,∅,∅,λx J=>?_,by ac_rfl,by ac_rfl,λpk ws ks H4 s4 am tk kl kb=>?_]
 .obtain z|z:=HQ.mp J
  .rw[z];decide
  .obtain z|z:=HQ.mp z
   .rw[z];decide
   .rw[Ih.mp z];exact#[by decide,IT _]
 let aT:=sl.trans s4;let dq:=cU.trans s4;let mE:m<=10:=by ac_rfl
 refine#[_,U,_,U,t',ce,cy,cB,pk,m,es',ts',ks,U,aT _ _ a7,wp.mono aT,#[ws,am,tk],by ac_rfl,kl,by ac_rfl,λp rs H6 s6 wf=>?_]
 let cW:=dq.trans s6;let be:∀ k∈ks,k.1=0∨k.1=1:=λk D=>by
  let i N:=II D;exact(tk.2 i k N).1
 let dr:∀ k∈ks,0<=k.2/\k.2<=10^(30:Int).toNat:=λk D=>by
  let i N:=II D;exact#[(tk.2 i k N).2.1,kb k D]
 let ls O:=wf.oth g' kl dr (g.two e0) (by ac_rfl)
 let cnt:=jT O.g O.ro;let m2:=O.m2;let lw:Lw TT PL PS WC H6 t' pk p m es' ts' rs ks ls:=#[#[#[_,wf],O,be,by ac_rfl,by ac_rfl,KF.tb_same tb cW],#[ce,cy,cB,s6 _ _ (aT _ _ a7),wp.mono (aT.trans s6)],#[ws,s6 _ _ am,tk.mono s6],mE]
 let c7:=cW.seq hS;let dx fs q1 d1 B wg _:=id wf;let q5 z5 l5 ap r5:=wg.rounds;let cp:z5.length=rs.length:=r5.1;let n0 n1:(0:Int)<((2^rs.length:Nat):Int)/\rs.length<=9:=#[Int.natCast_pos.mpr (Js _),by ac_rfl]
 refine#[(by show 0<=Mz;exact Iz _),λsq da=>?_]
 let s7:=ai da (.lst []);refine#[_,U,a,U,#[_,s7.seq c7],bI (K:=K) (xs:=ns.map V.int) (λi M H8=>∃(v5:Option V)(bv:List V)(kv:List (Nat×Nat)),M=[Z (.ref a),Z (.ref t'),Z (.ref pk),Z (.ref p),Z (.ref sq),v5,none,none,none,none,none,none,none]/\Same H6 H8/\H8 sq=Z (.lst bv)/\cM H8 bv kv/\kv.length=i) #[_,[],[],U,s7,af,#[U,λi e z=>by simp at z],U] (λi M H8 _ al=>by let _ _ _ _ z _:=al;exact z.seq c7) ?_ ?_]
 .rintro i x M H8 J ⟨v5,bv,kv,rfl,s8,bP,e8,cD⟩;let N:=(HB.mp J).1;rw[HD]at N;rw[HN]at J;let c hc rfl:=HV.mp J;let co:(1:Int)*2^((z5.length:Int)).toNat=((2^rs.length:Nat):Int):=by rw[cp];exact shlN _
  let x1 ds:∃ x:Nat,c%((2^rs.length:Nat):Int)=(x:Int):=#[_,(Jm (Jy _ (by ac_rfl))).symm]
  let j3 dt d2:∃ j:Nat,c%3=(j:Int)/\j<3:=#[(c%3).toNat,by ac_rfl,by ac_rfl]
  let d3 bJ dv:∃ d:Int,[V.int 2,V.int 7,V.int (10^(31:Int).toNat)][j3]?=Z (.int d)/\0<d:=by
   rcases(show j3=0∨j3=1∨j3=2 by ac_rfl)with z|z|z
   .exact#[2,by rw[z];rfl,by decide]
   .exact#[7,by rw[z];rfl,by decide]
   .exact#[10^(31:Int).toNat,by rw[z];rfl,by decide]
  refine#[_,U,.inl #[U,_,SqL.of bP],_,U,_,U,p,WC,dx,fs,_,U,s8 _ _ B,cw.cl,cw.n4,l5,q5,z5,U,.inl (SqL.of (s8 _ _ ap)),_,_,U,U,#[by ac_rfl,by ac_rfl,by decide],?_]
  dsimp only;rw[co];refine#[_,_,U,U,n0,_,U,_,_,U,U,#[by decide,by decide],_,_,U,U,#[by decide,∅,by decide],(by show 3<=Mz;decide),λlq dw=>?_]
  let s9:=ai dw (.lst [V.int 2,V.int 7,V.int (10^(31:Int).toNat)]);refine#[_,U,_,_,U,U,(by show(0:Int)<3;decide),lq,_,_,_,U,U,SqL.of af,(by rw[dt];exact ax bJ),_,_,U,U,dv,_,_,U,U,(by show 2<=Mz;decide),λtq dy=>?_]
  let x2 ba:∃ x:Nat,1+c/7%d3=(x:Int):=#[(1+c/7%d3).toNat,(Jm (by let:=Jy (c/7) (show d3≠0 by ac_rfl);ac_rfl)).symm]
  let a5:=s9.trans (ai dy (.tup [.int (c%((2^rs.length:Nat):Int)),.int (1+c/7%d3)]));let dz:bv.length=kv.length:=e8.1;refine#[sq,_,_,U,U,a5 _ _ bP,aq (by ac_rfl),?_]
  refine#[_,_,kv++[(x1,x2)],U,aH (s8.trans a5) da _,af,((e8.mono a5).snoc (e:=(x1,x2)) ?_).put (a5 _ _ bP),by rw[HJ,cD];rfl]
  show _=Z (HO.tup [.int (x1:Int),.int (x2:Int)]);rw[← ds,← ba];exact af
 rintro M H8 ⟨v5,bv,kv,rfl,s8,bP,e8,cD⟩;let dz:bv.length=kv.length:=e8.1;rw[HD]at cD;refine#[_,U,sq,_,U,.inl (SqL.of bP),λhq cq=>?_];let s9:=ai cq (.lst bv);let db:=s8.trans s9;refine#[_,U,_,U,p,.ref hq,m,es',ts',rs,ks,ls,kv,U,wf.s.mono db,O,#[hq,bv,U,af,lj (e8.mono s9)],by ac_rfl,λck a5=>?_]
 let ch:=db.trans a5;let bS:=e8.mono (s9.trans a5);refine#[_,U,_,U,_,U,iteF ?_];refine#[_,U,_,U,_,U,_,U,p,pk,.ref sq,m,ws,es',ts',rs,ks,ls,kv,U,wf.s.mono ch,(s6.trans ch) _ _ am,tk.mono (s6.trans ch),O,#[sq,bv,U,a5 _ _ (s9 _ _ bP),lj bS],by ac_rfl,λbR bb=>?_]
 let bZ:=ch.trans bb;refine#[U,_,U,qT U ?_];refine#[_,U,_,U,_,rj (SqL.of (bb _ _ (a5 _ _ af))) (bS.mono bb),rj (SqL.of (bb _ _ (a5 _ _ (s9 _ _ bP)))) (bS.mono bb),oy _,_,U,iteF ?_];exact#[t',pk,p,m,es',ts',rs,ks,ls,_,_,_,_,_,U,#[lw.wl.mono bZ,#[ce,cy,cB,bZ _ _ (s6 _ _ (aT _ _ a7)),wp.mono ((aT.trans s6).trans bZ)],#[ws,bZ _ _ (s6 _ _ am),tk.mono (s6.trans bZ)],mE],U,kk]
open KF (m7 i8 iy mX qk xP xN Df du gC bN gB mY kE kJ kK mZ qq gA)
structure GF(K:HE)(x:Str)(st:Stmt)(f:Addr)(fd:FuncData):Prop where
 a:ID K MB x=Z (Z (.ref f))
 F:Fun K x x st f fd
structure Wr(P:Program)(w:World)(K:HE)(mg:Str->Option Value)(base:Heap):Prop where
 g:∀{x:Str}{v:Value},ID K MB x=Z (Z v)->mg x=Z v
section
variable{P:Program}{w:World}{K:HE}{mg:Str->Option Value}{base:Heap}{x p p2 p3 p4 p5 p6:Str}{ps:List Str}{st:Stmt}{f:Addr}{fd:FuncData}{k:Nat}{sp:Sp}
def Bn(x:Str)(st:Stmt)(us:List Value)(r:List (Str×Value)):Prop:=∀ kV M L d Y l,bindArgs (Ju x x (de st) (cf st) (ar st) .none kV M L d Y l) #[us,[]]=pure r
theorem GF.b(g:GF K x st f fd)(h:∀ us:List Value,us.length=ps.length->Bn x st us (ps.zip us)):fe K fd ps []:=g.F.binds λkV M L d Y l us G=>h us G kV M L d Y l
theorem Wr.c(W:Wr P w K mg base)(g:GF K x st f fd)(b:fe K fd ps [])(o:FnOk P w K mg base CX0 k f fd ps sp):Cal P w K mg base k x ps sp f fd:=#[o,b,W.g g.a,g.F.kp]
theorem Wr.c0(W:Wr P w K mg base)(g:GF K x st f fd)(o:FnOk P w K mg base CX0 k f fd [] sp)(h:Bn x st [] []:=by intros _ _ _ _ _ _;rfl):Cal P w K mg base k x [] sp f fd:=W.c g (g.b λi l=>match i,l with | [],_=>h) o
theorem GF.b1(g:GF K x st f fd)(h:∀ u,Bn x st [u] [(p,u)]):fe K fd [p] []:=g.b λi l=>by let _ rfl:=GU l;exact h _
theorem GF.b2(g:GF K x st f fd)(h:∀ u v,Bn x st [u,v] [(p,u),(p2,v)]):fe K fd [p,p2] []:=g.b λi l=>by let _ _ rfl:=len_2 l;exact h _ _
theorem GF.b3(g:GF K x st f fd)(h:∀ u v y,Bn x st [u,v,y] [(p,u),(p2,v),(p3,y)]):fe K fd [p,p2,p3] []:=g.b λi l=>by let _ _ _ rfl:=len_3 l;exact h _ _ _
theorem GF.b4(g:GF K x st f fd)(h:∀ u v y z,Bn x st [u,v,y,z] [(p,u),(p2,v),(p3,y),(p4,z)]):fe K fd [p,p2,p3,p4] []:=g.b λi l=>by let _ _ _ _ rfl:=GQ l;exact h _ _ _ _
theorem GF.b5(g:GF K x st f fd)(h:∀ u v y z t,Bn x st [u,v,y,z,t] [(p,u),(p2,v),(p3,y),(p4,z),(p5,t)]):fe K fd [p,p2,p3,p4,p5] []:=g.b λi l=>by let _ _ _ _ _ rfl:=len_5 l;exact h _ _ _ _ _
theorem GF.b6(g:GF K x st f fd)(h:∀ u v y z t r,Bn x st [u,v,y,z,t,r] [(p,u),(p2,v),(p3,y),(p4,z),(p5,t),(p6,r)]):fe K fd [p,p2,p3,p4,p5,p6] []:=g.b λi l=>match i,l with | [_,_,_,_,_,_],_=>h _ _ _ _ _ _
theorem Wr.c1(W:Wr P w K mg base)(g:GF K x st f fd)(o:FnOk P w K mg base CX0 k f fd [p] sp)(h:∀ u,Bn x st [u] [(p,u)]:=by intros _ _ _ _ _ _ _;rfl):Cal P w K mg base k x [p] sp f fd:=W.c g (g.b1 h) o
theorem Wr.c2(W:Wr P w K mg base)(g:GF K x st f fd)(o:FnOk P w K mg base CX0 k f fd [p,p2] sp)(h:∀ u v,Bn x st [u,v] [(p,u),(p2,v)]:=by intros _ _ _ _ _ _ _ _;rfl):Cal P w K mg base k x [p,p2] sp f fd:=W.c g (g.b2 h) o
theorem Wr.c3(W:Wr P w K mg base)(g:GF K x st f fd)(o:FnOk P w K mg base CX0 k f fd [p,p2,p3] sp)(h:∀ u v y,Bn x st [u,v,y] [(p,u),(p2,v),(p3,y)]:=by intros _ _ _ _ _ _ _ _ _;rfl):Cal P w K mg base k x [p,p2,p3] sp f fd:=W.c g (g.b3 h) o
theorem Wr.c4(W:Wr P w K mg base)(g:GF K x st f fd)(o:FnOk P w K mg base CX0 k f fd [p,p2,p3,p4] sp)(h:∀ u v y z,Bn x st [u,v,y,z] [(p,u),(p2,v),(p3,y),(p4,z)]:=by intros _ _ _ _ _ _ _ _ _ _;rfl):Cal P w K mg base k x [p,p2,p3,p4] sp f fd:=W.c g (g.b4 h) o
theorem Wr.c5(W:Wr P w K mg base)(g:GF K x st f fd)(o:FnOk P w K mg base CX0 k f fd [p,p2,p3,p4,p5] sp)(h:∀ u v y z t,Bn x st [u,v,y,z,t] [(p,u),(p2,v),(p3,y),(p4,z),(p5,t)]:=by intros _ _ _ _ _ _ _ _ _ _ _;rfl):Cal P w K mg base k x [p,p2,p3,p4,p5] sp f fd:=W.c g (g.b5 h) o
theorem Wr.c6(W:Wr P w K mg base)(g:GF K x st f fd)(o:FnOk P w K mg base CX0 k f fd [p,p2,p3,p4,p5,p6] sp)(h:∀ u v y z t r,Bn x st [u,v,y,z,t,r] [(p,u),(p2,v),(p3,y),(p4,z),(p5,t),(p6,r)]:=by intros _ _ _ _ _ _ _ _ _ _ _ _;rfl):Cal P w K mg base k x [p,p2,p3,p4,p5,p6] sp f fd:=W.c g (g.b6 h) o
end
theorem CU{c T:Addr}{g:Value}{b d:Option Addr}{h i:Array (Option Value)}{vs:Array Value}(a:ID K MB x=Z (Z (.ref f)))(l:K.lookup f=Z #[u,b,.func fd,h])(e:fd.code=.ref c)(j:K.lookup c=Z #[g,d,.fields vs,i])(v:vs[11]?=Z (.ref T)):Km K x=Z (c,T):=by
 unfold Km;rw[a];simp only[l,e,j,v]
theorem all_mk{l:L8}{w:World}{K:HE}{h:Heap}{mg:Str->Option Value}{E bT bS ig N O aI BN BM Ek yZ rh Ef G8 oU wo iR vS Eh BL BR vR Eg Ei tU q9 vU BS Ej Hd yY yX G9 tS bC gj bQ eZ Q BO ze tT vQ yW rf oS oq cG zd y9 BQ y7 wj vZ mR wc BP vV wm tV vY vX y8 Hc:Addr}{cT TT:Addr}{oT:Value}{dT:Option Addr}{vT:Array Value}{f:Array (Option Value)}(X:K.In h)(G:h.Ns MB mg) (q:mg "law"=Z (.ref E))
  {DP EI qJ rV vo xt qI rU sS uC qH rT Y Fw:Option Addr} {CZ pZ uP pY se pX aa:Array (Option Value)} {DQ D3 Er Dk rN ED qM qS rC qA lE rL vp vH wD vf oI wX qL qR rB qz lD rK sU tJ tW sN mH ug qK qQ rA qy lC rJ ab Fi Fn Fb Ct Fp:Value}
  {B C:Tok}
  {ac al aT Cd Cc Ey zv Es Hh oX wV oB wH Eu Cb Ci wG Et Ew ud rE wI Ck Ex Hk zt zr Hj tZ am Ce zD uc wF zo rF oW oA zC zz Cg zx wR wO mT wQ Cf wJ wU uf wN wK zy:FuncData}
  (xw:ID K MB "Pull"=Z (Z (.ref bT)))
  (xu:ID K MB "Push"=Z (Z (.ref bS)))
  (CB:ID K MB "Web"=Z (Z (.ref ig)))
  (iI:Iv K (.ref bT) "__init__"=Z (Z (.ref bC)))
  (iH:Iv K (.ref bT) "wish"=Z (Z (.ref gj)))
  (fV:Iv K (.ref bT) "across"=Z (Z (.ref bQ)))
  (iG:Iv K (.ref bS) "__init__"=Z (Z (.ref bC)))
  (iF:Iv K (.ref bS) "wish"=Z (Z (.ref eZ)))
  (fU:Iv K (.ref bS) "across"=Z (Z (.ref bQ)))
  (j9:Iv K (.ref ig) "__init__"=Z (Z (.ref cG)))
  (yi:GF K "bits" xP N ac)
  (yg:GF K "ones" xN O al)
  (Ec:GF K "odd" Df aI aT)
  (gf:GF K "mask_of" kH BN Cd)
  (kW:GF K "reached" kG BM Cc)
  (nB:GF K "beyond" m7 Ek Ey)
  (jq:GF K "links_at" i8 yZ zv)
  (ni:GF K "row_to" mX Ef Es)
  (qW:GF K "whole" qk G8 Hh)
  (dH:GF K "refuse_marks" du oU oX)
  (gZ:GF K "chosen_of" gC wo wV)
  (aW:GF K "laid_in_pairs" bN iR oB)
  (gN:GF K "new_table" gB vS wH)
  (nu:GF K "paired" mY Eh Eu)
  (kU:GF K "root_of" kE BL Cb)
  (k8:GF K "heights" kJ BR Ci)
  (gM:GF K "paid_over" gA vR wG)
  (nj:GF K "pushes" qm Eg Et)
  (nz:GF K "odd_at" qo Ei Ew)
  (fB:GF K "odd_rounds" iu tU ud)
  (eI:GF K "refuse_ties" gy q9 rE)
  (gO:GF K "laying_of" jI vU wI)
  (lg:GF K "dryings" kK BS Ck)
  (nA:GF K "joined" mZ Ej Ex)
  (qY:GF K "hills" qq Hd Hk)
  (jo:GF K "links_of" lR yY zt)
  (jn:GF K "marks_of" lQ yX zr)
  (qX:GF K "least" uX G9 Hj)
  (fz:GF K "tight_ties" iq tS tZ)
  (yh:GF K "head" AB Q am)
  (kX:GF K "leaving" nO BO Ce)
  (jy:GF K "follower" lY ze zD)
  (fA:GF K "round_from" ir tT uc)
  (gL:GF K "rounds_of" jH vQ wF)
  (jj:GF K "sides_of" lP yW zo)
  (eJ:GF K "refuse_ends" gz rf rF)
  (dD:GF K "refuse_turns" fQ oS oW)
  (cU:GF K "refuse_parted" eR oq oA)
  (jx:GF K "_law_cell" lX zd zC)
  (jv:GF K "_law_head" lV y9 zz)
  (kZ:GF K "_law_put" nQ BQ Cg)
  (jr:GF K "_law_step" lT y7 zx)
  (gX:GF K "_law_grown" jQ wj wR)
  (gU:GF K "_law_order" jM vZ wO)
  (bZ:GF K "_law_renumbered" d6 mR mT)
  (gW:GF K "_law_kinds" jO wc wQ)
  (kY:GF K "_law_web" nP BP Cf)
  (gP:GF K "_law_worth" jJ vV wJ)
  (gY:GF K "_law_costs" jR wm wU)
  (fF:GF K "_law_number" iw tV uf)
  (gR:GF K "_law_parts" jL vY wN)
  (gQ:GF K "_law_tight" jK vX wK)
  (jt:GF K "_law_kept" lU y8 zy)
  (oM:ID K MB "fares"=Z (Z (.ref rh)))
  (qO:K.lookup rh=Z #[DQ,DP,.func (Ju "fares" "fares" (de iy) (cf iy) (ar iy) .none D3 Er Dk EI rN ED),CZ])
  (xj:JJ K rN "fares"=true)
  (qP:IY K (.ref rh)=true)
  (iM:K.lookup bC=Z #[qM,qJ,.func (Ju "__init__" "Tie.__init__" (de cC) (cf cC) (ar cC) .none qS rC qA rV lE rL),pZ])
  (iX:JJ K lE "Tie.__init__"=true)
  (iO:IY K (.ref bC)=true)
  (fy:Kt K (.ref bC)=true)
  (l8:K.lookup gj=Z #[vp,vo,.func (Ju "wish" "Tie.wish" (de eM) (cf eM) (ar eM) .none vH wD vf xt oI wX),uP])
  (ml:JJ K oI "Tie.wish"=true)
  (jh:IY K (.ref gj)=true)
  (ma:Kt K (.ref gj)=true)
  (iL:K.lookup bQ=Z #[qL,qI,.func (Ju "across" "Tie.across" (de cA) (cf cA) (ar cA) .none qR rB qz rU lD rK),pY])
  (iW:JJ K lD "Tie.across"=true)
  (dU:IY K (.ref bQ)=true)
  (fx:Kt K (.ref bQ)=true)
  (ka:K.lookup eZ=Z #[sU,sS,.func (Ju "wish" "Push.wish" (de c9) (cf c9) (ar c9) .none tJ tW sN uC mH ug),se])
  (ko:JJ K mH "Push.wish"=true)
  (gK:IY K (.ref eZ)=true)
  (kd:Kt K (.ref eZ)=true)
  (iK:K.lookup cG=Z #[qK,qH,.func (Ju "__init__" "Web.__init__" (de cz) (cf cz) (ar cz) .none qQ rA qy rT lC rJ),pX])
  (iU:JJ K lC "Web.__init__"=true)
  (iN:IY K (.ref cG)=true)
  (iQ:Kt K (.ref cG)=true)
  (EK:ID K MB "law"=Z (Z (.ref Hc)))
  (GW:K.lookup Hc=Z #[ab,Y,.func (Ju "law" "law" (de qp) (cf qp) (ar qp) .none Fi Fn Fb Fw Ct Fp),aa])
  (Hr:JJ K Ct "law"=true)
  (GY:IY K (.ref Hc)=true)
  (vh:Kb K bT Str.empty=true)
  (vL:Ko K bT=true)
  (ve:Kx K bT=true)
  (uW:Iv K (.ref bT) "__setattr__"=Z (Z (.builtin "object.__setattr__")))
  (vA:KN K bT=true)
  (vF:IY K (.ref bT)=true)
  (j8:Iv K (.ref bT) "one"=Z none)
  (j7:Iv K (.ref bT) "two"=Z none)
  (eu:Iv K (.ref bT) "strength"=Z none)
  (vg:Kb K bS Str.empty=true)
  (vK:Ko K bS=true)
  (vd:Kx K bS=true)
  (uV:Iv K (.ref bS) "__setattr__"=Z (Z (.builtin "object.__setattr__")))
  (vz:KN K bS=true)
  (vE:IY K (.ref bS)=true)
  (j6:Iv K (.ref bS) "one"=Z none)
  (j5:Iv K (.ref bS) "two"=Z none)
  (eh:Iv K (.ref bS) "strength"=Z none)
  (AO:Kb K ig Str.empty=true)
  (BF:Ko K ig=true)
  (AL:Kx K ig=true)
  (AA:Iv K (.ref ig) "__setattr__"=Z (Z (.builtin "object.__setattr__")))
  (Bb:KN K ig=true)
  (Bq:IY K (.ref ig)=true)
  (j4:Iv K (.ref ig) "many"=Z none)
  (j0:Iv K (.ref ig) "ties"=Z none)
  (iD:Iv K (.ref ig) "turns"=Z none)
  (gG:Iv K (.ref ig) "rounds"=Z none)
  (iE:Iv K (.ref ig) "sides"=Z none)
  (vM:ID K MB "MOST_MARKS"=Z (Z (.int 14 B)))
  (vN:ID K MB "MOST_ODD"=Z (Z (.int 12 C)))
  (FE:ID K MB "len"=Z none)
  (FF:ID K MB "int"=Z none)
  (zT:ID K MB "bool"=Z none)
  (zR:ID K MB "list"=Z none)
  (uE:ID K MB "tuple"=Z none)
  (uF:ID K MB "range"=Z none)
  (jF:ID K MB "enumerate"=Z none)
  (ij:ID K MB "isinstance"=Z none)
  (FC:ID K MB "min"=Z none)
  (Fz:ID K MB "sum"=Z none)
  (pM:ID K MB "sorted"=Z none)
  (FD:ID K MB "max"=Z none)
  (Fy:ID K MB "zip"=Z none)
  (FG:ID K MB "abs"=Z none)
  (zS:ID K MB "dict"=Z none)
  (lK:ID K MB "reversed"=Z none)
  (FA:ID K MB "set"=Z none)
  (tbc:rN=.ref cT) (tbl:K.lookup cT=Z #[oT,dT,.fields vT,f]) (tbv:vT[11]?=Z (.ref TT)) (tbn:K.lookup TT=none)
  : ∃ fd:FuncData,(∀(s:Shared)(v:Value),BindsTo s fd #[[v],[]] [("script",v)])/\∃ c T,Km K "fares"=Z (c,T)/\K.lookup T=none/\∀ base:Heap,K.In base->base.Ns MB mg->Kd base c T->Bm mg base->FnOk l.prog w K mg base CX0 14 E fd ["script"] (xH K T):=by
 let a5:=CU oM qO tbc tbl tbv;let e:=q.symm.trans (JZ X G EK)
 cases e
 let CI:=fun_mk (st:=iy) qO xj qP;let Hv:=CI.binds (ps:=["many","links","start"]) λ_ _ _ _ _ _ i j=>by let u J I rfl:=len_3 j;rfl
 let mM:=fun_mk (st:=cC) iM iX iO;let mJ:=mM.binds (ps:=["self","one","two","strength"]) λ_ _ _ _ _ _ i j=>by let u J I x3 rfl:=GQ j;rfl
 let pL:=fun_mk (st:=eM) l8 ml jh;let zM:=pL.binds (ps:=["self"]) λ_ _ _ _ _ _ i j=>by let u rfl:=GU j;rfl
 let i4:=fun_mk (st:=cA) iL iW dU;let mI:=i4.binds (ps:=["self","place"]) λ_ _ _ _ _ _ i j=>by let u J rfl:=len_2 j;rfl
 let oP:=fun_mk (st:=c9) ka ko gK;let xq:=oP.binds (ps:=["self"]) λ_ _ _ _ _ _ i j=>by let u rfl:=GU j;rfl
 let mL:=fun_mk (st:=cz) iK iU iN;let uB:=mL.binds (ps:=["self","many","ties","turns"]) λ_ _ _ _ _ _ i j=>by let u J I x3 rfl:=GQ j;rfl
 let a0:=fun_mk (st:=qp) GW Hr GY;refine#[Ju "law" "law" (de qp) (cf qp) (ar qp) .none Fi Fn Fb Fw Ct Fp,λs v=>.of_eq U,cT,TT,a5,tbn,λbase _ _ z A=>?_];let GP:=JZ X G oM;let bK:=JZ X G EK;let an:=JZ X G xw;let ap:=JZ X G xu;let a1:=JZ X G CB;let a6:=JZ X G vM;let modd:=JZ X G vN;let H:=IH X G FE;let L:=IH X G FF;let x:=IH X G zT;let p:=IH X G zR;let r:=IH X G uE;let t:=IH X G uF;let n:=IH X G jF;let k:=IH X G ij;let M:=IH X G FC;let n_sum:=IH X G Fz;let n_sorted:=IH X G pM;let n_max:=IH X G FD;let n_zip:=IH X G Fy;let a2:=IH X G FG;let bJ:=IH X G zS;let n_reversed:=IH X G lK;let n_set:=IH X G FA;let W:Wr l.prog w K mg base:=#[λe=>JZ X G e];let o:CT K bT:=#[#[vh,vL,ve,uW],j8,j7,eu];let TS:CT K bS:=#[#[vg,vK,vd,uV],j6,j5,eh];let d:CW K ig:=#[#[AO,BF,AL,AA],j4,j0,iD,gG,iE];let T:Txt mg:=#[H,L,x,p,r,t,n,k,M,n_sum,n_sorted];let GI:FnOk l.prog w K mg base CX0 1 bC _ _ (oY K):=Gz mM;let ML:Mak l.prog w K mg base 1 "Pull" _ (oY K) bT bC _:=#[#[vA,iI,fy,vF],GI,mJ,an];let MS:Mak l.prog w K mg base 1 "Push" _ (oY K) bS bC _:=#[#[vz,iG,fy,vE],GI,mJ,ap];let Gh:=W.c2 yh (GA yh.F);let Gl:=W.c3 kX (yK kX.F);let Gf:=W.c3 jy (vm jy.F T Gh Gl);let Gr:=W.c3 fA (GB fA.F Gf);let GR:=W.c2 gL (A4 gL.F T Gr);let GS:=W.c2 jj (DB jj.F T);let wL:Met l.prog w K mg base 1 bT "wish" _ (mv false) gj _:=#[#[iH,ma,jh],Dz pL,zM];let wS:Met l.prog w K mg base 1 bS "wish" _ (mv true) eZ _:=#[#[iF,kd,gK],Dy oP,xq];let Gm:=W.c1 (sp:=(mw K)) gf (KF.ok_mask gf.F);let Gp:=W.c1 nj (Gv nj.F T d o TS Gm wL wS);let Go:=W.c3 (sp:=(pT bT bS ig)) nz (DG nz.F T d);let Gq:=W.c1 fB (Gw fB.F T d Gm Gp Go);let kT:KF.Txt mg:=#[H,L,x,p,r,t,M,a2,n,k];let a7:=W.c2 nB (KF.ok_bey nB.F);let bP:=W.c2 jq (KF.ok_at jq.F kT);let ba:Cal l.prog w K mg base 2 "fares" _ (KF.spFares TT) rh _:=#[KF.ok_fares CI kT a5 oM z A bP a7,Hv,GP,qP];let bb:=W.c2 kW (KF.ok_reached kW.F);let R1:=W.c2 eJ (DD eJ.F);let R2:=W.c3 dD (A3 dD.F T);let R3:=W.c2 cU (DC cU.F bb);let WI:FnOk l.prog w K mg base CX0 5 cG _ _ (pS K):=DA mL T R1 R2 R3 GR GS;let MW:Mak l.prog w K mg base 5 "Web" _ (pS K) ig cG _:=#[#[Bb,j9,iQ,Bq],WI,uB,a1];let Gc:=W.c2 jx (GC jx.F T);let L1:=W.c2 jv (DJ jv.F);let L5:=W.c2 gU (DF gU.F T);let bR:=W.c2 qW (KF.ok_whl qW.F bb);let bU:=W.c3 ni (KF.ok_row ni.F #[p,n_reversed] a7);let y:=W.c1 yi (KF.ok_bits yi.F);let a3:=W.c1 yg (KF.ok_ones yg.F kT y);let b0:=W.c1 Ec (KF.ok_odd Ec.F a3);let b7:=W.c1 gf (KF.ok_mask gf.F);let be:=W.c3 dH (KF.ok_ref dH.F #[#[_,a6]] b0 bR a3);let bf:=W.c2 gZ (KF.ok_chosen gZ.F);let bi:=W.c0 gN (KF.ok_table gN.F);let bm:∀(D:Nat->Nat->Int)(m:Nat),(∀ a b,D a b=D b a)->Cal l.prog w K mg base 10 "laid_in_pairs" _ (KF.spLaid D m 8) iR _:=λD m sy=>#[KF.ok_laid sy aW.F kT y (aW.b3 λ_ _ _=>by intros _ _ _ _ _ _;rfl) (W.g aW.a) aW.F.kp 8,(aW.b3 λ_ _ _=>by intros _ _ _ _ _ _;rfl),(W.g aW.a),aW.F.kp]
 let b8:=W.c3 nu (KF.ok_paired nu.F kT be y ba bf bi bm b7 bU);let bn:KF.TxtZ mg:={kT with n_zip:=n_zip};let a4:KF.TxtH mg:={bn with n_reversed:=n_reversed,n_sorted:=n_sorted,n_set:=n_set};let bv:=W.c1 kU (KF.ok_root kU.F y);let ca:=W.c3 k8 (KF.ok_hts k8.F bn be y ba bf bi bm bv);let cb:=W.c2 lg (KF.ok_dry lg.F a4);let cc:=W.c2 nA (KF.ok_join nA.F kT y);let cd:=W.c3 qY (KF.ok_hills qY.F a4 ca cb bv cc);let ce:KF.TxtE mg:={a4 with n_sum:=n_sum};let ch:=W.c2 gM (KF.ok_paid gM.F ce);let TO:TxtO mg:={T with n_zip:=n_zip,modd:=#[_,modd]};let TZ:TxtZ mg:={T with n_zip:=n_zip};let ci:=W.c1 jn (DH jn.F TO Gq a3);let bB:=W.c1 jo (DI jo.F TZ d o TS);let TM:TxtM mg:={T with n_max:=n_max};let N1:=W.c4 kZ (ok_put kZ.F);let N2:=W.c5 jr (Gu jr.F T L1 N1);let N3:=W.c2 gX (DN gX.F N2);let N4:=W.c2 bZ (ok_ren bZ.F TM L5);let N5:=W.c3 gW (DM gW.F T Gc);let N6:=W.c2 kY (Gx kY.F T ML MS o TS MW d);let N7:=W.c1 fF (A5 fF.F T);let N8:=W.c3 gP (Dx gP.F T);let N9:=W.c2 gY (DO gY.F T N8);let aL:Met l.prog w K mg base 1 bT "across" _ (kr bT) bQ _:=#[#[fV,fx,dU],sR i4 o,mI];let aS:Met l.prog w K mg base 1 bS "across" _ (kr bS) bQ _:=#[#[fU,fx,dU],sR i4 TS,mI];let M1:=W.c2 eI (ok_rt eI.F T d Gp Go);let M2:=W.c2 gO (ok_lo gO.F T d o TS M1 Gm aL aS wL wS);let M3:=W.c1 (sp:=(uN TT bT bS ig)) qX (DK qX.F TO d ci bB b8 M2 cd);let Q1:=W.c2 fz (ok_tt fz.F T bB ch Gm);let Q2:=W.c2 gR (DE gR.F);let Q3:=W.c3 (sp:=(spLT bT bS ig)) gQ (ok_lt gQ.F T d Q2);let Q4:=W.c6 (sp:=(Aq bT bS ig)) jt (Gy jt.F T d Q2);exact ok_law a0 T d N3 N4 Gc N5 N9 N6 M3 Q1 N7 Q3 Q4
theorem walk{l:L8}{q:Program}{Q:List Str}{H:(Str->Option Value)->Heap->Prop}{m:World->Heap->Prop}{d:DefRec}{K:Params->HE}(N:l.most=some 63)(g:d.params.defaults=[])(b:∀(w:World)(h:Heap),m w h->(K w.params).In h)(C:((PyProof.Rows.recsOf q).find? (λe=>e.name == ("fares" : Str))).isSome=true)(F:∀(w:World)(mg:Str->Option Value)(E:Addr)(h:Heap),(K w.params).In h->h.Ns MB mg->mg d.name=some (.ref E) ->
   ∃ fd:FuncData,(∀(s:Shared)(u:Value),BindsTo s fd #[[u],[]] [("script",u)])/\∃ c T,Km (K w.params) "fares"=Z (c,T)/\(K w.params).lookup T=none/\∀ base:Heap,(K w.params).In base->base.Ns MB mg->Kd base c T->Bm mg base->FnOk l.prog w (K w.params) mg base CX0 14 E fd ["script"] (xH (K w.params) T)):
  PySem.W.WalkO q Q H m l.row.toRowW d [] (λf vs=>PySem.call f vs) :=
 L2.walk_ofT (n:=63) (k:=14) (x:="script") (CX:=CX0) (sp:=λK T=>xH K T) N ∅ g #[U,∅,by decide] b (Option.some_get C).symm F (λ_ _ _ a v G A M=>#[a,v,U,M,G,.inl A,λ_=>rfl]) λ_ _ _ _ z=>z
end K8
namespace PySem.W.Fast
def tw14509598464949872129:=Nat
def tw2282919826431725347:=Nat
def tw1031190176421395076:=Nat
def tw7516114457975736068:=Nat
def tw1917003409002464551:=Nat
def tw7098558774574435400:=Nat
def tw6790001036324891336:=Nat
def tw16751431024159197099:=Nat
def tw12415753735552058636:=Nat
def tw13735872831755575180:=Nat
def tw4297321411138984973:=Nat
def tw10494888037286540369:=Nat
def tw3780681780540724116:=Nat
def tw15845958871941091157:=Nat
def tw7837302076850017720:=Nat
def tw452322242681717400:=Nat
def tw2565572698582767512:=Nat
def tw3386109215125572220:=Nat
def tw18364554960698996604:=Nat
def tw7064544203453674237:=Nat
def tw2710023954407248896:=Nat
def tw14997653617142915104:=Nat
def tw4310951633243056256:=Nat
def tw16829626281111287040:=Nat
def tw13615153232051247392:=Nat
def tw10597499102977417504:=Nat
def tw5352150028707629472:=Nat
def tw15399566812480901824:=Nat
def tw5347167334202060608:=Nat
def tw3547678273685132160:=Nat
def tw3060539823860586432:=Nat
def tw9364458414303326144:=Nat
def tw2897914269808580544:=Nat
def tw37660051967427681:=Nat
def tw11084654101882434753:=Nat
def tw16640347380735510849:=Nat
def tw14923679276428904833:=Nat
def tw15663353059489555905:=Nat
def tw7041692641051520449:=Nat
def tw15593180267799855777:=Nat
def tw11992644346306285249:=Nat
def tw1504718874748100385:=Nat
def tw6074784181711130561:=Nat
def tw4787460010228445121:=Nat
def tw11513017059811250113:=Nat
def tw1297217524442110945:=Nat
def tw6748219884208579778:=Nat
def tw16729730111738801538:=Nat
def tw11862830829843688002:=Nat
def tw2717881619887538754:=Nat
def tw10214197052691684962:=Nat
def tw11261528637203354242:=Nat
def tw8553237985212518018:=Nat
def tw8829956383950722786:=Nat
def tw12423213033011060546:=Nat
def tw2326516293527663651:=Nat
def tw1718454184978093283:=Nat
def tw8270181116776341763:=Nat
def tw5356325413625594499:=Nat
def tw8498532692594629411:=Nat
def tw5616555402344038339:=Nat
def tw6637727110316904419:=Nat
def tw16220012768259710084:=Nat
def tw17547256754571766052:=Nat
def tw9582709727148870180:=Nat
def tw10735913161015581284:=Nat
def tw17984632323442684580:=Nat
def tw2036846197850272516:=Nat
def tw2510300154675996677:=Nat
def tw11352500662747243653:=Nat
def tw7527332444612985253:=Nat
def tw6980051828938918341:=Nat
def tw12465270778532957701:=Nat
def tw17389086917046060549:=Nat
def tw10239461328652974693:=Nat
def tw1152032884749512613:=Nat
def tw1274241646492493926:=Nat
def tw18350079801872494726:=Nat
def tw12066921437585817990:=Nat
def tw9502720708511557094:=Nat
def tw1775434189618017798:=Nat
def tw9821310285961215526:=Nat
def tw18374832163312911110:=Nat
def tw8898973823770949478:=Nat
def tw1500704059863318438:=Nat
def tw4238627225527554151:=Nat
def tw15236610544241220711:=Nat
def tw9675727777948199015:=Nat
def tw17403311406679247143:=Nat
def tw14215051270235446695:=Nat
def tw6136181682058267303:=Nat
def tw1672499766840646631:=Nat
def tw9439554107318978600:=Nat
def tw10267102876009668840:=Nat
def tw10508516526536411432:=Nat
def tw4325788951424172328:=Nat
def tw8744154671370751432:=Nat
def tw1140309407002671592:=Nat
def tw10211055016986507880:=Nat
def tw1572570826086043272:=Nat
def tw12701473986607204040:=Nat
def tw9403352884763178888:=Nat
def tw10164155186139283465:=Nat
def tw13395617221445031049:=Nat
def tw1785456251178054793:=Nat
def tw15610130097889541257:=Nat
def tw14783320257404714185:=Nat
def tw6206955112901976361:=Nat
def tw15656609717706589705:=Nat
def tw18258022231406203497:=Nat
def tw10260859690332783241:=Nat
def tw11274197278388016873:=Nat
def tw1870559485463979018:=Nat
def tw7553173587449503914:=Nat
def tw5102470546762308874:=Nat
def tw4435711312979960170:=Nat
def tw7892252845974752842:=Nat
def tw16710344431418654314:=Nat
def tw17508073166197096106:=Nat
def tw15228485181887873738:=Nat
def tw1495669887205154602:=Nat
def tw12436456481940854666:=Nat
def tw14125325834667741098:=Nat
def tw15215711649015056330:=Nat
def tw1510050710332830666:=Nat
def tw7932648498646461451:=Nat
def tw11436403970647646411:=Nat
def tw14301823951558486411:=Nat
def tw14816253031544302155:=Nat
def tw1131008436958962283:=Nat
def tw12264244838289274603:=Nat
def tw6596897866153018155:=Nat
def tw9955338236671587179:=Nat
def tw7076709574373270411:=Nat
def tw9065590735532220460:=Nat
def tw6399385737110133868:=Nat
def tw2457912346439136524:=Nat
def tw16888710474855661836:=Nat
def tw2471548151745239500:=Nat
def tw3903359290957980108:=Nat
def tw10623043669862391308:=Nat
def tw14895970752125932108:=Nat
def tw6879718639184191116:=Nat
def tw12758552035346850572:=Nat
def tw6235052964627890956:=Nat
def tw6848918586087865357:=Nat
def tw7566803026660461613:=Nat
def tw10402170091132912717:=Nat
def tw6901199806082239629:=Nat
def tw11465908386342526125:=Nat
def tw13291071265767318925:=Nat
def tw14983189740770711949:=Nat
def tw4741816341701398957:=Nat
def tw7391185826245381613:=Nat
def tw14650942982140332653:=Nat
def tw4749472034317701805:=Nat
def tw14519521581595847790:=Nat
def tw2429887559241225390:=Nat
def tw17780664492466576654:=Nat
def tw15382525717986319694:=Nat
def tw14967841267503273326:=Nat
def tw9968439793875742222:=Nat
def tw12914699682841444974:=Nat
def tw2478556529816418958:=Nat
def tw6767294514514810798:=Nat
def tw12636806864519344175:=Nat
def tw2624976447688524975:=Nat
def tw8907948640252171471:=Nat
def tw945223039497330895:=Nat
def tw17297468826152451311:=Nat
def tw7923006790481602799:=Nat
def tw4476074315199855215:=Nat
def tw4247171610112923343:=Nat
def tw4735818444167364303:=Nat
def tw9358146768030411503:=Nat
def tw16813266268997902095:=Nat
def tw1439329288039580527:=Nat
def tw6402106842350919535:=Nat
def tw3981108111883607056:=Nat
def tw1207697669767552080:=Nat
def tw12459628214013673584:=Nat
def tw14665721477886475440:=Nat
def tw3748206647036259568:=Nat
def tw4488156444307444112:=Nat
def tw8797104774097783216:=Nat
def tw15841778945560174096:=Nat
def tw11261616859993129808:=Nat
def tw11067526047042230289:=Nat
def tw154896037676147857:=Nat
def tw11847698380142024849:=Nat
def tw13990963651686410481:=Nat
def tw14001892536372683057:=Nat
def tw16343093639917252369:=Nat
def tw1306988690307596113:=Nat
def tw14557062359933436785:=Nat
def tw234223854172813201:=Nat
def tw16126851700148817970:=Nat
def tw10769222301537422450:=Nat
def tw12125235696666548370:=Nat
def tw14402965165702464690:=Nat
def tw1899123060526893426:=Nat
def tw9214722146643538354:=Nat
def tw7068059342730572530:=Nat
def tw5711087031147373587:=Nat
def tw16267634214599325747:=Nat
def tw10520701513310319699:=Nat
def tw7389993035139295667:=Nat
def tw13587237874950542803:=Nat
def tw11029846499418384915:=Nat
def tw655009285225099795:=Nat
def tw15830725233495112531:=Nat
def tw6964007738868990867:=Nat
def tw15956213214538952659:=Nat
def tw15476757489422777331:=Nat
def tw3008379846745657748:=Nat
def tw16494621396781487604:=Nat
def tw6964250067486861844:=Nat
def tw4155508347854566100:=Nat
def tw8106135284739813364:=Nat
def tw1364284649741515189:=Nat
def tw9364014160631090805:=Nat
def tw11043858749638598389:=Nat
def tw6208308295363672981:=Nat
def tw6521227759871134709:=Nat
def tw7606830471370346518:=Nat
def tw18207815006434938934:=Nat
def tw2517699750595544182:=Nat
def tw15351950156156350614:=Nat
def tw16987402193862543606:=Nat
def tw7711486013903567126:=Nat
def tw6575577152790557078:=Nat
def tw3816770234593677942:=Nat
def tw14639314802586300406:=Nat
def tw8738436444377760855:=Nat
def tw16265344481092626775:=Nat
def tw9216771968160616823:=Nat
def tw10360519762093188727:=Nat
def tw7953646178709756727:=Nat
def tw6707970480470393687:=Nat
def tw11006969513748867096:=Nat
def tw3341697081637543032:=Nat
def tw18244837693297336440:=Nat
def tw1448215372262391128:=Nat
def tw14468495113027883480:=Nat
def tw16800765910762063416:=Nat
def tw3907353379458585144:=Nat
def tw6040024632022889048:=Nat
def tw5867893784418710200:=Nat
def tw15719949406791924504:=Nat
def tw632639831918713624:=Nat
def tw15129061634690538360:=Nat
def tw8165154091014554488:=Nat
def tw7865832510469902328:=Nat
def tw4412402333627855897:=Nat
def tw16521661187606380729:=Nat
def tw13273560408181133529:=Nat
def tw15330572737873146233:=Nat
def tw4214180408982194777:=Nat
def tw8949934031155904121:=Nat
def tw6200075408967335577:=Nat
def tw9068916023760978681:=Nat
def tw9011277264235455257:=Nat
def tw937063602284025785:=Nat
def tw8032336434326154233:=Nat
def tw18383777199466858618:=Nat
def tw15892703065950685690:=Nat
def tw10026332686065370746:=Nat
def tw4497594602189961050:=Nat
def tw2713405483427193722:=Nat
def tw6713164359154508762:=Nat
def tw17659214934134367355:=Nat
def tw16767590540905325723:=Nat
def tw5066396953399778491:=Nat
def tw5008552351942350139:=Nat
def tw1851031751953242619:=Nat
def tw3448432178025761467:=Nat
def tw2315580240128709499:=Nat
def tw6066363964811473148:=Nat
def tw14555414537213578876:=Nat
def tw10973662629495852700:=Nat
def tw5528891480118356860:=Nat
def tw15542686084676356028:=Nat
def tw2475492780632119517:=Nat
def tw17550192763642158333:=Nat
def tw17376144135440312605:=Nat
def tw14827961909741617469:=Nat
def tw1970613493087940925:=Nat
def tw10461959925414126909:=Nat
def tw7454702867683822013:=Nat
def tw719656215152462333:=Nat
def tw3646375986381624029:=Nat
def tw14517120918896816446:=Nat
def tw17318020479560010110:=Nat
def tw11743909528015864190:=Nat
def tw15033791909762860446:=Nat
def tw6643885911888732958:=Nat
def tw10576289978063912766:=Nat
def tw12879002626977532798:=Nat
def tw10036711146834137054:=Nat
def tw16985623275149954046:=Nat
def tw12170150005222253727:=Nat
def tw18375711326959716511:=Nat
def tw259143419189745919:=Nat
def tw9915732260836590015:=Nat
def tw14785783744546909663:=Nat
def tw14752848164959744607:=Nat
def tw13179681031113957023:=Nat
def tw15848431385554064031:=Nat
def tw2401950036638409599:=Nat
def tw12528790312679536511:=Nat
def tw4490718452630696863:=Nat
def tw14447738566877896826:=Nat
end PySem.W.Fast
open PySem PySem.W PyProof.Rows
set_option maxRecDepth 100000 in
set_option maxHeartbeats 0 in
theorem PySem.Challenge.cw_spinfloor_k38_whole_what_a_paper_leaves_holds : PySem.Challenge.rw_spinfloor_k38_whole_what_a_paper_leaves.Holds := by
 w_on;o_law;k_head;(case hw=>w_witness2);k_fill;refine K8.walk (l:=PySem.Challenge.rw_spinfloor_k38_whole_what_a_paper_leaves) rfl rfl (λw h Y=>PySem.W.km_in_of Y) ?R ?F;(case R=>kernel_rfl)
 case F =>
  intro w mg fa h KX G hmg;refine' K8.all_mk KX G hmg ?xw ?xu ?CB ?iI ?iH ?fV ?iG ?iF ?fU ?j9 ?yi ?yg ?Ec ?gf ?kW ?nB ?jq ?ni ?qW ?dH ?gZ ?aW ?gN ?nu ?kU ?k8 ?gM ?nj ?nz ?fB ?eI ?gO ?lg ?nA ?qY ?jo ?jn ?qX ?fz ?yh ?kX ?jy ?fA ?gL ?jj ?eJ ?dD ?cU ?jx ?jv ?kZ ?jr ?gX ?gU ?bZ ?gW ?kY ?gP ?gY ?fF ?gR ?gQ ?jt ?oM ?qO ?xj ?qP ?iM ?iX ?iO ?fy ?l8 ?ml ?jh ?ma ?iL ?iW ?dU ?fx ?ka ?ko ?gK ?kd ?iK ?iU ?iN ?iQ ?EK ?GW ?Hr ?GY ?vh ?vL ?ve ?uW ?vA ?vF ?j8 ?j7 ?eu ?vg ?vK ?vd ?uV ?vz ?vE ?j6 ?j5 ?eh ?AO ?BF ?AL ?AA ?Bb ?Bq ?j4 ?j0 ?iD ?gG ?iE ?vM ?vN ?FE ?FF ?zT ?zR ?uE ?uF ?jF ?ij ?FC ?Fz ?pM ?FD ?Fy ?FG ?zS ?lK ?FA ?tbc ?tbl ?tbv ?tbn;(case xw|xu|CB|iI|iH|fV|iG|iF|fU|j9=>k_is)
  (case yi|yg|Ec|gf|kW|nB|jq|ni|qW|dH|gZ|aW|gN|nu|kU|k8|gM|nj|nz|fB|eI|gO|lg|nA|qY|jo|jn|qX|fz|yh|kX|jy|fA|gL|jj|eJ|dD|cU|jx|jv|kZ|jr|gX|gU|bZ|gW|kY|gP|gY|fF|gR|gQ|jt=>refine' ⟨?ja,L2.fun_mk ?jl ?jc ?jk⟩;(case ja=>k_is);(case jl=>k_is);(case jc=>k_is);(case jk=>k_is));(case oM|qO|xj|qP|iM|iX|iO|fy|l8|ml|jh|ma|iL|iW|dU|fx|ka|ko|gK|kd|iK|iU|iN|iQ|EK|GW|Hr|GY|vh|vL|ve|uW|vA|vF|j8|j7|eu|vg|vK|vd|uV|vz|vE|j6|j5|eh|AO|BF|AL|AA|Bb|Bq|j4|j0|iD|gG|iE|vM|vN|FE|FF|zT|zR|uE|uF|jF|ij|FC|Fz|pM|FD|Fy|FG|zS|lK|FA=>k_is)
  (case tbc=>rfl);(case tbl=>k_is);(case tbv=>rfl);(case tbn=>kernel_rfl)
