import PyProof.Rows.All
import Wide.All
import OpenK.AllK
import Wide.FinOn
import Lean
import PyProof.EqAt
import PyProof.EqKinds
import PyProof.TupleCall
import PySem.Challenge.RW_spinfloor_k35_whole_roofs
open PyProof.Rows renaming callWith_type1->Mi, kindOf->Mv, IntsAre->MA, seqObj->MY, get?_update_seq->MZ
open PyProof.Rows.F renaming plain_set_update_loop->Nj
open PyProof.Rows.LCg renaming lst->MI
open PySem renaming sizeLine->LR, mainGlobals->LU, bootBuiltins->LV, starEach->LY, wpAny_mono->LZ, compareOp->L0, wpAny_truthy_bool->L9, assignEach->Ma, wpAny_bind->Mb, wpAny_holding->Mc, wpAny_passesOwn->Md, wpAny_pure->Me, foldedSetIterable->Mj, binaryOp->Ml, codeAny->Mp, codeAny_mono->Mt, wpAny_Call_Name_kw->Mu, wpAny_specialOf->MC, wpAny_ite_split->ME, wpAny_isInstance->MF, wpAny_newObj_type->MJ, wpAny_call_entry->MN, wpAny_callSpecial?_slot->MP, wpAny_typeNameOfWhole_itemiter->MQ, wpAny_isOneOf_itemiter->MT, wpAny_setField_rec->MU, wpAny_letGo->MX, wpAny_newList->M0, codeAny_builtin->M5, wpAny_seqItems->M8, wpAny_tryCatch->M9, updateSeq->Na, wpAny_updateSeq->Nb, plainId_quiet->Nc, wpAny_setState_of->Nh, wpAny_askSetting->Nk
open PySem.Around renaming under_plainId->M7
open PySem.Builtin renaming bitAnd->Mm, bitOr->Mn, bitXor->Mo
open PySem.Builtin.Builtins renaming bindParams->Nd
open PySem.Builtin.Dict_items renaming ownsTuple->MO, pairFromOwner->MV
open PySem.Builtin.List renaming listLengthHint->MD, listExtendWith->Nl, listSameRef->Nm, listItems->Nn
open PySem.Builtin.Range renaming rangeSize->Mh
open PySem.Calls renaming spliced_nil->Mr, spliced_cons->Ms, callWith_builtin->Mz
open PySem.Heap renaming lt_size->LS, get?_none_of_le->LW, SameBut->LX, get?_push_of_some->Mf, get?_push_size->Mg, size_push->Mq, get?_update_self->Mx, get?_update_other->My, size_update->M4
open PySem.Heap.SameBut renaming update->MR
open PySem.Obj renaming mapSeq->Mw
open PySem.PyData renaming depth->MG, canLay0->MH
open PySem.SetTable renaming below->Ng, grown->Ni
open Array renaming length_toList->HB, getElem?_toList->Ib, getElem?_eq_getElem->Iq, getElem?_eq_none->JN, getD->JZ, getD_eq_getD_getElem?->Ke, getElem?_eq_some_iff->Kg, toList_push->Lg
open Bool renaming false_ne_true->Hj, false_eq_true->Il, true_and->IJ, xor_false->Ju, false_and->JE, and_false->JR, false_xor->Kl, not_true->Kz, eq_iff_iff->KQ, and_eq_true->Ll, or_false->LO, and_true->LP
open Classical renaming propDecidable->JM, choose_spec->KP
open Int renaming toNat_natCast->G8, zero_add->Ir, emod_lt_of_pos->IB, le_refl->II, toNat_of_nonneg->IM, emod_nonneg->IU, natCast_nonneg->Jw, one_mul->Ls, natCast_pow->Lu, fdiv_eq_ediv_of_nonneg->Lx
open List renaming getElem?_eq_getElem->GU, getElem?_eq_some_iff->GV, mem_of_getElem?->GW, length_map->GY, length_append->GZ, getElem?_append_right->G3, mem_cons_of_mem->G4, getElem?_append_left->G5, mem_cons->G6, getElem?_map->G7, mem_cons_self->G9, mem_append->Hc, length_singleton->Hd, replicate->He, nodup_cons->Hf, getD_eq_getElem?_getD->Hg, mem_singleton->Hi, length_cons->Hk, size_toArray->Hl, map_append->Hm, nodup_append->Ht, map_cons->Hu, take_add_one->Hz, take_length->HD, mem_append_right->HE, length_set->HG, getElem?_set->HH, mem_append_left->HL, mem_flatten->HN, mem_map->HS, mem_iff_getElem?->HU, flatten_cons->HW, length_take->HY, flatten_append->Ih, getElem_mem->Ij, range->Ik, getElem_of_mem->Im, length_pos_of_mem->Iu, getElem?_set_self->Iv, getElem?_eq_none->Iy, length_range->ID, nodup_nil->IE, getElem?_replicate->IH, take_of_length_le->IK, mem_or_eq_of_mem_set->IQ, length_replicate->IT, getElem?_of_mem->IW, sum_cons->IX, mem_range->IZ, length_nil->Ja, perm_ext_iff_of_nodup->Jc, length_drop->Jd, map_map->Jh, erase_cons_head->Jj, mem_filter->Jl, map_congr_left->Jm, length_eq_zero_iff->Jo, not_mem_nil->Jq, eq_nil_of_length_eq_zero->Jr, take_append_drop->Jx, length_filter_le->Jy, replicate_succ'->JB, getElem?_set_ne->JC, pairwise_iff_getElem->JD, find?_cons->JL, append_assoc->JP, mem_of_mem_drop->JV, getElem?_eraseIdx_of_lt->JW, getElem?_eraseIdx_of_ge->JX, sum_append->Ka, range_succ->Kb, lookup->Kc, append_nil->Kd, length_eraseIdx_of_lt->Kf, mem_replicate->Ki, filter_append->Kj, append_of_mem->Kk, length_erase_of_mem->Ks, idxOf_lt_length_iff->Kt, foldl_append->Ku, ext_getElem?->Kv, filter_cons_of_pos->Kx, filter_cons_of_neg->Ky, filter_cons->KC, flatten_singleton->KD, foldl_cons->KO, mem_of_mem_take->KS, length_eraseIdx->KU, take_zero->KY, length_reverse->K4, getElem?_range->K5, filterMap_cons->K6, pairwise_cons->K7, mem_filterMap->K9, getElem?_take->La, length_erase->Le, eraseIdxIfInBounds_toArray->Lf, mem_reverse->Lh, isEmpty_nil->Li, cons_append->Lj, dropLast_concat_getLast->Lm, of_mem_zip->Lq, idxOf_lt_length_of_mem->Lr, drop_eq_getElem_cons->LA, mem_of_mem_eraseIdx->LC, map_take->LK, map_drop->LL, any_cons->LN
open List.Pairwise renaming nil->JQ
open Nat renaming le_refl->G0, ne_of_lt->Hr, le_of_lt->Hs, lt_of_lt_of_le->Hv, sub_self->Hw, testBit_two_pow->HF, zero_le->HI, lt_succ_self->HK, xor_assoc->HQ, pow_le_pow_right->HR, pow_lt_pow_right->HZ, lt_irrefl->Ia, eq_of_testBit_eq->Ic, testBit_xor->Ie, le_trans->Ig, zero_testBit->Ii, two_pow_pos->Io, mod_eq_of_lt->Ip, not_lt_zero->Iw, lt_succ_of_lt->Iz, ne_of_gt->IA, xor_lt_two_pow->IG, xor_zero->IS, le_succ->IV, xor_self->Jf, lt_trans->Jg, lt_pow_two_of_testBit->Ji, testBit_or->Jt, testBit_lt_two_pow->Jv, testBit_and->JK, xor_comm->JS, not_lt_of_le->JT, le_add_right->JU, mod_lt->JY, testBit_two_pow_sub_one->J2, add_sub_cancel->Kh, or_lt_two_pow->Kr, le_of_not_lt->KA, mod_self->KJ, min_eq_left->KL, le_antisymm->KN, mul_le_mul_right->KR, testBit->K3, testBit_eq_decide_div_mod_eq->Lb, le_succ_of_le->Ld, strongRecOn->Lp
open Option renaming map_eq_some_iff->Ho, isSome_iff_exists->Kq, map_some->KI
open Option.some renaming inj->Hq
open PySem renaming Spec->Hn, mem_of_lookup->I8, frameOf->LD
open PySem.F renaming plainAttrs_list->Hh, type_list_append->Hx, slot_list_append->Hy, plain_min_loop->HM, plain_extend_loop->IP, entry_min_loop->Jb, type_list_index->JI, slot_list_index->JJ, type_list_insert->Km, slot_list_insert->Ko, plainAttrs_dict->Kw, slot_dict_get->KH, excBase_ValueError->Lv, args_list_init_2->LB, typeCall_list_1->LG, slot_dict_items->LH, entry_list_init->LI, args_dict_get_3->LJ
open PySem.W renaming Frag->GX, findIn->HC, nsIn->HJ, mg_none_of->HP, keepIn->HV, fnOf->IC, kia_one->IF, emptyDict->IL, codeIn->IY, mg_of->Je, instObj->Jk, plainGet->Jp, CodeHd->Js, tabIn->Jz, hasDictIn->JA, isFn->JF, mroIn->JG, callWith_K->JH, plainOver->JO, makesIn->J1, kla_obj->KG, lookIn->KW, plainGet_of->KZ, hideAll_get->K0, methodObj->Lc, takerIn->Ln, OpenLaw->Lo, tabObj->Ly, kitOne->Lz, excIn->LF
set_option Elab.async false
set_option linter.all false
set_option compiler.extract_closed false
set_option genSizeOf false
set_option maxRecDepth 100000
local macro_rules | `(tactic| omega) => `(tactic| first | assumption | lia | omega +splitDisjunctions)
local macro_rules | `(tactic| ac_rfl) => `(tactic| omega +splitDisjunctions)
local macro_rules | `(tactic| ac_nf) => `(tactic| exact ⟨rfl,rfl,rfl,by decide +kernel,rfl,by decide +kernel,by decide +kernel⟩)
local macro_rules | `(tactic| decide) => `(tactic| decide +kernel)
local macro_rules | `(∅) => `(by omega)
local macro_rules | `(tactic| walk_at "cc") => `(tactic| first | exact ⟨by decide, by decide⟩ | (show (0 : Int) < _; decide) | (show (0 : Int) < _; omega) | (show (0 : Int) ≤ _; omega) | exact ⟨by decide, by decide, by decide⟩ | exact ⟨by omega, by omega, by decide⟩ | exact Or.inl ⟨by decide, by decide⟩ | exact Or.inl ⟨by omega, by omega⟩)
local macro_rules | `(tactic| walk_at "rd") => `(tactic| repeat (first | refine ⟨_, rfl, ?_⟩ | (refine ⟨_, _, rfl, rfl, ?cc, ?_⟩; (case cc => walk_at "cc")) | refine ⟨_, _, rfl, rfl, ?_⟩ | refine ⟨rfl, ?_⟩ | (refine ⟨?cc, ?_⟩; (case cc => walk_at "cc"))))
local macro_rules | `(tactic| walk_at "l") => `(tactic| (intro _ _ _ _ h; first | (cases h; subst_vars; rfl) | repeat (first | (obtain ⟨e, _⟩ := h; subst e; rfl) | obtain ⟨_, h⟩ := h)))
theorem LQ{p:Prop}[Decidable p](h:¬p):decide p=false:=decide_eq_false h
theorem MB{p:Prop}[Decidable p](h:p):decide p=true:=decide_eq_true h
theorem Nf{p:Prop}[Decidable p](h:decide p=true):p:=of_decide_eq_true h
theorem Np.{u}{c:Prop}{h:Decidable c}(C:c){α:Sort u}{t e:α}:ite c t e=t:=if_pos C
theorem Nq.{u}{c:Prop}{h:Decidable c}(C:¬c){α:Sort u}{t e:α}:ite c t e=e:=if_neg C
theorem Nr{a b:Prop}(h:a)(g:¬a):b:=absurd h g
open PySem (Addr Around CmpOp Env Expr FuncData Heap Obj Pos Program Result Scope Sem Shared Stmt Str Value World)
variable{C I PL a f it p q tb tp va wd:Addr}{A:Around}{op:CmpOp}{env:Env}{e:Expr}{G Y fd:FuncData}{K:GX}{base h h':Heap}{J:List (Addr×Obj)}{rs rs' ts:List (List Nat)}{T:List (Option Int)}{L:List (Option Nat)}{fr:List (Str×Nat)}{ch fp:List Addr}{outer:List Env}{ns ord:List Int}{W l l' ps r':List Nat}{its us vs:List Value}{M N ep i j m mk n t':Nat}{D:Nat->Nat->Int}{ex ex':Nat->Nat->Prop}{o ob:Obj}{pos:Pos}{P:Program}{B:Prop}{R:Result->Shared->Prop}{scope:Scope}{pl:Sem Bool}{s s':Shared}{x:Str}{mg:Str->Option Value}{α:Type}{u:Value}{E Q:Value->Shared->Prop}{w:World}
namespace L2
open PySem PySem.Spec PyProof.Rows
abbrev Key:=Sum Int Str
def oA:Key->Value->Bool
 |.inl k,v=>Value.isInt k v
 |.inr x,v=>Value.isStrOf x v
def keyH(w:World):Key->Int
 |.inl k=>hashInt k
 |.inr x=>hashStr w x
theorem aZ:∀{k:Key}{v:Value},oA k v=true->(∃ i t,k=Sum.inl i/\v=Value.int i t)∨(∃ x t,k=Sum.inr x/\v=Value.str x t)
 |.inl i,v,h=>by
  obtain⟨t,e⟩:=Value.isInt_shape (k:=i) (v:=v) h;exact .inl ⟨i,t,rfl,e⟩
 |.inr x,v,h=>by
  obtain⟨t,e⟩:=Value.isStrOf_shape (x:=x) (v:=v) h;exact .inr ⟨x,t,rfl,e⟩
theorem A7(i:Int)(t:Tok):oA (.inl i) (.int i t)=true:=by simp[oA,Value.isInt]
theorem A6(x:Str)(t:Tok):oA (.inr x) (.str x t)=true:=by simp[oA,Value.isStrOf]
theorem key_ll(a b:Int):decide ((Sum.inl a:Key)=Sum.inl b)=(a == b):=by
 by_cases e:a=b
 .subst e;simp
 .have h:¬ (Sum.inl a:Key)=Sum.inl b:=λq=>e (Sum.inl.inj q)
  rw[LQ h];exact(beq_eq_false_iff_ne.mpr e).symm
theorem key_rr(a b:Str):decide ((Sum.inr a:Key)=Sum.inr b)=decide (a=b):=by
 by_cases e:a=b
 .subst e;simp
 .have h:¬ (Sum.inr a:Key)=Sum.inr b:=λq=>e (Sum.inr.inj q)
  rw[LQ h,LQ e]
theorem key_lr(a:Int)(b:Str):decide ((Sum.inl a:Key)=Sum.inr b)=false:=LQ (λq=>nomatch q)
theorem key_rl(a:Str)(b:Int):decide ((Sum.inr a:Key)=Sum.inl b)=false:=LQ (λq=>nomatch q)
def bA(prog:Program)(w:World):PySem.KeyKind prog w Key where
 is:=oA
 hash:=keyH w
 inj:=λv a b G L=>by
  rcases aZ G with⟨i,t,rfl,rfl⟩|⟨x,t,rfl,rfl⟩
  .rcases aZ L with⟨j,u,rfl,e⟩|⟨y,u,rfl,e⟩
   .injection e with f _;rw[f]
   .exact nomatch e
  .rcases aZ L with⟨j,u,rfl,e⟩|⟨y,u,rfl,e⟩
   .exact nomatch e
   .injection e with f _;rw[f]
 byValue:=λk v h=>by
  rcases aZ h with⟨i,t,rfl,rfl⟩|⟨x,t,rfl,rfl⟩<;>rfl
 pyHash:=λO h=>by
  rcases aZ O with⟨i,t,rfl,rfl⟩|⟨x,t,rfl,rfl⟩
  .exact wpAny_pyHash_int h
  .exact wpAny_pyHash_str h
 eqBool:=λg O h=>by
  rcases aZ g with⟨i,t,rfl,rfl⟩|⟨x,t,rfl,rfl⟩
  .rcases aZ O with⟨j,u,rfl,rfl⟩|⟨y,u,rfl,rfl⟩
   .rw[key_ll]at h;exact wpAny_eqBool_int h
   .rw[key_lr]at h;exact SeqAt.EqAt.int_str i t y u _ _ _ _ h
  .rcases aZ O with⟨j,u,rfl,rfl⟩|⟨y,u,rfl,rfl⟩
   .rw[key_rl]at h;exact SeqAt.EqAt.str_int x t j u _ _ _ _ h
   .rw[key_rr]at h;exact wpAny_eqBool_str h
 «strs»:=λk x t v h=>by
  rcases aZ h with⟨i,u,rfl,e⟩|⟨y,u,rfl,e⟩
  .exact nomatch e
  .injection e with f _;subst f
   cases v<;>rfl
theorem vy(prog:Program)(w:World)(i:Int)(t:Tok):(bA prog w).is (.inl i) (.int i t)=true:=A7 i t
theorem vx(prog:Program)(w:World)(x:Str)(t:Tok):(bA prog w).is (.inr x) (.str x t)=true:=A6 x t
inductive V where
 |non|bl (b:Bool)|int (i:Int)|str (x:Str)|byt (b:Array UInt8)|flt (b:UInt64)|ref (a:Addr)|ty (n:String)
 deriving DecidableEq
def RelV:V->Value->Prop
 |.non,u=>u=Value.none
 |.bl b,u=>u=Value.bool b
 |.int i,u=>∃ t,u=Value.int i t
 |.str x,u=>∃ t,u=Value.str x t
 |.byt b,u=>∃ t,u=Value.bytes b t
 |.flt b,u=>∃ t,u=Value.float b t
 |.ref a,u=>u=Value.ref a
 |.ty n,u=>u=Value.type n
abbrev Vals:List V->List Value->Prop:=Paired RelV
theorem Vals.length{xs:List V}{us:List Value}(r:Vals xs us):xs.length=us.length:=Paired.length r
theorem Vals.get:∀{xs:List V}{us:List Value}{i:Nat}{x:V},Vals xs us->xs[i]?=some x->∃ u,us[i]?=some u/\RelV x u
 |_,_,_,_,.nil,e=>by simp at e
 |_,_,0,_,.cons r _,e=>by simp at e;subst e;exact⟨_,rfl,r⟩
 |_,_,i+1,x,.cons _ t,e=>by
  obtain⟨u,J,Y⟩:=Vals.get (i:=i) (x:=x) t (by simpa using e)
  exact⟨u,by simpa using J,Y⟩
theorem Vals.set{x:V}{u:Value}(r:RelV x u):∀{xs:List V}{us:List Value}(i:Nat),Vals xs us->Vals (xs.set i x) (us.set i u)
 |_,_,_,.nil=>.nil
 |_,_,0,.cons _ t=>.cons r t
 |_,_,i+1,.cons q t=>.cons q (Vals.set r i t)
theorem Vals.append:∀{xs ys:List V}{us l:List Value},Vals xs us->Vals ys l->Vals (xs++ys) (us++l)
 |_,_,_,_,.nil,s=>s
 |_,_,_,_,.cons r t,s=>.cons r (Vals.append t s)
theorem Vals.take:∀{xs:List V}{us:List Value}(n:Nat),Vals xs us->Vals (xs.take n) (us.take n)
 |_,_,0,_=>.nil
 |_,_,_+1,.nil=>.nil
 |_,_,n+1,.cons r t=>.cons r (Vals.take n t)
theorem Vals.drop:∀{xs:List V}{us:List Value}(n:Nat),Vals xs us->Vals (xs.drop n) (us.drop n)
 |_,_,0,r=>r
 |_,_,_+1,.nil=>.nil
 |_,_,n+1,.cons _ t=>Vals.drop n t
def RelO:Option V->Option Value->Prop
 |some v,some u=>RelV v u
 |none,none=>True
 |_,_=>False
def KV{a:Type}:List (a×V)->List (a×Value)->Prop:=Paired λ(p:a×V) (q:a×Value)=>p.1=q.1/\RelV p.2 q.2
def kV:Key->V
 |.inl i=>.int i
 |.inr x=>.str x
inductive HO where
  |lst (xs:List V)
  |tup (xs:List V)
  |dK (kvs:List (Key×V))|dT (kvs:List (List Key×V))
  |set (S:Int->Bool) (n:Nat)
  |ins (C dx:Addr) (fs:List (Str×V))
  |own (x:Addr)
  |xd (fs:List (Str×V))
  |met (f x:Addr)
  |rng (lo hi:Int)
  |frz (o:Obj) (u:HO)
  |tbl (ps:Array Value)
  |ext (φ:Heap->Prop)
abbrev Hp:=Addr->Option HO
def upd(H:Hp)(a:Addr)(o:HO):Hp:=λb=>if b=a then some o else H b
theorem ag{H:Hp}{o:HO}:upd H a o a=some o:=by unfold upd;rw[Np rfl]
theorem aq{H:Hp}{b:Addr}{o:HO}(h:b≠a):upd H a o b=H b:=by unfold upd;rw[Nq h]
theorem yE{H:Hp}{b:Addr}{o u:HO}(h:H a=some o)(h':H b=some u)(d:o≠u):a≠b:=by
 intro e;subst e;rw[h]at h';exact d (Hq h')
theorem aA{H:Hp}{b:Addr}{o:HO}(h:H a=some o)(h':H b=none):a≠b:=by
 intro e;subst e;rw[h]at h';cases h'
section
variable(P:Program)(w:World)
def bC(H:Hp)(h:Heap)(a:Addr):HO->Prop
 |.lst D=>D.length<=LR/\∃(L:List Value)(n:Nat),Vals D L/\h.get? a=some {cls:=.type "list",data:=.seq L.toArray n}
 |.tup D=>D.length<=LR/\∃ L:List Value,Vals D L/\IsTup h a L.toArray
 |.dK N=>N.length<=LR/\(a == sysModules)=false/\∃ m,KV N m/\h.DictOf (bA P w) a m
 |.dT N=>N.length<=LR/\(a == sysModules)=false/\∃ D:List (List Key×Addr×Value),
   Paired (λ(p:List Key×V) (q:List Key×Addr×Value)=>p.1=q.1/\H q.2.1=some (.tup (p.1.map kV))/\RelV p.2 q.2.2) N D /\
   ∃ o B M,h.get? a=some o/\o.ExactDict/\o.data=.dict B M/\B.toList=D.map (entryOfKey (tupleKind (bA P w)))/\(D.map (·.1)).Nodup
 |.set S n=>h.SetOf (intKind P w) a S n
 |.ins C j fs=>H j=some (.own a)/\fs.length<=1000/\j≠a/\h.get? a=some (Jk C j) /\
   ∃ i,h.Ns1 j i/\(∀ f,RelO (fs.lookup f) (i f))/\PySem.Within i (fs.map (·.1))
 |.own _=>∃ o,h.get? a=some o
 |.xd fs=>∃ i,h.Ns1 a i/\∀ f,RelO (fs.lookup f) (i f)
 |.rng lo I=>∃ t u v,h.get? a=some {cls:=.type "range",data:=.fields #[.int lo t,.int I u,.int 1 v]}
 |.frz o u=>h.get? a=some o/\bC H h a u
 |.tbl G=>h.get? a=some {cls:=.none,data:=.fields G}
 |.met f x=>h.get? a=some (Lc (.ref f) (.ref x))
 |.ext l=>l h/\(∃ o,h.get? a=some o)/\∀ J Y:Heap,l J->(∀ o,J.get? a=some o->Y.get? a=some o)->l Y
def HOk(H:Hp)(h:Heap):Prop:=∀ a o,H a=some o->bC P w H h a o
end
section
variable{P:Program}{w:World}{H H':Hp}{h h':Heap}{a:Addr}{o:HO}
theorem bC.lt(x:bC P w H h a o):a<h.objs.size:=by
 cases o with
 |lst D=>obtain⟨_,_,_,_,e⟩:=x;exact LS e
 |tup D=>obtain⟨_,_,_,p⟩:=x;exact p.lt
 |dK N=>obtain⟨_,_,_,_,o,_,_,e,_⟩:=x;exact LS e
 |dT N=>obtain⟨_,_,_,_,o,_,_,e,_⟩:=x;exact LS e
 |set S n=>obtain⟨o,_,_,_,e,_⟩:=x;exact LS e
 |ins C j fs=>obtain⟨_,_,_,e,_⟩:=x;exact LS e
 |own y=>obtain⟨_,e⟩:=x;exact LS e
 |xd fs=>obtain⟨_,⟨_,_,_,e,_⟩,_⟩:=x;exact LS e
 |rng lo I=>obtain⟨_,_,_,e⟩:=x;exact LS e
 |frz g u=>obtain⟨e,_⟩:=x;exact LS e
 |tbl G=>exact LS (show h.get? a=some _ from x)
 |met f y=>exact LS (show h.get? a=some _ from x)
 |ext l=>obtain⟨_,⟨_,e⟩,_⟩:=x;exact LS e
theorem Paired.mapP{α u:Type}{F G:α->u->Prop}:∀{c:List α}{d:List u},Paired F c d->(∀ a b,F a b->G a b)->Paired G c d
 |_,_,.nil,_=>.nil
 |_,_,.cons r t,f=>.cons (f _ _ r) (Paired.mapP t f)
theorem bC.stay(x:bC P w H h a o)(k:∀ b u,(b=a∨H b=some (.own a))->h.get? b=some u->h'.get? b=some u)(D:∀ b,H b=some (.own a)->H' b=some (.own a))(T:∀ b xs,H b=some (.tup xs)->H' b=some (.tup xs)):bC P w H' h' a o:=by
 induction o with
 |lst xs=>obtain⟨z,L,n,r,e⟩:=x;exact⟨z,L,n,r,k _ _ (.inl rfl) e⟩
 |tup xs=>obtain⟨z,L,r,g,e,c⟩:=x;exact⟨z,L,r,g,k _ _ (.inl rfl) e,c⟩
 |dK N=>obtain⟨z,y,m,r,g,B,M,e,c⟩:=x;exact⟨z,y,m,r,g,B,M,k _ _ (.inl rfl) e,c⟩
 |dT N =>
  obtain⟨z,y,xs,r,g,B,M,e,c⟩:=x;exact⟨z,y,xs,Paired.mapP r λp q z=>⟨z.1,T _ _ z.2.1,z.2.2⟩,g,B,M,k _ _ (.inl rfl) e,c⟩
 |set S n=>obtain⟨g,B,M,t,e,c⟩:=x;exact⟨g,B,M,t,k _ _ (.inl rfl) e,c⟩
 |ins C j fs =>
  obtain⟨d,z,ne,e,i,⟨Y,B,M,E,c⟩,r⟩:=x;exact⟨D _ d,z,ne,k _ _ (.inl rfl) e,i,⟨Y,B,M,k _ _ (.inr d) E,c⟩,r⟩
 |own y=>obtain⟨g,e⟩:=x;exact⟨g,k _ _ (.inl rfl) e⟩
 |xd fs=>obtain⟨i,⟨Y,B,M,e,c⟩,r⟩:=x;exact⟨i,⟨Y,B,M,k _ _ (.inl rfl) e,c⟩,r⟩
 |rng lo I=>obtain⟨t,u,v,e⟩:=x;exact⟨t,u,v,k _ _ (.inl rfl) e⟩
 |frz g u A=>obtain⟨e,q⟩:=x;exact⟨k _ _ (.inl rfl) e,A q⟩
 |tbl G =>
  have e:h.get? a=some {cls:=.none,data:=.fields G}:=x;show h'.get? a=some {cls:=.none,data:=.fields G};exact k a _ (.inl rfl) e
 |met f y =>
  have e:h.get? a=some (Lc (.ref f) (.ref y)):=x;show h'.get? a=some (Lc (.ref f) (.ref y));exact k a _ (.inl rfl) e
 |ext l=>obtain⟨p,⟨o,e⟩,st⟩:=x;exact⟨st _ _ p λo q=>k _ _ (.inl rfl) q,⟨o,k _ _ (.inl rfl) e⟩,st⟩
theorem HOk.lt(x:HOk P w H h)(e:H a=some o):a<h.objs.size:=(x a o e).lt
theorem HOk.fresh(x:HOk P w H h)(e:h.objs.size<=a):H a=none:=by
 cases q:H a with
 |none=>rfl
 |some u=>exact Nr (Hv (x.lt q) e) (Ia _)
theorem HOk.kept(x:HOk P w H h)(k:∀ b u,h.get? b=some u->h'.get? b=some u):HOk P w H h':=λa o e =>
 (x a o e).stay (λb u _ q=>k b u q) (λ_ q=>q) λ_ _ q=>q
theorem HOk.laid(x:HOk P w H h)(k:∀ b u,h.get? b=some u->h'.get? b=some u)(g:h.objs.size<=a)(new:bC P w (upd H a o) h' a o):HOk P w (upd H a o) h':=λb u e=>by
 have T:=x.fresh g;by_cases L:b=a
 .subst L;rw[ag]at e;cases e;exact new
 .rw[aq L]at e;exact(x b u e).stay (λc v _ q=>k c v q) (λc q=>by rw[aq (aA q T)];exact q) λc D q=>by rw[aq (aA q T)];exact q
end
def Rd(H:Hp)(a:Addr)(u:HO):Prop:=H a=some u∨∃ o,H a=some (.frz o u)
theorem Rd.ok{H:Hp}{u:HO}(r:Rd H a u)(x:HOk P w H h):bC P w H h a u:=by
 rcases r with r|⟨o,r⟩
 .exact x a u r
 .obtain⟨_,q⟩:=x a _ r;exact q
def Mut:Option HO->Prop
 |some (.lst _)=>True
 |some (.dK _)=>True
 |some (.dT _)=>True
 |some (.set _ _)=>True
 |some (.ins _ _ _)=>True
 |some (.ext _)=>True
 |_=>False
section
variable{P:Program}{w:World}{H:Hp}{h h':Heap}{x e:Addr}{o':HO}
theorem HOk.write(ok:HOk P w H h)(d:Mut (H x))(n:e=x∨H e=some (.own x))(k:∀ b u,b≠e->h.get? b=some u->h'.get? b=some u)(f:∃ u,h'.get? e=some u)
  (new:bC P w (upd H x o') h' x o'):HOk P w (upd H x o') h':=λb u q=>by
 have g:∀ c y,H c=some (.own y)->c≠x:=λc y r z=>by subst z;rw[r]at d;exact d
 have i:∀ c D,H c=some (.tup D)->c≠x:=λc D r z=>by subst z;rw[r]at d;exact d
 by_cases L:b=x
 .subst L;rw[ag]at q;cases q;exact new
 .rw[aq L]at q;by_cases a:b=e
  .have J:H b=some (.own x):=by
    rcases n with z|z
    .exact Nr (a.trans z) L
    .rw[a];exact z
   rw[q]at J;cases J;obtain⟨v,O⟩:=f;exact⟨v,by rw[a];exact O⟩
  .refine(ok b u q).stay (λc v C r=>k c v ?_ r) (λc r=>by rw[aq (g c b r)];exact r) λc D r=>by rw[aq (i c D r)];exact r
   rcases C with rfl|C
   .exact a
   .rintro rfl;rcases n with z|z
    .exact g c b C z
    .rw[C]at z;cases z;exact L rfl
end
structure Un(fs ex:List Addr)(H H':Hp)(h h':Heap):Prop where
 keep:∀ b o,h.get? b=some o->H b=none->b∉fs->b∉ex->h'.get? b=some o
 slot:∀ b o,h.get? b=some o->H b=none->b∈fs->b∉ex->∃ sl,h'.get? b=some {o with slots:=sl}
 free:∀ b o,h.get? b=some o->H b=none->b∉ex->H' b=none
 there:∀ b o,h.get? b=some o->b∉ex->∃ o',h'.get? b=some o'
 tups:∀ b xs,H b=some (.tup xs)->H' b=some (.tup xs)
 frzs:∀ b o u,H b=some (.frz o u)->H' b=some (.frz o u)
 tbls:∀ b ps,H b=some (.tbl ps)->∃ more,H' b=some (.tbl (ps++more))
section
variable{fs fs' ex ex':List Addr}{H H1 H2:Hp}{h h1 h2 h':Heap}{a x e:Addr}{o:HO}
theorem Un.any(u:Un fs ex H H1 h h1){b:Addr}(q:h.get? b=some ob)(n:H b=none)(O:b∉ex):∃ sl,h1.get? b=some {ob with slots:=sl}:=by
 by_cases L:b∈fs
 .exact u.slot b ob q n L O
 .exact⟨ob.slots,u.keep b ob q n L O⟩
theorem Un.kept(k:∀ b u,h.get? b=some u->h'.get? b=some u):Un fs ex H H h h' :=
 ⟨λb g q _ _ _=>k b g q,λb g q _ _ _=>⟨g.slots,k b g q⟩,λ_ _ _ n _=>n,λb g q _=>⟨g,k b g q⟩,λ_ _ q=>q,λ_ _ _ q=>q,λ_ G q=>⟨#[],by rw[q];simp⟩⟩
theorem Un.refl:Un fs ex H H h h:=Un.kept λ_ _ q=>q
theorem Un.laid(k:∀ b u,h.get? b=some u->h'.get? b=some u)(g:h.objs.size<=a)(T:H a=none):Un fs ex H (upd H a o) h h' where
 keep:=λb u q _ _ _=>k b u q
 slot:=λb u q _ _ _=>⟨u.slots,k b u q⟩
 free:=λb u q n _=>by rw[aq (Hr (Hv (LS q) g))];exact n
 there:=λb u q _=>⟨u,k b u q⟩
 tups:=λb D q=>by rw[aq (aA q T)];exact q
 frzs:=λb u D q=>by rw[aq (aA q T)];exact q
 tbls:=λb G q=>⟨#[],by rw[aq (aA q T),q];simp⟩
theorem Un.write(d:Mut (H x))(Y:e=x∨H e=some (.own x))(k:∀ b u,b≠e->h.get? b=some u->h'.get? b=some u)(f:∃ u,h'.get? e=some u):Un fs ex H (upd H x o) h h':=by
 have O:∀ b,H b=none->b≠x:=λb n z=>by subst z;rw[n]at d;exact d
 have L:∀ b,H b=none->b≠e:=λb n z=>by
  subst z;rcases Y with r|r
  .exact O b n r
  .rw[n]at r;cases r
 have y:∀ b u,H b=some u->¬ Mut (some u)->b≠x:=λb u q C z=>by subst z;rw[q]at d;exact C d
 refine⟨λb u q n _ _=>k b u (L b n) q,λb u q n _ _=>⟨u.slots,k b u (L b n) q⟩,λb u q n _=>by rw[aq (O b n)];exact n,λb u q _=>?_,
  λb D q=>by rw[aq (y b _ q λz=>z)];exact q,λb u D q=>by rw[aq (y b _ q λz=>z)];exact q,λb G q=>⟨#[],by rw[aq (y b _ q λz=>z),q];simp⟩⟩
 by_cases a:b=e
 .subst a;exact f
 .exact⟨u,k b u a q⟩
end
def trk(h:Heap)(H:Hp):List Addr:=(Ik h.objs.size).filter λa=>(H a).isSome
def hidT(h:Heap)(H:Hp):Heap:=PySem.W.hideAll h (trk h H)
theorem Bo(h:Heap)(H:Hp):(hidT h H).objs.size=h.objs.size:=PySem.W.hideAll_size _ _
theorem mH{H:Hp}{b:Addr}(e:h.get? b=some o)(n:H b=none):(hidT h H).get? b=some o :=
 K0 _ e λy=>by
  have q:(H b).isSome=true:=(Jl.mp y).2;rw[n]at q;simp at q
theorem FU{H:Hp}{b:Addr}(e:(hidT h H).get? b=some o):h.get? b=some o/\H b=none:=by
 have u:h.get? b=some o:=PySem.W.of_hideAll (trk h H) e;refine⟨u,?_⟩
 cases q:H b with
 |none=>rfl
 |some x =>
  have y:b∈trk h H:=Jl.mpr ⟨IZ.mpr (LS u),by simp[q]⟩
  have z:(hidT h H).get? b=none:=PySem.W.hideAll_none (trk h H) y;rw[z]at e;cases e
structure Mod(K:GX)(mg:Str->Option Value)(base:Heap):Prop where
 kin:K.In base
 glob:base.Ns LU mg
 blt:∃ mb,base.Ns builtinsNs mb/\∀ x:Str,x≠"__name__"->mb x=LV x
 nolimit:base.NoLimit
set_option genInjectivity false in
structure Cx where
 prog:Program
 w:World
 K:GX
 mg:Str->Option Value
 base:Heap
 A:Around
 N:List Str
 s₀:Shared
 H₀:Hp
 env:Env
 outer:List Env
 stack:List Env
 ex:List Addr
 fn:Str->Bool
 calm:Bool
 pn:List (Addr×Obj)
 xe:Value->Shared->Prop
def frs(l:List Env):List Addr:=l.filterMap (·.frame)
abbrev Cx.fs(X:Cx):List Addr:=frs X.outer
def Vis(a:Scope)(x:Str):Prop:=a.names.lookup x=some .local∨a.names.lookup x=some .cell∨a.names.lookup x=some .free
def Loc(a:Scope)(x:Str):Prop:=a.names.lookup x=some .local∨a.names.lookup x=some .cell
def Look(env:Env)(h:Heap)(m:Str->Option Value)(x:Str)(u:Value):Prop :=
 (env.kindOf x=some .local/\m x=some u)∨((env.kindOf x=some .cell∨env.kindOf x=some .free)/\∃ c,env.cells.lookup x=some c/\h.IsCell c (some u))
structure Cx.Ok(X:Cx):Prop where
 mod:Mod X.K X.mg X.base
 kind:X.env.scope.kind=.function
 glob:X.env.globals=LU
 blt:X.env.builtins=builtinsNs
 above:X.s₀.heap.objs.size<=X.env.locals
 inj:∀ x y c,X.env.cells.lookup x=some c->X.env.cells.lookup y=some c->x=y
 has:∀ x,(X.env.kindOf x=some .cell∨X.env.kindOf x=some .free)->∃ c,X.env.cells.lookup x=some c
 cab:∀ x c,X.fn x=true->X.env.cells.lookup x=some c->X.s₀.heap.objs.size<=c
 hd:X.calm=true->X.A.handled=none
 frames:X.A.frames=some X.stack
 stk:X.stack=X.outer∨(X.stack=X.env::X.outer/\X.env.frame=some X.env.locals)
 exf:∀ b∈X.ex,b≠X.env.locals/\∀ x c,X.env.cells.lookup x=some c->c≠b
 bs:∀ b o,X.base.get? b=some o->X.s₀.heap.get? b=some o/\X.H₀ b=none
 bsz:X.base.objs.size<=X.s₀.heap.objs.size
 noex:∀ b o,X.base.get? b=some o->b∉X.ex
 exfs:∀ b∈X.ex,b∉X.fs
 funs:X.s₀.heap.FunFrames X.base X.outer
 frf:∀ b∈X.fs,X.H₀ b=none
structure Inv(X:Cx)(pins:List (Addr×Obj))(σ:List (Option V))(H:Hp)(s:Shared):Prop where
 ok:X.Ok
 os:s.os=X.s₀.os
 bare:AllBare s.gens
 base:Un X.fs X.ex X.H₀ H X.s₀.heap s.heap
 loc:∃ m,s.heap.Ns X.env.locals m/\∀(i:Nat)(x:Str)(v:V),X.N[i]?=some x->σ[i]?=some (some v)->Vis X.env.scope x->∃ u,RelV v u/\Look X.env s.heap m x u
 cell:∀ x c,X.env.cells.lookup x=some c->∃ v,s.heap.IsCell c v
 free:H X.env.locals=none
 freeC:∀ x c,X.env.cells.lookup x=some c->H c=none
 pin:∀ p∈X.pn++pins,s.heap.get? p.1=some p.2/\H p.1=none/\p.1≠X.env.locals/\p.1∉X.fs/\∀ v,p.2.data≠.cell v
 hok:HOk X.prog X.w H s.heap
 len:σ.length=X.N.length
section
variable{X:Cx}{pins:List (Addr×Obj)}{σ:List (Option V)}{H H':Hp}{s:Shared}{h':Heap}
theorem Cx.Ok.nofr(ok:X.Ok){b:Addr}(e:X.base.get? b=some o):b∉X.fs:=λL=>by
 have:=(ok.funs.mem L).1;rw[e]at this;cases this
theorem Inv.bs(I:Inv X pins σ H s):∀ b o,X.base.get? b=some o->s.heap.get? b=some o/\H b=none:=λb o e =>
 ⟨I.base.keep b o (I.ok.bs b o e).1 (I.ok.bs b o e).2 (I.ok.nofr e) (I.ok.noex b o e),I.base.free b o (I.ok.bs b o e).1 (I.ok.bs b o e).2 (I.ok.noex b o e)⟩
theorem Inv.bk(I:Inv X pins σ H s):∀ b o,X.base.get? b=some o->s.heap.get? b=some o:=λb o e=>(I.bs b o e).1
theorem Inv.mod(I:Inv X pins σ H s):Mod X.K X.mg X.base:=I.ok.mod
theorem Inv.kIn(I:Inv X pins σ H s):X.K.In s.heap:=I.ok.mod.kin.keeps I.bk
theorem Inv.nolimit(I:Inv X pins σ H s):s.heap.NoLimit:=I.ok.mod.nolimit.keeps I.bk
theorem Inv.lt(I:Inv X pins σ H s):X.env.locals<s.heap.objs.size:=let ⟨_,T,_⟩:=I.loc;T.lt
theorem Inv.sz(I:Inv X pins σ H s):X.s₀.heap.objs.size<=s.heap.objs.size:=Ig I.ok.above (Hs I.lt)
theorem Inv.nofs(I:Inv X pins σ H s)(h:s.heap.objs.size<=a):a∉X.fs:=λL=>by
 obtain⟨_,o,D,_⟩:=I.ok.funs.mem L;exact Nr (Hv (LS D) (Ig I.sz h)) (Ia _)
theorem Inv.cne(I:Inv X pins σ H s):∀ x c,X.env.cells.lookup x=some c->c≠X.env.locals:=λx c e z=>by
 obtain⟨v,o,D,hd⟩:=I.cell x c e;obtain⟨m,⟨j,B,M,h,f,_⟩,_⟩:=I.loc;rw[z,h]at D;cases D;rw[f]at hd;cases hd
theorem Inv.funs(I:Inv X pins σ H s):s.heap.FunFrames X.base X.outer:=by
 have all:∀(l:List Env),(∀ b∈frs l,b∈X.fs)->X.s₀.heap.FunFrames X.base l->s.heap.FunFrames X.base l:=by
  intro l;induction l with
  |nil=>intro _ _;trivial
  |cons h r C =>
   intro T G;obtain⟨D,⟨L,o,p,i,c,hd⟩,N⟩:=G;have f:L∈X.fs:=T L (by unfold frs;rw[K6,p];exact G9)
   obtain⟨g,e⟩:=I.base.slot L o c (I.ok.frf L f) f λz=>I.ok.exfs L z f;exact⟨D,⟨L,_,p,i,e,hd⟩,C (λb d=>T b (by unfold frs;rw[K6,p];exact G4 _ d)) N⟩
 exact all X.outer (λ_ d=>d) I.ok.funs
theorem Inv.stack(I:Inv X pins σ H s):s.heap.FunFrames X.base X.stack:=by
 rcases I.ok.stk with e|⟨e,l⟩
 .rw[e];exact I.funs
 .rw[e];obtain⟨m,T,_⟩:=I.loc;refine .cons (by rw[I.ok.kind];decide) l T ?_ I.funs
  exact LW (Ig I.ok.bsz I.ok.above)
theorem Inv.stkSub(I:Inv X pins σ H s):∀ b∈frs X.stack,b∈X.env.locals::X.fs:=λb L=>by
 rcases I.ok.stk with e|⟨e,l⟩
 .rw[e]at L;exact G4 _ L
 .rw[e]at L;unfold frs at L;rw[K6,l]at L;exact L
theorem Inv.stkFree(I:Inv X pins σ H s):∀ b∈frs X.stack,H b=none:=λb L=>by
 rcases G6.mp (I.stkSub b L)with e|L
 .rw[e];exact I.free
 .obtain⟨_,o,D,_⟩:=I.ok.funs.mem L;exact I.base.free b o D (I.ok.frf b L) λz=>I.ok.exfs b z L
theorem Inv.step{g':Array GenState}{t':Nat}{d':Drawn}{ch:List Addr}(I:Inv X pins σ H s)(a:∀ b∈ch,(b∈X.ex∨X.s₀.heap.objs.size<=b)/\b≠X.env.locals/\(∀ x c,X.env.cells.lookup x=some c->c≠b)/\∀ p∈X.pn++pins,p.1≠b)(keep:∀ b o,b≠X.env.locals->b∉X.fs->b∉ch->s.heap.get? b=some o->H b=none->h'.get? b=some o)(slot:∀ b o,b≠X.env.locals->b∈X.fs->b∉ch->s.heap.get? b=some o->H b=none->∃ sl,h'.get? b=some {o with slots:=sl})(free:∀ b o,b∉ch->s.heap.get? b=some o->H b=none->H' b=none)(there:∀ b o,b∉ch->s.heap.get? b=some o->∃ j,h'.get? b=some j)(tups:∀ b xs,H b=some (.tup xs)->H' b=some (.tup xs))(frzs:∀ b o u,H b=some (.frz o u)->H' b=some (.frz o u))(tbls:∀ b ps,H b=some (.tbl ps)->∃ more,H' b=some (.tbl (ps++more)))(ns:∀ m,s.heap.Ns X.env.locals m->h'.Ns X.env.locals m)(A:HOk X.prog X.w H' h')(J:AllBare g'):
  Inv X pins σ H' {s with heap:=h',gens:=g',drawn:=d',toks:=t'}:=by
 have B:∀ b o,X.s₀.heap.get? b=some o->b≠X.env.locals:=λb o e=>Hr (Hv (LS e) I.ok.above);have Y:∀ b o,X.s₀.heap.get? b=some o->b∉X.ex->b∉ch:=λb o e O L=>by
  rcases(a b L).1 with z|z
  .exact O z
  .exact Nr (Hv (LS e) z) (Ia _)
 have y:∀ x c,X.env.cells.lookup x=some c->∀ v,s.heap.IsCell c v->h'.IsCell c v:=λx c e v ⟨o,D,hd⟩=>by
  have M:c∉ch:=λz=>(a c z).2.2.1 x c e rfl;by_cases C:c∈X.fs
  .obtain⟨sl,q⟩:=slot c o (I.cne x c e) C M D (I.freeC x c e);exact⟨_,q,hd⟩
  .exact⟨o,keep c o (I.cne x c e) C M D (I.freeC x c e),hd⟩
 refine⟨I.ok,I.os,J,⟨λb o e n L O=>?_,λb o e n L O=>?_,λb o e n O=>?_,λb o e O=>?_,λb xs e=>tups b xs (I.base.tups b xs e),λb o xs e=>frzs b o xs (I.base.frzs b o xs e),λb ps e=>?_⟩,?_,λx c e=>?_,?_,λx c e=>?_,λp g=>?_,A,I.len⟩
 .exact keep b o (B b o e) L (Y b o e O) (I.base.keep b o e n L O) (I.base.free b o e n O)
 .obtain⟨sl,f⟩:=I.base.slot b o e n L O;obtain⟨aa,E⟩:=slot b _ (B b o e) L (Y b o e O) f (I.base.free b o e n O);exact⟨aa,E⟩
 .obtain⟨j,f⟩:=I.base.there b o e O;exact free b j (Y b o e O) f (I.base.free b o e n O)
 .obtain⟨j,f⟩:=I.base.there b o e O;exact there b j (Y b o e O) f
 .obtain⟨t,f⟩:=I.base.tbls b ps e;obtain⟨h,E⟩:=tbls b _ f;exact⟨t++h,by rw[E,Array.append_assoc]⟩
 .obtain⟨m,T,G⟩:=I.loc;refine⟨m,ns m T,λi x v f E Q=>?_⟩;obtain⟨u,r,l⟩:=G i x v f E Q;refine⟨u,r,?_⟩;rcases l with l|⟨k,c,e,z⟩
  .exact .inl l
  .exact .inr ⟨k,c,e,y x c e _ z⟩
 .obtain⟨v,z⟩:=I.cell x c e;exact⟨v,y x c e v z⟩
 .obtain⟨m,⟨o,_,_,D,_⟩,_⟩:=I.loc;exact free _ o (λz=>(a _ z).2.1 rfl) D I.free
 .obtain⟨v,o,D,hd⟩:=I.cell x c e;exact free c o (λz=>(a c z).2.2.1 x c e rfl) D (I.freeC x c e)
 .obtain⟨e,n,ne,N,d⟩:=I.pin p g;have M:p.1∉ch:=λz=>(a p.1 z).2.2.2 p g rfl;exact⟨keep p.1 p.2 ne N M e n,free p.1 p.2 M e n,ne,N,d⟩
theorem Inv.un(I:Inv X pins σ H s)(u:Un X.fs [] H H' s.heap h')(A:HOk X.prog X.w H' h'):Inv X pins σ H' {s with heap:=h',toks:=t'}:=by
 obtain⟨m,⟨o,B,M,D,r⟩,_⟩:=id I.loc;obtain⟨c,f⟩:=u.any D I.free (by simp)
 exact I.step (g':=s.gens) (d':=s.drawn) (ch:=[]) (λ_ z=>nomatch z) (λb o _ L _ e n=>u.keep b o e n L (by simp)) (λb o _ L _ e n=>u.slot b o e n L (by simp)) (λb o _ e n=>u.free b o e n (by simp)) (λb o _ e=>u.there b o e (by simp)) u.tups u.frzs u.tbls (λd y=>by
  obtain⟨j,es',i,h,v⟩:=y;rw[D]at h;cases h
  exact⟨_,es',i,f,v⟩) A I.bare
theorem Inv.call{g':Array GenState}{d':Drawn}(I:Inv X pins σ H s)(u:Un (frs X.stack) ch H H' s.heap h')(A:HOk X.prog X.w H' h')(J:AllBare g')(a:∀ b∈ch,(b∈X.ex∨X.s₀.heap.objs.size<=b)/\b≠X.env.locals/\(∀ x c,X.env.cells.lookup x=some c->c≠b)/\∀ p∈X.pn++pins,p.1≠b):
  Inv X pins σ H' {s with heap:=h',gens:=g',drawn:=d',toks:=t'}:=by
 obtain⟨m,⟨o,B,M,D,r⟩,_⟩:=id I.loc;obtain⟨g,f⟩:=u.any D I.free λz=>(a _ z).2.1 rfl
 exact I.step (ch:=ch) a (λb o f L C e n=>u.keep b o e n (λz=>(G6.mp (I.stkSub b z)).elim f L) C) (λb o _ _ C e n=>u.any e n C) (λb o C e n=>u.free b o e n C) (λb o C e=>u.there b o e C) u.tups u.frzs u.tbls (λd y=>by
  obtain⟨j,es',i,h,v⟩:=y;rw[D]at h;cases h
  exact⟨_,es',i,f,v⟩) A J
theorem Inv.turned(I:Inv X pins σ H s)(k:∀ b o,b≠it->s.heap.get? b=some o->h'.get? b=some o)(T:H it=none)(f:it≠X.env.locals)(J:it∈X.ex∨X.s₀.heap.objs.size<=it)(h2:∀ x c,X.env.cells.lookup x=some c->c≠it)(A:∀ p∈X.pn++pins,p.1≠it):Inv X pins σ H {s with heap:=h',toks:=t'}:=by
 have a:∀ b u,H b=some u->b≠it:=λb u e z=>by rw[z,T]at e;cases e
 refine I.step (g':=s.gens) (d':=s.drawn) (ch:=[it]) (λb L=>?_) (λb o _ _ C e _=>k b o (λz=>C (by simp[z])) e) (λb o _ _ C e _=>⟨o.slots,k b o (λz=>C (by simp[z])) e⟩) (λ_ _ _ _ n=>n)
  (λb o C e=>⟨o,k b o (λz=>C (by simp[z])) e⟩) (λ_ _ e=>e) (λ_ _ _ e=>e) (λb G e=>⟨#[],by rw[e];simp⟩) (λm y=>?_) (λb u e=>?_) I.bare
 .have e:b=it:=by simpa using L
  subst e;exact⟨J,f,h2,A⟩
 .obtain⟨o,B,M,D,r⟩:=y;exact⟨o,B,M,k _ o (Ne.symm f) D,r⟩
 .refine(I.hok b u e).stay (λc v C q=>k c v ?_ q) (λ_ q=>q) λ_ _ q=>q;rcases C with z|z
  .rw[z];exact a b u e
  .exact a c _ z
theorem Inv.tok(I:Inv X pins σ H s)(t:Nat):Inv X pins σ H {s with toks:=t}:=I.un (h':=s.heap) (t':=t) Un.refl I.hok
theorem Inv.kept{t':Nat}(I:Inv X pins σ H s)(k:∀ b u,s.heap.get? b=some u->h'.get? b=some u):Inv X pins σ H {s with heap:=h',toks:=t'}:=I.un (Un.kept k) (I.hok.kept k)
theorem Inv.laid{a:Addr}{o:HO}{t':Nat}(I:Inv X pins σ H s)(k:∀ b u,s.heap.get? b=some u->h'.get? b=some u)(g:s.heap.objs.size<=a)(new:bC X.prog X.w (upd H a o) h' a o):
  Inv X pins σ (upd H a o) {s with heap:=h',toks:=t'}:=I.un (Un.laid k g (I.hok.fresh g)) (I.hok.laid k g new)
theorem Inv.write{x e:Addr}{o:HO}{t':Nat}(I:Inv X pins σ H s)(d:Mut (H x))(n:e=x∨H e=some (.own x))(k:∀ b u,b≠e->s.heap.get? b=some u->h'.get? b=some u)(f:∃ u,h'.get? e=some u)(new:bC X.prog X.w (upd H x o) h' x o):Inv X pins σ (upd H x o) {s with heap:=h',toks:=t'}:=I.un (Un.write d n k f) (I.hok.write d n k f new)
theorem Inv.weak{σ':List (Option V)}(I:Inv X pins σ H s)(hl:σ'.length=σ.length)(w:∀ (i:Nat) v,σ'[i]?=some (some v)->σ[i]?=some (some v)):Inv X pins σ' H s :=
 ⟨I.ok,I.os,I.bare,I.base,let ⟨m,T,g⟩:=I.loc;⟨m,T,λi x v f E u=>g i x v f (w i v E) u⟩,I.cell,I.free,I.freeC,I.pin,I.hok,hl.trans I.len⟩
theorem Inv.pins_of(I:Inv X pins σ H s)(h:∀ p∈J,s.heap.get? p.1=some p.2/\H p.1=none/\p.1≠X.env.locals/\p.1∉X.fs/\∀ v,p.2.data≠.cell v):Inv X J σ H s :=
 ⟨I.ok,I.os,I.bare,I.base,I.loc,I.cell,I.free,I.freeC,λp g=>(Hc.mp g).elim (λz=>I.pin p (HL _ z)) (h p),I.hok,I.len⟩
theorem xU{N:List Str}(k:N.Nodup)(a:N[i]?=some x)(b:N[j]?=some x):i=j:=by
 obtain⟨J,f⟩:=GV.mp a;obtain⟨Y,E⟩:=GV.mp b;exact(List.getElem_inj k).mp (f.trans E.symm)
theorem zP{M:Model}{v:V}{Q:Unit->Shared->Prop}(I:Inv X pins σ H s)(hN:X.N.Nodup)(hi:X.N[i]?=some x)(O:Loc X.env.scope x)(r:RelV v u)(h:∀ s',Inv X pins (σ.set i (some v)) H s'->(∃ a,LX a s.heap s'.heap/\(a=X.env.locals∨X.env.cells.lookup x=some a))->Q () s')(Y:X.fn x=true∨X.env.scope.names.lookup x=some .local:=by first|exact .inl rfl|exact .inr rfl|assumption):wpAny M A (storeName X.env x u) Q E s:=by
 obtain⟨m,t,G⟩:=id I.loc;have ae:(X.env.scope.kind == .class||(X.env.scope.kind == .module&&X.env.locals != X.env.globals))=false:=by rw[I.ok.kind];rfl
 have am:i<σ.length:=by rw[I.len];exact(GV.mp hi).1
 have cne:=I.cne;have aa:∀{a:Addr}{h':Heap},(∃ o,s.heap.get? a=some o/\H a=none)->LX a s.heap h'->HOk X.prog X.w H h':=λ{a h'} l T b ob e=>by
  obtain⟨_,_,al⟩:=l;refine(I.hok b ob e).stay (λc w' C q=>(T.2 c ?_).trans q) (λ_ q=>q) λ_ _ q=>q;rintro rfl;rcases C with rfl|C
  .rw[al]at e;cases e
  .rw[al]at C;cases C
 rcases O with D|D
 .refine wpAny_storeName_local D t (λh' an T=>?_) ae;obtain⟨oL,_,_,ab,_⟩:=id t;refine h _ ⟨I.ok,I.os,I.bare,⟨λb o e n L O=>?_,λb o e n L O=>?_,I.base.free,λb o e O=>?_,I.base.tups,I.base.frzs,I.base.tbls⟩,⟨_,an,λj y v' f B e3=>?_⟩,λy c e=>?_,I.free,I.freeC,λp g=>?_,aa ⟨oL,ab,I.free⟩ T,by simpa using I.len⟩ ⟨_,T,.inl rfl⟩
  .exact(T.2 b (Hr (Hv (LS e) I.ok.above))).trans (I.base.keep b o e n L O)
  .obtain⟨sl,f⟩:=I.base.slot b o e n L O;exact⟨sl,(T.2 b (Hr (Hv (LS e) I.ok.above))).trans f⟩
  .obtain⟨o',f⟩:=I.base.there b o e O;exact⟨o',(T.2 b (Hr (Hv (LS e) I.ok.above))).trans f⟩
  .by_cases hj:j=i
   .subst hj;rw[hi]at f;cases f;rw[Iv am]at B
    cases B
    exact⟨u,r,.inl ⟨D,by simp⟩⟩
   .rw[JC (Ne.symm hj)]at B;obtain⟨u',r',q⟩:=G j y v' f B e3;refine⟨u',r',?_⟩;rcases q with⟨k,e⟩|⟨k,c,e,z⟩
    .refine .inl ⟨k,?_⟩;have:y≠x:=λe=>hj (xU hN f (e▸hi));simp[this,e]
    .exact .inr ⟨k,c,e,z.sameBut T (cne y c e)⟩
  .obtain⟨w',z⟩:=I.cell y c e;exact⟨w',z.sameBut T (cne y c e)⟩
  .obtain⟨e,n,ne,nf,d⟩:=I.pin p g;exact⟨(T.2 p.1 ne).trans e,n,ne,nf,d⟩
 .have ap:X.fn x=true:=by
   rcases Y with z|z
   .exact z
   .rw[z]at D;cases D
  obtain⟨c,C⟩:=I.ok.has x (.inl D);obtain⟨w',z⟩:=I.cell x c C;refine wpAny_storeName_cell I.ok.kind D C z (λh' ac T=>?_);obtain⟨oc,aI,aL⟩:=id z;refine h {s with heap:=h'} ⟨I.ok,I.os,I.bare,⟨λb o e n L O=>?_,λb o e n L O=>?_,I.base.free,λb o e O=>?_,I.base.tups,I.base.frzs,I.base.tbls⟩,⟨m,t.sameBut T (Ne.symm (cne x c C)),λj y v' f B e3=>?_⟩,λy J e=>?_,I.free,I.freeC,λp g=>?_,aa ⟨oc,aI,I.freeC x c C⟩ T,by simpa using I.len⟩ ⟨c,T,.inr C⟩
  .exact(T.2 b (Hr (Hv (LS e) (I.ok.cab x c ap C)))).trans (I.base.keep b o e n L O)
  .obtain⟨sl,f⟩:=I.base.slot b o e n L O;exact⟨sl,(T.2 b (Hr (Hv (LS e) (I.ok.cab x c ap C)))).trans f⟩
  .obtain⟨o',f⟩:=I.base.there b o e O;exact⟨o',(T.2 b (Hr (Hv (LS e) (I.ok.cab x c ap C)))).trans f⟩
  .by_cases hj:j=i
   .subst hj;rw[hi]at f;cases f;rw[Iv am]at B
    cases B
    exact⟨u,r,.inr ⟨.inl D,c,C,ac⟩⟩
   .rw[JC (Ne.symm hj)]at B;obtain⟨u',r',q⟩:=G j y v' f B e3;refine⟨u',r',?_⟩;rcases q with q|⟨k,J,e,z'⟩
    .exact .inl q
    .refine .inr ⟨k,J,e,z'.sameBut T ?_⟩;rintro rfl;exact hj (xU hN f (I.ok.inj _ _ _ e C▸hi))
  .by_cases aS:J=c
   .subst aS;exact⟨_,ac⟩
   .obtain⟨w2,z2⟩:=I.cell y J e;exact⟨w2,z2.sameBut T aS⟩
  .obtain⟨e,n,ne,nf,d⟩:=I.pin p g;refine⟨(T.2 p.1 ?_).trans e,n,ne,nf,d⟩;intro q;rw[q,aI]at e;have q':oc=p.2:=Hq e;exact d w' (by rw[← q'];exact aL)
theorem mz{M:Model}{v:V}{Q:Unit->Shared->Prop}(I:Inv X pins σ H s)(k:X.N.Nodup)(hi:X.N[i]?=some x)(O:Loc X.env.scope x)(r:RelV v u)(h:∀ s',Inv X pins (σ.set i (some v)) H s'->Q () s')(l:X.fn x=true∨X.env.scope.names.lookup x=some .local:=by first|exact .inl rfl|exact .inr rfl|assumption):wpAny M A (storeName X.env x u) Q E s :=
 zP I k hi O r (λs' g _=>h s' g) l
theorem Inv.call'(I:Inv X pins σ H s)(D:s'.os=s.os)(u:Un (frs X.stack) ch H H' s.heap s'.heap)(A:HOk X.prog X.w H' s'.heap)(J:AllBare s'.gens)(a:∀ b∈ch,(b∈X.ex∨X.s₀.heap.objs.size<=b)/\b≠X.env.locals/\(∀ x c,X.env.cells.lookup x=some c->c≠b)/\∀ p∈X.pn++pins,p.1≠b):Inv X pins σ H' s':=by
 obtain⟨h',g',d',t',j⟩:=s';have e:j=s.os:=D;subst e;exact I.call (g':=g') (t':=t') (d':=d') u A J a
end
abbrev XK:=Value->Option Addr->Hp->Prop
abbrev St:=List (Option V)
abbrev VK:=V->Hp->Prop
abbrev TE:=St->Hp->VK->Prop
abbrev TT:=St->Hp->(Bool->Hp->Prop)->Prop
abbrev TA:=St->Hp->(List V->Hp->Prop)->Prop
set_option genInjectivity false in
structure Ends where
 nx:St->Hp->Prop
 rt:VK
 bk:St->Hp->Prop:=λ_ _=>False
 ct:St->Hp->Prop:=λ_ _=>False
abbrev TS:=Ends->St->Hp->Prop
def EP(X:Cx)(B:List (Addr×Obj))(σ:St)(Q:VK)(u:Value)(s':Shared):Prop:=∃ v l,Inv X B σ l s'/\RelV v u/\Q v l
def TP(X:Cx)(B:List (Addr×Obj))(σ:St)(Q:Bool->Hp->Prop)(b:Bool)(s':Shared):Prop:=∃ l,Inv X B σ l s'/\Q b l
def AP(X:Cx)(B:List (Addr×Obj))(σ:St)(Q:List V->Hp->Prop)(us:List Value)(s':Shared):Prop:=∃ m l,Inv X B σ l s'/\Vals m us/\Q m l
def SP(X:Cx)(B:List (Addr×Obj))(D:Ends)(f:Flow)(s':Shared):Prop :=
 match f with
 |.next=>∃ G l,Inv X B G l s'/\D.nx G l
 |.brk=>∃ G l,Inv X B G l s'/\D.bk G l
 |.cont=>∃ G l,Inv X B G l s'/\D.ct G l
 |.ret u=>∃ v G l,Inv X B G l s'/\RelV v u/\D.rt v l
def PE(X:Cx)(e:Expr)(t:TE):Prop :=
 ∀(B:List (Addr×Obj))(s:Shared)(M:St)(H:Hp)(Q:VK),Inv X B M H s->t M H Q->wpAny (model X.prog X.w) X.A (eval e X.env) (EP X B M Q) X.xe s
def PT(X:Cx)(e:Expr)(t:TT):Prop :=
 ∀(B:List (Addr×Obj))(s:Shared)(M:St)(H:Hp)(Q:Bool->Hp->Prop),Inv X B M H s->t M H Q->wpAny (model X.prog X.w) X.A (isTrue e X.env (eval e X.env)) (TP X B M Q) X.xe s
def PW(X:Cx)(e:Expr)(t:TT):Prop :=
 ∀(whole:Sem Value)(B:List (Addr×Obj))(s:Shared)(M:St)(H:Hp)(Q:Bool->Hp->Prop),Inv X B M H s->t M H Q->wpAny (model X.prog X.w) X.A (isTrue e X.env whole) (TP X B M Q) X.xe s
theorem PW.pt{X:Cx}{t:TT}(h:PW X e t):PT X e t:=h _
def PA(X:Cx)(es:List Expr)(t:TA):Prop :=
 ∀(a:Pos)(B:List (Addr×Obj))(s:Shared)(M:St)(H:Hp)(Q:List V->Hp->Prop),Inv X B M H s->t M H Q->wpAny (model X.prog X.w) X.A (spliced (backTo a (LY es X.env))) (AP X B M Q) X.xe s
def PS(X:Cx)(st:Stmt)(t:TS):Prop :=
 ∀(B:List (Addr×Obj))(s:Shared)(M:St)(H:Hp)(D:Ends),Inv X B M H s->t D M H->wpAny (model X.prog X.w) X.A (exec st X.env) (SP X B D) X.xe s
def PSs(X:Cx)(st:List Stmt)(t:TS):Prop :=
 ∀(B:List (Addr×Obj))(s:Shared)(M:St)(H:Hp)(D:Ends),Inv X B M H s->t D M H->wpAny (model X.prog X.w) X.A (execs st X.env) (SP X B D) X.xe s
theorem thn{t:Sem α}{Q N:α->Shared->Prop}{M:Model}(h:wpAny M A t Q E s)(p:∀ a s,Q a s->N a s):wpAny M A t N E s:=LZ h p λ_ _ x=>x
section
variable{X:Cx}
inductive tVar(i:Nat)(σ:L2.St)(H:L2.Hp)(Q:L2.VK):Prop
 |mk (v:_) (h0_:σ[i]?=some (some v))(h1_:Q v H)
def tC(v:V):TE:=λ_ H Q=>Q v H
theorem pe_var(k:X.N[i]?=some x)(O:Vis X.env.scope x)(hd:(x == ("__debug__" : Str))=false:=by decide)(L:(x == ("__classdict__" : Str))=false:=by decide):PE X (.Name x pos) (tVar i):=by
 intro B s M H Q I h;obtain⟨v,e,h⟩:=h;obtain⟨m,T,G⟩:=I.loc;obtain⟨u,r,l⟩:=G i x v k e O;have p:EP X B M Q u s:=⟨v,H,I,r,h⟩;rcases l with⟨D,y⟩|⟨D,c,C,a⟩
 .exact wpAny_Name (wpAny_loadName_local I.ok.kind D T y p) hd
 .rcases D with D|D
  .exact wpAny_Name (wpAny_loadName_cell I.ok.kind D C a p) hd
  .exact wpAny_Name (wpAny_loadName_free I.ok.kind D C a p L) hd
theorem ai{i j pos}:PE X (.Constant (.int i) j pos) (tC (.int i)):=λ_ _ _ H _ I h=>wpAny_Constant_int ⟨.int i,H,I.tok _,⟨_,rfl⟩,h⟩
theorem ve{b j pos}:PE X (.Constant (.bool b) j pos) (tC (.bl b)):=λ_ _ _ H _ I h=>Constant_bool ⟨.bl b,H,I,rfl,h⟩
theorem oW{j pos}:PE X (.Constant .none j pos) (tC .non):=λ_ _ _ H _ I h=>Constant_none ⟨.non,H,I,rfl,h⟩
theorem AB{x j pos}:PE X (.Constant (.str x) j pos) (tC (.str x)):=λ_ _ _ H _ I h=>Calls.Constant_str ⟨.str x,H,I.tok _,⟨_,rfl⟩,h⟩
def Gl(X:Cx)(x:Str):Prop:=X.env.kindOf x=some .globalImplicit
theorem jL{σ:St}{H:Hp}(I:Inv X J σ H s)(t:Gl X x)(y:X.mg x=some u)(h:Q u s)(hd:(x == ("__debug__" : Str))=false:=by decide):wpAny (model X.prog X.w) X.A (eval (.Name x pos) X.env) Q E s :=
 Calls.Name_function_global I.ok.kind t (Calls.loadGlobal_global (by rw[I.ok.glob];exact I.mod.glob.keeps I.bk) y h) hd
theorem jd{σ:St}{H:Hp}(I:Inv X J σ H s)(t:Gl X x)(y:X.mg x=none)(O:LV x=some u)(h:Q u s)(T:x≠"__name__":=by decide)(hd:(x == ("__debug__" : Str))=false:=by decide):wpAny (model X.prog X.w) X.A (eval (.Name x pos) X.env) Q E s:=by
 obtain⟨p,k,Y⟩:=I.mod.blt;exact Calls.Name_function_global I.ok.kind t (Calls.loadGlobal_builtin (by rw[I.ok.glob];exact I.mod.glob.keeps I.bk) y (by rw[I.ok.blt];exact k.keeps I.bk) ((Y x T).trans O) h) hd
theorem FD{v:V}(J:Gl X x)(y:X.mg x=some u)(r:RelV v u)(hd:(x == ("__debug__" : Str))=false:=by decide):PE X (.Name x pos) (tC v) :=
 λ_ _ _ H _ I h=>jL I J y ⟨v,H,I,r,h⟩ hd
theorem FF{v:V}(J:Gl X x)(y:X.mg x=none)(O:LV x=some u)(r:RelV v u)(T:x≠"__name__":=by decide)(hd:(x == ("__debug__" : Str))=false:=by decide):PE X (.Name x pos) (tC v) :=
 λ_ _ _ H _ I h=>jd I J y O ⟨v,H,I,r,h⟩ T hd
variable{a b:Expr}{ta tb:TE}{pos:Pos}
def PC(X:Cx)(op:CmpOp)(a b:Expr)(t:TE):Prop :=
 ∀(B:List (Addr×Obj))(s:Shared)(M:St)(H:Hp)(Q:VK),Inv X B M H s->t M H Q ->
  wpAny (model X.prog X.w) X.A (eval a X.env) (λv m=>wpAny (model X.prog X.w) X.A (eval b X.env) (λu d=>wpAny (model X.prog X.w) X.A (L0 op v u) (EP X B M Q) X.xe d) X.xe m) X.xe s
def tB(t:TE):TT:=λM H Q=>t M H λx Y=>∃ c,x=.bl c/\Q c Y
theorem xK{t:TE}(h:PC X op a b t)(J:behindInMarks op b=false:=by first|exact nobehind _ (by decide) (by decide)|rfl):PT X (.Compare a [op] [b] pos) (tB t):=by
 intro B s M H Q I r;refine wpAny_isTrue_Compare1 (thn (h B s M H _ I r) λv j J=>thn J λu E Y=>thn Y λc o ⟨x,e,i,w,k⟩=>?_) J;obtain⟨d,rfl,q⟩:=k
 cases w
 exact L9 ⟨e,i,q⟩
theorem oQ{t:TE}(h:PE X e t)(n:∀ whole,isTrue e X.env whole=(do let v ← whole;standAt e.pos;holding [v] (truthy v)):=by intro _;rfl):PT X e (tB t):=by
 intro B s M H Q I r;refine isTrue_plain (thn (h B s M H _ I r) λv j ⟨x,Y,i,w,E⟩=>?_) (n _);obtain⟨d,rfl,q⟩:=E
 cases w
 exact L9 ⟨Y,i,q⟩
variable{tA tB':TT}{rest:List Expr}
def tAnd(t u:TT):TT:=λM H Q=>t M H λc Y=>if c=true then u M Y Q else Q false Y
def tOr(t u:TT):TT:=λM H Q=>t M H λc Y=>if c=true then Q true Y else u M Y Q
def tNot(t:TT):TT:=λM H Q=>t M H λc Y=>Q (!c) Y
theorem uT(G:PT X a tA):PW X (.BoolOp .And [a] pos) tA:=by
 intro d B s M H Q I h;refine isTrue_and (thn (G B s M H Q I h) λc j e=>?_)
 cases c with
 |true=>exact isTrue_and_nil e
 |false=>exact e
theorem nh(G:PT X a tA):PW X (.BoolOp .Or [a] pos) tA:=by
 intro d B s M H Q I h;refine isTrue_or (thn (G B s M H Q I h) λc j e=>?_)
 cases c with
 |false=>exact isTrue_or_nil e
 |true=>exact e
theorem xJ(G:PT X a tA)(L:PW X (.BoolOp .And (b::rest) pos) tB'):PW X (.BoolOp .And (a::b::rest) pos) (tAnd tA tB'):=by
 intro d B s M H Q I h;refine isTrue_and (thn (G B s M H _ I h) λc j ⟨Y,i,E⟩=>?_)
 cases c with
 |true=>exact L d B j M Y Q i E
 |false=>exact⟨Y,i,E⟩
theorem sJ(G:PT X a tA)(L:PW X (.BoolOp .Or (b::rest) pos) tB'):PW X (.BoolOp .Or (a::b::rest) pos) (tOr tA tB'):=by
 intro d B s M H Q I h;refine isTrue_or (thn (G B s M H _ I h) λc j ⟨Y,i,E⟩=>?_)
 cases c with
 |true=>exact⟨Y,i,E⟩
 |false=>exact L d B j M Y Q i E
theorem Ar(G:PT X a tA):PT X (.UnaryOp .Not a pos) (tNot tA):=by
 intro B s M H Q I h;exact isTrue_not (G B s M H (λc Y=>Q (!c) Y) I h)
def tIf(t:TT)(ta tb:TE):TE:=λM H Q=>t M H λc Y=>if c=true then ta M Y Q else tb M Y Q
theorem gf{c:Expr}(C:PT X c tA)(G:PE X a ta)(L:PE X b tb):PE X (.IfExp c a b pos) (tIf tA ta tb):=by
 intro B s M H Q I h;refine wpAny_IfExp (thn (C B s M H _ I h) λd j ⟨Y,i,E⟩=>?_)
 cases d with
 |true=>exact G B j M Y Q i E
 |false=>exact L B j M Y Q i E
end
def SqL(K:GX)(H:Hp)(a:Addr)(xs:List V):Prop :=
 Rd H a (.lst xs) ∨
  ∃(o:Obj)(L:Array Value)(n:Nat),K.lookup a=some o/\o.cls=.type "list"/\o.dict=none/\o.data=.seq L n/\L.size<=LR/\Vals xs L.toList
def SqT(K:GX)(H:Hp)(a:Addr)(xs:List V):Prop :=
 Rd H a (.tup xs) ∨
  ∃(o:Obj)(L:Array Value)(n:Nat),K.lookup a=some o/\o.cls=.type "tuple"/\o.data=.seq L n/\L.size<=LR/\Vals xs L.toList
def absV:Value->Option V
 |.none=>some .non
 |.bool b=>some (.bl b)
 |.int i _=>some (.int i)
 |.str x _=>some (.str x)
 |.bytes b _=>some (.byt b)
 |.float b _=>some (.flt b)
 |.ref a=>some (.ref a)
 |.type n=>some (.ty n)
 |_=>none
theorem RelV.abs{x:V}(r:RelV x u):absV u=some x:=by
 cases x with
 |non=>cases r;rfl
 |bl _=>cases r;rfl
 |int _=>obtain⟨t,rfl⟩:=r;rfl
 |str _=>obtain⟨t,rfl⟩:=r;rfl
 |byt _=>obtain⟨t,rfl⟩:=r;rfl
 |flt _=>obtain⟨t,rfl⟩:=r;rfl
 |ref _=>cases r;rfl
 |ty _=>cases r;rfl
theorem RelV.inj{x y:V}(r:RelV x u)(q:RelV y u):x=y:=Hq (r.abs.symm.trans q.abs)
theorem Vals.inj:∀{xs ys:List V}{us:List Value},Vals xs us->Vals ys us->xs=ys
 |_,_,_,.nil,.nil=>rfl
 |_,_,_,.cons r t,.cons v m=>by rw[r.inj v,Vals.inj t m]
section
variable{X:Cx}{pins:List (Addr×Obj)}{σ:St}{H:Hp}{s:Shared}{a:Addr}{xs ys:List V}
theorem SqL.of(h:H a=some (.lst xs)):SqL K H a xs:=.inl (.inl h)
theorem SqT.of(h:H a=some (.tup xs)):SqT K H a xs:=.inl (.inl h)
theorem Inv.list(I:Inv X pins σ H s)(h:SqL X.K H a xs):∃ its:List Value,Vals xs its/\PlainL s.heap a its.toArray/\xs.length<=LR:=by
 rcases h with h|⟨o,its,n,D,C,hd,T,f,r⟩
 .obtain⟨z,its,n,r,e⟩:=h.ok I.hok;exact⟨its,r,⟨_,n,e,rfl,rfl,rfl⟩,z⟩
 .refine⟨its.toList,r,⟨o,n,I.kIn a o D,C,hd,by simpa using T⟩,?_⟩
  have e:=r.length;simp only[HB]at e;omega
theorem Inv.tuple(I:Inv X pins σ H s)(h:SqT X.K H a xs):∃ its:List Value,Vals xs its/\IsTup s.heap a its.toArray/\xs.length<=LR:=by
 rcases h with h|⟨o,its,n,D,C,T,f,r⟩
 .obtain⟨z,its,r,p⟩:=h.ok I.hok;exact⟨its,r,p,z⟩
 .refine⟨its.toList,r,⟨o,I.kIn a o D,C,n,by simpa using T⟩,?_⟩
  have e:=r.length;simp only[HB]at e;omega
theorem Inv.list_inj(I:Inv X pins σ H s)(h:SqL X.K H a xs)(h':SqL X.K H a ys):xs=ys:=by
 obtain⟨L,r,⟨o,n,e,_,_,d⟩,_⟩:=I.list h;obtain⟨b,v,⟨j,i,u,_,_,g⟩,_⟩:=I.list h';rw[e]at u;cases u;rw[d]at g;injection g with d1 _;have:L=b:=by simpa using congrArg Array.toList d1
 subst this;exact r.inj v
end
abbrev Cx.wish(X:Cx)(E:Value->Shared->Prop):Cx:={X with xe:=E}
abbrev Cx.nox(X:Cx):Cx:=X.wish λ_ _=>False
theorem Cx.Ok.wish{X:Cx}(ok:X.Ok)(E:Value->Shared->Prop):(X.wish E).Ok :=
 ⟨ok.mod,ok.kind,ok.glob,ok.blt,ok.above,ok.inj,ok.has,ok.cab,ok.hd,ok.frames,ok.stk,ok.exf,ok.bs,ok.bsz,ok.noex,ok.exfs,ok.funs,ok.frf⟩
theorem Cx.Ok.unwish{X:Cx}(ok:(X.wish E).Ok):X.Ok :=
 ⟨ok.mod,ok.kind,ok.glob,ok.blt,ok.above,ok.inj,ok.has,ok.cab,ok.hd,ok.frames,ok.stk,ok.exf,ok.bs,ok.bsz,ok.noex,ok.exfs,ok.funs,ok.frf⟩
section
variable{X:Cx}{pins:List (Addr×Obj)}{σ:St}{H:Hp}{s:Shared}{E:Value->Shared->Prop}
theorem Inv.wish(I:Inv X pins σ H s)(E:Value->Shared->Prop):Inv (X.wish E) pins σ H s:=⟨I.ok.wish E,I.os,I.bare,I.base,I.loc,I.cell,I.free,I.freeC,I.pin,I.hok,I.len⟩
theorem Inv.unwish(I:Inv (X.wish E) pins σ H s):Inv X pins σ H s:=⟨I.ok.unwish,I.os,I.bare,I.base,I.loc,I.cell,I.free,I.freeC,I.pin,I.hok,I.len⟩
theorem SP.unwish{D:Ends}{f:Flow}{s':Shared}(h:SP (X.wish E) pins D f s'):SP X pins D f s':=by
 cases f with
 |next=>obtain⟨G,l,I,q⟩:=h;exact⟨G,l,I.unwish,q⟩
 |brk=>obtain⟨G,l,I,q⟩:=h;exact⟨G,l,I.unwish,q⟩
 |cont=>obtain⟨G,l,I,q⟩:=h;exact⟨G,l,I.unwish,q⟩
 |ret u=>obtain⟨v,G,l,I,r,q⟩:=h;exact⟨v,G,l,I.unwish,r,q⟩
theorem PSs.nox{st:List Stmt}{t:TS}(h:PSs X.nox st t):PSs X st t:=λpins s σ H D I j =>
 LZ (h pins s σ H D (I.wish _) j) (λ_ _ q=>q.unwish) λ_ _ z=>False.elim z
end
section
variable{X:Cx}{st:Stmt}{rest:List Stmt}{t u:TS}{e:Expr}{te:TE}{pos:Pos}
def tNext:TS:=λD M H=>D.nx M H
def tSeq(t u:TS):TS:=λD M H=>t {D with nx:=u D} M H
theorem aO:PSs X [] tNext:=λ_ _ M H _ I h=>wpAny_execs_nil ⟨M,H,I,h⟩
theorem ah(J:PS X st t)(h2:PSs X rest u):PSs X (st::rest) (tSeq t u):=by
 intro B s M H D I h;refine wpAny_execs_cons (thn (J B s M H {D with nx:=u D} I h) λf j q=>?_)
 cases f with
 |next =>
  obtain⟨G,l,g,q⟩:=q;exact h2 B j G l D g q
 |ret v=>exact q
 |brk=>exact q
 |cont=>exact q
theorem ao(J:PS X st t):PSs X [st] t:=by
 intro B s M H D I h;refine wpAny_execs_cons (thn (J B s M H D I h) λf j q=>?_)
 cases f with
 |next=>exact wpAny_execs_nil q
 |ret v=>exact q
 |brk=>exact q
 |cont=>exact q
theorem Inv.quiet{σ:St}{H:Hp}(I:Inv X J σ H s):interactive X.env=false:=by simp[interactive,I.ok.kind]
def tDrop(te:TE):TS:=λD M H=>te M H λ_ Y=>D.nx M Y
theorem aU(n:PE X e te)(T:swapsWith e none pos.line X.env=pure false:=by rfl):PS X (.Expr e pos) (tDrop te):=by
 intro B s M H D I h;exact wpAny_Expr_any (thn (n B s M H _ I h) λv j ⟨x,Y,i,w,E⟩=>⟨M,Y,i,E⟩) I.quiet T
def tRet(te:TE):TS:=λD M H=>te M H D.rt
theorem aF(n:PE X e te):PS X (.Return (some e) pos) (tRet te):=by
 intro B s M H D I h;exact wpAny_Return_some (thn (n B s M H _ I h) λv j ⟨x,Y,i,w,E⟩=>⟨x,M,Y,i,w,E⟩)
def tIfS(c:TT)(t u:TS):TS:=λD M H=>c M H λb Y=>if b=true then t D M Y else u D M Y
theorem bP{c:Expr}{a b:List Stmt}{f:TT}(C:PT X c f)(G:PSs X a t)(L:PSs X b u):PS X (.If c a b pos) (tIfS f t u):=by
 intro B s M H D I h;refine wpAny_If (thn (C B s M H _ I h) λd j ⟨Y,i,E⟩=>?_)
 cases d with
 |true=>exact G B j M Y D i E
 |false=>exact L B j M Y D i E
def tNever:TS:=λ_ _ _=>False
theorem b9:PS X st tNever:=λ_ _ _ _ _ _ h=>h.elim
end
abbrev TG:=V->St->Hp->(St->Hp->Prop)->Prop
abbrev TGs:=List V->St->Hp->(St->Hp->Prop)->Prop
def PG(X:Cx)(b:Expr)(t:TG):Prop :=
 ∀(B:List (Addr×Obj))(s:Shared)(M:St)(H:Hp)(v:V)(u:Value)(Q:St->Hp->Prop),Inv X B M H s->RelV v u->t v M H Q ->
  wpAny (model X.prog X.w) X.A (assign b X.env u) (λ_ q=>∃ G l,Inv X B G l q/\Q G l) X.xe s
def PGs(X:Cx)(ts:List Expr)(t:TGs):Prop :=
 ∀(B:List (Addr×Obj))(s:Shared)(M:St)(H:Hp)(m:List V)(z:List Value)(Q:St->Hp->Prop),Inv X B M H s->Vals m z->t m M H Q ->
  wpAny (model X.prog X.w) X.A (assignInOrder ((Ma ts X.env).map (·.2)) z) (λ_ q=>∃ G l,Inv X B G l q/\Q G l) X.xe s
abbrev TSet:=V->V->V->Hp->(Hp->Prop)->Prop
def PSet(X:Cx)(t:TSet):Prop :=
 ∀(B:List (Addr×Obj))(s:Shared)(M:St)(H:Hp)(o i v:V)(k e u:Value)(Q:Hp->Prop),Inv X B M H s->RelV o k->RelV i e->RelV v u->t o i v H Q ->
  wpAny (model X.prog X.w) X.A (setItem k e u) (λ_ q=>∃ l,Inv X B M l q/\Q l) X.xe s
abbrev TIp:=V->V->Hp->VK->Prop
def PIp(X:Cx)(op:Operator)(t:TIp):Prop :=
 ∀(B:List (Addr×Obj))(s:Shared)(M:St)(H:Hp)(x y:V)(v u:Value)(Q:VK),Inv X B M H s->RelV x v->RelV y u->t x y H Q ->
  wpAny (model X.prog X.w) X.A (inplaceOp op v u) (EP X B M Q) X.xe s
section
variable{X:Cx}{pos:Pos}
def ml(i:Nat):TG:=λv M H Q=>Q (M.set i (some v)) H
theorem bQ(k:X.N.Nodup)(hi:X.N[i]?=some x)(O:Loc X.env.scope x)(l:X.fn x=true∨X.env.scope.names.lookup x=some .local:=by first|exact .inl rfl|exact .inr rfl|assumption):PG X (.Name x pos) (ml i):=by
 intro B s M H v u Q I r h;exact wpAny_assign_Name (mz I k hi O r (λq g=>⟨_,H,g,h⟩) l)
def gNil:TGs:=λm M H Q=>m=[]/\Q M H
inductive gCons(t:TG)(u:TGs)(vs:List L2.V)(σ:L2.St)(H:L2.Hp)(Q:(L2.St->L2.Hp->Prop)):Prop
 |mk (v r:_) (h0_:vs=v::r)(h1_:t v σ H λσ' H'=>u r σ' H' Q)
theorem dv:PGs X [] gNil:=by
 intro B s M H m z Q I r h;obtain⟨e,h⟩:=h;subst e
 cases r
 exact assignInOrder_nil ⟨M,H,I,h⟩
theorem aQ{es:List Expr}{t:TG}{u:TGs}(J:PG X e t)(h2:PGs X es u)(T:(Ma (e::es) X.env).map (·.2)=assign e X.env::(Ma es X.env).map (·.2):=by rfl):PGs X (e::es) (gCons t u):=by
 intro B s M H m z Q I r h;obtain⟨v,n,f,h⟩:=h;subst f
 cases r with
 |cons r D =>
  rw[T];refine assignInOrder_cons (thn (J B s M H _ _ _ I r h) λ_ j ⟨a,Y,i,E⟩=>?_);exact h2 B j a Y _ _ Q i D E
inductive gTup(K:GX)(n:Nat)(t:TGs)(v:L2.V)(σ:L2.St)(H:L2.Hp)(Q:(L2.St->L2.Hp->Prop)):Prop
 |mk (a xs:_) (h0_:v=.ref a)(h1_:SqT K H a xs)(h2_:xs.length=n)(h3_:t xs σ H Q)
theorem oS{es:List Expr}{k:Nat}{t:TGs}(C:X.calm=true)(h:PGs X es t)(i:(Ma es X.env).length=n:=by rfl)(c:(Ma es X.env).findIdx? (·.1)=none:=by rfl):PG X (.Tuple es k pos) (gTup X.K n t):=by
 intro B s M H v u Q I r j;obtain⟨a,D,f,g,G,j⟩:=j;subst f
 cases r
 obtain⟨L,rv,T,A⟩:=I.tuple g;refine assign_Tuple_tuple (I.ok.hd C) T (by simp[i,← G,rv.length]) c λp O=>?_
 have d:Inv X B M H {s with heap:=p}:=I.kept (t':=s.toks) λb o e=>O b o (Hr (LS e)) e;exact h B _ M H D _ Q d (by simpa using rv) j
def gSub(b a:TE)(t:TSet):TG:=λv M H Q=>b M H λo Y=>a M Y λi L=>t o i v L λq=>Q M q
theorem oU{o i:Expr}{b a:TE}{t:TSet}(D:PE X o b)(hi:PE X i a)(T:PSet X t)(G:∀ v,assign (.Subscript o i pos) X.env v=(do
   let ov ← holding [v] (eval o X.env)
   let e ← holding [v,ov] (eval i X.env)
   standAt pos
   holding [v,ov,e] (setItem ov e v)
   release [v,ov,e] []):=by intro _;rfl):PG X (.Subscript o i pos) (gSub b a t):=by
 intro B s M H v u Q I r h;rw[G];refine Mb (Mc (thn (D B s M H _ I h) λov j ⟨x,Y,d,w,E⟩=>?_));refine Mb (Mc (thn (hi B j M Y _ d E) λe J ⟨y,L,g,N,C⟩=>?_));refine Mb (wpAny_standAt (Mb (Mc (thn (T B J M L x y v ov e u _ g w N r C) λ_ p ⟨q,z,O⟩=>?_))));exact wpAny_release ⟨M,q,z,O⟩
def tAsg(f:TE)(g:TG):TS:=λD M H=>f M H λx Y=>g x M Y D.nx
theorem oR{r:Expr}{f:TE}{g:TG}(n:PE X e f)(t:PG X r g)(T:swapsWithSole [r] e pos.line X.env=pure false:=by rfl)(hw:swappedStores [r] e X.env=pure none:=by rfl)(J:(Ma [r] X.env).map (·.2)=[assign r X.env]:=by rfl):PS X (.Assign [r] e pos) (tAsg f g):=by
 intro B s M H D I h;refine wpAny_Assign_stores (thn (n B s M H _ I h) λv j ⟨x,Y,i,w,E⟩=>?_) T hw;rw[J];exact thn (t B j M Y x v _ i w E) λ_ d q=>q
theorem ps_set{f:TE}{a:Pos}(k:X.N.Nodup)(hi:X.N[i]?=some x)(O:Loc X.env.scope x)(n:PE X e f)(T:swapsWith e (some (.Name x a)) pos.line X.env=pure false:=by rfl)(l:X.fn x=true∨X.env.scope.names.lookup x=some .local:=by first|exact .inl rfl|exact .inr rfl|assumption):
  PS X (.Assign [.Name x a] e pos) (tAsg f (ml i)):=by
 intro B s M H D I h;refine wpAny_Assign_Name (thn (n B s M H _ I h) λv j ⟨y,Y,d,w,E⟩=>?_) T;exact mz d k hi O w (λJ g=>⟨_,Y,g,E⟩) l
inductive tAug(i:Nat)(te:TE)(ti:TIp)(D:L2.Ends)(σ:L2.St)(H:L2.Hp):Prop
 |mk (x:_) (h0_:σ[i]?=some (some x))(h1_:te σ H λy H1=>ti x y H1 λz H2=>D.nx (σ.set i (some z)) H2)
theorem ps_aug{te:TE}{op:Operator}{ti:TIp}{al:Pos}(hN:X.N.Nodup)(hi:X.N[i]?=some x)(O:Loc X.env.scope x)(n:PE X e te)(a:PIp X op ti)(p:X.fn x=true∨X.env.scope.names.lookup x=some .local:=by first|exact .inl rfl|exact .inr rfl|assumption):
  PS X (.AugAssign (.Name x al) op e pos) (tAug i te ti):=by
 intro B s M H D I h;obtain⟨v,f,h⟩:=h;obtain⟨m,T,G⟩:=I.loc;have am:Vis X.env.scope x:=by rcases O with k|k;exact .inl k;exact .inr (.inl k)
 obtain⟨u,r,l⟩:=G i x v hi f am;refine wpAny_AugAssign_Name ?_;have go:wpAny (model X.prog X.w) X.A (eval e X.env) (λw ac=>wpAny (model X.prog X.w) X.A (inplaceOp op u w) (λr aa=>wpAny (model X.prog X.w) X.A (storeName X.env x r) (λ_=>SP X B D .next) X.xe aa) X.xe ac) X.xe s:=by
  refine thn (n B s M H _ I h) λw j ab=>?_;obtain⟨y,Y,g,b,E⟩:=ab;refine thn (a B j M Y v y u w _ g r b E) λz J ab=>?_;obtain⟨zv,L,q,r2,Q⟩:=ab;exact mz q hN hi O r2 (λo I3=>⟨_,L,I3,Q⟩) p
 rcases l with⟨d,t⟩|⟨d,c,C,ae⟩
 .exact wpAny_loadName_local I.ok.kind d T t go
 .rcases d with d|d
  .exact wpAny_loadName_cell I.ok.kind d C ae go
  .rcases O with k|k
   .have:X.env.scope.names.lookup x=some .free:=d
    rw[k]at this;cases this
   .have:X.env.scope.names.lookup x=some .free:=d
    rw[k]at this;cases this
def ipI(f:Int->Int->Int):TIp:=λx y H Q=>∃ i j,x=.int i/\y=.int j/\Q (.int (f i j)) H
theorem ip_add:PIp X .Add (ipI λi j=>i+j):=by
 intro B s M H x y v u Q I w o h;obtain⟨i,j,f,E,q⟩:=h;subst f;subst E;obtain⟨t,rfl⟩:=w;obtain⟨m,rfl⟩:=o;exact iadd_int ⟨.int _,H,I.tok _,⟨_,rfl⟩,q⟩
inductive Eo(c:TT)(tb:TS)(D:L2.Ends)(σ:L2.St)(H:L2.Hp):Prop
 |mk (W:Nat->St->Hp->Prop) (h0_:(∃ m,W m σ H))(h1_:∀ m σ H,W m σ H ->
 c σ H λb H1=>if b=true then ∃ N:St->Hp->Prop,(∀ σ' H',N σ' H'->∃ m',m'<m/\W m' σ' H')/\tb {D with nx:=N,ct:=N,bk:=D.nx} σ H1 else D.nx σ H1)
theorem eO{c:Expr}{d:List Stmt}{tc:TT}{tb:TS}(g:PassesOwn (model X.prog X.w) X.A X.env X.xe)(C:PT X c tc)(L:PSs X d tb):PS X (.While c d [] pos) (Eo tc tb):=by
 intro B s M H D I h;obtain⟨W,⟨m0,E⟩,turn⟩:=h;refine wpAny_While (codeAny_whileLoop (λn t=>∃ G l,Inv X B G l t/\W n G l) ?_ m0 ⟨M,H,I,E⟩);rintro n j ⟨a,Y,i,u⟩;refine Md g (thn (C B j a Y _ i (turn n a Y u)) λb J ⟨o,m,Q⟩=>?_)
 cases b with
 |true =>
  obtain⟨N,k,Q⟩:=Q;rw[Np rfl];refine Md g (thn (L B J a o _ m Q) λf p O=>?_)
  cases f with
  |next =>
   obtain⟨e,q,z,T⟩:=O;obtain⟨r,y,x⟩:=k e q T;exact⟨r,y,e,q,z,x⟩
  |cont =>
   obtain⟨e,q,z,T⟩:=O;obtain⟨r,y,x⟩:=k e q T;exact⟨r,y,e,q,z,x⟩
  |brk=>exact O
  |ret v=>exact O
 |false =>
  rw[Nq Hj];exact wpAny_execs_nil ⟨a,o,m,Q⟩
end
set_option genInjectivity false in
structure It where
 go:Nat->Hp->Prop
 yld:Nat->Hp->V->Hp->Prop
 stop:Nat->Hp->Prop
def FpOk(X:Cx)(B:List (Addr×Obj))(H:Hp)(b:Addr):Prop :=
 H b=none/\b≠X.env.locals/\b∉X.fs/\(b∈X.ex∨X.s₀.heap.objs.size<=b)/\(∀ x c,X.env.cells.lookup x=some c->c≠b)/\∀ p∈X.pn++B,p.1≠b
theorem Inv.fpOk{X:Cx}{σ:St}{H H':Hp}{b:Addr}(I:Inv X J σ H s)(L:s.heap.objs.size<=b)(T:H' b=none):FpOk X J H' b:=by
 refine⟨T,IA (Hv I.lt L),I.nofs L,.inr (Ig I.sz L),λx c e z=>?_,λp g z=>?_⟩
 .obtain⟨v,q⟩:=I.cell x c e;exact Nr (Hv q.lt (by rw[z];exact L)) (Ia _)
 .exact Nr (Hv (LS (I.pin p g).1) (by rw[z];exact L)) (Ia _)
structure Turn(P:Program)(w:World)(K:GX)(tg:Expr)(J:It)(fp:List Addr)(it:Addr)(tn:Nat->Heap->Prop):Prop where
 mem:it∈fp
 obj:∀ i h,tn i h->∀ b∈fp,∃ o,h.get? b=some o/\∀ v,o.data≠.cell v
 keep:∀ i h h',tn i h->(∀ b∈fp,∀ o,h.get? b=some o->h'.get? b=some o)->tn i h'
 item:∀(X:Cx),X.prog=P->X.w=w->X.K=K->X.calm=true->∀(i:Nat)(pins:List (Addr×Obj))(s:Shared)(σ:St)(H:Hp)(E:Value->Shared->Prop),Inv X pins σ H s->(∀ b∈fp,FpOk X pins H b)->tn i s.heap->J.go i H ->
  wpAny (model P w) X.A (pyNext (.ref it)) (λr s1=>∃ u,r=some u /\
   wpAny (model P w) X.A (letOwnedTupleGo tg (.ref it) u) (λ_ s2=>∃ x H',Inv X pins σ H' s2/\RelV x u/\J.yld i H x H'/\tn (i+1) s2.heap/\∀ b∈fp,H' b=none) E s1) E s
 done:∀(X:Cx),X.prog=P->X.w=w->X.K=K->X.calm=true->∀(i:Nat)(pins:List (Addr×Obj))(s:Shared)(σ:St)(H:Hp)(E:Value->Shared->Prop),Inv X pins σ H s->(∀ b∈fp,FpOk X pins H b)->tn i s.heap->J.stop i H ->
  wpAny (model P w) X.A (pyNext (.ref it)) (λr s1=>r=none/\Inv X pins σ H s1) E s
 self:∀(A:Around)(i:Nat)(s:Shared)(Q:Value->Shared->Prop)(E:Value->Shared->Prop),tn i s.heap->Q (.ref it) s->wpAny (model P w) A (pyIter (.ref it)) Q E s
abbrev TI:=St->Hp->(It->Hp->Prop)->Prop
def PIE(X:Cx)(B:List (Addr×Obj))(σ:St)(r:Expr)(R:It->Hp->Prop)(d:Value)(s2:Shared):Prop :=
 ∃(e:Addr)(c:List Addr)(a:Nat->Heap->Prop)(J:It)(l:Hp),d=.ref e/\Inv X B σ l s2/\Turn X.prog X.w X.K r J c e a/\a 0 s2.heap/\(∀ b∈c,FpOk X B l b)/\R J l
def PI(X:Cx)(r d:Expr)(k:TI):Prop :=
 ∀(B:List (Addr×Obj))(s:Shared)(M:St)(H:Hp)(R:It->Hp->Prop),Inv X B M H s->k M H R ->
  wpAny (model X.prog X.w) X.A (eval d X.env) (λv j=>wpAny (model X.prog X.w) X.A (pyIter v) (PIE X B M r R) X.xe j) X.xe s
theorem DE{M:Model}{n:String}{vs:Array Value}{Q:Unit->Shared->Prop}(D:s.heap.get? it=some o)(C:o.cls=.type n)(hd:o.data=.fields vs)(T : ["enumerate","zip","dict_itemiterator","dict_reverseitemiterator","odict_iterator","itertools.zip_longest","itertools.pairwise"].contains n=false)(p:Q () s):wpAny M A (letOwnedTupleGo e (.ref it) u) Q E s:=by
 unfold letOwnedTupleGo
 cases e<;>first
  |exact Me p
  | (cases u<;>first
    |exact Me p
    | (refine Mb (wpAny_load D ?_)
       rw[C,hd]
       show wpAny M A (if(["enumerate","zip","dict_itemiterator","dict_reverseitemiterator","odict_iterator","itertools.zip_longest","itertools.pairwise"].contains n&&vs[0]? == some (rawInt _))=true then _ else _) Q E s
       rw[Nq (by intro h;rw[T,JE]at h;cases h)]
       exact Me p))
def Itl(K:GX)(a:Addr):It :=
 ⟨λi H=>∃ D x,SqL K H a D/\D[i]?=some x,λi H x l=>l=H/\∀ D,SqL K H a D->D[i]?=some x,λi H=>∃ D,SqL K H a D/\D.length<=i⟩
def Itr(lo:Int)(n:Nat):It:=⟨λi _=>i<n,λi H x l=>l=H/\x=.int (lo+i),λi _=>n<=i⟩
theorem zK{q:Expr}(a it:Addr):Turn P w K q (Itl K a) [it] it (λi h=>h.IsListIter it a i) where
 mem:=by simp
 obj:=λi h st b L=>by
  have e:b=it:=by simpa using L
  subst e;obtain⟨o,e,c,d⟩:=st;exact⟨o,e,λv z=>by rw[d]at z;cases z⟩
 keep:=λi h T st k=>st.at λo e=>k it (by simp) o e
 item:=by
  intro X hP r hK C i B s M H E I l st J;subst hP r hK;obtain⟨D,x,g,O⟩:=J;obtain⟨N,rv,p,A⟩:=I.list g;obtain⟨u,j,ru⟩:=rv.get O;obtain⟨f0,n,m,Y,f4,f5⟩:=l it (by simp)
  refine wpAny_pyNext_list_item st p.isList (x:=u) (by simpa using j) λT aa sb=>?_
  have f:Inv X B M H {s with heap:=T}:=I.turned (t':=s.toks) (λb o L e=>(sb.2 b L).trans e) f0 n Y f4 f5;obtain⟨o,e,c,d⟩:=id aa;exact⟨u,rfl,DE (s:={s with heap:=T}) e c d (by decide) ⟨x,H,f,ru,⟨rfl,λt Q=>by rw[I.list_inj Q g];exact O⟩,aa,λb L=>(l b L).1⟩⟩
 done:=by
  intro X hP r hK C i B s M H E I l st J;subst hP r hK;obtain⟨D,g,O⟩:=J;obtain⟨N,rv,p,A⟩:=I.list g;obtain⟨f0,n,m,Y,f4,f5⟩:=l it (by simp)
  have G:=rv.length;exact wpAny_pyNext_list_end (I.ok.hd C) st p.isList (by simp;omega) λT y=>⟨rfl,I.turned (t':=s.toks) (λb o L e=>y b o L e) f0 n Y f4 f5⟩
 self:=λ_ _ _ _ _ st h=>wpAny_pyIter_listiter st h
theorem yu{q:Expr}(it:Addr)(lo:Int)(n:Nat):Turn P w K q (Itr lo n) [it] it (λi h=>IsRangeIter h it (lo+(i:Nat)*1) ((n:Int)-(i:Nat)) 1) where
 mem:=by simp
 obj:=λi h st b L=>by
  have e:b=it:=by simpa using L
  subst e
  exact⟨_,st,λv z=>by
   have r:Data.fields _=Data.cell v:=z
   cases r⟩
 keep:=λi h T st k=>k it (by simp) _ st
 item:=by
  intro X D j m C i B s M H E I l st J;subst D j m;obtain⟨N,p,f,Y,g,x⟩:=l it (by simp)
  have W:=Walks.range (prog:=X.prog) (w:=X.w) (I.ok.hd C) it lo 1 n;refine W.item i s _ _ J st λv T u O a y=>?_;obtain⟨t,rfl⟩:=O;have d:Inv X B M H {s with heap:=T,toks:=u}:=I.turned (λb o L e=>y b o (by simpa using L) e) N p Y g x
  refine⟨_,rfl,DE (s:={s with heap:=T,toks:=u}) (n:="range_iterator") a rfl rfl (by decide) ⟨.int (lo+i),H,d,⟨t,?_⟩,⟨rfl,rfl⟩,a,λb L=>(l b L).1⟩⟩
  rw[Int.mul_one]
 done:=by
  intro X D j m C i B s M H E I l st J;subst D j m;obtain⟨N,p,f,Y,g,x⟩:=l it (by simp)
  exact wpAny_pyNext_range_end (I.ok.hd C) st (by have:n<=i:=J;omega) λT G=>⟨rfl,I.turned (t':=s.toks) (λb o L e=>G b o L e) N p Y g x⟩
 self:=λ_ _ _ _ _ st h=>wpAny_pyIter_rangeiter st h
section
variable{X:Cx}{tg:Expr}
def iList(K:GX)(tl:TE):TI:=λM H R=>tl M H λx Y=>∃ a,x=.ref a/\(∃ D,SqL K Y a D)/\R (Itl K a) Y
theorem aV{l:Expr}{tl:TE}(hl:PE X l tl):PI X tg l (iList X.K tl):=by
 intro B s M H R I h;refine thn (hl B s M H _ I h) λv j T=>?_;obtain⟨x,Y,i,w,E⟩:=T;obtain⟨a,e,⟨D,g⟩,q⟩:=E;subst e
 cases w
 obtain⟨N,rv,p,f⟩:=i.list g;refine wpAny_pyIter_list p.isList ?_;refine⟨j.heap.objs.size,[j.heap.objs.size],_,_,Y,rfl,i.kept (t':=j.toks) λb o e=>Mf _ e,zK a _,⟨_,Mg _ rfl,rfl,rfl⟩,λb L=>?_,q⟩;have e:b=j.heap.objs.size:=by simpa using L
 subst e;exact i.fpOk (G0 _) (i.hok.fresh (G0 _))
theorem CL{σ:St}{H:Hp}{R:It->Hp->Prop}{lo hi:Int}{t u v:Tok}{tk:Nat}(I:Inv X J σ H s)(k : -(2^62)<=lo)(h2:lo<2^62)(j : -(2^62)<=hi)(M:hi<2^62)(q:R (Itr lo (hi-lo).toNat) H):wpAny (model X.prog X.w) X.A (pyIter (.ref s.heap.objs.size)) (PIE X J σ tg R) E {s with heap:=s.heap.push {cls:=.type "range",data:=.fields #[.int lo t,.int hi u,.int 1 v]},toks:=tk}:=by
 refine wpAny_pyIter_range (IsRange.new ..) (small_one k h2 j M) ?_;have i:Inv X J σ H {s with heap:=s.heap.push {cls:=.type "range",data:=.fields #[.int lo t,.int hi u,.int 1 v]},toks:=tk}:=I.kept λb o e=>Mf _ e
 refine⟨(s.heap.push {cls:=.type "range",data:=.fields #[.int lo t,.int hi u,.int 1 v]}).objs.size,[(s.heap.push {cls:=.type "range",data:=.fields #[.int lo t,.int hi u,.int 1 v]}).objs.size],_,_,H,rfl,
  i.kept (t':=tk) λb o e=>Mf _ e,yu _ lo (hi-lo).toNat,?_,λb L=>?_,q⟩
 .have f:lo+((0:Nat):Int)*1=lo:=by simp
  have B:(((hi-lo).toNat:Nat):Int)-((0:Nat):Int)=Mh lo hi 1:=by rw[rangeSize_one];split<;>ac_rfl
  show IsRangeIter _ _ (lo+((0:Nat):Int)*1) ((((hi-lo).toNat:Nat):Int)-((0:Nat):Int)) 1;rw[f,B];exact Mg _ rfl
 .have e:b=(s.heap.push {cls:=.type "range",data:=.fields #[.int lo t,.int hi u,.int 1 v]}).objs.size:=by simpa using L
  subst e;exact i.fpOk (G0 _) (i.hok.fresh (G0 _))
def iRng1(l:TA):TI:=λM H R=>l M H λm Y=>∃ j:Int,m=[.int j]/\-(2^62)<=j/\j<2^62/\R (Itr 0 j.toNat) Y
theorem aP{a:Expr}{l:TA}{p:Pos}(J:Gl X "range")(y:X.mg "range"=none)(G:PA X [a] l)(T:LY [a] X.env=[(false,eval a X.env)]:=by rfl):PI X tg (.Call (.Name "range" p) [a] [] pos) (iRng1 l):=by
 intro B s M H R I h;refine Call_ (jd I J y boot_range (Mi (thn (G pos B s M H _ I h) λz v ⟨m,Y,i,w,E⟩=>?_) T rfl));obtain⟨j,e,E,C,q⟩:=E;subst e
 cases w with
 |cons r D =>
  cases D
  obtain⟨t,rfl⟩:=r;exact call_range_1 (CL i ∅ ∅ E C (by simpa using q))
def tFor(k:TI)(g:TG)(tb:TS):TS:=λD M H=>k M H λJ Y=>∃ W:Nat->Nat->St->Hp->Prop,(∃ m,W 0 m M Y)/\∀ i m M H,W i m M H ->
 (J.stop i H/\D.nx M H)∨(J.go i H/\∃ N:St->Hp->Prop,(∀ G l,N G l->∃ r,r<m/\W (i+1) r G l)/\∀ x l,J.yld i H x l->g x M l λh L=>tb {D with nx:=N,ct:=N,bk:=D.nx} h L)
def xN(fp:List Addr)(h:Heap):List (Addr×Obj):=fp.filterMap λb=>(h.get? b).map λo=>(b,o)
theorem iQ{b:Addr}(L:b∈fp)(e:h.get? b=some o):(b,o)∈xN fp h:=K9.mpr ⟨b,L,by rw[e];rfl⟩
theorem AR{p:Addr×Obj}(g:p∈xN fp h):p.1∈fp/\h.get? p.1=some p.2:=by
 obtain⟨b,L,e⟩:=K9.mp g
 cases q:h.get? b with
 |none=>rw[q]at e;cases e
 |some o =>
  rw[q]at e;have u:(b,o)=p:=Hq e;subst u;exact⟨L,q⟩
theorem Inv.pinned{σ:St}{H:Hp}(I:Inv X J σ H s)(l:∀ b∈fp,FpOk X J H b)(D:∀ b∈fp,∃ o,s.heap.get? b=some o/\∀ v,o.data≠.cell v):Inv X (J++xN fp s.heap) σ H s :=
 I.pins_of λp g=>(Hc.mp g).elim (λz=>I.pin p (HE _ z)) λz=>by
  obtain⟨L,e⟩:=AR z;obtain⟨N,A,f,_⟩:=l p.1 L;obtain⟨o,u,d⟩:=D p.1 L;rw[e]at u;cases u;exact⟨e,N,A,f,d⟩
theorem Inv.unpinned{pl:List (Addr×Obj)}{σ:St}{H:Hp}(I:Inv X (J++pl) σ H s):Inv X J σ H s:=I.pins_of λp g=>I.pin p (HE _ (HL _ g))
theorem bz{ac:Expr}{aa:List Stmt}{wi:TI}{g:TG}{tb:TS}(q:PassesOwn (model X.prog X.w) X.A X.env X.xe)(C:X.calm=true)(hi:PI X tg ac wi)(Q:PG X tg g)(L:PSs X aa tb)(y:∀ x,Mj ac X.env x=pure x:=by intro _;rfl):PS X (.For tg ac aa [] pos) (tFor wi g tb):=by
 intro B s M H D I h;refine wpAny_For (thn (hi B s M H _ I h) λv l k=>thn k λaS E Y=>?_) y;obtain⟨it,fp,tn,J,p,e,I2,T,ab,f2,W,⟨m0,w0⟩,turn⟩:=Y;subst e;have al:∀{H':Hp},(∀ b∈fp,H' b=none)->∀ b∈fp,FpOk X B H' b:=λO b L=>⟨O b L,(f2 b L).2⟩;refine codeAny_forLoop_any (λn s'=>∃ i G H',Inv X B G H' s'/\tn i s'.heap/\(∀ b∈fp,H' b=none)/\W i n G H') ?_ m0 ⟨0,M,p,I2,ab,λb L=>(f2 b L).1,w0⟩;rintro n a ⟨i,ae,c,I3,aI,aL,w3⟩;rcases turn i n ae c w3 with⟨stop,qn⟩|⟨go,N,hN,step⟩
 .refine Md q (thn (T.done X rfl rfl rfl C i B a ae c X.xe I3 (al aL) aI stop) λr s4 ⟨j,I4⟩=>?_);subst j;exact wpAny_execs_nil ⟨ae,c,I4,qn⟩
 .refine Md q (thn (T.item X rfl rfl rfl C i B a ae c X.xe I3 (al aL) aI go) λr s4 ⟨u,j,h4⟩=>?_);subst j;refine Md q (thn h4 λ_ s5 ⟨x,z,I5,r5,y5,an,aT⟩=>?_);have aW:=I5.pinned (al aT) (T.obj _ _ an);refine Md q (thn (Q _ s5 ae z x u _ aW r5 (step x z y5)) λ_ s6 ⟨ap,H6,I6,q6⟩=>?_);refine Md q (thn (L _ s6 ap H6 _ I6 q6) λf s7 q7=>?_);have again:∀{am:St}{H7:Hp},Inv X (B++xN fp s5.heap) am H7 s7->N am H7->∃ m,m<n/\∃ i G H',Inv X B G H' s7/\tn i s7.heap/\(∀ b∈fp,H' b=none)/\W i m G H':=λ{am H7} I7 n7=>by
   obtain⟨m',t,w7⟩:=hN am H7 n7;refine⟨m',t,i+1,am,H7,I7.unpinned,T.keep _ _ _ an λb L o e=>(I7.pin (b,o) (HE _ (HE _ (iQ L e)))).1,λb L=>?_,w7⟩;obtain⟨o,e,d⟩:=T.obj _ _ an b L;exact(I7.pin (b,o) (HE _ (HE _ (iQ L e)))).2.1
  cases f with
  |next=>obtain⟨am,H7,I7,n7⟩:=q7;exact again I7 n7
  |cont=>obtain⟨am,H7,I7,n7⟩:=q7;exact again I7 n7
  |brk=>obtain⟨am,H7,I7,q7⟩:=q7;exact⟨am,H7,I7.unpinned,q7⟩
  |ret v=>obtain⟨x7,am,H7,I7,r7,q7⟩:=q7;exact⟨x7,am,H7,I7.unpinned,r7,q7⟩
end
theorem bM{xs:List V}{g:TG}{tb:TS}{D:Ends}{σ:St}{H:Hp}(Pv:Nat->St->Hp->Prop)(o:Pv 0 σ H)(hl:∀ i σ H,i<=xs.length->Pv i σ H->SqL K H a xs)(T:∀ i x σ H,xs[i]?=some x->Pv i σ H->g x σ H λh H2=>tb {D with nx:=Pv (i+1),ct:=Pv (i+1),bk:=D.nx} h H2)(hd:∀ σ H,Pv xs.length σ H->D.nx σ H):
  ∃ W:Nat->Nat->St->Hp->Prop,(∃ m,W 0 m σ H)/\∀ i m σ H,W i m σ H ->
   ((Itl K a).stop i H/\D.nx σ H)∨((Itl K a).go i H/\∃ N:St->Hp->Prop,(∀ σ' H',N σ' H'->∃ r,r<m/\W (i+1) r σ' H')/\∀ x H',(Itl K a).yld i H x H'->g x σ H' λh H2=>tb {D with nx:=N,ct:=N,bk:=D.nx} h H2):=by
 refine⟨λi m σ H=>m=xs.length-i/\i<=xs.length/\Pv i σ H,⟨xs.length,by simp,HI _,o⟩,?_⟩
 rintro i m σ H ⟨rfl,I,p⟩;have q:=hl i σ H I p;by_cases G:i<xs.length
 .refine .inr ⟨⟨xs,xs[i],q,by simp[G]⟩,Pv (i+1),λσ' H' L=>⟨xs.length-(i+1),∅,rfl,G,L⟩,λx H' y=>?_⟩
  obtain⟨e,y⟩:=y;subst e;exact T i x σ _ (y xs q) p
 .have e:i=xs.length:=by omega
  subst e;exact .inl ⟨⟨xs,q,G0 _⟩,hd σ H p⟩
theorem b8{lo:Int}{g:TG}{tb:TS}{D:Ends}{σ:St}{H:Hp}(Pv:Nat->St->Hp->Prop)(o:Pv 0 σ H)(T:∀ i σ H,i<n->Pv i σ H->g (.int (lo+i)) σ H λh H2=>tb {D with nx:=Pv (i+1),ct:=Pv (i+1),bk:=D.nx} h H2)(hd:∀ σ H,Pv n σ H->D.nx σ H):
  ∃ W:Nat->Nat->St->Hp->Prop,(∃ m,W 0 m σ H)/\∀ i m σ H,W i m σ H ->
   ((Itr lo n).stop i H/\D.nx σ H)∨((Itr lo n).go i H/\∃ N:St->Hp->Prop,(∀ σ' H',N σ' H'->∃ r,r<m/\W (i+1) r σ' H')/\∀ x H',(Itr lo n).yld i H x H'->g x σ H' λh H2=>tb {D with nx:=N,ct:=N,bk:=D.nx} h H2):=by
 refine⟨λi m σ H=>m=n-i/\i<=n/\Pv i σ H,⟨n,by simp,HI _,o⟩,?_⟩
 rintro i m σ H ⟨rfl,I,p⟩;by_cases G:i<n
 .refine .inr ⟨G,Pv (i+1),λσ' H' L=>⟨n-(i+1),∅,rfl,G,L⟩,λx H' y=>?_⟩
  obtain⟨e,y⟩:=y;subst e y;exact T i σ _ G p
 .have e:i=n:=by omega
  subst e;exact .inl ⟨G0 _,hd σ H p⟩
theorem fM{c:TT}{tb:TS}{D:Ends}{σ:St}{H:Hp}(Pv:St->Hp->Prop)(a:St->Hp->Nat)(o:Pv σ H)(T:∀ σ H,Pv σ H->c σ H λb H1=>if b=true then tb {D with nx:=λσ' H'=>Pv σ' H'/\a σ' H'<a σ H,ct:=λσ' H'=>Pv σ' H'/\a σ' H'<a σ H,bk:=D.nx} σ H1 else D.nx σ H1)(mono:∀ σ H Q N,(∀ b H1,Q b H1->N b H1)->c σ H Q->c σ H N):Eo c tb D σ H:=by
 refine⟨λm σ H=>m=a σ H/\Pv σ H,⟨_,rfl,o⟩,?_⟩;rintro m σ H ⟨rfl,p⟩;refine mono σ H _ _ (λb H1 q=>?_) (T σ H p)
 cases b with
 |true=>exact⟨_,λσ' H' ⟨L,l⟩=>⟨_,l,rfl,L⟩,q⟩
 |false=>exact q
abbrev R2:=V->V->Hp->VK->Prop
def OpR(X:Cx)(f:Value->Value->Sem Value)(r:R2):Prop :=
 ∀(B:List (Addr×Obj))(s:Shared)(M:St)(H:Hp)(x y:V)(v u:Value)(Q:VK),Inv X B M H s->RelV x v->RelV y u->r x y H Q ->
  wpAny (model X.prog X.w) X.A (f v u) (EP X B M Q) X.xe s
def UnR(X:Cx)(f:Value->Sem Value)(r:V->Hp->VK->Prop):Prop :=
 ∀(B:List (Addr×Obj))(s:Shared)(M:St)(H:Hp)(x:V)(v:Value)(Q:VK),Inv X B M H s->RelV x v->r x H Q ->
  wpAny (model X.prog X.w) X.A (f v) (EP X B M Q) X.xe s
def gR(X:Cx)(f:Value)(r:List V->Hp->VK->Prop):Prop :=
 ∀(B:List (Addr×Obj))(s:Shared)(M:St)(H:Hp)(D:List V)(z:List Value)(Q:VK),Inv X B M H s->Vals D z->r D H Q ->
  wpAny (model X.prog X.w) X.A (call f z) (EP X B M Q) X.xe s
def tOp(r:R2)(l tb:TE):TE:=λM H Q=>l M H λx Y=>tb M Y λy L=>r x y L Q
def tUn(r:V->Hp->VK->Prop)(l:TE):TE:=λM H Q=>l M H λx Y=>r x Y Q
inductive rI(C:Int->Int->Prop)(g:Int->Int->V)(x:L2.V)(y:L2.V)(H:L2.Hp)(Q:L2.VK):Prop
 |mk (i j:_) (h0_:x=.int i)(h1_:y=.int j)(h2_:C i j)(h3_:Q (g i j) H)
inductive rI0(g:Int->Int->V)(x:L2.V)(y:L2.V)(H:L2.Hp)(Q:L2.VK):Prop
 |mk (i j:_) (h0_:x=.int i)(h1_:y=.int j)(h2_:Q (g i j) H)
inductive rU(g:Int->V)(x:L2.V)(H:L2.Hp)(Q:L2.VK):Prop
 |mk (i:_) (h0_:x=.int i)(h1_:Q (g i) H)
section
variable{X:Cx}{a b c:Expr}{ta tb tc:TE}{pos:Pos}
theorem binT(G:PE X a ta)(L:PE X b tb){σ:St}{H:Hp}{R:V->V->Hp->Prop}(I:Inv X J σ H s)(h:ta σ H λx H1=>tb σ H1 λy H2=>R x y H2){f:Value->Value->Sem Value}(l:∀ v u s2 x y H2,Inv X J σ H2 s2->RelV x v->RelV y u->R x y H2->wpAny (model X.prog X.w) X.A (f v u) Q X.xe s2):
  wpAny (model X.prog X.w) X.A (eval a X.env) (λv s₁=>wpAny (model X.prog X.w) X.A (eval b X.env) (λu s₂=>wpAny (model X.prog X.w) X.A (f v u) Q X.xe s₂) X.xe s₁) X.xe s:=by
 refine thn (G J s σ H _ I h) λv j T=>?_;obtain⟨x,H1,i,B,E⟩:=T;refine thn (L J j σ H1 _ i E) λu s2 T=>?_;obtain⟨y,H2,g,o,C⟩:=T;exact l v u s2 x y H2 g B o C
theorem aw{op:Operator}{r:R2}(D:OpR X (Ml op) r)(G:PE X a ta)(L:PE X b tb):PE X (.BinOp a op b pos) (tOp r ta tb):=by
 intro B s M H Q I h;exact wpAny_BinOp (binT G L I h λv u J x y o g d c q=>D B J M o x y v u Q g d c q)
theorem CO{op:UnaryOp}{r:V->Hp->VK->Prop}(D:UnR X (unaryOp op) r)(G:PE X a ta):PE X (.UnaryOp op a pos) (tUn r ta):=by
 intro B s M H Q I h;exact UnaryOp_ (thn (G B s M H _ I h) λv j ⟨x,Y,i,w,E⟩=>D B j M Y x v Q i w E)
theorem opI{f:Value->Value->Sem Value}{C:Int->Int->Prop}{g:Int->Int->Int}(rule:∀(i j:Int)(t u:Tok)(s:Shared)(Q:Value->Shared->Prop)(E:Value->Shared->Prop),C i j->Q (.int (g i j) s.toks) {s with toks:=s.toks+1}->wpAny (model X.prog X.w) X.A (f (.int i t) (.int j u)) Q E s):
  OpR X f (rI C λi j=>.int (g i j)):=by
 intro B s M H x y v u Q I d c h;obtain⟨i,j,rfl,rfl,G,q⟩:=h;obtain⟨t,rfl⟩:=d;obtain⟨m,rfl⟩:=c;exact rule i j t m s _ _ G ⟨.int (g i j),H,I.tok _,⟨_,rfl⟩,q⟩
theorem opI0{f:Value->Value->Sem Value}{g:Int->Int->Int}(rule:∀(i j:Int)(t u:Tok)(s:Shared)(Q:Value->Shared->Prop)(E:Value->Shared->Prop),Q (.int (g i j) s.toks) {s with toks:=s.toks+1}->wpAny (model X.prog X.w) X.A (f (.int i t) (.int j u)) Q E s):
  OpR X f (rI0 λi j=>.int (g i j)):=by
 intro B s M H x y v u Q I d c h;obtain⟨i,j,rfl,rfl,q⟩:=h;obtain⟨t,rfl⟩:=d;obtain⟨m,rfl⟩:=c;exact rule i j t m s _ _ ⟨.int (g i j),H,I.tok _,⟨_,rfl⟩,q⟩
theorem opB0{f:Value->Value->Sem Value}{g:Int->Int->Bool}(rule:∀(i j:Int)(t u:Tok)(s:Shared)(Q:Value->Shared->Prop)(E:Value->Shared->Prop),Q (.bool (g i j)) s->wpAny (model X.prog X.w) X.A (f (.int i t) (.int j u)) Q E s):
  OpR X f (rI0 λi j=>.bl (g i j)):=by
 intro B s M H x y v u Q I d c h;obtain⟨i,j,rfl,rfl,q⟩:=h;obtain⟨t,rfl⟩:=d;obtain⟨m,rfl⟩:=c;exact rule i j t m s _ _ ⟨.bl (g i j),H,I,rfl,q⟩
def CDiv(i j:Int):Prop:=0<j/\j<1073741824
def CPow(i j:Int):Prop:=0<=j/\j<=1000000/\i.natAbs<2^64
def CMul(i j:Int):Prop:=(-(2^64)<i/\i<2^64)∨(-(2^64)<j/\j<2^64)
theorem CMul.ok{i j:Int}(h:CMul i j):IntMulOk i j:=by
 rcases h with⟨J,Y⟩|⟨J,Y⟩
 .exact .of_left (intBits_le_64 J Y)
 .exact .of_right (intBits_le_64 J Y)
theorem yt(k:Nat):(0:Int)<=2^k:=by
 rw[two_pow_cast];exact Jw _
theorem bL:OpR X (Ml .Add) (rI0 λi j=>.int (i+j)):=opI0 λ_ _ _ _ _ _ _ q=>add_int q
theorem eQ:OpR X (Ml .Sub) (rI0 λi j=>.int (i-j)):=opI0 λ_ _ _ _ _ _ _ q=>sub_int q
theorem cM:OpR X (Ml .Mult) (rI CMul λi j=>.int (i*j)):=opI λ_ _ _ _ _ _ _ C q=>mul_int q C.ok
theorem cN:OpR X (Ml .FloorDiv) (rI CDiv λi j=>.int (i/j)):=opI λi j _ _ _ _ _ C q=>by
 have J:(0:Int)<j:=C.1;have Y:j<1073741824:=C.2;exact floordiv_int ∅ (by rw[Lx i ∅];exact q) (.inl (PyProof.noPylong_small ∅))
theorem bq:OpR X (Ml .Mod) (rI (λ_ j=>0<j) λi j=>.int (i%j)):=opI λi j _ _ _ _ _ C q=>by
 have J:(0:Int)<j:=C;exact mod_int' ∅ (by rw[Int.fmod_eq_emod_of_nonneg i ∅];exact q)
theorem AH:OpR X (Ml .Pow) (rI CPow λi j=>.int (i^j.toNat)):=opI λ_ _ _ _ _ _ _ C q=>pow_int_small C.1 C.2.1 C.2.2 q
theorem bW:OpR X (Ml .LShift) (rI CPow λi j=>.int (i*2^j.toNat)):=opI λ_ _ _ _ _ _ _ C q=>lshift_int_small C.1 C.2.1 C.2.2 q
theorem i9:OpR X (Ml .RShift) (rI (λ_ j=>0<=j) λi j=>.int (i/2^j.toNat)):=opI λi j _ _ _ _ _ C q =>
 rshift_int C (by rw[Lx i (yt _)];exact q)
theorem lU:OpR X (Ml .BitAnd) (rI0 λi j=>.int (Mm i j)):=opI0 λ_ _ _ _ _ _ _ q=>and_int q
theorem AI:OpR X (Ml .BitOr) (rI0 λi j=>.int (Mn i j)):=opI0 λ_ _ _ _ _ _ _ q=>or_int q
theorem dB:OpR X (Ml .BitXor) (rI0 λi j=>.int (Mo i j)):=opI0 λ_ _ _ _ _ _ _ q=>xor_int q
theorem unI{f:Value->Sem Value}{g:Int->Int}(rule:∀(i:Int)(t:Tok)(s:Shared)(Q:Value->Shared->Prop)(E:Value->Shared->Prop),Q (.int (g i) s.toks) {s with toks:=s.toks+1}->wpAny (model X.prog X.w) X.A (f (.int i t)) Q E s):
  UnR X f (rU λi=>.int (g i)):=by
 intro B s M H x v Q I d h;obtain⟨i,rfl,q⟩:=h;obtain⟨t,rfl⟩:=d;exact rule i t s _ _ ⟨.int (g i),H,I.tok _,⟨_,rfl⟩,q⟩
theorem xr:UnR X (unaryOp .USub) (rU λi=>.int (-i)):=unI λ_ _ _ _ _ q=>neg_int q
end
def scal:V->V->Bool
 |.non,.non=>true | .non,.int _=>true | .int _,.non=>true | .non,.bl _=>true | .bl _,.non=>true | .non,.str _=>true | .str _,.non=>true
 |.int _,.int _=>true | .bl _,.bl _=>true | .str _,.str _=>true | .byt _,.byt _=>true
 |.int _,.str _=>true | .str _,.int _=>true | .bl _,.str _=>true | .str _,.bl _=>true
 |_,_=>false
def rEq:R2:=λx y H Q=>scal x y=true/\Q (.bl (decide (x=y))) H
def rNe:R2:=λx y H Q=>scal x y=true/\Q (.bl (!decide (x=y))) H
theorem BM{i j:Int}:decide (V.int i=V.int j)=(i == j):=by
 rw[KQ];simp
theorem EU{i j:Bool}:decide (V.bl i=V.bl j)=(i == j):=by
 rw[KQ];simp
theorem BL{i j:Str}:decide (V.str i=V.str j)=(i == j):=by
 rw[KQ];simp
theorem BN{i j:Array UInt8}:decide (V.byt i=V.byt j)=(i.toList == j.toList):=by
 rw[KQ]
 cases i
 cases j
 simp
section
variable{X:Cx}{a b c:Expr}{ta tb tc:TE}{pos:Pos}
theorem bf{σ:St}{H:Hp}{Q:VK}{k k':Bool}(I:Inv X J σ H s)(q:Q (.bl k) H)(e:k=k'):EP X J σ Q (.bool k') s:=by
 subst e;exact⟨.bl k,H,I,rfl,q⟩
theorem eB:OpR X (L0 .Eq) rEq:=by
 intro B s M H x y v u Q I d c h;obtain⟨T,q⟩:=h
 cases x with
 |non =>
  cases d
  cases y with
  |non=>cases c;exact PySem.EqNone.eq_none_none (bf I q (by simp))
  |bl j=>cases c;exact PySem.EqNone.eq_none_bool (bf I q (by simp))
  |int j=>obtain⟨m,rfl⟩:=c;exact PySem.EqNone.eq_none_int (bf I q (by simp))
  |str j=>obtain⟨m,rfl⟩:=c;exact PySem.EqNone.eq_none_str (bf I q (by simp))
  |_=>exact Nr (show false=true from T) Hj
 |bl i =>
  cases d
  cases y with
  |non=>cases c;exact PySem.EqNone.eq_bool_none (bf I q (by simp))
  |bl j=>cases c;exact eq_bool (bf I q EU)
  |str j=>obtain⟨m,rfl⟩:=c;exact PySem.EqMixed.eq_bool_str (bf I q (by simp))
  |_=>exact Nr (show false=true from T) Hj
 |int i =>
  obtain⟨t,rfl⟩:=d
  cases y with
  |non=>cases c;exact PySem.EqNone.eq_int_none (bf I q (by simp))
  |int j=>obtain⟨m,rfl⟩:=c;exact eq_int (bf I q BM)
  |str j=>obtain⟨m,rfl⟩:=c;exact PySem.EqMixed.eq_int_str (bf I q (by simp))
  |_=>exact Nr (show false=true from T) Hj
 |str i =>
  obtain⟨t,rfl⟩:=d
  cases y with
  |non=>cases c;exact PySem.EqNone.eq_str_none (bf I q (by simp))
  |bl j=>cases c;exact PySem.EqMixed.eq_str_bool (bf I q (by simp))
  |int j=>obtain⟨m,rfl⟩:=c;exact PySem.EqMixed.eq_str_int (bf I q (by simp))
  |str j=>obtain⟨m,rfl⟩:=c;exact eq_str (bf I q BL)
  |_=>exact Nr (show false=true from T) Hj
 |byt i =>
  obtain⟨t,rfl⟩:=d
  cases y with
  |byt j=>obtain⟨m,rfl⟩:=c;exact PySem.W.eq_bytes (bf I q BN)
  |_=>exact Nr (show false=true from T) Hj
 |_=>cases y<;>exact Nr (show false=true from T) Hj
theorem i4:OpR X (L0 .NotEq) rNe:=by
 intro B s M H x y v u Q I d c h;obtain⟨T,q⟩:=h
 cases x with
 |non =>
  cases d
  cases y with
  |non=>cases c;exact PySem.EqNone.ne_none_none (bf I q (by simp))
  |bl j=>cases c;exact PySem.EqNone.ne_none_bool (bf I q (by simp))
  |int j=>obtain⟨m,rfl⟩:=c;exact PySem.EqNone.ne_none_int (bf I q (by simp))
  |str j=>obtain⟨m,rfl⟩:=c;exact PySem.EqNone.ne_none_str (bf I q (by simp))
  |_=>exact Nr (show false=true from T) Hj
 |bl i =>
  cases d
  cases y with
  |non=>cases c;exact PySem.EqNone.ne_bool_none (bf I q (by simp))
  |bl j=>cases c;exact ne_bool (bf I q (congrArg not EU))
  |str j=>obtain⟨m,rfl⟩:=c;exact PySem.EqMixed.ne_bool_str (bf I q (by simp))
  |_=>exact Nr (show false=true from T) Hj
 |int i =>
  obtain⟨t,rfl⟩:=d
  cases y with
  |non=>cases c;exact PySem.EqNone.ne_int_none (bf I q (by simp))
  |int j=>obtain⟨m,rfl⟩:=c;exact ne_int (bf I q (congrArg not BM))
  |str j=>obtain⟨m,rfl⟩:=c;exact PySem.EqMixed.ne_int_str (bf I q (by simp))
  |_=>exact Nr (show false=true from T) Hj
 |str i =>
  obtain⟨t,rfl⟩:=d
  cases y with
  |non=>cases c;exact PySem.EqNone.ne_str_none (bf I q (by simp))
  |bl j=>cases c;exact PySem.EqMixed.ne_str_bool (bf I q (by simp))
  |int j=>obtain⟨m,rfl⟩:=c;exact PySem.EqMixed.ne_str_int (bf I q (by simp))
  |str j=>obtain⟨m,rfl⟩:=c;exact ne_str (bf I q (congrArg not BL))
  |_=>exact Nr (show false=true from T) Hj
 |byt i =>
  obtain⟨t,rfl⟩:=d
  cases y with
  |byt j=>obtain⟨m,rfl⟩:=c;exact PySem.W.ne_bytes (bf I q (congrArg not BN))
  |_=>exact Nr (show false=true from T) Hj
 |_=>cases y<;>exact Nr (show false=true from T) Hj
theorem sR:OpR X (L0 .Lt) (rI0 λi j=>.bl (decide (i<j))):=opB0 λ_ _ _ _ _ _ _ q=>lt_int q
theorem op_le:OpR X (L0 .LtE) (rI0 λi j=>.bl (decide (i<=j))):=opB0 λ_ _ _ _ _ _ _ q=>le_int q
theorem vh:OpR X (L0 .Gt) (rI0 λi j=>.bl (decide (j<i))):=opB0 λ_ _ _ _ _ _ _ q=>gt_int q
theorem op_ge:OpR X (L0 .GtE) (rI0 λi j=>.bl (decide (j<=i))):=opB0 λ_ _ _ _ _ _ _ q=>ge_int q
theorem op_isN:OpR X (L0 .Is) (λx y H Q=>y=.non/\Q (.bl (decide (x=.non))) H):=by
 intro B s M H x y v u Q I d c h;obtain⟨rfl,q⟩:=h
 cases c
 refine is_none_gen (bf I q ?_)
 cases x<;>first
  | (cases d;rfl)
  | (obtain⟨t,rfl⟩:=d;rfl)
theorem FG:OpR X (L0 .IsNot) (λx y H Q=>y=.non/\Q (.bl (!decide (x=.non))) H):=by
 intro B s M H x y v u Q I d c h;obtain⟨rfl,q⟩:=h
 cases c
 refine isnot_none_gen (bf I q ?_)
 cases x<;>first
  | (cases d;rfl)
  | (obtain⟨t,rfl⟩:=d;rfl)
theorem aG(b:Expr)(h:op≠.In:=by decide)(h2:op≠.NotIn:=by decide):behindInMarks op b=false:=by
 have f:(op == CmpOp.In)=false:=by cases op<;>first|rfl|exact Nr rfl h
 have E:(op == CmpOp.NotIn)=false:=by cases op<;>first|rfl|exact Nr rfl h2
 cases b<;>simp[behindInMarks,f,E]
theorem gn{r:R2}(D:OpR X (L0 op) r)(G:PE X a ta)(L:PE X b tb)(A:behindInMarks op b=false):PE X (.Compare a [op] [b] pos) (tOp r ta tb):=by
 intro B s M H Q I h;exact wpAny_Compare1 (binT G L I h λv u J x y o g d c q=>D B J M o x y v u Q g d c q) A
def tTest(t:TE):TT:=λM H Q=>t M H λx l=>∃ k,x=.bl k/\Q k l
theorem aD{r:R2}(D:OpR X (L0 op) r)(G:PE X a ta)(L:PE X b tb)(A:behindInMarks op b=false):PT X (.Compare a [op] [b] pos) (tTest (tOp r ta tb)):=by
 intro B s M H Q I h
 refine wpAny_isTrue_Compare1 (thn (G B s M H _ I h) λv j ⟨x,Y,i,w,E⟩=>thn (L B j M Y _ i E) λu J ⟨y,o,g,N,C⟩ =>
  thn (D B J M o x y v u _ g w N C) λc p ⟨z,q,d,n,k,e,O⟩=>?_) A
 subst e
 cases n
 exact L9 ⟨q,d,O⟩
theorem oY:(LR:Nat)<2^63:=by rw[sizeLine_eq];decide
theorem jW{x:V}(r:Vals [x] us):∃ u,us=[u]/\RelV x u:=by
 cases r with
 |cons w o=>cases o;exact⟨_,rfl,w⟩
theorem zI{x y:V}(r:Vals [x,y] us):∃ u w',us=[u,w']/\RelV x u/\RelV y w':=by
 cases r with
 |cons w o =>
  cases o with
  |cons n p=>cases p;exact⟨_,_,rfl,w,n⟩
theorem n9(C:X.calm=true):gR X (.builtin "max") (λxs H Q=>∃ i j,xs=[.int i,.int j]/\Q (.int (if j > i then j else i)) H):=by
 intro B s M H xs z Q I r h;obtain⟨i,j,rfl,q⟩:=h;obtain⟨u,v,rfl,⟨t,rfl⟩,⟨m,rfl⟩⟩:=zI r;refine max_two_ints (I.ok.hd C) λT y k=>⟨_,H,I.kept k,?_,q⟩;by_cases N:j > i
 .rw[Np N,Np N];exact⟨_,rfl⟩
 .rw[Nq N,Nq N];exact⟨_,rfl⟩
theorem ui(C:X.calm=true):gR X (.builtin "min") (λxs H Q=>∃ i j,xs=[.int i,.int j]/\Q (.int (if j<i then j else i)) H):=by
 intro B s M H xs z Q I r h;obtain⟨i,j,rfl,q⟩:=h;obtain⟨u,v,rfl,⟨t,rfl⟩,⟨m,rfl⟩⟩:=zI r;refine min_two_ints (I.ok.hd C) λT y k=>⟨_,H,I.kept k,?_,q⟩;by_cases N:j<i
 .rw[Np N,Np N];exact⟨_,rfl⟩
 .rw[Nq N,Nq N];exact⟨_,rfl⟩
theorem B9:gR X (.type "int") (λxs H Q=>(∃ i,xs=[.int i]/\Q (.int i) H)∨∃ k,xs=[.bl k]/\Q (.int (if k then 1 else 0)) H):=by
 intro B s M H xs z Q I r h;rcases h with⟨i,rfl,q⟩|⟨k,rfl,q⟩
 .obtain⟨u,rfl,t,rfl⟩:=jW r;exact call_int_int ⟨.int i,H,I,⟨_,rfl⟩,q⟩
 .obtain⟨u,rfl,w⟩:=jW r
  cases w
  exact call_int_bool ⟨.int (if k then 1 else 0),H,I.tok _,⟨_,rfl⟩,q⟩
end
structure ObjM(h:Heap)(x dx C:Addr)(mA:Str->Option Value):Prop where
 obj:h.get? x=some (Jk C dx)
 ns:h.Ns1 dx mA
 ne:dx≠x
theorem AZ{i:Str->Option Value}(n:h.Ns1 p i):∃ Y,h.get? p=some Y/\∀ name,KW name Y=some (i name):=by
 obtain⟨o,B,M,c,hd,D,_,A⟩:=n;refine⟨o,c,λname=>?_⟩;have e:=A name;unfold nsFind findBy at e;rw[← Array.find?_toList]at e;unfold KW;rw[hd];dsimp only;split
 .rename_i y q;rw[q]at e;exact congrArg some e
 .rename_i q;rw[q]at e;have a:B.toList.any (·.refKey)=false:=by
   rw[List.any_eq_false];intro y Q;obtain⟨z,t,b⟩:=D y (Array.mem_toList_iff.mp Q);simp[DictEntry.refKey,b]
  have d:¬ B.toList.any (·.refKey)=true:=by rw[a];exact Hj
  rw[Nq d];exact congrArg some e
theorem ObjM.look{x:Addr}{i:Str->Option Value}(I:ObjM h x a C i):∃ Y,PySem.W.InstAt h x (Jk C a) C (some Y)/\∀ name,KW name Y=some (i name) :=
 let ⟨Y,D,G⟩:=AZ I.ns
 ⟨Y,⟨I.obj,rfl,rfl,D⟩,G⟩
section
variable{prog:Program}{w:World}{A:Around}{E:Value->Shared->Prop}{s:Shared}{K:GX}{x dx C f:Addr}{mA:Str->Option Value}{name:Str}{v:Value}
theorem Gj{b:Bool}(X:K.In s.heap)(I:ObjM s.heap x dx C mA)(t:Jp K C name=true)(n:JA K C=true)(o:HC K (.ref C) name=some none)(O:mA name=some v)(a:PySem.W.handedIn v=true)(h:Q v {s with toks:=s.toks+1}):
  wpAny (model prog w) A (getAttr (.ref x) name b) Q E s:=by
 obtain⟨Y,J,G⟩:=I.look;exact PySem.W.get_value X J (KZ t).1 (PySem.W.findObj_own n o rfl (by rw[G,O])) a h
theorem DF{Q:Value×List Value->Shared->Prop}(X:K.In s.heap)(I:ObjM s.heap x dx C mA)(t:Jp K C name=true)(l:HC K (.ref C) name=some (some (.ref f)))(T:JF K (.ref f)=true)(O:mA name=none)(h:Q (.ref f,[.ref x]) s):
  wpAny (model prog w) A (getMethod (.ref x) name pl) Q E s:=by
 obtain⟨Y,J,G⟩:=I.look;exact PySem.W.method_fn X J (KZ t).1 (KZ t).2 l (beq_iff_eq.mp T) (by show(KW name Y).map (·.isSome)=some false;rw[G,O];rfl) h
theorem Fq{ns:List Str}{Q:Unit->Shared->Prop}(X:K.In s.heap)(I:ObjM s.heap x dx C mA)(l:HC K (.ref C) "__setattr__"=some (some (.builtin "object.__setattr__")))(g:JO K C=true)(T:Ln K C name=some none)(n:JA K C=true)(hw:PySem.Within mA ns)(hsz:ns.length<=LR)(h:∀ h',ObjM h' x dx C (λy=>if y=name then some v else mA y)->LX dx s.heap h'->Q () {s with heap:=h',toks:=s.toks+2}):
  wpAny (model prog w) A (setAttr (.ref x) name v) Q E s:=by
 obtain⟨Y,J,G⟩:=I.look;refine PySem.W.set_plain X J l (PySem.W.osa_open (s:={s with toks:=s.toks+1}) (r:=none) X J g T λb=>?_);obtain⟨t,c,f⟩:=PySem.W.any_some n;have O:s.heap.get? x=some ⟨.ref C,some dx,.plain,#[]⟩:=I.obj;refine Mb (Me (Mb (Mb (wpAny_loadPart O (Mb (PySem.W.Looks.here (s:={s with toks:=s.toks+1}) (PySem.W.looks_clsIn X c) ?_))))));rw[f];refine Me (a:=some dx) (Mb (Me (Mb ?_)));refine wpAny_nsSet1 (s:={s with toks:=s.toks+1}) I.ns λh' d u=>?_;obtain⟨o,k,m,e,i,j⟩:=d.count (PySem.Within.cons name v hw);refine Mb (wpAny_lookBehind e (by rw[i];exact pastItsLine_dict (Ig j (by rw[Hk];omega))) ?_)
 exact Me (h _ ⟨(u.2 _ (Ne.symm I.ne)).trans I.obj,d,I.ne⟩ u)
theorem Dv{kw:List (Str×Value)}(X:K.In s.heap)(y:J1 K C=true)(hi:HC K (.ref C) "__init__"=some (some (.ref f)))(l:PySem.W.typeIn K (.ref f)=some (.type "function"))(h:Mp (model prog w) (A.under (.builtin "type.__call__" ⟨.ref C::vs,kw⟩)) (.call (.ref f) ⟨.ref (s.heap.objs.size+1)::vs,kw⟩) (PySem.W.InitBack (s.heap.objs.size+1) R)
   {s with heap:=(s.heap.push IL).push (Jk C s.heap.objs.size)}):
  Mp (model prog w) A (.call (.ref C) ⟨vs,kw⟩) R s:=by
 obtain⟨n,g,d,t,os⟩:=s;exact PySem.W.make_core (PySem.W.makes_of X y) (PySem.W.looks_findIn X hi) (λa=>PySem.W.bind_fn X a l) (.inl rfl) h
end
def putF(f:Str)(v:V):List (Str×V)->List (Str×V)
 |[]=>[(f,v)]
 | (g,x)::r=>if g=f then(g,v)::r else(g,x)::putF f v r
theorem aE(f g:Str)(v:V):∀ fs:List (Str×V),(putF f v fs).lookup g=if g=f then some v else fs.lookup g
 |[]=>by
  show Kc g [(f,v)]=_;by_cases h:g=f
  .have L:(g == f)=true:=beq_iff_eq.mpr h
   simp only[Kc,L,Np h]
  .have L:(g == f)=false:=beq_eq_false_iff_ne.mpr h
   simp only[Kc,L,Nq h]
 | (k,x)::r=>by
  have C:=aE f g v r;rw[show putF f v ((k,x)::r)=(if k=f then(k,v)::r else(k,x)::putF f v r) from rfl];by_cases D:k=f
  .rw[Np D];by_cases h:g=k
   .have L:(g == k)=true:=beq_iff_eq.mpr h
    simp only[Kc,L,Np (h.trans D)]
   .have L:(g == k)=false:=beq_eq_false_iff_ne.mpr h
    simp only[Kc,L,Nq (λe:g=f=>h (e.trans D.symm))]
  .rw[Nq D];by_cases h:g=k
   .have L:(g == k)=true:=beq_iff_eq.mpr h
    simp only[Kc,L,Nq (λe:g=f=>D (h.symm.trans e))]
   .have L:(g == k)=false:=beq_eq_false_iff_ne.mpr h
    simp only[Kc,L];exact C
theorem nE(f:Str)(v:V):∀ fs:List (Str×V),f∈(putF f v fs).map (·.1)/\∀ g,g∈fs.map (·.1)->g∈(putF f v fs).map (·.1)
 |[]=>⟨by simp[putF],λg h=>by simp at h⟩
 | (k,x)::r=>by
  obtain⟨s,z⟩:=nE f v r;rw[show putF f v ((k,x)::r)=(if k=f then(k,v)::r else(k,x)::putF f v r) from rfl];by_cases D:k=f
  .rw[Np D];subst D;exact⟨by simp,λg h=>by simpa using h⟩
  .rw[Nq D];refine⟨?_,λg h=>?_⟩
   .rw[Hu];exact G4 _ s
   .rw[Hu]at h ⊢;rcases G6.mp h with e|e
    .exact G6.mpr (.inl e)
    .exact G4 _ (z g e)
theorem nB(f:Str)(v:V):∀ fs:List (Str×V),(putF f v fs).length<=fs.length+1
 |[]=>by simp[putF]
 | (k,x)::r=>by
  have C:=nB f v r;rw[show putF f v ((k,x)::r)=(if k=f then(k,v)::r else(k,x)::putF f v r) from rfl];by_cases D:k=f
  .rw[Np D,Hk,Hk];omega
  .rw[Nq D,Hk,Hk];omega
theorem RelO.some_of{v:V}{o:Option Value}(r:RelO (some v) o):∃ u,o=some u/\RelV v u:=by
 cases o with
 |none=>exact(show False from r).elim
 |some u=>exact⟨u,rfl,r⟩
theorem RelO.none_of{o:Option Value}(r:RelO none o):o=none:=by
 cases o with
 |none=>rfl
 |some u=>exact(show False from r).elim
theorem Br{v:V}(r:RelV v u):PySem.W.handedIn u=true:=by
 cases v with
 |non=>cases (show u=Value.none from r);rfl
 |bl b=>cases (show u=Value.bool b from r);rfl
 |int i=>obtain⟨t,e⟩:=(show ∃ t,u=Value.int i t from r);cases e;rfl
 |str x=>obtain⟨t,e⟩:=(show ∃ t,u=Value.str x t from r);cases e;rfl
 |byt b=>obtain⟨t,e⟩:=(show ∃ t,u=Value.bytes b t from r);cases e;rfl
 |flt b=>obtain⟨t,e⟩:=(show ∃ t,u=Value.float b t from r);cases e;rfl
 |ref a=>cases (show u=Value.ref a from r);rfl
 |ty n=>cases (show u=Value.type n from r);rfl
section
variable{P:Program}{w:World}{H H':Hp}{h h':Heap}{a C dx:Addr}{fs fs':List (Str×V)}
theorem qL(A:HOk P w H h)(e:H a=some (.ins C dx fs)):∃ i,ObjM h a dx C i/\(∀ f,RelO (fs.lookup f) (i f))/\PySem.Within i (fs.map (·.1))/\fs.length<=1000/\H dx=some (.own a):=by
 obtain⟨d,z,ne,g,i,n,r,q⟩:=(show bC P w H h a (.ins C dx fs) from A a _ e);exact⟨i,⟨g,n,ne⟩,r,q,z,d⟩
end
structure Cls(K:GX)(C:Addr):Prop where
 pg:Jp K C Str.empty=true
 hd:JA K C=true
 po:JO K C=true
 sa:HC K (.ref C) "__setattr__"=some (some (.builtin "object.__setattr__"))
theorem Cls.get(c:Cls K C)(f:Str):Jp K C f=true:=c.pg
def fq(K:GX)(C:Addr)(f:Str):Prop:=HC K (.ref C) f=some none
theorem fq.taker{f:Str}(n:fq K C f):Ln K C f=some none:=by
 unfold Ln;rw[show HC K (.ref C) f=some none from n];rfl
structure Meth(K:GX)(C:Addr)(m:Str)(f:Addr):Prop where
 at_:HC K (.ref C) m=some (some (.ref f))
 fn:JF K (.ref f)=true
 kp:HV K (.ref f)=true
section
variable{X:Cx}{pins:List (Addr×Obj)}{σ:St}{H:Hp}{s:Shared}{a C dx:Addr}{fs:List (Str×V)}{f:Str}{v:V}{A:Around}{E:Value->Shared->Prop}
theorem yO{b:Bool}(I:Inv X pins σ H s)(e:H a=some (.ins C dx fs))(c:Cls X.K C)(n:fq X.K C f)(l:fs.lookup f=some v)(h:∀ u s',Inv X pins σ H s'->RelV v u->Q u s'):wpAny (model X.prog X.w) A (getAttr (.ref a) f b) Q E s:=by
 obtain⟨i,O,r,_,_,_⟩:=qL I.hok e;obtain⟨u,g,t⟩:=RelO.some_of (v:=v) (o:=i f) (by rw[← l];exact r f)
 exact Gj I.kIn O (c.get f) c.hd n g (Br t) (h u _ (I.tok _) t)
theorem o9{m:Str}{g:Addr}{Q:Value×List Value->Shared->Prop}(I:Inv X pins σ H s)(e:H a=some (.ins C dx fs))(c:Cls X.K C)(k:Meth X.K C m g)(l:fs.lookup m=none)(h:Q (.ref g,[.ref a]) s):wpAny (model X.prog X.w) A (getMethod (.ref a) m pl) Q E s:=by
 obtain⟨i,O,r,_,_,_⟩:=qL I.hok e;have T:i m=none:=RelO.none_of (by rw[← l];exact r m)
 exact DF I.kIn O (c.get m) k.at_ k.fn T h
theorem yx{y:V}{Q:Unit->Shared->Prop}(I:Inv X pins σ H s)(e:H a=some (.ins C dx fs))(c:Cls X.K C)(n:fq X.K C f)(hl:fs.length<1000)(N:RelV y u)(h:∀ s',Inv X pins σ (upd H a (.ins C dx (putF f y fs))) s'->Q () s'):wpAny (model X.prog X.w) A (setAttr (.ref a) f u) Q E s:=by
 obtain⟨i,O,r,k,_,D⟩:=qL I.hok e;have d:(fs.map (·.1)).length<=LR:=by rw[GY,sizeLine_eq];omega
 refine Fq I.kIn O c.sa c.po n.taker c.hd k d λT B j=>h _ ?_;have hd:∃ o,T.get? dx=some o:=let ⟨o,_,_,p,_⟩:=B.ns;⟨o,p⟩;refine I.write (x:=a) (e:=dx) (by rw[e];exact True.intro) (.inr D) (λb q L z=>(j.2 b L).trans z) hd ?_
 refine⟨by rw[aq O.ne];exact D,?_,O.ne,B.obj,_,B.ns,λg=>?_,λg J=>?_⟩
 .have:=nB f y fs;omega
 .show RelO ((putF f y fs).lookup g) (if g=f then some u else i g);rw[aE];by_cases q:g=f
  .rw[Np q,Np q];exact N
  .rw[Nq q,Nq q];exact r g
 .by_cases q:g=f
  .rw[q];exact(nE f y fs).1
  .refine(nE f y fs).2 g (k g λz=>J ?_);show(if g=f then some u else i g)=none;rw[Nq q];exact z
theorem Inv.made(I:Inv X pins σ H s):Inv X pins σ (upd (upd H s.heap.objs.size (.own (s.heap.objs.size+1))) (s.heap.objs.size+1) (.ins C s.heap.objs.size []))
  {s with heap:=(s.heap.push IL).push (Jk C s.heap.objs.size)}:=by
 have f:(s.heap.push IL).get? s.heap.objs.size=some IL:=Mg s.heap rfl;have E:((s.heap.push IL).push (Jk C s.heap.objs.size)).get? (s.heap.objs.size+1)=some (Jk C s.heap.objs.size):=by
  have:=Mg (s.heap.push IL) (o:=Jk C s.heap.objs.size) rfl;rwa[Mq]at this
 have w:(s.heap.push IL).Ns s.heap.objs.size (λ_=>none):=⟨IL,#[],_,f,rfl,(λe n=>Nr n (by simp)),λ_=>rfl⟩
 have i:=I.laid (a:=s.heap.objs.size) (o:=.own (s.heap.objs.size+1)) (h':=s.heap.push IL) (t':=s.toks) (λb u q=>Mf _ q) (G0 _) ⟨_,f⟩;refine i.laid (a:=s.heap.objs.size+1) (o:=.ins C s.heap.objs.size []) (t':=s.toks) (λb u q=>Mf _ q) (Nat.le_of_eq (Mq _ _)) ?_;have ne:s.heap.objs.size≠s.heap.objs.size+1:=Hr (HK _);refine⟨by rw[aq ne,ag],HI _,ne,E,λ_=>none,(Heap.Ns1.of_empty w).at λo q=>Mf _ q,λ_=>True.intro,λy Q=>Nr rfl Q⟩
theorem GK{prog:Program}{f:Str}{s:Shared}(L:attributeBase e f env (eval e env)=eval e env)(h:wpAny (model prog w) A (eval e env) (λo s₁=>wpAny (model prog w) A (getAttr o f true) Q E s₁) E s):wpAny (model prog w) A (eval (.Attribute e f pos) env) Q E s :=
 Attribute_any_ h (by rw[arm_eval_Attribute,L])
end
def tFld(K:GX)(l:TE)(f:Str):TE:=λM H Q=>l M H λx Y=>∃ a C j fs v,x=.ref a/\Y a=some (.ins C j fs)/\Cls K C/\fq K C f/\fs.lookup f=some v/\Q v Y
def sFld(K:GX)(l c:TE)(f:Str):TS:=λD M H=>c M H λy Y=>l M Y λx L=>∃ a C j fs,x=.ref a/\L a=some (.ins C j fs)/\Cls K C/\fq K C f/\fs.length<1000 /\
 D.nx M (upd L a (.ins C j (putF f y fs)))
section
variable{X:Cx}{o e value:Expr}{f:Str}{pos pos' tpos:Pos}{ta tv:TE}
theorem bo(Y:PE X e ta)(L:attributeBase e f X.env (eval e X.env)=eval e X.env):PE X (.Attribute e f pos) (tFld X.K ta f):=by
 intro B s M H Q I h;refine GK L (thn (Y B s M H _ I h) λu j ⟨x,d,i,t,a,C,b,fs,v,G,r,c,n,l,q⟩=>?_);subst G;obtain rfl:u=Value.ref a:=t;exact yO i r c n l λy J g E=>⟨v,d,g,E,q⟩
theorem lR(G:PE X o ta)(O:PE X value tv)(T:swapsWith value (some (.Attribute o f pos')) pos.line X.env=pure false):PS X (.Assign [.Attribute o f pos'] value pos) (sFld X.K ta tv f):=by
 intro B s M H D I h;refine plainObj_wpAny_Assign_Attribute (thn (O B s M H _ I h) λu j ⟨y,Y,i,N,q⟩=>thn (G B j M Y _ i q) λk J ⟨x,L,g,d,a,C,b,fs,v,r,c,n,l,Q⟩=>?_) T;subst v;obtain rfl:k=Value.ref a:=d;exact yx g r c n l N λp z=>⟨M,_,z,Q⟩
end
section
variable{X:Cx}{pins:List (Addr×Obj)}{σ:St}{H:Hp}{s:Shared}{A:Around}{E:Value->Shared->Prop}{Q:Value->Shared->Prop}{c:Value}{b:Bool}
inductive TyOf(K:GX)(H:Hp):V->Value->Prop where
 |non:TyOf K H .non (.type "NoneType")
 |bl (x:Bool):TyOf K H (.bl x) (.type "bool")
 |int (i:Int):TyOf K H (.int i) (.type "int")
 |str (x:Str):TyOf K H (.str x) (.type "str")
 |flt (x:UInt64):TyOf K H (.flt x) (.type "float")
 |lst {a:Addr} {xs:List V} (e:H a=some (.lst xs)):TyOf K H (.ref a) (.type "list")
 |frz {a:Addr} {o:Obj} {xs:List V} (e:H a=some (.frz o (.lst xs))):TyOf K H (.ref a) (.type "list")
 |tup {a:Addr} {xs:List V} (e:H a=some (.tup xs)):TyOf K H (.ref a) (.type "tuple")
 |dK {a:Addr} {kvs:List (Key×V)} (e:H a=some (.dK kvs)):TyOf K H (.ref a) (.type "dict")
 |dT {a:Addr} {kvs:List (List Key×V)} (e:H a=some (.dT kvs)):TyOf K H (.ref a) (.type "dict")
 |ins {a C dx:Addr} {fs:List (Str×V)} (e:H a=some (.ins C dx fs)) (cl:Cls K C) (ha:HC K (.ref C) "__class__"=some (some (.builtin "object.__class__")))
   (hn:PySem.W.specialIn K (.builtin "object.__class__") "__get__"=some (some (.builtin "getset_descriptor.__get__"))) (htk:PySem.W.takesIn K (.builtin "object.__class__")=some true)
   (hm:JG K C (.type "object")=some true):TyOf K H (.ref a) (.ref C)
theorem Bc{x:V}{t:Value}(I:Inv X pins σ H s)(d:RelV x u)(ty:TyOf X.K H x t)(e:Lz X.K t c=some b)(h:∀ tk,Q (.bool b) {s with toks:=tk}):
  wpAny (model X.prog X.w) A (call (.builtin "isinstance") [u,c]) Q E s:=by
 cases ty with
 |non=>cases (show u=Value.none from d);exact IF PySem.W.kitx_none I.kIn True.intro e (λz=>nomatch z) h
 |bl y=>cases (show u=Value.bool y from d);exact IF PySem.W.kitx_bool I.kIn True.intro e (λz=>nomatch z) h
 |int i=>obtain⟨t,q⟩:=(show ∃ t,u=Value.int i t from d);cases q;exact IF PySem.W.kitx_int I.kIn True.intro e (λz=>nomatch z) h
 |str y=>obtain⟨t,q⟩:=(show ∃ t,u=Value.str y t from d);cases q;exact IF PySem.W.kitx_str I.kIn True.intro e (λz=>nomatch z) h
 |flt y=>obtain⟨t,q⟩:=(show ∃ t,u=Value.float y t from d);cases q;exact IF PySem.W.kitx_float I.kIn True.intro e (λz=>nomatch z) h
 | @lst a D r =>
  cases (show u=Value.ref a from d)
  obtain⟨_,_,n,_,k⟩:=(show bC X.prog X.w H s.heap a (.lst D) from I.hok a _ r);exact IF PySem.W.kitx_list I.kIn ⟨_,k,rfl⟩ e (λz=>nomatch z) h
 | @frz a g D r =>
  cases (show u=Value.ref a from d)
  obtain⟨_,_,_,n,_,k⟩:=(show bC X.prog X.w H s.heap a (.frz g (.lst D)) from I.hok a _ r);exact IF PySem.W.kitx_list I.kIn ⟨_,k,rfl⟩ e (λz=>nomatch z) h
 | @tup a D r =>
  cases (show u=Value.ref a from d)
  obtain⟨_,_,_,p⟩:=(show bC X.prog X.w H s.heap a (.tup D) from I.hok a _ r);obtain⟨o,k,Y,_⟩:=p;exact IF PySem.W.kitx_tuple I.kIn ⟨o,k,Y⟩ e (λz=>nomatch z) h
 | @dK a N r =>
  cases (show u=Value.ref a from d)
  obtain⟨_,_,m,_,p⟩:=(show bC X.prog X.w H s.heap a (.dK N) from I.hok a _ r);obtain⟨o,B,M,k,Y,_⟩:=p;exact IF PySem.W.kitx_dict I.kIn ⟨o,k,Y.1⟩ e (λz=>nomatch z) h
 | @dT a N r =>
  cases (show u=Value.ref a from d)
  obtain⟨_,_,D,_,o,B,M,k,Y,_⟩:=(show bC X.prog X.w H s.heap a (.dT N) from I.hok a _ r);exact IF PySem.W.kitx_dict I.kIn ⟨o,k,Y.1⟩ e (λz=>nomatch z) h
 | @ins a C j fs r L G T aa f =>
  cases (show u=Value.ref a from d)
  obtain⟨v,O,_⟩:=qL I.hok r;obtain⟨l,J,_⟩:=O.look;exact IF (PySem.W.kitx_own (L.get _) L.hd G T aa f) I.kIn J e (λz=>nomatch z) h
end
structure Room(k:Nat)(A:Around):Prop where
 hd:A.handled=none
 dp:A.depth+3*k+5<recursionLimit
 un:A.units+16*k+200<cLine
theorem Room.mono{k:Nat}(r:Room k A)(h:j<=k):Room j A:=⟨r.hd,by have:=r.dp;omega,by have:=r.un;omega⟩
theorem Room.deeper{k:Nat}(r:Room (k+1) A)(env:Env):Room k (A.deeper env) :=
 ⟨r.hd,by have:=r.dp;show A.depth+1+3*k+5<_;omega,by have:=r.un;show A.units+3+16*k+200<_;omega⟩
theorem yI{kw:List (Str×Value)}:(A.under (.builtin "type.__call__" ⟨.ref C::us,kw⟩)).depth=A.depth+1:=by
 first|rfl|simp[Around.under,Code.weight,Code.isCreation,Code.isGuard,Code.isCaller,Code.frames,Code.isFrame,guardIds]
theorem yH{kw:List (Str×Value)}:(A.under (.builtin "type.__call__" ⟨.ref C::us,kw⟩)).units=A.units+1:=by
 first|rfl|simp[Around.under,Code.cUnits,Code.frames,Code.isFrame]
theorem Room.make{k:Nat}(r:Room (k+1) A)(C:Addr)(us:List Value)(kw:List (Str×Value)):Room k (A.under (.builtin "type.__call__" ⟨.ref C::us,kw⟩)) :=
 ⟨r.hd,by have:=r.dp;rw[yI];omega,by have:=r.un;rw[yH];omega⟩
theorem Room.depth{k:Nat}(r:Room k A):A.depth<recursionLimit:=by have:=r.dp;omega
theorem Room.units{k:Nat}(r:Room k A):A.units+64<cLine:=by have:=r.un;omega
def tNil:TA:=λ_ H Q=>Q [] H
def tCons(l:TE)(tr:TA):TA:=λM H Q=>l M H λx Y=>tr M Y λD L=>Q (x::D) L
section
variable{X:Cx}{e:Expr}{es:List Expr}{te:TE}{t:TA}{pos:Pos}
theorem aj:PA X [] tNil:=λ_ _ _ _ H Q I h=>Mr ⟨[],H,I,.nil,h⟩
theorem af(G:PE X e te)(N:PA X es t)(T:LY (e::es) X.env=(false,eval e X.env)::LY es X.env:=by rfl):PA X (e::es) (tCons te t):=by
 intro pos B s M H Q I h;rw[T];show wpAny _ _ (spliced ((false,eval e X.env)::backTo pos (LY es X.env))) _ _ s;refine Ms (thn (G B s M H _ I h) λu j ⟨x,Y,i,w,E⟩=>?_);exact thn (N pos B j M Y _ i E) λz J ⟨D,L,g,o,C⟩=>⟨x::D,L,g,.cons w o,C⟩
def tTup(t:TA):TE:=λM H Q=>t M H λD Y=>D.length<=LR/\∀ p,Y p=none->Q (.ref p) (upd Y p (.tup D))
def tLst(t:TA):TE:=λM H Q=>t M H λD Y=>D.length<=LR/\∀ p,Y p=none->Q (.ref p) (upd Y p (.lst D))
theorem bJ{x1}(h:PA X es t):PE X (.Tuple es x1 pos) (tTup t):=by
 intro B s M H Q I g;refine wpAny_Tuple_spliced (thn (h pos B s M H _ I g) λc j ⟨D,Y,i,r,z,q⟩=>⟨by rw[← r.length];exact z,?_⟩)
 have l:Y j.heap.objs.size=none:=i.hok.fresh (G0 _);refine⟨.ref j.heap.objs.size,upd Y j.heap.objs.size (.tup D),i.laid (t':=j.toks) (λb u e=>Mf _ e) (G0 _) ?_,rfl,q _ l⟩;exact⟨z,c,r,⟨_,Mg _ rfl,rfl,_,rfl⟩⟩
theorem bV(h:PA X es t):PE X (.List es pos) (tLst t):=by
 intro B s M H Q I g;refine wpAny_List_spliced (thn (h pos B s M H _ I g) λc j ⟨D,Y,i,r,z,q⟩=>⟨by rw[← r.length];exact z,?_⟩)
 have l:Y j.heap.objs.size=none:=i.hok.fresh (G0 _);refine⟨.ref j.heap.objs.size,upd Y j.heap.objs.size (.lst D),i.laid (t':=j.toks) (λb u e=>Mf _ e) (G0 _) ?_,rfl,q _ l⟩;exact⟨z,c,0,r,Mg _ rfl⟩
end
abbrev Sp:=List V->Hp->VK->XK->Prop
abbrev CXT:=List Env->Hp->Shared->XK->Value->Shared->Prop
structure Env0(P:Program)(w:World)(K:GX)(mg:Str->Option Value)(base:Heap)(A:Around)(outer:List Env)(s:Shared)(H:Hp):Prop where
 frames:A.frames=some outer
 mod:Mod K mg base
 bs:∀ b o,base.get? b=some o->s.heap.get? b=some o/\H b=none
 bsz:base.objs.size<=s.heap.objs.size
 funs:s.heap.FunFrames base outer
 frf:∀ b∈frs outer,H b=none
 hok:HOk P w H s.heap
 bare:AllBare s.gens
def CE(outer:List Env)(P:Program)(w:World)(H:Hp)(s:Shared)(Q:VK)(u:Value)(s':Shared):Prop :=
 ∃ v l,s'.os=s.os/\AllBare s'.gens/\Un (frs outer) [] H l s.heap s'.heap/\HOk P w l s'.heap/\RelV v u/\Q v l
def CR(CX:CXT)(outer:List Env)(P:Program)(w:World)(H:Hp)(s:Shared)(Q:VK)(E:XK)(r:Result)(s':Shared):Prop :=
 match r with
 |.ok (.ret u)=>CE outer P w H s Q u s'
 |.ok _=>False
 |.error e=>CX outer H s E e s'
structure FnOk(P:Program)(w:World)(K:GX)(mg:Str->Option Value)(base:Heap)(CX:CXT)(k:Nat)(f:Addr)(fd:FuncData)(ps:List Str)(sp:Sp):Prop where
 len:∀ vs H Q E,sp vs H Q E->vs.length=ps.length
 run:∀(A:Around)(outer:List Env)(s:Shared)(H:Hp)(args:Args)(us:List Value)(vs:List V)(Q:VK)(E:XK),Room k A->Env0 P w K mg base A outer s H->BindsTo s fd args (ps.zip us)->Vals vs us->sp vs H Q E ->
  Mp (model P w) A (.call (.ref f) args) (CR CX outer P w H s Q E) s
theorem Env0.make{H:Hp}(e:Env0 P w K mg base A outer s H)(C:Addr)(us:List Value)(kw:List (Str×Value)):
  Env0 P w K mg base (A.under (.builtin "type.__call__" ⟨.ref C::us,kw⟩)) outer s H:=⟨by first|exact e.frames|(simpa[Around.under,Code.envs,Code.isFrame,pushEnvs] using e.frames),e.mod,e.bs,e.bsz,e.funs,e.frf,e.hok,e.bare⟩
section
variable{X:Cx}{pins:List (Addr×Obj)}{σ:St}{H:Hp}{s s':Shared}
theorem Inv.env0(I:Inv X pins σ H s):Env0 X.prog X.w X.K X.mg X.base X.A X.stack s H :=
 ⟨I.ok.frames,I.ok.mod,I.bs,Ig I.ok.bsz I.sz,I.stack,I.stkFree,I.hok,I.bare⟩
theorem Inv.after{Q:VK}(I:Inv X pins σ H s)(h:CE X.stack X.prog X.w H s Q u s'):EP X pins σ Q u s':=by
 obtain⟨v,l,os,a,un,A,r,q⟩:=h;obtain⟨n,g,d,t,c⟩:=s';obtain rfl:c=s.os:=os;exact⟨v,l,I.call (h':=n) (g':=g) (d':=d) (t':=t) (ch:=[]) un A a (λb z=>Nr z (by simp)),r,q⟩
end
def Cz(sp:Sp)(b:List V)(E:XK)(t:TA):TE:=λM H Q=>t M H λm Y=>sp (m++b) Y Q E
def tMeth(C:Addr)(m:Str)(sp:Sp)(b:List V)(E:XK)(l:TE)(t:TA):TE:=λM H Q=>l M H λx Y=>∃ a j fs,x=.ref a/\Y a=some (.ins C j fs)/\fs.lookup m=none /\
 t M Y λO L=>sp (x::(O++b)) L Q E
def tMake(C:Addr)(sp:Sp)(b:List V)(E:XK)(t:TA):TE:=λM H Q=>t M H λm Y=>∀ x j,Y x=none->Y j=none->j≠x ->
 sp (.ref x::(m++b)) (upd (upd Y j (.own x)) x (.ins C j [])) (λv L=>v=.non/\Q (.ref x) L) E
def dQ(K:GX)(fd:FuncData)(ps:List Str)(ds:List Value):Prop :=
 ∀(s:Shared)(z:List Value),K.In s.heap->(z++ds).length=ps.length->BindsTo s fd ⟨z,[]⟩ (ps.zip (z++ds))
theorem dQ.all{ps:List Str}(h:∀ us:List Value,us.length=ps.length->bindArgs fd ⟨us,[]⟩=pure (ps.zip us)):dQ K fd ps []:=λs us _ G=>by
 rw[Kd]at G ⊢;exact .of_eq (h us G)
def l4(CX:CXT)(X:Cx)(E:XK):Prop:=∀(B:List (Addr×Obj))(M:St)(H:Hp)(s:Shared)(e:Value)(q:Shared),Inv X B M H s->CX X.stack H s E e q->X.xe e q
section
variable{X:Cx}{CX:CXT}{k:Nat}{f C:Addr}{fd:FuncData}{ps:List Str}{sp:Sp}{dvs:List V}{ds:List Value}{E:XK}{x m:Str}{p pos apos:Pos}{e o:Expr}{es:List Expr}{ta:TE}{t:TA}
theorem xH{σ:St}{H:Hp}{Q:VK}{vs:List V}(F:FnOk X.prog X.w X.K X.mg X.base CX k f fd ps sp)(N:Room k X.A)(L:dQ X.K fd ps ds)(hd:Vals dvs ds)(O:l4 CX X E)(I:Inv X J σ H s)(r:Vals vs us)(h:sp (vs++dvs) H Q E):wpAny (model X.prog X.w) X.A (call (.ref f) us) (EP X J σ Q) X.xe s:=by
 have o:Vals (vs++dvs) (us++ds):=r.append hd;have G:(us++ds).length=ps.length:=by rw[← o.length];exact F.len _ _ _ _ h
 refine wpAny_call (Mt (F.run X.A X.stack s H ⟨us,[]⟩ (us++ds) (vs++dvs) Q E N I.env0 (L s us I.kIn G) o h) λr q g=>?_)
 cases r with
 |error e=>exact O J σ H s e q I g
 |ok T =>
  cases T with
  |ret u=>exact I.after g
  |next=>exact False.elim g
  |brk=>exact False.elim g
  |cont=>exact False.elim g
theorem FE(F:FnOk X.prog X.w X.K X.mg X.base CX k f fd ps sp)(N:Room k X.A)(J:Gl X x)(y:X.mg x=some (.ref f))(D:HV X.K (.ref f)=true)(L:dQ X.K fd ps ds)(hd:Vals dvs ds)(O:l4 CX X E)(G:PA X (e::es) t)(b:(x == ("__debug__" : Str))=false:=by decide)(n:LY (e::es) X.env=(false,eval e X.env)::LY es X.env:=by rfl)(a:(backTo pos (LY es X.env)).any (·.1)=false:=by rfl):
  PE X (.Call (.Name x p) (e::es) [] pos) (Cz sp dvs E t):=by
 intro B s M H Q I h;refine Mu (jL I J y ?_ b);refine JH (h₀:=X.base) I.ok.mod.kin D (thn (G pos B s M H _ I h) λz j ⟨m,Y,i,r,q⟩=>⟨i.kIn,?_⟩) n a;exact xH F N L hd O i r q
theorem CY(F:FnOk X.prog X.w X.K X.mg X.base CX k f fd ps sp)(N:Room k X.A)(J:Gl X x)(y:X.mg x=some (.ref f))(D:HV X.K (.ref f)=true)(L:dQ X.K fd ps ds)(hd:Vals dvs ds)(O:l4 CX X E)(b:(x == ("__debug__" : Str))=false:=by decide):PE X (.Call (.Name x p) [] [] pos) (Cz sp dvs E tNil):=by
 intro B s M H Q I h;refine Mu (jL I J y ?_ b);exact PySem.W.callWith_K0 I.kIn D (xH (us:=[]) F N L hd O I .nil h)
theorem AD(n:PE X o ta)(c:Cls X.K C)(y:Meth X.K C m f)(F:FnOk X.prog X.w X.K X.mg X.base CX k f fd ps sp)(N:Room k X.A)(L:dQ X.K fd ps ds)(hd:Vals dvs ds)(O:l4 CX X E)(G:PA X (e::es) t)(aa:LY (e::es) X.env=(false,eval e X.env)::LY es X.env:=by rfl)(D:(backTo pos (LY es X.env)).any (·.1)=false:=by rfl)(T:eval (.Call (.Attribute o m apos) (e::es) [] pos) X.env=(do
   let ov ← eval o X.env
   standAt apos.atName
   let (f,first) ← holding [ov] (getMethod ov m pl)
   callWith pos f first (backTo pos (LY (e::es) X.env)) (backToKw pos (keywordEach [] X.env))):=by rfl):
  PE X (.Call (.Attribute o m apos) (e::es) [] pos) (tMeth C m sp dvs E ta t):=by
 intro B s M H Q I h;refine PySem.W.methodCall_KW (pl:=pl) (thn (n B s M H _ I h) λu j ⟨x,Y,i,d,a,b,fs,v,ea,l,q⟩=>?_) T;subst v;obtain rfl:u=Value.ref a:=d;refine o9 i ea c y l ?_;refine JH (first:=[.ref a]) (h₀:=X.base) I.ok.mod.kin y.kp (thn (G pos B j M Y _ i q) λus J ⟨vs,p,g,r,z⟩=>⟨g.kIn,?_⟩) aa D;exact xH (us:=.ref a::us) (vs:=.ref a::vs) F N L hd O g (.cons rfl r) z
theorem iP(n:PE X o ta)(c:Cls X.K C)(y:Meth X.K C m f)(F:FnOk X.prog X.w X.K X.mg X.base CX k f fd ps sp)(N:Room k X.A)(L:dQ X.K fd ps ds)(hd:Vals dvs ds)(O:l4 CX X E)(T:eval (.Call (.Attribute o m apos) [] [] pos) X.env=(do
   let ov ← eval o X.env
   standAt apos.atName
   let (f,first) ← holding [ov] (getMethod ov m pl)
   callWith pos f first (backTo pos (LY [] X.env)) (backToKw pos (keywordEach [] X.env))):=by rfl):
  PE X (.Call (.Attribute o m apos) [] [] pos) (tMeth C m sp dvs E ta tNil):=by
 intro B s M H Q I h;refine PySem.W.methodCall_KW (pl:=pl) (thn (n B s M H _ I h) λu j ⟨x,Y,i,d,a,b,fs,G,r,l,q⟩=>?_) T;subst G;obtain rfl:u=Value.ref a:=d;refine o9 i r c y l ?_;exact PySem.W.callWith_K0 (first:=[.ref a]) i.kIn y.kp (xH (us:=[.ref a]) (vs:=[.ref a]) F N L hd O i (.cons rfl .nil) q)
structure Mk(K:GX)(C f:Addr):Prop where
 makes:J1 K C=true
 init:HC K (.ref C) "__init__"=some (some (.ref f))
 fn:JF K (.ref f)=true
 kp:HV K (.ref C)=true
theorem CK{σ:St}{H:Hp}{Q:VK}{vs:List V}(M:Mk X.K C f)(F:FnOk X.prog X.w X.K X.mg X.base CX k f fd ps sp)(N:Room (k+1) X.A)(L:dQ X.K fd ps ds)(hd:Vals dvs ds)(O:l4 CX X E)(I:Inv X J σ H s)(r:Vals vs us)(h:∀ x j,H x=none->H j=none->j≠x->sp (.ref x::(vs++dvs)) (upd (upd H j (.own x)) x (.ins C j [])) (λv H2=>v=.non/\Q (.ref x) H2) E):
  wpAny (model X.prog X.w) X.A (call (.ref C) us) (EP X J σ Q) X.xe s:=by
 have g:=h (s.heap.objs.size+1) s.heap.objs.size (I.hok.fresh (IV _)) (I.hok.fresh (G0 _)) (Hr (HK _));have m:=Inv.made (C:=C) I;have o:Vals (V.ref (s.heap.objs.size+1)::(vs++dvs)) (Value.ref (s.heap.objs.size+1)::(us++ds)):=.cons rfl (r.append hd);have G:(Value.ref (s.heap.objs.size+1)::us++ds).length=ps.length:=by
  have e:=o.length;rw[F.len _ _ _ _ g]at e;exact e.symm
 refine wpAny_call (Dv (f:=f) I.kIn M.makes M.init (beq_iff_eq.mp M.fn) (Mt (F.run _ X.stack _ _ ⟨Value.ref (s.heap.objs.size+1)::us,[]⟩ (Value.ref (s.heap.objs.size+1)::(us++ds)) _ _ E (N.make C us [])
  (m.env0.make C us []) (L _ (Value.ref (s.heap.objs.size+1)::us) m.kIn G) o g) λr q a=>?_))
 cases r with
 |error e=>exact O J σ _ _ e q m a
 |ok T =>
  cases T with
  |ret u =>
   obtain⟨v,l,z,rv,D,t⟩:=m.after a;subst D;exact⟨rv,⟨V.ref (s.heap.objs.size+1),l,z,rfl,t⟩⟩
  |next=>exact False.elim a
  |brk=>exact False.elim a
  |cont=>exact False.elim a
theorem lF(M:Mk X.K C f)(F:FnOk X.prog X.w X.K X.mg X.base CX k f fd ps sp)(N:Room (k+1) X.A)(J:Gl X x)(y:X.mg x=some (.ref C))(L:dQ X.K fd ps ds)(hd:Vals dvs ds)(O:l4 CX X E)(G:PA X (e::es) t)(b:(x == ("__debug__" : Str))=false:=by decide)(n:LY (e::es) X.env=(false,eval e X.env)::LY es X.env:=by rfl)(a:(backTo pos (LY es X.env)).any (·.1)=false:=by rfl):
  PE X (.Call (.Name x p) (e::es) [] pos) (tMake C sp dvs E t):=by
 intro B s d H Q I h;refine Mu (jL I J y ?_ b);refine JH (h₀:=X.base) I.ok.mod.kin M.kp (thn (G pos B s d H _ I h) λz j ⟨m,Y,i,r,q⟩=>⟨i.kIn,?_⟩) n a;exact CK M F N L hd O i r q
end
section
variable{X:Cx}{CX:CXT}{k:Nat}{f C:Addr}{fd:FuncData}{ps ks:List Str}{sp:Sp}{E:XK}{x m:Str}{p pos apos kpos:Pos}{e o:Expr}{es:List Expr}{kws:List Keyword}{te ta:TE}{t tk:TA}{nm:Option Str}
variable{g:List Value->List Value->List Value}{gV:List V->List V->List V}
end
structure az(N P:List Str)(sc:Scope):Prop where
 kind:sc.kind=.function
 co:sc.isCoroutine=false
 gen:sc.isGenerator=false
 nd:N.Nodup
 pre:N.take P.length=P
 par:∀ x∈P,sc.names.lookup x=some .local∨sc.names.lookup x=some .cell
 nofree:∀ y∈sc.names,y.2≠.free
theorem uo{Mv:Str->Option NameKind}{x:Str}:∀{binds:List (Str×Value)}{m:Str->Option Value},(∀ v,(x,v)∉binds)->bindL Mv binds m x=m x
 |[],_,_=>rfl
 | (n,v)::r,m,h=>by
  unfold bindL;rw[uo λw j=>h w (G4 _ j)];split
  .have:x≠n:=by rintro rfl;exact h v G9
   simp[this]
  .rfl
theorem ur{Mv:Str->Option NameKind}{x:Str}:∀{binds:List (Str×Value)}{m:Str->Option Value},(∀ v,(x,v)∉binds)->bindC Mv binds m x=m x
 |[],_,_=>rfl
 | (n,v)::r,m,h=>by
  unfold bindC;rw[ur λw j=>h w (G4 _ j)];split
  .rfl
  .have:x≠n:=by rintro rfl;exact h v G9
   simp[this]
theorem uq{Mv:Str->Option NameKind}{x:Str}{v:Value}:∀{P:List Str}{vs:List Value}{i:Nat}{m:Str->Option Value},P.Nodup->P[i]?=some x->vs[i]?=some v->Mv x=some .local ->
  bindL Mv (P.zip vs) m x=some v
 |[],_,_,_,_,h,_,_=>by simp at h
 |_::_,[],_,_,_,_,h,_=>by simp at h
 |p::P,w::vs,0,m,s,J,Y,D=>by
  simp at J Y;subst J;subst Y;show bindL Mv ((p,w)::P.zip vs) m p=_;unfold bindL;rw[uo λv O=>(Hf.mp s).1 (Lq O).1,Np D];simp
 |p::P,w::vs,i+1,m,s,J,Y,D=>by
  show bindL Mv ((p,w)::P.zip vs) m x=_;unfold bindL;exact uq (i:=i) (Hf.mp s).2 (by simpa using J) (by simpa using Y) D
theorem uu{Mv:Str->Option NameKind}{x:Str}{v:Value}:∀{P:List Str}{vs:List Value}{i:Nat}{m:Str->Option Value},P.Nodup->P[i]?=some x->vs[i]?=some v->Mv x≠some .local ->
  bindC Mv (P.zip vs) m x=some v
 |[],_,_,_,_,h,_,_=>by simp at h
 |_::_,[],_,_,_,_,h,_=>by simp at h
 |p::P,w::vs,0,m,s,J,Y,D=>by
  simp at J Y;subst J;subst Y;show bindC Mv ((p,w)::P.zip vs) m p=_;unfold bindC;rw[ur λv O=>(Hf.mp s).1 (Lq O).1,Nq D];simp
 |p::P,w::vs,i+1,m,s,J,Y,D=>by
  show bindC Mv ((p,w)::P.zip vs) m x=_;unfold bindC;exact uu (i:=i) (Hf.mp s).2 (by simpa using J) (by simpa using Y) D
def oq(N:List Str)(vs:List V):St:=vs.map some++He (N.length-vs.length) none
def cxOf(CX:CXT)(P:Program)(w:World)(K:GX)(mg:Str->Option Value)(base:Heap)(N:List Str)(m:Str)(scope:Scope)(f:Addr)(t:Value)(A:Around)(outer:List Env)(s:Shared)(H:Hp)(E:XK):Cx where
 prog:=P
 w:=w
 K:=K
 mg:=mg
 base:=base
 A:=A.deeper (envOfC m scope s.heap.objs.size f t)
 N:=N
 s₀:=s
 H₀:=H
 env:=envOfC m scope s.heap.objs.size f t
 outer:=outer
 stack:=envOfC m scope s.heap.objs.size f t::outer
 ex:=[]
 calm:=true
 fn:=λ_=>true
 pn:=[]
 xe:=λe q=>wpAny (model P w) (A.deeper (envOfC m scope s.heap.objs.size f t)) (leaving (envOfC m scope s.heap.objs.size f t) e) (λ_ a=>CX outer H s E e a) (λu a=>CX outer H s E u a) q
theorem yn{a:Scope}(h:a.names.lookup x=some .cell):∃ c,(cellsFrom n a.names []).lookup x=some c:=by
 have q:=PySem.W.cellsFrom_some a.names n [] (.inl h);exact Kq.mp q
theorem Bd{CX:CXT}{N ps:List Str}{m:Str}{t:Value}{s1:Shared}{H:Hp}{E:XK}{vs:List V}(S:az N ps scope)(hd:A.handled=none)(B:Env0 P w K mg base A outer s H)(hl:vs.length=ps.length)(r:Vals vs us)(x:InCallC s s.heap.objs.size (bindL (envOfC m scope s.heap.objs.size f t).kindOf (ps.zip us) λ_=>none) (cellsFrom (s.heap.objs.size+1) scope.names []) (bindC (envOfC m scope s.heap.objs.size f t).kindOf (ps.zip us) λ_=>none) s1):
  Inv (cxOf CX P w K mg base N m scope f t A outer s H E) [] (oq N vs) H s1:=by
 have l:ps.length<=N.length:=by have:=congrArg List.length S.pre;rw[HY]at this;omega
 obtain⟨J,d,rfl,D⟩:=x.done;have o:∀ b:Addr,b∉(cxOf CX P w K mg base N m scope f t A outer s H E).ex:=λb z=>Nr (show b∈([]:List Addr) from z) (by simp)
 refine⟨⟨B.mod,S.kind,rfl,rfl,G0 _,λy z c J Y=>?_,λy Q=>?_,λy c _ h=>?_,λ_=>hd,Around.frames_deeper B.frames,.inr ⟨rfl,rfl⟩,λb z=>Nr z (o b),B.bs,B.bsz,λb _ _=>o b,λb z=>Nr z (o b),B.funs,B.frf⟩,
  rfl,B.bare,Un.kept D,⟨_,x.toInCall.ns,λi y v J Y j=>?_⟩,λy c h=>⟨_,x.cell y c h⟩,B.hok.fresh (G0 _),λy c h=>?_,λp g=>Nr (show p∈([]:List (Addr×Obj)) from g) (by simp),B.hok.kept D,?_⟩
 .exact name_of_addr x.apart (I8 J) (I8 Y)
 .have Q:scope.names.lookup y=some .cell∨scope.names.lookup y=some .free:=Q
  rcases Q with Q|Q
  .exact yn Q
  .exact Nr rfl (S.nofree _ (I8 Q))
 .exact Hs (x.above y c (I8 h))
 .have I:i<vs.length:=by
   unfold oq at Y;by_cases I:i<vs.length
   .exact I
   .rw[G3 (by simpa using I)]at Y
    rw[IH]at Y;split at Y<;>cases Y
  have G:vs[i]?=some v:=by
   unfold oq at Y;rw[G5 (by simpa using I),G7]at Y
   cases e:vs[i]? with
   |none=>rw[e]at Y;cases Y
   |some a=>rw[e]at Y;cases Y;rfl
  obtain⟨u,C,rv⟩:=r.get G;have g:ps[i]?=some y:=by
   rw[← S.pre,List.getElem?_take_of_lt ∅];exact J
  have L:ps.Nodup:=by rw[← S.pre];exact S.nd.sublist (List.take_sublist _ _)
  refine⟨u,rv,?_⟩;rcases S.par y (GW g)with k|k
  .exact .inl ⟨k,uq L g C k⟩
  .obtain⟨c,e⟩:=yn (n:=s.heap.objs.size+1) k;refine .inr ⟨.inl k,c,e,?_⟩;have q:=x.cell y c e;rw[uu L g C (by show scope.names.lookup y≠_;rw[k];decide)]at q
   exact q
 .exact B.hok.fresh (Hs (x.above y c (I8 h)))
 .unfold oq;show _=N.length;rw[GZ,GY,IT];omega
theorem Gk{CX:CXT}{k:Nat}{name m:Str}{ae:Arguments}{d:List Stmt}{dV kV O C M ct oc:Value}{an i:Option Addr}{ac:Array (Option Value)}{N ps:List Str}{sp:Sp}(lk:K.lookup f=some ⟨oc,i,.func (IC name m ae d scope dV kV O C an M ct),ac⟩)(h:IY K M m=true)(S:az N ps scope)(len:∀ vs H Q E,sp vs H Q E->vs.length=ps.length)(aa:∀(A:Around)(outer:List Env)(s:Shared)(H:Hp)(vs:List V)(Q:VK)(E:XK),Room k (A.deeper (envOfC m scope s.heap.objs.size f M))->sp vs H Q E ->
   ∃ t,PSs (cxOf CX P w K mg base N m scope f M A outer s H E) d t/\t {nx:=λ_ H'=>Q .non H',rt:=Q} (oq N vs) H):
  FnOk P w K mg base CX (k+1) f (IC name m ae d scope dV kV O C an M ct) ps sp:=by
 refine⟨len,λA outer s H ap z vs Q E j B L r ab=>?_⟩;have G:=len _ _ _ _ ab;have KX:K.In s.heap:=B.mod.kin.keeps λb o e=>(B.bs b o e).1;have am:s.heap.NoLimit:=B.mod.nolimit.keeps λb o e=>(B.bs b o e).1;have aI:∀ y∈ps.zip z,scope.names.lookup y.1=some .local∨(scope.names.lookup y.1=some .cell/\((cellsFrom (s.heap.objs.size+1) scope.names []).lookup y.1).isSome=true):=λ⟨n,v⟩ a=>by
  rcases S.par n (Lq a).1 with q|q
  .exact .inl q
  .exact .inr ⟨q,PySem.W.cellsFrom_some _ _ _ (.inl q)⟩
 refine codeAny_call_function j.depth (KX _ _ lk) rfl S.co S.gen rfl (PySem.W.codeRec_of KX h) (L _ _ _ _ ?_);refine wpAny_newFunctionEnv_cells S.kind aI λal Y s1 x=>?_;subst Y;refine⟨am.keeps x.toInCall.keep,codeAny_func ?_⟩;obtain⟨t,T,g⟩:=aa A outer s H vs Q E (j.deeper _) ab;have I:Inv (cxOf CX P w K mg base N m scope f M A outer s H E) [] (oq N vs) H s1:=Bd S j.hd B G r x;refine LZ (T [] s1 (oq N vs) H _ I g) (λfl D l=>?_) λe D l=>l;have p:∀{c:St}{H':Hp}{v:V}{u:Value},Inv (cxOf CX P w K mg base N m scope f M A outer s H E) [] c H' D->RelV v u->Q v H'->CE outer P w H s Q u D :=
  λ{c H' v u} J rv q=>⟨v,H',J.os,J.bare,J.base,J.hok,rv,q⟩
 cases fl with
 |ret u =>
  obtain⟨v,c,H',J,rv,q⟩:=l;exact p J rv q
 |next =>
  obtain⟨c,H',J,q⟩:=l;exact p (v:=V.non) (u:=Value.none) J rfl q
 |brk =>
  obtain⟨_,_,_,q⟩:=l;exact False.elim q
 |cont =>
  obtain⟨_,_,_,q⟩:=l;exact False.elim q
section
variable{X:Cx}{x:Str}{p pos:Pos}{e:Expr}{es:List Expr}{t:TA}{id T:String}{r:List V->Hp->VK->Prop}
def tCB(r:List V->Hp->VK->Prop)(t:TA):TE:=λM H Q=>t M H λm Y=>r m Y Q
theorem aC(C:gR X (.builtin id) r)(J:Gl X x)(y:X.mg x=none)(O:LV x=some (.builtin id))(G:PA X (e::es) t)(T:x≠"__name__":=by decide)(b:(x == ("__debug__" : Str))=false:=by decide)(n:LY (e::es) X.env=(false,eval e X.env)::LY es X.env:=by rfl)(a:(backTo pos (LY es X.env)).any (·.1)=false:=by rfl):PE X (.Call (.Name x p) (e::es) [] pos) (tCB r t):=by
 intro B s M H Q I h;refine Mu (jd I J y O ?_ T b);exact PyProof.Rows.callWith_builtin1 (thn (G pos B s M H _ I h) λz j ⟨m,Y,i,w,E⟩=>C B j M Y m z Q i w E) n a
theorem cL(C:gR X (.type T) r)(J:Gl X x)(y:X.mg x=none)(O:LV x=some (.type T))(G:PA X (e::es) t)(i:x≠"__name__":=by decide)(b:(x == ("__debug__" : Str))=false:=by decide)(n:LY (e::es) X.env=(false,eval e X.env)::LY es X.env:=by rfl)(a:(backTo pos (LY es X.env)).any (·.1)=false:=by rfl):PE X (.Call (.Name x p) (e::es) [] pos) (tCB r t):=by
 intro B s M H Q I h;refine Mu (jd I J y O ?_ i b);exact Mi (thn (G pos B s M H _ I h) λz j ⟨m,Y,d,w,E⟩=>C B j M Y m z Q d w E) n a
end
end L2
variable{X:L2.Cx}{H H' H1 H2:L2.Hp}{sp:L2.Sp}{σ:L2.St}{O:L2.TE}{tt:L2.TT}{v y z:L2.V}{kvs:List (L2.Key×L2.V)}{xs ys zs:List L2.V}{QQ:List L2.V->L2.Hp->Prop}
namespace HT
open PySem PyProof.Rows
section
open PySem.SeqAt
open PySem.AutoSeq1 (wpAny_loadPart')
open PySem.MeetsSeq PySem.MeetsSeq2 PySem.MeetsSeq3
end
section
variable{prog:Program}{w:World}{A:Around}{E:Value->Shared->Prop}{s:Shared}
def sIx(n d:Nat):Option Int->Nat
 |none=>d
 |some v=>if v<0 then(v+(n:Int)).toNat else min v.toNat n
theorem sIx_none(n d:Nat):sIx n d none=d:=rfl
theorem sIx_nat(n d k:Nat):sIx n d (some (k:Int))=min k n:=by
 show(if(k:Int)<0 then((k:Int)+(n:Int)).toNat else min (k:Int).toNat n)=min k n;rw[Nq ∅,G8]
end
end HT
namespace L2
open PySem PySem.Spec PyProof.Rows
abbrev TO:=St->Hp->(Option Int->Hp->Prop)->Prop
def PO(X:Cx)(e:Option Expr)(t:TO):Prop :=
 ∀(B:List (Addr×Obj))(s:Shared)(M:St)(H:Hp)(Q:Option Int->Hp->Prop),Inv X B M H s->t M H Q ->
  wpAny (model X.prog X.w) X.A (evalPart e X.env) (λu q=>∃ o l,Inv X B M l q/\IsPart u o/\Q o l) X.xe s
def Fh:TO:=λ_ H Q=>Q none H
def tPart(t:TE):TO:=λM H Q=>t M H λx Y=>∃ i,x=.int i/\Q (some i) Y
section
variable{X:Cx}{e:Expr}{te:TE}{lo hi:Option Expr}{tl th:TO}{pos p2:Pos}
theorem nu:PO X none Fh:=by
 intro B s M H Q I h;rw[evalPart_none];exact Me ⟨none,H,I,.none,h⟩
theorem nj(h:PE X e te):PO X (some e) (tPart te):=by
 intro B s M H Q I r;rw[evalPart_some];refine thn (h B s M H _ I r) λu j T=>?_;obtain⟨x,Y,d,w,E⟩:=T;obtain⟨i,rfl,q⟩:=E;obtain⟨t,rfl⟩:=w;exact⟨some i,Y,d,.int i t,q⟩
def SlR(X:Cx)(r:V->Option Int->Option Int->Hp->VK->Prop):Prop :=
 ∀(B:List (Addr×Obj))(s:Shared)(M:St)(H:Hp)(x:V)(v k D:Value)(lo hi:Option Int)(c:Addr)(Q:VK),Inv X B M H s->RelV x v->s.heap.IsSliceOf c k D .none->IsPart k lo->IsPart D hi->r x lo hi H Q ->
  ∃ T id,typeLookup (.type T) "__getitem__"=pure (some (.builtin id))/\s.TypeIs v T/\wpAny (model X.prog X.w) X.A (getItem v (.ref c)) (EP X B M Q) X.xe s
def tSl(r:V->Option Int->Option Int->Hp->VK->Prop)(te:TE)(tl th:TO):TE:=λM H Q=>te M H λx Y=>tl M Y λl L=>th M L λu q=>r x l u q Q
theorem ko{r:V->Option Int->Option Int->Hp->VK->Prop}(N:SlR X r)(n:PE X e te)(hl:PO X lo tl)(hu:PO X hi th):PE X (.Subscript e (.Slice lo hi none p2) pos) (tSl r te tl th):=by
 intro B s M H Q I h;refine Subscript_ (thn (n B s M H _ I h) λv j ⟨x,Y,i,f,E⟩=>?_);refine wpAny_Slice (thn (hl B j M Y _ i E) λk J ⟨l,L,g,m,C⟩=>thn (hu B J M L _ g C) λD o ⟨u,c,z,G,O⟩=>?_);rw[evalPart_none];refine Me ?_;have y:Inv X B M c {o with heap:=o.heap.push {cls:=.type "slice",data:=.fields #[k,D,.none]}}:=z.kept (t':=o.toks) λb a q=>Mf _ q;obtain⟨T,id,p,d,t⟩:=N B {o with heap:=o.heap.push {cls:=.type "slice",data:=.fields #[k,D,.none]}} M c x v k D l u o.heap.objs.size Q y f (Heap.IsSliceOf.new ..) m G O;show wpAny (model X.prog X.w) X.A (subscriptTail e (.Slice lo hi none p2) v (.ref o.heap.objs.size)) (EP X B M Q) X.xe {o with heap:=o.heap.push {cls:=.type "slice",data:=.fields #[k,D,.none]}};exact tail_any (ops:=[.ref o.heap.objs.size,v]) d p t (by with_unfolding_all rfl)
def cutV(xs:List V)(lo hi:Option Int):List V:=(xs.drop (HT.sIx xs.length 0 lo)).take (HT.sIx xs.length xs.length hi-HT.sIx xs.length 0 lo)
theorem wR(xs:List V)(lo hi:Option Int):(cutV xs lo hi).length<=xs.length:=by
 unfold cutV;rw[HY,Jd];omega
end
def ixN(n:Nat)(i:Int):Option Nat:=if 0<=i then(if i<n then some i.toNat else none) else if -(n:Int)<=i then some (i+n).toNat else none
def atI{α:Type}(xs:List α)(i:Int):Option α:=(ixN xs.length i).bind λj=>xs[j]?
theorem vG{i:Int}(h:ixN n i=some j):seqIndex? i n=some j/\j<n/\-(n:Int)<=i/\i<n:=by
 unfold ixN at h;by_cases o:0<=i
 .rw[Np o]at h;by_cases J:i<n
  .rw[Np J]at h;have e:i.toNat=j:=Hq h;exact⟨by rw[seqIndex_of o J,e],∅,∅,J⟩
  .rw[Nq J]at h;cases h
 .rw[Nq o]at h;by_cases J : -(n:Int)<=i
  .rw[Np J]at h;have e:(i+n).toNat=j:=Hq h;exact⟨by rw[seqIndex_neg ∅ J,e],∅,J,∅⟩
  .rw[Nq J]at h;cases h
theorem Ce{xs:List α}{i:Int}{v:α}(h:atI xs i=some v):∃ j,seqIndex? i xs.length=some j/\xs[j]?=some v/\j<xs.length/\-(xs.length:Int)<=i/\i<xs.length:=by
 unfold atI at h
 cases e:ixN xs.length i with
 |none=>rw[e]at h;cases h
 |some j =>
  rw[e]at h;obtain⟨J,Y,A,M⟩:=vG e;exact⟨j,J,h,Y,A,M⟩
theorem ay{xs:List α}{v:α}(h:xs[j]?=some v):atI xs (j:Int)=some v:=by
 have N:j<xs.length:=(GV.mp h).1;have e:ixN xs.length (j:Int)=some j:=by
  unfold ixN;rw[Np ∅,Np ∅];simp
 unfold atI;rw[e];exact h
def oj(b:Expr):Prop:=∀ o i,subscripted b false o i=operate [o,i] (getItem o i)
def IxR(X:Cx)(r:R2):Prop :=
 ∀(l b:Expr)(B:List (Addr×Obj))(s:Shared)(M:St)(H:Hp)(x y:V)(v u:Value)(Q:VK),Inv X B M H s->RelV x v->RelV y u->r x y H Q ->
  subscripted b false v u=operate [v,u] (getItem v u)->wpAny (model X.prog X.w) X.A (subscriptTail l b v u) (EP X B M Q) X.xe s
def MtR(X:Cx)(id:String)(r:V->List V->Hp->VK->Prop):Prop :=
 ∀(B:List (Addr×Obj))(s:Shared)(M:St)(H:Hp)(x:V)(D:List V)(v:Value)(z:List Value)(Q:VK),Inv X B M H s->RelV x v->Vals D z->r x D H Q ->
  wpAny (model X.prog X.w) X.A (call (.builtin id) (v::z)) (EP X B M Q) X.xe s
section
variable{X:Cx}{a b:Expr}{ta tb:TE}{pos:Pos}
theorem yB{r:R2}(N:IxR X r)(G:PE X a ta)(L:PE X b tb)(T:oj b):PE X (.Subscript a b pos) (tOp r ta tb):=by
 intro B s M H Q I h;exact Subscript_ (binT G L I h λv u J x y o g d c q=>N a b B J M o x y v u Q g d c q (T _ _))
inductive rIxL(K:GX)(x:L2.V)(y:L2.V)(H:L2.Hp)(Q:L2.VK):Prop
 |mk (p xs i v:_) (h0_:x=.ref p)(h1_:y=.int i)(h2_:SqL K H p xs)(h3_:atI xs i=some v)(h4_:Q v H)
inductive rIxT(K:GX)(x:L2.V)(y:L2.V)(H:L2.Hp)(Q:L2.VK):Prop
 |mk (p xs i v:_) (h0_:x=.ref p)(h1_:y=.int i)(h2_:SqT K H p xs)(h3_:atI xs i=some v)(h4_:Q v H)
theorem qI:IxR X (rIxL X.K):=by
 intro l b B s M H x y v u Q I d c h T;obtain⟨p,D,i,z,rfl,rfl,g,n,q⟩:=h
 cases d
 obtain⟨t,rfl⟩:=c;obtain⟨L,r,m,f⟩:=I.list g;obtain⟨j,J,Y,A,a,C⟩:=Ce n;obtain⟨w,ew,e⟩:=r.get Y;have G:=r.length;have O:=oY;have k:EP X B M Q w s:=⟨z,H,I,e,q⟩;by_cases o:0<=i
 .have N:i.toNat=j:=by
   rw[seqIndex_of o C]at J;exact Hq J
  exact item_listR m.isList o ∅ (by rw[N];simpa using ew) k T
 .have N:(i+(L.toArray.size:Int)).toNat=j:=by
   rw[seqIndex_neg ∅ a]at J
   rw[Hl,← G];exact Hq J
  exact subscriptTail_builtinR (x:=w) m.isList.typeIs slot_list_getitem.lookup
   (wpAny_getItem_list_neg (Q:=λr E=>r=w/\EP X B M Q r E) m.isList ∅ (by rw[Hl]<;>omega) ∅ (by rw[N];simpa using ew) ⟨rfl,k⟩) T
theorem EO:IxR X (rIxT X.K):=by
 intro l b B s M H x y v u Q I d c h T;obtain⟨p,D,i,z,rfl,rfl,g,n,q⟩:=h
 cases d
 obtain⟨t,rfl⟩:=c;obtain⟨L,r,m,f⟩:=I.tuple g;obtain⟨j,J,Y,A,N,C⟩:=Ce n;obtain⟨w,a,e⟩:=r.get Y;have G:=r.length;have O:=oY;have k:EP X B M Q w s:=⟨z,H,I,e,q⟩;exact subscriptTail_builtinR (x:=w) m.typeIs slot_tuple_getitem.lookup
  (getItem_tuple (j:=j) (Q:=λr E=>r=w/\EP X B M Q r E) m ∅ ∅ (by rw[Hl,← G];exact J) (by simpa using a) ⟨rfl,k⟩) T
theorem yG(its:List Value)(n j:Nat)(u:Value):Mw (·.setIfInBounds j u) {cls:=.type "list",data:=.seq its.toArray n}={cls:=.type "list",data:=.seq (its.set j u).toArray n}:=by
 simp[Mw]
theorem Inv.lst{B:List (Addr×Obj)}{σ:St}{H:Hp}{s:Shared}{p:Addr}{xs:List V}(I:Inv X B σ H s)(h:H p=some (.lst xs)):
  ∃(its:List Value)(n:Nat),Vals xs its/\s.heap.get? p=some {cls:=.type "list",data:=.seq its.toArray n}/\xs.length<=LR:=by
 obtain⟨z,its,n,r,e⟩:=I.hok p _ h;exact⟨its,n,r,e,z⟩
theorem Inv.lstUpd{its':List Value}{f:Obj->Obj}(I:Inv X J σ H s)(h:H p=some (.lst xs))(D:s.heap.get? p=some {cls:=.type "list",data:=.seq its.toArray n})(l:f {cls:=.type "list",data:=.seq its.toArray n}={cls:=.type "list",data:=.seq its'.toArray N})(r:Vals ys its')(hz:ys.length<=LR)(t:Nat):
  Inv X J σ (upd H p (.lst ys)) {s with heap:=s.heap.update p f,toks:=t}:=by
 have e:(s.heap.update p f).get? p=some {cls:=.type "list",data:=.seq its'.toArray N}:=by
  rw[Mx f D (by rw[l]<;>rfl),l]
 refine I.write (x:=p) (e:=p) (by rw[h];trivial) (.inl rfl) (λb u L q=>(My _ _ (Ne.symm L)).trans q) ⟨_,e⟩ ?_
 exact⟨hz,its',N,r,e⟩
inductive rSetL(o:L2.V)(i:L2.V)(v:L2.V)(H:L2.Hp)(Q:(Hp->Prop)):Prop
 |mk (p xs k j:_) (h0_:o=.ref p)(h1_:i=.int k)(h2_:H p=some (.lst xs))(h3_:ixN xs.length k=some j)(h4_:Q (upd H p (.lst (xs.set j v))))
theorem iJ:PSet X rSetL:=by
 intro B s M H o i v l e u Q I b m rv h;obtain⟨p,f,k,j,rfl,rfl,g,N,q⟩:=h
 cases b
 obtain⟨t,rfl⟩:=m;obtain⟨L,n,r,c,a⟩:=I.lst g;obtain⟨J,Y,A,x⟩:=vG N;have G:=r.length;have T:=oY;have d:Inv X B M (upd H p (.lst (f.set j v))) {s with heap:=s.heap.update p (Mw (·.setIfInBounds j u))} :=
  I.lstUpd g c (yG L n j u) (r.set rv j) (by rw[HG];exact a) s.toks
 by_cases E:0<=k
 .have D:k.toNat=j:=by
   rw[seqIndex_of E x]at J;exact Hq J
  exact PySem.W.ki_setAt c E ∅ (by rw[Hl,← G];exact x) (by rw[D];exact⟨_,d,q⟩)
 .have D:(k+(L.toArray.size:Int)).toNat=j:=by
   rw[seqIndex_neg ∅ A]at J
   rw[Hl,← G];exact Hq J
  exact PySem.W.ki_setBack c ∅ (by rw[Hl,← G];exact A) ∅ (by rw[D];exact⟨_,d,q⟩)
theorem rZ(lo hi:Option Int)(n:Nat):(sliceBounds lo hi none n).1=((HT.sIx n 0 lo:Nat):Int)/\(sliceBounds lo hi none n).2.1=((HT.sIx n n hi:Nat):Int)/\(sliceBounds lo hi none n).2.2=1:=by
 refine⟨?_,?_,rfl⟩
 .cases lo with
  |none=>simp[sliceBounds,HT.sIx]
  |some i =>
   simp only[sliceBounds,HT.sIx,Option.getD_none,show(1:Int) > 0 by decide,if_true]
   by_cases h:i<0
   .simp only[h,if_true]<;>omega
   .simp only[h,if_false]<;>omega
 .cases hi with
  |none=>simp[sliceBounds,HT.sIx]
  |some i =>
   simp only[sliceBounds,HT.sIx,Option.getD_none,show(1:Int) > 0 by decide,if_true]
   by_cases h:i<0
   .simp only[h,if_true]<;>omega
   .simp only[h,if_false]<;>omega
theorem pM(its:List Value)(lo hi:Option Int):slicePick its.toArray lo hi none=((its.drop (HT.sIx its.length 0 lo)).take (HT.sIx its.length its.length hi-HT.sIx its.length 0 lo)).toArray:=by
 obtain⟨J,Y,A⟩:=rZ lo hi its.toArray.size;unfold slicePick;rw[J,Y,A];simp only[sliceRange_one,pick_run,Hl]<;>rfl
inductive rSlL(K:GX)(x:L2.V)(lo:Option Int)(hi:Option Int)(H:L2.Hp)(Q:L2.VK):Prop
 |mk (a xs:_) (h0_:x=.ref a)(h1_:SqL K H a xs)(h2_:∀ p,H p=none->Q (.ref p) (upd H p (.lst (cutV xs lo hi))))
theorem mZ:SlR X (rSlL X.K):=by
 intro B s M H x v k e lo l c Q I d y m G h;obtain⟨a,D,rfl,O,q⟩:=h
 cases d
 obtain⟨L,r,T,f⟩:=I.list O;have Y:=r.length;refine⟨"list",_,slot_list_getitem.lookup,T.isList.typeIs,?_⟩;refine wpAny_getItem_list_slice T.isList y m G .none (by simp) ?_ (by rw[Hl]<;>omega)
 rw[pM,← Y];refine⟨.ref s.heap.objs.size,_,I.laid (t':=s.toks) (o:=.lst (cutV D lo l)) (λb g q=>Mf _ q) (G0 _) ?_,rfl,q _ (I.hok.fresh (G0 _))⟩;exact⟨Ig (wR D lo l) f,_,0,(r.drop (HT.sIx D.length 0 lo)).take (HT.sIx D.length D.length l-HT.sIx D.length 0 lo),Mg _ rfl⟩
theorem ax:gR X (.builtin "len") (λxs H Q=>∃ p ys,xs=[.ref p]/\(SqL X.K H p ys∨SqT X.K H p ys)/\Q (.int ys.length) H):=by
 intro B s M H xs z Q I r h;obtain⟨p,ys,rfl,g,q⟩:=h;obtain⟨u,rfl,d⟩:=jW r
 cases d
 have T:=oY;rcases g with g|g
 .obtain⟨L,v,m,f⟩:=I.list g;have Y:=v.length;exact Calls.call_len_list m.isList (by simp only[Hl]<;>omega) ⟨.int ys.length,H,I.tok _,⟨s.toks+1,by rw[Hl,Y]⟩,q⟩
 .obtain⟨L,v,m,f⟩:=I.tuple g;have Y:=v.length;exact len_tuple m (by simp only[Hl]<;>omega) ⟨.int ys.length,H,I.tok _,⟨s.toks+1,by rw[Hl,Y]⟩,q⟩
theorem dt:gR X (.type "list") (λxs H Q=>∃ p ys,xs=[.ref p]/\(SqL X.K H p ys∨SqT X.K H p ys)/\∀ l,H l=none->Q (.ref l) (upd H l (.lst ys))):=by
 intro B s M H xs z Q I r h;obtain⟨p,ys,rfl,g,q⟩:=h;obtain⟨u,rfl,d⟩:=jW r
 cases d
 have k:∀(L:List Value),Vals ys L->ys.length<=LR->∀(T:Heap)(O:Nat),(∀ b j,s.heap.get? b=some j->T.get? b=some j) ->
   T.get? s.heap.objs.size=some {cls:=.type "list",dict:=none,data:=.seq L.toArray O,slots:=#[]}->EP X B M Q (.ref s.heap.objs.size) {s with heap:=T}:=λL v f T O a e =>
  ⟨.ref s.heap.objs.size,_,I.laid (t':=s.toks) a (G0 _) (show bC X.prog X.w _ T _ (.lst ys) from⟨f,L,O,v,e⟩),rfl,q _ (I.hok.fresh (G0 _))⟩
 rcases g with g|g
 .obtain⟨L,v,m,f⟩:=I.list g;have Y:=v.length;obtain⟨o,D,C,n,hd⟩:=m.isList;exact call_list_seq p (.inl rfl) D C hd (λT O a e=>k L v f T O a e) (by simp only[Hl]<;>omega)
 .obtain⟨L,v,m,f⟩:=I.tuple g;have Y:=v.length;obtain⟨o,D,C,n,hd⟩:=m;exact call_list_seq p (.inr rfl) D C hd (λT O a e=>k L v f T O a e) (by simp only[Hl]<;>omega)
def tyV(K:GX)(T:String)(x:V)(H:Hp):Prop:=match x with
 |.str _=>T = "str"
 |.int _=>T = "int"
 |.ref p=>(T = "list"/\∃ D,SqL K H p D)∨(T = "tuple"/\∃ o,K.lookup p=some o/\o.cls=.type "tuple"/\o.dict=none) ∨
   (T = "dict"/\((∃ N,H p=some (.dK N))∨∃ N,H p=some (.dT N)))∨(T = "set"/\∃ S n,H p=some (.set S n))
 |_=>False
theorem Ek{T:String}{x:V}{v:Value}(I:Inv X J σ H s)(r:RelV x v)(ty:tyV X.K T x H):
  s.TypeIs v T/\∀ a,v=.ref a->∃ ob,s.heap.get? a=some ob/\ob.dict=none:=by
 cases x with
 |str z =>
  obtain⟨t,rfl⟩:=r
  cases (show T = "str" from ty)
  exact⟨typeIs_str s z t,λ_ e=>nomatch e⟩
 |int i =>
  obtain⟨t,rfl⟩:=r
  cases (show T = "int" from ty)
  exact⟨typeIs_int s i t,λ_ e=>nomatch e⟩
 |ref p =>
  cases r
  rcases ty with⟨rfl,f,g⟩|⟨rfl,o,D,C,hd⟩|⟨rfl,D⟩|⟨rfl,S,n,D⟩
  .obtain⟨L,_,m,_⟩:=I.list g;refine⟨m.isList.typeIs,λa e=>?_⟩
   cases e
   obtain⟨o,n,e,c,hd,_⟩:=m;exact⟨o,e,hd⟩
  .refine⟨⟨o,I.kIn p o D,C⟩,λa e=>?_⟩
   cases e
   exact⟨o,I.kIn _ o D,hd⟩
  .have z:∃ o,s.heap.get? p=some o/\o.ExactDict:=by
    rcases D with⟨N,D⟩|⟨N,D⟩
    .obtain⟨_,_,_,_,o,_,_,e,G,_⟩:=I.hok p _ D;exact⟨o,e,G⟩
    .obtain⟨_,_,_,_,o,_,_,e,G,_⟩:=I.hok p _ D;exact⟨o,e,G⟩
   obtain⟨o,e,G⟩:=z;refine⟨⟨o,e,G.1⟩,λa E=>?_⟩
   cases E
   exact⟨o,e,G.2.1⟩
  .obtain⟨o,_,_,_,e,G,_⟩:=I.hok p _ D;refine⟨⟨o,e,G.1⟩,λa E=>?_⟩
   cases E
   exact⟨o,e,G.2.1⟩
 |_=>exact False.elim ty
def tBM0(K:GX)(T:String)(r:V->List V->Hp->VK->Prop)(b:TE):TE:=λM H Q=>b M H λx Y=>tyV K T x Y/\r x [] Y Q
def tBM(K:GX)(T:String)(r:V->List V->Hp->VK->Prop)(b:TE)(t:TA):TE:=λM H Q=>b M H λx Y=>tyV K T x Y/\t M Y λD L=>r x D L Q
variable{o e:Expr}{es:List Expr}{to:TE}{t:TA}{name:Str}{apos cpos:Pos}{T id:String}{r:V->List V->Hp->VK->Prop}
theorem ED(n:PlainAttrs T)(slot:Slot T name id)(p:typeOf (.builtin id)=pure (.type "method_descriptor"))(y:MtR X id r)(D:PE X o to)(b:attributeBase o name X.env (eval o X.env)=eval o X.env:=by rfl)(c:(apos.endLine == cpos.line)=true:=by rfl):PE X (.Call (.Attribute o name apos) [] [] cpos) (tBM0 X.K T r to):=by
 intro B s M H Q I h;refine wpAny_Call_method0_late b c (thn (D B s M H _ I h) λv j ⟨x,d,i,w,ty,E⟩=>?_);obtain⟨J,Y⟩:=Ek i w ty;exact⟨T,id,n,slot,p,J,Y,Mz rfl (PySem.evalArgs_none (y B j M d x [] v [] Q i w .nil E))⟩
theorem cY(n:PlainAttrs T)(slot:Slot T name id)(p:typeOf (.builtin id)=pure (.type "method_descriptor"))(y:MtR X id r)(D:PE X o to)(G:PA X (e::es) t)(b:attributeBase o name X.env (eval o X.env)=eval o X.env:=by rfl)(q:((backTo cpos (LY (e::es) X.env)).all (λx=>!x.1)&&(backToKw cpos (keywordEach [] X.env)).all (λx=>x.1.isSome)
   && decide ((e::es).length+([]:List Keyword).length+(if([]:List Keyword).isEmpty then 0 else 1)<30))=true:=by rfl)(c:(apos.endLine == cpos.line)=true:=by rfl)(l:LY (e::es) X.env=(false,eval e X.env)::LY es X.env:=by rfl)(f:(backTo cpos (LY es X.env)).any (·.1)=false:=by rfl):
  PE X (.Call (.Attribute o name apos) (e::es) [] cpos) (tBM X.K T r to t):=by
 intro B s M H Q I h;refine wpAny_Call_method_late b q c rfl (thn (D B s M H _ I h) λv j ⟨x,d,i,w,ty,k⟩=>?_);obtain⟨J,Y⟩:=Ek i w ty;refine⟨T,id,n,slot,p,J,Y,?_⟩;have a:=G cpos B j M d _ i k;rw[l]at a ⊢;refine Mz (by show(false||(backTo cpos (LY es X.env)).any (·.1))=false;rw[f]<;>rfl) (Calls.evalArgs_plain ?_)
 exact thn a λz E ⟨m,L,g,N,C⟩=>y B E M L x m v z Q g w N C
end
def MtM(X:Cx)(id:String)(r:V->List V->Hp->VK->Prop):Prop :=
 ∀(B:List (Addr×Obj))(s:Shared)(M:St)(H:Hp)(x:V)(D:List V)(v:Value)(z:List Value)(Q:VK),Inv X B M H s->RelV x v->Vals D z->r x D H Q ->
  wpAny (model X.prog X.w) X.A (call (.builtin id) (v::z)) (EP X B M Q) X.xe s
theorem Vals.one:∀{x:V}{us:List Value},Vals [x] us->∃ u,us=[u]/\RelV x u
 |_,_,.cons r .nil=>⟨_,rfl,r⟩
theorem Vals.unc{x:V}(h:Vals (x::xs) us):∃ u w,us=u::w/\RelV x u/\Vals xs w:=by
 cases h with
 |cons r t=>exact⟨_,_,rfl,r,t⟩
theorem Vals.two{x:V}(h:Vals [x,y] us):∃ u v,us=[u,v]/\RelV x u/\RelV y v:=by
 obtain⟨u,w,rfl,r,c⟩:=Vals.unc h;obtain⟨v,z,rfl,q,d⟩:=Vals.unc c;cases d;exact⟨_,_,rfl,r,q⟩
theorem Vals.zero:∀{us:List Value},Vals [] us->us=[]
 |_,.nil=>rfl
theorem Vals.dropLast(h:Vals xs us):Vals xs.dropLast us.dropLast:=by
 induction h with
 |nil=>exact .nil
 |cons r t C =>
  cases t with
  |nil=>exact .nil
  |cons q m=>exact .cons r C
theorem Vals.eraseIdx:∀{xs:List V}{us:List Value}(i:Nat),Vals xs us->Vals (xs.eraseIdx i) (us.eraseIdx i)
 |_,_,_,.nil=>.nil
 |_,_,0,.cons _ t=>t
 |_,_,i+1,.cons r t=>.cons r (Vals.eraseIdx i t)
theorem Vals.reverse(h:Vals xs us):Vals xs.reverse us.reverse:=by
 induction h with
 |nil=>exact .nil
 |cons r t C=>rw[List.reverse_cons,List.reverse_cons];exact Vals.append C (.cons r .nil)
theorem yY(l:List α):l.eraseIdx (l.length-1)=l.dropLast:=by
 induction l with
 |nil=>rfl
 |cons a r C =>
  cases r with
  |nil=>rfl
  |cons b r =>
   have e:(a::b::r).length-1=((b::r).length-1)+1:=by
    have J:(a::b::r).length=r.length+2:=rfl;have Y:(b::r).length=r.length+1:=rfl;omega
   rw[e,List.eraseIdx_cons_succ,C]
   all_goals rfl
theorem tq{α:Type}:∀(l:List α)(i:Nat),(l.eraseIdx i).length<=l.length
 |[],_=>G0 _
 |_::_,0=>IV _
 |_::r,i+1=>Nat.succ_le_succ (tq r i)
section
variable{X:Cx}{pins:List (Addr×Obj)}{σ:St}{H:Hp}{s:Shared}{l b:Addr}{xs ys zs:List V}
theorem Inv.lset{its':List Value}{f:Array Value->Array Value}(I:Inv X pins σ H s)(A:H l=some (.lst xs))(e:s.heap.get? l=some {cls:=.type "list",data:=.seq its.toArray n})(p:f its.toArray=its'.toArray)(O:Vals ys its')(hz:ys.length<=LR):
  Inv X pins σ (upd H l (.lst ys)) {s with heap:=s.heap.update l (Mw f),toks:=t'}:=by
 have q:=PySem.IsL.update e f;rw[p]at q;refine I.write (x:=l) (e:=l) (by rw[A];exact trivial) (.inl rfl) (λi u L g=>(My s.heap (Mw f) (Ne.symm L)).trans g) ⟨_,q⟩ ?_
 exact⟨hz,its',_,O,q⟩
theorem Inv.lnew(I:Inv X pins σ H s)(O:Vals ys its)(hz:ys.length<=LR):
  Inv X pins σ (upd H s.heap.objs.size (.lst ys)) {s with heap:=s.heap.push {cls:=.type "list",data:=.seq its.toArray},toks:=t'} :=
 I.laid (λ_ _ q=>Mf _ q) (G0 _) ⟨hz,its,0,O,Mg _ rfl⟩
theorem Inv.fresh(I:Inv X pins σ H s):H s.heap.objs.size=none:=I.hok.fresh (G0 _)
theorem Inv.lstM(I:Inv X pins σ H s)(A:H l=some (.lst xs)):xs.length<=LR/\∃(its:List Value)(n:Nat),Vals xs its/\xs.length=its.length/\s.heap.get? l=some {cls:=.type "list",data:=.seq its.toArray n}:=by
 obtain⟨z,its,n,r,e⟩:=I.hok l _ A;exact⟨z,its,n,r,r.length,e⟩
theorem Dn(h:n<=LR):Builtin.List.listTooLong n=false:=by
 unfold Builtin.List.listTooLong;exact LQ ∅
end
inductive Fx(x:L2.V)(vs:List V)(H:L2.Hp)(Q:L2.VK):Prop
 |mk (l xs y:_) (h0_:x=.ref l)(h1_:vs=[y])(h2_:H l=some (.lst xs))(h3_:xs.length<LR)(h4_:Q .non (upd H l (.lst (xs++[y]))))
theorem aY:MtM X "list.append" Fx:=by
 intro B s M H x m v c Q I d rv h;obtain⟨l,D,y,rfl,rfl,A,f,q⟩:=h
 cases d
 obtain⟨u,rfl,E⟩:=rv.one;obtain⟨z,L,n,r,G,e⟩:=I.lstM A;refine call_meets F.slot_list_append ⟨_,e,rfl⟩ F.entry_list_append (F.args_list_append_2 _ _) (PySem.list_append l L.toArray n u (by rw[Hl];omega)) ⟨e,?_⟩
 refine⟨.non,_,I.lset (its':=L++[u]) A e (by simp) (r.append (.cons E .nil)) ?_,rfl,q⟩
 rw[GZ,Hd];omega
inductive Fw(x:L2.V)(vs:List V)(H:L2.Hp)(Q:L2.VK):Prop
 |mk (l b xs zs:_) (h0_:x=.ref l)(h1_:vs=[.ref b])(h2_:H l=some (.lst xs))(h3_:H b=some (.lst zs))(h4_:xs.length+zs.length<=LR)(h5_:Q .non (upd H l (.lst (xs++zs))))
theorem AU:MtM X "list.extend" Fw:=by
 intro B s M H x m v Y Q I d rv h;obtain⟨l,b,D,c,rfl,rfl,A,i,f,q⟩:=h
 cases d
 obtain⟨u,rfl,t⟩:=rv.one
 cases t
 obtain⟨z,its,n,r,G,e⟩:=I.lstM A;obtain⟨g,J,a,o,j,E⟩:=I.lstM i;have C:its.toArray.size+J.toArray.size<=LR:=by rw[Hl,Hl];omega
 have k:¬ (!its.toArray.isEmpty&&Builtin.List.listTooLong (its.toArray.size+J.toArray.size))=true:=by
  rw[Dn C,JR];exact Hj
 refine call_meets F.slot_list_extend ⟨_,e,rfl⟩ F.entry_list_extend (F.args_list_extend_2 _ _)
  (AutoSeq1.list_extend_list_list_0 l its.toArray n b J.toArray a k (by rw[Hl];omega) ∅) ⟨e,E,?_⟩
 refine⟨.non,_,I.lset (its':=its++J) A e (by simp) (r.append o) ?_,rfl,q⟩
 rw[GZ];omega
inductive rPop(x:L2.V)(vs:List V)(H:L2.Hp)(Q:L2.VK):Prop
 |mk (l xs y:_) (h0_:x=.ref l)(h1_:vs=[])(h2_:H l=some (.lst xs))(h3_:xs[xs.length-1]?=some y)(h4_:Q y (upd H l (.lst xs.dropLast)))
theorem mt_pop:MtM X "list.pop" rPop:=by
 intro B s M H x m v c Q I d rv h;obtain⟨l,D,y,rfl,rfl,A,a,q⟩:=h
 cases d
 have f:=rv.zero;subst f;obtain⟨z,L,n,r,G,e⟩:=I.lstM A;obtain⟨u,g,E⟩:=r.get a;have j:L.toArray[L.toArray.size-1]?=some u:=by
  show L.toArray[L.length-1]?=some u;rw[← Ib,← G];exact g
 refine call_meets F.slot_list_pop ⟨_,e,rfl⟩ F.entry_list_pop (F.args_list_pop_1 _) (MeetsSeq.list_pop_last l L.toArray n u j (by rw[Hl];omega)) ⟨e,?_⟩
 refine⟨y,_,I.lset (its':=L.dropLast) A e ?_ r.dropLast ?_,E,q⟩
 .show L.toArray.eraseIdxIfInBounds (L.toArray.size-1)=L.dropLast.toArray;rw[Hl,Lf,yY]
 .rw[List.length_dropLast];omega
inductive rPopAt(x:L2.V)(vs:List V)(H:L2.Hp)(Q:L2.VK):Prop
 |mk (l xs i k y:_) (h0_:x=.ref l)(h1_:vs=[.int i])(h2_:H l=some (.lst xs))(h3_:-(2^63)<=i)(h4_:i<2^63)(h5_:seqIndex? i xs.length=some k)(h6_:xs[k]?=some y)(h7_:Q y (upd H l (.lst (xs.eraseIdx k))))
theorem Dp:MtM X "list.pop" rPopAt:=by
 intro B s M H x m v c Q I d rv h;obtain⟨l,f,i,k,y,rfl,rfl,A,J,Y,D,a,q⟩:=h
 cases d
 obtain⟨u,rfl,E⟩:=rv.one;obtain⟨t,rfl⟩:=E;obtain⟨z,L,n,r,G,e⟩:=I.lstM A;obtain⟨w,j,O⟩:=r.get a;refine call_meets F.slot_list_pop ⟨_,e,rfl⟩ F.entry_list_pop (F.args_list_pop_2 _ _)
  (MeetsSeq.list_pop_at l L.toArray n i t k w (fitsIndex_both J Y) (by rw[Hl,← G];exact D) (by rw[← Ib];exact j) (by rw[Hl];omega)) ⟨e,?_⟩
 refine⟨y,_,I.lset (its':=L.eraseIdx k) A e ?_ (r.eraseIdx k) ?_,O,q⟩
 .show L.toArray.eraseIdxIfInBounds k=(L.eraseIdx k).toArray;rw[Lf]
 .have:=tq f k
  omega
inductive rCat(x:L2.V)(y:L2.V)(H:L2.Hp)(Q:L2.VK):Prop
 |mk (l b xs zs:_) (h0_:x=.ref l)(h1_:y=.ref b)(h2_:H l=some (.lst xs))(h3_:H b=some (.lst zs))(h4_:xs.length+zs.length<=LR)(h5_:∀ p,H p=none->Q (.ref p) (upd H p (.lst (xs++zs))))
theorem op_cat:OpR X (Ml .Add) rCat:=by
 intro B s M H x y v u Q I d N h;obtain⟨l,b,D,c,rfl,rfl,A,i,f,q⟩:=h
 cases d
 cases N
 obtain⟨z,L,n,r,G,e⟩:=I.lstM A;obtain⟨g,J,a,o,j,E⟩:=I.lstM i;refine PySem.P.add_list e E ?_ (by rw[Hl,Hl];omega)
 have w:L.toArray++J.toArray=(L++J).toArray:=by simp
 rw[w];exact⟨.ref _,_,I.lnew (t':=s.toks) (r.append o) (by rw[GZ];omega),rfl,q _ I.fresh⟩
section
variable{prog:Program}{w:World}{A:Around}{E:Value->Shared->Prop}{s:Shared}
end
end L2
namespace Att
open PySem PySem.W PySem.Calls PyProof.Rows
theorem nH{P:Params}:∀(ns:List Int)(vs:List Value),WellAll P h vs (ns.map WData.int)->MA vs ns:=by
 intro ns;induction ns with
 |nil =>
  intro vs w;rw[List.map_nil]at w
  cases w
  exact .nil
 |cons n ns C =>
  intro vs w;rw[Hu]at w
  cases w with
  |cons a b =>
   cases a
   exact .cons _ _ (C _ b)
theorem Ae{l:OpenLaw}(T:l.most=some n){P:Params}{args:List WData}{e:List Value}(i:l.row.toRowW.claim.pre args=true)(k:WellAll P h e args):
  ∃ a vs ns,e=[Value.ref a]/\args=[WData.list (ns.map WData.int)]/\h.get? a=some {cls:=.type "list",data:=.seq vs.toArray}/\MA vs ns/\ns.length<=n:=by
 have f:WShape.hasAll [] args [.list .int]=true:=(pre_splitW i).1;have C:l.pre.holds [] {args:=args}=true:=(pre_splitW i).2;obtain⟨d,r,rfl,J,Y⟩:=hasAllW_cons f;obtain rfl:=hasAllW_nil Y;obtain⟨D,rfl,A⟩:=hasW_list J;obtain⟨ns,rfl⟩:=items_int A;have z:ns.length<=n:=by
  unfold OpenLaw.pre at C;have M:(WTm.not (.lt (.lit (.int (n:Int))) (.len (.arg 0)))).holds [] {args:=[.list (ns.map .int)]}=true:=by
   have M:=(holds_andW C).1;rw[T]at M;exact M
  have s:=condW_of M (w_not (w_lt w_lit (w_len_list (w_arg rfl))));rw[GY]at s;refine KA λq=>?_;have b:(n:Int)<((ns.length:Nat):Int):=by omega
  first
   | (rw[MB b]at s;exact Nr s (by decide))
   | (simp at s;omega)
 cases k with
 |cons u w =>
  cases w
  cases u with
  |list c t=>exact⟨_,_,ns,rfl,rfl,c,nH ns _ t,z⟩
theorem Au(l:OpenLaw)(args:List WData):l.row.toRowW.claim.post args (.bool true) args=true :=
 postW_of (r:=l.row.toRowW) (X:=(true == true))
  (show WShape.has [] (.bool true) .bool=true by first|rfl|decide|simp[WShape.has,WShape.arms,WShape.armsAll])
  (show(WTm.eq .res (.lit (.bool true))).value [] {args:=args,res:=some (.bool true),after:=args}=some (.bool (true == true)) from w_eq_bool (w_res rfl) w_lit) rfl
theorem attach_call{l:OpenLaw}{q:Program}{E:List Str}{N:(Str->Option Value)->Heap->Prop}{H:World->Heap->Prop}{d:DefRec}(T:l.most=some n)(m:d.params.defaults=[])(call:∀(w:World)(s₀ s₁:Shared)(mg p:Str->Option Value)(j:Addr)(o:Obj)(C t O:Value)(a:Addr)(vs:List Value)(ns:List Int),
   Ground q E [] N w s₀ mg p s₁.heap->H w s₁.heap ->
   s₁.heap.get? j=some o->o.data=.func (docDef d.name d.params d.body d.scope C t O)->s₁.heap.CodeRec t d.name->mg d.name=some (.ref j) ->
   s₁.heap.get? a=some {cls:=.type "list",data:=.seq vs.toArray}->MA vs ns->ns.length<=n->s₁.gens=#[] ->
   Mp (model l.prog w) callerA (.call (.ref j) ⟨[.ref a],[]⟩) (λr s'=>r=.ok (.ret (.bool true))/\OldK s₁.heap s'.heap/\s'.os=s₁.os/\AllBare s'.gens) s₁):
  WalkO q E N H l.row.toRowW d [] (λf vs=>PySem.call f vs):=by
 intro w s₀ s₁ mg p G Y j o C t O u kV D hd L b s J v e as i x I k Q;obtain rfl:u=.none:=Dflts.none b m;obtain rfl:kV=.none:=Dflts.noKw b;obtain⟨a,vs,ns,rfl,rfl,c,h,z⟩:=Ae T i k;refine enter_call (Mt (call w s₀ s₁ mg p j o C t O a vs ns G Y D (fd_plain hd) L s c h z J) λr s' g=>?_);obtain⟨rfl,B,A,M⟩:=g;exact⟨.inl ⟨.bool true,.bool true,[],rfl,λ_=>rfl,.bool true,Au l _,λ_=>⟨JQ,λ_ y=>(nomatch y)⟩⟩,B,A,M⟩
section
variable{prog:Program}{w:World}{A:Around}{E:Value->Shared->Prop}{s:Shared}{K:Frag}
end
end Att
namespace L2
open PySem PySem.Spec PyProof.Rows
theorem rS:∀{vs:List Value}{ns:List Int},MA vs ns->Vals (ns.map V.int) vs
 |_,_,.nil=>.nil
 |_,_,.cons n t h=>.cons ⟨t,rfl⟩ (rS h)
def nJ(s:Stmt)(j:Nat):Stmt:=match s with
 |.ClassDef _ _ _ d _ _ _ _ _ _ _=>d.getD j (.Pass ⟨0,0,0,0⟩)
 |_=>.Pass ⟨0,0,0,0⟩
def cZ(s:Stmt):Arguments:=match s with
 |.FunctionDef _ a _ _ _ _ _ _ _ _=>a
 |_=>{posonlyargs:=[],args:=[],vararg:=none,kwonlyargs:=[],kw_defaults:=[],kwarg:=none,defaults:=[]}
def b7(s:Stmt):List Stmt:=match s with
 |.FunctionDef _ _ b _ _ _ _ _ _ _=>b
 |_=>[]
def ar(s:Stmt):Scope:=match s with
 |.FunctionDef _ _ _ _ _ _ a _ _ _=>a
 |_=>{kind:=.function,names:=[],isGenerator:=false,isCoroutine:=false}
abbrev CX0:CXT:=λ_ _ _ _ _ _=>False
abbrev E0:XK:=λ_ _ _=>False
theorem i3:l4 CX0 X E0:=λ_ _ _ _ _ _ _ h=>h.elim
structure Fun(K:GX)(x qual:Str)(st:Stmt)(f:Addr)(fd:FuncData):Prop where
 ex:∃(oc:Value)(od:Option Addr)(kV doc pm:Value)(an:Option Addr)(cdv ct:Value)(osl:Array (Option Value)),
  fd=IC x qual (cZ st) (b7 st) (ar st) .none kV doc pm an cdv ct/\K.lookup f=some ⟨oc,od,.func fd,osl⟩/\IY K cdv qual=true
 kp:HV K (.ref f)=true
theorem Fun.ok{m:Str}{st:Stmt}{N ps:List Str}{k:Nat}(F:Fun K x m st f fd)(S:az N ps (ar st))(len:∀ vs H Q E,sp vs H Q E->vs.length=ps.length)(a:∀(M:Value)(A:Around)(outer:List Env)(s:Shared)(H:Hp)(vs:List V)(Q:VK)(E:XK),Room k (A.deeper (envOfC m (ar st) s.heap.objs.size f M))->sp vs H Q E ->
   ∃ t,PSs (cxOf CX0 P w K mg base N m (ar st) f M A outer s H E).nox (b7 st) t/\t {nx:=λ_ H'=>Q .non H',rt:=Q} (oq N vs) H):FnOk P w K mg base CX0 (k+1) f fd ps sp:=by
 obtain⟨g,Y,kV,O,C,d,M,l,b,rfl,p,L⟩:=F.ex;refine Gk p L S len λA outer s H vs Q E j I=>?_;obtain⟨t,h,q⟩:=a M A outer s H vs Q E j I;exact⟨t,h.nox,q⟩
theorem Fun.binds{m:Str}{st:Stmt}{ps:List Str}(F:Fun K x m st f fd)(h:∀(kV O C:Value)(d:Option Addr)(M ct:Value)(us:List Value),us.length=ps.length->bindArgs (IC x m (cZ st) (b7 st) (ar st) .none kV O C d M ct) ⟨us,[]⟩=pure (ps.zip us)):dQ K fd ps []:=by
 obtain⟨g,Y,kV,O,C,d,M,ct,b,rfl,p,L⟩:=F.ex;exact .all (h kV O C d M ct)
theorem fun_mk{m:Str}{st:Stmt}{Y d:Option Addr}{b:Array (Option Value)}{kV O C M ct:Value}(l:K.lookup f=some ⟨u,Y,.func (IC x m (cZ st) (b7 st) (ar st) .none kV O C d M ct),b⟩)(c:IY K M m=true)(k:HV K (.ref f)=true):Fun K x m st f (IC x m (cZ st) (b7 st) (ar st) .none kV O C d M ct):=⟨⟨u,Y,kV,O,C,d,M,ct,b,rfl,l,c⟩,k⟩
theorem qM{k:Nat}(N:Room k A):A.units+1<cLine:=Nat.lt_of_le_of_lt (Nat.add_le_add_left (by decide:1<=64) _) N.units
theorem av(h:n<=1000):n<LR:=Nat.lt_of_le_of_lt h (by decide)
theorem pv(i:Nat)(k:X.N[i]?=some x:=by rfl)(O:Vis X.env.scope x:=by first|exact Or.inl rfl|exact Or.inr (Or.inl rfl)|exact Or.inr (Or.inr rfl))(hd:(x == ("__debug__" : Str))=false:=by decide)(L:(x == ("__classdict__" : Str))=false:=by decide):PE X (.Name x pos) (tVar i):=pe_var k O hd L
theorem iteF{A:Prop}(h:B):if false=true then A else B:=by
 rw[Nq Hj];exact h
theorem iteT{A:Prop}(h:A):if true=true then A else B:=by
 rw[Np rfl];exact h
theorem ite2{c A:Prop}[Decidable c](J:c->A)(h2:¬ c->B):if c then A else B:=by
 by_cases h:c
 .rw[Np h];exact J h
 .rw[Nq h];exact h2 h
theorem qJ{c A:Prop}[Decidable c](C:c)(h:B):if(!decide c)=true then A else B:=by
 rw[MB C];exact iteF h
def Same(H H':Hp):Prop:=∀ b o,H b=some o->H' b=some o
theorem Same.trans(a:Same H H1)(b:Same H1 H2):Same H H2:=λc o h=>b c o (a c o h)
theorem Same.seq(e:Same H H')(h:SqL K H a xs):SqL K H' a xs:=by
 rcases h with(h|⟨o,h⟩)|h
 .exact .inl (.inl (e _ _ h))
 .exact .inl (.inr ⟨o,e _ _ h⟩)
 .exact .inr h
end L2
set_option maxRecDepth 100000
set_option maxHeartbeats 4000000
namespace L2
open PySem PySem.Spec PyProof.Rows
section
variable{κ:Type} [DecidableEq κ]
def valV(kvs:List (κ×V))(k:κ):Option V:=(kvs.find? λf=>decide (f.1=k)).map (·.2)
def putK(kvs:List (κ×V))(k:κ)(v:V):List (κ×V) :=
 if(kvs.any λf=>decide (f.1=k))=true then kvs.map (λf=>if f.1=k then(f.1,v) else f) else kvs++[(k,v)]
def mr(kvs:List (κ×V))(k:κ):List (κ×V):=kvs.filter λf=>decide (f.1≠k)
theorem bh{p:κ×V}{r:List (κ×V)}{k:κ}(e:p.1=k):valV (p::r) k=some p.2:=by simp[valV,JL,e]
theorem bj{p:κ×V}{r:List (κ×V)}{k:κ}(e:¬ p.1=k):valV (p::r) k=valV r k:=by simp[valV,JL,e]
theorem fN(k:κ):∀ kvs:List (κ×V),(kvs.any λf=>decide (f.1=k))=(valV kvs k).isSome
 |[]=>rfl
 |p::r=>by
  rw[LN];by_cases e:p.1=k
  .simp only[bh e,MB e,Bool.true_or,Option.isSome_some]
  .rw[bj e,LQ e,Bool.false_or];exact fN k r
theorem xq(k j:κ)(y:V):∀ kvs:List (κ×V),valV (kvs.map λf=>if f.1=k then(f.1,y) else f) j=(valV kvs j).map λx=>if j=k then y else x
 |[]=>rfl
 |p::r=>by
  have C:=xq k j y r;rw[Hu];by_cases h:p.1=k
  .rw[Np h];by_cases e:p.1=j
   .rw[bh (p:=(p.1,y)) e,bh e,KI,Np (e.symm.trans h)]
   .rw[bj (p:=(p.1,y)) e,bj e,C]
  .rw[Nq h];by_cases e:p.1=j
   .rw[bh (p:=p) e,bh e,KI,Nq (λz=>h (e.trans z))]
   .rw[bj (p:=p) e,bj e,C]
theorem rT(k j:κ)(y:V):∀ kvs:List (κ×V),valV kvs k=none->valV (kvs++[(k,y)]) j=if j=k then some y else valV kvs j
 |[],_=>by
  by_cases e:k=j
  .rw[Np e.symm];exact bh (p:=(k,y)) e
  .rw[Nq (λz=>e z.symm)];exact bj (p:=(k,y)) e
 |p::r,T=>by
  rw[Lj];have D:¬ p.1=k:=λz=>by rw[bh z]at T;cases T
  rw[bj D]at T;have C:=rT k j y r T;by_cases e:p.1=j
  .rw[bh e,bh e,Nq (λz=>D (e.trans z))]
  .rw[bj e,bj e,C]
theorem eJ(kvs:List (κ×V))(k j:κ)(y:V):valV (putK kvs k y) j=if j=k then some y else valV kvs j:=by
 unfold putK;by_cases a:(kvs.any λf=>decide (f.1=k))=true
 .rw[Np a,xq];rw[fN]at a;by_cases e:j=k
  .obtain⟨x,O⟩:=Kq.mp a;rw[Np e,e,O,KI,Np rfl]
  .rw[Nq e]
   cases valV kvs j with
   |none=>rfl
   |some x=>rw[KI,Nq e]
 .rw[Nq a];refine rT k j y kvs ?_;rw[fN]at a
  cases q:valV kvs k with
  |none=>rfl
  |some x=>rw[q]at a;exact(a rfl).elim
theorem cg(kvs:List (κ×V))(k:κ)(v:V):(putK kvs k v).length<=kvs.length+1:=by
 unfold putK;split
 .rw[GY];omega
 .rw[GZ,Hk,Ja];omega
theorem qf{kvs:List (κ×V)}{k:κ}(v:V)(h:valV kvs k=none):putK kvs k v=kvs++[(k,v)]:=by
 unfold putK;rw[fN,h];exact Nq (by decide)
theorem RelO.isSome_eq{o:Option V}{u:Option Value}(r:RelO o u):o.isSome=u.isSome:=by
 cases o with
 |none=>cases u with
  |none=>rfl
  |some _=>exact(show False from r).elim
 |some _=>cases u with
  |none=>exact(show False from r).elim
  |some _=>rfl
theorem RelO.getD{o:Option V}{u:Option Value}{d:V}{d':Value}(r:RelO o u)(f:RelV d d'):RelV (o.getD d) (u.getD d'):=by
 cases o with
 |none=>cases u with
  |none=>exact f
  |some _=>exact(show False from r).elim
 |some _=>cases u with
  |none=>exact(show False from r).elim
  |some _=>exact r
theorem KV.val{kvs:List (κ×V)}{vs:List (κ×Value)}(r:KV kvs vs)(k:κ):RelO (valV kvs k) (valueAt vs k):=by
 unfold KV at r;induction r with
 |nil=>exact True.intro
 | @cons p q G d h t C =>
  obtain⟨J,Y⟩:=h;by_cases e:p.1=k
  .have u:q.1=k:=J.symm.trans e
   have b:valueAt (q::d) k=some q.2:=by simp[valueAt,JL,u]
   rw[bh e,b];exact Y
  .have u:¬ q.1=k:=λz=>e (J.trans z)
   have b:valueAt (q::d) k=valueAt d k:=by simp[valueAt,JL,u]
   rw[bj e,b];exact C
theorem KV.any{kvs:List (κ×V)}{vs:List (κ×Value)}(r:KV kvs vs)(k:κ):(kvs.any λf=>decide (f.1=k))=vs.any λf=>decide (f.1=k):=by
 unfold KV at r;induction r with
 |nil=>rfl
 |cons h t C=>rw[LN,LN,C,h.1]
theorem KV.repl{kvs:List (κ×V)}{vs:List (κ×Value)}(r:KV kvs vs)(k:κ)(c:RelV y u):
  KV (kvs.map λf=>if f.1=k then(f.1,y) else f) (vs.map λf=>if f.1=k then(f.1,u) else f):=by
 unfold KV at r ⊢;induction r with
 |nil=>exact .nil
 | @cons p q G d h t C =>
  rw[Hu,Hu];refine .cons ?_ C;obtain⟨J,Y⟩:=h;by_cases e:p.1=k
  .rw[Np e,Np (J.symm.trans e)];exact⟨J,c⟩
  .rw[Nq e,Nq (λz=>e (J.trans z))];exact⟨J,Y⟩
theorem KV.put{kvs:List (κ×V)}{vs:List (κ×Value)}(r:KV kvs vs)(k:κ)(c:RelV y u):KV (putK kvs k y) (stored vs k u):=by
 unfold putK stored;rw[r.any k];by_cases e:(vs.any λf=>decide (f.1=k))=true
 .rw[Np e,Np e];exact r.repl k c
 .rw[Nq e,Nq e];exact Paired.snoc r ⟨rfl,c⟩
theorem KV.drop{kvs:List (κ×V)}{vs:List (κ×Value)}(r:KV kvs vs)(k:κ):KV (mr kvs k) (without vs k):=by
 unfold KV at r ⊢;unfold mr without;induction r with
 |nil=>exact .nil
 | @cons p q G d h t C =>
  obtain⟨J,Y⟩:=h;rw[KC,KC];by_cases e:p.1=k
  .have a:¬ decide (p.1≠k)=true:=by simp[e]
   have b:¬ decide (q.1≠k)=true:=by simp[J.symm.trans e]
   rw[Nq a,Nq b];exact C
  .have u:¬ q.1=k:=λz=>e (J.trans z)
   have a:decide (p.1≠k)=true:=by simp[e]
   have b:decide (q.1≠k)=true:=by simp[u]
   rw[Np a,Np b];exact .cons ⟨J,Y⟩ C
theorem KV.length{kvs:List (κ×V)}{vs:List (κ×Value)}(r:KV kvs vs):kvs.length=vs.length:=Paired.length r
theorem DW(kvs:List (κ×V))(k:κ):(mr kvs k).length<=kvs.length:=Jy _ _
end
theorem vE{k:Key}(r:RelV (kV k) u):(bA P w).is k u=true:=by
 cases k with
 |inl i=>obtain⟨t,e⟩:=(show ∃ t,u=Value.int i t from r);subst e;exact vy P w i t
 |inr x=>obtain⟨t,e⟩:=(show ∃ t,u=Value.str x t from r);subst e;exact vx P w x t
theorem tJ{P:Program}{w:World}:∀{ks:List Key}{us:List Value},Vals (ks.map kV) us->ItemsAre (bA P w) ks us
 |[],_,r=>by rw[List.map_nil]at r;cases r;exact .nil
 |k::ks,_,r=>by
  rw[Hu]at r
  cases r with
  |cons h t=>exact .cons (vE h) (tJ t)
abbrev KT(H:Hp):List (List Key×V)->List (List Key×Addr×Value)->Prop:=Paired λp q=>p.1=q.1/\H q.2.1=some (.tup (p.1.map kV))/\RelV p.2 q.2.2
theorem KT.val{kvs:List (List Key×V)}{xs:List (List Key×Addr×Value)}(r:KT H kvs xs)(k:List Key):RelO (valV kvs k) ((atKey xs k).map (·.2)):=by
 induction r with
 |nil=>exact True.intro
 | @cons p q G d h t C =>
  obtain⟨J,_,Y⟩:=h;by_cases e:p.1=k
  .have u:q.1=k:=J.symm.trans e
   have b:atKey (q::d) k=some q.2:=by simp[atKey,JL,u]
   rw[bh e,b];exact Y
  .have u:¬ q.1=k:=λz=>e (J.trans z)
   have b:atKey (q::d) k=atKey d k:=by simp[atKey,JL,u]
   rw[bj e,b];exact C
theorem KT.repl{kvs:List (List Key×V)}{xs:List (List Key×Addr×Value)}(r:KT H kvs xs)(k:List Key)(c:RelV y u):
  KT H (kvs.map λf=>if f.1=k then(f.1,y) else f) (xs.map (putAt k u)):=by
 induction r with
 |nil=>exact .nil
 | @cons p q G d h t C =>
  rw[Hu,Hu];refine .cons ?_ C;obtain⟨J,Y,A⟩:=h;unfold putAt;by_cases e:p.1=k
  .rw[Np e,Np (J.symm.trans e)];exact⟨J,Y,c⟩
  .rw[Nq e,Nq (λz=>e (J.trans z))];exact⟨J,Y,A⟩
theorem KT.put{kvs:List (List Key×V)}{xs:List (List Key×Addr×Value)}(r:KT H kvs xs)(k:List Key){b:Addr}(L:H b=some (.tup (k.map kV)))(c:RelV y u):
  KT H (putK kvs k y) (storedH xs k b u):=by
 have e:(kvs.any λf=>decide (f.1=k))=(atKey xs k).isSome:=by
  rw[fN,(r.val k).isSome_eq,Option.isSome_map]
 unfold putK storedH;rw[e];by_cases q:(atKey xs k).isSome=true
 .rw[Np q,Np q];exact r.repl k c
 .rw[Nq q,Nq q];exact Paired.snoc r ⟨rfl,L,c⟩
theorem KT.keeps{kvs:List (List Key×V)}{xs:List (List Key×Addr×Value)}(r:KT H kvs xs)(T:∀ b ys,H b=some (.tup ys)->H' b=some (.tup ys)):KT H' kvs xs :=
 Paired.mapP r λ_ _ z=>⟨z.1,T _ _ z.2.1,z.2.2⟩
theorem rd_of{u:HO}(ok:HOk P w H h)(e:Rd H a u):bC P w H h a u:=e.ok ok
theorem y8(ok:HOk P w H h)(e:Rd H a (.dK kvs)):kvs.length<=LR/\(a == sysModules)=false/\∃ vs,KV kvs vs/\h.DictOf (bA P w) a vs :=
 show bC P w H h a (.dK kvs) from rd_of ok e
theorem y9(ok:HOk P w H h)(e:H a=some (.dK kvs)):kvs.length<=LR/\(a == sysModules)=false/\∃ vs,KV kvs vs/\h.DictOf (bA P w) a vs:=y8 ok (.inl e)
theorem tG{ks:List Key}(ok:HOk P w H h)(e:H a=some (.tup (ks.map kV))):(tupleKind (bA P w)).is h ks a:=by
 obtain⟨_,L,r,o,J,Y,n,A⟩:=(show bC P w H h a (.tup (ks.map kV)) from ok a _ e);exact⟨o,L.toArray,n,J,Y,A,by simpa using tJ r⟩
theorem y7{kvs:List (List Key×V)}(ok:HOk P w H h)(e:Rd H a (.dT kvs)):kvs.length<=LR/\(a == sysModules)=false /\
  ∃ xs,KT H kvs xs/\h.DictOfH (tupleKind (bA P w)) a xs:=by
 obtain⟨z,y,xs,r,o,B,M,J,Y,A,N,s⟩:=(show bC P w H h a (.dT kvs) from rd_of ok e);refine⟨z,y,xs,r,o,B,M,J,Y,A,N,λx O=>?_,s⟩;have all:∀{l:List (List Key×V)}{m:List (List Key×Addr×Value)},KT H l m->∀ x∈m,(tupleKind (bA P w)).is h x.1 x.2.1:=by
  intro l m q;induction q with
  |nil=>intro x O;exact nomatch O
  | @cons p q G d g t C =>
   intro x O;rcases G6.mp O with e|O
   .subst e;exact tG ok (by rw[← g.1];exact g.2.1)
   .exact C x O
 exact all r x O
theorem dt_of{kvs:List (List Key×V)}(ok:HOk P w H h)(e:H a=some (.dT kvs)):kvs.length<=LR/\(a == sysModules)=false /\
  ∃ xs,KT H kvs xs/\h.DictOfH (tupleKind (bA P w)) a xs:=y7 ok (.inl e)
def DGet(H:Hp)(a:Addr)(y:V)(r:Option V):Prop :=
 (∃ N k,Rd H a (.dK N)/\y=kV k/\r=valV N k)∨∃ N k b,Rd H a (.dT N)/\y=.ref b/\H b=some (.tup (k.map kV))/\r=valV N k
def DPut(H:Hp)(a:Addr)(y v:V)(H':Hp):Prop :=
 (∃ N k,H a=some (.dK N)/\y=kV k/\N.length<LR/\H'=upd H a (.dK (putK N k v))) ∨
 ∃ N k b,H a=some (.dT N)/\y=.ref b/\H b=some (.tup (k.map kV))/\N.length<LR/\H'=upd H a (.dT (putK N k v))
theorem DGet.k{H:Hp}{a:Addr}{kvs:List (Key×V)}{k:Key}(e:H a=some (.dK kvs)):DGet H a (kV k) (valV kvs k):=.inl ⟨kvs,k,.inl e,rfl,rfl⟩
theorem DPut.k{H:Hp}{a:Addr}{kvs:List (Key×V)}{k:Key}{v:V}(e:H a=some (.dK kvs))(hl:kvs.length<LR):DPut H a (kV k) v (upd H a (.dK (putK kvs k v))):=.inl ⟨kvs,k,e,rfl,hl,rfl⟩
section
variable{X:Cx}{pins:List (Addr×Obj)}{σ:St}{H:Hp}{s:Shared}{a:Addr}{y v:V}{u r:Value}{o:Option V}{A:Around}{E:Value->Shared->Prop}
theorem Inv.big(I:Inv X pins σ H s):sysModules<s.heap.objs.size:=by
 have h:LU<s.heap.objs.size:=(I.mod.glob.keeps I.bk).lt;exact Jg (by decide) h
theorem BW(hu:A.units+1<cLine)(I:Inv X pins σ H s)(g:DGet H a y (some v))(c:RelV y u)(h:∀ w' s',Inv X pins σ H s'->RelV v w'->Q w' s'):
  wpAny (model X.prog X.w) A (getItem (.ref a) u) Q E s:=by
 rcases g with⟨N,k,e,J,l⟩|⟨N,k,b,e,J,t,l⟩
 .subst J;obtain⟨z,hd,m,rel,L⟩:=y8 I.hok e;obtain⟨w',j,O⟩:=RelO.some_of (v:=v) (o:=valueAt m k) (by rw[l];exact rel.val k)
  exact wpAny_getItem_of (vE c) L.mapOf j (h w' _ (I.tok _) O)
 .subst J
  cases (show u=Value.ref b from c)
  obtain⟨z,hd,D,rel,L⟩:=y7 I.hok e;obtain⟨w',j,O⟩:=RelO.some_of (v:=v) (o:=(atKey D k).map (·.2)) (by rw[l];exact rel.val k)
  obtain⟨p,M,d⟩:=Ho.mp j;refine wpAny_getItem_heap (tupleKind_room_in1 hu) (tG I.hok t) L M ?_;rw[d];exact h w' _ (I.tok _) O
theorem Gz(hu:A.units+1<cLine)(I:Inv X pins σ H s)(g:DGet H a y o)(c:RelV y u)(h:∀ s',Inv X pins σ H s'->Q (.bool (!o.isSome)) s'):
  wpAny (model X.prog X.w) A (L0 .NotIn u (.ref a)) Q E s:=by
 rcases g with⟨N,k,e,J,l⟩|⟨N,k,b,e,J,t,l⟩
 .subst J;obtain⟨z,hd,m,rel,L⟩:=y8 I.hok e;refine wpAny_notIn_of (vE c) hd L.mapOf ?_;rw[← (rel.val k).isSome_eq,← l];exact h _ (I.tok _)
 .subst J
  cases (show u=Value.ref b from c)
  obtain⟨z,hd,D,rel,L⟩:=y7 I.hok e;refine wpAny_notIn_heap (tupleKind_room_in1 hu) (tG I.hok t) hd L ?_;have q:=(rel.val k).isSome_eq;rw[Option.isSome_map]at q;rw[← q,← l];exact h _ (I.tok _)
theorem rj{ob:HO}(I:Inv X pins σ H s)(d:Mut (H a))(T:LX a s.heap h')(n:∃ q,h'.get? a=some q)(new:bC X.prog X.w (upd H a ob) h' a ob):
  Inv X pins σ (upd H a ob) {s with heap:=h',toks:=t'} :=
 I.write (x:=a) (e:=a) d (.inl rfl) (λb q L z=>(T.2 b L).trans z) n new
theorem BK{vs:List (Key×Value)}(z:kvs.length<=LR)(hd:(a == sysModules)=false)(rel:KV kvs vs)(dd:h'.DictOf (bA P w) a vs):
  bC P w H' h' a (.dK kvs):=⟨z,hd,vs,rel,dd⟩
theorem BO{Q:Unit->Shared->Prop}(hu:A.units+1<cLine)(I:Inv X pins σ H s)(g:DPut H a y v H')(d:RelV y u)(rv:RelV v r)(h:∀ s',Inv X pins σ H' s'->Q () s'):
  wpAny (model X.prog X.w) A (setItem (.ref a) u r) Q E s:=by
 rcases g with⟨N,k,e,J,l,eH⟩|⟨N,k,b,e,J,i,l,eH⟩
 .subst J eH;obtain⟨z,hd,m,rel,L⟩:=y9 I.hok e;have f:m.length<=LR:=by rw[← rel.length];exact z
  have G:(putK N k v).length<=LR:=by have:=cg N k v;omega
  refine wpAny_setItem_pairs (hsz:=f) (vE d) L λp aa T=>h _ ?_;have n:∃ q,p.get? a=some q:=let ⟨q,_,_,M,_⟩:=aa;⟨q,M⟩;exact rj I (by rw[e];exact True.intro) T n (BK G hd (rel.put k rv) aa)
 .subst J eH
  cases (show u=Value.ref b from d)
  obtain⟨z,hd,D,rel,L⟩:=dt_of I.hok e;have f:D.length<=LR:=by rw[← Paired.length rel];exact z
  have G:(putK N k v).length<=LR:=by have:=cg N k v;omega
  refine wpAny_setItem_heap (hsz:=f) (tupleKind_room_in1 hu) (tG I.hok i) L λp aa T=>h _ ?_;obtain⟨q,B,O,M,Y,j,x,_,C⟩:=aa;refine rj I (by rw[e];exact True.intro) T ⟨q,M⟩ ⟨G,hd,_,(rel.put k i rv).keeps λc t o=>?_,q,B,O,M,Y,j,x,C⟩
  rw[aq (yE o e (λz=>nomatch z))];exact o
end
section
variable{X:Cx}{pins:List (Addr×Obj)}{σ:St}{H:Hp}{s:Shared}{a:Addr}{kvs:List (Key×V)}{k:Key}{u:Value}{A:Around}{E:Value->Shared->Prop}
theorem d_pop{more:List Value}(I:Inv X pins σ H s)(e:H a=some (.dK kvs))(c:RelV (kV k) u)(l:valV kvs k=some v)(y:more=[]∨∃ x,more=[x])(h:∀ w' s',Inv X pins σ (upd H a (.dK (mr kvs k))) s'->RelV v w'->Q w' s'):wpAny (model X.prog X.w) A (call (.builtin "dict.pop") (.ref a::u::more)) Q E s:=by
 obtain⟨z,hd,m,rel,L⟩:=y9 I.hok e;obtain⟨w',j,O⟩:=RelO.some_of (v:=v) (o:=valueAt m k) (by rw[← l];exact rel.val k)
 have g:(keyPart u).isSome=true:=by
  cases k with
  |inl i=>obtain⟨t,q⟩:=(show ∃ t,u=Value.int i t from c);subst q;rfl
  |inr x=>obtain⟨t,q⟩:=(show ∃ t,u=Value.str x t from c);subst q;rfl
 have G:argsOk "dict.pop" ⟨.ref a::u::more,[]⟩:=by
  rcases y with q|⟨x,q⟩
  .subst q;exact PySem.F.args_dict_pop_2 _ _
  .subst q;exact PySem.F.args_dict_pop_3 _ _ _
 refine call_meetsIn PySem.F.slot_dict_pop L.typeIs PySem.F.entry_dict_pop G (meets_dict_pop_there (bA X.prog X.w) a (vE c) more y g)
  ⟨m,w',L,by rw[← rel.length];exact z,j,λp r T=>h w' _ ?_ O⟩
 have n:∃ q,p.get? a=some q:=let ⟨q,_,_,M,_⟩:=r;⟨q,M⟩;exact rj I (by rw[e];exact True.intro) T n (BK (Ig (DW kvs k) z) hd (rel.drop k) r)
end
def NoSl(i:Expr):Prop:=∀ k e,subscripted i false k e=operate [k,e] (getItem k e)
theorem Fj{prog:Program}{b:Expr}{T id:String}(hl:typeLookup (.type T) "__getitem__"=pure (some (.builtin id)))(l:NoSl b)(h:wpAny (model prog w) A (eval e env) (λo s₁=>wpAny (model prog w) A (eval b env) (λi s₂=>s₂.TypeIs o T/\wpAny (model prog w) A (getItem o i) Q E s₂) E s₁) E s):
  wpAny (model prog w) A (eval (.Subscript e b pos) env) Q E s:=by
 refine Subscript_ (LZ h (λo s₁ f=>LZ f (λi s₂ g=>?_) λ_ _ x=>x) λ_ _ x=>x);obtain⟨Y,g⟩:=g;unfold subscriptTail;refine Mb ?_;rw[getitemInPython_of_ne Y.not_modules];refine Mb (MC Y hl ?_);have p:wpAny (model prog w) A (subscripted b false o i) (λr a=>wpAny (model prog w) A (letTemporaryGo e o r >>= λ_=>pure r) Q E a) E s₂:=by
  rw[l o i];exact wpAny_operating (LZ g (λr a j=>Mb (wpAny_letTemporaryGo (Me j))) λ_ _ x=>x)
 first
  |exact Me (Mb p)
  |exact Mb (Me (Mb p))
  |exact Mb p
theorem wy{o:Option V}(I:Inv X J σ H s)(g:DGet H a y o):s.TypeIs (.ref a) "dict":=by
 rcases g with⟨N,k,e,_,_⟩|⟨N,k,b,e,_,_,_⟩
 .obtain⟨_,_,m,_,L⟩:=y8 I.hok e;exact L.typeIs
 .obtain⟨_,_,D,_,L⟩:=y7 I.hok e;exact L.typeIs
def tDGet(b ty:TE):TE:=λM H Q=>b M H λx Y=>ty M Y λy L=>∃ a v,x=.ref a/\DGet L a y (some v)/\Q v L
def Fi(ty b:TE):TE:=λM H Q=>ty M H λy Y=>b M Y λx L=>∃ a o,x=.ref a/\DGet L a y o/\Q (.bl (!o.isSome)) L
def sDPut(b ty c:TE):TS:=λD M H=>c M H λv Y=>b M Y λx L=>ty M L λy q=>∃ a t,x=.ref a/\DPut q a y v t/\D.nx M t
section
variable{X:Cx}{o i e value:Expr}{pos pos' tpos:Pos}{td ty tv:TE}
theorem gm(hu:X.A.units+1<cLine)(D:PE X o td)(hi:PE X i ty)(T:NoSl i):PE X (.Subscript o i pos) (tDGet td ty):=by
 intro B s M H Q I h;refine Fj PySem.F.slot_dict_getitem.lookup T (thn (D B s M H _ I h) λu j ⟨x,Y,d,t,E⟩=>thn (hi B j M Y _ d E) λe J ⟨y,L,m,c,a,v,G,g,C⟩=>?_);subst G;obtain rfl:u=Value.ref a:=t;exact⟨wy m g,BW hu m g c λb p z O=>⟨v,L,z,O,C⟩⟩
theorem kC(hu:X.A.units+1<cLine)(hi:PE X i ty)(D:PE X o td):PC X .NotIn i o (Fi ty td):=by
 intro B s M H Q I h;refine thn (hi B s M H _ I h) λe j ⟨y,Y,d,c,E⟩=>thn (D B j M Y _ d E) λu J T=>?_;obtain⟨x,L,m,t,a,ov,G,g,C⟩:=T;subst G;obtain rfl:u=Value.ref a:=t;exact Gz hu m g c λp z=>⟨.bl (!ov.isSome),L,z,rfl,C⟩
theorem jC(hu:X.A.units+1<cLine)(c:PE X o td)(hi:PE X i ty)(O:PE X value tv)(T:swapsWith value (some (.Subscript o i pos')) pos.line X.env=pure false):
  PS X (.Assign [.Subscript o i pos'] value pos) (sDPut td ty tv):=by
 intro B s M H D I h;refine wpAny_Assign_Subscript (thn (O B s M H _ I h) λr j ⟨v,Y,d,rv,E⟩=>thn (c B j M Y _ d E) λu J ⟨x,L,m,t,C⟩=>thn (hi B J M L _ m C) λl p ⟨y,q,z,N,a,b,G,g,e⟩=>?_) T;subst G;obtain rfl:u=Value.ref a:=t;exact BO hu z g N rv λk f=>⟨M,b,f,e⟩
end
theorem yg(h:Heap)(L:sysModules<h.objs.size):bC P w H (h.push {cls:=.type "dict",data:=.dict #[]}) h.objs.size (.dK []) :=
 ⟨HI _,beq_eq_false_iff_ne.mpr (Ne.symm (Hr L)),[],.nil,Heap.DictOf.new h⟩
def tDNewK:TE:=λ_ H Q=>∀ p,H p=none->Q (.ref p) (upd H p (.dK []))
theorem kA:PE X (.Dict [] [] pos) tDNewK:=λB s M H Q I h =>
 wpAny_Dict_empty ⟨.ref s.heap.objs.size,_,I.laid (a:=s.heap.objs.size) (o:=.dK []) (t':=s.toks) (λ_ _ q=>Mf _ q) (G0 _) (yg s.heap I.big),rfl,h _ (I.hok.fresh (G0 _))⟩
def zO:List (TE×TE)->St->Hp->(List (V×V)->Hp->Prop)->Prop
 |[],_,H,Q=>Q [] H
 | (u,c)::r,M,H,Q=>u M H λx Y=>c M Y λy L=>zO r M L λG q=>Q ((x,y)::G) q
abbrev VV:List (V×V)->List (Value×Value)->Prop:=Paired λp q=>RelV p.1 q.1/\RelV p.2 q.2
def PPs(X:Cx)(pos:Pos)(k:List (Option Expr))(b:List Expr)(a:List (TE×TE)):Prop :=
 ∀(B:List (Addr×Obj))(s:Shared)(M:St)(H:Hp)(Q:List (V×V)->Hp->Prop),Inv X B M H s->zO a M H Q ->
  wpAny (model X.prog X.w) X.A (evalPairs (pairTrees k b X.env pos)) (λm q=>∃ G l,Inv X B M l q/\VV G m/\Q G l) X.xe s
theorem uV:PPs X pos [] [] []:=λB s M H Q I h=>pairTrees_nil_walk ⟨[],H,I,.nil,h⟩
theorem qj{k v:Expr}{ks:List (Option Expr)}{vs:List Expr}{tk:TE}{A:List (TE×TE)}(D:PE X k tk)(p:PE X v O)(N:PPs X pos ks vs A):
  PPs X pos (some k::ks) (v::vs) ((tk,O)::A):=λB s M H Q I h =>
 pairTrees_cons_walk (thn (D B s M H _ I h) λu j ⟨x,Y,i,d,E⟩=>thn (p B j M Y _ i E) λw J ⟨y,L,g,c,C⟩ =>
  thn (N B J M L _ g C) λl o ⟨G,q,z,rel,t⟩=>⟨(x,y)::G,q,z,.cons ⟨d,c⟩ rel,t⟩)
def fF(kvs more:List (Key×V)):List (Key×V):=more.foldl (λm f=>putK m f.1 f.2) kvs
theorem KV.merge:∀{more:List (Key×V)}{rs:List (Key×Value)}{kvs:List (Key×V)}{vs:List (Key×Value)},KV more rs->KV kvs vs->KV (fF kvs more) (merged vs rs):=by
 intro more rs kvs vs r;unfold KV at r;induction r generalizing kvs vs with
 |nil=>intro q;exact q
 | @cons p q G d h t C =>
  intro u;have e:KV (putK kvs p.1 p.2) (stored vs q.1 q.2):=by
   have:=u.put p.1 h.2;rw[← h.1];exact this
  exact C e
theorem kE:∀(more kvs:List (Key×V)),(fF kvs more).length<=kvs.length+more.length
 |[],kvs=>by show kvs.length<=kvs.length+0;omega
 |p::r,kvs=>by
  have J:=kE r (putK kvs p.1 p.2);have Y:=cg kvs p.1 p.2;show(fF (putK kvs p.1 p.2) r).length<=_;rw[Hk];omega
theorem pj{P:Program}{w:World}:∀{kvs:List (Key×V)}{l:List (Value×Value)},VV (kvs.map λf=>(kV f.1,f.2)) l->∃ rs,Carries (bA P w) l rs/\KV kvs rs
 |[],_,r=>by rw[List.map_nil]at r;cases r;exact⟨[],True.intro,.nil⟩
 |p::kvs,_,r=>by
  rw[Hu]at r
  cases r with
  | @cons a b as bs h t =>
   obtain⟨rs,c,q⟩:=pj (P:=P) (w:=w) t;obtain⟨b1,b2⟩:=b;exact⟨(p.1,b2)::rs,⟨vE h.1,rfl,c⟩,.cons ⟨rfl,h.2⟩ q⟩
def tDisp(A:List (TE×TE)):TE:=λM H Q=>∀ p,H p=none->zO A M (upd H p (.dK [])) λG L=>L p=some (.dK [])/\∃ N:List (Key×V),G=N.map (λf=>(kV f.1,f.2))/\N.length<=15/\Q (.ref p) (upd L p (.dK (fF [] N)))
theorem vd{k:List (Option Expr)}{b:List Expr}{A:List (TE×TE)}(h:PPs X pos k b A)(t:k.all (·.isSome)=true)(hl:k.length=b.length)(E:k≠[])(x:k.length<=15):PE X (.Dict k b pos) (tDisp A):=by
 intro B s M H Q I q;have i:=I.hok.fresh (G0 s.heap.objs.size);have d:=I.laid (a:=s.heap.objs.size) (o:=.dK []) (h':=s.heap.push {cls:=.type "dict",data:=.dict #[]}) (t':=s.toks) (λ_ _ q=>Mf _ q) (G0 _) (yg s.heap I.big);refine wpAny_Dict_walk (knd:=bA X.prog X.w) t hl E x (thn (h B _ M _ _ d (q _ i)) λl Y ⟨G,L,m,rel,e,N,O,p,C⟩=>?_);subst O;obtain⟨v,c,D⟩:=pj (P:=X.prog) (w:=X.w) rel;obtain⟨z,hd,y,u,j⟩:=y9 m.hok e
 cases u
 refine⟨v,c,j,λh' r T=>⟨.ref s.heap.objs.size,_,?_,rfl,C⟩⟩;have f:(fF [] N).length<=LR:=by
  have J:=kE N [];rw[Ja]at J;rw[sizeLine_eq];omega
 have n:∃ q,h'.get? s.heap.objs.size=some q:=let ⟨q,_,_,g,_⟩:=r;⟨q,g⟩;exact rj m (by rw[e];exact True.intro) T n (BK f hd (D.merge .nil) r)
structure M1(X:Cx)(o:Expr)(m:Str)(apos:Pos)(e:Expr)(cpos:Pos):Prop where
 base:attributeBase o m X.env (eval o X.env)=eval o X.env
 few:((backTo cpos (LY [e] X.env)).all (λx=>!x.1)&&(backToKw cpos (keywordEach [] X.env)).all (λx=>x.1.isSome)
  && decide (([e]:List Expr).length+([]:List Keyword).length+(if([]:List Keyword).isEmpty then 0 else 1)<30))=true
 line:(apos.endLine == cpos.line)=true
 trees:backTo cpos (LY [e] X.env)=[(false,eval e X.env)]
structure M2(X:Cx)(o:Expr)(m:Str)(apos:Pos)(e f:Expr)(cpos:Pos):Prop where
 base:attributeBase o m X.env (eval o X.env)=eval o X.env
 few:((backTo cpos (LY [e,f] X.env)).all (λx=>!x.1)&&(backToKw cpos (keywordEach [] X.env)).all (λx=>x.1.isSome)
  && decide (([e,f]:List Expr).length+([]:List Keyword).length+(if([]:List Keyword).isEmpty then 0 else 1)<30))=true
 line:(apos.endLine == cpos.line)=true
 trees:backTo cpos (LY [e,f] X.env)=[(false,eval e X.env),(false,eval f X.env)]
def IsD(H:Hp)(a:Addr):Prop:=(∃ N,Rd H a (.dK N))∨∃ N,Rd H a (.dT N)
theorem ER(I:Inv X J σ H s)(d:IsD H a):
  s.TypeIs (.ref a) "dict"/\(∀ b,Value.ref a=.ref b->∃ ob,s.heap.get? b=some ob/\ob.dict=none)/\(a == sysModules)=false:=by
 rcases d with⟨N,e⟩|⟨N,e⟩
 .obtain⟨_,hd,m,_,L⟩:=y8 I.hok e;refine⟨L.typeIs,λb q=>?_,hd⟩
  cases q
  obtain⟨ob,_,_,k,Y,_⟩:=L;exact⟨ob,k,Y.2.1⟩
 .obtain⟨_,hd,D,_,L⟩:=y7 I.hok e;refine⟨L.typeIs,λb q=>?_,hd⟩
  cases q
  obtain⟨ob,_,_,k,Y,_⟩:=L;exact⟨ob,k,Y.2.1⟩
section
variable{X:Cx}{pins:List (Addr×Obj)}{σ:St}{H:Hp}{s:Shared}{a:Addr}{y d:V}{u r:Value}{o:Option V}{A:Around}{E:Value->Shared->Prop}
theorem d_get2(hu:A.units+1<cLine)(I:Inv X pins σ H s)(g:DGet H a y o)(c:RelV y u)(f:RelV d r)(h:∀ w' s',Inv X pins σ H s'->RelV (o.getD d) w'->Q w' s'):
  wpAny (model X.prog X.w) A (call (.builtin "dict.get") [.ref a,u,r]) Q E s:=by
 rcases g with⟨N,k,e,J,l⟩|⟨N,k,b,e,J,t,l⟩
 .subst J;obtain⟨z,hd,m,rel,L⟩:=y8 I.hok e;refine call_meetsIn KH L.typeIs PySem.F.entry_dict_get (LJ _ _ _) (meets_dict_get_default (bA X.prog X.w) a (vE c) hd r) ⟨_,L.mapOf,h _ _ (I.tok _) ?_⟩;rw[l];exact(rel.val k).getD f
 .subst J
  cases (show u=Value.ref b from c)
  obtain⟨z,hd,D,rel,L⟩:=y7 I.hok e;refine call_meetsIn KH L.typeIs PySem.F.entry_dict_get (LJ _ _ _) (meetsH_dict_get_default (tupleKind (bA X.prog X.w)) a b hd r) ⟨tupleKind_room_in1 hu,k,D,tG I.hok t,L,h _ _ (I.tok _) ?_⟩;rw[l];exact(rel.val k).getD f
end
def tDGet2(b ty e:TE):TE:=λM H Q=>b M H λx Y=>∃ a,x=.ref a/\IsD Y a/\ty M Y λy L=>e M L λz q=>∃ o,DGet q a y o/\Q (o.getD z) q
def tDPop1(b ty:TE):TE:=λM H Q=>b M H λx Y=>∃ a,x=.ref a/\IsD Y a/\ty M Y λy L=>∃ N k v,L a=some (.dK N)/\y=kV k/\valV N k=some v/\Q v (upd L a (.dK (mr N k)))
section
variable{X:Cx}{o e f:Expr}{apos cpos:Pos}{td ty tx:TE}
theorem CS(hu:X.A.units+1<cLine)(D:PE X o td)(n:PE X e ty)(l:PE X f tx)(m:M2 X o "get" apos e f cpos):PE X (.Call (.Attribute o "get" apos) [e,f] [] cpos) (tDGet2 td ty tx):=by
 intro B s M H Q I h;refine wpAny_Call_method m.base m.few m.line Kw KH PySem.F.type_dict_get (thn (D B s M H _ I h) λu j ⟨x,Y,i,t,a,G,d,E⟩=>?_);subst G;obtain rfl:u=Value.ref a:=t;obtain⟨T,r,_⟩:=ER i d;refine⟨T,r,?_⟩;rw[m.trees]
 refine Mz rfl (Calls.evalArgs_plain (Ms (thn (n B j M Y _ i E) λiv J ⟨y,L,N,c,C⟩ =>
  Ms (thn (l B J M L _ N C) λfv p ⟨z,q,b,rz,ov,g,O⟩=>Mr ?_))))
 exact d_get2 hu b g c rz λv k I4 w=>⟨_,q,I4,w,O⟩
theorem CQ(D:PE X o td)(n:PE X e ty)(m:M1 X o "pop" apos e cpos):PE X (.Call (.Attribute o "pop" apos) [e] [] cpos) (tDPop1 td ty):=by
 intro B s M H Q I h;refine wpAny_Call_method m.base m.few m.line Kw PySem.F.slot_dict_pop PySem.F.type_dict_pop (thn (D B s M H _ I h) λu j ⟨x,Y,i,t,a,G,d,E⟩=>?_);subst G;obtain rfl:u=Value.ref a:=t;obtain⟨T,r,_⟩:=ER i d;refine⟨T,r,?_⟩;rw[m.trees];refine Mz rfl (Calls.evalArgs_plain (Ms (thn (n B j M Y _ i E) λq J ⟨y,L,g,c,N,k,v,w,f,l,C⟩=>Mr ?_)));subst f;exact d_pop g w c l (.inl rfl) λb p z O=>⟨v,_,z,O,C⟩
end
section
variable{X:Cx}{pins:List (Addr×Obj)}{σ:St}{H:Hp}{s:Shared}{a:Addr}{kvs:List (Key×V)}{A:Around}{E:Value->Shared->Prop}
end
section
variable{X:Cx}{pins:List (Addr×Obj)}{σ:St}{H:Hp}{s:Shared}{a:Addr}{y:V}{u:Value}{A:Around}{E:Value->Shared->Prop}
end
section
variable{κ:Type} [DecidableEq κ]
theorem xo{kvs:List (κ×V)}{k:κ}(h:valV kvs k=none):¬ k∈kvs.map (·.1):=by
 intro m;obtain⟨p,g,e⟩:=HS.mp m;have q:(kvs.any λf=>decide (f.1=k))=true:=List.any_eq_true.mpr ⟨p,g,MB e⟩;rw[fN,h]at q;exact Nr q (by simp)
theorem vo:∀{l:List κ}{k:κ},l.Nodup->¬ k∈l->(l++[k]).Nodup
 |[],k,_,_=>by simp
 |a::r,k,h,D=>by
  obtain⟨J,Y⟩:=Hf.mp h;show(a::(r++[k])).Nodup;refine Hf.mpr ⟨λm=>?_,vo Y λm=>D (G6.mpr (Or.inr m))⟩;rcases Hc.mp m with q|q
  .exact J q
  .exact D (G6.mpr (Or.inl (Hi.mp q).symm))
theorem FY{kvs:List (κ×V)}{k:κ}(v:V)(T:(kvs.map (·.1)).Nodup)(h:valV kvs k=none):((putK kvs k v).map (·.1)).Nodup:=by
 rw[qf v h,Hm];exact vo T (xo h)
theorem BI{p:κ×V}{r:List (κ×V)}{k:κ}(e:p.1=k):mr (p::r) k=mr r k:=by
 unfold mr;rw[KC,Nq (by simp[e])]
theorem BJ{p:κ×V}{r:List (κ×V)}{k:κ}(e:¬ p.1=k):mr (p::r) k=p::mr r k:=by
 unfold mr;rw[KC,Np (by simp[e])]
end
def clOf(env:Env)(fr:List (Str×Nat)):List (Str×Addr):=fr.map λp=>(p.1,(env.cells.lookup p.1).getD 0)
def frOf(fr:List (Str×Nat))(σ:St):St:=fr.map λp=>(σ[p.2]?).join
theorem jb{env:Env}:∀{fr:List (Str×Nat)}{y:Str}{c:Addr},(clOf env fr).lookup y=some c->y∈fr.map (·.1)/\c=(env.cells.lookup y).getD 0
 |[],_,_,h=>by cases h
 |p::r,y,c,h=>by
  unfold clOf at h;rw[Hu,List.lookup_cons]at h
  cases e:y == p.1 with
  |true =>
   rw[e]at h;have J:y=p.1:=eq_of_beq e
   cases h
   exact⟨by rw[J];exact G9,by rw[J]⟩
  |false =>
   rw[e]at h;obtain⟨a,b⟩:=jb (env:=env) (fr:=r) h;exact⟨G4 _ a,b⟩
theorem eE{env:Env}:∀{fr:List (Str×Nat)}{y:Str},y∈fr.map (·.1)->(clOf env fr).lookup y=some ((env.cells.lookup y).getD 0)
 |[],_,h=>by cases h
 |p::r,y,h=>by
  unfold clOf;rw[Hu,List.lookup_cons]
  cases e:y == p.1 with
  |true =>
   have J:y=p.1:=eq_of_beq e;rw[J]
  |false =>
   have a:y≠p.1:=λz=>by rw[z]at e;simp at e
   rcases G6.mp h with z|z
   .exact Nr z a
   .exact eE (env:=env) (fr:=r) z
section
variable{X:Cx}{pins:List (Addr×Obj)}{σ:St}{H:Hp}{s:Shared}{scope:Scope}{fr:List (Str×Nat)}{x:Str}
end
def rW(f:TE)(a:St)(J:It)(H1:Hp)(QQ:List V->Hp->Prop):Prop :=
 ∃ W:Nat->Nat->List V->Hp->Prop,(∃ m,W 0 m [] H1)/\∀ i m k H,W i m k H->k.length<=LR /\
  ((J.stop i H/\QQ k H)∨(J.go i H/\∃ N:V->Hp->Prop,(∀ y L,N y L->∃ r,r<m/\W (i+1) r (k++[y]) L)/\∀ x l,J.yld i H x l->f (some x::a) l N))
section
variable{X:Cx}{scope:Scope}{fr:List (Str×Nat)}{x:Str}{elt iter:Expr}{px pos:Pos}{te:TE}{wi:TI}
end
theorem B3(Pv:Nat->List V->Hp->Prop)(hz:xs.length<=LR)(o:Pv 0 [] H1)(hl:∀ i ys H,i<=xs.length->Pv i ys H->SqL K H a xs)
  (T:∀ i x ys H,xs[i]?=some x->Pv i ys H->O (some x::σ) H λy H2=>Pv (i+1) (ys++[y]) H2) (hd:∀ ys H,ys.length=xs.length->Pv xs.length ys H->QQ ys H)
  : rW O σ (Itl K a) H1 QQ:=by
 refine⟨λi m ys H=>m=xs.length-i/\i<=xs.length/\ys.length=i/\Pv i ys H,⟨xs.length,by simp,HI _,rfl,o⟩,?_⟩
 rintro i m ys H ⟨rfl,I,Q,p⟩;have q:=hl i ys H I p;refine⟨∅,?_⟩
 by_cases G:i<xs.length
 .refine .inr ⟨⟨xs,xs[i],q,by simp[G]⟩,λy H2=>Pv (i+1) (ys++[y]) H2,λy H2 r=>⟨xs.length-(i+1),∅,rfl,G,by rw[GZ,Q];rfl,r⟩,λx l y=>?_⟩
  obtain⟨e,y⟩:=y;subst e;exact T i x ys _ (y xs q) p
 .have e:i=xs.length:=by omega
  subst e;exact .inl ⟨⟨xs,q,G0 _⟩,hd ys H Q p⟩
theorem zj{lo:Int}(Pv:Nat->List V->Hp->Prop)(hz:n<=LR)(o:Pv 0 [] H1)
  (T:∀ i ys H,i<n->Pv i ys H->O (some (.int (lo+i))::σ) H λy H2=>Pv (i+1) (ys++[y]) H2) (hd:∀ ys H,ys.length=n->Pv n ys H->QQ ys H)
  : rW O σ (Itr lo n) H1 QQ:=by
 refine⟨λi m ys H=>m=n-i/\i<=n/\ys.length=i/\Pv i ys H,⟨n,by simp,HI _,rfl,o⟩,?_⟩
 rintro i m ys H ⟨rfl,I,Q,p⟩;refine⟨∅,?_⟩
 by_cases G:i<n
 .refine .inr ⟨G,λy H2=>Pv (i+1) (ys++[y]) H2,λy H2 r=>⟨n-(i+1),∅,rfl,G,by rw[GZ,Q];rfl,r⟩,λx l y=>?_⟩
  obtain⟨e,y⟩:=y;subst e y;exact T i ys _ G p
 .have e:i=n:=by omega
  subst e;exact .inl ⟨G0 _,hd ys H Q p⟩
theorem bt_int:LV "int"=some (.type "int"):=by decide
theorem iF:LV "list"=some (.type "list"):=by decide
theorem Ec:LV "tuple"=some (.type "tuple"):=by decide
theorem a9:LV "len"=some (.builtin "len"):=by decide
theorem Ed:LV "range"=some (.type "range"):=by decide
theorem rK:LV "isinstance"=some (.builtin "isinstance"):=by decide
theorem og:LV "sorted"=some (.builtin "sorted"):=by decide
theorem xb:LV "reversed"=some (.type "reversed"):=by decide
theorem uk:LV "enumerate"=some (.type "enumerate"):=by decide
structure Cal(P:Program)(w:World)(K:GX)(mg:Str->Option Value)(base:Heap)(k:Nat)(x:Str)(ps:List Str)(sp:Sp)(f:Addr)(fd:FuncData):Prop where
 ok:FnOk P w K mg base CX0 k f fd ps sp
 bn:dQ K fd ps []
 mg:mg x=some (.ref f)
 kp:HV K (.ref f)=true
structure Mak(P:Program)(w:World)(K:GX)(mg:Str->Option Value)(base:Heap)(k:Nat)(x:Str)(ps:List Str)(sp:Sp)(C f:Addr)(fd:FuncData):Prop where
 mkc:Mk K C f
 ok:FnOk P w K mg base CX0 k f fd ps sp
 bn:dQ K fd ps []
 mg:mg x=some (.ref C)
structure Met(P:Program)(w:World)(K:GX)(mg:Str->Option Value)(base:Heap)(k:Nat)(C:Addr)(m:Str)(ps:List Str)(sp:Sp)(f:Addr)(fd:FuncData):Prop where
 me:Meth K C m f
 ok:FnOk P w K mg base CX0 k f fd ps sp
 bn:dQ K fd ps []
theorem lD{a:List Stmt}{t t2:TS}(h:PSs X a t)(i:∀ D σ H,t2 D σ H->t D σ H):PSs X a t2:=λB s σ H D I q=>h B s σ H D I (i D σ H q)
inductive rIsi(K:GX)(xs:List V)(H:L2.Hp)(Q:L2.VK):Prop
 |mk (x c t b u:_) (h0_:xs=[x,c])(h1_:TyOf K H x t)(h2_:((∃ n,c=.ty n/\u=Value.type n)∨∃ a,c=.ref a/\u=Value.ref a))(h3_:Lz K t u=some b)(h4_:Q (.bl b) H)
theorem Eb:gR X (.builtin "isinstance") (rIsi X.K):=by
 intro B s M H D z Q I r h;obtain⟨x,c,t,b,u,rfl,ty,g,e,q⟩:=h;obtain⟨f,d,rfl,w,o⟩:=zI r;have E:d=u:=by
  rcases g with⟨n,rfl,rfl⟩|⟨a,rfl,rfl⟩
  .exact o
  .exact o
 subst E;exact Bc I w ty e λy=>⟨.bl b,H,I.tok y,rfl,q⟩
theorem kit_tt(K:GX):Lz K (.type "tuple") (.type "tuple")=some true:=by with_unfolding_all rfl
inductive RdD(K:GX)(H:Hp):V->PyData->Prop where
 |non:RdD K H .non .none
 |bl (b:Bool):RdD K H (.bl b) (.bool b)
 |int (i:Int):RdD K H (.int i) (.int i)
 |lst {a:Addr} {xs:List V} {ds:List PyData} (h:SqL K H a xs) (hl:xs.length=ds.length) (r:∀(i:Nat)(x:V)(d:PyData),xs[i]?=some x->ds[i]?=some d->RdD K H x d):RdD K H (.ref a) (.list ds)
 |tup {a:Addr} {xs:List V} {ds:List PyData} (h:SqT K H a xs) (hl:xs.length=ds.length) (r:∀(i:Nat)(x:V)(d:PyData),xs[i]?=some x->ds[i]?=some d->RdD K H x d):RdD K H (.ref a) (.tuple ds)
theorem jB{h:Heap}:∀{xs:List V}{us:List Value}{ds:List PyData},Vals xs us->xs.length=ds.length->(∀(i:Nat) x d,xs[i]?=some x->ds[i]?=some d->∀ u,RelV x u->∃ as,Reads h u d as)->∃ as,ReadsAll h us ds as
 |_,_,[],.nil,_,_=>⟨_,.nil⟩
 |_,_,_::_,.nil,e,_=>by cases e
 |_,_,[],.cons _ _,e,_=>by cases e
 |_,_,d::ds,.cons r D,e,k=>by
  obtain⟨a,j⟩:=k 0 _ d rfl rfl _ r;obtain⟨c,C⟩:=jB D (Nat.succ.inj e) λi x g f E=>k (i+1) x g f E;exact⟨_,.cons j C⟩
theorem RdD.reads(I:Inv X J σ H s){x:V}{d:PyData}(r:RdD X.K H x d):∀ u,RelV x u->∃ as,Reads s.heap u d as:=by
 induction r with
 |non=>intro u g;cases g;exact⟨_,.none⟩
 |bl b=>intro u g;cases g;exact⟨_,.bool b⟩
 |int i=>intro u g;obtain⟨t,rfl⟩:=g;exact⟨_,.int i t⟩
 |lst h G r C =>
  intro u g
  cases g
  obtain⟨L,rv,p,_⟩:=I.list h;obtain⟨as,q⟩:=jB (h:=s.heap) rv G C;obtain⟨o,n,e,c,_,d⟩:=p;exact⟨_,.list e c d (by simpa using q)⟩
 |tup h G r C =>
  intro u g
  cases g
  obtain⟨L,rv,p,_⟩:=I.tuple h;obtain⟨as,q⟩:=jB (h:=s.heap) rv G C;obtain⟨o,e,c,n,d⟩:=p;exact⟨_,.tuple e c d (by simpa using q)⟩
inductive rSame(b:Bool)(K:GX)(x:L2.V)(y:L2.V)(H:L2.Hp)(Q:L2.VK):Prop
 |mk (d:_) (h0_:RdD K H x d)(h1_:RdD K H y d)(h2_:SeqAt.shaped d=true)(h3_:Q (.bl b) H)
theorem EF(hu:X.A.units+64<cLine):OpR X (L0 .Eq) (rSame true X.K):=by
 intro B s M H x y v u Q I t c h;obtain⟨d,w,o,T,q⟩:=h;obtain⟨as,E⟩:=w.reads I v t;obtain⟨bs,C⟩:=o.reads I u c;refine eq_dataH E C T T hu ?_;rw[SeqAt.eqv_refl d (SeqAt.canLay_of_shaped T)];exact⟨.bl true,H,I,rfl,q⟩
theorem EE(hu:X.A.units+64<cLine):OpR X (L0 .NotEq) (rSame false X.K):=by
 intro B s M H x y v u Q I t c h;obtain⟨d,w,o,T,q⟩:=h;obtain⟨as,E⟩:=w.reads I v t;obtain⟨bs,C⟩:=o.reads I u c;refine ne_dataH E C T T hu ?_;rw[SeqAt.eqv_refl d (SeqAt.canLay_of_shaped T)];exact⟨.bl false,H,I,rfl,q⟩
def Itr3(lo c:Int)(n:Nat):It:=⟨λi _=>i<n,λi H x l=>l=H/\x=.int (lo+i*c),λi _=>n<=i⟩
theorem uE{q:Expr}(it:Addr)(lo c:Int)(n:Nat):Turn P w K q (Itr3 lo c n) [it] it (λi h=>IsRangeIter h it (lo+(i:Nat)*c) ((n:Int)-(i:Nat)) c) where
 mem:=by simp
 obj:=λi h st b L=>by
  have e:b=it:=by simpa using L
  subst e
  exact⟨_,st,λv z=>by
   have r:Data.fields _=Data.cell v:=z
   cases r⟩
 keep:=λi h T st k=>k it (by simp) _ st
 item:=by
  intro X D j m C i B s M H E I l st J;subst D j m;obtain⟨N,p,f,Y,g,x⟩:=l it (by simp)
  have W:=Walks.range (prog:=X.prog) (w:=X.w) (I.ok.hd C) it lo c n;refine W.item i s _ _ J st λv T u O a y=>?_;obtain⟨t,rfl⟩:=O;have d:Inv X B M H {s with heap:=T,toks:=u}:=I.turned (λb o L e=>y b o (by simpa using L) e) N p Y g x
  exact⟨_,rfl,DE (s:={s with heap:=T,toks:=u}) (n:="range_iterator") a rfl rfl (by decide) ⟨.int (lo+i*c),H,d,⟨t,rfl⟩,⟨rfl,rfl⟩,a,λb L=>(l b L).1⟩⟩
 done:=by
  intro X D j m C i B s M H E I l st J;subst D j m;obtain⟨N,p,f,Y,g,x⟩:=l it (by simp)
  exact wpAny_pyNext_range_end (I.ok.hd C) st (by have:n<=i:=J;omega) λT G=>⟨rfl,I.turned (t':=s.toks) (λb o L e=>G b o L e) N p Y g x⟩
 self:=λ_ _ _ _ _ st h=>wpAny_pyIter_rangeiter st h
section
variable{X:Cx}{tg:Expr}
end
section
variable{P:Program}{w:World}{H:Hp}{h:Heap}{a:Addr}{o:HO}
theorem bC.get(x:bC P w H h a o):∃ ob,h.get? a=some ob:=by
 cases o with
 |lst D=>obtain⟨_,_,_,_,e⟩:=x;exact⟨_,e⟩
 |tup D=>obtain⟨_,_,_,ob,e,_⟩:=x;exact⟨_,e⟩
 |dK N=>obtain⟨_,_,_,_,o,_,_,e,_⟩:=x;exact⟨_,e⟩
 |dT N=>obtain⟨_,_,_,_,o,_,_,e,_⟩:=x;exact⟨_,e⟩
 |set S n=>obtain⟨o,_,_,_,e,_⟩:=x;exact⟨_,e⟩
 |ins C j fs=>obtain⟨_,_,_,e,_⟩:=x;exact⟨_,e⟩
 |own y=>exact x
 |xd fs=>obtain⟨_,⟨_,_,_,e,_⟩,_⟩:=x;exact⟨_,e⟩
 |rng lo I=>obtain⟨_,_,_,e⟩:=x;exact⟨_,e⟩
 |frz ob u=>exact⟨_,x.1⟩
 |tbl G=>exact⟨_,(show h.get? a=some _ from x)⟩
 |met f y=>exact⟨_,(show h.get? a=some _ from x)⟩
 |ext l=>exact x.2.1
theorem HOk.none_of(x:HOk P w H h)(e:h.get? a=none):H a=none:=by
 cases q:H a with
 |none=>rfl
 |some u =>
  obtain⟨g,z⟩:=(x a u q).get;rw[e]at z
  cases z
end
structure XOk(X:Cx)(pins:List (Addr×Obj))(H:Hp)(b:Addr):Prop where
 old:X.s₀.heap.get? b=none
 trk:H b=none
 nl:b≠X.env.locals
 nc:∀ x c,X.env.cells.lookup x=some c->c≠b
 np:∀ p∈X.pn++pins,p.1≠b
section
variable{X:Cx}{pins:List (Addr×Obj)}{σ:St}{H H':Hp}{s s':Shared}{b:Addr}
theorem Inv.xok(I:Inv X pins σ H s)(O:X.ex=[])(e:s.heap.get? b=none)(n:H' b=none):XOk X pins H' b:=by
 refine⟨?_,n,λz=>?_,λx c q z=>?_,λp g z=>?_⟩
 .cases q:X.s₀.heap.get? b with
  |none=>rfl
  |some o =>
   obtain⟨j,u⟩:=I.base.there b o q (by rw[O];simp)
   rw[e]at u
   cases u
 .obtain⟨m,⟨o,_,_,D,_⟩,_⟩:=I.loc;rw[z,D]at e
  cases e
 .obtain⟨v,o,D,_⟩:=I.cell x c q;rw[z,e]at D
  cases D
 .have:=(I.pin p g).1
  rw[z,e]at this
  cases this
theorem Inv.xstep(I:Inv X pins σ H s)(a:∀ b∈ch,XOk X pins H b)(keep:∀ b o,s.heap.get? b=some o->b∉ch->b∉frs X.stack->h'.get? b=some o)(slot:∀ b o,s.heap.get? b=some o->b∉ch->b∈frs X.stack->∃ sl,h'.get? b=some {o with slots:=sl}):Inv X pins σ H {s with heap:=h'}:=by
 have any:∀ b o,s.heap.get? b=some o->b∉ch->∃ sl,h'.get? b=some {o with slots:=sl}:=λb o e C=>by
  by_cases L:b∈frs X.stack
  .exact slot b o e C L
  .exact⟨o.slots,keep b o e C L⟩
 have J:∀ b,b∈frs X.stack->b≠X.env.locals->b∈X.fs:=λb L n=>(G6.mp (I.stkSub b L)).elim (λz=>Nr z n) λz=>z;have t:∀ b o,X.s₀.heap.get? b=some o->b≠X.env.locals:=λb o e=>Hr (Hv (LS e) I.ok.above);have Y:∀ b o,X.s₀.heap.get? b=some o->b∉ch:=λb o e L=>by
  have:=(a b L).old;rw[e]at this
  cases this
 have h:∀ x c,X.env.cells.lookup x=some c->∀ v,s.heap.IsCell c v->h'.IsCell c v:=λx c e v ⟨o,D,hd⟩=>by
  obtain⟨sl,q⟩:=any c o D λz=>(a c z).nc x c e rfl;exact⟨_,q,hd⟩
 refine⟨I.ok,I.os,I.bare,⟨λb o e n L O=>?_,λb o e n L O=>?_,I.base.free,λb o e O=>?_,I.base.tups,I.base.frzs,I.base.tbls⟩,?_,λx c e=>?_,I.free,I.freeC,λp g=>?_,λb u e=>?_,I.len⟩
 .exact keep b o (I.base.keep b o e n L O) (Y b o e) λz=>L (J b z (t b o e))
 .obtain⟨sl,f⟩:=I.base.slot b o e n L O;obtain⟨Q,E⟩:=any b _ f (Y b o e);exact⟨Q,E⟩
 .obtain⟨j,f⟩:=I.base.there b o e O;obtain⟨sl,E⟩:=any b _ f (Y b o e);exact⟨_,E⟩
 .obtain⟨m,⟨o,B,M,D,r⟩,G⟩:=I.loc;obtain⟨sl,E⟩:=any _ o D λz=>(a _ z).nl rfl;refine⟨m,⟨_,B,M,E,r⟩,λi x v f E w=>?_⟩;obtain⟨u,r,l⟩:=G i x v f E w;refine⟨u,r,?_⟩;rcases l with l|⟨k,c,e,z⟩
  .exact .inl l
  .exact .inr ⟨k,c,e,h x c e _ z⟩
 .obtain⟨v,z⟩:=I.cell x c e;exact⟨v,h x c e v z⟩
 .obtain⟨e,n,ne,N,d⟩:=I.pin p g;exact⟨keep p.1 p.2 e (λz=>(a p.1 z).np p g rfl) λz=>N (J p.1 z ne),n,ne,N,d⟩
 .have A:∀ c y,H c=some y->c∉ch/\c∉frs X.stack:=λc y q=>⟨λz=>(by rw[(a c z).trk]at q;exact nomatch q),λz=>(by rw[I.stkFree c z]at q;exact nomatch q)⟩
  refine(I.hok b u e).stay (λc v C q=>?_) (λ_ q=>q) λ_ _ q=>q;rcases C with z|z
  .rw[z]at q ⊢;exact keep b v q (A b u e).1 (A b u e).2
  .exact keep c v q (A c _ z).1 (A c _ z).2
theorem Inv.xtrack{o:HO}(I:Inv X pins σ H s)(f:XOk X pins H a)(new:bC X.prog X.w (upd H a o) s.heap a o):Inv X pins σ (upd H a o) s:=by
 have ne:∀ b u,H b=some u->b≠a:=λb u e=>aA e f.trk;have l:∀ b u,s.heap.get? b=some u->b≠a->H b=none->upd H a o b=none:=λb u _ n q=>by rw[aq n];exact q
 refine⟨I.ok,I.os,I.bare,⟨I.base.keep,I.base.slot,λb d e n O=>?_,I.base.there,λb D e=>?_,λb d D e=>?_,λb G e=>?_⟩,I.loc,I.cell,?_,λx c e=>?_,λp g=>?_,λb u e=>?_,I.len⟩
 .rw[aq (λz=>by rw[z,f.old]at e;cases e)]
  exact I.base.free b d e n O
 .have:=I.base.tups b D e
  rw[aq (ne _ _ this)];exact this
 .have:=I.base.frzs b d D e
  rw[aq (ne _ _ this)];exact this
 .obtain⟨m,q⟩:=I.base.tbls b G e;exact⟨m,by rw[aq (ne _ _ q)];exact q⟩
 .rw[aq (Ne.symm f.nl)];exact I.free
 .rw[aq (f.nc x c e)];exact I.freeC x c e
 .obtain⟨e,n,r⟩:=I.pin p g;exact⟨e,by rw[aq (f.np p g)];exact n,r⟩
 .by_cases L:b=a
  .rw[L,ag]at e
   cases e
   rw[L];exact new
  .rw[aq L]at e;exact(I.hok b u e).stay (λc v _ q=>q) (λc q=>by rw[aq (ne c _ q)];exact q) λc D q=>by rw[aq (ne c _ q)];exact q
end
def Trc(h:Heap)(x:Addr)(C:Value)(T:Addr):Prop :=
 ∃ B m p Q l,h.get? x=some B/\B.cls=C/\m[0]?=some p/\B.data=.fields m/\m[1]?=some (.ref T)/\T≠x/\h.get? T=some Q/\Q.data=.fields l/\l[3]?=some .none
def Xnw(h:Heap)(x:Addr)(C:Value):Prop:=∃ B m p,h.get? x=some B/\B.cls=C/\B.data=.fields m/\m[0]?=some p/\m[1]?=some .none
def XA(X:Cx)(B:List (Addr×Obj))(H:Hp)(s:Shared)(x:Addr)(C:Value):Prop:=XOk X B H x/\(Xnw s.heap x C∨∃ T,XOk X B H T/\Trc s.heap x C T)
section
variable{X:Cx}{pins:List (Addr×Obj)}{σ:St}{H:Hp}{s:Shared}{x:Addr}{C:Value}{E:Value->Shared->Prop}
abbrev hidX(X:Cx)(h:Heap)(ch:List Addr):Heap:=PySem.W.hideAll h (ch++frs X.stack)
theorem Inv.hidF(I:Inv X pins σ H s)(ch:List Addr):s.heap.FunFrames (hidX X s.heap ch) X.stack :=
 PySem.W.funFrames_hide I.stack λh n a l=>HE _ (K9.mpr ⟨h,n,l⟩)
theorem Bl(ch:List Addr)(h:Heap):(hidX X h ch).StaysIn h:=λ_ _ e=>PySem.W.of_hideAll _ e
theorem kH{b:Addr}(L:b∈ch):(hidX X h ch).get? b=none:=PySem.W.hideAll_none _ (HL _ L)
theorem Inv.left{p:Value}(I:Inv X pins σ H s)(O:X.ex=[])(a:∀ b∈ch,XOk X pins H b)(k:(hidX X s.heap ch).StaysIn h')(t:h'.TracedW (hidX X s.heap ch) x C p)(u:s.heap.UpToSlots h'):
  Inv X pins σ H {s with heap:=h'}/\∃ T,XOk X pins H T/\Trc h' x C T:=by
 have d:∀ b o,s.heap.get? b=some o->b∈frs X.stack->∃ c,h'.get? b=some {o with slots:=c}:=λb o e L=>by
  obtain⟨_,j,D,hd⟩:=I.stack.mem L;rw[e]at D
  cases D
  exact u b o e hd
 refine⟨I.xstep a (λb o e i v=>k b o (K0 _ e λz=>(Hc.mp z).elim i v)) λb o e _ L=>d b o e L,?_⟩;obtain⟨B,m,T,Q,l,n,⟨h,E⟩,hd,J,y,w,Y,N,A⟩:=t;refine⟨T,?_,B,m,p,Q,l,n,h,E,hd,J,w,Y,N,A⟩
 cases q:s.heap.get? T with
 |none=>exact I.xok O q (I.hok.none_of q)
 |some o =>
  by_cases z:T∈ch
  .exact a T z
  .by_cases g:T∈frs X.stack
   .obtain⟨_,j,D,f⟩:=I.stack.mem g;obtain⟨c,e⟩:=d T o q g;rw[Y]at e
    cases e
    rw[q]at D
    cases D
    exact Nr N (f l)
   .have:=K0 (ch++frs X.stack) q λr=>(Hc.mp r).elim z g
    rw[y]at this
    cases this
theorem Inv.leave{Q:Unit->Shared->Prop}(I:Inv X pins σ H s)(O:X.ex=[])(c:X.stack=X.env::X.outer)(f:X.env.frame=some X.env.locals)(xa:XA X pins H s x C)(h:∀ h' T,Inv X pins σ H {s with heap:=h'}->XOk X pins H x->XOk X pins H T->Trc h' x C T->Q () {s with heap:=h'}):wpAny (model X.prog X.w) X.A (leaving X.env (.ref x)) Q E s:=by
 obtain⟨r,q⟩:=xa;have v:X.A.frames=some (X.env::X.outer):=by rw[← c];exact I.ok.frames
 rcases q with⟨B,m,p,n,G,hd,o,J⟩|⟨T,i,B,m,p,t,l,n,G,o,hd,J,k,Y,N,j⟩
 .have a:∀ b∈[x],XOk X pins H b:=λb d=>by
   have e:b=x:=by simpa using d
   rw[e];exact r
  refine wpAny_leaving_firstW (base:=hidX X s.heap [x]) v (c▸I.hidF [x]) f n (Bl _ _) (kH (by simp)) hd J o λh' L=>?_
  obtain⟨M,_,z,u⟩:=L;obtain⟨g,T,i,y⟩:=I.left O a M z u;rw[G]at y;exact h h' T g r i y
 .have a:∀ b∈[x,T],XOk X pins H b:=λb d=>by
   rcases G6.mp d with e|d
   .rw[e];exact r
   .have e:b=T:=by simpa using d
    rw[e];exact i
  refine wpAny_leaving_nextW (base:=hidX X s.heap [x,T]) v (c▸I.hidF [x,T]) f ⟨B,m,T,t,l,n,⟨G,o⟩,hd,J,kH (by simp),k,Y,N,j⟩ (Bl _ _) (kH (by simp)) λh' L=>?_
  obtain⟨M,_,z,u⟩:=L;obtain⟨g,T',D,y⟩:=I.left O a M z u;exact h h' T' g r D y
end
section
variable{X:Cx}{k:Nat}{f C:Addr}{fd:FuncData}{ps:List Str}{sp:Sp}{dvs:List V}{ds:List Value}{W:WK}{x m:Str}{p pos apos:Pos}{e o:Expr}{es:List Expr}{ta:TE}{t:TA}
end
abbrev veM:List Value:=[.type "ValueError",.type "Exception",.type "BaseException",.type "object"]
abbrev ExC(K:GX)(C:Addr):Prop:=LF K C veM "ValueError.__new__"=true
theorem BE(e:ExC K C)(X:K.In h):∃ bm N nm L bs hdct sn sub ab col dd k0 k1 k2 k3 k5 mN,h.get? C=some (excClassObj nm L C N bs bm hdct sn sub ab col dd k0 k1 k2 k3 k5 "ValueError.__new__")/\h.Ns N mN/\mN "__init__"=none/\OwnTail h veM bm/\∀ B b,JG K C B=some b->(Value.ref C::bm).contains B=b:=by
 have z:=e;unfold ExC LF at z;split at z
 .rename_i r s v c;split at z
  .rename_i Cx n d u A w t f J a;have q:=z;simp only[Ll,beq_iff_eq,Bool.not_eq_true']at q;obtain⟨⟨⟨⟨⟨x,D⟩,o⟩,g⟩,p⟩,j⟩:=q;subst x;subst D;obtain⟨l⟩:=v;have G:l=[d,u,A,w,some (.builtin "ValueError.__new__"),f]:=a;subst G;obtain⟨nm,bs,y,I,L,hd,sn,sub,ab,col,del⟩:=s;have k:y=.ref Cx::n:=J;have m:del=false:=o;subst k m;refine⟨n,I,nm,L,bs,hd,sn,sub,ab,col,r,d,u,A,w,f,_,X _ _ c,.of_isNs (PySem.W.isNs_of_in X p),PySem.W.nsMap_none_of_in X p j,PySem.W.tail_of_in X g,λB b i=>?_⟩;unfold JG PySem.W.clsIn at i;rw[c]at i;simpa using i
  .cases z
 .cases z
section
variable{X:Cx}{pins:List (Addr×Obj)}{σ:St}{H:Hp}{s:Shared}{x:Addr}{C:Value}
def Cx.marked(X:Cx)(v:Value):Cx:={X with A:=X.A.mark (some v),calm:=false,xe:=λ_ _=>False}
theorem Inv.marked(I:Inv X pins σ H s)(v:Value):Inv (X.marked v) pins σ H s :=
 ⟨⟨I.ok.mod,I.ok.kind,I.ok.glob,I.ok.blt,I.ok.above,I.ok.inj,I.ok.has,I.ok.cab,λz=>(by cases z),I.ok.frames,I.ok.stk,I.ok.exf,I.ok.bs,I.ok.bsz,I.ok.noex,I.ok.exfs,I.ok.funs,I.ok.frf⟩,I.os,I.bare,I.base,I.loc,I.cell,I.free,I.freeC,I.pin,I.hok,I.len⟩
theorem Inv.unmarked{hd:X.calm=true->X.A.handled=none}{fr:X.A.frames=some X.stack}{v:Value}(I:Inv (X.marked v) pins σ H s):Inv X pins σ H s :=
 ⟨⟨I.ok.mod,I.ok.kind,I.ok.glob,I.ok.blt,I.ok.above,I.ok.inj,I.ok.has,I.ok.cab,hd,fr,I.ok.stk,I.ok.exf,I.ok.bs,I.ok.bsz,I.ok.noex,I.ok.exfs,I.ok.funs,I.ok.frf⟩,I.os,I.bare,I.base,I.loc,I.cell,I.free,I.freeC,I.pin,I.hok,I.len⟩
end
section
variable{M:Model}{A:Around}{E:Value->Shared->Prop}{h:Heap}{g:Array GenState}{d:Drawn}{t:Nat}{os:OsState}
end
def Cx.tried(X:Cx)(B:List (Addr×Obj))(E:Value->Shared->Prop):Cx:={X with pn:=X.pn++B,xe:=E}
section
variable{X:Cx}{pins pins':List (Addr×Obj)}{σ:St}{H:Hp}{s:Shared}{E:Value->Shared->Prop}{b:Addr}
theorem Inv.tried(I:Inv X pins σ H s):Inv (X.tried pins E) [] σ H s :=
 ⟨⟨I.ok.mod,I.ok.kind,I.ok.glob,I.ok.blt,I.ok.above,I.ok.inj,I.ok.has,I.ok.cab,I.ok.hd,I.ok.frames,I.ok.stk,I.ok.exf,I.ok.bs,I.ok.bsz,I.ok.noex,I.ok.exfs,I.ok.funs,I.ok.frf⟩,I.os,I.bare,I.base,I.loc,I.cell,I.free,I.freeC,λp g=>I.pin p (by rw[Kd]at g;exact g),I.hok,I.len⟩
theorem Inv.untried(I:Inv (X.tried pins E) pins' σ H s):Inv X pins σ H s :=
 ⟨⟨I.ok.mod,I.ok.kind,I.ok.glob,I.ok.blt,I.ok.above,I.ok.inj,I.ok.has,I.ok.cab,I.ok.hd,I.ok.frames,I.ok.stk,I.ok.exf,I.ok.bs,I.ok.bsz,I.ok.noex,I.ok.exfs,I.ok.funs,I.ok.frf⟩,I.os,I.bare,I.base,I.loc,I.cell,I.free,I.freeC,λp g=>I.pin p (HL _ g),I.hok,I.len⟩
theorem XOk.untried(x:XOk (X.tried pins E) pins' H b):XOk X pins H b:=⟨x.old,x.trk,x.nl,x.nc,λp g=>x.np p (HL _ g)⟩
theorem SP.untried{D:Ends}{f:Flow}(h:SP (X.tried pins E) [] D f s):SP X pins D f s:=by
 cases f with
 |next=>obtain⟨G,l,I,q⟩:=h;exact⟨G,l,I.untried,q⟩
 |brk=>obtain⟨G,l,I,q⟩:=h;exact⟨G,l,I.untried,q⟩
 |cont=>obtain⟨G,l,I,q⟩:=h;exact⟨G,l,I.untried,q⟩
 |ret u=>obtain⟨v,G,l,I,r,q⟩:=h;exact⟨v,G,l,I.untried,r,q⟩
end
section
variable{X:Cx}{k:Nat}{f:Addr}{fd:FuncData}{ps:List Str}{sp:Sp}{dvs:List V}{ds:List Value}{W:WK}{x:Str}{p pos:Pos}{e:Expr}{es:List Expr}{t:TA}
end
section
variable{prog:Program}{w:World}{A:Around}{E:Value->Shared->Prop}{s:Shared}
theorem AY:typeLookup (.type "list_reverseiterator") "__len__"=pure none:=by rw[typeLookup_type,builtinLookup_eq_fast];kernel_rfl
theorem Dw:typeLookup (.type "list_reverseiterator") "__length_hint__"=pure (some (.builtin "list_reverseiterator.__length_hint__")):=by rw[typeLookup_type,builtinLookup_eq_fast];kernel_rfl
theorem DD{r:Addr}{Q:Bool->Shared->Prop}(Y:s.TypeIs (.ref r) "list_reverseiterator")(h:Q false s):wpAny (model prog w) A (MD (.ref r)) Q E s:=by
 unfold MD;refine Mb (MC Y AY ?_);wp_delta;refine ME (λm=>Nr m (by decide)) (λ_=>?_)
 refine ME (λm=>Nr m (by decide)) (λ_=>?_)
 refine Mb (MC Y Dw ?_);generalize a:("list_reverseiterator.__length_hint__" : String)=c;wp_delta;rw[show splitId c=some ("list_reverseiterator","__length_hint__") from by subst a;decide]
 subst a;refine Mb (MF (T:="list_reverseiterator") (b:=true) Y (by rw[isSubtype_type];kernel_rfl) ?_)
 refine ME (λm=>Nr m (by decide)) (λ_=>?_)
 refine ME (λ_=>?_) (λm=>Nr (by decide) m)
 refine ME (λm=>Nr m (by decide)) (λ_=>?_)
 exact Me h
end
theorem Inv.track{o:HO}(I:Inv X J σ H s)(f:FpOk X J H a)(new:bC X.prog X.w (upd H a o) s.heap a o):Inv X J σ (upd H a o) s:=by
 obtain⟨N,p,Q,Y,g,x⟩:=f;have ne:∀ b u,H b=some u->b≠a:=λb u e=>aA e N;refine I.step (g':=s.gens) (t':=s.toks) (d':=s.drawn) (h':=s.heap) (ch:=[a]) (λb L=>?_) (λb o _ _ _ e _=>e) (λb o _ _ _ e _=>⟨o.slots,e⟩) (λb o C e n=>?_) (λb o _ e=>⟨o,e⟩) (λb D e=>by rw[aq (ne b _ e)];exact e) (λb o u e=>by rw[aq (ne b _ e)];exact e)
  (λb G e=>⟨#[],by rw[aq (ne b _ e),e];simp⟩) (λm y=>y) (λb u e=>?_) I.bare
 .have t:b=a:=by simpa using L
  rw[t];exact⟨Y,p,g,x⟩
 .rw[aq (λz=>C (by simp[z]))]
  exact n
 .by_cases L:b=a
  .rw[L,ag]at e
   cases e
   rw[L];exact new
  .rw[aq L]at e;exact(I.hok b u e).stay (λc v _ q=>q) (λc q=>by rw[aq (ne c _ q)];exact q) λc D q=>by rw[aq (ne c _ q)];exact q
theorem Inv.turnedL(I:Inv X J σ H s)(k:∀ b o,b∉fp->s.heap.get? b=some o->h'.get? b=some o)(l:∀ b∈fp,FpOk X J H b):Inv X J σ H {s with heap:=h',toks:=t'}:=by
 have a:∀ b u,H b=some u->b∉fp:=λb u e z=>by rw[(l b z).1]at e;cases e
 refine I.step (g':=s.gens) (d':=s.drawn) (ch:=fp) (λb L=>?_) (λb o _ _ C e _=>k b o C e) (λb o _ _ C e _=>⟨o.slots,k b o C e⟩) (λ_ _ _ _ n=>n)
  (λb o C e=>⟨o,k b o C e⟩) (λ_ _ e=>e) (λ_ _ _ e=>e) (λb G e=>⟨#[],by rw[e];simp⟩) (λm y=>?_) (λb u e=>?_) I.bare
 .obtain⟨N,p,f,Y,g,x⟩:=l b L;exact⟨Y,p,g,x⟩
 .obtain⟨o,B,M,D,r⟩:=y;exact⟨o,B,M,k _ o (λz=>(l _ z).2.1 rfl) D,r⟩
 .refine(I.hok b u e).stay (λc v C q=>k c v ?_ q) (λ_ q=>q) λ_ _ q=>q;rcases C with z|z
  .rw[z];exact a b u e
  .exact a c _ z
def Ite(K:GX)(a:Addr):It :=
 ⟨λi H=>∃ D x,SqL K H a D/\D[i]?=some x,λi H v l=>∃ T x,H T=none/\v=.ref T/\l=upd H T (.tup [.int (i:Int),x])/\∀ D,SqL K H a D->D[i]?=some x,λi H=>∃ D,SqL K H a D/\D.length<=i⟩
theorem zM{es:List Expr}{k:Nat}(a e it:Addr)(aI:e≠it):Turn P w K (.Tuple es k pos) (Ite K a) [e,it] e (λi h=>(∃ ab,IsEnum h e it ((i:Nat):Int) ab)/\h.IsListIter it a i) where
 mem:=by simp
 obj:=λi h st b L=>by
  obtain⟨⟨ab,n⟩,o,g,c,d⟩:=st;rcases G6.mp L with rfl|L
  .exact⟨_,n,λv z=>by
    have z':Data.fields _=Data.cell v:=z
    cases z'⟩
  .have e3:b=it:=by simpa using L
   subst e3;exact⟨o,g,λv z=>by rw[d]at z;cases z⟩
 keep:=λi h h' st y=>by
  obtain⟨⟨ab,n⟩,aa⟩:=st;exact⟨⟨ab,y e (by simp) _ n⟩,aa.at λo q=>y it (by simp) o q⟩
 item:=by
  intro X hP hw hK C i B s M H E I l st J;subst hP hw hK;obtain⟨f,x,r,O⟩:=J;obtain⟨N,rv,p,hz⟩:=I.list r;obtain⟨u,hu,ru⟩:=rv.get O;obtain⟨⟨ab,n⟩,aa⟩:=st;refine wpAny_pyNext_enum_item n aa p.isList (x:=u) (by simpa using hu) aI λh' j aL A ac D=>?_
  refine⟨_,rfl,?_⟩;refine wpAny_letOwnedTupleGo_enum j λY aT am=>?_;have al:LX e h' Y:=am;have aS:e<s.heap.objs.size:=LS n;have an:it<s.heap.objs.size:=by obtain⟨_,q,_⟩:=aa;exact LS q
  have ae:H s.heap.objs.size=none:=I.hok.fresh (G0 _);have I0:Inv X B M (upd H s.heap.objs.size (.tup [.int (i:Int),x])) {s with heap:=s.heap.push {cls:=.type "tuple",data:=.seq #[.int (i:Int) s.toks,u]},toks:=s.toks+1} :=
   I.laid (t':=s.toks+1) (λb u e=>Mf _ e) (G0 _) ⟨by show 2<=LR;decide,[.int (i:Int) s.toks,u],.cons ⟨_,rfl⟩ (.cons ru .nil),⟨_,Mg _ rfl,rfl,_,rfl⟩⟩
  have ap:∀ b∈[e,it],b<s.heap.objs.size:=λb L=>by
   rcases G6.mp L with rfl|L
   .exact aS
   .have e3:b=it:=by simpa using L
    rw[e3];exact an
  have T:∀ b∈[e,it],upd H s.heap.objs.size (.tup [.int (i:Int),x]) b=none:=λb L=>by
   rw[aq (Hr (ap b L))];exact(l b L).1
  have I2:Inv X B M (upd H s.heap.objs.size (.tup [.int (i:Int),x])) {s with heap:=Y,toks:=s.toks+1}:=Inv.turnedL (s:={s with heap:=s.heap.push {cls:=.type "tuple",data:=.seq #[.int (i:Int) s.toks,u]},toks:=s.toks+1}) (h':=Y) I0 (t':=s.toks+1) (fp:=[e,it]) (λb o L q=>by
   have nb:b≠e:=λz=>L (by simp[z])
   have aW:b≠it:=λz=>L (by simp[z])
   refine(al.2 b nb).trans ?_;rcases Heap.get?_push_cases q with⟨z1,m⟩|q
   .rw[z1,m];exact A
   .exact D b o nb aW q) λb L=>⟨T b L,(l b L).2⟩
  refine⟨.ref s.heap.objs.size,_,I2,rfl,⟨s.heap.objs.size,x,ae,rfl,rfl,λt Q=>by rw[I.list_inj Q r];exact O⟩,?_,T⟩
  refine⟨⟨u,?_⟩,aL.at λo q=>(al.2 it (Ne.symm aI)).trans q⟩;have e4:(((i+1:Nat):Nat):Int)=(i:Int)+1:=by omega
  rw[e4];exact aT
 done:=by
  intro X hP hw hK C i B s M H E I l st J;subst hP hw hK;obtain⟨f,r,O⟩:=J;obtain⟨N,rv,p,hz⟩:=I.list r;obtain⟨⟨ab,n⟩,aa⟩:=st;have G:=rv.length;obtain⟨f0,f1,f2,f3,f4,f5⟩:=l it (by simp)
  exact wpAny_pyNext_enum_end (I.ok.hd C) n aa p.isList (by simp;omega) λh' eb=>⟨rfl,I.turned (t':=s.toks) (λb o L e=>eb b o L e) f0 f1 f3 f4 f5⟩
 self:=λ_ _ _ _ _ st h=>by
  obtain⟨⟨ab,n⟩,_⟩:=st;exact wpAny_pyIter_enum n h
def iEnum(K:GX)(l:TA):TI:=λM H R=>l M H λm Y=>∃ a,m=[.ref a]/\(∃ D,SqL K Y a D)/\R (Ite K a) Y
theorem lE{l:Expr}{c:TA}{es:List Expr}{k:Nat}{tp p:Pos}(J:Gl X "enumerate")(y:X.mg "enumerate"=none)(G:PA X [l] c)(T:LY [l] X.env=[(false,eval l X.env)]:=by rfl):
  PI X (.Tuple es k tp) (.Call (.Name "enumerate" p) [l] [] pos) (iEnum X.K c):=by
 intro B s M H R I h;refine Call_ (jd I J y uk (Mi (thn (G pos B s M H _ I h) λz j ⟨m,Y,i,w,E⟩=>?_) T rfl));obtain⟨a,e,⟨f,g⟩,q⟩:=E;subst e;obtain⟨u,rfl,t⟩:=jW w
 cases t
 obtain⟨N,rv,p,A⟩:=i.list g;refine call_enumerate_list p.isList λr n d C D=>?_;refine wpAny_pyIter_enum n ?_;refine⟨j.heap.objs.size+1,[j.heap.objs.size+1,j.heap.objs.size],_,_,Y,rfl,i.kept (t':=j.toks) D,zM a _ _ (Nat.succ_ne_self _),⟨⟨_,n⟩,d⟩,λb L=>?_,q⟩;have o:j.heap.objs.size<=b:=by
  rcases G6.mp L with rfl|L
  .exact IV _
  .have Q:b=j.heap.objs.size:=by simpa using L
   rw[Q];exact G0 _
 exact i.fpOk o (i.hok.fresh o)
theorem qQ{g:TG}{tb:TS}{D:Ends}(Pv:Nat->St->Hp->Prop)(o:Pv 0 σ H)(hl:∀ i σ H,i<=xs.length->Pv i σ H->SqL K H a xs)(l:∀ i x σ H T,xs[i]?=some x->Pv i σ H->H T=none->g (.ref T) σ (upd H T (.tup [.int (i:Int),x])) λh H2=>tb {D with nx:=Pv (i+1),ct:=Pv (i+1),bk:=D.nx} h H2)(hd:∀ σ H,Pv xs.length σ H->D.nx σ H):
  ∃ W:Nat->Nat->St->Hp->Prop,(∃ m,W 0 m σ H)/\∀ i m σ H,W i m σ H ->
   ((Ite K a).stop i H/\D.nx σ H)∨((Ite K a).go i H/\∃ N:St->Hp->Prop,(∀ σ' H',N σ' H'->∃ r,r<m/\W (i+1) r σ' H')/\∀ x H',(Ite K a).yld i H x H'->g x σ H' λh H2=>tb {D with nx:=N,ct:=N,bk:=D.nx} h H2):=by
 refine⟨λi m σ H=>m=xs.length-i/\i<=xs.length/\Pv i σ H,⟨xs.length,by simp,HI _,o⟩,?_⟩
 rintro i m σ H ⟨rfl,I,p⟩;have q:=hl i σ H I p;by_cases G:i<xs.length
 .refine .inr ⟨⟨xs,xs[i],q,by simp[G]⟩,Pv (i+1),λσ' H' L=>⟨xs.length-(i+1),∅,rfl,G,L⟩,λv H' y=>?_⟩
  obtain⟨T,x,Y,rfl,rfl,y⟩:=y;exact l i x σ _ T (y xs q) p Y
 .have e:i=xs.length:=by omega
  subst e;exact .inl ⟨⟨xs,q,G0 _⟩,hd σ H p⟩
theorem jN(h:j<n):ixN n (j:Int)=some j:=by
 unfold ixN;rw[Np ∅,Np ∅]
 rfl
theorem iB:∀{ds:List PyData},(∀ d∈ds,d.canLay0=true)->PyData.canLayAll0 ds=true
 |[],_=>by simp[PyData.canLayAll0]
 |d::ds,h=>by
  rw[PyData.canLayAll0,h d (by simp),iB λx O=>h x (by simp[O])]
  rfl
theorem jR{n:Nat}:∀{ds:List PyData},(∀ d∈ds,d.depth<=n)->PyData.depthAll ds<=n
 |[],_=>by simp[PyData.depthAll]
 |d::ds,h=>by
  have J:=h d (by simp)
  have Y:=jR (ds:=ds) λx O=>h x (G4 _ O);rw[PyData.depthAll];omega
theorem m5{ds:List PyData}(h:∀ d∈ds,d.canLay0=true/\d.depth<=10):SeqAt.shaped (.list ds)=true:=by
 have J:=iB λd hd=>(h d hd).1;have Y:=jR λd hd=>(h d hd).2;have A:MG (.list ds)<=64:=by simp only[MG];omega
 show(MH (.list ds)&&decide (MG (.list ds)<=64))=true;rw[Ll];exact⟨by simp only[MH];exact J,MB A⟩
def cxG(X:Cx)(scope:Scope)(fr:List (Str×Nat))(xs:List Str)(C:Addr)(ex:List Addr)(s:Shared)(H:Hp):Cx where
 prog:=X.prog
 w:=X.w
 K:=X.K
 mg:=X.mg
 base:=X.base
 A:=X.A
 N:=xs++fr.map (·.1)
 s₀:=s
 H₀:=H
 env:=compEnvC scope (clOf X.env fr) C X.env
 outer:=X.stack
 stack:=X.stack
 ex:=ex
 fn:=λ_=>false
 calm:=X.calm
 pn:=[]
 xe:=λ_ _=>False
structure mw(X:Cx)(scope:Scope)(fr:List (Str×Nat))(xs:List Str):Prop where
 clos:closureFor scope X.env=pure (clOf X.env fr)
 cell:∀ y∈scope.names,y.2≠.cell
 kind:scope.kind=.function
 names:∀ y∈scope.names,y.2=.local->scope.names.lookup y.1=some .local
 slot:∀ p∈fr,X.N[p.2]?=some p.1/\X.env.kindOf p.1=some .cell
 has:∀ y∈(relabel scope X.env).names,(y.2=.cell∨y.2=.free)->y.1∈fr.map (·.1)
 frk:∀ p∈fr,(relabel scope X.env).names.lookup p.1=some .cell
theorem mw.of{xs:List Str}(clos:closureFor scope X.env=pure (clOf X.env fr))(cell:∀ y∈scope.names,y.2≠.cell)(kind:scope.kind=.function)(names:∀ y∈scope.names,y.2=.local->scope.names.lookup y.1=some .local)(slot:∀ p∈fr,X.N[p.2]?=some p.1/\X.env.kindOf p.1=some .cell)(a:∀ z∈scope.names,z.2=.free->z.1∈fr.map (·.1))(frk:∀ p∈fr,(relabel scope X.env).names.lookup p.1=some .cell):mw X scope fr xs where
 clos:=clos
 cell:=cell
 kind:=kind
 names:=names
 slot:=slot
 has:=λz f D=>by
  obtain⟨⟨n,k⟩,A,e⟩:=HS.mp (show z∈scope.names.map _ from f);have Y:=cell _ A;dsimp only at e Y;have T:z.1=n:=by rw[← e];split<;>rfl
  have l:k=.free:=by
   by_cases q:k=.free
   .exact q
   .have L:(k == NameKind.free)=false:=by simpa using q
    rw[L]at e;simp only[JE,Il,if_false]at e;subst e;exact(D.elim Y q).elim
  have:=a _ A l;rw[T];exact this
 frk:=frk
abbrev nons(xs:List Str):St:=He xs.length none
section
variable{X:Cx}{pins:List (Addr×Obj)}{σ:St}{H:Hp}{s:Shared}{scope:Scope}{fr:List (Str×Nat)}{xs:List Str}
theorem mw.cells(O:mw X scope fr xs)(I:Inv X pins σ H s){y:Str}{c:Addr}(h:(clOf X.env fr).lookup y=some c):X.env.cells.lookup y=some c:=by
 obtain⟨A,e⟩:=jb h;obtain⟨p,g,M⟩:=HS.mp A;have k:=(O.slot p g).2;rw[M]at k;obtain⟨C,u⟩:=I.ok.has y (.inl k);rw[u]at e;rw[u,e];rfl
theorem Be(O:mw X scope fr xs)(I:Inv X pins σ H s)(j:∀ b∈fp,FpOk X pins H b)(am:∀ b∈fp,b<s.heap.objs.size){g:Heap}{tk:Nat}(t:g=s.heap.push (MI []))(D:∀ b o,g.get? b=some o->h'.get? b=some o)(hC:h'.Ns g.objs.size λ_=>none):
  Inv (cxG X scope fr xs g.objs.size (s.heap.objs.size::fp) {s with heap:=g} H) (X.pn++pins++[(s.heap.objs.size,MI [])]) (nons xs++frOf fr σ) H {s with heap:=h',toks:=tk}:=by
 have aa:g.objs.size=s.heap.objs.size+1:=by rw[t,Mq]
 have kp:∀ b o,s.heap.get? b=some o->g.get? b=some o:=λb o e=>by rw[t];exact Mf _ e
 have an:∀ b o,s.heap.get? b=some o->h'.get? b=some o:=λb o e=>D b o (kp b o e);have aW:h'.get? s.heap.objs.size=some (MI []):=D _ _ (by rw[t];exact Mg _ rfl)
 have ae:∀ b,b<s.heap.objs.size->b≠g.objs.size:=λb e=>by rw[aa];exact Hr (Iz e)
 have ap:s.heap.objs.size≠g.objs.size:=by rw[aa];exact Hr (HK _)
 have ab:H g.objs.size=none:=I.hok.fresh (by rw[aa];exact IV _)
 have a0:H s.heap.objs.size=none:=I.hok.fresh (G0 _);have cne:∀ y c,X.env.cells.lookup y=some c->c<s.heap.objs.size:=λy c e=>by
  obtain⟨v,q⟩:=I.cell y c e;exact q.lt
 have aL:∀ b,b≠X.env.locals->b∉X.fs->b∉frs X.stack:=λb J Y z=>(G6.mp (I.stkSub b z)).elim J Y;have aI:s.heap.objs.size∉frs X.stack:=aL _ (IA I.lt) (I.nofs (G0 _));refine⟨⟨I.ok.mod,O.kind,I.ok.glob,I.ok.blt,G0 _,?_,?_,λ_ _ z _=>(by cases z),I.ok.hd,I.ok.frames,.inl rfl,?_,?_,?_,?_,?_,?_,I.stkFree⟩,rfl,I.bare,Un.kept D,?_,?_,ab,?_,?_,I.hok.kept an,?_⟩
 .intro y z c J Y;exact I.ok.inj y z c (O.cells I J) (O.cells I Y)
 .intro y Q;have A:y∈fr.map (·.1):=by
   rcases Q with Q|Q
   .exact O.has (y,_) (I8 Q) (.inl rfl)
   .exact O.has (y,_) (I8 Q) (.inr rfl)
  exact⟨_,eE A⟩
 .intro b L;rcases G6.mp L with rfl|L
  .exact⟨ap,λy c e=>Hr (cne y c (O.cells I e))⟩
  .exact⟨ae b (am b L),λy c e=>(j b L).2.2.2.2.1 y c (O.cells I e)⟩
 .intro b o e;exact⟨kp b o (I.bs b o e).1,(I.bs b o e).2⟩
 .show X.base.objs.size<=g.objs.size;rw[aa];exact Ld (Ig I.ok.bsz I.sz)
 .intro b o e L;rcases G6.mp L with z|L
  .have:=LS (I.bs b o e).1
   rw[z]at this;exact Ia _ this
  .rcases(j b L).2.2.2.1 with z|z
   .exact I.ok.noex b o e z
   .exact Nr (Hv (LS (I.ok.bs b o e).1) z) (Ia _)
 .intro b L;rcases G6.mp L with z|L
  .rw[z];exact aI
  .exact aL b (j b L).2.1 (j b L).2.2.1
 .exact(I.kept (h':=g) (t':=s.toks) kp).stack
 .refine⟨_,hC,λi y v f E x=>?_⟩;have aS:(xs++fr.map (·.1))[i]?=some y:=f;by_cases B:i<xs.length
  .rw[G5 (by simpa using B)]at E
   rw[IH,Np B]at E
   cases E
  .have ac:(fr.map (·.1))[i-xs.length]?=some y:=by
    rw[G3 ∅]at aS
    exact aS
   have al:(frOf fr σ)[i-xs.length]?=some (some v):=by
    rw[G3 (by simp;omega)]at E
    simpa using E
   generalize i-xs.length=k at ac al;unfold frOf at al;rw[G7]at ac al
   cases q:fr[k]? with
   |none=>rw[q]at ac;cases ac
   |some p =>
    rw[q]at ac al;have ey:p.1=y:=Hq ac;have ev:(σ[p.2]?).join=some v:=Hq al;have M:p∈fr:=GW q;obtain⟨N,hK⟩:=O.slot p M;have aT:=O.frk p M;rw[ey]at N hK aT;have a1:σ[p.2]?=some (some v):=by
     cases C:σ[p.2]? with
     |none=>rw[C]at ev;cases ev
     |some w=>rw[C]at ev;exact congrArg some ev
    obtain⟨m,T,G⟩:=I.loc;obtain⟨u,r,l⟩:=G p.2 y v N a1 (.inr (.inl hK));refine⟨u,r,?_⟩;rcases l with⟨k1,_⟩|⟨_,c,ec,z⟩
    .rw[hK]at k1;cases k1
    .have A:y∈fr.map (·.1):=by rw[← ey];exact HS.mpr ⟨p,M,rfl⟩
     have el:=eE (env:=X.env) A;rw[ec]at el;exact .inr ⟨.inl aT,c,el,by obtain⟨o,a,hd⟩:=z;exact⟨o,an _ _ a,hd⟩⟩
 .intro y c e;obtain⟨v,o,a,hd⟩:=I.cell y c (O.cells I e);exact⟨v,o,an _ _ a,hd⟩
 .intro y c e;exact I.freeC y c (O.cells I e)
 .intro p M;rcases Hc.mp M with M|M
  .cases M
  .rcases Hc.mp M with M|M
   .obtain⟨e,n,ne,nf,d⟩:=I.pin p M;exact⟨an _ _ e,n,ae _ (LS e),aL _ ne nf,d⟩
   .have h:p=(s.heap.objs.size,MI []):=by simpa using M
    subst h;exact⟨aW,a0,ap,aI,λv z=>by cases z⟩
 .show(nons xs++frOf fr σ).length=(xs++fr.map (·.1)).length;unfold frOf;simp
theorem qK{g:Heap}{σ':St}(I:Inv X pins σ H s)(l:∀ b∈fp,FpOk X pins H b)(t:g=s.heap.push (MI []))(J:Inv (cxG X scope fr xs g.objs.size (s.heap.objs.size::fp) {s with heap:=g} H) (X.pn++pins++[(s.heap.objs.size,MI us)]) σ' H' s')(p:Vals ys us)(hl:ys.length<=LR):
  Inv X pins σ (upd H' s.heap.objs.size (.lst ys)) s'/\H' s.heap.objs.size=none/\FpOk X pins (upd H' s.heap.objs.size (.lst ys)) g.objs.size/\∃ m,s'.heap.Ns g.objs.size m:=by
 have C:g.objs.size=s.heap.objs.size+1:=by rw[t,Mq]
 have a:∀ b o,s.heap.get? b=some o->g.get? b=some o:=λb o e=>by rw[t];exact Mf _ e
 obtain⟨k,f,_,_,_⟩:=J.pin (s.heap.objs.size,MI us) (by simp)
 have i:g.objs.size≠s.heap.objs.size:=by rw[C];exact IA (HK _)
 have h:∀ b u,H' b=some u->b≠s.heap.objs.size:=λb u e z=>by rw[z]at e;rw[e]at f;cases f
 have O:∀ b o,s.heap.get? b=some o->b∉fp->b∉s.heap.objs.size::fp:=λb o e L z=>by
  rcases G6.mp z with z|z
  .have:=LS e
   rw[z]at this;exact Ia _ this
  .exact L z
 have j:Un (frs X.stack) (s.heap.objs.size::fp) H H' g s'.heap:=J.base;have r:∀ b o,s.heap.get? b=some o->b≠s.heap.objs.size:=λb o e=>Hr (LS e);have un:Un (frs X.stack) fp H (upd H' s.heap.objs.size (.lst ys)) s.heap s'.heap:=by
  refine⟨λb o e n L Y=>j.keep b o (a b o e) n L (O b o e Y),λb o e n L Y=>j.slot b o (a b o e) n L (O b o e Y),λb o e n Y=>?_,λb o e Y=>j.there b o (a b o e) (O b o e Y),λb xs e=>?_,λb o u e=>?_,λb G e=>?_⟩
  .rw[aq (r b o e)];exact j.free b o (a b o e) n (O b o e Y)
  .have q:=j.tups b xs e
   rw[aq (h b _ q)];exact q
  .have q:=j.frzs b o u e
   rw[aq (h b _ q)];exact q
  .obtain⟨d,q⟩:=j.tbls b G e;exact⟨d,by rw[aq (h b _ q)];exact q⟩
 have A:HOk X.prog X.w (upd H' s.heap.objs.size (.lst ys)) s'.heap:=λb u e=>by
  by_cases L:b=s.heap.objs.size
  .rw[L,ag]at e
   cases e
   rw[L];exact⟨hl,us,us.length,p,k⟩
  .rw[aq L]at e;exact(J.hok b u e).stay (λc v _ q=>q) (λc q=>by rw[aq (h c _ q)];exact q) λc xs q=>by rw[aq (h c _ q)];exact q
 have os:s'.os=s.os:=J.os;refine⟨I.call' os un A J.bare λb L=>⟨(l b L).2.2.2.1,(l b L).2.1,(l b L).2.2.2.2⟩,f,?_,?_⟩
 .refine I.fpOk (H':=upd H' s.heap.objs.size (.lst ys)) (b:=g.objs.size) (by rw[C];exact IV _) ?_
  rw[aq i];exact J.free
 .obtain⟨m,T,_⟩:=J.loc;exact⟨m,T⟩
end
def PTs(X:Cx)(o:List Expr)(t:TT):Prop :=
 ∀(B:List (Addr×Obj))(s:Shared)(M:St)(H:Hp)(Q:Bool->Hp->Prop),Inv X B M H s->t M H Q ->
  wpAny (model X.prog X.w) X.A (forIn o true λc r=>if r=true then do let ok ← isTrue c X.env (eval c X.env);pure (ForInStep.yield ok) else pure (ForInStep.yield r)) (λb q=>∃ l,Inv X B M l q/\Q b l) X.xe s
def tYes:TT:=λ_ H Q=>Q true H
theorem Fy:PTs X [] tYes:=λ_ _ _ H _ I h=>wpAny_tests_nil ⟨H,I,h⟩
theorem qg{c:Expr}{t:TT}(h:PT X c t):PTs X [c] t:=λB s M H Q I q=>wpAny_tests_one (h B s M H Q I q)
section
variable{prog:Program}{w:World}{A:Around}{s:Shared}
theorem B4{k b d:Expr}{o:List Expr}{it:Value}(I:Nat->Shared->Prop)(turn:∀ n s,I n s->wpAny (model prog w) A (pyNext it) (λr s₁=>match r with
   |none=>R (.ok .next) s₁
   |some v=>wpAny (model prog w) A (letOwnedTupleGo b it v) (λ_ s₀=>wpAny (model prog w) A (assign b env v) (λ_ s₂ =>
     wpAny (model prog w) A (forIn o true λc r=>if r=true then do let ok ← isTrue c env (eval c env);pure (ForInStep.yield ok) else pure (ForInStep.yield r)) (λok a=>if ok=true then wpAny (model prog w) A (eval k env) (λx i =>
      wpAny (model prog w) A (call (.builtin "list.append") [u,x]) (λ_ l=>∃ m,m<n/\I m l) (notedBy (model prog w) A env λe s'=>R (.error e) s') i) (notedBy (model prog w) A env λe s'=>R (.error e) s') a
      else ∃ m,m<n/\I m a) (notedBy (model prog w) A env λe s'=>R (.error e) s') s₂)
     (notedBy (model prog w) A env λe s'=>R (.error e) s') s₀) (notedBy (model prog w) A env λe s'=>R (.error e) s') s₁) (notedBy (model prog w) A env λe s'=>R (.error e) s') s)(n:Nat)(h:I n s):Mp (model prog w) A (.compLoop (.ListComp k [⟨b,d,o,0⟩] scope pos) 0 it u env) R s:=by
 refine codeAny_loop rfl I (λn s H=>?_) n h;show wpAny _ A ((compTurn (.ListComp k [⟨b,d,o,0⟩] scope pos) 0 it u env).onRaise (λx=>do noteFrame x env;theTreesLotGoes x)) _ _ s
 refine wpAny_noted ?_;rw[compTurn_list];refine Mb (wpAny_standAt (Mb (LZ (turn n s H) (λr s₁ f=>?_) λ_ _ T=>T)))
 cases r with
 |none=>exact Me f
 |some v =>
  refine Mb (LZ f (λ_ s₀ p=>?_) λ_ _ T=>T);refine Mb (LZ p (λ_ s₂ g=>?_) λ_ _ T=>T);refine Mb (LZ g (λy a j=>?_) λ_ _ T=>T)
  cases y with
  |false=>exact Me ⟨rfl,j⟩
  |true=>exact Mb (Mb (LZ j (λx i q=>Mb (LZ q (λ_ l t=>Me (Me ⟨rfl,t⟩)) λ_ _ T=>T)) λ_ _ T=>T))
end
def gP(g:TG)(tt:TT)(f:TE)(n:Nat)(a:St)(J:It)(H1:Hp)(QQ:List V->Hp->Prop):Prop :=
 ∃ W:Nat->Nat->List V->Hp->Prop,(∃ m,W 0 m [] H1)/\∀ i m k H,W i m k H->k.length<=LR /\
  ((J.stop i H/\QQ k H)∨(J.go i H/\∃ N:List V->Hp->Prop,(∀ c L,N c L->∃ r,r<m/\W (i+1) r c L) /\
   ∀ x l,J.yld i H x l->g x (He n none++a) l λh L=>h.drop n=a/\tt h L λb q=>if b=true then f h q (λy t=>N (k++[y]) t) else N k q))
section
variable{X:Cx}{scope:Scope}{fr:List (Str×Nat)}{xs:List Str}{elt iter tg:Expr}{ifs:List Expr}{pos:Pos}{te:TE}{tt:TT}{tgt:TG}{wi:TI}
theorem ph{B:List (Addr×Obj)}{tn:Nat->Heap->Prop}{J:It}{RR:Value->Addr->Result->Shared->Prop}(G:X.calm=true)(O:mw X scope fr xs)(aI:∀ C ex s H,PG (cxG X scope fr xs C ex s H) tg tgt)(a:∀ C ex s H,PTs (cxG X scope fr xs C ex s H) ifs tt)(Y:∀ C ex s H,PE (cxG X scope fr xs C ex s H) elt te)(I:Inv X B σ H s)(T:Turn X.prog X.w X.K tg J fp it tn)(st:tn 0 s.heap)(hf:∀ b∈fp,FpOk X B H b)(x:gP tgt tt te xs.length (frOf fr σ) J H QQ)(ab:∀ D C H4 ys s4 m,Inv X B σ (upd H4 D (.lst ys)) s4->H4 D=none->FpOk X B (upd H4 D (.lst ys)) C->s4.heap.Ns C m->QQ ys H4->RR (.ref D) C (.ok .next) s4):
  wpAny (model X.prog X.w) X.A (newList []) (λac al=>wpAny (model X.prog X.w) X.A (newFunctionEnv scope X.env.globals (clOf X.env fr) [] X.env.qual none .none (some X.env)) (λa7 aW =>
   Mp (model X.prog X.w) X.A (.compStart (.ListComp elt [⟨tg,iter,ifs,0⟩] scope pos) 0 (.ref it) ac {a7 with scope:=relabel scope X.env}) (RR ac a7.locals) aW) E al) E s:=by
 obtain⟨W,⟨m0,w0⟩,turn⟩:=x;have a0:∀ b∈fp,b<s.heap.objs.size:=λb L=>by
  obtain⟨o,e,_⟩:=T.obj 0 s.heap st b L;exact LS e
 refine MJ (wpAny_newFunctionEnv O.cell (by intro y hy;simp at hy) (λae aL aS=>?_) O.kind)
 dsimp only at aL aS ⊢;generalize bp:s.heap.push {cls:=.type "list",dict:=none,data:=.seq ([]:List Value).toArray}=g at aL aS ⊢;have hg:g=s.heap.push (MI []):=bp.symm;have hsz:g.objs.size=s.heap.objs.size+1:=by rw[hg,Mq]
 have d:∀ b o,g.get? b=some o->ae.get? b=some o:=λb o e=>aS.extBut b o (Hr (LS e)) (Mf _ e);have kp:∀ b o,s.heap.get? b=some o->ae.get? b=some o:=λb o e=>d b o (by rw[hg];exact Mf _ e)
 have J0:=Be (h':=ae) (tk:=s.toks+([]:List (Str×Value)).length) O I hf a0 hg d aL;have am:∀{H':Hp}{us:List Value},(∀ b∈fp,H' b=none)->∀ b∈fp,FpOk (cxG X scope fr xs g.objs.size (s.heap.objs.size::fp) {s with heap:=g} H) (X.pn++B++[(s.heap.objs.size,MI us)]) H' b:=λ{H' us} hn b L=>by
  obtain⟨_,f1,f2,f3,f4,f5⟩:=hf b L;refine⟨hn b L,?_,λz=>(G6.mp (I.stkSub b z)).elim f1 f2,.inl (G4 _ L),λy c e=>f4 y c (O.cells I e),λp M=>?_⟩
  .show b≠g.objs.size;rw[hsz];exact Hr (Iz (a0 b L))
  .rcases Hc.mp M with M|M
   .cases M
   .rcases Hc.mp M with M|M
    .exact f5 p M
    .have ep:p=(s.heap.objs.size,MI us):=by simpa using M
     rw[ep];exact IA (a0 b L)
 have ba:Mp (model X.prog X.w) X.A (.compLoop (.ListComp elt [⟨tg,iter,ifs,0⟩] scope pos) 0 (.ref it) (.ref s.heap.objs.size) (compEnvC scope (clOf X.env fr) g.objs.size X.env))
   (RR (.ref s.heap.objs.size) g.objs.size) {s with heap:=ae,toks:=s.toks+([]:List (Str×Value)).length}:=by
  refine B4 (λn s'=>∃ i ys us H',Inv (cxG X scope fr xs g.objs.size (s.heap.objs.size::fp) {s with heap:=g} H) (X.pn++B++[(s.heap.objs.size,MI us)]) (nons xs++frOf fr σ) H' s'/\Vals ys us/\tn i s'.heap/\(∀ b∈fp,H' b=none)/\W i n ys H') ?_ m0
   ⟨0,[],[],H,J0,.nil,T.keep 0 s.heap ae st λb _ o e=>kp b o e,λb L=>(hf b L).1,w0⟩
  rintro n s3 ⟨i,ys,us,H3,J3,hv,a1,a2,w3⟩;obtain⟨aa,hh⟩:=turn i n ys H3 w3;have none_err:∀{α:Type}{t:Sem α}{Q:α->Shared->Prop}{E':Value->Shared->Prop}{s:Shared},wpAny (model X.prog X.w) X.A t Q (λ_ _=>False) s->wpAny (model X.prog X.w) X.A t Q E' s:=λh=>LZ h (λ_ _ q=>q) λ_ _ z=>z.elim;have a3:∀{ap:St},ap.length=(nons xs++frOf fr σ).length->ap.drop xs.length=frOf fr σ->∀(i:Nat) v,(nons xs++frOf fr σ)[i]?=some (some v)->ap[i]?=some (some v):=λ{ap} a4 e6 i v e=>by
   by_cases l:i<xs.length
   .rw[G5 (by simpa using l),IH,Np l]at e
    cases e
   .rw[G3 (by simp;omega),← e6,List.getElem?_drop]at e
    have:xs.length+(i-(nons xs).length)=i:=by simp;omega
    rw[this]at e;exact e
  rcases hh with⟨stop,qn⟩|⟨go,N,hN,step⟩
  .refine none_err (thn (T.done (cxG X scope fr xs g.objs.size (s.heap.objs.size::fp) {s with heap:=g} H) rfl rfl rfl G i _ s3 _ H3 _ J3 (am a2) a1 stop) λr s4 ⟨j,J4⟩=>?_);subst j;obtain⟨I4,nD,fC,m,hn⟩:=qK I hf hg J4 hv aa;exact ab _ _ H3 ys s4 m I4 nD fC hn qn
  .refine none_err (thn (T.item (cxG X scope fr xs g.objs.size (s.heap.objs.size::fp) {s with heap:=g} H) rfl rfl rfl G i _ s3 _ H3 _ J3 (am a2) a1 go) λr s4 ⟨u,j,h4⟩=>?_);subst j;refine none_err (thn h4 λ_ s5 ⟨v,H5,J5,r5,y5,an,bb⟩=>?_);have bv:=J5.pinned (am bb) (T.obj _ _ an);refine none_err (thn (aI _ _ _ _ _ s5 _ H5 v u _ bv r5 (step v H5 y5)) λ_ s6 ⟨ap,H6,J6,e6,q6⟩=>?_);refine none_err (thn (a _ _ _ _ _ s6 ap H6 _ J6 q6) λb be ⟨a5,bd,a6⟩=>?_);have a4:ap.length=(nons xs++frOf fr σ).length:=J6.len.trans J3.len.symm
   cases b with
   |false =>
    rw[Nq Hj]at a6 ⊢;obtain⟨m',f,w7⟩:=hN ys a5 a6;have aT:∀ b∈fp,∀ o,s5.heap.get? b=some o->be.heap.get? b=some o/\a5 b=none:=λb L o e=>by
     obtain⟨k,q2,_⟩:=bd.pin (b,o) (HE _ (HE _ (iQ L e)));exact⟨k,q2⟩
    refine⟨m',f,i+1,ys,us,a5,bd.unpinned.weak (σ':=nons xs++frOf fr σ) a4.symm (a3 a4 e6),hv,T.keep _ _ _ an λb L o e=>(aT b L o e).1,λb L=>?_,w7⟩;obtain⟨o,e,_⟩:=T.obj _ _ an b L;exact(aT b L o e).2
   |true =>
    rw[Np rfl]at a6 ⊢;refine none_err (thn (Y _ _ _ _ _ be _ a5 _ bd a6) λu7 s7 ⟨v7,H7,J7,r7,q7⟩=>?_);obtain⟨m',f,w7⟩:=hN _ H7 q7;obtain⟨eD,nD,dC,dF,dd⟩:=J7.pin (s.heap.objs.size,MI us) (HE _ (HL _ (HE _ (by simp))))
    have bi:=hv.length;refine append_at (hsz:=by show us.toArray.size<=LR;rw[Hl,← bi];exact aa) eD λh8 bm bB=>?_
    have bn:∀ p∈X.pn++B,p.1≠s.heap.objs.size:=λp M z=>by
     have:=LS (I.pin p M).1;rw[z]at this;exact Ia _ this
    have bE:Inv (cxG X scope fr xs g.objs.size (s.heap.objs.size::fp) {s with heap:=g} H) (X.pn++B) _ H7 s7:=J7.pins_of λp M=>J7.pin p (HE _ (HL _ (HL _ M)))
    have J8:Inv (cxG X scope fr xs g.objs.size (s.heap.objs.size::fp) {s with heap:=g} H) (X.pn++B) _ H7 {s7 with heap:=h8}:=bE.turned (t':=s7.toks) (λb o L e=>(bm.2 b L).trans e) nD dC (.inl G9) (λy c e z=>by
     obtain⟨w',q⟩:=I.cell y c (O.cells I e);have:=q.lt;rw[z]at this
     exact Ia _ this) (λp M=>(Hc.mp M).elim (λz=>by cases z) (bn p))
    have J9:Inv (cxG X scope fr xs g.objs.size (s.heap.objs.size::fp) {s with heap:=g} H) (X.pn++B++[(s.heap.objs.size,MI (us++[u7]))]) _ H7 {s7 with heap:=h8}:=J8.pins_of λp M=>by
     rcases Hc.mp M with M|M
     .exact J8.pin p (HE _ M)
     .have ep:p=(s.heap.objs.size,MI (us++[u7])):=by simpa using M
      subst ep;exact⟨bB.trans (congrArg some (LCg.lst_snoc us u7)),nD,dC,dF,λv z=>by cases z⟩
    have bR:=J9.weak (σ':=nons xs++frOf fr σ) a4.symm (a3 a4 e6);have aT:∀ b∈fp,∀ o,s5.heap.get? b=some o->s7.heap.get? b=some o/\H7 b=none:=λb L o e=>by
     obtain⟨k,q2,_⟩:=J7.pin (b,o) (HE _ (HE _ (iQ L e)));exact⟨k,q2⟩
    refine⟨m',f,i+1,ys++[v7],us++[u7],H7,bR,hv.append (.cons r7 .nil),T.keep _ _ _ an λb L o e=>(bm.2 b (Hr (a0 b L))).trans (aT b L o e).1,λb L=>?_,w7⟩;obtain⟨o,e,_⟩:=T.obj _ _ an b L;exact(aT b L o e).2
 exact codeAny_compStart_list ba (T.self X.A 0 _ _ _ (T.keep 0 s.heap ae st λb _ o e=>kp b o e) ba)
def Ep(wi:TI)(g:TG)(tt:TT)(te:TE)(n:Nat)(fr:List (Str×Nat)):TE:=λM H Q=>wi M H λJ Y=>gP g tt te n (frOf fr M) J Y λk L=>∀ D,L D=none->Q (.ref D) (upd L D (.lst k))
theorem CU(G:X.calm=true)(O:mw X scope fr xs)(hi:PI X tg iter wi)(aa:∀ C ex s H,PG (cxG X scope fr xs C ex s H) tg tgt)(d:∀ C ex s H,PTs (cxG X scope fr xs C ex s H) ifs tt)(n:∀ C ex s H,PE (cxG X scope fr xs C ex s H) elt te)(l:∀ x,Mj iter X.env x=pure x:=by intro _;rfl):
  PE X (.ListComp elt [⟨tg,iter,ifs,0⟩] scope pos) (Ep wi tgt tt te xs.length fr):=by
 intro B s M H Q I h;rw[eval_ListComp];refine wpAny_comprehension_free (use:=none) rfl l O.clos O.kind O.names (thn (hi B s M H _ I h) λxv j k=>thn k λab E Y=>?_);obtain⟨it,fp,tn,J,p,e,g,T,y,f,z⟩:=Y;subst e;refine ph (RR:=λu C=>compPost (model X.prog X.w) X.A X.xe none (EP X B M Q) u C) G O aa d n g T y f z ?_;intro D C t v c m I4 nD fC i q4;refine⟨m,i,λr ac=>?_⟩;obtain⟨g0,N,a,q,g4,g5⟩:=fC;exact⟨.ref D,_,I4.turned (t':=c.toks) (λb o L e=>(ac.2 b L).trans e) g0 N q g4 g5,rfl,q4 D nD⟩
def rX(i:Nat)(wi:TI)(g:TG)(tt:TT)(te:TE)(n:Nat)(fr:List (Str×Nat)):TS:=λD M H=>wi M H λJ Y=>gP g tt te n (frOf fr M) J Y λk L=>∀ a,L a=none->D.nx (M.set i (some (.ref a))) (upd L a (.lst k))
theorem uU{y:Str}{py al:Pos}(G:X.calm=true)(hN:X.N.Nodup)(ab:X.N[i]?=some y)(q:X.env.scope.names.lookup y=some .local)(O:mw X scope fr xs)(hi:PI X tg iter wi)(ae:∀ C ex s H,PG (cxG X scope fr xs C ex s H) tg tgt)(n:∀ C ex s H,PTs (cxG X scope fr xs C ex s H) ifs tt)(c:∀ C ex s H,PE (cxG X scope fr xs C ex s H) elt te)(ap:swapsWith (.ListComp elt [⟨tg,iter,ifs,0⟩] scope pos) (some (.Name y py)) al.line X.env=pure true:=by rfl)(l:∀ x,Mj iter X.env x=pure x:=by intro _;rfl):
  PS X (.Assign [.Name y py] (.ListComp elt [⟨tg,iter,ifs,0⟩] scope pos) al) (rX i wi tgt tt te xs.length fr):=by
 intro B s M H D I h;rw[exec_Assign_Name_used _ _ _ _ ap];refine Mb (wpAny_standAt (Mb ?_));show wpAny _ X.A (do let _ ← comprehension (.ListComp elt [⟨tg,iter,ifs,0⟩] scope pos) scope X.env _ (newList []) false (eval iter X.env) (some (assign (.Name y py) X.env))) _ _ s
 refine Mb (thn (wpAny_comprehension_free (use:=some (assign (.Name y py) X.env)) (Q:=λ_ s'=>SP X B D .next s') rfl l O.clos O.kind O.names (thn (hi B s M H _ I h) λxv j k=>thn k λam E Y=>?_)) λ_ s' u=>Me (Me u));obtain⟨it,fp,tn,J,r,e,I2,T,ac,f2,q2⟩:=Y;subst e;refine ph (RR:=λaa C=>compPost (model X.prog X.w) X.A X.xe (some (assign (.Name y py) X.env)) (λ_ s'=>SP X B D .next s') aa C) G O ae n c I2 T ac f2 q2 ?_;intro a C H4 t s4 m I4 nD fC f q4;obtain⟨g0,g1,g2,g3,g4,g5⟩:=fC;obtain⟨oC,eC,aI⟩:=LCg.ns_obj f;have I5:Inv X (B++[(C,oC)]) M (upd H4 a (.lst t)) s4:=I4.pins_of λp g=>by
  rcases Hc.mp g with g|g
  .exact I4.pin p (HE _ g)
  .have ep:p=(C,oC):=by simpa using g
   subst ep;obtain⟨d,aL,hd,_⟩:=aI;exact⟨eC,g0,g1,g2,λv z=>by rw[hd]at z;cases z⟩
 show wpAny _ X.A (assign (.Name y py) X.env (.ref a)) _ _ _;refine wpAny_assign_Name (mz I5 hN ab (.inl q) (v:=.ref a) rfl (λs6 I6=>?_) (.inr q));obtain⟨e6,_⟩:=I6.pin (C,oC) (HE _ (HE _ (by simp)))
 refine⟨m,aI.ns e6,λh' an=>?_⟩;exact⟨_,_,I6.unpinned.turned (t':=s6.toks) (λb o L e=>(an.2 b L).trans e) g0 g1 g3 g4 g5,q4 a nD⟩
end
theorem fJ{g:TG}(Pv:Nat->List V->Hp->Prop)(hz:xs.length<=LR)(o:Pv 0 [] H1)(hl:∀ i ys H,i<=xs.length->Pv i ys H->SqL K H a xs)
  (T:∀ i x ys H,xs[i]?=some x->Pv i ys H->g x (He n none++σ) H λh H2=>h.drop n=σ/\tt h H2 λb H3=>if b=true then O h H3 (λy t=>Pv (i+1) (ys++[y]) t) else Pv (i+1) ys H3) (hd:∀ ys H,Pv xs.length ys H->QQ ys H) (Q:∀ i ys H,Pv i ys H->ys.length<=i)
  : gP g tt O n σ (Itl K a) H1 QQ:=by
 refine⟨λi m ys H=>m=xs.length-i/\i<=xs.length/\Pv i ys H,⟨xs.length,by simp,HI _,o⟩,?_⟩
 rintro i m ys H ⟨rfl,I,p⟩;have q:=hl i ys H I p;have s:=Q i ys H p;refine⟨∅,?_⟩
 by_cases G:i<xs.length
 .refine .inr ⟨⟨xs,xs[i],q,by simp[G]⟩,λc H2=>Pv (i+1) c H2,λc H2 r=>⟨xs.length-(i+1),∅,rfl,G,r⟩,λx l y=>?_⟩
  obtain⟨e,y⟩:=y;subst e;exact T i x ys _ (y xs q) p
 .have e:i=xs.length:=by omega
  subst e;exact .inl ⟨⟨xs,q,G0 _⟩,hd ys H p⟩
theorem jS{lo:Int}{k:Nat}{g:TG}(Pv:Nat->List V->Hp->Prop)(hz:k<=LR)(o:Pv 0 [] H1)
  (T:∀ i ys H,i<k->Pv i ys H->g (.int (lo+i)) (He n none++σ) H λh H2=>h.drop n=σ/\tt h H2 λb H3=>if b=true then O h H3 (λy t=>Pv (i+1) (ys++[y]) t) else Pv (i+1) ys H3) (hd:∀ ys H,Pv k ys H->QQ ys H) (Q:∀ i ys H,Pv i ys H->ys.length<=i)
  : gP g tt O n σ (Itr lo k) H1 QQ:=by
 refine⟨λi m ys H=>m=k-i/\i<=k/\Pv i ys H,⟨k,by simp,HI _,o⟩,?_⟩
 rintro i m ys H ⟨rfl,I,p⟩;have s:=Q i ys H p;refine⟨∅,?_⟩
 by_cases G:i<k
 .refine .inr ⟨G,λc H2=>Pv (i+1) c H2,λc H2 r=>⟨k-(i+1),∅,rfl,G,r⟩,λx l y=>?_⟩
  obtain⟨e,y⟩:=y;subst e y;exact T i ys _ G p
 .have e:i=k:=by omega
  subst e;exact .inl ⟨G0 _,hd ys H p⟩
theorem lK{g:TG}(Pv:Nat->List V->Hp->Prop)(hz:xs.length<=LR)(o:Pv 0 [] H1)(hl:∀ i ys H,i<=xs.length->Pv i ys H->SqL K H a xs)
  (l:∀ i x ys H T,xs[i]?=some x->Pv i ys H->H T=none->g (.ref T) (He n none++σ) (upd H T (.tup [.int (i:Int),x])) λh H2=>h.drop n=σ/\tt h H2 λb H3=>if b=true then O h H3 (λy t=>Pv (i+1) (ys++[y]) t) else Pv (i+1) ys H3) (hd:∀ ys H,Pv xs.length ys H->QQ ys H) (Q:∀ i ys H,Pv i ys H->ys.length<=i)
  : gP g tt O n σ (Ite K a) H1 QQ:=by
 refine⟨λi m ys H=>m=xs.length-i/\i<=xs.length/\Pv i ys H,⟨xs.length,by simp,HI _,o⟩,?_⟩
 rintro i m ys H ⟨rfl,I,p⟩;have q:=hl i ys H I p;have s:=Q i ys H p;refine⟨∅,?_⟩
 by_cases G:i<xs.length
 .refine .inr ⟨⟨xs,xs[i],q,by simp[G]⟩,λc H2=>Pv (i+1) c H2,λc H2 r=>⟨xs.length-(i+1),∅,rfl,G,r⟩,λv d y=>?_⟩
  obtain⟨T,x,Y,rfl,rfl,y⟩:=y;exact l i x ys _ T (y xs q) p Y
 .have e:i=xs.length:=by omega
  subst e;exact .inl ⟨⟨xs,q,G0 _⟩,hd ys H p⟩
theorem Dz(h:X.K=K):IxR X (rIxL K):=h▸qI
theorem Gb(h:X.K=K):IxR X (rIxT K):=h▸EO
theorem jD{es:List Expr}{k:Nat}{t:TGs}(m:X.K=K)(C:X.calm=true)(h:PGs X es t)(T:(Ma es X.env).length=n:=by rfl)(c:(Ma es X.env).findIdx? (·.1)=none:=by rfl):PG X (.Tuple es k pos) (gTup K n t):=m▸oS C h T c
theorem pq(h:X.K=K):gR X (.type "list") (λxs H Q=>∃ p ys,xs=[.ref p]/\(SqL K H p ys∨SqT K H p ys)/\∀ l,H l=none->Q (.ref l) (upd H l (.lst ys))):=h▸dt
theorem vc{f:Str}(h:X.K=K)(n:PE X e O)(L:attributeBase e f X.env (eval e X.env)=eval e X.env):PE X (.Attribute e f pos) (tFld K O f):=h▸bo n L
inductive Fv(x:L2.V)(vs:List V)(H:L2.Hp)(Q:L2.VK):Prop
 |mk (l xs k y:_) (h0_:x=.ref l)(h1_:vs=[.int k,y])(h2_:H l=some (.lst xs))(h3_:0<=k)(h4_:k<=xs.length)(h5_:xs.length<LR)(h6_:Q .non (upd H l (.lst (xs.take k.toNat++y::xs.drop k.toNat))))
theorem nA:MtM X "list.insert" Fv:=by
 intro B s M H x m v c Q I d rv h;obtain⟨l,f,k,y,rfl,rfl,A,o,D,a,q⟩:=h
 cases d
 obtain⟨Y,O,rfl,w,N⟩:=rv.two;obtain⟨t,rfl⟩:=w;obtain⟨z,L,n,r,G,e⟩:=I.lstM A;have T:=oY;have b:¬ (!Builtin.List.listFitsIndex k)=true:=by
  rw[fitsIndex_both ∅ ∅]
  exact Hj
 refine call_meets F.slot_list_insert ⟨_,e,rfl⟩ F.entry_list_insert (F.args_list_insert_3 _ _ _) (AutoListH.list_insert_list_int_val_1 l L.toArray n k t O b (by rw[Hl];omega)) ⟨e,?_⟩
 refine⟨.non,_,I.lset (its':=L.take k.toNat++O::L.drop k.toNat) A e ?_ ((r.take _).append (.cons N (r.drop _))) ?_,rfl,q⟩
 .dsimp only;rw[Nq ∅,Hl,KL ∅]
  simp;exact IK (by rw[Jd];omega)
 .rw[GZ,Hk,HY,Jd];omega
theorem kG:∀{ns:List Int}{us:List Value},Vals (ns.map V.int) us->MA us ns
 |[],_,.nil=>.nil
 |n::ns,_,.cons r D=>by
  obtain⟨t,rfl⟩:=r;exact .cons n t (kG D)
theorem rJ(C:X.calm=true):gR X (.builtin "sum") (λxs H Q=>∃(p:Addr)(ns:List Int),xs=[.ref p]/\SqL X.K H p (ns.map V.int)/\Q (.int ns.sum) H):=by
 intro B s M H xs z Q I r h;obtain⟨p,ns,rfl,g,q⟩:=h;obtain⟨u,rfl,E⟩:=jW r
 cases E
 obtain⟨L,rv,m,f⟩:=I.list g;have l:=kG rv;obtain⟨c,e⟩:=l.allInts.items;have N:(numsOf L)=ns:=l.numsOf;have G:s.heap.IsList p (intItems c):=by rw[← e];exact m.isList
 refine sum_intListG (I.ok.hd C) G λT y t' D=>⟨.int ns.sum,H,I.kept (t':=y) D,⟨t',?_⟩,q⟩;have Y:numsOf (intItems c).toList=ns:=by rw[← e];exact N
 rw[nums_intItems]at Y;rw[preSum_eq,IK (by simp),← Y]
theorem mU:∀{ps:List Nat},(∀ p∈ps,p<1000)->PyData.weightAll ((ps.map λ(p:Nat)=>((p:Nat):Int)).map PyData.int)<=12*ps.length
 |[],_=>by simp[PyData.weightAll]
 |p::ps,h=>by
  have C:=mU (ps:=ps) λx O=>h x (G4 _ O);have g:=h p (by simp)
  have j:PyData.weight (.int (p:Int))<=11:=by
   rw[PyData.weight];split
   .exact HI _
   .rename_i z;have r:p≠0:=λe=>z (by rw[e];rfl)
    have e:((p:Int)).natAbs=p:=rfl;rw[e];have:=(Nat.log2_lt r).mpr (show p<2^10 by omega)
    omega
  rw[Hu,Hu,PyData.weightAll,Hk];omega
theorem Dx(h:∀ p∈ps,p<1000)(hl:ps.length<=1000):PyData.layable0 (.list ((ps.map λ(p:Nat)=>((p:Nat):Int)).map PyData.int))=true:=by
 have J:=PySem.W.shaped_ints (ps.map λ(p:Nat)=>((p:Nat):Int));have Y:=mU h;have A:PyData.weight (.list ((ps.map λ(p:Nat)=>((p:Nat):Int)).map PyData.int))<=2^20:=by
  rw[PyData.weight];ac_rfl
 unfold PyData.layable0;unfold SeqAt.shaped at J;rw[J,MB A];rfl
inductive rIndex(K:GX)(x:L2.V)(vs:List V)(H:L2.Hp)(Q:L2.VK):Prop
 |mk (l:Addr)(ps:List Nat)(k:Nat) (h0_:x=.ref l)(h1_:vs=[.int (k:Int)])(h2_:SqL K H l (ps.map λ(p:Nat)=>V.int (p:Int)))(h3_:(∀ p∈ps,p<1000))(h4_:ps.length<=1000)(h5_:k∈ps)(h6_:Q (.int ((ps.idxOf k:Nat):Int)) H)
theorem DB{k:Nat}:(ps.map λ(p:Nat)=>((p:Nat):Int)).idxOf (k:Int)=ps.idxOf k:=by
 induction ps with
 |nil=>rfl
 |cons p ps C =>
  rw[Hu,List.idxOf_cons,List.idxOf_cons,C];have e:(((p:Nat):Int) == (k:Int))=(p == k):=by
   by_cases h:p=k
   .subst h;simp
   .have Y:¬ (p:Int)=(k:Int):=λz=>h ∅
    rw[beq_eq_false_iff_ne.mpr h,beq_eq_false_iff_ne.mpr Y]
  rw[e]
theorem mG:MtM X "list.index" (rIndex X.K):=by
 intro B s M H x m v z Q I d rv h;obtain⟨l,a,k,rfl,rfl,g,T,G,D,q⟩:=h
 cases d
 obtain⟨u,rfl,E⟩:=rv.one;obtain⟨t,rfl⟩:=E;have e:(a.map λ(p:Nat)=>V.int (p:Int))=(a.map λ(p:Nat)=>((p:Nat):Int)).map V.int:=by rw[Jh];rfl
 rw[e]at g;obtain⟨L,r,y,f⟩:=I.list g;refine index_list_ints y.isList (kG r) (Dx T G) (HS.mpr ⟨k,D,rfl⟩) ?_;rw[DB];exact⟨.int _,H,I.tok _,⟨_,rfl⟩,q⟩
theorem uD:∀{us:List Value}{ns:List Int},MA us ns->Vals (ns.map V.int) us
 |_,_,.nil=>.nil
 |_,_,.cons _ t r=>.cons ⟨t,rfl⟩ (uD r)
inductive Aq(K:GX)(xs:List V)(H:L2.Hp)(Q:L2.VK):Prop
 |mk (p:Addr)(ns:List Int) (h0_:xs=[.ref p])(h1_:SqL K H p (ns.map V.int))(h2_:ns.length<64)(h3_:∀(l:Addr)(out:List Int),H l=none->out.Perm ns->out.Pairwise (·<=·)->Q (.ref l) (upd H l (.lst (out.map V.int))))
theorem wY:gR X (.builtin "sorted") (Aq X.K):=by
 intro B s M H D z Q I r h;obtain⟨p,b,rfl,g,i,q⟩:=h;obtain⟨u,rfl,E⟩:=jW r
 cases E
 obtain⟨L,rv,m,f⟩:=I.list g;have l:=kG rv;have G:=rv.length;rw[GY]at G;refine sorted_ints m.isList l ∅ λd j a c C=>?_
 obtain⟨e,n⟩:=sortedAll_at s.heap L d;refine⟨.ref (s.heap.objs.size+1),_,I.laid (t':=s.toks) (λ_ _=>sortedAll_old) (IV _) (show bC X.prog X.w _ _ _ (.lst (j.map V.int)) from⟨?_,d.toList,e,uD a,?_⟩),rfl,q _ j (I.hok.fresh (IV _)) c C⟩
 .rw[GY,c.length_eq];exact Hs (av ∅)
 .exact n
theorem uj(h:X.K=K):gR X (.builtin "sorted") (Aq K):=h▸wY
theorem wV{lo c:Int}(Pv:Nat->List V->Hp->Prop)(hz:n<=LR)(o:Pv 0 [] H1)
  (T:∀ i ys H,i<n->Pv i ys H->O (some (.int (lo+i*c))::σ) H λy H2=>Pv (i+1) (ys++[y]) H2) (hd:∀ ys H,ys.length=n->Pv n ys H->QQ ys H)
  : rW O σ (Itr3 lo c n) H1 QQ:=by
 refine⟨λi m ys H=>m=n-i/\i<=n/\ys.length=i/\Pv i ys H,⟨n,by simp,HI _,rfl,o⟩,?_⟩
 rintro i m ys H ⟨rfl,I,Q,p⟩;refine⟨∅,?_⟩
 by_cases G:i<n
 .refine .inr ⟨G,λy H2=>Pv (i+1) (ys++[y]) H2,λy H2 r=>⟨n-(i+1),∅,rfl,G,by rw[GZ,Q];rfl,r⟩,λx l y=>?_⟩
  obtain⟨e,y⟩:=y;subst e y;exact T i ys _ G p
 .have e:i=n:=by omega
  subst e;exact .inl ⟨G0 _,hd ys H Q p⟩
section
variable{X:Cx}{tg:Expr}
def iRngL(l:TA):TI:=λM H R=>l M H λO Y=>∃(lo m c:Int)(n:Nat),O=[.int lo,.int m,.int c]/\0<=lo/\lo<1000/\-1000<m/\m<2^61/\(0<c/\c<1000)/\Mh lo m c=(n:Int)/\R (Itr3 lo c n) Y
theorem CB{lo m c:Int}(o:0<=lo)(a:lo<1000)(J : -1000<m)(h2:m<2^61)(A:0<c/\c<1000):Builtin.Range.small lo m c=true:=by
 obtain⟨A,M⟩:=A;have T:0<=Mh lo m c/\Mh lo m c<=2^61:=by
  unfold Mh;rw[Np A];by_cases h:lo<m
  .rw[Np h];have E:0<=(m-lo-1)/c:=Int.ediv_nonneg ∅ ∅
   have C:(m-lo-1)/c<=(m-lo-1):=Int.ediv_le_self _ ∅
   omega
  .rw[Nq h];omega
 unfold Builtin.Range.small Builtin.Range.rangeFitsLong;simp only[gt_iff_lt,A,if_true];simp;omega
theorem Ay{a b c:Expr}{l:TA}{p:Pos}(Q:Gl X "range")(y:X.mg "range"=none)(G:PA X [a,b,c] l)(T:LY [a,b,c] X.env=(false,eval a X.env)::LY [b,c] X.env:=by rfl)(u:(backTo pos (LY [b,c] X.env)).any (·.1)=false:=by rfl):
  PI X tg (.Call (.Name "range" p) [a,b,c] [] pos) (iRngL l):=by
 intro B s M H R I h;refine Call_ (jd I Q y Ed (Mi (thn (G pos B s M H _ I h) λz j ⟨O,d,g,w,k⟩=>?_) T u));obtain⟨lo,m,c,n,e,v,aa,J,Y,A,i,q⟩:=k;subst e
 cases w with
 |cons r D =>
  cases D with
  |cons C D =>
   cases D with
   |cons ab D =>
    cases D
    obtain⟨t,rfl⟩:=r;obtain⟨t',rfl⟩:=C;obtain⟨x,rfl⟩:=ab;refine call_range_3 (by have:=A.1;omega) ?_ (Or.inl (PyProof.noPylong_small (by have:=A.1;have:=A.2;omega)))
    refine wpAny_pyIter_range (IsRange.new ..) (CB v aa J Y A) ?_;have N:Inv X B M d {j with heap:=j.heap.push {cls:=.type "range",data:=.fields #[.int lo t,.int m t',.int c x]},toks:=j.toks}:=g.kept λb o e=>Mf _ e
    refine⟨(j.heap.push {cls:=.type "range",data:=.fields #[.int lo t,.int m t',.int c x]}).objs.size,[(j.heap.push {cls:=.type "range",data:=.fields #[.int lo t,.int m t',.int c x]}).objs.size],_,_,d,rfl,
     N.kept (t':=j.toks) λb o e=>Mf _ e,uE _ lo c n,?_,λb L=>?_,q⟩
    .have f:lo+((0:Nat):Int)*c=lo:=by simp
     have E:((n:Nat):Int)-((0:Nat):Int)=Mh lo m c:=by rw[i];simp
     show IsRangeIter _ _ (lo+((0:Nat):Int)*c) ((n:Int)-((0:Nat):Int)) c;rw[f,E];exact Mg _ rfl
    .have e:b=(j.heap.push {cls:=.type "range",data:=.fields #[.int lo t,.int m t',.int c x]}).objs.size:=by simpa using L
     subst e;exact N.fpOk (G0 _) (N.hok.fresh (G0 _))
end
theorem pz:LV "min"=some (.builtin "min"):=by decide
theorem Cc:LV "max"=some (.builtin "max"):=by decide
theorem xS:∀{ns:List Int}{us:List Value},Vals (ns.map V.int) us->MA us ns
 |[],_,.nil=>.nil
 |n::ns,_,.cons r D=>by
  obtain⟨t,rfl⟩:=r;exact .cons n t (xS D)
theorem yesT{A B:Hp->Prop}(h:A H):tYes σ H λb H3=>if b=true then A H3 else B H3 :=
 show(if true=true then A H else B H) from iteT (B:=B H) h
theorem bt_zip:LV "zip"=some (.type "zip"):=by decide
def Itz(K:GX)(a b:Addr):It :=
 ⟨λi H=>∃ D k x y,SqL K H a D/\SqL K H b k/\D[i]?=some x/\k[i]?=some y,
  λi H v l=>∃ T x y,H T=none/\v=.ref T/\l=upd H T (.tup [x,y])/\(∀ D,SqL K H a D->D[i]?=some x)/\∀ k,SqL K H b k->k[i]?=some y,
  λi H=>∃ D k,SqL K H a D/\SqL K H b k/\(D.length<=i∨k.length<=i)⟩
theorem Cv{es:List Expr}{k:Nat}(a b z TI TO i1 i2:Addr)(D:ZipApart z TI TO i1 i2 a b):Turn P w K (.Tuple es k pos) (Itz K a b) [z,TI,TO,i1,i2] z
  (λi h=>IsZip h z TI TO .none/\IsPair h TI (.ref i1) (.ref i2)/\(∃ u v,IsPair h TO u v)/\h.IsListIter i1 a i/\h.IsListIter i2 b i) where
 mem:=by simp
 obj:=λi h st c C=>by
  obtain⟨kz,kI,⟨u,v,kO⟩,⟨o1,j,c1,d1⟩,⟨o2,q2,c2,d2⟩⟩:=st;simp only[G6,Jq,or_false]at C;rcases C with rfl|rfl|rfl|rfl|rfl
  .exact⟨_,kz,λv z=>by have z':Data.fields _=Data.cell v:=z;cases z'⟩
  .exact⟨_,kI,λv z=>by have z':Data.seq _ _=Data.cell v:=z;cases z'⟩
  .exact⟨_,kO,λv z=>by have z':Data.seq _ _=Data.cell v:=z;cases z'⟩
  .exact⟨o1,j,λv z=>by rw[d1]at z;cases z⟩
  .exact⟨o2,q2,λv z=>by rw[d2]at z;cases z⟩
 keep:=λi h h' st n=>by
  obtain⟨kz,kI,⟨u,v,kO⟩,k1,k2⟩:=st;exact⟨n _ (by simp) _ kz,n _ (by simp) _ kI,⟨u,v,n _ (by simp) _ kO⟩,k1.at λo q=>n i1 (by simp) o q,k2.at λo q=>n i2 (by simp) o q⟩
 item:=by
  intro X hP hw hK C i B s M H E I m st J;subst hP hw hK;obtain⟨f,t,x,y,g,N,O,Q⟩:=J;obtain⟨L,rv,p,hz⟩:=I.list g;obtain⟨aa,am,p2,an⟩:=I.list N;obtain⟨u,hu,ru⟩:=rv.get O;obtain⟨u2,aL,aI⟩:=am.get Q;obtain⟨kz,kI,⟨o1,o2,kO⟩,k1,k2⟩:=st;refine wpAny_pyNext_zip_item D kz kI kO k1 k2 p.isList p2.isList (x:=u) (y:=u2) (by simpa using hu) (by simpa using aL) λh' a1 a2 a3 a4 a5 a6 d=>?_
  refine⟨_,rfl,?_⟩;refine wpAny_letOwnedTupleGo_zip a1 λY A ae=>?_;have ac:LX z h' Y:=ae;have lz:z<s.heap.objs.size:=LS kz;have lI:TI<s.heap.objs.size:=LS kI;have lO:TO<s.heap.objs.size:=LS kO;have l1:i1<s.heap.objs.size:=by obtain⟨_,q,_⟩:=k1;exact LS q
  have l2:i2<s.heap.objs.size:=by obtain⟨_,q,_⟩:=k2;exact LS q
  have ab:H s.heap.objs.size=none:=I.hok.fresh (G0 _);have I0:Inv X B M (upd H s.heap.objs.size (.tup [x,y])) {s with heap:=s.heap.push {cls:=.type "tuple",data:=.seq #[u,u2]},toks:=s.toks} :=
   I.laid (t':=s.toks) (λb u e=>Mf _ e) (G0 _) ⟨by show 2<=LR;decide,[u,u2],.cons ru (.cons aI .nil),⟨_,Mg _ rfl,rfl,_,rfl⟩⟩
  have ap:∀ c∈[z,TI,TO,i1,i2],c<s.heap.objs.size:=λc C=>by
   simp only[G6,Jq,or_false]at C;rcases C with rfl|rfl|rfl|rfl|rfl<;>assumption
  have T:∀ c∈[z,TI,TO,i1,i2],upd H s.heap.objs.size (.tup [x,y]) c=none:=λc C=>by
   rw[aq (Hr (ap c C))];exact(m c C).1
  have I2:Inv X B M (upd H s.heap.objs.size (.tup [x,y])) {s with heap:=Y,toks:=s.toks}:=Inv.turnedL (s:={s with heap:=s.heap.push {cls:=.type "tuple",data:=.seq #[u,u2]},toks:=s.toks}) (h':=Y) I0 (t':=s.toks) (fp:=[z,TI,TO,i1,i2]) (λc o C q=>by
   have n1:c≠z:=λe=>C (by simp[e])
   have n3:c≠TO:=λe=>C (by simp[e])
   have n4:c≠i1:=λe=>C (by simp[e])
   have n5:c≠i2:=λe=>C (by simp[e])
   refine(ac.2 c n1).trans ?_;rcases Heap.get?_push_cases q with⟨z1,r⟩|q
   .rw[z1,r];exact a5
   .exact d c o n1 n3 n4 n5 q) λc C=>⟨T c C,(m c C).2⟩
  refine⟨.ref s.heap.objs.size,_,I2,rfl,⟨s.heap.objs.size,x,y,ab,rfl,rfl,λl h=>by rw[I.list_inj h g];exact O,λl h=>by rw[I.list_inj h N];exact Q⟩,?_,T⟩
  refine⟨A,(ac.2 TI D.TIz).trans (d _ _ D.TIz D.TITO D.TIi1 D.TIi2 kI),⟨_,_,(ac.2 TO D.TOz).trans a2⟩,a3.at λo q=>(ac.2 i1 D.i1z).trans q,a4.at λo q=>(ac.2 i2 D.i2z).trans q⟩
 done:=by
  intro X hP hw hK C i B s M H E I m st J;subst hP hw hK;obtain⟨f,t,g,N,O⟩:=J;obtain⟨L,rv,p,hz⟩:=I.list g;obtain⟨aa,am,p2,an⟩:=I.list N;obtain⟨kz,kI,⟨o1,o2,kO⟩,k1,k2⟩:=st;have G:=rv.length;have al:=am.length;refine wpAny_pyNext_zip_end (I.ok.hd C) D kz kI kO k1 k2 p.isList p2.isList ?_ λh' eb=>⟨rfl,Inv.turnedL I (t':=s.toks) (λc o C e=>eb c o (λe=>C (by simp[e])) (λe=>C (by simp[e])) (λe=>C (by simp[e])) (λe=>C (by simp[e])) e) m⟩
  rcases O with O|O
  .exact .inl (by simp;omega)
  .exact .inr (by simp;omega)
 self:=λ_ _ _ _ _ st h=>wpAny_pyIter_zip st.1 h
theorem cU(x y:Nat)(h:¬ x=y):@Ne Addr x y:=h
theorem zC(n a b:Nat)(G:a<n)(L:b<n):ZipApart (n+4) (n+2) (n+3) n (n+1) a b :=
 ⟨cU _ _ ∅,cU _ _ ∅,cU _ _ ∅,cU _ _ ∅,cU _ _ ∅,cU _ _ ∅,cU _ _ ∅,cU _ _ ∅,cU _ _ ∅,
  cU _ _ ∅,cU _ _ ∅,cU _ _ ∅,cU _ _ ∅,cU _ _ ∅,cU _ _ ∅,cU _ _ ∅,cU _ _ ∅,cU _ _ ∅⟩
def iZip(K:GX)(l:TA):TI:=λM H R=>l M H λm Y=>∃ a b,m=[.ref a,.ref b]/\(∃ D,SqL K Y a D)/\(∃ k,SqL K Y b k)/\R (Itz K a b) Y
theorem Ax{Q O:Expr}{l:TA}{es:List Expr}{k:Nat}{tp p:Pos}(J:Gl X "zip")(y:X.mg "zip"=none)(G:PA X [Q,O] l)(T:LY [Q,O] X.env=(false,eval Q X.env)::LY [O] X.env:=by rfl)(ab:(backTo pos (LY [O] X.env)).any (·.1)=false:=by rfl):
  PI X (.Tuple es k tp) (.Call (.Name "zip" p) [Q,O] [] pos) (iZip X.K l):=by
 intro B s M H R I h;refine Call_ (jd I J y bt_zip (Mi (thn (G pos B s M H _ I h) λz j ⟨m,Y,i,w,E⟩=>?_) T ab));obtain⟨a,b,e,⟨f,g⟩,⟨v,N⟩,q⟩:=E;subst e;obtain⟨u,u2,rfl,x,am⟩:=zI w
 cases x
 cases am
 obtain⟨L,rv,p,A⟩:=i.list g;obtain⟨aa,ae,n,al⟩:=i.list N;have la:a<j.heap.objs.size:=by obtain⟨_,_,q,_⟩:=p;exact LS q
 have lb:b<j.heap.objs.size:=by obtain⟨_,_,q,_⟩:=n;exact LS q
 refine call_zip_2 p.isList n.isList λr kz kI kO o d t D=>?_;refine wpAny_pyIter_zip kz ?_
 refine⟨j.heap.objs.size+4,[j.heap.objs.size+4,j.heap.objs.size+2,j.heap.objs.size+3,j.heap.objs.size,j.heap.objs.size+1],_,_,Y,rfl,i.kept (t':=j.toks) D,
  Cv a b (j.heap.objs.size+4) (j.heap.objs.size+2) (j.heap.objs.size+3) j.heap.objs.size (j.heap.objs.size+1) (zC _ a b la lb),⟨kz,kI,⟨_,_,kO⟩,o,d⟩,λc C=>?_,q⟩
 have ac:j.heap.objs.size<=c:=by
  simp only[G6,Jq,or_false]at C;rcases C with rfl|rfl|rfl|rfl|rfl
  .exact JU _ _
  .exact JU _ _
  .exact JU _ _
  .exact G0 _
  .exact JU _ _
 exact i.fpOk ac (i.hok.fresh ac)
theorem ug{b:Addr}{g:TG}(Pv:Nat->List V->Hp->Prop)(hz:xs.length<=LR)(Y:zs.length=xs.length)(o:Pv 0 [] H1)(hl:∀ i ys H,i<=xs.length->Pv i ys H->SqL K H a xs/\SqL K H b zs)
  (l:∀ i x z ys H T,xs[i]?=some x->zs[i]?=some z->Pv i ys H->H T=none->g (.ref T) (He n none++σ) (upd H T (.tup [x,z])) λh H2=>h.drop n=σ/\tt h H2 λb H3=>if b=true then O h H3 (λy t=>Pv (i+1) (ys++[y]) t) else Pv (i+1) ys H3) (hd:∀ ys H,Pv xs.length ys H->QQ ys H) (Q:∀ i ys H,Pv i ys H->ys.length<=i)
  : gP g tt O n σ (Itz K a b) H1 QQ:=by
 refine⟨λi m ys H=>m=xs.length-i/\i<=xs.length/\Pv i ys H,⟨xs.length,by simp,HI _,o⟩,?_⟩
 rintro i m ys H ⟨rfl,I,p⟩;have q:=hl i ys H I p;have s:=Q i ys H p;refine⟨∅,?_⟩
 by_cases G:i<xs.length
 .have c:i<zs.length:=by omega
  refine .inr ⟨⟨xs,zs,xs[i],zs[i],q.1,q.2,by simp[G],by simp[c]⟩,λzs H2=>Pv (i+1) zs H2,λzs H2 r=>⟨xs.length-(i+1),∅,rfl,G,r⟩,λv d y=>?_⟩
  obtain⟨T,x,z,j,rfl,rfl,u,A⟩:=y;exact l i x z ys _ T (u xs q.1) (A zs q.2) p j
 .have e:i=xs.length:=by omega
  subst e;exact .inl ⟨⟨xs,zs,q.1,q.2,.inl (G0 _)⟩,hd ys H p⟩
inductive rMinL(K:GX)(xs:List V)(H:L2.Hp)(Q:L2.VK):Prop
 |mk (p:Addr)(ns:List Int) (h0_:xs=[.ref p])(h1_:SqL K H p (ns.map V.int))(h2_:0<ns.length)(h3_:∀ m:Int,m∈ns->(∀ x∈ns,m<=x)->Q (.int m) H)
theorem B7(C:X.calm=true):gR X (.builtin "min") (rMinL X.K):=by
 intro B s M H f z Q I r h;obtain⟨p,b,rfl,g,d,q⟩:=h;obtain⟨u,rfl,E⟩:=jW r
 cases E
 obtain⟨L,rv,i,A⟩:=I.list g;have l:=xS rv;obtain⟨c,e⟩:=l.allInts.items;have G:s.heap.IsList p (intItems c):=by rw[← e];exact i.isList
 have m:b=c.toList.map (·.1):=by
  rw[← nums_intItems,← e];exact(show numsOf L.toArray.toList=b from l.numsOf).symm
 subst m;rw[GY,HB]at d;refine min_intList (I.ok.hd C) G d λv T y O D=>?_;obtain⟨t,rfl⟩:=intItems_at O;obtain⟨J,Y⟩:=argBest_lt (numAt c) (c.size-1);refine⟨.int _,H,I.kept (t':=y) D,⟨t,rfl⟩,q _ ?_ λa o=>?_⟩
 .rw[numAt_eq];exact PySem.getD_mem (by rw[GY,HB];omega)
 .obtain⟨j,N,rfl⟩:=PySem.mem_getD o;rw[GY,HB]at N;rw[← numAt_eq];exact Y j ∅
def LsAt{α:Type}(R:Hp->V->α->Prop)(H:Hp)(ys:List V)(xs:List α):Prop:=ys.length=xs.length/\∀(i:Nat)(x:α),xs[i]?=some x->∃ y,ys[i]?=some y/\R H y x
theorem LsAt.nil{R:Hp->V->α->Prop}:LsAt R H [] []:=⟨rfl,λi x e=>by simp at e⟩
theorem LsAt.imp{R o:Hp->V->α->Prop}{xs:List α}(h:LsAt R H ys xs)(m:∀ y x,R H y x->o H' y x):LsAt o H' ys xs:=⟨h.1,λi x e=>by
 obtain⟨y,a,b⟩:=h.2 i x e
 exact⟨y,a,m y x b⟩⟩
theorem LsAt.snoc{R:Hp->V->α->Prop}{xs:List α}{x:α}(h:LsAt R H ys xs)(r:R H y x):LsAt R H (ys++[y]) (xs++[x]):=by
 refine⟨by rw[GZ,GZ,h.1];rfl,λj k e=>?_⟩
 by_cases N:j<xs.length
 .rw[G5 N]at e;obtain⟨p,a,c⟩:=h.2 j k e;exact⟨p,by rw[G5 (by rw[h.1];exact N)];exact a,c⟩
 .rw[G3 ∅]at e
  have b:j=xs.length:=by
   have:=(GV.mp e).1;rw[Hd]at this;omega
  subst b;rw[Hw]at e
  cases e
  exact⟨y,by rw[← h.1,G3 (G0 _),Hw];rfl,r⟩
theorem LsAt.get{R:Hp->V->α->Prop}{xs:List α}(h:LsAt R H ys xs)(e:ys[i]?=some y):∃ x,xs[i]?=some x/\R H y x:=by
 have I:i<xs.length:=by rw[← h.1];exact(GV.mp e).1
 obtain⟨z,a,b⟩:=h.2 i _ (GU I);rw[e]at a
 cases a
 exact⟨_,GU I,b⟩
theorem op_neG(hu:X.A.units+64<cLine):OpR X (L0 .NotEq) (λx y H Q=>∃ d1 d2,RdD X.K H x d1/\RdD X.K H y d2/\SeqAt.shaped d1=true/\SeqAt.shaped d2=true/\Q (.bl (!PyData.eqv d1 d2)) H):=by
 intro B s M H x y v u Q I d c h;obtain⟨d1,d2,w,o,J,Y,q⟩:=h;obtain⟨as,E⟩:=w.reads I v d;obtain⟨bs,C⟩:=o.reads I u c;exact ne_dataH E C J Y hu ⟨.bl _,H,I,rfl,q⟩
theorem nN:∀(a b:List Int),PyData.eqvAll (a.map PyData.int) (b.map PyData.int)=decide (a=b)
 |[],[]=>by simp[PyData.eqvAll]
 |[],y::b=>by simp[PyData.eqvAll]
 |x::a,[]=>by simp[PyData.eqvAll]
 |x::a,y::b=>by
  rw[Hu,Hu];simp only[PyData.eqvAll,PyData.eqv,nN a b];by_cases h:x=y
  .by_cases Y:a=b
   .simp[h,Y]
   .simp[h,Y]
  .simp[h]
theorem DS(a b:List Int):PyData.eqv (.list (a.map PyData.int)) (.list (b.map PyData.int))=decide (a=b):=by
 rw[← nN];simp only[PyData.eqv]
section
variable{X:Cx}{tg:Expr}
end
section
variable{prog:Program}{w:World}{A:Around}{E:Value->Shared->Prop}{s:Shared}{d:Addr}
def Ent(h:Heap)(d:Addr)(es:Array DictEntry)(ep:Nat):Prop:=∃ o,h.get? d=some o/\o.ExactDict/\o.data=.dict es ep
theorem Ent.ty{es:Array DictEntry}(x:Ent s.heap d es ep):s.TypeIs (.ref d) "dict":=by
 obtain⟨o,J,Y,_⟩:=x;exact⟨o,J,Y.1⟩
theorem DT(hd:(d == sysModules)=false):MeetsIn prog w (Builtin.«dict.items» ⟨[.ref d],[]⟩) (λ_ R s=>(∃ es ep,Ent s.heap d es ep)/\R (.ok (.ret (.ref s.heap.objs.size))) {s with heap:=s.heap.push {cls:=.type "dict_items",data:=.fields #[.ref d]}}) :=
 .of_wp λA R s ⟨⟨es,ep,y⟩,h⟩=>by
  unfold Builtin.«dict.items» Builtin.Dict.noArgs;refine Mb (Mb (wpAny_notOrdered_dict y.ty ?_));show wpAny _ _ (pure d) _ _ s;refine Me ?_;show wpAny _ _ (Builtin.Dict.showsAll d >>= _) _ _ s;unfold Builtin.Dict.showsAll;rw[Nq (by simp[hd])]
  exact Mb (Me (Mb (MJ (Me ⟨_,rfl,h⟩))))
theorem DU{v:Addr}{es:Array DictEntry}(O:s.heap.IsItemsView v d)(y:Ent s.heap d es ep)(p:Q (.ref s.heap.objs.size) {s with heap:=s.heap.push {cls:=.type "dict_itemiterator",data:=.fields #[.none,.bool false,.ref d,.int 0 0,.int es.size 0,.int ep 0,.none,.none]}}):
  wpAny (model prog w) A (pyIter (.ref v)) Q E s:=by
 obtain⟨k,J,Y,j⟩:=id O;obtain⟨o,f,B,u⟩:=y;refine wpAny_pyIter_slot O.typeIs F.slot_dict_items_iter (MN F.slot_dict_items_iter O.typeIs F.entry_dict_items_iter ?_ (F.args_dict_items_iter_1 _));show wpAny _ _ (Builtin.«dict_items.__iter__» _) _ _ s;unfold Builtin.«dict_items.__iter__» Builtin.Dict_items.dictOf Builtin.Dict_items.newIterator;refine Mb (Me (Mb (Mb (wpAny_field J j (x:=.ref d) rfl (Me (Mb (Mb (wpAny_dictEntries f u (Mb (wpAny_dictEpoch f u ?_))))))))));simp only[show MO "dict_itemiterator"=true by decide,if_true]
 refine MJ (Me ⟨_,rfl,"dict_itemiterator",_,⟨_,Mg _ rfl,rfl⟩,F.slot_dict_itemiterator_next.lookup,?_⟩)
  (by simp only[sizeOk,Builtin.Dict_items.ownedTupleFields,Hl,GZ,Hk,Ja,sizeLine_eq];omega)
 simpa[rawInt,Builtin.Dict_items.ownedTupleFields] using p
theorem BG{es:Array DictEntry}{ok ov:Value}{Q:Option Value->Shared->Prop}(g:IsItemIter s.heap it d i es.size ep ok ov)(y:Ent s.heap d es ep)(J:A.handled=none)(hI:∀ e,es[i]?=some e->∀ h',IsItemIterOut h' it d (i+1) es.size ep e.key e.val s.heap.objs.size->h'.get? s.heap.objs.size=some {cls:=.type "tuple",data:=.seq #[e.key,e.val]}->(∀ b o,b≠it->s.heap.get? b=some o->h'.get? b=some o)->Q (some (.ref s.heap.objs.size)) {s with heap:=h'})(t:es[i]?=none->∀ h',Heap.ExtBut it s.heap h'->Q none {s with heap:=h'}):wpAny (model prog w) A (pyNext (.ref it)) Q E s:=by
 obtain⟨o,f,B,u⟩:=y;have Y:s.TypeIs (.ref it) "dict_itemiterator":=⟨_,g,rfl⟩;have own:MO "dict_itemiterator"=true:=by decide
 unfold pyNext;refine Mb (wpAny_attempt (MP (name:=Str.ofString "__next__") Y F.slot_dict_itemiterator_next (MN F.slot_dict_itemiterator_next Y F.entry_dict_itemiterator_next ?_ (F.args_dict_itemiterator_next_1 _))));refine Mb (Me (Mb (Mb (Mb (MQ Y (Me ?_))))));refine Mb (wpAny_fieldsOf g rfl ?_);simp -iota only[own,if_true];show wpAny _ _ (if(Value.ref d == Value.none)=true then _ else _) _ _ _;rw[Nq (show ¬ ((Value.ref d == Value.none)=true) from Hj)];refine Mb (Me (Mb (wpAny_dictEntries f u ?_)));rw[Nq (by simp)]
 refine Mb (Me (Mb (wpAny_dictEpoch f u ?_)));rw[Nq (by simp)]
 refine Me ?_;have n0:¬ ((i:Int)<0):=by omega
 simp only[n0,if_false,G8]
 cases n:es[i]? with
 |none =>
  refine Mb (Mb (MQ Y (Me ?_)));show wpAny _ _ (setField (.ref it) 2 .none >>= _) _ _ s;refine Mb (wpAny_setField g rfl (by simp) ?_)
  show wpAny _ _ (newExc (.type "StopIteration") [] >>= _) _ _ _;refine Mb ?_;simp only[newExc,newTuple];refine Mb (MJ (Mb (m:=firstArgMember _ _) (wpAny_of_eq (a:=Value.none) (by first|rfl|(simp only[firstArgMember];rfl)) (MJ ?_ (by size_fits)))) (by size_fits))
  simp -iota only[raiseNew];refine Mb (wpAny_handled ?_);rw[show A.in1.handled=none from J];refine Mb (Me (wpAny_throw ?_));refine Mb (MF (T:="StopIteration") (b:=true) ⟨_,Mg _ rfl,rfl⟩ isSubtype_stop (Me ?_));exact t n _ (((MR ..).extBut.push _).push _)
 |some e =>
  refine Mb (Mb (MQ Y (Me ?_)));refine Mb (MT Y ?_);show wpAny _ _ (setField (.ref it) 3 (rawInt ((i:Int)+1)) >>= _) _ _ s;refine Mb (MU g (by simp) λN k M=>?_)
  have c1:((i+1:Nat):Int)=(i:Int)+1:=by omega
  have aa:IsItemIter N it d (i+1) es.size ep ok ov:=by
   unfold IsItemIter;rw[c1];simpa[rawInt] using k
  have lt:it<s.heap.objs.size:=LS g;have H:N.objs.size=s.heap.objs.size:=M.1;have ab:Shared.TypeIs {s with heap:=N} (.ref it) "dict_itemiterator":=⟨_,aa,rfl⟩;refine Mb (Mc (Mb (MT ab (Mb (MT ab ?_)))));show wpAny _ _ (MV (.ref it) 6 e.key e.val) _ _ {s with heap:=N};unfold MV Builtin.Dict_items.ownedTupleIsFree;refine Mb (wpAny_newTuple ?_);have C:IsItemIter (N.push {cls:=.type "tuple",data:=.seq #[e.key,e.val]}) it d (i+1) es.size ep ok ov:=Mf _ aa;have r:(N.push {cls:=.type "tuple",data:=.seq #[e.key,e.val]}).get? s.heap.objs.size=some {cls:=.type "tuple",data:=.seq #[e.key,e.val]}:=by rw[← H];exact Mg _ rfl
  have G:∀ b o,b≠it->s.heap.get? b=some o->(N.push {cls:=.type "tuple",data:=.seq #[e.key,e.val]}).get? b=some o:=λb o L q=>Mf _ (M.extBut b o L q);rw[H];generalize N.push {cls:=.type "tuple",data:=.seq #[e.key,e.val]}=v at C r G;show wpAny _ _ (_ >>= _) _ _ {s with heap:=v};refine Mb (Mb (wpAny_field C rfl (x:=.none) rfl (Me ?_)));simp only[if_true];refine Mb (wpAny_field C rfl (x:=ok) rfl (Mb (wpAny_field C rfl (x:=ov) rfl ?_)));refine Mb (MU C (by simp) λj O z=>?_)
  replace O:IsItemIter j it d (i+1) es.size ep e.key ov:=O;refine Mb (MU O (by simp) λc D k4=>?_)
  replace D:IsItemIter c it d (i+1) es.size ep e.key e.val:=D;refine Mb (MU D (by simp) λg5 l I=>?_)
  replace l:IsItemIterOut g5 it d (i+1) es.size ep e.key e.val s.heap.objs.size:=l;refine Mb (MU l (by simp) λg6 p h=>?_)
  replace p:IsItemIterOut g6 it d (i+1) es.size ep e.key e.val s.heap.objs.size:=p;have up:∀ b o,b≠it->v.get? b=some o->g6.get? b=some o:=λb o L q=>h.extBut b o L (I.extBut b o L (k4.extBut b o L (z.extBut b o L q)));exact Mb (MX (Me (Me ⟨_,rfl,Me (hI e n g6 p (up _ _ (IA lt) r) λb o L q=>up b o L (G b o L q))⟩)))
end
def xY(v d:Addr):HO:=.ext λh=>h.IsItemsView v d
def KvA(H:Hp)(u:HO)(i:Nat)(x y:V):Prop:=(∃ N k,u=.dK N/\N[i]?=some (k,y)/\x=kV k)∨∃ N k t,u=.dT N/\N[i]?=some (k,y)/\x=.ref t/\H t=some (.tup (k.map kV))
def dlen:HO->Nat
 |.dK N=>N.length
 |.dT N=>N.length
 |_=>0
def yM:HO->Prop
 |.dK _=>True
 |.dT _=>True
 |_=>False
theorem mF{α u:Type}{F:α->u->Prop}:∀{c:List α}{d:List u},Paired F c d->∀{i:Nat}{b:u},d[i]?=some b->∃ a,c[i]?=some a/\F a b
 |_,_,.nil,i,b,e=>by simp at e
 |_,_,.cons r t,0,b,e=>⟨_,rfl,by cases e;exact r⟩
 |_,_,.cons r t,i+1,b,e=>mF t (i:=i) e
theorem BH{d:Addr}{u:HO}(hd:yM u)(x:bC P w H h d u):(d == sysModules)=false/\∃ es ep,Ent h d es ep/\es.size=dlen u/\∀ i e,es[i]?=some e->∃ x y,KvA H u i x y/\RelV x e.key/\RelV y e.val:=by
 cases u with
 |dK N =>
  obtain⟨a,lo,b,g,o,es,ep,J,Y,A,M,s,L⟩:=x;have l:N.length=b.length:=Paired.length g;have sz:es.size=b.length:=by rw[← s.length,HB]
  refine⟨lo,es,ep,⟨o,J,Y,A⟩,by rw[sz];exact l.symm,λi e n=>?_⟩
  have I:i<b.length:=by
   have:i<es.size:=(Kg.mp n).1;omega
  obtain⟨⟨k,v⟩,p⟩:∃ q,b[i]?=some q:=⟨_,GU I⟩;obtain⟨D,aa⟩:=s.get? (e:=e) (by rw[Ib];exact n) p
  obtain⟨⟨B,y⟩,Q,G,c⟩:=mF g p;have C:B=k:=G;subst C;refine⟨kV B,y,.inl ⟨N,B,rfl,Q,rfl⟩,?_,by rw[aa];exact c⟩
  rcases aZ (show oA B e.key=true from D) with⟨j,t,m,E⟩|⟨z,t,m,E⟩
  .rw[m,E];exact⟨t,rfl⟩
  .rw[m,E];exact⟨t,rfl⟩
 |dT N =>
  obtain⟨a,lo,f,r,o,es,ep,J,Y,A,M,s⟩:=x;have sz:es.size=f.length:=by rw[← HB,M,GY]
  refine⟨lo,es,ep,⟨o,J,Y,A⟩,by rw[sz];exact r.length.symm,λi e n=>?_⟩
  have m:es.toList[i]?=some e:=by rw[Ib];exact n
  rw[M,G7]at m
  cases O:f[i]? with
  |none=>rw[O]at m;cases m
  |some q =>
   rw[O]at m
   cases m
   obtain⟨⟨k,y⟩,Q,G,T,c⟩:=mF r O;exact⟨.ref q.2.1,y,.inr ⟨N,k,q.2.1,rfl,Q,rfl,T⟩,rfl,c⟩
 |_=>exact hd.elim
section
variable{X:Cx}{pins:List (Addr×Obj)}{σ:St}{H:Hp}{s:Shared}{d:Addr}{u:HO}{o:Obj}
theorem yM.notT(h:yM u):(∀ xs,u≠.tup xs)/\(∀ o v,u≠.frz o v)/\(∀ ps,u≠.tbl ps)/\∀ a,u≠.own a:=by
 cases u<;>first|exact h.elim|exact⟨λ_=>by simp,λ_ _=>by simp,λ_=>by simp,λ_=>by simp⟩
theorem HOk.frz{P:Program}{w:World}{h:Heap}(x:HOk P w H h)(hd:H d=some u)(hu:yM u)(e:h.get? d=some o):HOk P w (upd H d (.frz o u)) h:=λb v q=>by
 obtain⟨i,a,T,k⟩:=hu.notT;have g:∀ c y,H c=some (.own y)->upd H d (.frz o u) c=some (.own y):=λc y r=>by rw[aq (yE r hd λz=>k y z.symm)];exact r
 have f:∀ c D,H c=some (.tup D)->upd H d (.frz o u) c=some (.tup D):=λc D r=>by rw[aq (yE r hd λz=>i D z.symm)];exact r
 by_cases L:b=d
 .subst L;rw[ag]at q
  cases q
  exact⟨e,(x b u hd).stay (λ_ _ _ r=>r) (λc r=>g c b r) f⟩
 .rw[aq L]at q;exact(x b v q).stay (λ_ _ _ r=>r) (λc r=>g c b r) f
theorem Inv.freeze(I:Inv X pins σ H s)(hd:H d=some u)(hu:yM u)(e:s.heap.get? d=some o):Inv X pins σ (upd H d (.frz o u)) s:=by
 obtain⟨i,a,T,k⟩:=hu.notT;exact I.step (H':=upd H d (.frz o u)) (h':=s.heap) (g':=s.gens) (d':=s.drawn) (t':=s.toks) (ch:=[]) (λ_ z=>nomatch z) (λb _ _ _ _ q _=>q) (λb g _ _ _ q _=>⟨g.slots,q⟩)
  (λb _ _ _ n=>by rw[aq (aA hd n).symm];exact n) (λb g _ q=>⟨g,q⟩) (λb D r=>by rw[aq (yE r hd λz=>i D z.symm)];exact r)
  (λb g v r=>by rw[aq (yE r hd λz=>a g v z.symm)];exact r) (λb G r=>⟨#[],by rw[aq (yE r hd λz=>T G z.symm),r];simp⟩) (λ_ q=>q) (I.hok.frz hd hu e) I.bare
theorem Dq:MtR X "dict.items" (λx xs H Q=>∃ d u,x=.ref d/\xs=[]/\H d=some u/\yM u/\∀ v,H v=none->Q (.ref v) (upd H v (xY v d))):=by
 intro pins s σ H x xs v z Q I t rv h;obtain⟨d,u,rfl,rfl,hd,g,q⟩:=h
 cases t
 have f:=rv.zero;subst f;obtain⟨lo,B,M,y,_⟩:=BH g (I.hok d _ hd);refine call_meetsIn LH y.ty PySem.F.entry_dict_items (PySem.F.args_dict_items_1 _) (DT lo) ⟨⟨B,M,y⟩,?_⟩;have O:(s.heap.push {cls:=.type "dict_items",data:=.fields #[.ref d]}).IsItemsView s.heap.objs.size d:=⟨_,Mg _ rfl,rfl,rfl⟩;refine⟨.ref s.heap.objs.size,_,I.laid (t':=s.toks) (λb o e=>Mf _ e) (G0 _) ?_,rfl,q _ (I.hok.fresh (G0 _))⟩;exact⟨O,⟨_,Mg _ rfl⟩,λJ Y x k=>let ⟨o,D,r⟩:=x;⟨o,k _ D,r⟩⟩
end
section
open PySem.W
def KOk{α:Type}(n:Nat):KasT α->(α->Prop)->Prop
 |.ret a,P=>P a
 |.ask i j k,P=>i<n/\j<n/\∀ b,KOk n (k b) P
theorem KOk.bind{α u:Type}{n:Nat}{f:α->KasT u}{P:u->Prop}:∀{t:KasT α},KOk n t (λa=>KOk n (f a) P)->KOk n (t.bind f) P
 |.ret _,h=>h
 |.ask _ _ _,h=>⟨h.1,h.2.1,λb=>KOk.bind (h.2.2 b)⟩
theorem KOk.imp{α:Type}{n:Nat}{P c:α->Prop}(g:∀ a,P a->c a):∀{t:KasT α},KOk n t P->KOk n t c
 |.ret _,h=>g _ h
 |.ask _ _ _,h=>⟨h.1,h.2.1,λb=>KOk.imp g (h.2.2 b)⟩
theorem KOk.wp{α:Type}{n:Nat}{P:α->Prop}{s:Shared}{c:Nat->Nat->(Bool->Shared->Prop)->Shared->Prop}{Q:α->Shared->Prop}(G:∀ i j C,i<n->j<n->(∀ b,C b s)->c i j C s)(g:∀ a,P a->Q a s):∀{t:KasT α},KOk n t P->t.kasWp c Q s
 |.ret _,h=>g _ h
 |.ask i j k,h=>G i j _ h.1 h.2.1 λb=>KOk.wp G g (h.2.2 b)
def Ltn(n:Nat)(p:Array Nat):Prop:=p.size=n/\∀ x∈p.toList,x<n
theorem Ltn.at{p:Array Nat}(T:0<n)(h:Ltn n p)(i:Nat):p.getD i 0<n:=by
 by_cases I:i<p.size
 .have:p.getD i 0=p[i]:=by simp[JZ,I]
  rw[this];exact h.2 _ (Array.getElem_mem_toList I)
 .have:p.getD i 0=0:=by simp[JZ,I]
  rw[this];exact T
theorem Ltn.perm{p q:Array Nat}(h:Ltn n p)(g:q.Perm p):Ltn n q:=by
 have b:=Array.perm_iff_toList_perm.mp g;exact⟨by rw[← h.1];exact g.size_eq,λx O=>h.2 x (b.mem_iff.mp O)⟩
theorem Ltn.rev{p:Array Nat}(h:Ltn n p)(i j:Nat):Ltn n (kas_rev p i j):=h.perm (mirror_perm _ _ _ _)
theorem Ga{n:Nat}{p:Array Nat}(T:0<n)(h:Ltn n p):∀ f m,KOk n (kas_asc p f m) λ_=>True
 |0,_=>trivial
 |f+1,m=>⟨h.at T _,h.at T _,λb=>by
  cases b with
  |true=>exact trivial
  |false=>exact Ga T h f (m+1)⟩
theorem xX{n:Nat}(T:0<n):∀ f p m q,Ltn n p->KOk n (kas_desc f p m q) λr=>Ltn n r.1
 |0,_,_,_,h=>h
 |f+1,p,m,q,h=>⟨h.at T _,h.at T _,λb=>by
  cases b with
  |true =>
   show KOk n (if q > 0 then _ else _) _;split
   .exact xX T f _ _ _ (h.rev _ _)
   .exact xX T f _ _ _ h
  |false=>exact⟨h.at T _,h.at T _,λd=>by
    cases d with
    |true=>exact h
    |false=>exact xX T f _ _ _ h⟩⟩
theorem EK{p:Array Nat}(T:0<n)(h:Ltn n p)(a b:Nat):KOk n (kas_tail3 a b p) λr=>Ltn n r.2 :=
 KOk.bind ((Ga T (h.rev 0 a) _ _).imp λ_ _=>h.rev 0 a)
theorem EL{p:Array Nat}(T:0<n)(h:Ltn n p)(a b:Nat):KOk n (kas_descPart a b p) λr=>Ltn n r.2 :=
 KOk.bind ((xX T _ _ _ _ h).imp λr N=>by
  show KOk n (if r.2.2 > 0 then _ else _) _;split
  .exact EK T (N.rev _ _) _ _
  .exact EK T N _ _)
theorem F9{p:Array Nat}(T:0<n)(h:Ltn n p)(a:Nat):KOk n (kas_count a p) λr=>Ltn n r.2 :=
 KOk.bind ((Ga T h _ _).imp λm _=>by
  show KOk n (if(m == a)=true then _ else if m > 1 then _ else _) _;split
  .exact h
  .split
   .exact⟨h.at T _,h.at T _,λb=>by
     cases b with
     |true=>exact h
     |false=>exact EL T (h.rev _ _) _ _⟩
   .exact EL T h _ _)
theorem vD{n:Nat}{p:Array Nat}(T:0<n)(h:Ltn n p)(k:Nat):∀ f l r,KOk n (kas_place p k f l r) λ_=>True
 |0,_,_=>trivial
 |f+1,l,r=>by
  show KOk n (if l ≥ r then _ else _) _;split
  .exact trivial
  .exact⟨h.at T _,h.at T _,λb=>by
    cases b with
    |true=>exact vD T h k f _ _
    |false=>exact vD T h k f _ _⟩
theorem k_bin{n:Nat}(T:0<n):∀ f p k,Ltn n p->KOk n (kas_bin f p k) λr=>Ltn n r
 |0,_,_,h=>h
 |f+1,p,k,h=>KOk.bind ((vD T h k _ _ _).imp λl _=>k_bin T f _ _ (h.perm (bubble_perm _ _ _)))
theorem k_sort(T:0<n):KOk n (kas_sort n) (Ltn n):=by
 have h:Ltn n (List.toArray (Ik n)):=⟨by simp,λx O=>by simpa using O⟩
 exact KOk.bind ((F9 T h n).imp λr N=>by
  show KOk n (if r.1<n then _ else _) _;split
  .exact k_bin T _ _ _ N
  .exact N)
end
section
open PySem.W
variable{prog:Program}{w:World}{A:Around}{E:Value->Shared->Prop}{s:Shared}
def PrV(h:Heap)(v:Value):Prop:=∃ a o n x y e ty,v=.ref a/\h.get? a=some o/\o.cls=.type "tuple"/\o.data=.seq #[.int x e,.int y ty] n
theorem PrV.keep{v:Value}(p:PrV h v)(k:∀ b o,v=.ref b->h.get? b=some o->h'.get? b=some o):PrV h' v:=by
 obtain⟨a,o,n,x,y,e,ty,rfl,J,r⟩:=p;exact⟨a,o,n,x,y,e,ty,rfl,k _ _ rfl J,r⟩
theorem prv_lt{v:Value}{b:Bool}{Q:Bool->Shared->Prop}(hu:PrV s.heap u)(O:PrV s.heap v)(L:b=true)(h:∀ c,Q c s):wpAny (model prog w) A (keyLt' (tuples' b) u v) Q E s:=by
 obtain⟨a,o,n,x,y,e,ty,rfl,J,Y,j⟩:=hu;obtain⟨d,D,i,H,f,g,k,rfl,M,G,z⟩:=O;subst L;refine kat_lt J j M z ?_;refine kat_cons (wpAny_eqBool_int ?_);refine kat_go (λ_=>kat_yes (kat_cons (wpAny_eqBool_int (kat_go (λ_=>kat_yes (kat_nil (h _))) λ_=>kat_no ?_)))) λ_=>kat_no (oneLt_int (h _));exact kat_one _ _ (PyProof.Rows.lt_int (show PySem.W.BoolBack Q (.bool _) s from h _))
theorem xM{M:Model}:∀{vs:List Value},(∀ v∈vs,PrV s.heap v)->∃ fs,KatTups s.heap vs fs/\fs.length=vs.length/\∀ v∈fs,Looks M s.heap (typeOf v) (.type "int")
 |[],_=>⟨[],trivial,rfl,λv O=>nomatch O⟩
 |v::vs,h=>by
  obtain⟨fs,J,Y,A⟩:=xM (M:=M) (vs:=vs) λu g=>h u (G4 _ g);obtain⟨a,o,n,x,y,e,ty,rfl,L,G,z⟩:=h v (G9 ..);refine⟨.int x e::fs,KatTups.cons L G z rfl J,by rw[Hk,Hk,Y],λu g=>?_⟩
  rcases G6.mp g with rfl|g
  .exact .now
  .exact A u g
theorem yw{P:PySem.Fin->Shared->Prop}(D:s.heap.get? a=some (MY "list" vs.toArray n))(g:∀ v∈vs,PrV s.heap v)(ac:vs.length<64)(h:∀ out:List Value,out.length=vs.length->(∀ v∈out,v∈vs)->P (.done (.ret .none)) {s with heap:=sortedHeap s.heap a vs out.toArray}):wpAny (model prog w) A (Builtin.«list.sort» ⟨[.ref a],[]⟩) P E s:=by
 have d:a<s.heap.objs.size:=LS D;have line:vs.length<=LR:=by rw[sizeLine_eq];omega
 obtain⟨f,am⟩:∃ f,(s.heap.update a (Mw λ_=>(#[]:Array Value))).get? a=some (MY "list" #[] f):=⟨_,MZ D λ_=>#[]⟩;have al:(((s.heap.update a (Mw λ_=>(#[]:Array Value))).push (MY "tuple" vs.toArray 0)).push (MY "list" #[] 0)).get? a=some (MY "list" #[] f):=Mf _ (Mf _ am);have ae:∀ v∈vs,PrV (((s.heap.update a (Mw λ_=>(#[]:Array Value))).push (MY "tuple" vs.toArray 0)).push (MY "list" #[] 0)) v:=λv O=>by
  have pv:=g v O;refine pv.keep λb o eb e=>Mf _ (Mf _ ?_);have nb:b≠a:=λz=>by
   obtain⟨a',o',n',x,y,tx,ty,rfl,L,B,_⟩:=pv
   cases eb
   rw[z,D]at L
   cases L
   exact Nr B (by intro m;have:=Value.type.inj m;exact Nr this (by decide))
  rw[Heap.get?_update_ne _ _ _ _ nb];exact e
 rw[list_sort_plain];refine Mb (listItems_at D rfl (Mb (listUpdate_at D rfl (Mb (seqEpoch_at am rfl (Mb (wpAny_newTuple (Mb (M0 (Mc ?_) (HI _))) line)))) (by rw[Hl];exact line) (HI _))))
 show wpAny (model prog w) A _ P E {s with heap:=((s.heap.update a (Mw λ_=>(#[]:Array Value))).push (MY "tuple" vs.toArray 0)).push (MY "list" #[] 0)};have k:∀ out:List Value,sortedHeap s.heap a vs out.toArray=(((s.heap.update a (Mw λ_=>(#[]:Array Value))).push (MY "tuple" vs.toArray 0)).push (MY "list" #[] 0)).update a (Mw λ_=>out.toArray):=λ_=>rfl;generalize ((s.heap.update a (Mw λ_=>(#[]:Array Value))).push (MY "tuple" vs.toArray 0)).push (MY "list" #[] 0)=h6 at al ae k;dsimp only;by_cases Y:vs.toArray.size<2
 .rw[Np Y,Np Y];refine Mb (Me ?_);rw[StateT.run_pure];refine Mb (Me (Mb (seqEpoch_at al rfl ?_)));dsimp only;have eo:(arrOf (SortSt.mk' general' (vs.toArray.zip vs.toArray) #[] 7 none)).map (·.2)=vs.toArray:=by
   show(vs.toArray.zip vs.toArray).map (·.2)=vs.toArray;apply Array.ext
   .simp
   .intro i J Y;simp
  rw[eo];refine Mb (listUpdate_at al rfl ?_ (HI _) (by rw[Hl];exact Ld line))
  simp only[bne_self_eq_false,Il,if_false];refine Me ?_;have:=h vs rfl λv O=>O;rw[k]at this;exact this
 .rw[Nq Y,Nq Y];rw[Hl]at Y;obtain⟨fs,H,t,f3⟩:=xM (s:={s with heap:=h6}) (M:=model prog w) ae;refine Mb (kat_kind H ∅ f3 (by decide) ?_)
  have an:(Value.type "int" != Value.type "tuple")=true:=by decide
  refine Mb (LZ (kat_run (ks:=vs) (vs:=vs) (Q:=λab q=>q={s with heap:=h6}/\failedOf ab=none/\∃ p:Array Nat,Ltn vs.length p/\arrOf ab=p.map (kas_item (vs.toArray.zip vs.toArray))) (G:=λp q=>q={s with heap:=h6}/\Ltn vs.length p) rfl ∅ ac (λp ab q T c a3 a4=>⟨a4.1,a3,p,a4.2,c⟩) (KOk.wp (λi j C I N hC=>?_) (λp r=>⟨rfl,r⟩) (k_sort ∅))) ?_ λ_ _ e=>e)
  .have gi:vs.getD i Value.none∈vs:=by rw[Hg,GU I];exact Ij I
   have gj:vs.getD j Value.none∈vs:=by rw[Hg,GU N];exact Ij N
   exact prv_lt (ae _ gi) (ae _ gj) an hC
  .rintro⟨⟨⟩,ab⟩ q ⟨rfl,l,p,aa,aI⟩;dsimp only;have ap:=kat_snds (ks:=vs) (vs:=vs) rfl aI;rw[ap];have u:(p.toList.map λi=>vs.getD i Value.none).length=vs.length:=by rw[GY,HB,aa.1]
   refine Mb (seqEpoch_at al rfl (Mb (listUpdate_at al rfl ?_ (HI _) (by rw[Hl,u];exact Ld line))))
   rw[l];simp only[bne_self_eq_false,Il,if_false];refine Me ?_;have:=h _ u λv O=>by
    obtain⟨i,I,rfl⟩:=HS.mp O;have lt:=aa.2 i I;rw[Hg,GU lt];exact Ij lt
   rw[k]at this;exact this
theorem rY{l:Addr}(hl:s.heap.IsList l vs.toArray)(g:∀ v∈vs,PrV s.heap v)(i:vs.length<64)(h:∀ out:List Value,out.length=vs.length->(∀ v∈out,v∈vs)->Q (.ref (s.heap.objs.size+1)) {s with heap:=sortedAll s.heap vs out.toArray}):wpAny (model prog w) A (call (.builtin "sorted") [.ref l]) Q E s:=by
 refine Calls.call_function_entry kind_sorted plain_sorted entry_sorted (args_sorted1 _) ?_;unfold Builtin.«sorted»;refine Mb (m:=checkCount "sorted" 1 1 _) (Me ?_);refine Mb (collect_list hl ?_ (by rw[sizeLine_eq];omega))
 refine Mb (M0 ?_ (by rw[sizeLine_eq];omega))
 have C:((s.heap.push (MY "list" #[] 0)).update s.heap.objs.size (Mw (·++vs.toArray))).objs.size=s.heap.objs.size+1:=by rw[M4,size_push']
 have a:(((s.heap.push (MY "list" #[] 0)).update s.heap.objs.size (Mw (·++vs.toArray))).push (MY "list" vs.toArray 0)).get? (s.heap.objs.size+1)=some (MY "list" vs.toArray 0):=by rw[← C];exact Mg _ rfl
 show wpAny _ _ _ _ _ {s with heap:=((s.heap.push (MY "list" #[] 0)).update s.heap.objs.size (Mw (·++vs.toArray))).push (MY "list" vs.toArray 0)};rw[C];refine Mb (Mc (MN slot_list_sort ⟨_,a,rfl⟩ entry_list_sort (yw a (λv O=>(g v O).keep λb o _ q=>?_) i λout r c=>⟨_,rfl,?_⟩) (args_list_sort _)))
 .have G:b<s.heap.objs.size:=LS q
  rw[Heap.get?_push_ne _ _ _ (by rw[C];exact Hr (Iz G)),Heap.get?_update_ne _ _ _ _ (Hr G),Heap.get?_push_ne _ _ _ (Hr G)]
  exact q
 .exact Me ⟨_,rfl,h out r c⟩
end
inductive rSortP(K:GX)(xs:List V)(H:L2.Hp)(Q:L2.VK):Prop
 |mk (p:Addr)(ys:List V) (h0_:xs=[.ref p])(h1_:SqL K H p ys)(h2_:(∀ y∈ys,∃ t i j,y=.ref t/\H t=some (.tup [.int i,.int j])))(h3_:ys.length<64)(h4_:∀(l:Addr)(out:List V),H l=none->out.length=ys.length->(∀ y∈out,y∈ys)->Q (.ref l) (upd H l (.lst out)))
theorem pE:∀{ys:List V}{us:List Value},Vals ys us->∀ u∈us,∃ y∈ys,RelV y u
 |_,_,.nil,u,h=>nomatch h
 |_,_,.cons (a:=y) r t,u,h=>by
  rcases G6.mp h with rfl|h
  .exact⟨y,G9 ..,r⟩
  .obtain⟨z,f,b⟩:=pE t u h;exact⟨z,G4 _ f,b⟩
theorem rR{ys:List V}{us:List Value}(r:Vals ys us):∀{out:List Value},(∀ u∈out,u∈us)->∃ zs,Vals zs out/\zs.length=out.length/\∀ z∈zs,z∈ys
 |[],_=>⟨[],.nil,rfl,λz h=>nomatch h⟩
 |u::out,h=>by
  obtain⟨zs,w,l,t⟩:=rR r (out:=out) λx O=>h x (G4 _ O);obtain⟨y,Q,c⟩:=pE r u (h u (G9 ..))
  exact⟨y::zs,.cons c w,by rw[Hk,Hk,l],λz f=>by
   rcases G6.mp f with rfl|f
   .exact Q
   .exact t z f⟩
theorem zr:gR X (.builtin "sorted") (rSortP X.K):=by
 intro B s M H D z Q I r h;obtain⟨p,k,rfl,g,a,ab,q⟩:=h;obtain⟨u,rfl,E⟩:=jW r
 cases E
 obtain⟨L,rv,m,f⟩:=I.list g;have G:=rv.length;refine rY m.isList (λv O=>?_) ∅ λaa l b=>?_
 .obtain⟨y,ac,N⟩:=pE rv v O;obtain⟨t,i,j,rfl,T⟩:=a y ac
  cases N
  obtain⟨_,J,o,d,b1,b2,x,b3⟩:=(show bC X.prog X.w H s.heap t (.tup [.int i,.int j]) from I.hok t _ T);obtain⟨Y,u2,rfl,⟨t1,rfl⟩,⟨A,rfl⟩⟩:=zI o;exact⟨t,d,x,i,j,t1,A,rfl,b1,b2,b3⟩
 .obtain⟨c,C,l3,m3⟩:=rR rv b;obtain⟨e,n⟩:=sortedAll_at s.heap L aa.toArray;refine⟨.ref (s.heap.objs.size+1),_,I.laid (t':=s.toks) (λ_ _=>sortedAll_old) (IV _) (show bC X.prog X.w _ _ _ (.lst c) from⟨?_,aa,e,C,n⟩),rfl,q _ c (I.hok.fresh (IV _)) ∅ m3⟩
  exact Hs (av ∅)
section
variable{prog:Program}{w:World}{K:Type} [DecidableEq K] {knd:KeyKind prog w K} {A:Around} {E:Value->Shared->Prop} {s:Shared}
end
section
variable{X:Cx}{o e f:Expr}{apos cpos:Pos}{td ty tx:TE}
end
def Itk(o:Obj)(kvs:List (Key×V))(d:Addr):It :=
 ⟨λi H=>H d=some (.frz o (.dK kvs))/\i<kvs.length,λi H v l=>∃ k y,kvs[i]?=some (k,y)/\v=kV k/\l=H,λi H=>H d=some (.frz o (.dK kvs))/\kvs.length<=i⟩
theorem Bt{d:Addr}{es:Array DictEntry}(x:bC P w H h d (.frz o (.dK kvs)))(n:o.data=.dict es ep):(d == sysModules)=false/\∃ vs,KV kvs vs/\h.DictAt (bA P w) d vs ep:=by
 obtain⟨N,f,lo,vs,D,j,es',i,J,Y,A,r⟩:=x;rw[N]at J
 cases J
 rw[n]at A
 cases A
 exact⟨lo,vs,D,o,es,N,Y,n,r⟩
theorem zL{tg:Expr}(o:Obj)(kvs:List (Key×V))(d it:Addr)(es:Array DictEntry)(ep:Nat)(n:o.data=.dict es ep):Turn P w K tg (Itk o kvs d) [it] it (λi h=>h.IsKeyIter it d i kvs.length ep) where
 mem:=by simp
 obj:=λi h st b L=>by
  have e:b=it:=by simpa using L
  subst e;obtain⟨o,e,c,d⟩:=st;exact⟨o,e,λv z=>by rw[d]at z;cases z⟩
 keep:=λi h T st k=>by
  obtain⟨o,e,r⟩:=st;exact⟨o,k it (by simp) o e,r⟩
 item:=by
  intro X hP u hK C i B s M H E I p st J;subst hP u hK;obtain⟨hd,l⟩:=J;obtain⟨lo,m,rk,ac⟩:=Bt (I.hok d _ hd) n;have G:kvs.length=m.length:=Paired.length rk;obtain⟨f0,A,f,f3,f4,f5⟩:=p it (by simp)
  obtain⟨⟨k,v⟩,O⟩:∃ q,m[i]?=some q:=⟨_,GU ∅⟩
  obtain⟨⟨k',y⟩,a,ek,N⟩:=mF rk O;have ae:k'=k:=ek;subst ae;refine wpAny_pyNext_dict_item (G▸st) ac O λaa T D ab sb=>?_;have g:Inv X B M H {s with heap:=T}:=I.turned (t':=s.toks) (λb o L e=>(sb.2 b L).trans e) f0 A f3 f4 f5;obtain⟨x,e,c,dd⟩:=id ab;refine⟨aa,rfl,DE (s:={s with heap:=T}) e c dd (by decide) ⟨kV k',H,g,?_,⟨k',y,a,rfl,rfl⟩,G.symm▸ab,λb L=>(p b L).1⟩⟩
  rcases aZ (show oA k' aa=true from D) with⟨j,t,rfl,rfl⟩|⟨z,t,rfl,rfl⟩
  .exact⟨t,rfl⟩
  .exact⟨t,rfl⟩
 done:=by
  intro X hP u hK C i B s M H E I p st J;subst hP u hK;obtain⟨hd,l⟩:=J;obtain⟨lo,m,rk,ac⟩:=Bt (I.hok d _ hd) n;have G:kvs.length=m.length:=Paired.length rk;obtain⟨f0,A,f,f3,f4,f5⟩:=p it (by simp)
  exact wpAny_pyNext_dict_end (I.ok.hd C) (G▸st) ac (Iy ∅) λT eb=>⟨rfl,I.turned (t':=s.toks) (λb o L e=>eb b o L e) f0 A f3 f4 f5⟩
 self:=λ_ _ s Q _ st h=>by
  have Y:s.TypeIs (.ref it) "dict_keyiterator":=st.typeIs;refine wpAny_pyIter_slot Y F.slot_dict_keyiterator_iter (MN F.slot_dict_keyiterator_iter Y F.entry_dict_keyiterator_iter ?_ (F.args_dict_keyiterator_iter_1 _));show wpAny _ _ (ret (.ref it)) _ _ s;exact Me ⟨_,rfl,"dict_keyiterator",_,Y,F.slot_dict_keyiterator_next.lookup,h⟩
def iKeys(f:TE):TI:=λM H R=>f M H λx Y=>∃ d N,x=.ref d/\Y d=some (.dK N)/\∀ o,R (Itk o N d) (upd Y d (.frz o (.dK N)))
theorem FA{r:Expr}(n:PE X e O):PI X r e (iKeys O):=by
 intro B s M H R I h;refine thn (n B s M H _ I h) λv j T=>?_;obtain⟨x,Y,i,w,E⟩:=T;obtain⟨d,N,rfl,hd,q⟩:=E
 cases w
 obtain⟨_,a,k,y,sz,_⟩:=BH (u:=.dK N) True.intro (i.hok d _ hd);obtain⟨o,E,C,t⟩:=id y;have g:=i.freeze hd True.intro E;obtain⟨lo,m,D,l⟩:=Bt (g.hok d _ ag) t;have G:N.length=m.length:=Paired.length D;refine wpAny_pyIter_dict lo l ?_;refine⟨j.heap.objs.size,[j.heap.objs.size],_,_,upd Y d (.frz o (.dK N)),rfl,g.kept (t':=j.toks) λb u e=>Mf _ e,zL o N d _ a k t,⟨_,Mg _ rfl,rfl,by rw[G];rfl⟩,λb L=>?_,q o⟩
 rw[Hi.mp L];exact g.fpOk (G0 _) (g.hok.fresh (G0 _))
section
variable{prog:Program}{w:World}{A:Around}{E:Value->Shared->Prop}{s:Shared}{T:String}{r d:Addr}{n:Nat}{P:Nat->Value->Prop}{OK:Heap->Prop}
end
section
variable{prog:Program}{w:World}{A:Around}{E:Value->Shared->Prop}{s:Shared}
end
abbrev oZ(p:Pos):Arguments:={posonlyargs:=[],args:=[{arg:="each",annotation:=none,pos:=p}],vararg:=none,kwonlyargs:=[],kw_defaults:=[],kwarg:=none,defaults:=[]}
abbrev vA:Scope:={kind:=.function,names:=[("each",.local),("told",.free)],isGenerator:=false,isCoroutine:=false,more:=[]}
abbrev yL(p1 r i:Pos):Expr:=.Subscript (.Name "told" p1) (.Name "each" r) i
section
variable{prog:Program}{w:World}{A:Around}{E:Value->Shared->Prop}{s:Shared}
theorem F5{c' ct t:Addr}{m:Str}{h p1 r i:Pos}{d v:Value}{its:Array Value}{k:Int}{tk:Tok}(q:A.depth<recursionLimit)(l:s.heap.get? f=some (KG "<lambda>" m (oZ h) (yL p1 r i) vA [("told",ct)] u c' d))(j:s.heap.CodeRec (.ref c') m)(n:s.heap.NoLimit)(C:s.heap.IsCell ct (some (.ref t)))(hl:s.heap.IsList t its)(k0:0<=k)(y:k<2^63)(g:its[k.toNat]?=some v)(p:∀ h' H,(∀ b o,s.heap.get? b=some o->h'.get? b=some o)->Q v {s with heap:=h',toks:=H}):
  wpAny (model prog w) A (call (.ref f) [.int k tk]) Q E s:=by
 refine wpAny_call (PySem.W.kla_callFunE q l rfl rfl rfl rfl j ?_);have L:bindArgs (PySem.W.kla_fn "<lambda>" m (oZ h) (yL p1 r i) vA [("told",ct)] u (.ref c') d) ⟨[.int k tk],[]⟩=(pure [(("each" : Str),Value.int k tk)]:Sem (List (Str×Value))):=rfl;rw[L];refine Me (wpAny_newFunctionEnv (λx O=>?_) (λx O=>?_) (λJ N D=>?_) rfl)
 .have B:x=(("each" : Str),NameKind.local)∨x=(("told" : Str),NameKind.free):=by simpa using O
  rcases B with rfl|rfl<;>exact λz=>by cases z
 .rw[Hi.mp O];rfl
 have a:∀ b o,s.heap.get? b=some o->J.get? b=some o:=λb o e=>D.extBut b o (Hr (LS e)) (Mf _ e);refine⟨n.keeps a,PySem.W.kla_codeExpr ?_⟩;refine Subscript_ (wpAny_Name (wpAny_loadName_free (c:=ct) rfl rfl rfl (C.keeps a) ?_));refine wpAny_Name (wpAny_loadName_local rfl rfl N rfl ?_);exact item_listR (hl.at λo e=>a _ _ e) k0 y g (p _ _ a)
abbrev Kp(h h':Heap):Prop:=∀ b o,h.get? b=some o->h'.get? b=some o
theorem Kp.but{g:Heap}(k:Kp g h)(n:g.get? I=none)(m:∀ b o,b∉[I]->h.get? b=some o->h'.get? b=some o):Kp g h':=λb o e=>m b o (λz=>by rw[Hi.mp z,n]at e;cases e) (k b o e)
theorem Kp.same{g:Heap}{S:Addr}(k:Kp g h)(n:g.get? S=none)(m:LX S h h'):Kp g h':=λb o e=>(m.2 b (λz=>by rw[z,n]at e;cases e)).trans (k b o e)
theorem Dr{S:Addr}{P:Nat->Value->Prop}{St:Nat->Heap->Prop}{g:Heap}(W:Walks prog w A.in1 a fp [a] n P St)(gJ:g.get? a=none)(gS:g.get? S=none)(an:S≠a)(ae:S∉fp)(turn:∀ i v,i<n->P i v->∀(h:Heap)(tk:Nat)(Q:Value->Shared->Prop)(E:Value->Shared->Prop),Kp g h->(∀ B t h' H,Kp h h'->Q (.int B t) {s with heap:=h',toks:=H})->wpAny (model prog w) A.in1 (call (.ref q) [v]) Q E {s with heap:=h,toks:=tk})(p:∀ i v h' H,i<n->P i v->Kp g h'->R (.ok (.ret v)) {s with heap:=h',toks:=H}):
  ∀(r j i:Nat)(h:Heap)(tk:Nat)(vb:Value)(l:Int)(tb:Tok)(c:Nat),n-(j+1)=r->j+1<=n->Kp g h->h.get? S=some (MY "list" #[vb,.int l tb] c)->St (j+1) h->i<n->P i vb ->
   Mp (model prog w) A (.builtin "min.loop" ⟨[.ref a,.ref q,.ref S],[]⟩) R {s with heap:=h,toks:=tk}:=by
 have nm:(toString "min"++toString ".loop" : String) = "min.loop":=by decide
 intro r;induction r with
 |zero =>
  intro j i h tk vb l tb c er N kg x st I D;have d:j+1=n:=by omega
  refine M5 Jb ?_;rw[M7 HM _];refine Mb (m:=seqItems? (.ref S)) (M8 x rfl ?_);show wpAny _ A.in1 (tryCatch (pyNext (.ref a)) _ >>= _) _ _ _;refine Mb (M9 (W.done _ _ _ (by rw[← d];exact st) λh' H y=>?_))
  have aI:=kg.but gJ y;have u:=y S _ (by simpa using an) x
  have su:=MR h' S (Mw λ_=>(#[]:Array Value));refine Mb (m:=Na S λ_=>#[]) (Nb u rfl (Mb (MX (Me ?_))));exact p i vb _ _ I D (aI.same gS su)
 |succ r C =>
  intro j i h tk vb l tb c er N kg x st I D;have lt:j+1<n:=by omega
  refine M5 Jb ?_;rw[M7 HM _];refine Mb (m:=seqItems? (.ref S)) (M8 x rfl ?_);show wpAny _ A.in1 (tryCatch (pyNext (.ref a)) _ >>= _) _ _ _;refine Mb (M9 (W.item (j+1) _ _ _ lt st λv k al O ac M=>?_));have aa:=kg.but gJ M;have T:=M S _ (by simpa using an) x
  show wpAny _ A.in1 (tryCatch (holding [v] (call (.ref q) [v])) _ >>= _) _ _ _;refine Mb (M9 (Mc (turn (j+1) v lt O k al _ _ aa λB t Y aL G=>?_)));have ap:Kp g Y:=λb o e=>G b o (aa b o e);have ab:=G _ _ T;have f:=W.frame _ _ Y ac λb _ o e=>G b o e;show wpAny _ A.in1 (tryCatch (holding [v,.int B t] (richCompare .Lt (.int B t) (.int l tb) >>= _)) _ >>= _) _ _ _;refine Mb (M9 (Mc (Mb (CmpOf.ints_lt (prog:=prog) (w:=w) (A:=A.in1) (P:=λ(i:Nat) v=>∃ t,v=.int (if i=0 then B else l) t) (λi=>if i=0 then B else l) (λi v h=>h) 0 1 _ _ _ _ _ ⟨t,rfl⟩ ⟨tb,rfl⟩ ?_))));refine Mb (Mc (L9 (Mb (MX (Me ?_)))));by_cases cc:B<l
  .have su:=MR Y S (Mw λ_=>#[v,.int B t])
   obtain⟨c2,am⟩:∃ c2,(Y.update S (Mw λ_=>#[v,.int B t])).get? S=some (MY "list" #[v,.int B t] c2):=⟨_,MZ ab λ_=>#[v,.int B t]⟩;simp[cc];refine Mb (Nb ab rfl (Mb (MX ?_)));refine Me ⟨Nc HM _,C (j+1) (j+1) _ _ v B t c2 ∅ lt (ap.same gS su) am (W.frame _ _ _ f λb L o e=>(su.2 b (λz=>ae (z▸L))).trans e) lt O⟩
  .simp[cc];refine Mb (MX (Me ?_));refine⟨Nc HM _,C (j+1) i _ _ vb l tb c ∅ lt ap ab f I D⟩
theorem FZ{d:Addr}{KK:Type}[DecidableEq KK]{knd:PySem.KeyKind prog w KK}{kvs:List (KK×Value)}(n:A.handled=none)(hd:Heap.DictAt knd s.heap d kvs ep)(ds:(d == sysModules)=false)(D:0<kvs.length)(turn:∀(i:Nat)(v:Value)(k:KK)(x:Value),kvs[i]?=some (k,x)->knd.is k v=true->∀(h:Heap)(tk:Nat)(Q:Value->Shared->Prop)(E:Value->Shared->Prop),Kp s.heap h->(∀ j t h' H,Kp h h'->Q (.int j t) {s with heap:=h',toks:=H})->wpAny (model prog w) A.in1 (call (.ref q) [v]) Q E {s with heap:=h,toks:=tk})(p:∀(i:Nat)(v:Value)(k:KK)(x:Value)(h':Heap)(H:Nat),kvs[i]?=some (k,x)->knd.is k v=true->Kp s.heap h'->Q v {s with heap:=h',toks:=H}):
  wpAny (model prog w) A (call (.builtin "min") [.ref d] [(Str.ofString "key",.ref q)]) Q E s:=by
 have nm:(toString "min"++toString ".loop" : String) = "min.loop":=by decide
 obtain⟨l,_,ap,_⟩:=id hd;have dl:d<s.heap.objs.size:=LS ap;refine kmk_tree PySem.F.kind_min PySem.F.plain_min PySem.F.entry_min (kmk_min_key _ _) ?_;show wpAny _ A.in1 (Nd "min" ["key","default"] 0 ⟨[],[(Str.ofString "key",.ref q)]⟩ >>= _) _ _ s;refine Mb (wpAny_of_eq (show Nd "min" ["key","default"] 0 ⟨[],[(Str.ofString "key",.ref q)]⟩=pure [some (.ref q),none] from rfl) (Mb (Me (Mb (wpAny_pyIter_dict ds hd ?_)))));refine Mb (M0 ?_ (HI _));rw[nm];obtain⟨g,ab⟩:∃ g:Obj,g={cls:=Value.type "dict_keyiterator",data:=Data.fields #[Value.ref d,Value.int 0 0,Value.int (kvs.length:Int) 0,Value.int (ep:Int) 0]}:=⟨_,rfl⟩;rw[← ab];have sz:(s.heap.push g).objs.size=s.heap.objs.size+1:=by rw[Mq]
 have al:(s.heap.push g).objs.size≠s.heap.objs.size:=by omega
 have aL:d≠s.heap.objs.size:=Hr dl;have fr:∀ b,s.heap.objs.size<=b->s.heap.get? b=none:=λb L=>LW L;have a:Kp s.heap ((s.heap.push g).push (MY "list" #[] 0)):=λb o e=>Mf _ (Mf _ e);have I:((s.heap.push g).push (MY "list" #[] 0)).get? (s.heap.push g).objs.size=some (MY "list" #[] 0):=Mg _ rfl;have hJ:((s.heap.push g).push (MY "list" #[] 0)).get? s.heap.objs.size=some g:=Mf _ (Mg _ (by rw[ab];rfl))
 have W:=Walks.dictKeys (prog:=prog) (w:=w) (knd:=knd) (A:=A.in1) n s.heap.objs.size d aL kvs ep;have am:∀(i:Nat)(v:Value),i<kvs.length->(∃ k x,kvs[i]?=some (k,x)/\knd.is k v=true)->∀(h:Heap)(tk:Nat)(Q:Value->Shared->Prop)(E:Value->Shared->Prop),Kp s.heap h->(∀ j t h' H,Kp h h'->Q (.int j t) {s with heap:=h',toks:=H})->wpAny (model prog w) A.in1 (call (.ref q) [v]) Q E {s with heap:=h,toks:=tk}:=λi v _ ⟨k,x,f,B⟩=>turn i v k x f B;refine Me ⟨Nc HM _,M5 Jb ?_⟩;rw[M7 HM _];refine Mb (m:=seqItems? (.ref (s.heap.push g).objs.size)) (M8 I rfl ?_);show wpAny _ A.in1 (tryCatch (pyNext (.ref s.heap.objs.size)) _ >>= _) _ _ _;refine Mb (M9 (W.item 0 _ _ _ D ⟨⟨g,hJ,by rw[ab],by rw[ab];rfl⟩,hd.at' λo e=>a _ _ e⟩ λv J ac O aa M=>?_))
 have u:=a.but (fr _ (G0 _)) M;have T:=M _ _ (by simpa using al) I
 show wpAny _ A.in1 (tryCatch (holding [v] (call (.ref q) [v])) _ >>= _) _ _ _;refine Mb (M9 (Mc (am 0 v D O J ac _ _ u λj t Y aI G=>?_)));have an:Kp s.heap Y:=λb o e=>G b o (u b o e);have C:=G _ _ T;have c:=W.frame _ _ Y aa λb _ o e=>G b o e;have su:=MR Y (s.heap.push g).objs.size (Mw λ_=>#[v,.int j t]);obtain⟨c2,ae⟩:∃ c2,(Y.update (s.heap.push g).objs.size (Mw λ_=>#[v,.int j t])).get? (s.heap.push g).objs.size=some (MY "list" #[v,.int j t] c2):=⟨_,MZ C λ_=>#[v,.int j t]⟩;have N:(s.heap.push g).objs.size∉[s.heap.objs.size,d]:=λz=>by
  rcases G6.mp z with z|z
  .exact al z
  .have r:=Hi.mp z
   exact Nr dl (by rw[← r,sz];exact JT (IV _))
 refine Mb (m:=Na _ λ_=>#[v,.int j t]) (Nb C rfl ?_);rw[nm];refine Me ⟨Nc HM _,Dr W (fr _ (G0 _)) (fr _ ∅) al N am (λi v h' H _ ⟨k,x,f,B⟩ y=>p i v k x h' H f B y) _ 0 0 _ _ v j t c2 rfl D (an.same (fr _ ∅) su) ae (W.frame _ _ _ c λb L o e=>(su.2 b (λz=>N (z▸L))).trans e) D O⟩
end
section
variable{X:Cx}{pins:List (Addr×Obj)}{σ:St}{H:Hp}{s:Shared}{h':Heap}{T:Addr}{ps more:Array Value}{t':Nat}
theorem Inv.tab(I:Inv X pins σ H s)(e:H T=some (.tbl ps))(O:∀ b o,b≠T->s.heap.get? b=some o->h'.get? b=some o)(Y:h'.get? T=some {cls:=.none,data:=.fields (ps++more)}):
  Inv X pins σ (upd H T (.tbl (ps++more))) {s with heap:=h',toks:=t'}:=by
 have ne:∀{b:Addr}{o:Option HO},H b=o->o≠some (.tbl ps)->b≠T:=λq n z=>n (by rw[← q,z,e])
 refine I.un ⟨λb o g n _ _=>O b o (ne n (by simp)) g,λb o g n _ _=>⟨o.slots,O b o (ne n (by simp)) g⟩,λb o g n _=>?_,λb o g _=>?_,λb D q=>?_,λb o u q=>?_,λb p q=>?_⟩ λb u q=>?_
 .rw[aq (ne n (by simp))]
  exact n
 .by_cases z:b=T
  .rw[z];exact⟨_,Y⟩
  .exact⟨o,O b o z g⟩
 .rw[aq (ne q (by simp))]
  exact q
 .rw[aq (ne q (by simp))]
  exact q
 .by_cases z:b=T
  .subst z;rw[e]at q
   cases q
   exact⟨more,ag⟩
  .exact⟨#[],by rw[aq z,q];simp⟩
 .by_cases z:b=T
  .subst z;rw[ag]at q
   cases q
   exact Y
  .rw[aq z]at q;refine(I.hok b u q).stay (λc o C g=>O c o (λy=>?_) g) (λc g=>?_) λc o g=>?_
   .rcases C with A|A
    .exact z (A▸y)
    .rw[y,e]at A;cases A
   .rw[aq (ne g (by simp))];exact g
   .rw[aq (ne g (by simp))];exact g
end
def codO(c:Addr)(q:Str):HO:=.ext λh=>h.CodeRec (.ref c) q
def Tb(q:Str)(g:Pos)(T:Addr)(H:Hp):Prop:=H T=some (.tbl #[])∨∃ c,H T=some (.tbl #[rawInt g.line,rawInt g.col,.ref c])/\H c=some (codO c q)
def TbS(T:Addr)(H H':Hp):Prop:=∀ b o,b≠T->H b=some o->H' b=some o
structure Lam(X:Cx)(c T ct:Addr)(lq:Str):Prop where
 code:X.env.code=.ref c
 hd:Js X.base c T
 bm:∃ bm o,X.mg "__builtins__"=some (.ref bm)/\bm≠builtinsNs/\X.base.get? bm=some o/\o.cls=.type "module"/\o.dict=some builtinsNs/\o.data=.plain
 kind:X.env.kindOf "told"=some .cell
 cl:closureFor vA X.env=pure [(("told" : Str),ct)]
 cell:X.env.cells.lookup ("told" : Str)=some ct
 q:X.env.qual++"<lambda>"=lq
theorem F7{a:Type}:∀{kvs:List (a×V)}{vs:List (a×Value)},KV kvs vs->∀{i:Nat}{k:a}{y:Value},vs[i]?=some (k,y)->∃ f,f∈kvs/\k=f.1
 |_,_,.nil,i,k,y,e=>by simp at e
 |p::_,q::_,.cons h r,0,k,y,e=>by
  cases e
  exact⟨p,G9 ..,h.1.symm⟩
 |p::_,_::_,.cons _ r,i+1,k,y,e=>by
  obtain⟨f,m,G⟩:=F7 r (show _=some (k,y) from e);exact⟨f,G4 _ m,G⟩
def tMinK(b:Str)(g:Pos)(T:Addr)(it:Nat)(t:TA):TE:=λM H Q=>t M H λm Y=>∃ d N a D,m=[.ref d]/\Y d=some (.dK N)/\N≠[]/\M[it]?=some (some (.ref a))/\Y a=some (.lst D)/\Tb b g T Y /\
 (∀ f∈N,∃(k:Nat)(n:Int),f.1=.inl (k:Int)/\D[k]?=some (.int n))/\∀ f∈N,∀ l,TbS T Y l->Tb b g T l->Q (kV f.1) l
theorem FC{c T ct:Addr}{lq:Str}{it:Nat}{t:TA}{np xp p0 p1 p2 p3 lp kp:Pos}(L:Lam X c T ct lq)(O:X.ex=[])(E:X.calm=true)(C:Room 0 X.A)(hN:X.N[it]?=some ("told" : Str))(hv:Vis X.env.scope "told")(hg:Gl X "min")(hm:X.mg "min"=none)(ha:PA X [.Name x xp] t):
  PE X (.Call (.Name "min" np) [.Name x xp] [⟨some "key",.Lambda (oZ p0) (yL p1 p2 p3) vA lp,kp⟩] pos) (tMinK lq lp T it t):=by
 intro B s M H Q I h;refine Mu (jd I hg hm pz ?_);refine callWith_kw (thn (ha pos B s M H _ I h) λus l ⟨vs,H1,I1,r1,q1⟩=>?_);obtain⟨d,kvs,a,r,rfl,hd,ab,bd,G,tb,g,q⟩:=q1;obtain⟨u,rfl,ru⟩:=jW r1
 cases ru
 refine kws_cons (PySem.W.kla_eval rfl ?_);rw[L.q];have bR:0<kvs.length:=List.length_pos_iff.mpr ab;have go:∀(p:Hp)(s2:Shared)(f c':Addr)(pm aI:Value),Inv X B M p s2->s2.heap.get? f=some (KG "<lambda>" lq (oZ p0) (yL p1 p2 p3) vA [("told",ct)] pm c' aI)->s2.heap.CodeRec (.ref c') lq->p d=some (.dK kvs)->p a=some (.lst r)->(∀ kv∈kvs,Q (kV kv.1) p) ->
   wpAny (model X.prog X.w) X.A (call (.builtin "min") [.ref d] [(Str.ofString "key",.ref f)]) (EP X B M Q) X.xe s2:=by
  intro p s2 f c' pm aI I2 hf aS ap aL q2;obtain⟨_,ds,vs,a0,od,D,ep,a5⟩:=y9 I2.hok ap;have vl:=a0.length;refine FZ (knd:=bA X.prog X.w) (kvs:=vs) (ep:=ep) (I2.ok.hd E) ⟨od,D,a5⟩ ds ∅ ?_ ?_
  .intro i v k y e1 e2 h' tk Q' E' kk be;obtain⟨⟨k1,w1⟩,m1,ek⟩:=F7 a0 e1;obtain⟨j,n,ej,hn⟩:=g _ m1;have a1:k=.inl (j:Int):=ek.trans ej;subst a1;have sh:∃ t,v=Value.int (j:Int) t:=by
    rcases aZ (show oA (.inl (j:Int)) v=true from e2) with⟨i',t',z1,z2⟩|⟨_,_,z1,_⟩
    .cases z1;exact⟨t',z2⟩
    .cases z1
   obtain⟨tv,rfl⟩:=sh;obtain⟨hz,its,bE,rv,bi⟩:=I2.hok a _ aL;obtain⟨wv,bn,bp⟩:=rv.get hn;obtain⟨tn,rfl⟩:=bp;have jl:j<r.length:=(GV.mp hn).1;have bS:=oY;obtain⟨m,a2,a6⟩:=I2.loc;obtain⟨u,ru,lk⟩:=a6 it "told" (.ref a) hN bd hv
   cases ru
   have an:s2.heap.IsCell ct (some (.ref a)):=by
    rcases lk with⟨kl,_⟩|⟨_,c2,ec,z⟩
    .exact Nr kl (by rw[L.kind];intro z;cases z)
    .rw[L.cell]at ec;cases ec;exact z
   refine F5 (A:=X.A.in1) (f:=f) (c':=c') (t:=a) (its:=its.toArray) (k:=(j:Int)) ?_ (kk _ _ hf) (aS.keeps kk) (I2.nolimit.keeps kk) (an.keeps kk) ⟨_,kk _ _ bi,rfl,_,rfl⟩ ∅ ∅ (by rw[G8];simpa using bn) λh3 bU k3=>be _ _ _ _ k3
   have:=C.dp;show X.A.depth<recursionLimit;omega
  .intro i v k y h' tk e1 e2 kk;obtain⟨kv,m1,ek⟩:=F7 a0 e1;refine⟨kV k,p,I2.kept kk,?_,by rw[ek];exact q2 kv m1⟩
   rcases aZ (show oA k v=true from e2) with⟨i',t',rfl,rfl⟩|⟨y',t',rfl,rfl⟩
   .exact⟨t',rfl⟩
   .exact⟨t',rfl⟩
 have a7:l.heap.BuiltinsAt X.mg T:=by
  obtain⟨bm,o,b1,b2,b3,b4,b5,b6⟩:=L.bm;obtain⟨o1,ae,bv,g1,g2,_⟩:=id I1.mod.glob;have hT:H1 T≠none:=by
   rcases tb with z|⟨_,z,_⟩<;>rw[z]<;>simp
  refine⟨bm,o,b1,b2,λz=>?_,λz=>?_,I1.bk _ _ b3,b4,b5,b6⟩
  .rw[z,g1]at b3;cases b3;rw[g2]at b6;cases b6
  .rw[z]at b3;exact hT (I1.bs _ _ b3).2
 have neT:LU≠T:=λz=>by
  obtain⟨o1,ae,bv,g1,g2,_⟩:=id I1.mod.glob;have:=(I1.bs _ _ g1).2;rw[z]at this;rcases tb with y|⟨_,y,_⟩<;>rw[y]at this<;>cases this
 have ba:=I1.mod.glob.keeps I1.bk;rcases tb with hT|⟨c',hT,bb⟩
 .have gT:l.heap.get? T=some (Ly #[]):=I1.hok T _ hT
  refine PySem.W.kla_makeFunction (mg:=X.mg) L.cl I1.ok.glob ba L.code (L.hd.keeps I1.bk) gT trivial rfl neT a7 λc' aI h' tk bB a3 aa am al=>kws_nil ?_;have cT:c'≠T:=λz=>by
   have:=LS gT;rw[← z]at this;exact Nr this (JT a3)
  have I2:=I1.tab (more:=#[rawInt lp.line,rawInt lp.col,.ref c']) (t':=tk) hT (λb o n e=>bB b o n e) (by simpa using al)
  have e0:(#[]:Array Value)++#[rawInt lp.line,rawInt lp.col,.ref c']=#[rawInt lp.line,rawInt lp.col,.ref c']:=by simp
  rw[e0]at I2;have fr:l.heap.get? c'=none:=LW a3;have a4:H1 c'=none:=I1.hok.none_of fr;obtain⟨c3,oc,bZ,t3,ec,g1,g2,g3⟩:=id am
  cases ec
  have I3:=I2.xtrack (a:=c') (o:=codO c' lq) (I1.xok O fr (by rw[aq cT];exact a4)) ⟨am,⟨oc,g1⟩,λJ Y ⟨c4,o4,v4,t4,z1,z2,z3,z4⟩ kk=>by cases z1;exact⟨_,o4,v4,t4,rfl,kk o4 z2,z3,z4⟩⟩
  have aW:Kp h' (h'.push (KG "<lambda>" lq (oZ p0) (yL p1 p2 p3) vA [("told",ct)] ((X.mg "__name__").getD .none) c' aI)):=λb o e=>Mf _ e;have I4:=I3.kept (t':=tk) aW;have dT:d≠T:=λz=>by rw[z,hT]at hd;cases hd
  have aT:a≠T:=λz=>by rw[z,hT]at G;cases G
  have dc:d≠c':=λz=>by rw[z,a4]at hd;cases hd
  have ac:a≠c':=λz=>by rw[z,a4]at G;cases G
  have sm:TbS T H1 (upd (upd H1 T (.tbl #[rawInt lp.line,rawInt lp.col,.ref c'])) c' (codO c' lq)):=λb o n e=>by
   rw[aq (λz=>by rw[z,a4]at e;cases e),aq n]
   exact e
  refine go _ _ h'.objs.size c' _ _ I4 (Mg _ rfl) (am.keeps aW) (sm _ _ dT hd) (sm _ _ aT G) λkv m=>q kv m _ sm (.inr ⟨c',by rw[aq (Ne.symm cT)];exact ag,ag⟩)
 .have gT:l.heap.get? T=some (Ly #[rawInt lp.line,rawInt lp.col,.ref c']):=I1.hok T _ hT
  obtain⟨am,_,_⟩:=(show bC X.prog X.w H1 l.heap c' (codO c' lq) from I1.hok c' _ bb);refine PySem.W.kla_makeFunctionHit (mg:=X.mg) (cv:=.ref c') L.cl I1.ok.glob ba L.code (L.hd.keeps I1.bk) gT trivial (by simp[codeAmong,rawInt]) a7 λaI h' tk kk sz=>kws_nil ?_
  have aW:Kp l.heap (h'.push (KG "<lambda>" lq (oZ p0) (yL p1 p2 p3) vA [("told",ct)] ((X.mg "__name__").getD .none) c' aI)):=λb o e=>Mf _ (kk b o e);have I4:=I1.kept (t':=tk) aW;exact go _ _ h'.objs.size c' _ _ I4 (Mg _ rfl) (am.keeps aW) hd G λkv m=>q kv m _ (λb o _ e=>e) (.inr ⟨c',hT,bb⟩)
abbrev Bm(mg:Str->Option Value)(h:Heap):Prop:=∃ a o,mg "__builtins__"=some (.ref a)/\a≠builtinsNs/\h.get? a=some o/\o.cls=.type "module"/\o.dict=some builtinsNs/\o.data=.plain
theorem A3{mb:Str->Option Value}{CX:CXT}{k:Nat}{c T:Addr}(KX:K.In s.heap)(Q:s.heap.Ns LU mg)(L:s.heap.Ns builtinsNs mb)(a0:∀ x:Str,x≠"__name__"->mb x=LV x)(al:s.heap.NoLimit)(gens:s.gens=#[])(C:Js s.heap c T)(j:s.heap.get? T=some (Ly #[]))(nT:K.lookup T=none)(am:Bm mg s.heap)(G:s.heap.get? a=some {cls:=.type "list",data:=.seq vs.toArray})(hi:MA vs ns)(hl:ns.length<=LR)(N:Room k callerA)(F:∀ base:Heap,K.In base->base.Ns LU mg->Js base c T->Bm mg base->FnOk P w K mg base CX k p fd [x] sp)(bind:∀(s:Shared)(u:Value),BindsTo s fd ⟨[u],[]⟩ [(x,u)])(ac:∀ H:Hp,H T=some (.tbl #[])->SqL K H a (ns.map V.int)->sp [.ref a] H (λv _=>v=.bl true) λ_ _ _=>False)(aI:∀ H e s',CX [] H s (λ_ _ _=>False) e s'->False):
  Mp (model P w) callerA (.call (.ref p) ⟨[.ref a],[]⟩) (λr s'=>r=.ok (.ret (.bool true))/\OldK s.heap s'.heap/\s'.os=s.os/\AllBare s'.gens) s:=by
 have rv:=rS hi;have aT:a≠T:=λz=>by rw[z,j]at G;cases G
 obtain⟨H,eT,eS,aa,only,frz⟩:∃ H:Hp,H T=some (.tbl #[])/\SqL K H a (ns.map V.int)/\HOk P w H s.heap/\(∀ b,H b≠none->(b=T∨b=a)/\K.lookup b=none)/\(∀ b u,H b=some u->b≠T->∃ o t,u=.frz o (.lst t)):=by
  cases D:K.lookup a with
  |some o =>
   have e:=KX a o D;rw[G]at e
   cases e
   refine⟨upd (λ_=>none) T (.tbl #[]),ag,.inr ⟨_,vs.toArray,_,D,rfl,rfl,rfl,by rw[Hl,hi.length];exact hl,by simpa using rv⟩,λb u z=>?_,λb z=>?_,λb u z n=>?_⟩
   .by_cases y:b=T
    .subst y;rw[ag]at z;cases z;exact j
    .rw[aq y]at z;cases z
   .by_cases y:b=T
    .exact⟨.inl y,y▸nT⟩
    .rw[aq y]at z;exact Nr rfl z
   .rw[aq n]at z;cases z
  |none =>
   refine⟨upd (upd (λ_=>none) a (.frz {cls:=.type "list",data:=.seq vs.toArray} (.lst (ns.map V.int)))) T (.tbl #[]),ag,.inl (.inr ⟨{cls:=.type "list",data:=.seq vs.toArray},by rw[aq aT];exact ag⟩),λb u z=>?_,λb z=>?_,λb u z n=>?_⟩
   .by_cases y:b=T
    .subst y;rw[ag]at z;cases z;exact j
    .rw[aq y]at z;by_cases A:b=a
     .subst A;rw[ag]at z;cases z;exact⟨G,by rw[GY];exact hl,vs,_,rv,G⟩
     .rw[aq A]at z;cases z
   .by_cases y:b=T
    .exact⟨.inl y,y▸nT⟩
    .rw[aq y]at z;by_cases A:b=a
     .exact⟨.inr A,A▸D⟩
     .rw[aq A]at z;exact Nr rfl z
   .rw[aq n]at z;by_cases A:b=a
    .subst A;rw[ag]at z;cases z;exact⟨_,_,rfl⟩
    .rw[aq A]at z;cases z
 have aS:∀{b:Addr}{o:Obj},s.heap.get? b=some o->o.cls≠.none->o.cls≠.type "list"->H b=none:=λ{b o} e n1 n2=>by
  cases q:H b with
  |none=>rfl
  |some u =>
   rcases(only b (by rw[q];simp)).1 with z|z
   .rw[z,j]at e;cases e;exact Nr rfl n1
   .rw[z,G]at e;cases e;exact Nr rfl n2
 have a1:∀{b:Addr}{o:Obj}{B:Array DictEntry}{O:Nat},s.heap.get? b=some o->o.data=.dict B O->H b=none:=λ{b o B O} e d=>by
  cases q:H b with
  |none=>rfl
  |some u =>
   rcases(only b (by rw[q];simp)).1 with z|z
   .rw[z,j]at e;cases e;cases d
   .rw[z,G]at e;cases e;cases d
 have an:∀{b:Addr}{m:Str->Option Value},s.heap.Ns b m->(hidT s.heap H).Ns b m:=λ{b m} ⟨o,B,O,e,d,r⟩=>⟨o,B,O,mH e (a1 e d),d,r⟩
 have kB:K.In (hidT s.heap H):=λb o e=>mH (KX b o e) (by
  cases q:H b with
  |none=>rfl
  |some u=>rw[(only b (by rw[q];simp)).2]at e;cases e)
 have cB:Js (hidT s.heap H) c T:=by
  obtain⟨o,v2,aW,tf,aL,tg,a2,text,tt,f,E,r⟩:=C;exact⟨o,v2,aW,tf,aL,tg,a2,text,tt,mH f (aS f (by rw[E];simp) (by rw[E];simp)),E,r⟩
 have bB:Bm mg (hidT s.heap H):=by
  obtain⟨bm,o,b1,b2,b3,b4,r⟩:=am;exact⟨bm,o,b1,b2,mH b3 (aS b3 (by rw[b4];simp) (by rw[b4];simp)),b4,r⟩
 have md:Mod K mg (hidT s.heap H):=⟨kB,an Q,⟨mb,an L,a0⟩,let ⟨mc,J,Y⟩:=al;⟨mc,an J,Y⟩⟩;have e0:Env0 P w K mg (hidT s.heap H) callerA [] s H:=⟨rfl,md,λb o e=>FU e,Nat.le_of_eq (Bo _ _),trivial,λb z=>Nr (show b∈([]:List Addr) from z) (by simp),aa,.of_eq gens⟩
 refine Mt ((F _ kB (an Q) cB bB).run callerA [] s H ⟨[.ref a],[]⟩ [.ref a] [.ref a] _ _ N e0 (bind s (.ref a)) (.cons rfl .nil) (ac H eT eS)) λr s' h=>?_
 cases r with
 |error e=>exact(aI H e s' h).elim
 |ok fl =>
  cases fl with
  |next=>exact False.elim h
  |brk=>exact False.elim h
  |cont=>exact False.elim h
  |ret u =>
   obtain⟨v,l,os,ae,un,ap,I,q⟩:=h;have q':v=.bl true:=q;subst q';obtain rfl:u=Value.bool true:=I;have nil:∀ b:Addr,b∉frs []:=λb z=>Nr (show b∈([]:List Addr) from z) (by simp)
   have gT:∃ ab,s'.heap.get? T=some {cls:=.none,data:=.fields (#[]++ab)}:=by
    obtain⟨ab,e⟩:=un.tbls T _ eT;exact⟨ab,ap T _ e⟩
   have kp:∀ b o,b≠T->s.heap.get? b=some o->s'.heap.get? b=some o:=λb o n e=>by
    cases q:H b with
    |none=>exact un.keep b o e q (nil b) (by simp)
    |some u =>
     obtain⟨ob,t,rfl⟩:=frz b u q n;have i:=un.frzs b ob _ q;obtain⟨M,_⟩:=aa b _ q;obtain⟨g2,_⟩:=ap b _ i;rw[e]at M;cases M;exact g2
   refine⟨rfl,⟨λb o e=>?_,λb o e=>?_⟩,os,ae⟩
   .by_cases z:b=T
    .subst z;rw[j]at e
     cases e
     obtain⟨ab,g⟩:=gT;exact .inr (.inl ⟨(C.tab j).isCodeTable,rfl,#[],ab,rfl,g⟩)
    .exact .inl (kp b o z e)
   .by_cases z:b=T
    .subst z;obtain⟨ab,g⟩:=gT;exact⟨_,g⟩
    .exact⟨o,kp b o z e⟩
theorem walk_ofT{l:Lo}{k:Nat}{q:Program}{E:List Str}{XP:(Str->Option Value)->Heap->Prop}{YP:World->Heap->Prop}{d df:DefRec}{K:Params->GX}{CX:CXT}{sp:GX->Addr->Sp}{fn:Str}(O:l.most=some n)(ae:n<=LR)(ac:d.params.defaults=[])(N:Room k callerA)(hY:∀(w:World)(h:Heap),YP w h->(K w.params).In h)(y:(recsOf q).find? (λe=>e.name == fn)=some df)(F:∀(w:World)(mg:Str->Option Value)(j:Addr)(h:Heap),(K w.params).In h->h.Ns LU mg->mg d.name=some (.ref j)->∃ fd:FuncData,(∀(s:Shared)(u:Value),BindsTo s fd ⟨[u],[]⟩ [(x,u)]) /\
   ∃ c T,Jz (K w.params) fn=some (c,T)/\(K w.params).lookup T=none/\∀ base:Heap,(K w.params).In base->base.Ns LU mg->Js base c T->Bm mg base->FnOk l.prog w (K w.params) mg base CX k j fd [x] (sp (K w.params) T))(I:∀(K:GX)(T:Addr)(H:Hp)(a:Addr)(ns:List Int),ns.length<=n->H T=some (.tbl #[])->SqL K H a (ns.map V.int)->sp K T [.ref a] H (λv _=>v=.bl true) λ_ _ _=>False)(am:∀(H:Hp)(s:Shared)(e:Value)(s':Shared),CX [] H s (λ_ _ _=>False) e s'->False):
  PySem.W.WalkO q E XP YP l.row.toRowW d [] (λf vs=>PySem.call f vs):=by
 refine Att.attach_call O ac λw an m mg mb j o C cd p a vs ns G Y D hd r al aa ab z t=>?_;have KX:=hY w _ Y;obtain⟨fd,L,c,T,i,nT,Q⟩:=F w mg j _ KX G.T.g al;obtain⟨M,A⟩:=PySem.W.tab_of G.T KX y i;exact A3 KX G.T.g G.T.b G.T.builtins G.T.nolimit t M A nT G.T.bmain aa ab (Ig z ae) N Q L (λH J B=>I _ T H a ns z J B) λH e s'=>am H m e s'
theorem op_neE(hu:X.A.units+64<cLine):OpR X (L0 .NotEq) (λx y H Q=>∃ a b kvs,x=.ref a/\y=.ref b/\H a=some (.dK kvs)/\H b=some (.dK [])/\Q (.bl (!kvs.isEmpty)) H):=by
 intro B s M H x y v u Q I d c h;obtain⟨a,b,kvs,rfl,rfl,G,L,q⟩:=h
 cases d
 cases c
 obtain⟨_,n,m,g,j⟩:=y9 I.hok G;obtain⟨_,k,t,i,o⟩:=y9 I.hok L;have l:=g.length;have O:=i.length;have E:t=[]:=Jr O.symm;subst E;refine PySem.W.keq_ne (r:=true) n k j o ∅ (λe=>?_) ⟨.bl (!(m.length == 0&&true)),H,I,rfl,?_⟩
 .have f:m=[]:=Jr e
  subst f;exact .nil
 .cases kvs with
  |nil =>
   cases m with
   |nil=>exact q
   |cons p r=>cases l
  |cons p r =>
   cases m with
   |nil=>cases l
   |cons p r=>exact q
def lexB:List (Int×Int)->Bool
 |[]=>false
 | (x,y)::r=>if x=y then lexB r else decide (x<y)
section
variable{prog:Program}{w:World}{A:Around}{E:Value->Shared->Prop}{s:Shared}
def Ps:List (Value×Value)->List (Int×Int)->Prop
 |[],[]=>True
 | (u,v)::r,(x,y)::q=>(∃ t,u=.int x t)/\(∃ t,v=.int y t)/\Ps r q
 |_,_=>False
theorem Fd{b:Addr}{oa:Obj}{us vs:Array Value}{ps:List (Int×Int)}{P:PySem.Fin->Shared->Prop}(G:s.heap.get? a=some oa)(n:oa.data=.seq us N)(H:s.heap.get? b=some ob)(l:ob.cls=.type "tuple")(p:ob.data=.seq vs j)(g:Ps (us.toList.zip vs.toList) ps)(hl:us.size=vs.size)(h:P (.done (.ret (.bool (lexB ps)))) s):wpAny (model prog w) A (Builtin.«tuple.__lt__» ⟨[.ref a,.ref b],[]⟩) P E s:=by
 show wpAny _ _ (isInstance (.ref b) (.type "tuple") >>= _) _ _ s;refine Mb (MF (T:="tuple") ⟨ob,H,l⟩ isSubtype_tuple_tuple ?_);simp only[Kz,Il,if_false];refine Mb (wpAny_tupleItemsOf G n (Mb (wpAny_tupleItemsOf H p (Mb ?_))));refine wpAny_forIn_list _ (λrest r D=>r.1=none/\D=s/\∃ q,Ps rest q/\lexB q=lexB ps) _ ?_ ?_ _ _ ⟨rfl,rfl,ps,g,rfl⟩
 .rintro⟨u,v⟩ rest r D ⟨C,rfl,q,M,e⟩;match q,M with
  | (x,y)::q,⟨⟨t,J⟩,⟨m,Y⟩,d⟩ =>
   subst J;subst Y;refine Mb (wpAny_eqBool_int ?_);by_cases c:x=y
   .have:(x == y)=true:=by simp[c]
    rw[this];simp only[Kz,Il,if_false];refine Me ⟨rfl,rfl,q,d,?_⟩;rw[← e];show lexB q=if x=y then lexB q else decide (x<y);rw[Np c]
   .have:(x == y)=false:=by simp[c]
    rw[this];simp only[Bool.not_false,if_true];have B:lexB ps=decide (x<y):=by
     rw[← e];show(if x=y then lexB q else decide (x<y))=_;rw[Nq c]
    rw[B]at h;refine Mb (wpAny_rule (Mb (CmpOf.ints_lt (prog:=prog) (w:=w) (A:=A) (P:=λ(i:Nat) v=>∃ t,v=.int (if i=0 then x else y) t) (λi=>if i=0 then x else y) (λi v h=>h) 0 1 _ _ _ _ _ ⟨t,rfl⟩ ⟨m,rfl⟩ ?_)));exact Mb (Me (Me (Me h)))
 .rintro⟨f,o⟩ D ⟨C,rfl,q,M,e⟩;simp only at C;subst C;have k:q=[]:=by
   cases q with
   |nil=>rfl
   |cons z q=>exact M.elim
  subst k;have Q:Builtin.Tuple.tupleCompareSizes CmpOp.Lt us.size vs.size=Value.bool (lexB ps):=by
   rw[← e,hl];show Value.bool (decide (vs.size<vs.size))=Value.bool false;rw[LQ (Ia _)]
  show wpAny _ _ (ret (Builtin.Tuple.tupleCompareSizes CmpOp.Lt us.size vs.size)) _ _ _;rw[Q];exact Me h
theorem tup_lt{b:Addr}{oa:Obj}{us vs:Array Value}{ps:List (Int×Int)}(G:s.heap.get? a=some oa)(m:oa.cls=.type "tuple")(n:oa.data=.seq us N)(H:s.heap.get? b=some ob)(l:ob.cls=.type "tuple")(k:ob.data=.seq vs i)(g:Ps (us.toList.zip vs.toList) ps)(hl:us.size=vs.size)(hu:A.units<cLine)(h:Q (.bool (lexB ps)) s):wpAny (model prog w) A (richCompare .Lt (.ref a) (.ref b)) Q E s:=by
 refine wpAny_richCompare_same_room (op:=.Lt) (T:="tuple") ⟨oa,G,m⟩ ⟨ob,H,l⟩ PySem.F.slot_tuple_lt (MN PySem.F.slot_tuple_lt ⟨oa,G,m⟩ PySem.F.entry_tuple_lt ?_ (PySem.F.args_tuple_lt_2 _ _)) hu;exact Fd G n H l k g hl ⟨_,rfl,(λz=>by cases z),h⟩
theorem AW{S:Addr}{P:Nat->Value->Prop}{St:Nat->Heap->Prop}{g:Heap}(W:Walks prog w A.in1 a fp [a] n P St)(bt:Nat->Nat->Bool)(gJ:g.get? a=none)(gS:g.get? S=none)(ab:S≠a)(G:S∉fp)(aa:∀ i j u v,i<n->j<n->P i u->P j v->∀(h:Heap)(tk:Nat)(Q:Value->Shared->Prop)(E:Value->Shared->Prop),Kp g h->Q (.bool (bt i j)) {s with heap:=h,toks:=tk}->wpAny (model prog w) A.in1 (richCompare .Lt u v) Q E {s with heap:=h,toks:=tk})(p:∀ v h' H,P (argBest bt (n-1)) v->Kp g h'->R (.ok (.ret v)) {s with heap:=h',toks:=H}):
  ∀(r j:Nat)(h:Heap)(tk:Nat)(l:Value)(c:Nat),n-(j+1)=r->j+1<=n->Kp g h->h.get? S=some (MY "list" #[l,l] c)->St (j+1) h->P (argBest bt j) l->argBest bt j<n ->
   Mp (model prog w) A (.builtin "min.loop" ⟨[.ref a,.none,.ref S],[]⟩) R {s with heap:=h,toks:=tk}:=by
 intro r;induction r with
 |zero =>
  intro j h tk l c er N kg x st D L;have d:j+1=n:=by omega
  refine M5 Jb ?_;rw[M7 HM _];refine Mb (m:=seqItems? (.ref S)) (M8 x rfl ?_);show wpAny _ A.in1 (tryCatch (pyNext (.ref a)) _ >>= _) _ _ _;refine Mb (M9 (W.done _ _ _ (by rw[← d];exact st) λh' H y=>?_))
  have ac:=kg.but gJ y;have t:=y S _ (by simpa using ab) x
  have B:=MR h' S (Mw λ_=>(#[]:Array Value));refine Mb (m:=Na S λ_=>#[]) (Nb t rfl (Mb (MX (Me ?_))));exact p l _ _ (by rw[← d];exact D) (ac.same gS B)
 |succ r C =>
  intro j h tk l c er N kg x st D L;have lt:j+1<n:=by omega
  refine M5 Jb ?_;rw[M7 HM _];refine Mb (m:=seqItems? (.ref S)) (M8 x rfl ?_);show wpAny _ A.in1 (tryCatch (pyNext (.ref a)) _ >>= _) _ _ _;refine Mb (M9 (W.item (j+1) _ _ _ lt st λv k I O q M=>?_));have f:=kg.but gJ M;have T:=M S _ (by simpa using ab) x
  show wpAny _ A.in1 (tryCatch (holding [v,v] (richCompare .Lt v l >>= _)) _ >>= _) _ _ _;refine Mb (M9 (Mc (Mb (aa (j+1) (argBest bt j) v l lt L O D k I _ _ f ?_))));refine Mb (Mc (L9 (Mb (MX (Me ?_)))));have eA:argBest bt (j+1)=if bt (j+1) (argBest bt j)=true then j+1 else argBest bt j:=rfl
  cases cc:bt (j+1) (argBest bt j) with
  |true =>
   have B:=MR k S (Mw λ_=>#[v,v]);obtain⟨c2,Y⟩:∃ c2,(k.update S (Mw λ_=>#[v,v])).get? S=some (MY "list" #[v,v] c2):=⟨_,MZ T λ_=>#[v,v]⟩;simp;refine Mb (Nb T rfl (Mb (MX ?_)));rw[Np cc]at eA;refine Me ⟨Nc HM _,C (j+1) _ _ v c2 ∅ lt (f.same gS B) Y (W.frame _ _ _ q λb L o e=>(B.2 b (λz=>G (z▸L))).trans e) (by rw[eA];exact O) (by rw[eA];exact lt)⟩
  |false =>
   simp;rw[Nq (by rw[cc];simp)]at eA
   refine Mb (MX (Me ?_));refine⟨Nc HM _,C (j+1) _ _ l c ∅ lt f T q (by rw[eA];exact D) (by rw[eA];exact L)⟩
theorem Dt{l:Addr}(bt:Nat->Nat->Bool)(n:A.handled=none)(hl:s.heap.IsList l vs.toArray)(D:0<vs.length)(aa:∀(i j:Nat)(u v:Value),vs[i]?=some u->vs[j]?=some v->∀(h:Heap)(tk:Nat)(Q:Value->Shared->Prop)(E:Value->Shared->Prop),Kp s.heap h->Q (.bool (bt i j)) {s with heap:=h,toks:=tk}->wpAny (model prog w) A.in1 (richCompare .Lt u v) Q E {s with heap:=h,toks:=tk})(p:∀ v h' H,vs[argBest bt (vs.length-1)]?=some v->Kp s.heap h'->Q v {s with heap:=h',toks:=H}):
  wpAny (model prog w) A (call (.builtin "min") [.ref l]) Q E s:=by
 have C:(toString "min"++toString ".loop" : String) = "min.loop":=by decide
 obtain⟨ol,ac,_⟩:=id hl;have ll:l<s.heap.objs.size:=LS ac;refine kmk_tree PySem.F.kind_min PySem.F.plain_min PySem.F.entry_min (PySem.F.args_min1 _) ?_;show wpAny _ A.in1 (Nd "min" ["key","default"] 0 ⟨[],[]⟩ >>= _) _ _ s;refine Mb (wpAny_of_eq (show Nd "min" ["key","default"] 0 ⟨[],[]⟩=pure [none,none] from rfl) (Mb (Me (Mb (wpAny_pyIter_list hl ?_)))));refine Mb (M0 ?_ (HI _));rw[C];obtain⟨g,c⟩:∃ g:Obj,g={cls:=Value.type "list_iterator",data:=Data.fields #[Value.ref l,Value.int 0 0]}:=⟨_,rfl⟩;rw[← c];have sz:(s.heap.push g).objs.size=s.heap.objs.size+1:=by rw[Mq]
 have t:(s.heap.push g).objs.size≠s.heap.objs.size:=by omega
 have G:l≠s.heap.objs.size:=Hr ll;have d:∀ b,s.heap.objs.size<=b->s.heap.get? b=none:=λb L=>LW L;have a:Kp s.heap ((s.heap.push g).push (MY "list" #[] 0)):=λb o e=>Mf _ (Mf _ e);have x:((s.heap.push g).push (MY "list" #[] 0)).get? (s.heap.push g).objs.size=some (MY "list" #[] 0):=Mg _ rfl;have hJ:((s.heap.push g).push (MY "list" #[] 0)).get? s.heap.objs.size=some g:=Mf _ (Mg _ (by rw[c];rfl))
 have W:=Walks.list (prog:=prog) (w:=w) (A:=A.in1) n s.heap.objs.size l G vs.toArray;have ae:vs.toArray.size=vs.length:=Hl ..;rw[ae]at W;have ab:∀ i j u v,i<vs.length->j<vs.length->vs.toArray[i]?=some u->vs.toArray[j]?=some v->∀(h:Heap)(tk:Nat)(Q:Value->Shared->Prop)(E:Value->Shared->Prop),Kp s.heap h->Q (.bool (bt i j)) {s with heap:=h,toks:=tk}->wpAny (model prog w) A.in1 (richCompare .Lt u v) Q E {s with heap:=h,toks:=tk}:=λi j u v _ _ J Y=>aa i j u v (by simpa using J) (by simpa using Y)
 refine Me ⟨Nc HM _,M5 Jb ?_⟩;rw[M7 HM _];refine Mb (m:=seqItems? (.ref (s.heap.push g).objs.size)) (M8 x rfl ?_);show wpAny _ A.in1 (tryCatch (pyNext (.ref s.heap.objs.size)) _ >>= _) _ _ _;refine Mb (M9 (W.item 0 _ _ _ D ⟨⟨g,hJ,by rw[c],by rw[c];rfl⟩,hl.at λo e=>a _ _ e⟩ λv J I O q M=>?_))
 have f:=a.but (d _ (G0 _)) M;have T:=M _ _ (by simpa using t) x
 have B:=MR J (s.heap.push g).objs.size (Mw λ_=>#[v,v]);obtain⟨c2,k⟩:∃ c2,(J.update (s.heap.push g).objs.size (Mw λ_=>#[v,v])).get? (s.heap.push g).objs.size=some (MY "list" #[v,v] c2):=⟨_,MZ T λ_=>#[v,v]⟩;have N:(s.heap.push g).objs.size∉[s.heap.objs.size,l]:=λz=>by
  rcases G6.mp z with z|z
  .exact t z
  .have r:=Hi.mp z
   exact Nr ll (by rw[← r,sz];exact JT (IV _))
 refine Mb (m:=Na _ λ_=>#[v,v]) (Nb T rfl ?_);rw[C];refine Me ⟨Nc HM _,AW W bt (d _ (G0 _)) (d _ ∅) t N ab (λv h' H e y=>p v h' H (by simpa using e) y) _ 0 _ _ v c2 rfl D (f.same (d _ ∅) B) k (W.frame _ _ _ q λb L o e=>(B.2 b (λz=>N (z▸L))).trans e) O D⟩
end
abbrev T3:=Int×Int×Int
def TrA(H:Hp)(v:V)(t:T3):Prop:=∃ a,v=.ref a/\H a=some (.tup [.int t.1,.int t.2.1,.int t.2.2])
def lt3(a b:T3):Bool:=lexB [(a.1,b.1),(a.2.1,b.2.1),(a.2.2,b.2.2)]
theorem lt3_le{a b:T3}(h:lt3 a b=true):a.1<=b.1:=by
 unfold lt3 lexB at h;by_cases c:a.1=b.1
 .omega
 .rw[Nq c]at h;have:=Nf h;omega
theorem lt3_ge{a b:T3}(h:lt3 a b=false):b.1<=a.1:=by
 unfold lt3 lexB at h;by_cases c:a.1=b.1
 .omega
 .rw[Nq c]at h;have:=of_decide_eq_false h;omega
theorem best3(W:Nat->T3):∀ k,argBest (λi j=>lt3 (W i) (W j)) k<=k/\∀ j,j<=k->(W (argBest (λi j=>lt3 (W i) (W j)) k)).1<=(W j).1
 |0=>by
  refine⟨G0 _,λj N=>?_⟩;have e:j=0:=by omega
  rw[e];exact II _
 |k+1=>by
  obtain⟨J,Y⟩:=best3 W k;have e:argBest (λi j=>lt3 (W i) (W j)) (k+1)=if lt3 (W (k+1)) (W (argBest (λi j=>lt3 (W i) (W j)) k))=true then k+1 else argBest (λi j=>lt3 (W i) (W j)) k:=rfl;rw[e]
  cases c:lt3 (W (k+1)) (W (argBest (λi j=>lt3 (W i) (W j)) k)) with
  |true =>
   rw[Np rfl];have A:=lt3_le c;refine⟨G0 _,λj N=>?_⟩;by_cases z:j=k+1
   .subst z;exact II _
   .have:=Y j ∅;omega
  |false =>
   rw[Nq Hj];have A:=lt3_ge c;refine⟨∅,λj N=>?_⟩
   by_cases z:j=k+1
   .subst z;exact A
   .exact Y j ∅
inductive rMin3(K:GX)(xs:List V)(H:L2.Hp)(Q:L2.VK):Prop
 |mk (p ys ws:_) (h0_:xs=[.ref p])(h1_:SqL K H p ys)(h2_:LsAt TrA H ys ws)(h3_:ws≠[])(h4_:∀(i:Nat)(y:V)(t:T3),ys[i]?=some y->ws[i]?=some t->(∀ t'∈ws,t.1<=t'.1)->Q y H)
theorem B8(C:X.calm=true)(hu:X.A.units+64<cLine):gR X (.builtin "min") (rMin3 X.K):=by
 intro B s M H D Y Q I r h;obtain⟨p,k,x,rfl,O,hL,aa,q⟩:=h;obtain⟨u,rfl,d⟩:=jW r
 cases d
 obtain⟨L,rv,pl,_⟩:=I.list O;have yl:=hL.1;have il:=rv.length;have wp:0<x.length:=List.length_pos_iff.mpr aa;let W:Nat->T3:=λi=>x.getD i (0,0,0);have Wi:∀ i t,x[i]?=some t->W i=t:=λi t e=>by show x.getD i (0,0,0)=t;rw[Hg,e];rfl
 have look:∀(i:Nat)(v:Value),L[i]?=some v->∃ a o y1 y2 y3 n,v=.ref a/\s.heap.get? a=some o/\o.cls=.type "tuple"/\o.data=.seq #[y1,y2,y3] n/\(∃ t,y1=.int (W i).1 t)/\(∃ t,y2=.int (W i).2.1 t)/\(∃ t,y3=.int (W i).2.2 t):=λi v e=>by
  have l:i<k.length:=by rw[il];exact(GV.mp e).1
  obtain⟨t,T,a,ea,G⟩:=hL.get (GU l);obtain⟨v',ev,al⟩:=rv.get (GU l);rw[e]at ev
  cases ev
  rw[ea]at al;obtain rfl:v=.ref a:=al;obtain⟨_,ap,rt,o,c,ab,n,hd⟩:=I.hok a _ G;rw[Wi i t T];obtain⟨y1,u1,rfl,w,c1⟩:=Vals.unc rt;obtain⟨y2,u2,rfl,r2,c2⟩:=Vals.unc c1;obtain⟨y3,u3,rfl,r3,c3⟩:=Vals.unc c2;cases c3
  exact⟨a,o,y1,y2,y3,n,rfl,c,ab,hd,w,r2,r3⟩
 refine Dt (vs:=L) (λi j=>lt3 (W i) (W j)) (I.ok.hd C) pl.isList ∅ ?_ ?_
 .intro i j u v an ae h tk Q' E' y hQ;have am:X.A.in1.units<cLine:=by
   have e:X.A.in1.units<=X.A.units+64:=by simp[Around.in1]
   omega
  obtain⟨a,oa,y1,y2,y3,n,rfl,ga,ca,da,w,r2,r3⟩:=look i u an;obtain⟨b,ob,J,g,z3,m,rfl,gb,cb,db,E,z,q3⟩:=look j v ae;exact tup_lt (y _ _ ga) ca da (y _ _ gb) cb db (ps:=[((W i).1,(W j).1),((W i).2.1,(W j).2.1),((W i).2.2,(W j).2.2)]) ⟨w,E,r2,z,r3,q3,trivial⟩ rfl am hQ
 .intro v f tk e y;obtain⟨b1,b2⟩:=best3 W (L.length-1);have l:argBest (λi j=>lt3 (W i) (W j)) (L.length-1)<k.length:=by omega
  obtain⟨t,T,_⟩:=hL.get (GU l);obtain⟨v',ev,al⟩:=rv.get (GU l);rw[e]at ev
  cases ev
  refine⟨_,H,I.kept y,al,q _ _ t (GU l) T λt' ac=>?_⟩;obtain⟨j,N,ej⟩:=Im ac;have:=b2 j ∅
  rw[Wi _ t T,Wi j t' (by rw[GU N,ej])]at this
  exact this
theorem Ef{xs:Array Nat}(T:xs.toList.Pairwise (· < ·)):∀(l lo hi:Nat),hi-lo<=l->lo<=hi->hi<=xs.size->(∀ i,i<lo->xs.getD i j<j)->(∀ i,hi<=i->i<xs.size->j<=xs.getD i j) ->
  (∀ i,i<SetTable.below.go xs j l lo hi->xs.getD i j<j)/\(∀ i,SetTable.below.go xs j l lo hi<=i->i<xs.size->j<=xs.getD i j)/\SetTable.below.go xs j l lo hi<=xs.size:=by
 have up:∀ a b,a<b->b<xs.size->xs.getD a j<xs.getD b j:=λa b m L=>by
  have o:a<xs.size:=Jg m L;have:=JD.mp T a b (by simpa using o) (by simpa using L) m
  simpa[JZ,o,L] using this
 intro l;induction l with
 |zero =>
  intro lo hi J Y A M s;have:lo=hi:=by omega
  subst this;exact⟨M,s,A⟩
 |succ l C =>
  intro lo hi J Y A M s;unfold SetTable.below.go;by_cases c:lo<hi
  .rw[Np c];have t:lo<=(lo+hi)/2:=by omega
   have D:(lo+hi)/2<hi:=by omega
   dsimp only;by_cases d:xs.getD ((lo+hi)/2) j<j
   .rw[Np d];refine C _ _ ∅ ∅ A (λi u=>?_) s
    by_cases e:i=(lo+hi)/2
    .rw[e];exact d
    .exact Jg (up i _ ∅ ∅) d
   .rw[Nq d];refine C _ _ ∅ ∅ ∅ M λi u G=>?_
    by_cases e:i=(lo+hi)/2
    .rw[e];omega
    .have:=up _ i (show(lo+hi)/2<i by omega) G
     omega
  .rw[Nq c];have:lo=hi:=by omega
   subst this;exact⟨M,s,A⟩
theorem yp{xs:Array Nat}(T:xs.toList.Pairwise (· < ·))(j:Nat):(∀ i,i<Ng xs j->xs.getD i j<j)/\(∀ i,Ng xs j<=i->i<xs.size->j<=xs.getD i j)/\Ng xs j<=xs.size :=
 Ef T xs.size 0 xs.size ∅ (HI _) (G0 _) (λi h=>Nr h (Iw _)) λi J Y=>Nr Y ∅
def SetT(t:SetTable):Prop:=t.place.toList.Pairwise (· < ·)/\t.dummies=#[]
theorem SetT.fresh(a b:Nat)(g:Bool):SetT (.fresh a b g):=⟨JQ,rfl⟩
theorem SetT.standIn(t:SetTable)(n:Nat):SetT (t.standIn n):=⟨by
 show(Array.range n).toList.Pairwise (· < ·);rw[Array.toList_range]
 exact List.pairwise_lt_range,rfl⟩
theorem Bq(j:Nat):SetTable.has #[] j=false:=by
 unfold SetTable.has;simp
theorem SetT.put{t:SetTable}(h:SetT t)(hj:t.slot j=.empty):SetT (t.put j).1:=by
 obtain⟨T,hd⟩:=h;obtain⟨b1,b2,b3⟩:=yp T j;have ne:t.place[Ng t.place j]?≠some j:=λz=>by
  unfold SetTable.slot at hj;dsimp only at hj;rw[z]at hj;simp at hj
 refine⟨?_,?_⟩
 .show(SetTable.insertAt t.place (Ng t.place j) j).toList.Pairwise (· < ·);rw[SetTable.toList_insertAt];have f:∀ a∈t.place.toList.take (Ng t.place j),a<j:=λa G=>by
   obtain⟨i,I⟩:=HU.mp G;have u:i<Ng t.place j:=by
    have:=(GV.mp I).1;rw[HY]at this;omega
   rw[La,Np u]at I;have:=b1 i u;rw[Ib]at I;rw[Ke,I]at this;exact this
  have c:∀ b∈t.place.toList.drop (Ng t.place j),j<b:=λb L=>by
   obtain⟨i,I⟩:=HU.mp L;rw[List.getElem?_drop,Ib]at I;have u:Ng t.place j+i<t.place.size:=by
    obtain⟨z,_⟩:=Kg.mp I;exact z
   have J:=b2 _ (JU _ i) u;rw[Ke,I]at J;have d:j<=b:=J;rcases Nat.lt_or_ge j b with z|z
   .exact z
   .have e:b=j:=by omega
    subst e;by_cases k:i=0
    .subst k;exact Nr I ne
    .have o:=b2 (Ng t.place b) (G0 _) ∅
     have:=JD.mp T (Ng t.place b) (Ng t.place b+i) (by simp;omega) (by simpa using u) ∅
     obtain⟨H,g⟩:=Kg.mp I;have E:t.place.getD (Ng t.place b) b=t.place[Ng t.place b]'∅:=by rw[Ke,Iq];rfl
     rw[E]at o;simp only[Array.getElem_toList]at this;rw[g]at this;omega
  refine List.pairwise_append.mpr ⟨T.sublist (List.take_sublist _ _),K7.mpr ⟨c,T.sublist (List.drop_sublist _ _)⟩,λa G b L=>?_⟩;rcases G6.mp L with z|z
  .rw[z];exact f a G
  .exact Jg (f a G) (c b z)
 .show(if SetTable.has t.dummies j=true then SetTable.eraseAt t.dummies (Ng t.dummies j) else t.dummies)=#[];rw[hd,Bq,Nq Hj]
theorem CM{t:SetTable}{f:Nat->Int}{h:Int}(hd:t.dummies=#[]):∀(l:Nat)(p:SetTable.Probe),p.dummy=none->∀ j d,SetTable.probe.go t f h l p=some (.empty j d)->t.slot j=.empty/\d=none:=by
 intro l;have s:∀ j,t.slot j≠.dummy:=λj z=>by
  unfold SetTable.slot at z;rw[hd,Bq]at z;simp only[Il,if_false]at z;split at z<;>cases z
 induction l with
 |zero=>intro p _ j d e;cases e
 |succ l C =>
  intro p g j d e;have a:(t.advance p).dummy=none:=by
   unfold SetTable.advance;split<;>exact g
  unfold SetTable.probe.go at e;split at e
  .rename_i T
   cases e
   exact⟨T,g⟩
  .rename_i T;exact Nr T (s _)
  .split at e
   .cases e
   .exact C _ a j d e
theorem SetT.layNew{t:SetTable}(h:SetT t)(es:Array (Int×Value))(n:Int)(x:Value):SetT (layNew t es n x).2.1/\(layNew t es n x).2.1.led=t.led:=by
 unfold PySem.layNew;split
 .rename_i a b e;unfold SetTable.freeSlot at e;split at e
  .rename_i j c E;obtain⟨H,g⟩:=CM h.2 _ _ rfl j c E;subst g;have u:(j,false)=(a,b):=Hq e
   cases u
   dsimp only;unfold SetTable.orStandIn;split
   .exact⟨h.put H,rfl⟩
   .exact⟨SetT.standIn _ _,rfl⟩
  .cases e
 .exact⟨SetT.standIn _ _,rfl⟩
theorem vO(n:Nat)(g:Nat->Option Nat):(((Ik n).filterMap λj=>(g j).map (j,·)).map (·.1)).Pairwise (· < ·):=by
 have:((Ik n).filterMap λj=>(g j).map (j,·)).map (·.1)=(Ik n).filter λj=>(g j).isSome:=by
  induction (Ik n) with
  |nil=>rfl
  |cons a l C =>
   cases e:g a with
   |none=>simp[e,C]
   |some b=>simp[e,C]
 rw[this];exact List.pairwise_lt_range.filter _
theorem SetT.relayAll(t:SetTable)(es:Array (Int×Value))(a:Nat):SetT (relayAll t es a).2.1/\(relayAll t es a).2.1.led=t.led:=by
 unfold PySem.relayAll;split
 .rename_i m b e;dsimp only;split
  .unfold SetTable.relaid SetTable.laid at e
   cases D:SetTable.layClean (SetTable.sizeAbove a-1) (es.map (·.1)) with
   |none=>rw[D]at e;cases e
   |some c =>
    rw[D]at e
    cases e
    refine⟨⟨?_,rfl⟩,rfl⟩;show(List.toArray _).toList.Pairwise (· < ·);rw[List.toList_toArray];exact vO _ _
  .exact⟨SetT.standIn _ _,rfl⟩
 .exact⟨SetT.standIn _ _,rfl⟩
theorem nG(p:us.Perm vs):∀{ns:List Int},MA vs ns->∃ ms,MA us ms/\ms.Perm ns:=by
 have go:∀{us vs:List Value},us.Perm vs->∀{ns:List Int},MA us ns->∃ ms,MA vs ms/\ms.Perm ns:=by
  intro us vs p;induction p with
  |nil=>exact λh=>⟨_,h,.rfl⟩
  |cons x _ C =>
   intro ns h
   cases h with
   |cons n t h =>
    obtain⟨ms,J,Y⟩:=C h;exact⟨n::ms,.cons n t J,Y.cons n⟩
  |swap x y l =>
   intro ns h
   cases h with
   |cons n t h =>
    cases h with
    |cons i m h=>exact⟨i::n::_,.cons i m (.cons n t h),List.Perm.swap _ _ _⟩
  |trans _ _ a b =>
   intro ns h;obtain⟨ms,J,Y⟩:=a h;obtain⟨r,A,M⟩:=b J;exact⟨r,A,M.trans Y⟩
 exact λ{ns} h=>go p.symm h
theorem Bf(h:MA vs ns)(k:Int)(t:Tok):MA (vs++[.int k t]) (ns++[k]):=by
 induction h with
 |nil=>exact .cons k t .nil
 |cons n m _ C=>exact .cons n m C
theorem xZ(h:MA vs ns):(∀ v∈vs,∃ n t,v=.int n t/\n∈ns)/\∀ n∈ns,∃ t,Value.int n t∈vs:=by
 induction h with
 |nil=>exact⟨λv O=>(nomatch O),λn T=>(nomatch T)⟩
 |cons n t _ C =>
  refine⟨λv O=>?_,λm y=>?_⟩
  .rcases G6.mp O with z|z
   .exact⟨n,t,z,G9 ..⟩
   .obtain⟨a,b,c,d⟩:=C.1 v z;exact⟨a,b,c,G4 _ d⟩
  .rcases G6.mp y with z|z
   .subst z;exact⟨t,G9 ..⟩
   .obtain⟨b,c⟩:=C.2 m z;exact⟨b,G4 _ c⟩
def byT(w:World):Bool:=w.params.followText "set-order"
def SetG(P:Program)(w:World)(h:Heap)(a:Addr)(l:List Int):Prop:=∃ o B M t,h.get? a=some o/\o.ExactSet/\o.data=.set B M t/\ElemsOf (intKind P w) B.toList/\(∃ b,MA (B.toList.map (·.2)) b/\b.Perm l)/\l.Nodup/\B.size<scanBound/\t.fits B.size=true/\SetT t/\t.led = !byT w
theorem SetG.keeps{l:List Int}(g:SetG P w h a l)(k:∀ o,h.get? a=some o->h'.get? a=some o):SetG P w h' a l:=by
 obtain⟨o,B,M,t,N,r⟩:=g;exact⟨o,B,M,t,k o N,r⟩
def addN(l:List Int)(k:Int):List Int:=if k∈l then l else l++[k]
theorem xD{es es':Array (Int×Value)}{t t':SetTable}{l:List Int}(go:h.get? a=some o)(n:o.ExactSet)(D:o.data=.set es ep t)(x:ElemsOf (intKind P w) es'.toList)(u:∃ ns,MA (es'.toList.map (·.2)) ns/\ns.Perm l)(nd:l.Nodup)(sz:es'.size<scanBound)(L:t'.fits es'.size=true)(r:SetT t')(ld:t'.led = !byT w):
  SetG P w (h.update a (Obj.putSet es' t')) a l/\∃ b,(h.update a (Obj.putSet es' t')).get? a=some b/\b.ExactSet/\b.data=.set es' (ep+1) t':=by
 have J:=Mx (Obj.putSet es' t') go (by rw[putSet_of es' t' D];rfl)
 rw[putSet_of es' t' D]at J;exact⟨⟨_,es',ep+1,t',J,n,rfl,x,u,nd,sz,L,r,ld⟩,_,J,n,rfl⟩
section
variable{prog:Program}{w:World}{A:Around}{E:Value->Shared->Prop}{s:Shared}
theorem putInS{l:List Int}{k:Int}{tk:Tok}{Q:Bool->Shared->Prop}(g:SetG prog w s.heap a l)(room:l.length+1<scanBound)(q:∀(b:Bool)(h':Heap),LX a s.heap h'->SetG prog w h' a (addN l k)->Q b {s with heap:=h'}):wpAny (model prog w) A (setAddHashed a (.int k tk) ((intKind prog w).hash k)) Q E s:=by
 obtain⟨o,B,ep,t,go,gx,gd,el,⟨I,ia,pm⟩,nd,sz,ft,tg,ld⟩:=id g;have aT:(intKind prog w).is k (.int k tk)=true:=intKind_is _ _ _ _;have len:B.size=l.length:=by
  have J:∀{O:List Value}{I:List Int},MA O I->O.length=I.length:=λh=>by
   induction h with
   |nil=>rfl
   |cons _ _ _ C=>rw[Hk,Hk,C]
  have:=J ia;rw[GY,HB,pm.length_eq]at this;exact this
 have gw:∀(b:Bool){aa:Shared}{Q':Unit->Shared->Prop},Q' () aa->wpAny (model prog w) A (match b with|true=>rule "set.scan.the-table-gave-way" | false=>pure ()) Q' E aa:=λb=>by
  intro v Q' u
  cases b
  .exact Me u
  .exact wpAny_rule u
 unfold setAddHashed setAddHashedIn;refine Mc (Mb (Nh go gd ft ?_));dsimp only;rw[byScan_of (knd:=intKind prog w) rfl sz el];simp only[↓reduceIte];unfold setAddByScan;refine Mb (Mb (wpAny_rule (Mb (wpAny_setScan_of (knd:=intKind prog w) aT go gd ft el ?_))))
 cases fr:List.findIdx? (λe=>(intKind prog w).is k e.2) B.toList with
 |some j =>
  obtain⟨jl,jp,_⟩:=List.findIdx?_eq_some_iff_getElem.mp fr;have ae:k∈l:=by
   obtain⟨n,t',y,i⟩:=(xZ ia).1 _ (List.mem_map_of_mem (f:=(·.2)) (Ij jl));have e3:(B.toList[j]).2=.int n t':=y;rw[e3]at jp;have:k=n:=(intKind prog w).inj _ k n jp (intKind_is _ _ _ _);rw[this];exact pm.mem_iff.mp i
  refine Me (Me ?_);have e:addN l k=l:=Np ae;have:=q false s.heap (Heap.SameBut.refl a s.heap) (by rw[e];exact g)
  exact this
 |none =>
  have an:k∉l:=λz=>by
   obtain⟨t',m⟩:=(xZ ia).2 k (pm.mem_iff.mpr z);obtain⟨e,c,i⟩:=HS.mp m;have:=List.findIdx?_eq_none_iff.mp fr e c;rw[i,intKind_is]at this
   cases this
  have ea:addN l k=l++[k]:=Nq an;have aW:(l++[k]).Nodup:=Ht.mpr ⟨nd,Hf.mpr ⟨Jq,IE⟩,λa d b L e=>an (by rw[Hi.mp L]at e;exact e▸d)⟩
  have M:=layNew_perm t B ((intKind prog w).hash k) (.int k tk);have p:=layNew_fits t B ((intKind prog w).hash k) (.int k tk);obtain⟨T,G⟩:=tg.layNew B ((intKind prog w).hash k) (.int k tk);dsimp only;generalize layNew t B ((intKind prog w).hash k) (.int k tk)=N at M p T G ⊢;obtain⟨ab,t1,wd,gv⟩:=N;dsimp only at M p T G ⊢;rw[Lg]at M;have a0:ElemsOf (intKind prog w) ab.toList:=(el.push aT rfl).perm M;have a1:∃ ms,MA (ab.toList.map (·.2)) ms/\ms.Perm (l++[k]):=by
   have p2:=M.map (·.2);rw[Hm]at p2;obtain⟨ms,J,Y⟩:=nG p2 (Bf ia k tk);exact⟨ms,J,Y.trans (pm.append_right _)⟩
  have ap:ab.size<scanBound:=by rw[← HB,M.length_eq,GZ,HB,len];exact room
  have a7:t1.led = !byT w:=G.trans ld;refine Mb (gw _ ?_)
  have am:∀ t2:SetTable,t2.fits ab.size=true->SetT t2->t2.led = !byT w->wpAny (model prog w) A (do
    storeSet a ab t2
    if(!wd&&t2.tooFull)=true then do
      (match(relayAll t2 ab (Ni ab.size)).2.2 with|true=>rule "set.scan.the-table-gave-way" | false=>pure ())
      storeSet a (relayAll t2 ab (Ni ab.size)).1 (relayAll t2 ab (Ni ab.size)).2.1
      pure (some true)
     else pure (some true)) (λr D=>∃ b:Bool,r=some b/\Q b D) E s:=by
   intro t2 f2 g2 l2;obtain⟨G1,o2,a2,ba,a3⟩:=xD (P:=prog) (w:=w) go gx gd a0 a1 aW ap f2 g2 l2;have a4:=MR s.heap a (Obj.putSet ab t2);refine Mb (wpAny_storeSet_of go gd ?_ (fits_of_scanBound ap));split
   .have ac:=relayAll_perm t2 ab (Ni ab.size)
    have aI:=relayAll_fits t2 ab (Ni ab.size);obtain⟨aL,al⟩:=SetT.relayAll t2 ab (Ni ab.size);generalize relayAll t2 ab (Ni ab.size)=N2 at ac aI aL al ⊢;obtain⟨a5,t3,bd⟩:=N2;dsimp only at ac aI aL al ⊢;have bb:∃ ms,MA (a5.toList.map (·.2)) ms/\ms.Perm (l++[k]):=by
     obtain⟨m1,J,Y⟩:=a1;obtain⟨ms,H,h4⟩:=nG (ac.map (·.2)) J;exact⟨ms,H,h4.trans Y⟩
    have a6:a5.size<scanBound:=by rw[← HB,ac.length_eq,HB];exact ap
    refine Mb (gw _ (Mb (wpAny_storeSet_of a2 a3 ?_ (fits_of_scanBound a6))));obtain⟨G2,_⟩:=xD (P:=prog) (w:=w) a2 ba a3 (a0.perm ac) bb aW a6 aI aL (al.trans l2);refine Me ⟨true,rfl,?_⟩;exact q true _ (a4.trans (MR _ a _)) (by rw[ea];exact G2)
   .refine Me ⟨true,rfl,?_⟩;exact q true _ a4 (by rw[ea];exact G1)
  have all:=am t1 p T a7
  have step:∀(r:Option Bool)(D:Shared),(∃ b:Bool,r=some b/\Q b D)->wpAny (model prog w) A (match r with
    |some aS=>pure aS
    |none=>setAddHashedIn a (Value.int k tk) ((intKind prog w).hash k) 99999) Q E D:=λr D ⟨b,e,z⟩=>by
   subst e;exact Me z
  split
  .refine Mb ?_;rw[hashByValue_scannable 8 (x:=Value.int k tk) rfl];refine Me ?_;exact LZ all step λ_ _ z=>z
  .refine Mb (Me ?_);exact LZ all step λ_ _ z=>z
theorem yr(l:List Int)(k:Int):(addN l k).length<=l.length+1:=by
 unfold addN;split
 .omega
 .rw[GZ];exact G0 _
theorem Ct{S:Addr}{wr:List Addr}{P:Nat->Value->Prop}{St:Nat->Heap->Prop}(W:Walks prog w A.in1 I fp wr n P St)(x:S∉fp)(ns:List Int)(c:ns.length=n)(O:∀ i v,P i v->∃ t,v=.int (ns.getD i 0) t)(L:n+1<scanBound):
  ∀(r i:Nat)(h:Heap)(tk:Nat)(l:List Int),n-i=r->i<=n->St i h->SetG prog w h S l->l.length<=i ->
   (∀ h' H,(∀ b o,b≠S->b∉wr->h.get? b=some o->h'.get? b=some o)->SetG prog w h' S ((ns.drop i).foldl addN l)->R (.ok (.ret .none)) {s with heap:=h',toks:=H}) ->
   Mp (model prog w) A (.builtin "set.update.loop" ⟨[.ref S,.ref I],[]⟩) R {s with heap:=h,toks:=tk}:=by
 have E:S∉wr:=λz=>x (W.sub _ z);intro r;induction r with
 |zero =>
  intro i h tk l er B st g D p;have T:i=n:=by omega
  subst T;refine M5 PyProof.Rows.F.entry_set_update_loop ?_;rw[M7 Nj _];show wpAny _ A.in1 (pyNext (.ref I) >>= _) _ _ _;refine Mb (W.done _ _ _ st λh' H y=>?_);show wpAny _ A.in1 (ret Value.none) _ _ _;refine Me (p h' H (λb o _ j e=>y b o j e) ?_);rw[List.drop_of_length_le ∅]
  exact g.keeps λo e=>y _ _ E e
 |succ r C =>
  intro i h tk l er B st g D p;have u:i<n:=by omega
  refine M5 PyProof.Rows.F.entry_set_update_loop ?_;rw[M7 Nj _];show wpAny _ A.in1 (pyNext (.ref I) >>= _) _ _ _;refine Mb (W.item i _ _ _ u st λv J f pv q M=>?_);obtain⟨t,rfl⟩:=O i v pv;have N:=g.keeps λo e=>M _ _ E e;show wpAny _ A.in1 (holding [Value.int (ns.getD i 0) t] (setAdd S (.int (ns.getD i 0) t)) >>= _) _ _ _;refine Mb (Mc ?_);unfold setAdd;refine Mc (Mb ((intKind prog w).pyHash (k:=ns.getD i 0) (intKind_is _ _ _ _) ?_));refine putInS (l:=l) N ∅ λb Y d a=>?_
  have G:∀ b o,b≠S->J.get? b=some o->Y.get? b=some o:=λb o n e=>(d.2 b n).trans e;have m:ns.drop i=ns.getD i 0::ns.drop (i+1):=by
   rw[LA ∅,Hg,GU ∅]
   rfl
  refine Me ⟨Nc Nj _,C (i+1) _ _ (addN l (ns.getD i 0)) ∅ u (W.frame _ _ _ q λb L o e=>G b o (λz=>x (z▸L)) e) a (by have:=yr l (ns.getD i 0);omega) λh' H y Q=>?_⟩
  refine p h' H (λb o n j e=>y b o n j (G b o n (M b o j e))) ?_;rw[m,KO];exact Q
theorem vn(a:Value){Q₁:Value->Shared->Prop}(h:Q₁ (.ref s.heap.objs.size) {s with heap:=s.heap.push {cls:=.type "set",dict:=none,data:=.set #[] 0 (.fresh 0 0 (!byT w))}}):
  Mp (model prog w) A (.call (.builtin "set.__new__") ⟨[.type "set",a],[]⟩) (wants Q₁ E) s:=by
 refine codeAny_of_tree ?_;show wpAny _ A.in1 (do checkBuiltinCall "set.__new__" ⟨[.type "set",a],[]⟩;again (.builtin "set.__new__" ⟨[.type "set",a],[]⟩)) _ _ s
 refine Mb (wpAny_of_eq (PySem.F.newCall_set_1 a) (Me ⟨Nc PySem.F.plain_set_new _,M5 PySem.F.entry_set_new ?_⟩));rw[M7 PySem.F.plain_set_new _];unfold Builtin.«set.__new__» Builtin.Frozenset.newClass;have b:=PySem.sub_set_self;obtain⟨g,Q,L,u,os⟩:=s;dsimp only;wp_walk;refine Nk (Me ?_);dsimp only;simp only[newObj];exact Mb (wpAny_alloc (Me (Me h)))
theorem eF:∀{vs:List Value}{ns:List Int},MA vs ns->vs.length=ns.length/\∀(i:Nat)(v:Value),vs[i]?=some v->∃ t,v=.int (ns.getD i 0) t
 |_,_,.nil=>⟨rfl,λi v e=>by simp at e⟩
 |_,_,.cons n t r=>by
  obtain⟨J,Y⟩:=eF r;refine⟨by rw[Hk,Hk,J],λi v e=>?_⟩
  match i,e with
  |0,e=>cases e;exact⟨t,rfl⟩
  |i+1,e=>exact Y i v e
abbrev newO(w:World):Obj:={cls:=.type "set",dict:=none,data:=.set #[] 0 (.fresh 0 0 (!byT w))}
theorem newG(e:h.get? a=some (newO w)):SetG P w h a [] :=
 ⟨_,#[],0,_,e,⟨rfl,rfl,rfl⟩,rfl,λx O=>by simp at O,⟨[],.nil,.rfl⟩,IE,by decide,rfl,SetT.fresh _ _ _,rfl⟩
theorem uL{lst:Addr}{its:Array Value}(n:A.handled=none)(hl:s.heap.IsList lst its)(u:MA its.toList ns)(L:its.size+1<scanBound)(q:∀(h':Heap)(tk:Nat),SetG prog w h' s.heap.objs.size (ns.foldl addN [])->(∀ b o,s.heap.get? b=some o->h'.get? b=some o)->Q (.ref s.heap.objs.size) {s with heap:=h',toks:=tk}):
  wpAny (model prog w) A (call (.type "set") [.ref lst]) Q E s:=by
 obtain⟨I,tl,J⟩:=PySem.F.called_set.mro;have al:=PySem.F.called_set.made;have ab:=PySem.F.called_set.sub;obtain⟨t,l⟩:=eF u;have O:ns.length=its.size:=by rw[← t,HB]
 refine wpAny_call (codeAny_of_tree ?_);show wpAny _ _ (callAny (.type "set") _) _ _ _;refine Me ⟨Code.quiet_builtin _ (by decide),M5 PySem.F.entry_type_call ?_⟩
 rw[Around.under_plain (weight_type_call_type "set" [.ref lst] []) rfl];have p:=PySem.F.called_set.notType;have f:=PySem.F.called_set.canCreate;have Y:=PySem.F.typeCall_set_1 (.ref lst);repeat (any_goals (first|assumption|wp_step))
 refine Mt (vn (.ref lst) (E:=E) (Q₁:=λj m=>j=.ref s.heap.objs.size/\m={s with heap:=s.heap.push (newO w)}) ⟨rfl,rfl⟩) λr m N=>?_
 cases r with
 |error e=>exact N
 |ok T =>
  cases T with
  |next=>exact N.elim
  |brk=>exact N.elim
  |cont=>exact N.elim
  |ret j =>
   obtain⟨rfl,rfl⟩:=N;have M:(s.heap.push (newO w)).get? s.heap.objs.size=some (newO w):=Mg _ rfl;have a:Shared.TypeIs {s with heap:=s.heap.push (newO w)} (.ref s.heap.objs.size) "set":=⟨_,M,rfl⟩;have g:=PySem.F.called_set.init.lookup;have x:=PySem.F.called_set.init.bind (.ref s.heap.objs.size);repeat (any_goals (first|assumption|wp_step))
   refine Mt (codeAny_call_builtin (R:=wants (λr d=>r=.none/\∃ h' tk,d={s with heap:=h',toks:=tk}/\SetG prog w h' s.heap.objs.size (ns.foldl addN [])/\∀ b o,s.heap.get? b=some o->h'.get? b=some o) E) PySem.F.called_set.init.plain PySem.F.entry_set_init (check_set_init_1 a ?_)) λac d h=>?_
   .obtain⟨G,go,gc,k,D⟩:=hl;obtain⟨c0,C,ap,c⟩:=G;simp only at gc D;subst gc;subst D;have am:(s.heap.push (newO w)).get? lst=some {cls:=.type "list",dict:=C,data:=.seq its k,slots:=c}:=Mf _ go;have f6:=PySem.F.sub_list_set;have f7:=PySem.F.sub_list_frozenset;have f8:(Value.type "list" == Value.type "dict")=false:=by decide
    have ae:(s.heap.push (newO w)).IsList lst its:=⟨_,am,rfl,k,rfl⟩;unfold Builtin.«set.__init__» noKeywords Builtin.Frozenset.updateFrom;generalize eP:pyIter=PI;wp_walk;subst eP;refine wpAny_pyIter_list ae (Mb (wpAny_runValue ?_));have lS:lst<s.heap.objs.size:=LS go;have nI:lst≠(s.heap.push (newO w)).objs.size:=by rw[Mq];exact Hr (Iz lS)
    have nS:s.heap.objs.size∉[(s.heap.push (newO w)).objs.size,lst]:=by
     rw[Mq];intro z;rcases G6.mp z with z|z
     .exact Nr z (Hr (HK _))
     .rw[Hi]at z;exact Nr z.symm (Hr lS)
    have an:A.in1.in1.in1.handled=none:=by simp[n]
    refine Ct (s:=s) (Walks.list an _ lst nI its) nS ns O (λi v pv=>l i v (by rw[Ib];exact pv)) L its.size 0 _ s.toks [] ∅ (HI _) ⟨⟨_,Mg _ rfl,rfl,rfl⟩,ae.push _⟩ (newG (Mf _ M)) (G0 _) λh' H y gg=>?_
    refine Me ?_;show wpAny _ _ (ret Value.none) _ _ _;refine Me ⟨rfl,h',H,rfl,gg,λb o e=>?_⟩;have bl:=LS e;refine y b o (Hr bl) (λz=>?_) (Mf _ (Mf _ e));rw[Hi,Mq]at z;exact Nr z (Hr (Iz bl))
   .cases ac with
    |error e=>exact h
    |ok aa =>
     cases aa with
     |next=>exact h.elim
     |brk=>exact h.elim
     |cont=>exact h.elim
     |ret r =>
      obtain⟨rfl,h',tk,rfl,g',B⟩:=h;repeat (any_goals (first|assumption|wp_step))
      exact q _ _ g' B
end
theorem bt_set:LV "set"=some (.type "set"):=by decide
theorem wq:entryFor table "set.__iter__"=some Builtin.«frozenset.__iter__»:=entryFor_alias (id':="frozenset.__iter__") (by kernel_rfl) rfl (by decide) (by kernel_rfl)
theorem cW:Slot "set_iterator" "__next__" "set_iterator.__next__" :=
 Slot.of (owner:="set_iterator") (n:="__next__") (by rw[typeLookup_type,builtinLookup_eq_fast];kernel_rfl) (by decide) (by decide) (by decide) (by first|exact .inl (by decide)|exact .inr (by decide)) (by rw[isSubtype_type];kernel_rfl)
theorem pd:entryFor table "set_iterator.__next__"=some Builtin.«set_iterator.__next__»:=entryFor_of_tree (by kernel_rfl)
theorem ow_si:Manifest.owners.lookup (String.ofList ['r','o','t','a','r','e','t','i','_','t','e','s'].reverse)=some Manifest.sig_set_iterator:=by kernel_rfl
theorem pA(a:Value):argsOk "set_iterator.__next__" ⟨[a],[]⟩:=by
 unfold argsOk;rw[signature?_of (id:="set_iterator.__next__") (n:=['_','_','t','x','e','n','_','_']) (o:=['r','o','t','a','r','e','t','i','_','t','e','s']) (by kernel_rfl) ow_si]
 kernel_rfl
theorem oM:Slot "set_iterator" "__iter__" "set_iterator.__iter__" :=
 Slot.of (owner:="set_iterator") (n:="__iter__") (by rw[typeLookup_type,builtinLookup_eq_fast];kernel_rfl) (by decide) (by decide) (by decide) (by first|exact .inl (by decide)|exact .inr (by decide)) (by rw[isSubtype_type];kernel_rfl)
theorem yZ:entryFor table "set_iterator.__iter__"=some Builtin.«dict_keyiterator.__iter__»:=entryFor_alias (id':="dict_keyiterator.__iter__") (by kernel_rfl) rfl (by decide) (by kernel_rfl)
theorem zw(a:Value):argsOk "set_iterator.__iter__" ⟨[a],[]⟩:=by
 unfold argsOk;rw[signature?_of (id:="set_iterator.__iter__") (n:=['_','_','r','e','t','i','_','_']) (o:=['r','o','t','a','r','e','t','i','_','t','e','s']) (by kernel_rfl) ow_si]
 kernel_rfl
theorem wm{α:Type}:∀{l:List α}{i:Nat}(h:i<l.length),(l[i]::l.eraseIdx i).Perm l
 |x::l,0,_=>List.Perm.refl _
 |x::l,i+1,h=>by
  have C:=wm (l:=l) (i:=i) (by simpa using h)
  show(l[i]'(by simpa using h)::x::l.eraseIdx i).Perm (x::l)
  exact(List.Perm.swap x _ _).trans (C.cons x)
theorem Aw{α:Type}(next:Nat->Nat):∀(l k:Nat)(left:List α)(out:Array α),left.length=l->(pickOrder.go next l k left out).toList.Perm (out.toList++left)
 |0,k,left,out,h=>by
  have:left=[]:=Jo.mp h;subst this;unfold pickOrder.go;rw[Kd]
 |l+1,k,left,out,h=>by
  have G:next k%left.length<left.length:=JY _ ∅
  unfold pickOrder.go;rw[GU G];dsimp only;refine(Aw next l (k+1) _ _ (by rw[Kf G];omega)).trans ?_
  rw[Lg,JP];refine List.Perm.append_left _ ?_;exact wm G
theorem sM(next:Nat->Nat)(xs:Array α):(pickOrder next xs).toList.Perm xs.toList:=by
 have:=Aw next xs.size 0 xs.toList #[] (by simp)
 simpa[pickOrder] using this
section
variable{prog:Program}{w:World}{A:Around}{E:Value->Shared->Prop}{s:Shared}
theorem zm{a:Source}{Q:Nat->Shared->Prop}(T:n≠0)(h:∀ i d,i<n->Q i {s with drawn:=d}):wpAny (model prog w) A (choose a n) Q E s:=λ_ _ _=>⟨T,h _ _ (JY _ (Nat.pos_of_ne_zero T))⟩
theorem yf{α:Type}:∀(n:Nat)(xs:List α)(s:Shared)(Q:List α->Shared->Prop),xs.length=n->(∀ ys d,ys.Perm xs->Q ys {s with drawn:=d})->wpAny (model prog w) A (drawOrder n xs) Q E s
 |0,xs,s,Q,h,q=>by
  have:xs=[]:=Jo.mp h;subst this;unfold drawOrder;exact Me (q [] s.drawn .rfl)
 |n+1,[],s,Q,h,q=>by cases h
 |n+1,x::xs,s,Q,h,q=>by
  unfold drawOrder;refine Mb (zm (by simp) λi d I=>?_)
  rw[GU I];dsimp only;refine Mb (yf n _ _ _ (by rw[Kf I];simp at h ⊢;omega) λys d2 p=>Me ?_)
  exact q _ d2 ((p.cons _).trans (wm I))
end
def slA(t:SetTable)(i:Nat):Nat:=if i=0 then 0 else t.place.getD (i-1) 0+1
def ItAt(P:Program)(w:World)(h:Heap)(I a tp:Addr)(ord:List Int)(i:Nat):Prop:=∃ o B M t first m,h.get? a=some o/\o.ExactSet/\o.data=.set B M t/\t.fits B.size=true/\SetT t/\t.led = !byT w /\
 h.get? I=some {cls:=.type "set_iterator",data:=.fields #[first,rawInt (i:Int),.ref a,rawInt (B.size:Int),rawInt (M:Int)]}/\MA m ord/\m.length=B.size /\
 ((byT w=true/\(∃ z:Nat,first=rawInt (z:Int))/\m=(pickOrder (w.params.setOrder a M) B).toList.map (·.2)) ∨
  (byT w=false/\(!t.plain&&decide (B.size > 1))=false/\first=rawInt (slA t i:Int)/\m=B.toList.map (·.2)) ∨
  (byT w=false/\∃(y:List Nat)(d:Obj)(c:Nat),first=.ref tp/\tp≠I/\tp≠a/\h.get? tp=some d/\d.data=.seq (y.map λp:Nat=>rawInt (p:Int)).toArray c/\y.length=B.size/\∀(j p:Nat),y[j]?=some p->∃ x,B[p]?=some x/\m[j]?=some x.2))
section
variable{prog:Program}{w:World}{A:Around}{E:Value->Shared->Prop}{s:Shared}
theorem tK{es:Array (Int×Value)}{l:List Int}(u:MA (es.toList.map (·.2)) ns)(C:ns.Perm l){ys:List (Int×Value)}(p:ys.Perm es.toList):∃ ms,MA (ys.map (·.2)) ms/\ms.Perm l:=by
 obtain⟨ms,J,Y⟩:=nG (p.map (·.2)) u;exact⟨ms,J,Y.trans C⟩
theorem CG{l:List Int}(g:SetG prog w s.heap a l)(q:∀(I tp:Addr)(h':Heap)(d:_)(ord:List Int),(∀ b o,s.heap.get? b=some o->h'.get? b=some o)->s.heap.objs.size<=I->I<h'.objs.size->s.heap.objs.size<=tp->tp<h'.objs.size->ord.Perm l->ItAt prog w h' I a tp ord 0->Q (.ref I) {s with heap:=h',drawn:=d}):
  wpAny (model prog w) A (pyIter (.ref a)) Q E s:=by
 obtain⟨o,B,O,t,go,n,D,x,⟨c,u,f⟩,v,sz,L,r,ld⟩:=id g;have H:s.TypeIs (.ref a) "set":=⟨o,go,n.1⟩;have al:a<s.heap.objs.size:=LS go;have aa:=(eF u).1;have h:B.size<=LR:=Hs (Jg sz (by decide))
 refine wpAny_pyIter_slot H PySem.F.slot_set_iter (MN PySem.F.slot_set_iter H wq ?_ (PySem.F.args_set_iter_1 _));unfold Builtin.«frozenset.__iter__» Builtin.Frozenset.slot0 slotArgs;simp only[Li,Kz,Il,↓reduceIte,bind_assoc,Ja,bne_self_eq_false];unfold Builtin.Frozenset.addrOf Builtin.Frozenset.sizeOf;refine Mb (Me ?_);try dsimp only
 refine Mb (Me (Mb (Mb (wpAny_setEntries_of go D L (Me ?_)))));unfold setDrawn setsByText;refine Mb (Mb (Nh go D L ?_));dsimp only;refine Mb (Mb (Nk (Me (Me ?_))));have n0:∀ I:Addr,s.heap.objs.size<=I->a≠I:=λI hI z=>Nr al (by rw[z];exact JT hI)
 split
 .rename_i ab;have C:(!byT w&&(!t.plain&&decide (B.size > 1)))=true:=ab;have bt:byT w=false:=by
   cases y:byT w with
   |false=>rfl
   |true=>rw[y]at C;cases C
  refine Mb (yf B.size (Ik B.size) _ _ ID λk d p=>?_);have G:k.length=B.size:=by rw[p.length_eq,ID]
  refine Mb (wpAny_newTuple ?_ (by rw[GY,G];exact h))
  unfold setEpoch;have M:(s.heap.push {cls:=.type "tuple",data:=.seq (k.map λi:Nat=>rawInt (i:Int)).toArray}).get? a=some o:=Mf _ go;refine Mb (Mb (Nh M D L (Me ?_)));unfold newFields;refine Mb (MJ ?_ (by size_fits))
  have em:(Ik B.size).map (λj=>B.getD j (0,Value.none))=B.toList:=by
   refine List.ext_getElem (by simp) λj J Y=>?_
   have N:j<B.size:=by simpa using Y
   simp[JZ,N]
  have pv:(k.map λj=>B.getD j (0,Value.none)).Perm B.toList:=by
   rw[← em];exact p.map _
  obtain⟨T,i1,i2⟩:=tK u f pv;refine Me ⟨_,rfl,"set_iterator",_,⟨_,Mg _ rfl,rfl⟩,cW.lookup,?_⟩;refine q _ s.heap.objs.size _ d T (λb o e=>Mf _ (Mf _ e)) (by rw[Mq];exact IV _) (LS (Mg _ rfl)) (G0 _) (by rw[Mq,Mq];exact Iz (HK _)) i2 ?_
  refine⟨o,B,O,t,_,(k.map λj=>B.getD j (0,Value.none)).map (·.2),Mf _ M,n,D,L,r,ld,Mg _ rfl,i1,by rw[GY,GY,G],.inr (.inr ⟨bt,k,_,_,rfl,?_,IA al,Mf _ (Mg _ rfl),rfl,G,λj pp N=>?_⟩)⟩
  .rw[Mq];exact Hr (HK _)
  .have m:pp<B.size:=IZ.mp (p.mem_iff.mp (GW N))
   refine⟨B[pp],Iq m,?_⟩;rw[G7,G7,N];show some (B.getD pp (0,Value.none)).2=_;simp[JZ,m]
 .rename_i ab;have C:¬ (!byT w&&(!t.plain&&decide (B.size > 1)))=true:=ab;refine Mb (Me ?_);unfold setEpoch;refine Mb (Mb (Nh go D L (Me ?_)));unfold newFields;refine Mb (MJ ?_ (by size_fits))
  refine Me ⟨_,rfl,"set_iterator",_,⟨_,Mg _ rfl,rfl⟩,cW.lookup,?_⟩
  cases bt:byT w with
  |true =>
   obtain⟨T,i1,i2⟩:=tK u f (sM (w.params.setOrder a O) B);refine q _ s.heap.objs.size _ s.drawn T (λb o e=>Mf _ e) (G0 _) (by rw[Mq];exact HK _) (G0 _) (by rw[Mq];exact HK _) i2 ?_
   exact⟨o,B,O,t,_,_,Mf _ go,n,D,L,r,ld,Mg _ rfl,i1,by rw[GY,(sM _ _).length_eq,HB],.inl ⟨bt,⟨0,rfl⟩,rfl⟩⟩
  |false =>
   rw[bt]at C;have c2:(!t.plain&&decide (B.size > 1))=false:=by
    cases y:(!t.plain&&decide (B.size > 1)) with
    |false=>rfl
    |true=>exact Nr (by rw[y];rfl) C
   refine q _ s.heap.objs.size _ s.drawn c (λb o e=>Mf _ e) (G0 _) (by rw[Mq];exact HK _) (G0 _) (by rw[Mq];exact HK _) f ?_
   exact⟨o,B,O,t,_,_,Mf _ go,n,D,L,r,ld,Mg _ rfl,u,by rw[GY,HB],.inr (.inl ⟨bt,c2,rfl,rfl⟩)⟩
theorem tP{t:SetTable}(h:t.fits n=true):t.place.size=n:=by
 unfold SetTable.fits at h;rw[Ll]at h;exact eq_of_beq h.1
theorem uv{t:SetTable}(r:SetT t)(hi:i<=t.place.size):Ng t.place (slA t i)=i:=by
 obtain⟨b1,b2,b3⟩:=yp r.1 (slA t i);have up:∀ a b,a<b->b<t.place.size->t.place.getD a (slA t i)<t.place.getD b (slA t i):=λa b m L=>by
  have G:a<t.place.size:=Jg m L;have:=JD.mp r.1 a b (by simpa using G) (by simpa using L) m
  simpa[JZ,G,L] using this
 have c:∀ k,i=k+1->slA t i=t.place.getD k (slA t i)+1:=λk e=>by
  have D:k<t.place.size:=by omega
  have f:slA t i=t.place.getD k 0+1:=by
   unfold slA;rw[Nq ∅,e,Kh]
  have E:t.place.getD k 0=t.place.getD k (slA t i):=by simp[JZ,D]
  rw[← E];exact f
 generalize L:Ng t.place (slA t i)=b at b1 b2 b3;rcases Nat.lt_trichotomy b i with z|z|z
 .obtain⟨k,rfl⟩:∃ k,i=k+1:=⟨i-1,∅⟩
  have J:=b2 b (G0 _) ∅
  have Y:=c k rfl;by_cases e:b=k
  .subst e;omega
  .have:=up b k ∅ ∅
   omega
 .exact z
 .have J:=b1 i z
  cases i with
  |zero=>have e:slA t 0=0:=rfl;rw[e]at J;omega
  |succ k =>
   have Y:=c k rfl;have:=up k (k+1) ∅ ∅
   omega
theorem xE{J h2:Heap}(x:LX I h J)(y:LX I J h2):LX I h h2:=⟨y.1.trans x.1,λb L=>(y.2 b L).trans (x.2 b L)⟩
theorem Gd{n:Int}{Q:Option Value->Shared->Prop}(h:ItAt prog w s.heap I a tp ord i)(T:ord[i]?=some n)(aI:a≠I)(q:∀(t:Tok)(h':Heap),ItAt prog w h' I a tp ord (i+1)->LX I s.heap h'->Q (some (.int n t)) {s with heap:=h'}):wpAny (model prog w) A (pyNext (.ref I)) Q E s:=by
 obtain⟨o,es,M,t,first,m,go,f,D,L,r,ld,C,b,k,md⟩:=h;have H:s.TypeIs (.ref I) "set_iterator":=⟨_,C,rfl⟩;unfold pyNext;refine Mb (wpAny_attempt (MP (name:=Str.ofString "__next__") H cW (MN cW H pd ?_ (pA _))));unfold Builtin.«set_iterator.__next__» slotArgs;simp -iota only[Li,Kz,Il,↓reduceIte,bind_assoc,Ja,bne_self_eq_false];refine Mb (Me ?_);try dsimp only
 refine Mb (wpAny_fieldsOf C rfl ?_);dsimp only[rawInt];refine Mb (wpAny_setEntries_of go D L ?_);rw[Nq (by simp)]
 have il:i<ord.length:=(GV.mp T).1;have ol:=(eF b).1;have ab:i<m.length:=by omega
 obtain⟨u,p⟩:∃ u,m[i]?=some (.int n u):=by
  obtain⟨u,e⟩:=(eF b).2 i _ (GU ab);refine⟨u,?_⟩;rw[GU ab,e,Hg,T];rfl
 have an:=tP L;have ci:((i:Int)+1)=((i+1:Nat):Int):=by omega
 rcases md with⟨bt,⟨z,rfl⟩,rfl⟩|⟨bt,dr,rfl,rfl⟩|⟨bt,y,ot,c,rfl,tI,l,gt,ac,am,ae⟩
 .dsimp only[rawInt];unfold setNext setsByText setWalk setsByText;refine Mb (Mb (Nh go D L ?_));dsimp only;refine Mb (Mb (Nk (Me ?_)));have B:w.params.followText "set-order"=true:=bt;rw[show(Setting.params ⟨(model prog w).prog,(model prog w).w.params⟩).followText "set-order"=true from B,Np rfl,Nq (by simp)]
  refine Mb (Mb (Nh go D L ?_));dsimp only;refine Mb (Mb (Nk (Me ?_)));rw[show(Setting.params ⟨(model prog w).prog,(model prog w).w.params⟩).followText "set-order"=true from B,Np rfl];refine Mb (Nk (Me (Me ?_)));have g:(pickOrder (w.params.setOrder a M) es)[i]?.map (·.2)=some (.int n u):=by rw[← Ib,← G7];exact p
  obtain⟨x,O,G⟩:=Ho.mp g;rw[G8,G8,show(pickOrder ((Setting.params ⟨(model prog w).prog,(model prog w).w.params⟩).setOrder a M) es)[i]?=some x from O];dsimp only[Option.map];refine Mb (MU C (by simp) λJ N j=>?_)
  refine Mb (MU (s:={s with heap:=J}) N (by simp) λY v d=>?_)
  have sb:=xE j d;rw[G];refine Me ⟨_,rfl,Me (q u Y ?_ sb)⟩;refine⟨o,es,M,t,_,_,(sb.2 a aI).trans go,f,D,L,r,ld,v.trans ?_,b,k,.inl ⟨bt,⟨z,rfl⟩,rfl⟩⟩;rw[ci];rfl
 .dsimp only[rawInt];unfold setNext setsByText;refine Mb (Mb (Nh go D L ?_));dsimp only;refine Mb (Mb (Nk (Me ?_)));have B:w.params.followText "set-order"=false:=bt;rw[show(Setting.params ⟨(model prog w).prog,(model prog w).w.params⟩).followText "set-order"=false from B,Nq (by simp)]
  refine ME (λc=>Nr (show(!t.plain&&decide (es.size > 1))=true from c) (by rw[dr];simp)) λ_=>?_
  have aa:t.led=true:=by rw[ld,bt];rfl
  refine Mb ?_;show wpAny _ _ (if(!t.led&&!es.isEmpty)=true then _ else _) _ _ _;rw[aa];refine Me (Me ?_);rw[G8,uv r ∅]
  have ie:i<es.size:=by omega
  have ip:i<t.place.size:=by omega
  have G:es[i].2=.int n u:=by
   rw[G7,Ib,Iq ie]at p;exact Hq p
  rw[Iq ie,Iq ip];dsimp only;refine Mb (MU C (by simp) λJ N j=>?_)
  refine Mb (MU (s:={s with heap:=J}) N (by simp) λY v d=>?_)
  have sb:=xE j d;rw[G];refine Me ⟨_,rfl,Me (q u Y ?_ sb)⟩;refine⟨o,es,M,t,_,_,(sb.2 a aI).trans go,f,D,L,r,ld,v.trans ?_,b,k,.inr (.inl ⟨bt,dr,rfl,rfl⟩)⟩;have es:slA t (i+1)=t.place[i]+1:=by
   unfold slA;rw[Nq ∅,Kh]
   simp[JZ,ip]
  rw[ci,es];rfl
 .dsimp only[rawInt];refine Mb (M8 gt ac ?_);dsimp only;have ip:i<y.length:=by omega
  obtain⟨x,O,al⟩:=ae i _ (GU ip);have G:x.2=.int n u:=Hq (al.symm.trans p);rw[G8,List.getElem?_toArray,G7,GU ip];dsimp only[Option.map,rawInt];unfold setNextDrawn;refine Mb (Mb (Nh go D L ?_));dsimp only;rw[G8,G8,Nq (by simp),O]
  refine Me ?_;refine Mb (MU C (by simp) λJ N j=>?_)
  rw[G];refine Me ⟨_,rfl,Me (q u J ?_ j)⟩;refine⟨o,es,M,t,_,m,(j.2 a aI).trans go,f,D,L,r,ld,N.trans ?_,b,k,.inr (.inr ⟨bt,y,ot,c,rfl,tI,l,(j.2 tp tI).trans gt,ac,am,ae⟩)⟩;rw[ci];rfl
theorem uF{k:Nat}{Q:Option Value->Shared->Prop}{vs:Array Value}(n:A.handled=none)(C:s.heap.get? I=some {cls:=.type "set_iterator",data:=.fields vs})(D:k<vs.size)(q:∀(h':Heap),Heap.ExtBut I s.heap h'->Q none {s with heap:=h'}):
  wpAny (model prog w) A.in1 (setField (.ref I) k .none >>= λ_=>newExc (.type "StopIteration") [] >>= λe=>raiseNew e) (λ(p:Fin) s'=>∃ v,p=Fin.done (Flow.ret v)/\wpAny (model prog w) A (pure (some v)) Q E s')
  (λe s'=>wpAny (model prog w) A (do if ← isInstance e (.type "StopIteration") then pure none else throw e) Q E s') s:=by
 refine Mb (wpAny_setField C rfl D ?_);refine Mb ?_;simp only[newExc,newTuple];refine Mb (MJ ?_ (by size_fits))
 refine Mb (m:=firstArgMember _ _) (wpAny_of_eq (a:=Value.none) (by first|rfl|(simp only[firstArgMember];rfl)) ?_)
 refine MJ ?_ (by size_fits)
 simp -iota only[raiseNew];refine Mb (wpAny_handled ?_);rw[show A.in1.handled=none from n];refine Mb (Me (wpAny_throw ?_));refine Mb (MF (T:="StopIteration") (b:=true) ⟨_,Mg _ rfl,rfl⟩ isSubtype_stop ?_);exact Me (q _ (((MR ..).extBut.push _).push _))
theorem Ge{Q:Option Value->Shared->Prop}(n:A.handled=none)(h:ItAt prog w s.heap I a tp ord i)(T:i=ord.length)(v:a≠I)(q:∀(h':Heap),Heap.ExtBut I s.heap h'->Q none {s with heap:=h'}):wpAny (model prog w) A (pyNext (.ref I)) Q E s:=by
 obtain⟨o,es,M,t,first,m,go,f,D,d,r,ld,C,u,k,md⟩:=h;have H:s.TypeIs (.ref I) "set_iterator":=⟨_,C,rfl⟩;unfold pyNext;refine Mb (wpAny_attempt (MP (name:=Str.ofString "__next__") H cW (MN cW H pd ?_ (pA _))));unfold Builtin.«set_iterator.__next__» slotArgs;simp -iota only[Li,Kz,Il,↓reduceIte,bind_assoc,Ja,bne_self_eq_false];refine Mb (Me ?_);try dsimp only
 refine Mb (wpAny_fieldsOf C rfl ?_);dsimp only[rawInt];refine Mb (wpAny_setEntries_of go D d ?_);rw[Nq (by simp)]
 have G:=(eF u).1;have Y:i=m.length:=by omega
 have ae:=tP d;rcases md with⟨bt,⟨z,rfl⟩,rfl⟩|⟨bt,p,rfl,rfl⟩|⟨bt,y,ot,c,rfl,tI,l,gt,aa,ac,ab⟩
 .dsimp only[rawInt];unfold setNext setsByText setWalk setsByText;refine Mb (Mb (Nh go D d ?_));dsimp only;refine Mb (Mb (Nk (Me ?_)));have B:w.params.followText "set-order"=true:=bt;rw[show(Setting.params ⟨(model prog w).prog,(model prog w).w.params⟩).followText "set-order"=true from B,Np rfl,Nq (by simp)]
  refine Mb (Mb (Nh go D d ?_));dsimp only;refine Mb (Mb (Nk (Me ?_)));rw[show(Setting.params ⟨(model prog w).prog,(model prog w).w.params⟩).followText "set-order"=true from B,Np rfl];refine Mb (Nk (Me (Me ?_)));have O:(pickOrder (w.params.setOrder a M) es)[i]?=none:=by
   rw[JN];rw[Y,GY,HB];exact G0 _
  rw[G8,G8,show(pickOrder ((Setting.params ⟨(model prog w).prog,(model prog w).w.params⟩).setOrder a M) es)[i]?=none from O];exact uF n C (by simp) q
 .dsimp only[rawInt];unfold setNext setsByText;refine Mb (Mb (Nh go D d ?_));dsimp only;refine Mb (Mb (Nk (Me ?_)));have B:w.params.followText "set-order"=false:=bt;rw[show(Setting.params ⟨(model prog w).prog,(model prog w).w.params⟩).followText "set-order"=false from B,Nq (by simp)]
  refine ME (λc=>Nr (show(!t.plain&&decide (es.size > 1))=true from c) (by rw[p];simp)) λ_=>?_
  have g:t.led=true:=by rw[ld,bt];rfl
  refine Mb ?_;show wpAny _ _ (if(!t.led&&!es.isEmpty)=true then _ else _) _ _ _;rw[g];refine Me (Me ?_);have ie:i=es.size:=by omega
  rw[G8,uv r ∅]
  rw[JN (by omega:es.size<=i),JN (by omega:t.place.size<=i)]
  exact uF n C (by simp) q
 .dsimp only[rawInt];refine Mb (M8 gt aa ?_);dsimp only;have ip:y.length<=i:=by omega
  rw[G8,List.getElem?_toArray,G7,Iy ip];dsimp only[Option.map];refine Mb (MU C (by simp) λJ N j=>?_)
  exact uF (s:={s with heap:=J}) n N (by simp) λh' x=>q h' λb o L e=>x b o L ((j.2 b L).trans e)
theorem Bb(x:ItAt prog w h I a tp ord i)(k:∀ b∈[I,a,tp],∀ o,h.get? b=some o->h'.get? b=some o):ItAt prog w h' I a tp ord i:=by
 obtain⟨o,B,M,t,first,m,go,n,D,L,q,ld,C,u,j,H⟩:=x;refine⟨o,B,M,t,first,m,k a (by simp) _ go,n,D,L,q,ld,k I (by simp) _ C,u,j,?_⟩
 rcases H with z|z|⟨bt,y,d,c,e,g,l,f,r⟩
 .exact .inl z
 .exact .inr (.inl z)
 .exact .inr (.inr ⟨bt,y,d,c,e,g,l,k tp (by simp) _ f,r⟩)
theorem DA(J:A.handled=none)(I a tp:Addr)(g:a≠I)(ord:List Int):Walks prog w A I [I,a,tp] [I] ord.length (λi v=>∃ t n,ord[i]?=some n/\v=.int n t) (λi h=>ItAt prog w h I a tp ord i) where
 sub:=λb L=>by simp at L;simp[L]
 frame:=λ_ _ _ st D=>Bb st D
 item:=λi s Q E l st p=>by
  refine Gd st (GU l) g λt T q j=>?_;exact p _ T s.toks ⟨t,_,GU l,rfl⟩ q λb o L e=>j.extBut b o (λh=>L (by simp[h])) e
 done:=λs Q E st p=>Ge J st rfl g λT G=>p T s.toks λb o L e=>G b o (λh=>L (by simp[h])) e
 self:=λ_ s Q _ st h=>by
  obtain⟨o,B,M,t,first,m,go,f,c,d,r,ld,C,u,k,H⟩:=st;have Y:s.TypeIs (.ref I) "set_iterator":=⟨_,C,rfl⟩;refine wpAny_pyIter_slot Y oM (MN oM Y yZ ?_ (zw _));show wpAny _ _ (ret (.ref I)) _ _ s;exact Me ⟨_,rfl,"set_iterator",_,Y,cW.lookup,h⟩
theorem DC{r:Addr}{Q:Bool->Shared->Prop}(Y:s.TypeIs (.ref r) "set")(h:Q false s):wpAny (model prog w) A (MD (.ref r)) Q E s:=by
 unfold MD;refine Mb (MC Y PySem.F.slot_set_len.lookup ?_);generalize a:("set.__len__" : String)=c;wp_delta;rw[show splitId c=some ("set","__len__") from by subst a;decide]
 subst a;refine Mb (MF (T:="set") (b:=true) Y (by rw[isSubtype_type];kernel_rfl) ?_)
 refine ME (λm=>Nr m (by decide)) (λ_=>?_)
 refine ME (λ_=>?_) (λm=>Nr (by decide) m)
 refine Mb (wpAny_typeOf Y ?_);exact Me h
theorem SetG.len{l:List Int}(g:SetG prog w h a l):l.length<scanBound:=by
 obtain⟨o,B,M,t,go,n,D,x,⟨b,u,C⟩,s,sz,L,r,ld⟩:=g;have:=(eF u).1;rw[GY,HB,C.length_eq]at this;omega
theorem SetG.typ{l:List Int}(g:SetG prog w s.heap a l):s.TypeIs (.ref a) "set":=by
 obtain⟨o,B,M,t,go,n,r⟩:=g;exact⟨o,go,n.1⟩
theorem SetG.lt{l:List Int}(g:SetG prog w h a l):a<h.objs.size:=by
 obtain⟨o,B,M,t,go,n,r⟩:=g;exact LS go
theorem wW{l:List Int}{Q:List Value->Shared->Prop}(hh:A.handled=none)(g:SetG prog w s.heap a l)(h:∀(h':Heap)(tk:Nat)(d:Drawn)(u:Array Value)(ord:List Int),(∀ b o,s.heap.get? b=some o->h'.get? b=some o)->s.heap.objs.size<h'.objs.size->ord.Perm l->ItemsOf (λi v=>∃ t n,ord[i]?=some n/\v=.int n t) u ord.length->Q u.toList {s with heap:=h',toks:=tk,drawn:=d}):wpAny (model prog w) A (collect (.ref a)) Q E s:=by
 unfold collect;refine Mb (wpAny_runValue (M5 entry_proto_collect' ?_));show wpAny _ _ (do again (.builtin "list.__iadd__" ⟨[← newList [],.ref a],[]⟩)) _ _ s
 refine Mb (M0 (Me ⟨Code.quiet_builtin _ (by decide),M5 entry_list_iadd' ?_⟩))
 rw[M7 PySem.F.plain_list_iadd _];show wpAny _ A.in1 (Nl (.ref s.heap.objs.size) (.ref a) (.ref s.heap.objs.size)) _ _ {s with heap:=s.heap.push (MY "list" #[] 0)};have N:SetG prog w (s.heap.push (MY "list" #[] 0)) a l:=g.keeps λo e=>Mf _ e;have aS:s.heap.objs.size≠a:=IA g.lt;have x:(s.heap.push (MY "list" #[] 0)).get? s.heap.objs.size=some {cls:=.type "list",data:=.seq #[] 0}:=Mg _ rfl;unfold Nl;refine Mb (wpAny_typeOf (T:="set") N.typ ?_);have J:Nm (.ref s.heap.objs.size) (.ref a)=false:=by simp[Nm,aS]
 simp only[J,show(Value.type "set" == Value.type "list")=false by decide,show(Value.type "set" == Value.type "tuple")=false by decide,LO,Il,if_false]
 refine Mb (CG N λI tp Y d ord G lI sI lt st pm it=>?_);have H:(s.heap.push (MY "list" #[] 0)).objs.size=s.heap.objs.size+1:=Mq ..;rw[H]at lI lt;have SI:s.heap.objs.size≠I:=Hr lI;have ST:s.heap.objs.size≠tp:=Hr lt;have aI:a≠I:=Hr (Jg g.lt lI);have ap:s.heap.objs.size∉[I,a,tp]:=by simp only[G6,Jq,or_false,not_or];exact⟨SI,aS,ST⟩
 have O:ord.length<=LR:=by
  rw[pm.length_eq];exact Hs (Jg g.len (by decide))
 have aa:∀(j:Heap)(am tk:Nat),ItAt prog w j I a tp ord 0->(∀ b o,b≠s.heap.objs.size->Y.get? b=some o->j.get? b=some o) ->
   j.get? s.heap.objs.size=some {cls:=.type "list",data:=.seq #[] am}->Mp (model prog w) A (.builtin "list.extend.loop" ⟨[.ref s.heap.objs.size,.ref I,.ref s.heap.objs.size],[]⟩) (λr q=>∃ h' tk d M C,r=.ok (.ret (.ref s.heap.objs.size))/\q={s with heap:=h',toks:=tk,drawn:=d}/\(∀ b o,s.heap.get? b=some o->h'.get? b=some o)/\h'.get? s.heap.objs.size=some {cls:=.type "list",dict:=none,data:=.seq M C,slots:=#[]}/\ItemsOf (λi v=>∃ t n,ord[i]?=some n/\v=.int n t) M ord.length) {s with heap:=j,toks:=tk,drawn:=d}:=by
  intro j am tk ab D ac;refine codeAny_extend_loopS (DA (A:=A.in1) hh I a tp aI ord).toS O _ ap _ ord.length 0 _ #[] am rfl (HI _) ab ac (ItemsOf.nil _) λq M C y al c=>?_;rw[Moved.eq_with y];refine⟨q.heap,q.toks,d,M,C,rfl,rfl,λb o e=>y.heap b o (λan=>?_) (D b o (Hr (LS e)) (G b o (Mf _ e))),al,c⟩;rcases G6.mp an with e'|an
  .exact Nr (LS e) (by rw[e'];exact Ia _)
  .exact Nr (LS e) (by rw[Hi.mp an];exact JT (Hs lI))
 have p:∀(r:Result)(q:Shared),(∃ h' tk d M C,r=.ok (.ret (.ref s.heap.objs.size))/\q={s with heap:=h',toks:=tk,drawn:=d}/\(∀ b o,s.heap.get? b=some o->h'.get? b=some o)/\h'.get? s.heap.objs.size=some {cls:=.type "list",dict:=none,data:=.seq M C,slots:=#[]}/\ItemsOf (λi v=>∃ t n,ord[i]?=some n/\v=.int n t) M ord.length)->∃ v,r=.ok (.ret v)/\v=.ref s.heap.objs.size/\wpAny (model prog w) A (do
   let o ← load s.heap.objs.size
   match o.data with
   |.seq f _=>pure f.toList
   |_=>unsupported "internal:collect") Q E q:=λr q ⟨h',tk,d,M,C,m,B,D,x,c⟩=>⟨_,m,rfl,by
  subst B;refine Mb (wpAny_load x ?_)
  exact Me (h h' tk d M ord D (LS x) pm c)⟩
 have ac:=G _ _ x;have k:SetG prog w Y a l:=N.keeps λo e=>G _ _ e;refine Mb (Mc (DC (s:={s with heap:=Y,drawn:=d}) k.typ ?_));refine ME (λ_=>?_) (λ_=>Me ⟨Nc IP _,Mt (aa _ 0 _ it (λb o _ e=>e) ac) λr aT q'=>?_⟩);rotate_left
 .obtain⟨v,m,B,z⟩:=p _ _ q'
  cases m
  cases B
  exact z
 refine Mb (wpAny_rule ?_);refine Mb ?_;show wpAny _ _ (Na s.heap.objs.size (·.push .none) >>= λ_=>Na s.heap.objs.size (·.pop)) _ _ _;refine Mb (Nb ac rfl ?_);have ae:=Mx (Mw (·.push Value.none)) ac rfl;refine Nb (hz:=by seq_fits) ae rfl ?_
 have aL:=Mx (Mw (·.pop)) ae rfl;have oth:∀ b o,b≠s.heap.objs.size->Y.get? b=some o->((Y.update s.heap.objs.size (Mw (·.push Value.none))).update s.heap.objs.size (Mw (·.pop))).get? b=some o:=λb o L e=>(My _ _ (Ne.symm L)).trans ((My _ _ (Ne.symm L)).trans e);refine Me ⟨Nc IP _,Mt (aa _ _ _ (Bb it λb L o e=>oth b o (λz=>ap (z▸L)) e) oth aL) λr aT q'=>?_⟩;obtain⟨v,m,B,z⟩:=p _ _ q'
 cases m
 cases B
 exact z
end
section
variable{X:Cx}{pins:List (Addr×Obj)}{σ:List (Option V)}{H:Hp}{s:Shared}
theorem Inv.drew{d:Drawn}(I:Inv X pins σ H s):Inv X pins σ H {s with drawn:=d}:=⟨I.ok,I.os,I.bare,I.base,I.loc,I.cell,I.free,I.freeC,I.pin,I.hok,I.len⟩
def setO(P:Program)(w:World)(a:Addr)(l:List Int):HO:=.ext λh=>SetG P w h a l
inductive rSetI(P:Program)(w:World)(K:GX)(xs:List V)(H:L2.Hp)(Q:L2.VK):Prop
 |mk (p:Addr)(ns:List Int) (h0_:xs=[.ref p])(h1_:SqL K H p (ns.map V.int))(h2_:ns.length+1<4096)(h3_:∀ a:Addr,H a=none->Q (.ref a) (upd H a (setO P w a (ns.foldl addN []))))
theorem B6(C:X.calm=true)(a:X.prog=P)(c:X.w=w)(d:X.K=K):gR X (.type "set") (rSetI P w K):=by
 subst a c d;intro pins s σ H D z Q I r h;obtain⟨p,b,rfl,M,n,q⟩:=h;obtain⟨u,rfl,E⟩:=jW r
 cases E
 obtain⟨L,rv,m,f⟩:=I.list M;have l:=kG rv;have G:=rv.length;rw[GY]at G;refine uL (I.ok.hd C) m.isList l (by rw[Hl,← G];exact n) λT y g k=>?_
 refine⟨.ref s.heap.objs.size,_,I.laid (t':=y) k (G0 _) (show bC X.prog X.w _ _ _ (setO X.prog X.w s.heap.objs.size (b.foldl addN [])) from⟨g,?_,λJ Y N A=>N.keeps A⟩),rfl,q _ (I.hok.fresh (G0 _))⟩;obtain⟨o,B,O,t,N,r⟩:=g;exact⟨o,N⟩
theorem yq(ns:List Int):∀(l:List Int)(x:Int),x∈ns.foldl addN l↔x∈l∨x∈ns:=by
 induction ns with
 |nil=>intro l x;simp
 |cons n ns C =>
  intro l x;rw[KO,C,G6];unfold addN;split
  .rename_i c;exact⟨λz=>z.elim .inl λy=>.inr (.inr y),λz=>z.elim .inl λy=>y.elim (λe=>.inl (e▸c)) .inr⟩
  .rw[Hc,Hi];exact⟨λz=>z.elim (λy=>y.elim .inl λe=>.inr (.inl e)) λy=>.inr (.inr y),λz=>z.elim (λy=>.inl (.inl y)) λy=>y.elim (λe=>.inl (.inr e)) .inr⟩
end
inductive rSortT(P:Program)(w:World)(xs:List V)(H:L2.Hp)(Q:L2.VK):Prop
 |mk (a:Addr)(ms:List Int) (h0_:xs=[.ref a])(h1_:H a=some (setO P w a ms))(h2_:ms.length<64)(h3_:∀(l:Addr)(out:List Int),H l=none->(∀ x,x∈out↔x∈ms)->out.Pairwise (· < ·)->Q (.ref l) (upd H l (.lst (out.map V.int))))
theorem zo(C:X.calm=true)(eP:X.prog=P)(eW:X.w=w):gR X (.builtin "sorted") (rSortT P w):=by
 subst eP eW;intro B s M H f us Q I r h;obtain⟨a,ms,rfl,G,al,q⟩:=h;obtain⟨u,rfl,ru⟩:=jW r
 cases ru
 obtain⟨g,_,_⟩:=(show bC X.prog X.w H s.heap a (setO X.prog X.w a ms) from I.hok a _ G);have g:SetG X.prog X.w s.heap a ms:=g;have nd:ms.Nodup:=let ⟨_,_,_,_,_,_,_,_,_,nd,_⟩:=g;nd;refine Calls.call_function_entry kind_sorted plain_sorted entry_sorted (args_sorted1 _) ?_;unfold Builtin.«sorted»;refine Mb (m:=checkCount "sorted" 1 1 _) (Me ?_);refine Mb (wW (I.ok.hd C) g λT tk d L aI D p pm aa=>?_);have l:MA L.toList aI:=by
  have all:∀(O:List Value)(ns:List Int),O.length=ns.length->(∀(j:Nat) v,O[j]?=some v->∃ t n,ns[j]?=some n/\v=.int n t)->MA O ns:=λO=>by
   induction O with
   |nil=>intro ns e _;rw[Jr e.symm];exact .nil
   |cons v O A =>
    intro ns e k
    cases ns with
    |nil=>cases e
    |cons n ns =>
     obtain⟨t,m,i,E⟩:=k 0 v rfl
     cases i
     rw[E];exact .cons _ _ (A ns (Nat.succ.inj e) λj v e=>k (j+1) v e)
  exact all _ _ (by rw[HB];exact aa.1) λj v e=>aa.2 j v (by rw[← Ib];exact e)
 have z:L.toList.length<=LR:=by
  rw[HB,aa.1,pm.length_eq];exact Hs (Jg g.len (by decide))
 refine Mb (M0 ?_ z);have ac:(T.push (MY "list" L.toList.toArray 0)).get? T.objs.size=some (MY "list" L.toList.toArray 0):=Mg _ rfl;show wpAny _ _ _ _ _ {s with heap:=T.push (MY "list" L.toList.toArray 0),toks:=tk,drawn:=d};have an:∀(out:Array Value)(b:Addr)(o:Obj),s.heap.get? b=some o->(sortedHeap (T.push (MY "list" L.toList.toArray 0)) T.objs.size L.toList out).get? b=some o:=λout b o e=>by
  have E:=D b o e;rw[sortedHeap_old (Hr (LS E)) (by rw[Mq];exact Iz (LS E))]
  exact Mf _ E
 have ab:s.heap.objs.size<=T.objs.size:=Hs p;refine Mb (Mc (MN slot_list_sort ⟨_,ac,rfl⟩ entry_list_sort (list_sort_tree ac l (by rw[HB,aa.1,pm.length_eq];exact al) λout am N a2 a3=>⟨_,rfl,?_⟩) (args_list_sort _)))
 obtain⟨e,c⟩:=sortedHeap_at (out:=out) ac;have ap:=a2.trans pm;refine Me ⟨_,rfl,?_⟩;refine⟨.ref T.objs.size,_,(I.laid (t':=tk) (an out) ab (show bC X.prog X.w _ _ _ (.lst (am.map V.int)) from⟨?_,out.toList,e,uD N,?_⟩)).drew,rfl,q _ am (I.hok.fresh ab) (λx=>ap.mem_iff) ?_⟩
 .rw[GY,ap.length_eq];exact Hs (Jg g.len (by decide))
 .exact c
 .exact(List.Pairwise.and a3 (ap.nodup_iff.mpr nd)).imp λ{x y} ⟨J,Y⟩=>by
   have ae:x<=y:=J;omega
end L2
namespace L2.C2
open PySem PySem.Spec PyProof.Rows
section
variable{prog:Program}{w:World}{A:Around}{E:Value->Shared->Prop}{s:Shared}{d:Addr}
theorem uC{Q:Option Obj->Shared->Prop}(h:Q (s.heap.get? a) s):wpAny (model prog w) A (loadIfAlive a) Q E s:=λb p c=>by
 show Sem.wp _ _ (.loadIfAlive a _) _ _ _ _;rw[Sem.wp_loadIfAlive];exact(Me (M:=model prog w) (A:=A) (E:=E) h) b p c
def ItAt(h:Heap)(it d:Addr)(i n ep:Nat):Prop:=∃ N p l f,h.get? it=some {cls:=.type "dict_itemiterator",dict:=none,data:=.fields #[N,p,.ref d,.int i 0,.int n 0,.int ep 0,l,f],slots:=#[]}/\((N=.none/\p=.bool false)∨∃(a:Addr)(o:Obj),N=rawInt a/\h.get? a=some o/\a≠it)
theorem ItAt.keep(x:ItAt h it d i n ep)(g:∀ o,h.get? it=some o->h'.get? it=some o)(k:∀ b o,b≠it->h.get? b=some o->∃ j,h'.get? b=some j):ItAt h' it d i n ep:=by
 obtain⟨N,p,l,f,e,c⟩:=x;refine⟨N,p,l,f,g _ e,?_⟩;rcases c with c|⟨a,o,c1,c2,c3⟩
 .exact .inl c
 .obtain⟨j,q⟩:=k a o c3 c2;exact .inr ⟨a,j,c1,q,c3⟩
theorem Ba{es:Array DictEntry}{Q:Option Value->Shared->Prop}(g:ItAt s.heap it d i es.size ep)(y:Ent s.heap d es ep)(J:A.handled=none)(hI:∀ e,es[i]?=some e->∀ h',ItAt h' it d (i+1) es.size ep->h'.get? s.heap.objs.size=some {cls:=.type "tuple",data:=.seq #[e.key,e.val]}->(∀ b o,b≠it->s.heap.get? b=some o->h'.get? b=some o)->Q (some (.ref s.heap.objs.size)) {s with heap:=h'})(t:es[i]?=none->∀ h',Heap.ExtBut it s.heap h'->Q none {s with heap:=h'}):wpAny (model prog w) A (pyNext (.ref it)) Q E s:=by
 obtain⟨h,p,ok,ov,g,c⟩:=g;rcases c with⟨rfl,rfl⟩|⟨a,oa,rfl,ab,aa⟩
 .refine BG (ok:=ok) (ov:=ov) g y J (λe n h' k C O=>hI e n h' ⟨_,_,_,_,k,.inr ⟨s.heap.objs.size,_,rfl,C,?_⟩⟩ C O) t;exact IA (LS g)
 obtain⟨o,f,B,u⟩:=y;have Y:s.TypeIs (.ref it) "dict_itemiterator":=⟨_,g,rfl⟩;have own:MO "dict_itemiterator"=true:=by decide
 unfold pyNext;refine Mb (wpAny_attempt (MP (name:=Str.ofString "__next__") Y F.slot_dict_itemiterator_next (MN F.slot_dict_itemiterator_next Y F.entry_dict_itemiterator_next ?_ (F.args_dict_itemiterator_next_1 _))));refine Mb (Me (Mb (Mb (Mb (MQ Y (Me ?_))))));refine Mb (wpAny_fieldsOf g rfl ?_);simp -iota only[own,if_true];show wpAny _ _ (if(Value.ref d == Value.none)=true then _ else _) _ _ _;rw[Nq (show ¬ ((Value.ref d == Value.none)=true) from Hj)];refine Mb (Me (Mb (wpAny_dictEntries f u ?_)));rw[Nq (by simp)]
 refine Mb (Me (Mb (wpAny_dictEpoch f u ?_)));rw[Nq (by simp)]
 refine Me ?_;have n0:¬ ((i:Int)<0):=by omega
 simp only[n0,if_false,G8]
 cases n:es[i]? with
 |none =>
  refine Mb (Mb (MQ Y (Me ?_)));show wpAny _ _ (setField (.ref it) 2 .none >>= _) _ _ s;refine Mb (wpAny_setField g rfl (by simp) ?_)
  show wpAny _ _ (newExc (.type "StopIteration") [] >>= _) _ _ _;refine Mb ?_;simp only[newExc,newTuple];refine Mb (MJ (Mb (m:=firstArgMember _ _) (wpAny_of_eq (a:=Value.none) (by first|rfl|(simp only[firstArgMember];rfl)) (MJ ?_ (by size_fits)))) (by size_fits))
  simp -iota only[raiseNew];refine Mb (wpAny_handled ?_);rw[show A.in1.handled=none from J];refine Mb (Me (wpAny_throw ?_));refine Mb (MF (T:="StopIteration") (b:=true) ⟨_,Mg _ rfl,rfl⟩ isSubtype_stop (Me ?_));exact t n _ (((MR ..).extBut.push _).push _)
 |some e =>
  refine Mb (Mb (MQ Y (Me ?_)));refine Mb (MT Y ?_);show wpAny _ _ (setField (.ref it) 3 (rawInt ((i:Int)+1)) >>= _) _ _ s;refine Mb (MU g (by simp) λN k M=>?_)
  have c1:((i+1:Nat):Int)=(i:Int)+1:=by omega
  have D:N.get? it=some {cls:=.type "dict_itemiterator",dict:=none,data:=.fields #[rawInt a,p,.ref d,.int ((i+1:Nat):Int) 0,.int es.size 0,.int ep 0,ok,ov],slots:=#[]}:=by
   rw[c1];simpa[rawInt] using k
  have lt:it<s.heap.objs.size:=LS g;have H:N.objs.size=s.heap.objs.size:=M.1;have I:Shared.TypeIs {s with heap:=N} (.ref it) "dict_itemiterator":=⟨_,D,rfl⟩;refine Mb (Mc (Mb (MT I (Mb (MT I ?_)))));show wpAny _ _ (MV (.ref it) 6 e.key e.val) _ _ {s with heap:=N};unfold MV Builtin.Dict_items.ownedTupleIsFree;refine Mb (wpAny_newTuple ?_);have C:(N.push {cls:=.type "tuple",data:=.seq #[e.key,e.val]}).get? it=some {cls:=.type "dict_itemiterator",dict:=none,data:=.fields #[rawInt a,p,.ref d,.int ((i+1:Nat):Int) 0,.int es.size 0,.int ep 0,ok,ov],slots:=#[]}:=Mf _ D;have r:(N.push {cls:=.type "tuple",data:=.seq #[e.key,e.val]}).get? s.heap.objs.size=some {cls:=.type "tuple",data:=.seq #[e.key,e.val]}:=by rw[← H];exact Mg _ rfl
  have G:∀ b o,b≠it->s.heap.get? b=some o->(N.push {cls:=.type "tuple",data:=.seq #[e.key,e.val]}).get? b=some o:=λb o L q=>Mf _ (M.extBut b o L q);rw[H];generalize N.push {cls:=.type "tuple",data:=.seq #[e.key,e.val]}=v at C r G;show wpAny _ _ (_ >>= _) _ _ {s with heap:=v};have al:v.get? ((a:Int).toNat)=some oa:=by rw[G8];exact G a oa aa ab
  refine Mb (Mb (wpAny_field C rfl (x:=rawInt a) rfl ?_));show wpAny _ _ (loadIfAlive ((a:Int).toNat) >>= _) _ _ {s with heap:=v};refine Mb (uC ?_);show wpAny _ _ (if((v.get? ((a:Int).toNat)).isNone)=true then _ else _) _ _ _;rw[al,Nq (show ¬ (some oa).isNone=true from Hj)];have last:∀ j,j.get? it=some {cls:=.type "dict_itemiterator",dict:=none,data:=.fields #[rawInt a,.bool true,.ref d,.int ((i+1:Nat):Int) 0,.int es.size 0,.int ep 0,ok,ov],slots:=#[]}->(∀ b o,b≠it->v.get? b=some o->j.get? b=some o)->Q (some (.ref s.heap.objs.size)) {s with heap:=j}:=λj O z =>
   hI e n j ⟨_,_,_,_,O,.inr ⟨a,oa,rfl,z a oa aa (G a oa aa ab),aa⟩⟩ (z _ _ (IA lt) r) λb o L q=>z b o L (G b o L q)
  refine Mb (wpAny_field C rfl (x:=p) rfl ?_);by_cases l:p=.bool true
  .rw[Nq (by rw[l];decide)]
   refine Me ?_;subst l;exact Me (Me ⟨_,rfl,Me (last v C λb o _ q=>q)⟩)
  .rw[Np (by simpa using l)]
   refine Mb (MU C (by simp) λj O z=>?_)
   exact Me (Me (Me ⟨_,rfl,Me (last j O λb o L q=>z.extBut b o L q)⟩))
def Ej(h₀ h:Heap)(es:Array DictEntry)(m:Array Value)(i:Nat):Prop:=m.size=i/\∀(j:Nat)(v:Value),m[j]?=some v->∃(t:Addr)(e:DictEntry),v=.ref t/\es[j]?=some e/\h₀.objs.size<=t/\h.get? t=some {cls:=.type "tuple",data:=.seq #[e.key,e.val]}
def zy(m:Array Value):Prop:=m.toList.Nodup
theorem BD{S:Addr}{es:Array DictEntry}{res:Value}{h₀:Heap}(J:A.handled=none)(T:es.size<=LR)(aI:S≠it)(am:S≠d)(aT:d≠it):
  ∀(k i:Nat)(s:Shared)(m:Array Value)(c:Nat),es.size-i=k->i<=es.size->ItAt s.heap it d i es.size ep->Ent s.heap d es ep->s.heap.get? S=some {cls:=.type "list",dict:=none,data:=.seq m c,slots:=#[]}->Ej h₀ s.heap es m i->zy m->h₀.objs.size<=s.heap.objs.size ->
  (∀ h' M c',(∀ b o,b≠S->b≠it->s.heap.get? b=some o->h'.get? b=some o)->h'.get? S=some {cls:=.type "list",dict:=none,data:=.seq M c',slots:=#[]}->Ej h₀ h' es M es.size->zy M->R (.ok (.ret res)) {s with heap:=h'}) ->
  Mp (model prog w) A (.builtin "list.extend.loop" ⟨[.ref S,.ref it,res],[]⟩) R s:=by
 intro k;induction k with
 |zero =>
  intro i s m c D I ac y x l aL aa B;have ab:i=es.size:=by omega
  subst ab;refine M5 F.entry_extend_loop ?_;rw[M7 F.plain_extend_loop _];show wpAny _ A.in1 (pyNext (.ref it) >>= _) _ _ s;refine Mb (Ba ac y J (λe n=>?_) λ_ h' q=>?_)
  .rw[JN (G0 _)]at n
   cases n
  .refine Me (B h' m c (λb o _ L e=>q b o L e) (q S _ aI x) ⟨l.1,λj v N=>?_⟩ aL);obtain⟨t,e,r,f,a3,a4⟩:=l.2 j v N;refine⟨t,e,r,f,a3,q t _ (λz=>?_) a4⟩;obtain⟨_,_,_,_,g,_⟩:=ac;rw[z,g]at a4;exact Nr (congrArg Obj.cls (Hq a4)) (by intro z;exact Nr (Value.type.inj z) (by decide))
 |succ k C =>
  intro i s m c D I ac y x l aL aa B;refine M5 F.entry_extend_loop ?_;rw[M7 F.plain_extend_loop _];show wpAny _ A.in1 (pyNext (.ref it) >>= _) _ _ s;refine Mb (Ba ac y J (λe n h' E Q O=>?_) λn=>Nr n (by rw[Iq (show i<es.size by omega)];intro z;cases z))
  have al:=O S _ aI x;have lt:it<s.heap.objs.size:=by obtain⟨_,_,_,_,z,_⟩:=ac;exact LS z
  have aS:=LS x;show wpAny _ A.in1 (Na S (·.push (.ref s.heap.objs.size)) >>= _) _ _ _;refine Mb ?_;have an:∀ b,b≠S->∀ o,h'.get? b=some o->(h'.update S (Mw (·.push (.ref s.heap.objs.size)))).get? b=some o:=λb L o e=>(My _ _ (Ne.symm L)).trans e;have u:∀(Y:Heap),(∀ b o,b≠S->h'.get? b=some o->Y.get? b=some o)->Ej h₀ Y es (m.push (.ref s.heap.objs.size)) (i+1):=λY h=>by
   refine⟨by rw[Array.size_push,l.1],λj v N=>?_⟩
   rw[Array.getElem?_push]at N;split at N
   .rename_i H
    cases N
    rw[l.1]at H;subst H;refine⟨s.heap.objs.size,e,rfl,n,aa,h _ _ (IA aS) Q⟩
   .obtain⟨t,p,r,f,a3,a4⟩:=l.2 j v N;have ti:t≠it:=λz=>by
     obtain⟨_,_,_,_,g,_⟩:=ac;rw[z,g]at a4;exact Nr (congrArg Obj.cls (Hq a4)) (by intro z;exact Nr (Value.type.inj z) (by decide))
    refine⟨t,p,r,f,a3,h t _ (λz=>?_) (O t _ ti a4)⟩;rw[z,x]at a4;exact Nr (congrArg Obj.cls (Hq a4)) (by intro z;exact Nr (Value.type.inj z) (by decide))
  have ap:zy (m.push (.ref s.heap.objs.size)):=by
   unfold zy;rw[Lg];refine Ht.mpr ⟨aL,by simp,λa G b L e=>?_⟩
   rw[Hi.mp L]at e;subst e;obtain⟨j,N⟩:=IW G;obtain⟨t,p,r,_,_,a4⟩:=l.2 j _ (by rw[← Ib];exact N)
   cases r
   exact Ia _ (LS a4)
  refine Nb al rfl (Me ⟨Nc F.plain_extend_loop _,C (i+1) _ (m.push (.ref s.heap.objs.size)) _ ∅ ∅ ?_ ?_ (Mx _ al rfl) (u _ λb o L e=>an b L o e) ap ?_ λaW M c' m1 m2 m3 m4=>?_⟩)
   (by rw[l.1];omega) (by show(m.push _).size<=LR+1;rw[Array.size_push,l.1];omega)
  .exact E.keep (λo e=>an it (Ne.symm aI) o e) λb o _ e=>by
    by_cases z:b=S
    .rw[z];exact⟨_,Mx _ al rfl⟩
    .exact⟨o,an b z o e⟩
  .obtain⟨o,r,f,a3⟩:=y;exact⟨o,an d (Ne.symm am) o (O d o aT r),f,a3⟩
  .show h₀.objs.size<=(h'.update _ _).objs.size;rw[M4];exact Ig aa (Hs (LS Q))
  .exact B aW M c' (λb o L ae e=>m1 b o L ae (an b L o (O b o ae e))) m2 m3 m4
theorem yN{r:Addr}{Q:Bool->Shared->Prop}(Y:s.TypeIs (.ref r) "dict_items")(h:Q false s):wpAny (model prog w) A (MD (.ref r)) Q E s:=by
 unfold MD;refine Mb (MC Y PySem.F.slot_dict_items_len.lookup ?_);generalize a:("dict_items.__len__" : String)=c;wp_delta;rw[show splitId c=some ("dict_items","__len__") from by subst a;decide]
 subst a;refine Mb (MF (T:="dict_items") (b:=true) Y (by rw[isSubtype_type];kernel_rfl) ?_)
 refine ME (λm=>Nr m (by decide)) (λ_=>?_)
 refine ME (λ_=>?_) (λm=>Nr (by decide) m)
 refine Mb (wpAny_typeOf Y ?_);exact Me h
theorem yX{S r:Addr}{es:Array DictEntry}{res:Value}(n:A.handled=none)(O:s.heap.IsItemsView r d)(y:Ent s.heap d es ep)(i:es.size<=LR)(al:S≠r)(aa:S≠d)(x:s.heap.get? S=some {cls:=.type "list",dict:=none,data:=.seq #[] N,slots:=#[]})(B:∀ h' M c',(∀ b o,b≠S->s.heap.get? b=some o->h'.get? b=some o)->h'.get? S=some {cls:=.type "list",dict:=none,data:=.seq M c',slots:=#[]}->Ej s.heap h' es M es.size->zy M->R (.ok (.ret res)) {s with heap:=h'}):
  wpAny (model prog w) A.in1 (Nl (.ref S) (.ref r) res)
   (λp s'=>match p with | .done f=>R (.ok f) s' | .again c'=>c'.quiet=true/\Mp (model prog w) A c' R s') (λe s'=>R (.error e) s') s:=by
 obtain⟨ov,ac,am,ae⟩:=id O;obtain⟨Y,H,G,ab⟩:=id y;have dl:d<s.heap.objs.size:=LS H;have ap:S≠s.heap.objs.size:=Hr (LS x);have c:∀(g:Heap)(m u:Nat),ItAt g s.heap.objs.size d 0 es.size ep->(∀ b o,b≠S->s.heap.get? b=some o->g.get? b=some o)->s.heap.objs.size<=g.objs.size ->
   g.get? S=some {cls:=.type "list",dict:=none,data:=.seq #[] m,slots:=#[]}->u=s.toks->Mp (model prog w) A (.builtin "list.extend.loop" ⟨[.ref S,.ref s.heap.objs.size,res],[]⟩) R {s with heap:=g,toks:=u}:=λg m u E C t q4 l=>by
  subst l;refine BD (h₀:=s.heap) n i ap aa (Hr dl) es.size 0 _ #[] m (Nat.sub_zero _) (HI _) E ⟨Y,C d Y (Ne.symm aa) H,G,ab⟩ q4 ⟨rfl,λj v e=>by simp at e⟩ (by unfold zy;simp) t λh' M c' Q D m3 m4=>?_
  exact B h' M c' (λb o L e=>Q b o L (Hr (LS e)) (C b o L e)) D m3 m4
 unfold Nl;refine Mb (wpAny_typeOf (T:="dict_items") O.typeIs ?_);have J:Nm (.ref S) (.ref r)=false:=by simp[Nm,al]
 have k:(Value.type "dict_items" == Value.type "list")=false:=by decide
 have nt:(Value.type "dict_items" == Value.type "tuple")=false:=by decide
 simp only[J,k,nt,LO,Il,if_false];refine Mb (DU O y ?_);have h:=Mf {cls:=.type "dict_itemiterator",data:=.fields #[.none,.bool false,.ref d,.int 0 0,.int es.size 0,.int ep 0,.none,.none]} x;have an:ItAt (s.heap.push {cls:=.type "dict_itemiterator",data:=.fields #[.none,.bool false,.ref d,.int 0 0,.int es.size 0,.int ep 0,.none,.none]}) s.heap.objs.size d 0 es.size ep :=
  ⟨_,_,_,_,Mg _ rfl,.inl ⟨rfl,rfl⟩⟩
 have a:∀ b o,s.heap.get? b=some o->(s.heap.push {cls:=.type "dict_itemiterator",data:=.fields #[.none,.bool false,.ref d,.int 0 0,.int es.size 0,.int ep 0,.none,.none]}).get? b=some o:=λb o e=>Mf _ e;have big:s.heap.objs.size<=(s.heap.push {cls:=.type "dict_itemiterator",data:=.fields #[.none,.bool false,.ref d,.int 0 0,.int es.size 0,.int ep 0,.none,.none]}).objs.size:=by rw[Mq];exact IV _
 have aI:(⟨s.heap.push {cls:=.type "dict_itemiterator",data:=.fields #[.none,.bool false,.ref d,.int 0 0,.int es.size 0,.int ep 0,.none,.none]},s.gens,s.drawn,s.toks,s.os⟩:Shared).TypeIs (.ref r) "dict_items":=⟨ov,a _ _ ac,am⟩;generalize s.heap.push {cls:=.type "dict_itemiterator",data:=.fields #[.none,.bool false,.ref d,.int 0 0,.int es.size 0,.int ep 0,.none,.none]}=g0 at h an a big aI;refine Mb (Mc (yN aI ?_));refine ME (λ_=>?_) (λ_=>Me ⟨Nc IP _,c g0 _ s.toks an (λb o _ e=>a b o e) big h rfl⟩);refine Mb (wpAny_rule ?_);refine Mb ?_;show wpAny _ _ (Na S (·.push .none) >>= λ_=>Na S (·.pop)) _ _ _;refine Mb (Nb h rfl ?_);have q:=Mx (Mw (·.push Value.none)) h rfl;refine Nb (hz:=by seq_fits) q rfl ?_
 have I:=Mx (Mw (·.pop)) q rfl;have ne:∀ b,b≠S->∀ o,g0.get? b=some o->((g0.update S (Mw (·.push Value.none))).update S (Mw (·.pop))).get? b=some o:=λb L o e=>(My _ _ (Ne.symm L)).trans ((My _ _ (Ne.symm L)).trans e);refine Me ⟨Nc IP _,c _ _ s.toks (an.keep (λo e=>ne _ (Ne.symm ap) o e) λb o _ e=>?_) (λb o L e=>ne b L o (a b o e)) (by rw[M4,M4];exact big) I rfl⟩
 by_cases z:b=S
 .rw[z];exact⟨_,I⟩
 .exact⟨o,ne b z o e⟩
theorem list_items{r:Addr}{es:Array DictEntry}(n:A.handled=none)(O:s.heap.IsItemsView r d)(y:Ent s.heap d es ep)(T:es.size<=LR)(p:∀ h' M c',(∀ b o,s.heap.get? b=some o->h'.get? b=some o)->h'.get? s.heap.objs.size=some {cls:=.type "list",dict:=none,data:=.seq M c',slots:=#[]}->Q (.ref s.heap.objs.size) {s with heap:=h'}):
  wpAny (model prog w) A (call (.type "list") [.ref r]) Q E s:=by
 obtain⟨k,h,u,i⟩:=id O;obtain⟨Y,H,G,g⟩:=id y;refine callType_codes (Q₁:=λj m=>j=.ref s.heap.objs.size/\m={s with heap:=s.heap.push {cls:=.type "list",data:=.seq #[]}}) PySem.F.called_list (LG _) LI
  (code_list_new _ ⟨rfl,rfl⟩) λj m f=>?_
 obtain⟨rfl,rfl⟩:=f;have x:(s.heap.push {cls:=.type "list",data:=.seq #[]}).get? s.heap.objs.size=some {cls:=.type "list",data:=.seq #[]}:=Mg _ rfl;have l:s.heap.objs.size≠r:=IA (LS h);have c:s.heap.objs.size≠d:=IA (LS H);refine⟨⟨_,x,rfl⟩,LB _ _,?_⟩;show wpAny _ _ (do let a ← Nn (.ref s.heap.objs.size);Builtin.List.listUpdate (.ref s.heap.objs.size) (λ_=>#[]);letGo a.toList.reverse;Nl (.ref s.heap.objs.size) (.ref r) .none) _ _ _
 refine Mb ?_;unfold Nn;refine Mb (M8 x rfl (Me ?_));show wpAny _ _ (Na s.heap.objs.size (λ_=>#[]) >>= λ_=>letGo (#[]:Array Value).toList.reverse >>= λ_=>Nl (.ref s.heap.objs.size) (.ref r) .none) _ _ _;refine Mb (Nb x rfl ?_);have q:=Mx (Mw (λ_=>(#[]:Array Value))) x rfl;have oth:∀ b o,s.heap.get? b=some o->((s.heap.push {cls:=.type "list",data:=.seq #[]}).update s.heap.objs.size (Mw (λ_=>(#[]:Array Value)))).get? b=some o :=
  λb o e=>(My _ _ (IA (LS e))).trans (Mf _ e)
 refine Mb (MX ?_);refine yX (A:=A.in1) n ⟨k,oth _ _ h,u,i⟩ ⟨Y,oth _ _ H,G,g⟩ T l c q λh' M c' D t _ _=>?_;exact⟨rfl,p h' M c' (λb o e=>D b o (Hr (LS e)) (oth b o e)) t⟩
end
end L2.C2
namespace L2
open PySem PySem.Spec PyProof.Rows
inductive rListI(xs:List V)(H:L2.Hp)(Q:L2.VK):Prop
 |mk (v d:Addr)(kvs:List (Key×V)) (h0_:xs=[.ref v])(h1_:H v=some (xY v d))(h2_:H d=some (.dK kvs))(h3_:∀ l:Addr,H l=none->Q (.ref l) H)
theorem zt(C:X.calm=true):gR X (.type "list") rListI:=by
 intro B s M H f z Q I r h;obtain⟨v,d,N,rfl,O,hd,q⟩:=h;obtain⟨u,rfl,E⟩:=jW r
 cases E
 obtain⟨e,_,_⟩:=(show bC X.prog X.w H s.heap v (xY v d) from I.hok v _ O);obtain⟨_,D,k,b,i,l⟩:=BH (P:=X.prog) (w:=X.w) (H:=H) (h:=s.heap) (d:=d) (u:=.dK N) True.intro (I.hok d _ hd);obtain⟨a,_⟩:=(show bC X.prog X.w H s.heap d (.dK N) from I.hok d _ hd);refine C2.list_items (I.ok.hd C) e b (by rw[i];exact a) λg m c j x=>?_
 exact⟨.ref s.heap.objs.size,H,I.kept (t':=s.toks) j,rfl,q _ (I.hok.fresh (G0 _))⟩
structure DK(h h':Heap):Prop where
 le:h.objs.size<=h'.objs.size
 d:∀(e:Addr)(o':Obj),e<h.objs.size->h'.get? e=some o'->∃ o,h.get? e=some o/\o'.dict=o.dict
theorem DK.rfl'(h:Heap):DK h h:=⟨G0 _,λ_ j _ q=>⟨j,q,rfl⟩⟩
theorem DK.trans{a b c:Heap}(x:DK a b)(y:DK b c):DK a c:=⟨Ig x.le y.le,λe j n q=>by
 obtain⟨l,E,d1⟩:=y.d e j (Hv n x.le) q;obtain⟨o,k,C⟩:=x.d e l n E
 exact⟨o,k,d1.trans C⟩⟩
theorem DK.upd{f:Obj->Obj}(G:(h.get? a).isSome)(l:∀ o,(f o).dict=o.dict):DK h (h.update a f):=by
 refine⟨Nat.le_of_eq (M4 ..).symm,λe j n q=>?_⟩;by_cases z:a=e
 .subst z;obtain⟨o,k⟩:=Kq.mp G;obtain⟨E,_⟩:=Heap.get?_some_iff.mp q;obtain⟨C,_⟩:=Heap.get?_some_iff.mp k;refine⟨o,k,?_⟩
  cases h
  simp only[Heap.update,Array.getElem?_modify,if_true]at E;simp only at C;rw[C]at E
  cases E
  exact l o
 .rw[My _ _ z]at q;exact⟨j,q,rfl⟩
theorem DK.psh(h:Heap)(o:Obj):DK h (h.push o):=by
 refine⟨by rw[Mq];exact IV _,λe j n q=>?_⟩
 rw[Heap.get?_push_ne _ _ _ (Hr n)]at q;exact⟨j,q,rfl⟩
def aN{α:Type}:Sem α->Prop
 |.pure _=>True
 |.raise _=>True
 |.unsupported _=>True
 |.finish _=>True
 |.rule _ k=>aN (k ())
 |.at _ k=>aN (k ())
 |.load _ _ k=>∀ o,aN (k o)
 |.update _ _ f k=>(∀ o,(f o).dict=o.dict)/\aN (k ())
 |.alloc _ k=>∀ a,aN (k a)
 |.loadIfAlive _ k=>∀ o,aN (k o)
 |.point _ k=>aN (k ())
 |.register _ _=>True
 |.fresh k=>∀ t,aN (k t)
 |.ask k=>∀ t,aN (k t)
 |.choose _ _ k=>∀ t,aN (k t)
 |.os _ _ k=>∀ t,aN (k t)
 |.call _ _ _ _ _=>False
 |.handled _ k=>∀ t,aN (k t)
 |.newGen _ k=>∀ t,aN (k t)
 |.genState _ k=>∀ t,aN (k t)
 |.resume _ _ _ _=>False
 |.yield _ _ _ _=>True
 |.stack k=>∀ t,aN (k t)
 |.fork _ _=>True
 |.thread k=>∀ t,aN (k t)
 |.await _ _ _ _ _=>True
theorem aN.bind{α u:Type}{m:Sem α}{f:α->Sem u}(y:aN m)(j:∀ a,aN (f a)):aN (m >>= f):=by
 show aN (m.bind f);induction m with
 |pure a=>exact j a
 |raise e=>exact True.intro
 |unsupported w=>exact True.intro
 |finish e=>exact True.intro
 |rule t k C=>exact C () y
 | «at» p k C=>exact C () y
 |load a p k C=>exact λo=>C o (y o)
 |update a p g k C=>exact⟨y.1,C () y.2⟩
 |alloc o k C=>exact λa=>C a (y a)
 |loadIfAlive a k C=>exact λo=>C o (y o)
 |point l k C=>exact C () y
 |register a k C=>exact True.intro
 |fresh k C=>exact λo=>C o (y o)
 |ask k C=>exact λo=>C o (y o)
 |choose s n k C=>exact λo=>C o (y o)
 |os q l k C=>exact λo=>C o (y o)
 |call c h g l k C=>exact y.elim
 |handled o k C=>exact λo=>C o (y o)
 |newGen c k C=>exact λo=>C o (y o)
 |genState g k C=>exact λo=>C o (y o)
 |resume g r l k C=>exact y.elim
 |yield v g l k C=>exact True.intro
 |stack k C=>exact λo=>C o (y o)
 |fork c k C=>exact True.intro
 |thread k C=>exact λo=>C o (y o)
 |await a t d l k C=>exact True.intro
theorem DV{M:Model}{b:PySem.Ctx}(m:Sem α)(y:aN m)(Q:α->Pos->Shared->Prop)(E:Value->Pos->Shared->Prop)(p:Pos)(s:Shared)(h:Sem.wp M b m Q E p s):
  Sem.wp M b m (λa L s'=>Q a L s'/\DK s.heap s'.heap) (λe L s'=>E e L s'/\DK s.heap s'.heap) p s:=by
 have go:∀{m:Sem α}{p:Pos}{s s1:Shared},DK s.heap s1.heap->Sem.wp M b m (λa L s'=>Q a L s'/\DK s1.heap s'.heap) (λe L s'=>E e L s'/\DK s1.heap s'.heap) p s1->Sem.wp M b m (λa L s'=>Q a L s'/\DK s.heap s'.heap) (λe L s'=>E e L s'/\DK s.heap s'.heap) p s1 :=
  λ{m p s s1} d z=>Sem.wp_mono M b m (λa L s' q=>⟨q.1,d.trans q.2⟩) (λa L s' q=>⟨q.1,d.trans q.2⟩) p s1 z
 induction m generalizing p s with
 |pure a=>rw[Sem.wp]at h ⊢;exact⟨h,DK.rfl' _⟩
 |raise e=>rw[Sem.wp]at h ⊢;exact⟨h,DK.rfl' _⟩
 |unsupported w=>rw[Sem.wp]at h;exact h.elim
 |finish e=>rw[Sem.wp]at h;exact h.elim
 |rule t k C=>rw[Sem.wp]at h ⊢;exact C () y p s h
 | «at» L k C=>rw[Sem.wp]at h ⊢;exact C () y L s h
 |load a pt k C=>rw[Sem.wp]at h ⊢;obtain⟨o,e,h⟩:=h;exact⟨o,e,C o (y o) p s h⟩
 |update a pt g k C=>rw[Sem.wp]at h ⊢;exact⟨h.1,go (DK.upd h.1 y.1) (C () y.2 p _ h.2)⟩
 |alloc o k C=>rw[Sem.wp]at h ⊢;exact go (DK.psh _ _) (C _ (y _) p _ h)
 |loadIfAlive a k C=>rw[Sem.wp]at h ⊢;exact C _ (y _) p s h
 |point l k C=>rw[Sem.wp]at h ⊢;exact C () y p s h
 |register a k C=>rw[Sem.wp]at h;exact h.elim
 |fresh k C=>rw[Sem.wp]at h ⊢;exact C _ (y _) p _ h
 |ask k C=>rw[Sem.wp]at h ⊢;exact C _ (y _) p s h
 |choose f n k C=>rw[Sem.wp]at h ⊢;exact⟨h.1,C _ (y _) p _ h.2⟩
 |os q l k C=>rw[Sem.wp]at h ⊢;exact C _ (y _) p _ h
 |call c J g l k C=>exact y.elim
 |handled o k C=>rw[Sem.wp]at h ⊢;exact C _ (y _) p s h
 |newGen c k C=>rw[Sem.wp]at h ⊢;exact C _ (y _) p _ h
 |genState g k C=>rw[Sem.wp]at h ⊢;obtain⟨o,e,h⟩:=h;exact⟨o,e,C _ (y _) p s h⟩
 |resume g r l k C=>exact y.elim
 |yield v g l k C=>rw[Sem.wp]at h;exact h.elim
 |stack k C=>rw[Sem.wp]at h ⊢;exact C _ (y _) p s h
 |fork c k C=>rw[Sem.wp]at h;exact h.elim
 |thread k C=>rw[Sem.wp]at h ⊢;exact C _ (y _) p s h
 |await a t d l k C=>rw[Sem.wp]at h;exact h.elim
theorem Cq{M:Model}{m:Sem α}(y:aN m){Q:α->Shared->Prop}(h:wpAny M A m Q E s):wpAny M A m (λa s'=>Q a s'/\DK s.heap s'.heap) (λe s'=>E e s'/\DK s.heap s'.heap) s :=
 λb p c=>DV m y _ _ p s (h b p c)
theorem bc(a:α):aN (pure a:Sem α):=True.intro
theorem tW(w:String):aN (PySem.unsupported w:Sem α):=True.intro
theorem cR{c:Prop}[Decidable c]{a b:Sem α}(G:aN a)(L:aN b):aN (if c then a else b):=by split<;>assumption
theorem lJ(a:Addr):aN (load a):=λ_=>True.intro
theorem jQ:aN stack:=λ_=>True.intro
theorem oF(v:Value):aN (fieldsOf v):=by
 unfold fieldsOf
 cases v with
 |ref a =>
  refine aN.bind (lJ a) λo=>?_
  cases o.data<;>exact True.intro
 |_=>exact True.intro
theorem gM(v:Value)(i:Nat):aN (field v i):=by
 unfold field;refine aN.bind (oF v) λm=>?_
 cases m[i]?<;>exact True.intro
theorem fE(v:Value)(i:Nat)(x:Value):aN (setField v i x):=by
 unfold setField
 cases v with
 |ref a =>
  show aN (updateField a i x);unfold updateField;refine aN.bind (lJ a) λo=>?_
  cases o.data with
  |fields m =>
   refine cR ?_ (tW _);refine⟨λo=>?_,True.intro⟩;unfold Obj.mapFields;split<;>rfl
  |_=>exact True.intro
 |_=>exact True.intro
theorem nO(e:Value)(f:Option Addr):aN (setFlight e f):=by
 unfold setFlight;refine aN.bind (gM e 1) λi=>?_;exact cR (fE _ _ _) (bc _)
theorem nP:∀ l:List Env,aN (readyFrames l)
 |[]=>True.intro
 |h::u=>by
  unfold readyFrames
  cases h.frame with
  |none=>exact True.intro
  |some f =>
   refine aN.bind (lJ f) λo=>?_;refine cR (bc _) ?_;refine aN.bind ?_ λi=>aN.bind ?_ λb=>aN.bind ⟨λo=>rfl,True.intro⟩ λ_=>nP u
   .unfold behindIsImport;refine cR (bc _) (cR (bc _) (aN.bind (gM _ _) λ_=>bc _))
   .unfold keptBack
    cases u with
    |nil=>exact cR (bc _) (aN.bind (by unfold underTheClaimsCaller;exact aN.bind jQ λ_=>bc _) λ_=>bc _)
    |cons c r=>exact bc _
theorem qX(env:Env):aN (LD env):=by
 unfold LD frameObject frameEnvs;refine aN.bind (aN.bind jQ λ_=>bc _) λl=>aN.bind ?_ λo=>?_
 .cases (l.dropWhile λx=>x.frame != env.frame) with
  |nil=>exact bc _
  |cons e r=>exact aN.bind (nP _) λ_=>bc _
 .cases o<;>exact True.intro
theorem wu(f:Addr)(b:Bool):aN (entryPlaceOf f b):=by
 unfold entryPlaceOf;refine aN.bind jQ λa=>?_;split<;>exact True.intro
theorem nQ(e:Value)(env:Env):aN (noteFrame e env):=by
 unfold noteFrame
 cases env.frame with
 |none=>exact True.intro
 |some f =>
  refine aN.bind (gM _ _) λc=>?_
  have last:aN (do
    let a ← LD env
    let m ← entryPlaceOf f (c != .none)
    let b ← EntryCells.newEntry c a .none (rawInt f) .none m
    setField e 1 b):=by
   refine aN.bind (qX env) λa=>aN.bind (wu _ _) λm=>aN.bind ?_ λb=>fE _ _ _;unfold EntryCells.newEntry newFields newObj;dsimp only;have g:∀ d:Data,aN (newObjAsIs (.type "traceback") d):=λd=>aN.bind (λ_=>True.intro) λ_=>bc _;exact cR (aN.bind (tW _) λ_=>g _) (g _)
  refine cR (aN.bind (gM _ _) λz=>cR (bc _) (aN.bind (fE _ _ _) λ_=>last)) last
theorem qW(env:Env)(e:Value):aN (leaving env e):=aN.bind (nQ e env) λ_=>nO e none
def Xd(h:Heap)(x:Addr)(d:Option Addr):Prop:=∃ B,h.get? x=some B/\B.dict=d
theorem Xd.dk{x:Addr}{d:Option Addr}(z:Xd h x d)(k:DK h h')(ex:∃ o,h'.get? x=some o):Xd h' x d:=by
 obtain⟨B,e,hd⟩:=z;obtain⟨j,u⟩:=ex;obtain⟨o,E,d2⟩:=k.d x j (LS e) u;rw[e]at E
 cases E
 exact⟨j,u,d2.trans hd⟩
theorem Trc.there{x T:Addr}{C:Value}(t:Trc h x C T):∃ o,h.get? x=some o:=by
 obtain⟨B,_,_,_,_,n,_⟩:=t;exact⟨B,n⟩
def CXd(P:Program)(w:World):CXT:=λu H s E e q=>∃(x:Addr)(C:Value)(T:Addr)(l:Hp)(d:Option Addr),e=.ref x/\q.os=s.os/\AllBare q.gens/\Un (frs u) [] H l s.heap q.heap/\HOk P w l q.heap /\
 s.heap.get? x=none/\s.heap.get? T=none/\l x=none/\l T=none/\Trc q.heap x C T/\Xd q.heap x d/\E C d l
abbrev WKD:=Value->Option Addr->St->Hp->Prop
def WshD(X:Cx)(W:WKD):Prop:=∀(B:List (Addr×Obj))(M:St)(H:Hp)(s:Shared)(x:Addr)(C:Value)(d:Option Addr),Inv X B M H s->XA X B H s x C->Xd s.heap x d->W C d M H->X.xe (.ref x) s
theorem zH{N:List Str}{m:Str}{s₀:Shared}{H₀:Hp}{E:XK}:
  WshD (cxOf (CXd P w) P w K mg base N m scope f u A outer s₀ H₀ E) (λC d _ H=>E C d H):=λB M H s x C d I xa z t=>by
 show wpAny (model P w) (A.deeper (envOfC m scope s₀.heap.objs.size f u)) (leaving (envOfC m scope s₀.heap.objs.size f u) (.ref x)) _ _ s;refine LZ (Cq (qW _ _) (Inv.leave (Q:=λ_ D=>∃ p T,D={s with heap:=p}/\Inv (cxOf (CXd P w) P w K mg base N m scope f u A outer s₀ H₀ E) B M H {s with heap:=p}/\XOk (cxOf (CXd P w) P w K mg base N m scope f u A outer s₀ H₀ E) B H x/\XOk (cxOf (CXd P w) P w K mg base N m scope f u A outer s₀ H₀ E) B H T/\Trc p x C T) (E:=λ_ _=>False) I rfl rfl rfl xa λp T g r i y=>⟨p,T,rfl,g,r,i,y⟩)) ?_ (λ_ _ q=>q.1.elim);rintro _ D ⟨⟨p,T,rfl,g,r,i,y⟩,dk⟩;exact⟨x,C,T,H,d,rfl,g.os,g.bare,g.base,g.hok,r.old,i.old,r.trk,i.trk,y,z.dk dk y.there,t⟩
structure CalD(P:Program)(w:World)(K:GX)(mg:Str->Option Value)(base:Heap)(k:Nat)(x:Str)(ps:List Str)(sp:Sp)(f:Addr)(fd:FuncData):Prop where
 ok:FnOk P w K mg base (CXd P w) k f fd ps sp
 bn:dQ K fd ps []
 mg:mg x=some (.ref f)
 kp:HV K (.ref f)=true
theorem Fun.okD{m:Str}{st:Stmt}{N ps:List Str}{k:Nat}(F:Fun K x m st f fd)(S:az N ps (ar st))(len:∀ vs H Q E,sp vs H Q E->vs.length=ps.length)(a:∀(M:Value)(A:Around)(outer:List Env)(s:Shared)(H:Hp)(vs:List V)(Q:VK)(E:XK),Room k (A.deeper (envOfC m (ar st) s.heap.objs.size f M))->sp vs H Q E ->
   ∃ t,PSs (cxOf (CXd P w) P w K mg base N m (ar st) f M A outer s H E) (b7 st) t/\t {nx:=λ_ H'=>Q .non H',rt:=Q} (oq N vs) H):FnOk P w K mg base (CXd P w) (k+1) f fd ps sp:=by
 obtain⟨g,Y,kV,O,C,d,M,l,b,rfl,p,L⟩:=F.ex;exact Gk p L S len λA outer s H vs Q E j I=>a M A outer s H vs Q E j I
section
variable{X:Cx}{k:Nat}{f C:Addr}{fd:FuncData}{ps:List Str}{sp:Sp}{dvs:List V}{ds:List Value}{W:WKD}{x m:Str}{p pos apos:Pos}{e o:Expr}{es:List Expr}{ta:TE}{t:TA}
theorem WshD.of{v:Value}(l:WshD X W)(O:X.ex=[])(I:Inv X J σ H s)(h:CXd X.prog X.w X.stack H s (λC d H'=>W C d σ H') v s'):X.xe v s':=by
 obtain⟨x,C,T,H',d,rfl,os,a,un,A,t,c,e,f,y,z,q⟩:=h;have g:Inv X J σ H' s':=I.call' os un A a λb z=>Nr z (by simp)
 exact l J σ H' s' x C d g ⟨I.xok O t e,.inr ⟨T,I.xok O c f,y⟩⟩ z q
theorem Ft{Q:VK}{vs:List V}(F:FnOk X.prog X.w X.K X.mg X.base (CXd X.prog X.w) k f fd ps sp)(N:Room k X.A)(L:dQ X.K fd ps ds)(hd:Vals dvs ds)(l:WshD X W)(O:X.ex=[])(I:Inv X J σ H s)(r:Vals vs us)(h:sp (vs++dvs) H Q (λC d H'=>W C d σ H')):wpAny (model X.prog X.w) X.A (call (.ref f) us) (EP X J σ Q) X.xe s:=by
 have o:Vals (vs++dvs) (us++ds):=r.append hd;have G:(us++ds).length=ps.length:=by rw[← o.length];exact F.len _ _ _ _ h
 refine wpAny_call (Mt (F.run X.A X.stack s H ⟨us,[]⟩ (us++ds) (vs++dvs) Q _ N I.env0 (L s us I.kIn G) o h) λr q g=>?_)
 cases r with
 |error e=>exact l.of O I g
 |ok T =>
  cases T with
  |ret u=>exact I.after g
  |next=>exact False.elim g
  |brk=>exact False.elim g
  |cont=>exact False.elim g
def Er(sp:Sp)(dvs:List V)(W:WKD)(t:TA):TE:=λM H Q=>t M H λm Y=>sp (m++dvs) Y Q λC d l=>W C d M l
theorem CV(F:FnOk X.prog X.w X.K X.mg X.base (CXd X.prog X.w) k f fd ps sp)(N:Room k X.A)(J:Gl X x)(y:X.mg x=some (.ref f))(D:HV X.K (.ref f)=true)(L:dQ X.K fd ps ds)(hd:Vals dvs ds)(l:WshD X W)(O:X.ex=[])(G:PA X (e::es) t)(b:(x == ("__debug__" : Str))=false:=by decide)(n:LY (e::es) X.env=(false,eval e X.env)::LY es X.env:=by rfl)(a:(backTo pos (LY es X.env)).any (·.1)=false:=by rfl):
  PE X (.Call (.Name x p) (e::es) [] pos) (Er sp dvs W t):=by
 intro B s M H Q I h;refine Mu (jL I J y ?_ b);refine JH (h₀:=X.base) I.ok.mod.kin D (thn (G pos B s M H _ I h) λz j ⟨m,Y,i,r,q⟩=>⟨i.kIn,?_⟩) n a;exact Ft F N L hd l O i r q
end
def Fg(C:Addr)(W:WKD)(t:TA):TS:=λ_ M H=>t M H λm Y=>m.length<=LR/\W (.ref C) none M Y
theorem As{es:List Expr}{t:TA}{W:WKD}{np v:Pos}(i:ExC X.K C)(A:X.mg x=some (.ref C))(Q:Gl X x)(l:WshD X W)(O:X.ex=[])(G:X.calm=true)(o:PA X (e::es) t)(n:LY (e::es) X.env=(false,eval e X.env)::LY es X.env:=by rfl)(a:(backTo v (LY es X.env)).any (·.1)=false:=by rfl)(b:(x == ("__debug__" : Str))=false:=by decide):
  PS X (.Raise (some (.Call (.Name x np) (e::es) [] v)) none pos) (Fg C W t):=by
 intro B s M H D I h;obtain⟨tl,N,nm,L,bs,hdct,sn,sub,ab,col,dd,k0,k1,k2,k3,k5,mN,hC,k,E,T,_⟩:=BE i I.ok.mod.kin;have ac:(backTo v (LY (e::es) X.env)).any (·.1)=false:=by
  rw[n];show(false||(backTo v (LY es X.env)).any (·.1))=false
  rw[a];rfl
 refine wpAny_Raise_call_subT (C:=C) (nm:=nm) (q:=L) (N:=N) (bs:=bs) (bm:=tl) (hdct:=hdct) (sn:=sn) (sub:=sub) (ab:=ab) (col:=col) (dd:=dd) (k0:=k0) (k1:=k1) (k2:=k2) (k3:=k3) (k5:=k5) Lv (mN:=mN) (T.hasType Lv.hasBase) (I.ok.hd G) ac E (jL I Q A ⟨rfl,?_⟩ b);have z:=o v B s M H _ I h;rw[n]at z ⊢;refine Calls.evalArgs_plain (LZ z (λc J zz=>?_) λ_ _ y=>y);obtain⟨m,Y,g,r,f,q⟩:=zz;refine⟨rfl,by rw[← r.length];exact f,g.bk _ _ hC,k.keeps g.bk,T.keeps g.bk,λp u aa=>?_⟩
 obtain⟨j,w,_,_⟩:=aa.there;have d:Inv X B M Y {J with heap:=p}:=g.kept (t':=J.toks) aa.keeps;exact l B M Y _ u (.ref C) none d ⟨g.xok O aa.new (g.hok.none_of aa.new),.inl ⟨_,_,_,w,rfl,rfl,rfl,rfl⟩⟩ ⟨_,w,rfl⟩ q
def WshTD(X:Cx)(W:WKD):Prop:=∀(B:List (Addr×Obj))(M:St)(H:Hp)(s:Shared)(x T:Addr)(C:Value)(d:Option Addr),Inv X B M H s->XOk X B H x->XOk X B H T->Trc s.heap x C T->Xd s.heap x d->W C d M H->X.xe (.ref x) s
section
variable{X:Cx}{k:Nat}{f:Addr}{fd:FuncData}{ps:List Str}{sp:Sp}{dvs:List V}{ds:List Value}{W:WKD}{x:Str}{p pos:Pos}{e:Expr}{es:List Expr}{t:TA}
theorem AE(F:FnOk X.prog X.w X.K X.mg X.base (CXd X.prog X.w) k f fd ps sp)(N:Room k X.A)(J:Gl X x)(y:X.mg x=some (.ref f))(D:HV X.K (.ref f)=true)(L:dQ X.K fd ps ds)(hd:Vals dvs ds)(a:WshTD X W)(O:X.ex=[])(o:PA X (e::es) t)(ab:(x == ("__debug__" : Str))=false:=by decide)(n:LY (e::es) X.env=(false,eval e X.env)::LY es X.env:=by rfl)(aa:(backTo pos (LY es X.env)).any (·.1)=false:=by rfl):
  PE X (.Call (.Name x p) (e::es) [] pos) (Er sp dvs W t):=by
 intro B s M H Q I h;refine Mu (jL I J y ?_ ab);refine JH (h₀:=X.base) I.ok.mod.kin D (thn (o pos B s M H _ I h) λc j ⟨m,Y,i,r,q⟩=>⟨i.kIn,?_⟩) n aa;have v:Vals (m++dvs) (c++ds):=r.append hd;have G:(c++ds).length=ps.length:=by rw[← v.length];exact F.len _ _ _ _ q
 refine wpAny_call (Mt (F.run X.A X.stack j Y ⟨c,[]⟩ (c++ds) (m++dvs) Q _ N i.env0 (L j c i.kIn G) v q) λr E g=>?_)
 cases r with
 |error e =>
  obtain⟨x,C,T,l,d,rfl,os,ae,un,ac,nx,nT,tx,tT,tr,z,q'⟩:=g;have I':Inv X B M l E:=i.call' os un ac ae λb z=>Nr z (by simp)
  exact a B M l E x T C d I' (i.xok O nx tx) (i.xok O nT tT) tr z q'
 |ok fl =>
  cases fl with
  |ret u=>exact i.after g
  |next=>exact False.elim g
  |brk=>exact False.elim g
  |cont=>exact False.elim g
end
section
variable{M:Model}{A:Around}{E:Value->Shared->Prop}{h:Heap}{g:Array GenState}{d:Drawn}{t:Nat}{os:OsState}
theorem Gw{D:Addr}{q s:Str}{u k:List Value}{e:Bool}{v:List Str}{l:List Value}{w:Bool}{m:Option Bool}{o:Option Addr}{L I y z n:Option Value}{B:String}{x:Addr}{Q:Bool->Shared->Prop}(b:h.get? D=some (excClassObj q s D a u k e v l w m o L I y z n B))(f:h.get? x=some ob)(c:ob.cls=.ref C)(j:(Value.ref D::k).contains (.type "BaseException")=true)(p:PySem.W.Looks M h (isSubtype (.ref C) (.ref D)) true)(r:Q true ⟨h,g,d,t,os⟩):wpAny M A (excMatches (.ref x) (.ref D)) Q E ⟨h,g,d,t,os⟩:=by
 have i:=tc_notTuple;unfold excMatches;repeat (first|(with_reducible refine wpAny_loadPart_at f ?_;rw[c])|with_reducible refine wpAny_loadPart_at b ?_|(with_reducible refine wpAny_isSubtype_exc b ?_;rw[j])|with_reducible refine p.at ?_|wp_step)
 exact r
end
section
variable{X:Cx}{pins:List (Addr×Obj)}{σ:St}{H H':Hp}{s s':Shared}{b:Addr}
end
section
variable{M:Model}{A:Around}{E:Value->Shared->Prop}{s:Shared}
end
section
variable{X:Cx}{pins:List (Addr×Obj)}{σ:St}{H:Hp}{s:Shared}{x T:Addr}{C:Value}{E:Value->Shared->Prop}
theorem El{x T:Addr}(r:XOk X pins H x)(i:XOk X pins H T):∀ b∈[x,T],XOk X pins H b:=λb L=>by
 rcases G6.mp L with e|L
 .rw[e];exact r
 .have e:b=T:=by simpa using L
  rw[e];exact i
end
section
variable{X:Cx}{k:Nat}{f:Addr}{fd:FuncData}{ps:List Str}{sp:Sp}{dvs:List V}{ds:List Value}{W:WKD}{x:Str}{p pos:Pos}{e:Expr}{es:List Expr}{t:TA}
end
section
variable{X:Cx}{pins:List (Addr×Obj)}{σ:St}{H:Hp}{s:Shared}{x T L:Addr}{C:Value}{d:Option Addr}{R:Value->Shared->Prop}{fenv cenv:Env}{outer:List Env}
end
section
variable{X:Cx}{scope:Scope}{fr:List (Str×Nat)}{xs:List Str}{elt iter tg:Expr}{ifs:List Expr}{pos:Pos}{tt:TT}{tgt:TG}{wi:TI}
end
def tTryN(Cs:Addr->Prop)(tb:WKD->TS)(ts:TS):TS:=λb M H=>tb (λC _ a Y=>∃ c,C=.ref c/\Cs c/\ts {nx:=λh L=>b.nx h L,rt:=b.rt} a Y) b M H
theorem Fz{ab:List Stmt}{b0:Stmt}{aL:List Stmt}{dn:Str}{np a1:Pos}{D:Addr}{Cs:Addr->Prop}{tb:WKD->TS}{ts:TS}(O:X.ex=[])(ac:X.stack=X.env::X.outer)(an:X.env.frame=some X.env.locals)(bm:Gl X dn)(bn:X.mg dn=some (.ref D))(eD:ExC X.K D)(a4:∀ c,Cs c->JG X.K c (.ref D)=some true)(L:∀ B XE W,WshTD (X.tried B XE) W->PSs (X.tried B XE) ab (tb W))(l:∀ v,PSs (X.marked v) (b0::aL) ts)(ae:(dn == ("__debug__" : Str))=false:=by decide):
  PS X (.Try ab [.ExceptHandler (some (.Name dn np)) none (b0::aL) a1] [] [] pos) (tTryN Cs tb ts):=by
 intro B s M H Ds I h;refine wpAny_Try_except ?_;refine LZ (L B (λe aa=>wpAny (model X.prog X.w) X.A (noteFrame e X.env) (λ_ am=>wpAny (model X.prog X.w) X.A (setFlight e none) (λ_ al=>wpAny (model X.prog X.w) X.A (handleBy e X.env [.ExceptHandler (some (.Name dn np)) none (b0::aL) a1]) (SP X B Ds) X.xe al) X.xe am) X.xe aa) _ ?_ [] s M H Ds I.tried h) (λf s1 q=>?_) λ_ _ z=>z
 .intro bp ap Y s1 x T C d i xx xT tr zd hw;obtain⟨c,rfl,G,bv⟩:=hw;have g:Inv X B ap Y s1:=i.untried;have y:XOk X B Y x:=xx.untried;have T2:XOk X B Y T:=xT.untried;have aW:X.A.frames=some (X.env::X.outer):=by rw[← ac];exact g.ok.frames
  have ba:∀{h:Heap}{T:Addr},Inv X B ap Y {s1 with heap:=h}->Trc h x (.ref c) T->∃ a0,Heap.FlyingW (hidX X h [x,T]) (X.env::X.outer) x (.ref c) a0 h:=λ{h T} J tr=>by
   obtain⟨oe,m,a0,oT,ts,n,aI,o,hd,k,aT,p,aS,j⟩:=tr;exact⟨a0,Bl _ _,kH (by simp),ac▸J.hidF [x,T],⟨oe,m,T,oT,ts,n,⟨aI,o⟩,hd,k,kH (by simp),aT,p,aS,j⟩⟩
  obtain⟨a0,fl⟩:=ba (h:=s1.heap) g tr;refine LZ (wpAny_looks_onW (Q:=λ_ t=>∃ N,t={s1 with heap:=N}/\Heap.HeldW (hidX X s1.heap [x,T]) (X.env::X.outer) x (.ref c) a0 X.env.locals N/\s1.heap.UpToSlots N) (E:=λ_ _=>False) aW an fl λN a b=>⟨N,rfl,a,b⟩) ?_ (λ_ _ q=>q.elim);rintro _ s4 ⟨N,rfl,a6,bB⟩;refine LZ (wpAny_landsW (Q:=λ_ t=>∃ h5,t={s1 with heap:=h5}/\Heap.FlyingW (hidX X s1.heap [x,T]) (X.env::X.outer) x (.ref c) a0 h5/\N.UpToSlots h5) (E:=λ_ _=>False) a6 λh5 a b=>⟨h5,rfl,a,b⟩) ?_ (λ_ _ q=>q.elim);rintro _ r ⟨h5,rfl,bb,bE⟩;obtain⟨I5,T5,bR,bd⟩:=g.left O (El y T2) bb.1 bb.2.2.2 (bB.trans bE);refine wpAny_handleBy_cons (codeAny_handlers_test (Calls.Name_function_global I5.ok.kind bm (Calls.loadGlobal_global (by rw[I5.ok.glob];exact I5.mod.glob.keeps I5.bk) bn ?_) ae)) (by intro q;cases q)
  obtain⟨_,_,_,_,_,_,_,_,_,_,_,_,_,_,_,_,_,hD,_,_,TD,_⟩:=BE eD I5.kIn;have a3:=TD.hasType (X:="BaseException") (b:=true) rfl;obtain⟨ob,_,_,_,_,a2,aI,_⟩:=id bd;refine Gw hD a2 aI (by rw[List.contains_cons,a3,Bool.or_true]) (PySem.W.looks_mroIn I5.kIn (a4 c G)) ?_
  refine codeAny_handlers_suite ?_;obtain⟨a5,be⟩:=ba I5 bd;refine LZ (lands_againW (Q:=λ_ t=>∃ h6,t={s1 with heap:=h6}/\Heap.FlyingW (hidX X h5 [x,T5]) (X.env::X.outer) x (.ref c) a5 h6/\h5.UpToSlots h6) (E:=λ_ _=>False) (s:={s1 with heap:=h5}) be λh6 a b=>⟨h6,rfl,a,b⟩) ?_ (λ_ _ q=>q.elim);rintro _ s6 ⟨h6,rfl,bi,bS⟩;obtain⟨I6,T6,bU,bZ⟩:=I5.left O (El y bR) bi.1 bi.2.2.2 bS;refine LZ (l (.ref x) B _ _ _ _ (I6.marked _) bv) (λf s9 q9=>?_) λ_ _ z=>z.elim
  cases f with
  |next =>
   obtain⟨a7,H9,I9,q9⟩:=q9;exact⟨a7,H9,Inv.unmarked (hd:=g.ok.hd) (fr:=g.ok.frames) I9,q9⟩
  |brk=>obtain⟨_,_,_,z⟩:=q9;exact z.elim
  |cont=>obtain⟨_,_,_,z⟩:=q9;exact z.elim
  |ret u =>
   obtain⟨v9,a7,H9,I9,r9,q9⟩:=q9;exact⟨v9,a7,H9,Inv.unmarked (hd:=g.ok.hd) (fr:=g.ok.frames) I9,r9,q9⟩
 .have q':=SP.untried q
  cases f with
  |next=>exact wpAny_execs_nil q'
  |brk=>exact q'
  |cont=>exact q'
  |ret u=>exact q'
theorem rW.g{J:It}(h:rW O σ J H1 QQ):gP (ml 0) tYes O 1 σ J H1 QQ:=by
 obtain⟨W,E,st⟩:=h;refine⟨W,E,λi m k H w=>?_⟩;obtain⟨l,h⟩:=st i m k H w;refine⟨l,h.imp id λ⟨go,N,a,h⟩=>⟨go,λc L=>∃ y,c=k++[y]/\N y L,λc L ⟨y,e,n⟩=>e▸a y L n,λx d G=>⟨rfl,yesT ?_⟩⟩⟩
 have e:(λy t=>∃ f,k++[y]=k++[f]/\N f t)=N:=funext λy=>funext λt=>propext ⟨λ⟨f,e,n⟩=>by
  have:y=f:=by simpa using e
  rw[this];exact n,λn=>⟨y,rfl,n⟩⟩
 rw[e];exact h x d G
theorem bI(Pv:Nat->List V->Hp->Prop)(hz:xs.length<=LR)(o:Pv 0 [] H1)(hl:∀ i ys H,i<=xs.length->Pv i ys H->SqL K H a xs)(T:∀ i x ys H,xs[i]?=some x->Pv i ys H->O (some x::σ) H λy H2=>Pv (i+1) (ys++[y]) H2)(hd:∀ ys H,ys.length=xs.length->Pv xs.length ys H->QQ ys H):gP (ml 0) tYes O 1 σ (Itl K a) H1 QQ:=(B3 Pv hz o hl T hd).g
theorem bT{lo:Int}(Pv:Nat->List V->Hp->Prop)(hz:n<=LR)(o:Pv 0 [] H1)(T:∀ i ys H,i<n->Pv i ys H->O (some (.int (lo+i))::σ) H λy H2=>Pv (i+1) (ys++[y]) H2)(hd:∀ ys H,ys.length=n->Pv n ys H->QQ ys H):gP (ml 0) tYes O 1 σ (Itr lo n) H1 QQ:=(zj Pv hz o T hd).g
theorem uf{lo c:Int}(Pv:Nat->List V->Hp->Prop)(hz:n<=LR)(o:Pv 0 [] H1)(T:∀ i ys H,i<n->Pv i ys H->O (some (.int (lo+i*c))::σ) H λy H2=>Pv (i+1) (ys++[y]) H2)(hd:∀ ys H,ys.length=n->Pv n ys H->QQ ys H):gP (ml 0) tYes O 1 σ (Itr3 lo c n) H1 QQ:=(wV Pv hz o T hd).g
section
variable{X:Cx}{scope:Scope}{fr:List (Str×Nat)}{xs:List Str}{elt iter tg:Expr}{ifs:List Expr}{pos:Pos}{tt:TT}{tgt:TG}{wi:TI}{te:TE}
end
section
variable{prog:Program}{w:World}{A:Around}{E:Value->Shared->Prop}{s:Shared}
theorem A0{Pv:Nat->Value->Prop}{Sq:Nat->Heap->Prop}{T:String}(W:Walks prog w A.in1.in1 I fp [I] n Pv Sq)(i:n<=LR)(st:Sq 0 s.heap)(H:I∈fp)(ab:∀ b∈fp,b<s.heap.objs.size)(j:∀ h,Sq 0 h->∃ o,h.get? I=some o/\o.cls=.type T)(v:(Value.type T == Value.type "list")=false)(t2:(Value.type T == Value.type "tuple")=false)(hint:∀(h:Heap)(N:Bool->Shared->Prop)(O:Value->Shared->Prop),Sq 0 h->(∀ tk,N false {s with heap:=h,toks:=tk})->wpAny (model prog w) A.in1.in1 (MD (.ref I)) N O {s with heap:=h})(p:∀ h' tk M c',(∀ b o,b≠I->s.heap.get? b=some o->h'.get? b=some o)->h'.get? s.heap.objs.size=some {cls:=.type "list",dict:=none,data:=.seq M c',slots:=#[]}->ItemsOf Pv M n->Q (.ref s.heap.objs.size) {s with heap:=h',toks:=tk}):
  wpAny (model prog w) A (call (.type "list") [.ref I]) Q E s:=by
 refine callType_codes (Q₁:=λz m=>z=.ref s.heap.objs.size/\m={s with heap:=s.heap.push {cls:=.type "list",data:=.seq #[]}}) PySem.F.called_list (LG _) LI
  (code_list_new _ ⟨rfl,rfl⟩) λz m f=>?_
 obtain⟨rfl,rfl⟩:=f;have x:(s.heap.push {cls:=.type "list",data:=.seq #[]}).get? s.heap.objs.size=some {cls:=.type "list",data:=.seq #[]}:=Mg _ rfl;have G:s.heap.objs.size∉fp:=λy=>Ia _ (ab _ y);refine⟨⟨_,x,rfl⟩,LB _ _,?_⟩;show wpAny _ _ (Nn (.ref s.heap.objs.size) >>= λa=>Builtin.List.listUpdate (.ref s.heap.objs.size) (λ_=>#[]) >>= λ_=>letGo a.toList.reverse >>= λ_=>Nl (.ref s.heap.objs.size) (.ref I) .none) _ _ _;refine Mb ?_;unfold Nn;refine Mb (M8 x rfl (Me ?_));show wpAny _ _ (Na s.heap.objs.size (λ_=>#[]) >>= λ_=>letGo (#[]:Array Value).toList.reverse >>= λ_=>Nl (.ref s.heap.objs.size) (.ref I) .none) _ _ _;refine Mb (Nb x rfl ?_);have C:=Mx (Mw (λ_=>(#[]:Array Value))) x rfl;have oth:∀ b o,s.heap.get? b=some o->((s.heap.push {cls:=.type "list",data:=.seq #[]}).update s.heap.objs.size (Mw (λ_=>(#[]:Array Value)))).get? b=some o:=λb o e=>(My _ _ (IA (LS e))).trans (Mf _ e);refine Mb (MX ?_);generalize ((s.heap.push {cls:=.type "list",data:=.seq #[]}).update s.heap.objs.size (Mw (λ_=>(#[]:Array Value))))=Y at C oth;have c:=W.frame 0 s.heap Y st λb _ o e=>oth b o e;have B:∀(h:Heap)(c1 tk:Nat),(∀ b o,s.heap.get? b=some o->h.get? b=some o)->h.get? s.heap.objs.size=some {cls:=.type "list",data:=.seq #[] c1}->Mp (model prog w) A.in1 (.builtin "list.extend.loop" ⟨[.ref s.heap.objs.size,.ref I,.none],[]⟩) (wants (λr d=>r=Value.none/\Q (.ref s.heap.objs.size) d) E) {s with heap:=h,toks:=tk}:=by
  intro h c1 tk D g;refine codeAny_extend_loopS W.toS i s.heap.objs.size G .none n 0 _ #[] c1 rfl (HI _) (W.frame 0 s.heap h st λb _ o e=>D b o e) g (ItemsOf.nil _) λq M c' y t l=>?_;rw[Moved.eq_with y];refine⟨rfl,p q.heap q.toks M c' (λb o L e=>y.heap b o (λk=>?_) (D b o e)) t l⟩;rcases G6.mp k with u|k
  .exact Hr (LS e) u
  .exact L (Hi.mp k)
 unfold Nl;refine Mb (wpAny_typeOf (T:=T) (j _ c) ?_);have J:Nm (.ref s.heap.objs.size) (.ref I)=false:=by
  have:s.heap.objs.size≠I:=λe=>G (e▸H);simp[Nm,this]
 simp only[J,v,t2,LO,Il,if_false];refine Mb (W.self 0 _ _ _ c (Mb (Mc (hint _ _ _ c λtk=>?_))));refine ME (λ_=>?_) (λ_=>Me ⟨Nc IP _,B _ _ _ oth C⟩);refine Mb (wpAny_rule (Mb ?_));show wpAny _ _ (Na s.heap.objs.size (·.push .none) >>= λ_=>Na s.heap.objs.size (·.pop)) _ _ _;refine Mb (Nb C rfl ?_);have aa:=Mx (Mw (·.push Value.none)) C rfl;refine Nb (hz:=by seq_fits) aa rfl ?_
 have ac:=Mx (Mw (·.pop)) aa rfl;exact Me ⟨Nc IP _,B _ _ _ (λb o e=>(My _ _ (IA (LS e))).trans ((My _ _ (IA (LS e))).trans (oth b o e))) ac⟩
end
theorem Fc{m:Array Value}(rv:Vals ys its)(h:ItemsOf (λi v=>its.toArray[its.toArray.size-1-i]?=some v) m its.toArray.size):Vals ys.reverse m.toList:=by
 have e:m.toList=its.reverse:=by
  apply Kv;intro i;by_cases I:i<its.length
  .have l:i<m.size:=by rw[h.1];simpa using I
   have q:=h.2 i m[i] (Iq l);rw[Ib,Iq l,List.getElem?_reverse I,← q];simp
  .rw[Iy (by rw[HB,h.1];simpa using I),Iy (by rw[K4];omega)]
 rw[e];exact rv.reverse
theorem sN{p p2 ac:Pos}(C:X.calm=true)(t:Gl X "list")(y:X.mg "list"=none)(al:Gl X "reversed")(ae:X.mg "reversed"=none)(Y:PE X e O)(J:LY [.Call (.Name "reversed" p2) [e] [] ac] X.env=[(false,eval (.Call (.Name "reversed" p2) [e] [] ac) X.env)]:=by rfl)(h2:LY [e] X.env=(false,eval e X.env)::LY [] X.env:=by rfl):
  PE X (.Call (.Name "list" p) [.Call (.Name "reversed" p2) [e] [] ac] [] pos) (λσ H Q=>O σ H λx H1=>∃ l ys,x=.ref l/\SqL X.K H1 l ys/\∀ q,H1 q=none->Q (.ref q) (upd H1 q (.lst ys.reverse))):=by
 intro B s σ H Q I h;refine Mu (jd I t y iF ?_);refine Mi ?_ J rfl;rw[J];refine Ms ?_;refine Mu (jd I al ae xb ?_);refine Mi ?_ h2 rfl;rw[h2];refine Ms (thn (Y B s σ H _ I h) λu j ⟨x,H1,d,w,E⟩=>?_);obtain⟨l,ys,rfl,g,q⟩:=E
 cases w
 refine Mr ?_;obtain⟨N,rv,pl,hz⟩:=d.list g;have i:N.toArray.size=ys.length:=by rw[Hl,rv.length]
 refine call_reversed_list pl.isList ?_;refine Mr ?_;have G:l<j.heap.objs.size:=by
  obtain⟨o,n,f,_⟩:=pl;exact LS f
 have m:Inv X B σ H1 {j with heap:=j.heap.push (revObj l ((N.toArray.size:Int)-1))}:=d.kept (t':=j.toks) λb o e=>Mf _ e;have ab:(j.heap.push (revObj l ((N.toArray.size:Int)-1))).IsRevIter j.heap.objs.size l ((N.toArray.size:Int)-1):=⟨_,Mg _ rfl,rfl,rfl⟩;refine A0 (T:="list_reverseiterator") (Walks.listRev (A:=X.A.in1.in1) (I.ok.hd C) j.heap.objs.size l (Hr G) N.toArray) (by rw[i];exact hz) ⟨HI _,by simpa using ab,pl.isList.push _⟩ (by simp) (λb L=>?fp) (λh z=>let ⟨o,c,C,_⟩:=z.2.1;⟨o,c,C⟩) (by decide) (by decide) (λh Q' E' z k=>DD z.2.1.typeIs (k j.toks)) λr tk M a D v aa=>?_
 case fp =>
  rw[Mq];rcases G6.mp L with e|e
  .rw[e];exact HK _
  .rw[Hi.mp e];exact Iz G
 obtain⟨f0,f1,f2,f3,f4,f5⟩:=d.fpOk (H':=H1) (G0 _) (d.hok.fresh (G0 _));have I3:Inv X B σ H1 {j with heap:=r,toks:=tk}:=m.turned (t':=tk) (λb o L e=>D b o L e) f0 f1 f3 f4 f5;have fS:=m.fpOk (H':=H1) (G0 _) (m.hok.fresh (G0 _));have I4:=I3.track (o:=.lst ys.reverse) fS ⟨by rw[K4];exact hz,M.toList,a,Fc rv aa,by rw[Array.toArray_toList];exact v⟩
 exact⟨.ref _,_,I4,rfl,q _ fS.1⟩
section
variable{X:Cx}{k n:Nat}{f:Addr}{fd:FuncData}{ps:List Str}{sp:Sp}{x:Str}{p pos:Pos}{e:Expr}{es:List Expr}{t:TA}
theorem Cal.c(G:Cal X.prog X.w X.K X.mg X.base k x ps sp f fd)(N:Room n X.A)(o:PA X (e::es) t)(J:Gl X x:=by rfl)(hl:k<=n:=by first|decide|omega)(b:(x == ("__debug__" : Str))=false:=by decide)(Y:LY (e::es) X.env=(false,eval e X.env)::LY es X.env:=by rfl)(a:(backTo pos (LY es X.env)).any (·.1)=false:=by rfl):PE X (.Call (.Name x p) (e::es) [] pos) (Cz sp [] E0 t) :=
 FE G.ok (N.mono hl) J G.mg G.kp G.bn .nil i3 o b Y a
theorem Cal.d(G:Cal X.prog X.w X.K X.mg X.base k x ps sp f fd)(N:Room n X.A)(J:Gl X x:=by rfl)(hl:k<=n:=by first|decide|omega)(b:(x == ("__debug__" : Str))=false:=by decide):PE X (.Call (.Name x p) [] [] pos) (Cz sp [] E0 tNil) :=
 CY G.ok (N.mono hl) J G.mg G.kp G.bn .nil i3 b
end
section
variable{X:Cx}{a b:Expr}{ta tb:TE}{pos:Pos}
theorem aR(G:PE X a ta)(L:PE X b tb)(T:oj b:=by exact λ_ _=>rfl):PE X (.Subscript a b pos) (tOp (rIxL X.K) ta tb):=yB qI G L T
theorem aJ(G:PE X a ta)(L:PE X b tb)(T:oj b:=by exact λ_ _=>rfl):PE X (.Subscript a b pos) (tOp (rIxT X.K) ta tb):=yB EO G L T
theorem sO(K:GX)(G:PE X a ta)(L:PE X b tb)(T:oj b:=by exact λ_ _=>rfl)(h:X.K=K:=by rfl):PE X (.Subscript a b pos) (tOp (rIxL K) ta tb):=yB (Dz h) G L T
theorem oz(K:GX)(G:PE X a ta)(L:PE X b tb)(T:oj b:=by exact λ_ _=>rfl)(h:X.K=K:=by rfl):PE X (.Subscript a b pos) (tOp (rIxT K) ta tb):=yB (Gb h) G L T
theorem aB(i:Nat){a:Pos}(k:X.N.Nodup)(n:PE X e O)(hi:X.N[i]?=some x:=by rfl)(o:Loc X.env.scope x:=by first|exact .inl rfl|exact .inr rfl)(T:swapsWith e (some (.Name x a)) pos.line X.env=pure false:=by rfl)(l:X.fn x=true∨X.env.scope.names.lookup x=some .local:=by first|exact .inl rfl|exact .inr rfl|assumption):
  PS X (.Assign [.Name x a] e pos) (tAsg O (ml i)):=ps_set k hi o n T l
theorem bY(i:Nat)(k:X.N.Nodup)(hi:X.N[i]?=some x:=by rfl)(O:Loc X.env.scope x:=by first|exact .inl rfl|exact .inr rfl)(l:X.fn x=true∨X.env.scope.names.lookup x=some .local:=by first|exact .inl rfl|exact .inr rfl|assumption):PG X (.Name x pos) (ml i):=bQ k hi O l
end
def AllL{α:Type}(Q:α->Prop):List α->Prop
 |[]=>True
 |x::r=>Q x/\AllL Q r
theorem AllL.mem{α:Type}{Q:α->Prop}:∀{l:List α},AllL Q l->∀ x∈l,Q x
 |_::_,h,_,.head _=>h.1
 |_::_,h,_,.tail _ m=>AllL.mem h.2 _ m
section
variable{X:Cx}{scope:Scope}{elt iter tg:Expr}{ifs:List Expr}{pos:Pos}{tt:TT}{tgt:TG}{wi:TI}{te:TE}
theorem mw.au{xs:List Str}(clos:closureFor scope X.env=pure (clOf X.env fr):=by rfl)(cell:∀ y∈scope.names,y.2≠.cell:=by decide)(kind:scope.kind=.function:=by rfl)(names:∀ y∈scope.names,y.2=.local->scope.names.lookup y.1=some .local:=by decide)(slot:AllL (λp=>X.N[p.2]?=some p.1/\X.env.kindOf p.1=some .cell) fr:=by repeat (first|exact True.intro|refine⟨⟨rfl,rfl⟩,?_⟩))(a:∀ z∈scope.names,z.2=.free->z.1∈fr.map (·.1):=by decide)(frk:AllL (λp=>(relabel scope X.env).names.lookup p.1=some .cell) fr:=by repeat (first|exact True.intro|refine⟨rfl,?_⟩)):mw X scope fr xs :=
 .of clos cell kind names slot.mem a frk.mem
theorem eI(fr:List (Str×Nat))(xs:List Str)(hi:PI X tg iter wi)(a:∀ C ex s H,PG (cxG X scope fr xs C ex s H) tg tgt)(T:∀ C ex s H,PTs (cxG X scope fr xs C ex s H) ifs tt)(n:∀ C ex s H,PE (cxG X scope fr xs C ex s H) elt te)(G:X.calm=true:=by rfl)(O:mw X scope fr xs:=by exact .au)(l:∀ x,Mj iter X.env x=pure x:=by intro _;rfl):PE X (.ListComp elt [⟨tg,iter,ifs,0⟩] scope pos) (Ep wi tgt tt te xs.length fr) :=
 CU G O hi a T n l
theorem ni(i:Nat)(fr:List (Str×Nat))(xs:List Str){y:Str}{c b:Pos}(k:X.N.Nodup)(hi:PI X tg iter wi)(a:∀ C ex s H,PG (cxG X scope fr xs C ex s H) tg tgt)(T:∀ C ex s H,PTs (cxG X scope fr xs C ex s H) ifs tt)(n:∀ C ex s H,PE (cxG X scope fr xs C ex s H) elt te)(G:X.calm=true:=by rfl)(u:X.N[i]?=some y:=by rfl)(Q:X.env.scope.names.lookup y=some .local:=by rfl)(O:mw X scope fr xs:=by exact .au)(d:swapsWith (.ListComp elt [⟨tg,iter,ifs,0⟩] scope pos) (some (.Name y c)) b.line X.env=pure true:=by rfl)(l:∀ x,Mj iter X.env x=pure x:=by intro _;rfl):
  PS X (.Assign [.Name y c] (.ListComp elt [⟨tg,iter,ifs,0⟩] scope pos) b) (rX i wi tgt tt te xs.length fr) :=
 uU G k u Q O hi a T n d l
theorem pg_c{xs:List Str}(k:(xs++fr.map (·.1)).Nodup:=by decide)(o:(xs++fr.map (·.1))[0]?=some x:=by rfl)(O:∀ C ex s H,Loc (cxG X scope fr xs C ex s H).env.scope x:=by exact λ_ _ _ _=>.inl rfl)(l:∀ C ex s H,(cxG X scope fr xs C ex s H).fn x=true∨(cxG X scope fr xs C ex s H).env.scope.names.lookup x=some .local:=by exact λ_ _ _ _=>.inr rfl):
  ∀ C ex s H,PG (cxG X scope fr xs C ex s H) (.Name x pos) (ml 0):=λC ex s H=>bQ (X:=cxG X scope fr xs C ex s H) k o (O C ex s H) (l C ex s H)
theorem pt_c{xs:List Str}:∀ C ex s H,PTs (cxG X scope fr xs C ex s H) [] tYes:=λ_ _ _ _=>Fy
end
end L2
namespace K2
def S:List Nat->Nat
 |[]=>0
 |p::r=>2^p+S r
theorem GN{p:Nat}(h:n.testBit p=false)(i:Nat):(n+2^p).testBit i=(n.testBit i||decide (i=p)):=by
 have e:n+2^p=n|||2^p:=by
  have f:n&&&2^p=0:=by
   apply Ic;intro j;rw[JK,HF,Ii];by_cases N:p=j
   .subst N;simp[h]
   .simp[N]
  have q:∀ m k:Nat,(m|||k)+(m&&&k)=m+k:=by
   intro m;induction m using Lp with
   |ind m C =>
    intro n;by_cases o:m=0
    .subst o;simp
    .have a:=C (m/2) ∅ (n/2)
     rw[← Nat.or_div_two,← Nat.and_div_two]at a;have l:=@Nat.or_mod_two_eq_one m n;have r:=@Nat.and_mod_two_eq_one m n;omega
  have:=q n (2^p);rw[f]at this;omega
 rw[e,Jt,HF];congr 1;exact decide_eq_decide.mpr ⟨λh=>h.symm,λh=>h.symm⟩
theorem S_bit:∀{D:List Nat},D.Nodup->∀ i,(S D).testBit i=decide (i∈D)
 |[],_,i=>by simp[S]
 |p::r,s,i=>by
  have ⟨J,Y⟩:=Hf.mp s;have g:(S r).testBit p=false:=by rw[S_bit Y];exact LQ J
  have e:S (p::r)=S r+2^p:=Nat.add_comm _ _;rw[e,GN g,S_bit Y];by_cases a:i=p<;>by_cases b:i∈r<;>simp[a,b]
def bitsF(k n:Nat):List Nat:=if h:n=0 then[] else(if n%2=1 then[k] else[])++bitsF (k+1) (n/2)
termination_by n
decreasing_by omega
theorem bitsF_zero(k:Nat):bitsF k 0=[]:=by rw[bitsF];simp
theorem bitsF_odd{k:Nat}(h:n%2=1):bitsF k n=k::bitsF (k+1) (n/2):=by
 rw[bitsF,dif_neg ∅,Np h];rfl
theorem bitsF_even{k:Nat}(o:n≠0)(h:¬ n%2=1):bitsF k n=bitsF (k+1) (n/2):=by
 rw[bitsF,dif_neg o,Nq h];rfl
theorem rM:∀(f n k:Nat),n<=f->∀ p∈bitsF k n,k<=p
 |0,n,k,h=>by
  have z:n=0:=by omega
  subst z;rw[bitsF_zero];intro p g;cases g
 |f+1,n,k,h=>by
  intro p g;by_cases z:n=0
  .subst z;rw[bitsF_zero]at g;cases g
  .by_cases o:n%2=1
   .rw[bitsF_odd o]at g;rcases G6.mp g with e|g
    .omega
    .have:=rM f (n/2) (k+1) ∅ p g;omega
   .rw[bitsF_even z o]at g;have:=rM f (n/2) (k+1) ∅ p g;omega
theorem bitsF_sorted:∀(f n k:Nat),n<=f->(bitsF k n).Pairwise (· < ·)
 |0,n,k,h=>by
  have z:n=0:=by omega
  subst z;rw[bitsF_zero];exact JQ
 |f+1,n,k,h=>by
  by_cases z:n=0
  .subst z;rw[bitsF_zero];exact JQ
  .by_cases o:n%2=1
   .rw[bitsF_odd o];exact List.Pairwise.cons (λp g=>rM f (n/2) (k+1) ∅ p g) (bitsF_sorted f (n/2) (k+1) ∅)
   .rw[bitsF_even z o];exact bitsF_sorted f (n/2) (k+1) ∅
theorem bitsF_sum:∀(f n k:Nat),n<=f->S (bitsF k n)=n*2^k
 |0,n,k,h=>by
  have z:n=0:=by omega
  subst z;rw[bitsF_zero];simp[S]
 |f+1,n,k,h=>by
  by_cases z:n=0
  .subst z;rw[bitsF_zero];simp[S]
  .have C:=bitsF_sum f (n/2) (k+1) ∅
   have e:n/2*2^(k+1)=(2*(n/2))*2^k:=by rw[Nat.pow_succ,Nat.mul_comm (2^k) 2,← Nat.mul_assoc,Nat.mul_comm (n/2) 2]
   by_cases o:n%2=1
   .rw[bitsF_odd o];show 2^k+S (bitsF (k+1) (n/2))=_;rw[C,e];have:n=2*(n/2)+1:=by omega
    have E:n*2^k=(2*(n/2)+1)*2^k:=by rw[← this]
    rw[E,Nat.add_mul,Nat.one_mul];omega
   .rw[bitsF_even z o,C,e];have:n=2*(n/2):=by omega
    have E:n*2^k=(2*(n/2))*2^k:=by rw[← this]
    rw[E]
theorem bitsF_lt:∀(m n k:Nat),n<2^m->∀ p∈bitsF k n,p<k+m
 |0,n,k,h=>by
  have z:n=0:=by omega
  subst z;rw[bitsF_zero];intro p g;cases g
 |m+1,n,k,h=>by
  intro p g;have Y:n/2<2^m:=by rw[Nat.pow_succ]at h;omega
  by_cases z:n=0
  .subst z;rw[bitsF_zero]at g;cases g
  .by_cases o:n%2=1
   .rw[bitsF_odd o]at g;rcases G6.mp g with e|g
    .omega
    .have:=bitsF_lt m (n/2) (k+1) Y p g;omega
   .rw[bitsF_even z o]at g;have:=bitsF_lt m (n/2) (k+1) Y p g;omega
theorem bitsF_len:∀(m n k:Nat),n<2^m->(bitsF k n).length<=m
 |0,n,k,h=>by
  have z:n=0:=by omega
  subst z;rw[bitsF_zero];exact G0 _
 |m+1,n,k,h=>by
  have Y:n/2<2^m:=by rw[Nat.pow_succ]at h;omega
  by_cases z:n=0
  .subst z;rw[bitsF_zero];exact HI _
  .by_cases o:n%2=1
   .rw[bitsF_odd o];have:=bitsF_len m (n/2) (k+1) Y;show _+1<=_;omega
   .rw[bitsF_even z o];have:=bitsF_len m (n/2) (k+1) Y;omega
theorem nodup_of_lt(h:l.Pairwise (· < ·)):l.Nodup:=h.imp λh=>Hr h
end K2
namespace KF
open PySem L2
def top(i:Nat):Stmt:=PySem.Challenge.pw_spinfloor_k35_whole_roofs.main.body.getD i (.Pass ⟨0,0,0,0⟩)
abbrev ke:Stmt:=top 16
abbrev mE:Stmt:=top 18
abbrev iN:Stmt:=top 19
abbrev g8:Stmt:=top 20
abbrev mB:Stmt:=top 21
abbrev pT:Stmt:=top 22
abbrev xG:Stmt:=top 11
abbrev xF:Stmt:=top 12
abbrev CJ:Stmt:=top 13
abbrev kf:Stmt:=top 14
abbrev de:Stmt:=top 25
abbrev fZ:Stmt:=top 26
abbrev bO:Stmt:=top 27
abbrev fX:Stmt:=top 28
abbrev mC:Stmt:=top 29
abbrev kc:Stmt:=top 30
abbrev kh:Stmt:=top 31
abbrev ki:Stmt:=top 33
abbrev mD:Stmt:=top 34
abbrev pY:Stmt:=top 35
abbrev Lk:=Nat×Nat×Int
def bey(l:Lk)(r:Nat):Nat:=if r=l.1 then l.2.1 else l.1
def mh(l:Lk)(r:Nat):Prop:=r=l.1∨r=l.2.1
theorem rN{l:Lk}{r:Nat}(h:mh l r):mh l (bey l r):=by
 unfold bey;split
 .exact .inr rfl
 .exact .inl rfl
theorem oh{l:Lk}{r:Nat}(h:mh l r):bey l (bey l r)=r:=by
 unfold bey;by_cases c:r=l.1
 .rw[Np c];by_cases d:l.2.1=l.1
  .rw[Np d];omega
  .rw[Nq d];exact c.symm
 .rw[Nq c,Np rfl];rcases h with h|h
  .exact Nr h c
  .exact h.symm
theorem bey_lt{l:Lk}{r:Nat}(J:l.1<n)(h2:l.2.1<n):bey l r<n:=by
 unfold bey;split<;>assumption
inductive Up(ls:List Lk)(vv:List (Option Nat))(s:Nat):Nat->Nat->Prop where
 |root:Up ls vv s 0 s
 |step {j r k:Nat} {l:Lk} (hv:vv[r]?=some (some k)) (hl:ls[k]?=some l) (h:Up ls vv s j (bey l r)):Up ls vv s (j+1) r
theorem Up.uniq{ls:List Lk}{b:List (Option Nat)}{s:Nat}(o:b[s]?=some none):∀{j i r:Nat},Up ls b s j r->Up ls b s i r->j=i
 |_,_,_,.root,.root=>rfl
 |_,_,_,.root,.step O _ _=>by rw[o]at O;cases O
 |_,_,_,.step O _ _,.root=>by rw[o]at O;cases O
 |_,_,_,.step O G h,.step a g T=>by
  rw[O]at a;cases a;rw[G]at g;cases g;rw[Up.uniq o h T]
theorem Up.lt{ls:List Lk}{s r:Nat}(o:L[s]?=some none)(h:Up ls L s j r):r<L.length:=by
 cases h with
 |root=>exact(GV.mp o).1
 |step O _ _=>exact(GV.mp O).1
theorem Up.chain{ls:List Lk}{b:List (Option Nat)}{s:Nat}(o:b[s]?=some none):∀{j r:Nat},Up ls b s j r->∃ c:List Nat,c.length=j+1/\c.Nodup/\∀ x∈c,x<b.length/\∃ i,i<=j/\Up ls b s i x
 |_,_,.root=>⟨[s],rfl,Hf.mpr ⟨(by simp),IE⟩,λx O=>by rw[Hi.mp O];exact⟨Up.lt (ls:=ls) o .root,0,G0 _,.root⟩⟩
 |j+1,r,.step p G h=>by
  obtain⟨c,u,v,C⟩:=Up.chain o h;have d:Up ls b s (j+1) r:=.step p G h;refine⟨r::c,by rw[Hk,u],Hf.mpr ⟨λN=>?_,v⟩,λx O=>?_⟩
  .obtain⟨_,i,I,g⟩:=C r N;have:=Up.uniq o d g;omega
  .rcases G6.mp O with rfl|O
   .exact⟨Up.lt o d,j+1,G0 _,d⟩
   .obtain⟨a,i,I,g⟩:=C x O;exact⟨a,i,∅,g⟩
theorem kD:∀(n:Nat)(c:List Nat),c.Nodup->(∀ x∈c,x<n)->c.length<=n
 |0,c,_,h=>by
  cases c with
  |nil=>exact G0 _
  |cons x r=>exact Nr (h x (G9 ..)) (Iw _)
 |n+1,c,s,h=>by
  have J:=kD n (c.erase n) (s.erase _) λx O=>by
   have y:=List.mem_of_mem_erase O;have:=h x y;have:x≠n:=λe=>by rw[e]at O;exact Nr O (List.Nodup.not_mem_erase s)
   omega
  have Y:c.length<=(c.erase n).length+1:=by rw[Le];split<;>omega
  omega
theorem Up.short{ls:List Lk}{s r:Nat}(o:L[s]?=some none)(h:Up ls L s j r):j+1<=L.length:=by
 obtain⟨c,u,v,C⟩:=Up.chain o h;rw[← u];exact kD _ c v λx O=>(C x O).1
def cOf(o:Option Int):Nat:=if o.isSome then 1 else 0
def cnt(T:List (Option Int)):Nat:=(T.map cOf).sum
def vOf(B:Nat)(o:Option Int):Nat:=match o with|none=>B|some x=>x.toNat
def wgt(B:Nat)(T:List (Option Int)):Nat:=(T.map (vOf B)).sum
theorem pH{α:Type}(f:α->Nat):∀(l:List α)(i:Nat)(x y:α),l[i]?=some x->((l.set i y).map f).sum+f x=(l.map f).sum+f y
 |a::l,0,x,y,e=>by
  cases e
  rw[List.set_cons_zero,Hu,Hu,IX,IX];omega
 |a::l,i+1,x,y,e=>by
  have:=pH f l i x y e;rw[List.set_cons_succ,Hu,Hu,IX,IX];omega
 |[],i,x,y,e=>by cases i<;>cases e
theorem EY:∀(T:List (Option Int)){i:Nat},T[i]?=some none->cnt T+1<=T.length
 |[],i,e=>by cases i<;>cases e
 |a::T,0,e=>by
  cases e
  have:∀ T:List (Option Int),cnt T<=T.length:=λT=>by
   induction T with
   |nil=>exact G0 _
   |cons b T C =>
    have f:cnt (b::T)=cOf b+cnt T:=by unfold cnt;rw[Hu,IX]
    have E:cOf b<=1:=by unfold cOf;split<;>omega
    rw[f,Hk];omega
  have f:cnt (none::T)=cOf none+cnt T:=by unfold cnt;rw[Hu,IX]
  have E:cOf none=0:=rfl;have:=this T;rw[f,Hk];omega
 |a::T,i+1,e=>by
  have C:=EY T (i:=i) e;have f:cnt (a::T)=cOf a+cnt T:=by unfold cnt;rw[Hu,IX]
  have E:cOf a<=1:=by unfold cOf;split<;>omega
  rw[f,Hk];omega
structure FI(n:Nat)(ls:List Lk)(s:Nat)(M:Nat)(T:List (Option Int))(vv:List (Option Nat))(W:List Nat)(ex:Nat->Nat->Prop):Prop where
 w0:∀ l∈ls,0<=l.2.2/\l.2.2<=(M:Int)
 tl:T.length=n
 vl:vv.length=n
 st:T[s]?=some (some 0)
 vs:vv[s]?=some none
 nn:∀(r:Nat)(x:Int),T[r]?=some (some x)->0<=x
 bd:∀(r:Nat)(x:Int),T[r]?=some (some x)->x+(M:Int)<=(cnt T:Int)*(M:Int)
 pr:∀(r k:Nat),vv[r]?=some (some k)->∃(l:Lk)(x y:Int),ls[k]?=some l/\mh l r/\T[r]?=some (some x)/\T[bey l r]?=some (some y)/\y+l.2.2<=x
 up:∀(r:Nat)(x:Int),T[r]?=some (some x)->∃ j,Up ls vv s j r
 rl:∀(r:Nat)(x:Int)(i:Nat)(l:Lk),T[r]?=some (some x)->r∉W->ls[i]?=some l->mh l r->ex r i∨∃ y:Int,T[bey l r]?=some (some y)/\y<=x+l.2.2
 wk:∀ r∈W,∃ x:Int,T[r]?=some (some x)
theorem se{l:List α}{x:α}(hi:i<l.length):(l.set i x)[j]?=if i=j then some x else l[j]?:=by
 rw[HH];by_cases c:i=j
 .rw[Np c,Np c,Np hi]
 .rw[Nq c,Nq c]
theorem FI.mend{ls:List Lk}{s:Nat}{W':List Nat}(I:FI n ls s M T L W ex){k:Nat}{l:Lk}{x:Int}{o:Option Int}(hl:ls[k]?=some l)(A:mh l m)(O:T[m]?=some (some x))(D:T[bey l m]?=some o)(G:∀ y,o=some y->x+l.2.2<y)(hW:∀ r,r∈W'↔r∈W∨r=bey l m)(ab:∀ r i,ex r i->ex' r i∨(r=m/\i=k)):
  FI n ls s M (T.set (bey l m) (some (x+l.2.2))) (L.set (bey l m) (some k)) W' ex':=by
 obtain⟨v,hM⟩:=I.w0 l (GW hl);have tt:bey l m<T.length:=(GV.mp D).1;have tl:=I.tl;have vl:=I.vl;have x0:=I.nn m x O;have b:bey l m≠s:=λe=>by
  rw[e,I.st]at D
  cases D
  have:=G 0 rfl;omega
 have nm:bey l m≠m:=λe=>by
  rw[e,O]at D
  cases D
  have:=G x rfl;omega
 have gT:∀ r:Nat,(T.set (bey l m) (some (x+l.2.2)))[r]?=if bey l m=r then some (some (x+l.2.2)) else T[r]?:=λr=>se tt;have gV:∀ r:Nat,(L.set (bey l m) (some k))[r]?=if bey l m=r then some (some k) else L[r]?:=λr=>se ∅
 have ac:∀(r:Nat)(y:Int),T[r]?=some (some y)->∃ z:Int,(T.set (bey l m) (some (x+l.2.2)))[r]?=some (some z)/\z<=y:=λr y e=>by
  rw[gT];by_cases c:bey l m=r
  .rw[Np c];rw[← c,D]at e
   cases e
   exact⟨_,rfl,Int.le_of_lt (G y rfl)⟩
  .rw[Nq c];exact⟨y,e,II _⟩
 have keep:∀{j r:Nat},Up ls L s j r->∀ y,T[r]?=some (some y)->(∀ z,o=some z->y<z)->Up ls (L.set (bey l m) (some k)) s j r:=by
  intro j r h;induction h with
  |root=>intro _ _ _;exact .root
  | @step j r k' l' p g h C =>
   intro y Q a;have ne:bey l m≠r:=λe=>by
    rw[e,Q]at D
    cases D
    exact Nr (a y rfl) (Int.lt_irrefl _)
   obtain⟨l2,q,t,f,E,w,e4,e5⟩:=I.pr r k' p;rw[g]at f;cases f;rw[Q]at w;cases w;have w0:=(I.w0 l' (GW g)).1;refine .step (by rw[gV,Nq ne];exact p) g (C t e4 λz al=>?_)
   have:=a z al;omega
 obtain⟨jm,um⟩:=I.up m x O;have am:=keep um x O λz a=>by have:=G z a;omega
 have ut:Up ls (L.set (bey l m) (some k)) s (jm+1) (bey l m):=.step (by rw[gV,Np rfl]) hl (by rw[oh A];exact am)
 have all:∀{j r:Nat},Up ls L s j r->∃ i,Up ls (L.set (bey l m) (some k)) s i r:=by
  intro j r h;induction h with
  |root=>exact⟨0,.root⟩
  | @step j r k' l' p g h C =>
   by_cases c:bey l m=r
   .rw[← c];exact⟨_,ut⟩
   .obtain⟨i,B⟩:=C;exact⟨i+1,.step (by rw[gV,Nq c];exact p) g B⟩
 have cs:=pH cOf T (bey l m) o (some (x+l.2.2)) D;have c1:cOf (some (x+l.2.2))=1:=rfl;have cc:cnt (T.set (bey l m) (some (x+l.2.2)))+cOf o=cnt T+1:=by unfold cnt;rw[c1]at cs;exact cs
 have ae:cnt T<=cnt (T.set (bey l m) (some (x+l.2.2))):=by
  have:cOf o<=1:=by unfold cOf;split<;>omega
  omega
 have mul_le:(cnt T:Int)*(M:Int)<=(cnt (T.set (bey l m) (some (x+l.2.2))):Int)*(M:Int):=Int.mul_le_mul_of_nonneg_right ∅ ∅
 have bm:=I.bd m x O;refine⟨I.w0,by rw[HG];exact tl,by rw[HG];exact vl,by rw[gT,Nq b];exact I.st,by rw[gV,Nq b];exact I.vs,λr y e=>?_,λr y e=>?_,λr k' e=>?_,λr y e=>?_,λr y i l' e N g aa=>?_,λr N=>?_⟩
 .rw[gT]at e;by_cases c:bey l m=r
  .rw[Np c]at e;cases e;omega
  .rw[Nq c]at e;exact I.nn r y e
 .rw[gT]at e;by_cases c:bey l m=r
  .rw[Np c]at e;cases e
   cases o with
   |none =>
    have f:cnt (T.set (bey l m) (some (x+l.2.2)))=cnt T+1:=by have:cOf none=0:=rfl;omega
    rw[f];have:((cnt T+1:Nat):Int)*(M:Int)=(cnt T:Int)*(M:Int)+(M:Int):=by push_cast;rw[Int.add_mul,Ls]
    omega
   |some z =>
    have:=G z rfl;have:=I.bd (bey l m) z D;omega
  .rw[Nq c]at e;have:=I.bd r y e;omega
 .rw[gV]at e;by_cases c:bey l m=r
  .rw[Np c]at e;cases e;refine⟨l,x+l.2.2,x,hl,c▸rN A,by rw[gT,Np c],?_,II _⟩
   rw[← c,oh A,gT,Nq nm];exact O
  .rw[Nq c]at e;obtain⟨l2,q,t,f,E,w,e4,e5⟩:=I.pr r k' e;obtain⟨z,e6,e7⟩:=ac _ _ e4;exact⟨l2,q,z,f,E,by rw[gT,Nq c];exact w,e6,∅⟩
 .rw[gT]at e;by_cases c:bey l m=r
  .rw[← c];exact⟨_,ut⟩
  .rw[Nq c]at e;obtain⟨j,u⟩:=I.up r y e;exact all u
 .have nr:r∉W/\r≠bey l m:=⟨λz=>N ((hW r).mpr (.inl z)),λz=>N ((hW r).mpr (.inr z))⟩
  rw[gT,Nq (Ne.symm nr.2)]at e;rcases I.rl r y i l' e nr.1 g aa with h|⟨z,J,Y⟩
  .rcases ab r i h with h|⟨J,Y⟩
   .exact .inl h
   .subst J;subst Y;rw[hl]at g;cases g;rw[O]at e;cases e;exact .inr ⟨x+l.2.2,by rw[gT,Np rfl],II _⟩
  .obtain⟨z',H,d⟩:=ac _ _ J;exact .inr ⟨z',H,∅⟩
 .rcases(hW r).mp N with h|h
  .obtain⟨y,e⟩:=I.wk r h;obtain⟨z,H,_⟩:=ac _ _ e;exact⟨z,H⟩
  .rw[h];exact⟨_,by rw[gT,Np rfl]⟩
theorem FI.leave{ls:List Lk}{s:Nat}(I:FI n ls s M T L W ex){k:Nat}{l:Lk}{x y:Int}(hl:ls[k]?=some l)(O:T[m]?=some (some x))(Q:T[bey l m]?=some (some y))(b:y<=x+l.2.2)(c:∀ r i,ex r i->ex' r i∨(r=m/\i=k)):FI n ls s M T L W ex' :=
 ⟨I.w0,I.tl,I.vl,I.st,I.vs,I.nn,I.bd,I.pr,I.up,λr z i A e N g a=>by
  rcases I.rl r z i A e N g a with h|h
  .rcases c r i h with h|⟨J,Y⟩
   .exact .inl h
   .subst J;subst Y;rw[hl]at g;cases g;rw[O]at e;cases e;exact .inr ⟨y,Q,b⟩
  .exact .inr h,I.wk⟩
theorem Cr{ls:List Lk}{s:Nat}(I:FI n ls s M T L W ex){t:Nat}{x w:Int}{o:Option Int}(a:0<=w)(c:w<=(M:Int))(O:T[m]?=some (some x))(D:T[t]?=some o)(G:∀ y,o=some y->x+w<y):
  wgt (n*M+1) (T.set t (some (x+w)))+1<=wgt (n*M+1) T:=by
 have e:=pH (vOf (n*M+1)) T t o (some (x+w)) D;have p:=I.nn m x O;have b:=I.bd m x O;have f:vOf (n*M+1) (some (x+w))=(x+w).toNat:=rfl;unfold wgt;rw[f]at e
 cases o with
 |none =>
  have u:=EY T D;have E:vOf (n*M+1) none=n*M+1:=rfl;rw[E]at e;have J:cnt T*M<=n*M:=KR M (by rw[I.tl]at u;omega)
  have Y:x+(M:Int)<=((n*M:Nat):Int):=by
   have:((cnt T*M:Nat):Int)<=((n*M:Nat):Int):=by exact_mod_cast J
   have A:((cnt T*M:Nat):Int)=(cnt T:Int)*(M:Int):=by push_cast;rfl
   omega
  omega
 |some z =>
  have:=G z rfl;have E:vOf (n*M+1) (some z)=z.toNat:=rfl;rw[E]at e;omega
theorem FI.first{ls:List Lk}{s:Nat}(E:∀ l∈ls,0<=l.2.2/\l.2.2<=(M:Int))(T:s<n):FI n ls s M ((He n none).set s (some 0)) (He n none) [s] (λ_ _=>False):=by
 have H:∀ r:Nat,((He n (none:Option Int)).set s (some 0))[r]?=if s=r then some (some 0) else(He n none)[r]?:=λr=>se (by rw[IT];exact T)
 have d:∀{b:Type}(r:Nat)(x:b),(He n (none:Option b))[r]?≠some (some x):=λr x e=>by
  have:=GW e;have:=(Ki.mp this).2
  cases this
 have one:∀(r:Nat)(x:Int),((He n (none:Option Int)).set s (some 0))[r]?=some (some x)->r=s/\x=0:=λr x e=>by
  rw[H]at e;by_cases c:s=r
  .rw[Np c]at e;cases e;exact⟨c.symm,rfl⟩
  .rw[Nq c]at e;exact Nr e (d r x)
 refine⟨E,by rw[HG,IT],IT,by rw[H,Np rfl],by rw[IH,Np T],λr x e=>?_,λr x e=>?_,λr k e=>Nr e (d r k),λr x e=>?_,λr x i l e N=>?_,λr N=>?_⟩
 .rw[(one r x e).2];exact II _
 .rw[(one r x e).2];have a:=pH cOf (He n (none:Option Int)) s none (some 0) (by rw[IH,Np T])
  have c1:cOf (some 0)=1:=rfl;have c0:cOf none=0:=rfl;have:1<=cnt ((He n (none:Option Int)).set s (some 0)):=by unfold cnt;omega
  have Y:1*M<=cnt ((He n (none:Option Int)).set s (some 0))*M:=KR M this;have A:((1*M:Nat):Int)<=((cnt ((He n (none:Option Int)).set s (some 0))*M:Nat):Int):=by exact_mod_cast Y
  push_cast at A;omega
 .rw[(one r x e).1];exact⟨0,.root⟩
 .rw[(one r x e).1]at N;exact Nr (Hi.mpr rfl) N
 .rw[Hi.mp N];exact⟨0,by rw[H,Np rfl]⟩
theorem FI.take{ls:List Lk}{s:Nat}{W':List Nat}(I:FI n ls s M T L W (λ_ _=>False))(b:∀ r,r∈W'↔r∈W/\r≠m):FI n ls s M T L W' (λr _=>r=m) :=
 ⟨I.w0,I.tl,I.vl,I.st,I.vs,I.nn,I.bd,I.pr,I.up,λr x i l e N G a=>by
  by_cases c:r=m
  .exact .inl c
  .rcases I.rl r x i l e (λz=>N ((b r).mpr ⟨z,c⟩)) G a with h|h
   .exact h.elim
   .exact .inr h,λr N=>I.wk r ((b r).mp N).1⟩
theorem FI.exw{ls:List Lk}{s:Nat}(I:FI n ls s M T L W ex)(h:∀ r i l,ls[i]?=some l->mh l r->ex r i->ex' r i):FI n ls s M T L W ex' :=
 ⟨I.w0,I.tl,I.vl,I.st,I.vs,I.nn,I.bd,I.pr,I.up,λr x i l e N G a=>by
  rcases I.rl r x i l e N G a with z|z
  .exact .inl (h r i l G a z)
  .exact .inr z,I.wk⟩
theorem ak(h:H p=none)(o:HO):Same H (upd H p o):=λb u q=>by rw[aq (aA q h)];exact q
theorem aH{l:Addr}(h:Same H H2)(hl:H l=none)(o:HO):Same H (upd H2 l o):=λb u q=>by rw[aq (aA q hl)];exact h b u q
theorem dX(s:Same H H')(h:H' p=none):H p=none:=by
 cases y:H p with
 |none=>rfl
 |some o=>rw[s _ _ y]at h;cases h
def iV(p:Nat):V:=.int (p:Int)
theorem at0{x:V}:atI [x,y] 0=some x:=rfl
theorem at1{x:V}:atI [x,y] 1=some y:=rfl
theorem a30{x:V}:atI [x,y,z] 0=some x:=rfl
theorem a31{x:V}:atI [x,y,z] 1=some y:=rfl
theorem a32{x:V}:atI [x,y,z] 2=some z:=rfl
def LkAt(H:Hp)(v:V)(l:Lk):Prop:=∃ t,v=.ref t/\H t=some (.tup [.int (l.1:Int),.int (l.2.1:Int),.int l.2.2])
def LnAt(H:Hp)(v:V)(ls:List Lk):Prop:=∃ a k,v=.ref a/\H a=some (.lst k)/\LsAt LkAt H k ls
theorem LkAt.mono{p:Lk}(h:LkAt H v p)(s:Same H H'):LkAt H' v p:=by
 obtain⟨t,e,z⟩:=h;exact⟨t,e,s _ _ z⟩
theorem LnAt.mono{H H':Hp}{v:V}{r:List Lk}(h:LnAt H v r)(s:Same H H'):LnAt H' v r:=by
 obtain⟨a,k,e,z,l⟩:=h;exact⟨a,k,e,s _ _ z,l.imp λ_ _ q=>q.mono s⟩
def MM:Nat:=10^31
structure Lok(n:Nat)(ls:List Lk):Prop where
 n1:n<=40
 l9:ls.length<=60
 sm:∀ l∈ls,l.1<n/\l.2.1<n
 w0:∀ l∈ls,0<=l.2.2/\l.2.2<=(MM:Int)
def bx(S:Addr->Prop)(H:Hp)(xs:List V)(ts:List (List Nat)):Prop:=xs.length=ts.length/\∀(i:Nat)(l:List Nat),ts[i]?=some l->∃ p,xs[i]?=some (.ref p)/\¬ S p/\H p=some (.lst (l.map iV))
theorem bx.mono{S:Addr->Prop}(h:bx S H xs ts)(s:∀ b u,¬ S b->H b=some u->H' b=some u):bx S H' xs ts:=⟨h.1,λi e q=>by
 obtain⟨p,a,n,b⟩:=h.2 i e q
 exact⟨p,a,n,s _ _ n b⟩⟩
theorem bx.snoc{S:Addr->Prop}(h:bx S H xs ts)(n:¬ S q)(e:H q=some (.lst (l.map iV))):bx S H (xs++[.ref q]) (ts++[l]):=by
 refine⟨by rw[GZ,GZ,h.1];rfl,λj k d=>?_⟩
 by_cases N:j<ts.length
 .rw[G5 N]at d;obtain⟨p,r,c⟩:=h.2 j k d;exact⟨p,by rw[G5 (by rw[h.1];exact N)];exact r,c⟩
 .rw[G3 (KA N)]at d;have b:j=ts.length:=by
   have:=(GV.mp d).1;rw[Hd]at this;omega
  subst b;rw[Hw]at d
  cases d
  exact⟨q,by rw[← h.1,G3 (G0 _),Hw];rfl,n,e⟩
def Dist(xs:List V):Prop:=∀(i j:Nat)(p:Addr),xs[i]?=some (.ref p)->xs[j]?=some (.ref p)->i=j
theorem bx.set{S:Addr->Prop}(h:bx S H xs ts)(D:Dist xs)(e:xs[i]?=some (.ref p)):bx S (upd H p (.lst (l'.map iV))) xs (ts.set i l'):=by
 refine⟨by rw[HG];exact h.1,λj l z=>?_⟩
 have I:i<ts.length:=by rw[← h.1];exact(GV.mp e).1
 rw[HH]at z;by_cases N:i=j
 .subst N;rw[Np rfl,Np I]at z
  cases z
  obtain⟨L,r,c,C⟩:=h.2 i _ (GU I);rw[e]at r
  cases r
  exact⟨p,e,c,ag⟩
 .rw[Nq N]at z;obtain⟨L,r,c,C⟩:=h.2 j l z;exact⟨L,r,c,by rw[aq (λy=>by rw[y]at r;exact N (D i j p e r))];exact C⟩
theorem kS{S:Addr->Prop}(h:bx S H xs ts)(D:Dist xs)(g:H q=none):Dist (xs++[.ref q]):=by
 have a:∀ i p,xs[i]?=some (V.ref p)->p≠q:=λi p e z=>by
  have I:i<ts.length:=by rw[← h.1];exact(GV.mp e).1
  obtain⟨L,r,_,C⟩:=h.2 i _ (GU I);rw[e]at r;cases r;rw[z,g]at C;cases C
 have k:∀ i p,(xs++[V.ref q])[i]?=some (V.ref p)->(xs[i]?=some (V.ref p))∨(i=xs.length/\p=q):=λi p e=>by
  by_cases c:i<xs.length
  .rw[G5 c]at e;exact .inl e
  .rw[G3 (KA c)]at e;have Y:=(GV.mp e).1;rw[Hd]at Y;have A:i-xs.length=0:=by omega
   rw[A]at e
   cases e
   exact .inr ⟨∅,rfl⟩
 intro i j p f E;rcases k i p f with J|⟨J,d⟩
 .rcases k j p E with Y|⟨Y,b⟩
  .exact D i j p J Y
  .exact Nr b (a i p J)
 .rcases k j p E with Y|⟨Y,b⟩
  .exact Nr d (a j p Y)
  .omega
structure AtM(n c:Nat)(rows:List (List Nat))(mem:Nat->Nat->Prop):Prop where
 len:rows.length=n
 mm:∀(r:Nat)(row:List Nat),rows[r]?=some row->∀ j,j∈row↔mem r j
 few:∀ row∈rows,row.length<=c
theorem AtM.put{c:Nat}{rows:List (List Nat)}{mem:Nat->Nat->Prop}(h:AtM n c rows mem){a:Nat}(hl:rows[a]?=some l):AtM n (c+1) (rows.set a (l++[i])) (λr j=>mem r j∨(r=a/\j=i)):=by
 have G:=(GV.mp hl).1;refine⟨by rw[HG];exact h.len,λr b e j=>?_,λb N=>?_⟩
 .rw[se G]at e;by_cases z:a=r
  .rw[Np z]at e
   cases e
   subst z;rw[Hc,Hi,h.mm a l hl j];exact⟨λy=>y.imp id λy=>⟨rfl,y⟩,λy=>y.imp id λy=>y.2⟩
  .rw[Nq z]at e;rw[h.mm r b e j];exact⟨.inl,λy=>y.elim id λy=>Nr y.1.symm z⟩
 .rcases IQ N with y|y
  .have:=h.few b y;omega
  .have:=h.few l (GW hl)
   rw[y,GZ,Hd];omega
def memL(ls:List Lk)(r j:Nat):Prop:=∃ l,ls[j]?=some l/\mh l r
structure Txt(mg:Str->Option Value):Prop where
 n_len:mg "len"=none
 n_int:mg "int"=none
 n_bool:mg "bool"=none
 n_list:mg "list"=none
 n_tuple:mg "tuple"=none
 n_range:mg "range"=none
 n_min:mg "min"=none
 n_abs:mg "abs"=none
 n_enumerate:mg "enumerate"=none
 n_isinstance:mg "isinstance"=none
inductive Fn(vs:List L2.V)(H:L2.Hp)(Q:L2.VK)(x3_:L2.XK):Prop
 |mk (v:V)(l:Lk)(r:Nat) (h0_:vs=[v,.int (r:Int)])(h1_:LkAt H v l)(h2_:Q (.int ((bey l r:Nat):Int)) H)
inductive spAt(vs:List L2.V)(H:L2.Hp)(Q:L2.VK)(x3_:L2.XK):Prop
 |mk (v:V)(n:Nat)(ls:List Lk) (h0_:vs=[.int (n:Int),v])(h1_:LnAt H v ls)(h2_:Lok n ls)(h3_:∀(p:Addr)(ys:List V)(rows:List (List Nat)) H',Same H H'->H p=none->H' p=some (.lst ys)->bx (λq=>q=p∨H q≠none) H' ys rows->AtM n 120 rows (memL ls)->Q (.ref p) H')
theorem Ak:az ["link","room"] ["link","room"] (ar mE):=by ac_nf
theorem ok_bey(F:Fun K "beyond" "beyond" mE f fd):FnOk P w K mg base CX0 1 f fd ["link","room"] Fn:=by
 refine F.ok Ak (by walk_at "l") λM A u s H m Q E N h=>?_
 obtain⟨v,l,r,rfl,⟨t,rfl,T⟩,q⟩:=h;refine⟨_,(ao (aF (gf (aD eB (pv 1) (aJ (pv 0) ai) (aG _)) (aJ (pv 0) ai) (aJ (pv 0) ai)))),?_⟩;refine⟨_,rfl,_,rfl,t,_,0,_,rfl,rfl,SqT.of T,a30,rfl,_,rfl,?_⟩;refine ite2 (λc=>?_) (λc=>?_)
 .have C:r=l.1:=by have:=V.int.inj (Nf c);omega
  have e:bey l r=l.2.1:=by unfold bey;rw[Np C]
  rw[e]at q;exact⟨_,rfl,t,_,1,_,rfl,rfl,SqT.of T,a31,q⟩
 .have C:¬ r=l.1:=λz=>c (MB (congrArg V.int ∅))
  have e:bey l r=l.1:=by unfold bey;rw[Nq C]
  rw[e]at q;exact⟨_,rfl,t,_,0,_,rfl,rfl,SqT.of T,a30,q⟩
theorem fQ:az ["many","links","at","number","link"] ["many","links"] (ar iN):=by ac_nf
theorem ok_at(F:Fun K "links_at" "links_at" iN f fd)(T:Txt mg):FnOk P w K mg base CX0 1 f fd ["many","links"] spAt:=by
 refine F.ok fQ (by walk_at "l") λq A t s H m Q E N h=>?_
 obtain⟨v,n,ls,rfl,⟨a,xs,rfl,hA,hL⟩,ok,kk⟩:=h;have n1:=ok.n1;have l9:=ok.l9;have xl:=hL.1
 refine⟨_,(ah (ni 2 [] ["room"] fQ.nd (aP rfl T.n_range (af (pv 0) aj)) pg_c pt_c (λC ex s H=>(bV aj)))
   (ah (bz PassesOwn.never rfl (lE rfl T.n_enumerate (af (pv 1) aj)) (oS rfl (aQ (bY 3 fQ.nd) (aQ (bY 4 fQ.nd) dv))) (ah (aU (cY Hh Hy Hx aY (aR (pv 2) (aJ (pv 4) ai)) (af (pv 3) aj)))
   (ao (aU (cY Hh Hy Hx aY (aR (pv 2) (aJ (pv 4) ai)) (af (pv 3) aj))))))
   (ao (aF (pv 2))))),?_⟩
 refine⟨_,rfl,_,rfl,∅,∅,bT (n:=(n:Int).toNat) (λi k L=>Same H L/\bx (λp=>H p≠none) L k (He i [])/\Dist k) (by rw[G8];exact Hs (av ∅)) ⟨λ_ _ e=>e,⟨rfl,λi l e=>by simp at e⟩,λi j p e=>by simp at e⟩ ?_ ?_⟩
 .rintro i k L I ⟨d,rx,D⟩;refine⟨(by show 0<=LR;decide),λl G=>?_⟩
  have B:=ak G (.lst []);refine⟨d.trans B,?_,kS rx D G⟩;rw[JB];exact(rx.mono λb u _ z=>B _ _ z).snoc (λz=>z (dX d G)) ag
 rintro k L aI ⟨d,rx,D⟩ pn ac;rw[G8]at rx;have B:=ak ac (.lst k);have bd:H pn=none:=dX d ac
 have bm:bx (λp=>p=pn∨H p≠none) (upd L pn (.lst k)) k (He n []):=⟨rx.1,λi l z=>by
  obtain⟨p,a1,a2,a3⟩:=rx.2 i l z;have n2:p≠pn:=aA a3 ac
  exact⟨p,a1,by rintro(y|y);exact n2 y;exact a2 y,B _ _ a3⟩⟩
 have m0:AtM n 0 (He n []) (memL (ls.take 0)):=⟨IT,λr aL e j=>by
  have:=(Ki.mp (GW e)).2;subst this
  exact⟨(λz=>nomatch z),λ⟨l,z,_⟩=>by rw[KY]at z;cases z⟩,λaL N=>by rw[(Ki.mp N).2];exact G0 _⟩
 refine⟨_,rfl,a,rfl,⟨_,SqL.of ((d.trans B) _ _ hA)⟩,qQ (K:=K) (xs:=xs) (λi M H5=>∃ v4 v5 rows,M=[some (.int (n:Int)),some (.ref a),some (.ref pn),v4,v5]/\Same H H5/\H5 pn=some (.lst k)/\bx (λp=>p=pn∨H p≠none) H5 k rows/\AtM n (2*i) rows (memL (ls.take i)))
  ⟨_,_,_,rfl,d.trans B,ag,bm,m0⟩ (λi M H5 _ aa=>by obtain⟨_,_,_,_,z,_⟩:=aa;exact SqL.of (z _ _ hA)) ?_ ?_⟩
 .rintro i x M H5 T2 O ⟨v4,v5,rows,rfl,s5,a0,an,am⟩ ab;obtain⟨l,G,p,rfl,g⟩:=hL.get O;obtain⟨b1,b2⟩:=ok.sm l (GW G);have sT:=ak ab (.tup [.int (i:Int),.ref p]);have s6:=s5.trans sT;have bi:=s6 _ _ g;have be:=am.len;have bR:i<ls.length:=(GV.mp G).1;obtain⟨r1,al⟩:∃ r,rows[l.1]?=some r:=⟨_,GU ∅⟩
  have a4:bx (λp=>p=pn∨H p≠none) (upd H5 T2 (.tup [.int (i:Int),.ref p])) k rows:=an.mono λb u _ z=>sT _ _ z;obtain⟨p1,y1,y2,y3⟩:=a4.2 _ _ al;have aT:∀{p:Addr},¬ (p=pn∨H p≠none)->H p=none/\p≠pn:=λ{p} n=>by
   refine⟨?_,λz=>n (.inl z)⟩
   cases y:H p with
   |none=>rfl
   |some o=>exact Nr (.inr (by rw[y];exact λz=>nomatch z)) n
  obtain⟨ae,bn⟩:=aT y2;have f1:=am.few r1 (GW al);have a6:=sT _ _ a0;refine⟨T2,_,rfl,SqT.of ag,rfl,_,_,rfl,_,_,rfl,rfl,?_⟩;refine⟨_,rfl,_,rfl,p,_,0,_,rfl,rfl,SqT.of bi,a30,pn,k,_,_,rfl,rfl,SqL.of a6,ay y1,.inl ⟨rfl,_,SqL.of y3⟩,_,rfl,p1,_,_,rfl,rfl,y3,av (by rw[GY];omega),?_⟩
  have aW:(r1.map iV)++[V.int (i:Int)]=(r1++[i]).map iV:=by rw[Hm];rfl
  rw[aW];have ba:=a4.set D y1 (l':=r1++[i]);have bB:=am.put (i:=i) al;have s7:Same H (upd (upd H5 T2 (.tup [.int (i:Int),.ref p])) p1 (.lst ((r1++[i]).map iV))):=aH s6 ae _;have bE:=s7 _ _ g;have a7:(upd (upd H5 T2 (.tup [.int (i:Int),.ref p])) p1 (.lst ((r1++[i]).map iV))) pn=some (.lst k):=by rw[aq bn.symm];exact a6
  obtain⟨r2,aS⟩:∃ r,(rows.set l.1 (r1++[i]))[l.2.1]?=some r:=⟨_,GU (by rw[HG];omega)⟩
  obtain⟨p2,z1,z2,z3⟩:=ba.2 _ _ aS;obtain⟨ap,bp⟩:=aT z2;have f2:=bB.few r2 (GW aS);refine⟨_,rfl,_,rfl,p,_,1,_,rfl,rfl,SqT.of bE,a31,pn,k,_,_,rfl,rfl,SqL.of a7,ay z1,.inl ⟨rfl,_,SqL.of z3⟩,_,rfl,p2,_,_,rfl,rfl,z3,av (by rw[GY];omega),?_⟩
  have a5:(r2.map iV)++[V.int (i:Int)]=(r2++[i]).map iV:=by rw[Hm];rfl
  rw[a5];have bv:=bB.put (i:=i) aS;refine⟨_,_,(rows.set l.1 (r1++[i])).set l.2.1 (r2++[i]),rfl,aH s7 ap _,by rw[aq bp.symm];exact a7,ba.set D z1,bv.len,λr aL e j=>?_,λaL N=>?_⟩
  .rw[bv.mm r aL e j];unfold memL;rw[Hz,G];have bb:(ls.take i).length=i:=by rw[HY];omega
   constructor
   .rintro((⟨l',J,Y⟩|⟨J,Y⟩)|⟨J,Y⟩)
    .exact⟨l',by rw[G5 (GV.mp J).1];exact J,Y⟩
    .subst Y;exact⟨l,by rw[G3 ∅,bb,Hw];rfl,.inl J⟩
    .subst Y;exact⟨l,by rw[G3 ∅,bb,Hw];rfl,.inr J⟩
   .rintro⟨l',J,Y⟩;by_cases c:j<i
    .rw[G5 ∅]at J
     exact .inl (.inl ⟨l',J,Y⟩)
    .rw[G3 ∅]at J
     have h3:=(GV.mp J).1;have h4:j=i:=by
      have:(Option.toList (some l)).length=1:=rfl;omega
     subst h4;rw[bb,Hw]at J
     cases J
     rcases Y with Y|Y
     .exact .inl (.inr ⟨Y,rfl⟩)
     .exact .inr ⟨Y,rfl⟩
  .have:=bv.few aL N;omega
 .rintro M H5 ⟨v4,v5,rows,rfl,s5,a0,an,am⟩;rw[xl,HD]at am;exact⟨_,rfl,kk pn k rows H5 s5 bd a0 an ⟨am.len,am.mm,λaL N=>by have:=am.few aL N;omega⟩⟩
inductive lP(vs:List L2.V)(H:L2.Hp)(Q:L2.VK)(x3_:L2.XK):Prop
 |mk (n:Int) (h0_:vs=[.int n])(h1_:0<=n)(h2_:n<1208925819614629174706176)(h3_:∀ r H',Same H H'->H r=none->H' r=some (.lst ((K2.bitsF 0 n.toNat).map iV))->Q (.ref r) H')
theorem lg:az ["mask","numbers","number","rest"] ["mask"] (ar xG):=by ac_nf
theorem ok_bits(F:Fun K "bits" "bits" xG f fd):FnOk P w K mg base CX0 1 f fd ["mask"] lP:=by
 refine F.ok lg (by walk_at "l") λt A u s H m Q E N h=>?_
 obtain⟨n,rfl,d,J,k⟩:=h
 refine⟨_,(ah (aB 1 lg.nd (bV aj))
   (ah (aB 2 lg.nd ai)
   (ah (aB 3 lg.nd (pv 0))
   (ah (eO PassesOwn.never (aD vh (pv 3) ai (aG _)) (ah (bP (aD eB (aw bq (pv 3) ai) ai (aG _)) (ao (aU (cY Hh Hy Hx aY (pv 1) (af (pv 2) aj)))) aO)
   (ah (aB 3 lg.nd (aw cN (pv 3) ai))
   (ao (aB 2 lg.nd (aw bL (pv 2) ai))))))
   (ao (aF (pv 1))))))),?_⟩
 refine⟨(by show 0<=LR;decide),λl G=>?_⟩
 have aa:(2:Nat)^80=1208925819614629174706176:=by decide
 have Y:(K2.bitsF 0 n.toNat).length<=80:=K2.bitsF_len 80 n.toNat 0 ∅
 refine⟨_,rfl,fM (λM p=>∃(kn O:Nat)(x:List Nat),M=[some (.int n),some (.ref l),some (.int (kn:Int)),some (.int (O:Int))]/\p l=some (.lst (x.map iV))/\x++K2.bitsF kn O=K2.bitsF 0 n.toNat/\Same H p)
  (λM _=>match M with | [_,_,_,some (.int r)]=>r.toNat|_=>0) ⟨0,n.toNat,[],?_,ag,rfl,ak G _⟩ ?_ ?_⟩
 .have e:((n.toNat:Nat):Int)=n:=by omega
  rw[e];rfl
 .rintro M p ⟨kn,O,x,rfl,g,L,T⟩;refine⟨_,rfl,_,_,rfl,rfl,_,rfl,?_⟩;refine ite2 (λc=>?_) (λc=>?_)
  .have C:(0:Int)<(O:Int):=Nf c
   have d2:((O:Int)/2)=((O/2:Nat):Int):=by omega
   have ab:x.length<=80:=by
    have:=congrArg List.length L;rw[GZ]at this;omega
   walk_at "rd";refine ite2 (λo=>?_) (λo=>?_)
   .have D:(O:Int)%2=1:=V.int.inj (Nf o)
    refine⟨_,rfl,.inl ⟨rfl,_,SqL.of g⟩,_,rfl,l,_,_,rfl,rfl,g,av (by rw[GY];omega),?_⟩
    walk_at "rd";refine⟨⟨kn+1,O/2,x++[kn],?_,?_,?_,?_⟩,?_⟩
    .show[some (V.int n),some (V.ref l),some (V.int ((kn:Int)+1)),some (V.int ((O:Int)/2))]=_;rw[d2];rfl
    .rw[ag,Hm];rfl
    .rw[JP,← L];have z:=K2.bitsF_odd (k:=kn) (n:=O) ∅
     rw[z];rfl
    .exact aH T G _
    .show((O:Int)/2).toNat<((O:Nat):Int).toNat;omega
   .have D:¬ (O:Int)%2=1:=λz=>o (MB (congrArg V.int z))
    walk_at "rd";refine⟨⟨kn+1,O/2,x,?_,g,?_,T⟩,?_⟩
    .show[some (V.int n),some (V.ref l),some (V.int ((kn:Int)+1)),some (V.int ((O:Int)/2))]=_;rw[d2];rfl
    .rw[← L,K2.bitsF_even (k:=kn) (n:=O) ∅ ∅]
    .show((O:Int)/2).toNat<((O:Nat):Int).toNat;omega
  .have C:¬ (0:Int)<(O:Int):=λz=>c (MB z)
   have z:O=0:=by omega
   subst z;rw[K2.bitsF_zero,Kd]at L;refine⟨_,rfl,?_⟩;exact k l p T G (by rw[g,L])
 .rintro M p Q1 Q2 I ⟨v,e,i,j,a,b,y,B,q⟩;exact⟨v,e,i,j,a,b,y,B,I _ _ q⟩
def flat(PL:List (Nat×Nat)):List Nat:=PL.flatMap λp=>[p.1,p.2]
def cst(d:Nat->Nat->Int)(PL:List (Nat×Nat)):Int:=(PL.map λp=>d p.1 p.2).sum
def Cs(d:Nat->Nat->Int)(S:List Nat)(c:Int):Prop:=∃ k,(flat k).Perm S/\cst d k=c
structure Met(n:Nat)(d:Nat->Nat->Int):Prop where
 sy:∀ a b,d a b=d b a
 nn:∀ a b,0<=d a b
 tr:∀ a b c,a<n->b<n->c<n->d a c<=d a b+d b c
theorem flat_cons(p:Nat×Nat)(PL:List (Nat×Nat)):flat (p::PL)=p.1::p.2::flat PL:=rfl
theorem kU(d:Nat->Nat->Int)(p:Nat×Nat)(PL:List (Nat×Nat)):cst d (p::PL)=d p.1 p.2+cst d PL:=by unfold cst;rw[Hu,IX]
theorem Cs.perm{d:Nat->Nat->Int}{S:List Nat}{c:Int}(h:Cs d S c)(p:S.Perm l):Cs d l c:=by
 obtain⟨k,J,Y⟩:=h;exact⟨k,J.trans p,Y⟩
theorem part0{d:Nat->Nat->Int}(sy:∀ a b,d a b=d b a){a:Nat}:∀{PL:List (Nat×Nat)},a∈flat PL->∃ e f,(flat PL).Perm (a::e::flat f)/\cst d PL=d a e+cst d f
 |[],h=>nomatch h
 | (x,y)::PL,h=>by
  rw[flat_cons]at h;by_cases c1:a=x
  .subst c1;exact⟨y,PL,.refl _,kU ..⟩
  by_cases c2:a=y
  .subst c2;exact⟨x,PL,.swap _ _ _,by rw[kU];show d x a+_=_;rw[sy x a]⟩
  have T:a∈flat PL:=by
   rcases G6.mp h with h|h
   .exact Nr h c1
   .rcases G6.mp h with h|h
    .exact Nr h c2
    .exact h
  obtain⟨e,f,p,i⟩:=part0 sy T;refine⟨e,(x,y)::f,?_,by rw[kU,kU,i];omega⟩
  rw[flat_cons,flat_cons];have I:(x::y::flat PL).Perm (x::y::a::e::flat f):=(p.cons y).cons x;refine I.trans ?_;have E:([x,y]++([a,e]++flat f)).Perm ([a,e]++([x,y]++flat f)):=by
   rw[← JP,← JP];exact(List.perm_append_comm).append_right _
  exact E
theorem Cs.part{d:Nat->Nat->Int}(sy:∀ a b,d a b=d b a){S:List Nat}{c:Int}{a:Nat}(h:Cs d S c)(G:a∈S):∃ e R c0,S.Perm (a::e::R)/\Cs d R c0/\c=d a e+c0:=by
 obtain⟨k,p,i⟩:=h;obtain⟨e,f,L,g⟩:=part0 sy (p.mem_iff.mpr G);exact⟨e,flat f,cst d f,p.symm.trans L,⟨f,.refl _,rfl⟩,by rw[← i,g]⟩
theorem Cs.add{d:Nat->Nat->Int}{R:List Nat}{c0:Int}(a e:Nat)(h:Cs d R c0):Cs d (a::e::R) (d a e+c0):=by
 obtain⟨k,p,i⟩:=h;exact⟨(a,e)::k,by rw[flat_cons];exact(p.cons e).cons a,by rw[kU,i]⟩
def tog(S:List Nat)(a:Nat):List Nat:=if a∈S then S.erase a else a::S
theorem tog_nd{S:List Nat}(h:S.Nodup)(a:Nat):(tog S a).Nodup:=by
 unfold tog;split
 .exact h.erase _
 .exact Hf.mpr ⟨by assumption,h⟩
theorem xt{S:List Nat}(p:S.Perm l)(a:Nat):(tog S a).Perm (tog l a):=by
 unfold tog;by_cases c:a∈S
 .rw[Np c,Np (p.mem_iff.mp c)];exact p.erase a
 .rw[Nq c,Nq (λz=>c (p.mem_iff.mpr z))];exact p.cons a
theorem Fe{S:List Nat}(h:S.Nodup)(a:Nat):(tog (tog S a) a).Perm S:=by
 by_cases c:a∈S
 .have e:tog S a=S.erase a:=by unfold tog;rw[Np c]
  have n:a∉S.erase a:=h.not_mem_erase;have E:tog (S.erase a) a=a::S.erase a:=by unfold tog;rw[Nq n]
  rw[e,E];exact(List.perm_cons_erase c).symm
 .have e:tog S a=a::S:=by unfold tog;rw[Nq c]
  have E:tog (a::S) a=S:=by unfold tog;rw[Np (G9 ..),Jj]
  rw[e,E]
theorem F0{S:List Nat}(h:S.Nodup){a x:Nat}:x∈tog S a↔(x∈S/\x≠a)∨(x=a/\a∉S):=by
 unfold tog;by_cases c:a∈S
 .rw[Np c,h.mem_erase_iff];exact⟨λz=>.inl ⟨z.2,z.1⟩,λz=>z.elim (λy=>⟨y.2,y.1⟩) λy=>Nr c y.2⟩
 .rw[Nq c,G6];constructor
  .rintro(z|z)
   .exact .inr ⟨z,c⟩
   .exact .inl ⟨z,λy=>c (y▸z)⟩
  .rintro(z|z)
   .exact .inr z.1
   .exact .inl z.1
theorem Cs.two{d:Nat->Nat->Int}(M:Met n d){S:List Nat}{c:Int}(nd:S.Nodup)(lt:∀ x∈S,x<n)(h:Cs d S c){a b:Nat}(G:a<n)(L:b<n):∃ c',Cs d (tog (tog S a) b) c'/\c'<=c+d a b:=by
 have s:=M.nn a b;by_cases v:a=b
 .subst v;exact⟨c,h.perm (Fe nd a).symm,∅⟩
 by_cases m:a∈S
 .obtain⟨e,R,c0,p,o,i⟩:=h.part M.sy m;have w:tog S a=S.erase a:=by unfold tog;rw[Np m]
  have I:(S.erase a).Perm (e::R):=by
   have:=p.erase a;rw[Jj]at this;exact this
  have k:e<n:=lt e (p.mem_iff.mpr (G4 _ (G9 ..)));rw[w];by_cases l:b∈S.erase a
  .have t:tog (S.erase a) b=(S.erase a).erase b:=by unfold tog;rw[Np l]
   rw[t];by_cases u:e=b
   .subst u;have r:=I.erase e;rw[Jj]at r;refine⟨c0,o.perm r.symm,?_⟩;have:=M.nn a e;omega
   .have y:b∈R:=by
     rcases G6.mp (I.mem_iff.mp l)with z|z
     .exact Nr z.symm u
     .exact z
    obtain⟨f,R2,c1,q,J,B⟩:=o.part M.sy y;have flt:f<n:=lt f (p.mem_iff.mpr (G4 _ (G4 _ (q.mem_iff.mpr (G4 _ (G9 ..))))));have r:((S.erase a).erase b).Perm (e::f::R2):=by
     have H:(S.erase a).Perm (b::e::f::R2):=I.trans ((q.cons e).trans (.swap _ _ _));have g:=H.erase b;rw[Jj]at g;exact g
    refine⟨d e f+c1,(J.add e f).perm r.symm,?_⟩;have T:=M.tr e a f k G flt;have A:=M.tr a b f G L flt;have j:=M.sy e a;omega
  .have t:tog (S.erase a) b=b::S.erase a:=by unfold tog;rw[Nq l]
   rw[t];refine⟨d b e+c0,(o.add b e).perm (I.symm.cons b),?_⟩;have T:=M.tr b a e L G k;have j:=M.sy b a;omega
 .have w:tog S a=a::S:=by unfold tog;rw[Nq m]
  rw[w];by_cases l:b∈S
  .have t:tog (a::S) b=a::S.erase b:=by
    unfold tog;rw[Np (G4 _ l),List.erase_cons_tail (by simpa using v)]
   rw[t];obtain⟨e,R,c0,p,o,i⟩:=h.part M.sy l;have I:(S.erase b).Perm (e::R):=by
    have:=p.erase b;rw[Jj]at this;exact this
   have k:e<n:=lt e (p.mem_iff.mpr (G4 _ (G9 ..)));refine⟨d a e+c0,(o.add a e).perm (I.symm.cons a),?_⟩;have T:=M.tr a b e G L k;omega
  .have t:tog (a::S) b=b::a::S:=by
    unfold tog;rw[Nq (λz=>by rcases G6.mp z with z|z;exact v z.symm;exact l z)]
   rw[t];refine⟨d b a+c,h.add b a,?_⟩;have:=M.sy b a;omega
end KF
variable{ls:List KF.Lk}
namespace KF
open PySem L2
def lpF:Pos:=⟨70,32,70,55⟩
theorem Fun.okT{m:Str}{st:Stmt}{c TT:Addr}{N ps:List Str}{k:Nat}(F:Fun K x m st f fd)(S:az N ps (ar st))(T:Jz K x=some (c,TT))(i:HJ K LU x=some (some (.ref f)))(len:∀ vs H Q E,sp vs H Q E->vs.length=ps.length)(a:∀(A:Around)(outer:List Env)(s:Shared)(H:Hp)(vs:List V)(Q:VK)(E:XK),Room k (A.deeper (PyProof.Rows.envOfC m (ar st) s.heap.objs.size f (.ref c)))->sp vs H Q E ->
   ∃ t,PSs (cxOf CX0 P w K mg base N m (ar st) f (.ref c) A outer s H E).nox (b7 st) t/\t {nx:=λ_ H'=>Q .non H',rt:=Q} (oq N vs) H):FnOk P w K mg base CX0 (k+1) f fd ps sp:=by
 obtain⟨g,Y,kV,O,C,d,M,l,b,rfl,p,L⟩:=F.ex;have e:M=.ref c:=by
  unfold Jz at T;rw[i]at T;simp only[p]at T
  cases M<;>first|(cases T;done)|skip
  simp only at T;split at T
  .split at T
   .cases T;rfl
   .cases T
  .cases T
 subst e;refine Gk p L S len λA outer s H vs Q E j I=>?_;obtain⟨t,h,q⟩:=a A outer s H vs Q E j I;exact⟨t,h.nox,q⟩
def oV:Option Int->V|none=>.non|some x=>.int x
def oN:Option Nat->V|none=>.non|some k=>.int (k:Int)
def kw(r:Nat):Key×V:=(Sum.inl (r:Int),.bl true)
def lqF:Str:=("fares" : Str)++".<locals>."++"<lambda>"
def sF(l va wd TT p:Addr):Prop:=p=TT∨p=l∨p=va∨p=wd
def KpS(S:Addr->Prop)(H H':Hp):Prop:=∀ b o,¬ S b->H b=some o->H' b=some o
theorem KpS.upd{S:Addr->Prop}(a:KpS S H H1)(g:S p)(o:HO):KpS S H (L2.upd H1 p o):=λc u n h=>by
 rw[aq (λz=>n (by rw[z];exact g))]
 exact a c u n h
inductive spFares(TT:Addr)(vs:List L2.V)(H:L2.Hp)(Q:L2.VK)(x3_:L2.XK):Prop
 |mk (v:V)(n s:Nat)(ls:List Lk) (h0_:vs=[.int (n:Int),v,.int (s:Int)])(h1_:LnAt H v ls)(h2_:Lok n ls)(h3_:s<n)(h4_:Tb lqF lpF TT H)(h5_:∀(t ta va:Addr)(TL:List (Option Int))(VL:List (Option Nat)) H',TbS TT H H'->Tb lqF lpF TT H'->H ta=none->H va=none->H' t=some (.tup [.ref ta,.ref va])->H' ta=some (.lst (TL.map oV))->H' va=some (.lst (VL.map oN))->FI n ls s MM TL VL [] (λ_ _=>False)->Q (.ref t) H')
structure FH(ta va wd TT:Addr)(n s:Nat)(ls:List Lk)(H1:Hp)(TL:List (Option Int))(VL:List (Option Nat))(W:List Nat)(ex:Nat->Nat->Prop)(H:Hp):Prop where
 kp:KpS (sF ta va wd TT) H1 H
 ht:H ta=some (.lst (TL.map oV))
 hv:H va=some (.lst (VL.map oN))
 hw:H wd=some (.dK (W.map kw))
 tb:Tb lqF lpF TT H
 fi:FI n ls s MM TL VL W ex
 nd:W.Nodup
def vW(n:Nat)(v:V):Nat:=match v with | .int x=>x.toNat|_=>n*MM+1
def mesH(n:Nat)(l wd:Addr)(H:Hp):Nat:=match H l,H wd with
 |some (.lst D),some (.dK N)=>(D.map (vW n)).sum*(n+1)+N.length
 |_,_=>0
theorem FH.mes{TT:Addr}{s:Nat}(h:FH a va wd TT n s ls H1 T L W ex H):mesH n a wd H=wgt (n*MM+1) T*(n+1)+W.length:=by
 unfold mesH wgt;rw[h.ht,h.hw];have e:(T.map oV).map (vW n)=T.map (vOf (n*MM+1)):=by
  rw[Jh];refine Jm λo _=>?_
  cases o<;>rfl
 show((T.map oV).map (vW n)).sum*(n+1)+(W.map kw).length=_;rw[e,GY]
theorem FH.wlen{TT:Addr}{s:Nat}(h:FH a va wd TT n s ls H1 T L W ex H):W.length<=n :=
 kD n W h.nd λx O=>by
  obtain⟨y,Q⟩:=h.fi.wk x O;have:=(GV.mp Q).1;rw[h.fi.tl]at this;exact this
theorem EJ{r s:Nat}(h:(kw r).1=(kw s).1):r=s:=by
 have:(r:Int)=(s:Int):=by injection h
 omega
theorem zJ{r:Nat}:∀{W:List Nat},r∈W->valV (W.map kw) (.inl (r:Int))=some (.bl true)
 |w::W,h=>by
  rw[Hu];by_cases c:(kw w).1=Sum.inl (r:Int)
  .rw[bh c];rfl
  .rw[bj c];refine zJ ?_;rcases G6.mp h with h|h
   .exact Nr (by rw[h];rfl) c
   .exact h
theorem no_kw{r:Nat}:∀{W:List Nat},r∉W->valV (W.map kw) (.inl (r:Int))=none
 |[],_=>rfl
 |w::W,h=>by
  rw[Hu,bj (λc=>h (by rw[EJ (r:=w) (s:=r) c];exact G9 ..))]
  exact no_kw λz=>h (G4 _ z)
theorem wx(r:Nat):∀ W:List Nat,mr (W.map kw) (.inl (r:Int))=(W.filter (λx=>decide (x≠r))).map kw
 |[]=>rfl
 |w::W=>by
  rw[Hu];by_cases c:w=r
  .rw[BI (by rw[c];rfl),wx r W,Ky (by simpa using c)]
  .rw[BJ (k:=Sum.inl (r:Int)) (λz=>c (EJ (r:=w) (s:=r) z)),wx r W,Kx (by simpa using c),Hu]
theorem put_kw{t:Nat}(nd:W.Nodup):∃ W':List Nat,putK (W.map kw) (.inl (t:Int)) (.bl true)=W'.map kw/\W'.Nodup/\∀ r,r∈W'↔r∈W∨r=t:=by
 by_cases c:t∈W
 .refine⟨W,?_,nd,λr=>⟨.inl,λz=>z.elim id λz=>z▸c⟩⟩;unfold putK;rw[fN,zJ c,Option.isSome_some,Np rfl];rw[Jh];refine Jm λx _=>?_;show(if(kw x).1=Sum.inl (t:Int) then((kw x).1,V.bl true) else kw x)=kw x;split<;>rfl
 .refine⟨W++[t],by rw[qf _ (no_kw c),Hm];rfl,vo nd c,λr=>by rw[Hc,Hi]⟩
structure Sg(la aa ta va wd TT:Addr)(n s:Nat)(ls:List Lk)(xs ys:List V)(rows:List (List Nat))(H1:Hp):Prop where
 hA:H1 la=some (.lst xs)
 hL:LsAt LkAt H1 xs ls
 ok:Lok n ls
 hR:H1 aa=some (.lst ys)
 rx:bx (sF ta va wd TT) H1 ys rows
 am:AtM n 120 rows (memL ls)
 nla:¬ sF ta va wd TT la
 naa:¬ sF ta va wd TT aa
 tt:∀ t o,H1 t=some (.tup o)->¬ sF ta va wd TT t
 ntv:ta≠va
 ntw:ta≠wd
 nvw:va≠wd
 nTt:ta≠TT
 nTv:va≠TT
 nTw:wd≠TT
theorem mV{q:Str}{g:Pos}{TT:Addr}(h:Tb q g TT H)(k:∀ b,(b=TT∨∃ c,H b=some (codO c q))->H' b=H b):Tb q g TT H':=by
 rcases h with h|⟨c,J,Y⟩
 .exact .inl ((k TT (.inl rfl)).trans h)
 .exact .inr ⟨c,(k TT (.inl rfl)).trans J,(k c (.inr ⟨c,Y⟩)).trans Y⟩
theorem FH.new{TT:Addr}{s:Nat}(h:FH a va wd TT n s ls H1 T L W ex H)(g:H p=none)(o:HO):FH a va wd TT n s ls H1 T L W ex (upd H p o):=by
 have sm:=ak g o;refine⟨λb u l e=>sm _ _ (h.kp b u l e),sm _ _ h.ht,sm _ _ h.hv,sm _ _ h.hw,mV h.tb λb d=>aq λz=>?_,h.fi,h.nd⟩;subst z;rcases d with d|⟨c,d⟩
 .subst d;rcases h.tb with y|⟨_,y,_⟩<;>rw[g]at y<;>cases y
 .rw[g]at d;cases d
theorem FH.tab{TT:Addr}{s:Nat}(h:FH a va wd TT n s ls H1 T L W ex H)(d:a≠TT)(f:va≠TT)(c:wd≠TT)(sm:TbS TT H H')(tb:Tb lqF lpF TT H'):FH a va wd TT n s ls H1 T L W ex H' :=
 ⟨λb u l e=>sm _ _ (λz=>l (.inl z)) (h.kp b u l e),sm _ _ d h.ht,sm _ _ f h.hv,sm _ _ c h.hw,tb,h.fi,h.nd⟩
def FrI(b c l va wd TT:Addr)(n s:Nat)(ls:List Lk)(H1:Hp)(σ:St)(H:Hp):Prop:=∃(g h u d:Option V)(y:List (Option Int))(a:List (Option Nat))(W:List Nat),
 σ=[some (.int (n:Int)),some (.ref b),some (.int (s:Int)),some (.ref c),some (.ref l),some (.ref va),some (.ref wd),g,h,u,d]/\FH l va wd TT n s ls H1 y a W (λ_ _=>False) H
def InI(b c l va wd TT:Addr)(n s:Nat)(ls:List Lk)(row:List Nat)(m E k:Nat)(H1:Hp)(i:Nat)(σ:St)(H:Hp):Prop:=∃(h u d:Option V)(y:List (Option Int))(a:List (Option Nat))(W:List Nat),
 σ=[some (.int (n:Int)),some (.ref b),some (.int (s:Int)),some (.ref c),some (.ref l),some (.ref va),some (.ref wd),some (.int (m:Int)),h,u,d]/\FH l va wd TT n s ls H1 y a W (λr j=>r=m/\j∉row.take i) H/\(∃ x,y[m]?=some (some x)) /\
 ((wgt (n*MM+1) y=E/\W.length<k)∨wgt (n*MM+1) y<E)
inductive restF(la TT:Addr)(n s:Nat)(ls:List Lk)(D:L2.Ends)(σ:L2.St)(H:L2.Hp):Prop
 |mk (aa ta va wd:Addr)(xs ys:List V)(rows:List (List Nat))(H1:Hp)(v8 v9 v10:Option V)(TL:List (Option Int))(VL:List (Option Nat))(W:List Nat)(m l0:Nat) (h0_:Sg la aa ta va wd TT n s ls xs ys rows H1)(h1_:σ=[some (.int (n:Int)),some (.ref la),some (.int (s:Int)),some (.ref aa),some (.ref ta),some (.ref va),some (.ref wd),some (.int (m:Int)),v8,v9,v10])(h2_:FH ta va wd TT n s ls H1 TL VL W (λr _=>r=m) H)(h3_:(∃ x,TL[m]?=some (some x)))(h4_:W.length<l0)(h5_:∀ σ' H',FrI la aa ta va wd TT n s ls H1 σ' H'->mesH n ta wd H'<wgt (n*MM+1) TL*(n+1)+l0->D.nx σ' H')
inductive restM(la TT:Addr)(n s:Nat)(ls:List Lk)(D:L2.Ends)(σ:L2.St)(H:L2.Hp):Prop
 |mk (aa ta va wd:Addr)(xs ys:List V)(rows:List (List Nat))(H1:Hp)(TL:List (Option Int))(VL:List (Option Nat))(W:List Nat)(m w0 l0 i k:Nat)(row:List Nat)(l:Lk)(x:Int)(o:Option Int) (h0_:Sg la aa ta va wd TT n s ls xs ys rows H1)(h1_:σ=[some (.int (n:Int)),some (.ref la),some (.int (s:Int)),some (.ref aa),some (.ref ta),some (.ref va),some (.ref wd),some (.int (m:Int)),some (.int (k:Int)),some (.int ((bey l m:Nat):Int)),some (.int (x+l.2.2))])(h2_:FH ta va wd TT n s ls H1 TL VL W (λr j=>r=m/\j∉row.take i) H)(h3_:ls[k]?=some l)(h4_:mh l m)(h5_:TL[m]?=some (some x))(h6_:TL[bey l m]?=some o)(h7_:(∀ y,o=some y->x+l.2.2<y))(h8_:row[i]?=some k)(h9_:((wgt (n*MM+1) TL=w0/\W.length<l0)∨wgt (n*MM+1) TL<w0))(h10_:∀ σ' H',InI la aa ta va wd TT n s ls row m w0 l0 H1 (i+1) σ' H'->D.nx σ' H')
theorem BF{row:List Nat}{k:Nat}(D:row[i]?=some k):∀ r j,(r=m/\j∉row.take i)->(r=m/\j∉row.take (i+1))∨(r=m/\j=k):=λr j ⟨J,Y⟩=>by
 by_cases c:j=k
 .exact .inr ⟨J,c⟩
 .refine .inl ⟨J,λz=>?_⟩;rw[Hz,D]at z;rcases Hc.mp z with z|z
  .exact Y z
  .exact c (Hi.mp z)
theorem vm{r:Nat}{o:Option Int}(h:T[r]?=some o):(T.map oV)[r]?=some (oV o):=by rw[G7,h];rfl
theorem dI:az ["many","links","start","at","told","via","waiting","room","number","there","fare"] ["many","links","start"] (ar g8):=by ac_nf
theorem ok_fares{f2 c TT:Addr}(F:Fun K "fares" "fares" g8 f fd)(T:Txt mg)(ht:Jz K "fares"=some (c,TT))(hn:HJ K LU "fares"=some (some (.ref f)))(a0:Js base c TT)(b5:Bm mg base)(bd:Cal P w K mg base 1 "links_at" ["many","links"] spAt I G)(a6:Cal P w K mg base 1 "beyond" ["link","room"] Fn f2 Y):FnOk P w K mg base CX0 2 f fd ["many","links","start"] (spFares TT):=by
 refine Fun.okT F dI ht hn (λvs H Q E h=>?_) (λA ab s H vs Q E j h=>?_)
 .obtain⟨v,n,aS,ls,rfl,_⟩:=h;rfl
 obtain⟨v,n,aS,ls,rfl,⟨la,xs,rfl,hA,hL⟩,ok,hs,ba,kk⟩:=h;have hu:=qM j;have a2:=j.units;have n1:=ok.n1;have l9:=ok.l9;have LM:∀ N,Lam (cxOf CX0 P w K mg base N "fares" (ar g8) f (.ref c) A ab s H E).nox c TT (s.heap.objs.size+1) lqF:=λN=>⟨rfl,a0,b5,rfl,rfl,rfl,rfl⟩
 refine⟨_,(ah (aB 3 dI.nd (bd.c j (af (pv 0) (af (pv 1) aj))))
   (ah (aB 4 dI.nd (eI [] ["room"] (aP rfl T.n_range (af (pv 0) aj)) pg_c pt_c (λC ex s H=>oW)))
   (ah (ni 5 [] ["room"] dI.nd (aP rfl T.n_range (af (pv 0) aj)) pg_c pt_c (λC ex s H=>oW))
   (ah (oR ai (oU (pv 4) (pv 2) iJ))
   (ah (aB 6 dI.nd (vd (qj (pv 2) ve uV) rfl rfl (λz=>by cases z) (by decide)))
   (ah (eO PassesOwn.never (aD (op_neE a2) (pv 6) kA (aG _)) (ah (aB 7 dI.nd (FC (it:=4) (LM _) rfl rfl (j.mono (by decide)) rfl (Or.inr (Or.inl rfl)) rfl T.n_min (af (pv 6) aj)))
   (ah (aU (CQ (pv 6) (pv 7) ⟨rfl,rfl,rfl,rfl⟩))
   (lD (t2:=restF la TT n aS ls) (ao (bz PassesOwn.never rfl (aV (aR (pv 3) (pv 7))) (bY 8 dI.nd) (ah (aB 9 dI.nd (a6.c j (af (aR (pv 1) (pv 8)) (af (pv 7) aj))))
   (ah (aB 10 dI.nd (aw bL (aR (pv 4) (pv 7)) (aJ (aR (pv 1) (pv 8)) ai)))
   (ao (bP (PW.pt (sJ (aD op_isN (aR (pv 4) (pv 9)) oW (aG _)) (nh (aD sR (pv 10) (aR (pv 4) (pv 9)) (aG _))))) (lD (t2:=restM la TT n aS ls) (ah (oR (pv 10) (oU (pv 4) (pv 9) iJ))
   (ah (oR (pv 8) (oU (pv 5) (pv 9) iJ))
   (ao (jC hu (pv 6) (pv 9) ve rfl)))) (λD0 S0 H0 h0=>?restm)) aO)))))) (λD0 S0 H0 h0=>?restf)))))
   (ao (aF (bJ (af (pv 4) (af (pv 5) aj))))))))))),?_⟩
 case restm =>
  obtain⟨aa,ta,va,wd,xs,ys,rows,H1,TL,VL,W,m,w0,l0,i,k,row,l,x,o,sg,rfl,fh,u,hm,O,ho,ae,D,bp,kn⟩:=h0;have tl:=fh.fi.tl;have vl:=fh.fi.vl;have tt:bey l m<n:=by rw[← tl];exact(GV.mp ho).1
  have cn:=(fh.fi.w0 l (GW u));have bZ:=sg.ntv;have be:=sg.ntw;have bv:=sg.nvw;have bS:=sg.nTt;have bU:=sg.nTv;have bn:=sg.nTw;refine⟨_,rfl,_,rfl,_,rfl,ta,_,_,bey l m,rfl,rfl,fh.ht,jN (by rw[GY];omega),?_⟩
  refine⟨_,rfl,_,rfl,_,rfl,va,_,_,bey l m,rfl,rfl,by rw[aq (Ne.symm bZ)];exact fh.hv,jN (by rw[GY];omega),?_⟩
  have ct:(upd (upd H0 ta (.lst ((TL.map oV).set (bey l m) (.int (x+l.2.2))))) va (.lst ((VL.map oN).set (bey l m) (.int (k:Int))))) wd=some (.dK (W.map kw)):=by rw[aq (Ne.symm bv),aq (Ne.symm be)];exact fh.hw
  have wl:=fh.wlen;refine⟨_,rfl,_,rfl,wd,_,rfl,DPut.k (k:=.inl ((bey l m:Nat):Int)) (v:=.bl true) ct (by rw[GY];exact av ∅),?_⟩
  obtain⟨W',eW,ch,mW⟩:=put_kw (t:=bey l m) fh.nd;rw[eW];have e1:(TL.map oV).set (bey l m) (.int (x+l.2.2))=(TL.set (bey l m) (some (x+l.2.2))).map oV:=by rw[List.map_set];rfl
  have e2:(VL.map oN).set (bey l m) (.int (k:Int))=(VL.set (bey l m) (some k)).map oN:=by rw[List.map_set];rfl
  rw[e1,e2];have cu:=fh.fi.mend (W':=W') u hm O ho ae mW (BF D);have cw:=Cr fh.fi cn.1 cn.2 O ho ae;have nm:bey l m≠m:=λe=>by
   rw[e,O]at ho
   cases ho
   have:=ae x rfl;omega
  refine kn _ _ ⟨_,_,_,_,_,W',rfl,⟨((fh.kp.upd (.inr (.inl rfl)) _).upd (.inr (.inr (.inl rfl))) _).upd (.inr (.inr (.inr rfl))) _,?_,?_,ag,?_,cu,ch⟩,⟨x,by rw[se ∅,Nq nm];exact O⟩,.inr (by rcases bp with d|d<;>omega)⟩
  .rw[aq be,aq bZ];exact ag
  .rw[aq bv];exact ag
  .refine mV fh.tb λb L=>?_;rw[aq (λz=>?_),aq (λz=>?_),aq (λz=>?_)]
   .rcases L with L|⟨c',L⟩
    .exact bS (z▸L)
    .rw[z,fh.ht]at L;cases L
   .rcases L with L|⟨c',L⟩
    .exact bU (z▸L)
    .rw[z,fh.hv]at L;cases L
   .rcases L with L|⟨c',L⟩
    .exact bn (z▸L)
    .rw[z,fh.hw]at L;cases L
 case restf =>
  obtain⟨aa,ta,va,wd,xs,ys,rows,H1,v8,v9,aI,TL,VL,W,m,l0,sg,rfl,fh,⟨x,O⟩,ci,kn⟩:=h0;have mn:m<n:=by rw[← fh.fi.tl];exact(GV.mp O).1
  have rl:=sg.am.len;obtain⟨row,a4⟩:∃ row,rows[m]?=some row:=⟨_,GU ∅⟩
  obtain⟨pr,r1,r2,r3⟩:=sg.rx.2 _ _ a4;have hR:=fh.kp _ _ sg.naa sg.hR;have cv:=fh.kp _ _ r2 r3;have al:=sg.am.few row (GW a4);refine⟨_,rfl,_,rfl,aa,_,_,_,rfl,rfl,SqL.of hR,ay r1,pr,rfl,⟨_,SqL.of cv⟩,bM (K:=K) (xs:=row.map iV) (InI la aa ta va wd TT n aS ls row m (wgt (n*MM+1) TL) l0 H1) ⟨_,_,_,TL,VL,W,rfl,⟨fh.kp,fh.ht,fh.hv,fh.hw,fh.tb,fh.fi.exw λr i l _ _ z=>⟨z,by rw[KY];exact λy=>nomatch y⟩,fh.nd⟩,⟨x,O⟩,.inl ⟨rfl,ci⟩⟩ (λi M H2 _ z=>?_) ?_ ?_⟩
  .obtain⟨_,_,_,_,_,_,_,f2,_⟩:=z;exact SqL.of (f2.kp _ _ r2 r3)
  .rintro i y M H2 hy ⟨v8,v9,aI,bi,b0,W2,rfl,f2,⟨x2,bm⟩,bp⟩;rw[G7]at hy;obtain⟨k,D,rfl⟩:=Ho.mp hy;obtain⟨l,u,aT⟩:=(sg.am.mm m row a4 k).mp (GW D);obtain⟨lv,cc,b6⟩:=sg.hL.2 k l u;obtain⟨lt,rfl,ce⟩:=b6;have cf:=f2.kp _ _ (sg.tt _ _ ce) ce;have co:=f2.kp _ _ sg.nla sg.hA;obtain⟨b1,b2⟩:=sg.ok.sm l (GW u);have tt:bey l m<n:=bey_lt b1 b2;have cx:=f2.fi.tl;obtain⟨o,ho⟩:∃ o,bi[bey l m]?=some o:=⟨_,GU ∅⟩
   refine⟨_,rfl,_,rfl,la,_,_,_,rfl,rfl,SqL.of co,ay cc,_,rfl,.ref lt,l,m,rfl,⟨lt,rfl,cf⟩,?_⟩;refine⟨_,rfl,_,rfl,ta,_,_,_,rfl,rfl,SqL.of f2.ht,ay (vm bm),_,rfl,_,rfl,la,_,_,_,rfl,rfl,SqL.of co,ay cc,lt,_,2,_,rfl,rfl,SqT.of cf,a32,_,_,rfl,rfl,?_⟩;refine⟨_,rfl,_,rfl,ta,_,_,_,rfl,rfl,SqL.of f2.ht,ay (vm ho),rfl,_,rfl,?_⟩
   cases o with
   |none =>
    refine iteT (iteT ?_);exact⟨aa,ta,va,wd,xs,ys,rows,H1,bi,b0,W2,m,wgt (n*MM+1) TL,l0,i,k,row,l,x2,none,sg,rfl,f2,u,aT,bm,ho,(λy e=>nomatch e),D,bp,λan H' z=>z⟩
   |some y0 =>
    refine iteF ?_;refine⟨_,rfl,_,rfl,_,rfl,ta,_,_,_,rfl,rfl,SqL.of f2.ht,ay (vm ho),_,_,rfl,rfl,_,rfl,?_⟩;refine ite2 (λc=>?_) (λc=>?_)
    .have c':x2+l.2.2<y0:=Nf c
     exact⟨aa,ta,va,wd,xs,ys,rows,H1,bi,b0,W2,m,wgt (n*MM+1) TL,l0,i,k,row,l,x2,some y0,sg,rfl,f2,u,aT,bm,ho,(λy e=>by cases e;exact c'),D,bp,λan H' z=>z⟩
    .have c':¬ x2+l.2.2<y0:=λz=>c (MB z)
     exact⟨_,_,_,bi,b0,W2,rfl,⟨f2.kp,f2.ht,f2.hv,f2.hw,f2.tb,f2.fi.leave u bm ho ∅ (BF D),f2.nd⟩,⟨x2,bm⟩,bp⟩
  .rintro M H2 ⟨v8,v9,aI,bi,b0,W2,rfl,f2,_,bp⟩
   have ap:FH ta va wd TT n aS ls H1 bi b0 W2 (λ_ _=>False) H2:=⟨f2.kp,f2.ht,f2.hv,f2.hw,f2.tb,f2.fi.exw λr i l u aT ⟨z1,z2⟩=>by
    subst z1;rw[GY,HD]at z2
    exact z2 ((sg.am.mm r row a4 i).mpr ⟨l,u,aT⟩),f2.nd⟩
   refine kn _ _ ⟨_,_,_,_,bi,b0,W2,rfl,ap⟩ ?_;rw[ap.mes];have wl:=ap.wlen;rcases bp with⟨d1,d2⟩|d
   .rw[d1];omega
   .have J:(wgt (n*MM+1) bi+1)*(n+1)<=wgt (n*MM+1) TL*(n+1):=KR _ d
    rw[Nat.add_mul,Nat.one_mul]at J;omega
 refine⟨_,rfl,_,rfl,.ref la,n,ls,rfl,⟨la,xs,rfl,hA,hL⟩,ok,λaa ys rows Ha sa cp cs rx am=>?_⟩;refine⟨_,rfl,_,rfl,∅,∅,bT (n:=(n:Int).toNat) (λi zs H2=>H2=Ha/\zs=He i V.non) (by rw[G8];exact Hs (av ∅)) ⟨rfl,rfl⟩ ?_ ?_⟩
 .rintro i zs H2 B ⟨rfl,rfl⟩;exact⟨rfl,by rw[JB]⟩
 rintro zs H2 _ ⟨rfl,rfl⟩ ta aW;rw[G8];have z1:=ak aW (.lst (He n V.non));refine⟨_,rfl,_,rfl,∅,∅,bT (n:=(n:Int).toNat) (λi zs H3=>H3=upd H2 ta (.lst (He n V.non))/\zs=He i V.non) (by rw[G8];exact Hs (av ∅)) ⟨rfl,rfl⟩ ?_ ?_⟩
 .rintro i zs H3 B ⟨rfl,rfl⟩;exact⟨rfl,by rw[JB]⟩
 rintro zs H3 _ ⟨rfl,rfl⟩ va a3;rw[G8];have bZ:ta≠va:=λz=>by rw[← z,ag]at a3;cases a3
 have z2:=ak a3 (.lst (He n V.non));refine⟨_,rfl,_,rfl,ta,_,_,aS,rfl,rfl,by rw[aq bZ];exact ag,jN (by rw[IT];exact hs),?_⟩
 intro wd cd;refine⟨_,rfl,ag,[kw aS],rfl,(by show 1<=15;decide),?_⟩
 have be:ta≠wd:=λz=>by rw[← z,ag]at cd;cases cd
 have ca:H2 va=none:=dX z1 a3;have cb:(upd (upd H2 ta (.lst (He n V.non))) va (.lst (He n V.non))) wd=none:=by rw[aq (Ne.symm be)]at cd;exact cd
 have bv:va≠wd:=λz=>by rw[← z,ag]at cb;cases cb
 have bR:H2 wd=none:=dX (z1.trans z2) cb;have ck:H TT≠none:=by rcases ba with y|⟨_,y,_⟩<;>rw[y]<;>simp
 have aL:H2 TT≠none:=by
  cases y:H TT with
  |none=>exact Nr y ck
  |some o=>rw[sa _ _ y];simp
 have bS:ta≠TT:=λz=>aL (z▸aW);have bU:va≠TT:=λz=>aL (z▸ca);have bn:wd≠TT:=λz=>aL (z▸bR);have bb:Same H2 (upd (upd (upd (upd (upd H2 ta (.lst (He n V.non))) va (.lst (He n V.non))) ta (.lst ((He n V.non).set aS (.int 0)))) wd (.dK [])) wd (.dK (fF [] [kw aS]))):=aH (aH (aH (z1.trans z2) aW _) bR _) bR _;have eT:((He n V.non).set aS (.int 0))=((He n (none:Option Int)).set aS (some 0)).map oV:=by rw[List.map_set,List.map_replicate];rfl
 have eV:(He n V.non)=(He n (none:Option Nat)).map oN:=by rw[List.map_replicate];rfl
 have g1:(upd (upd (upd (upd (upd H2 ta (.lst (He n V.non))) va (.lst (He n V.non))) ta (.lst ((He n V.non).set aS (.int 0)))) wd (.dK [])) wd (.dK (fF [] [kw aS]))) ta=some (.lst (((He n (none:Option Int)).set aS (some 0)).map oV)):=by
  rw[aq be,aq be,← eT];exact ag
 have g2:(upd (upd (upd (upd (upd H2 ta (.lst (He n V.non))) va (.lst (He n V.non))) ta (.lst ((He n V.non).set aS (.int 0)))) wd (.dK [])) wd (.dK (fF [] [kw aS]))) va=some (.lst ((He n (none:Option Nat)).map oN)):=by
  rw[aq bv,aq bv,aq (Ne.symm bZ),← eV];exact ag
 have g3:(upd (upd (upd (upd (upd H2 ta (.lst (He n V.non))) va (.lst (He n V.non))) ta (.lst ((He n V.non).set aS (.int 0)))) wd (.dK [])) wd (.dK (fF [] [kw aS]))) wd=some (.dK ([aS].map kw)):=ag;generalize (upd (upd (upd (upd (upd H2 ta (.lst (He n V.non))) va (.lst (He n V.non))) ta (.lst ((He n V.non).set aS (.int 0)))) wd (.dK [])) wd (.dK (fF [] [kw aS])))=H1 at bb g1 g2 g3;have sH:Same H H1:=sa.trans bb;have nS:∀ b,H2 b≠none->b≠TT->¬ sF ta va wd TT b:=λb L nT z=>by
  rcases z with z|z|z|z
  .exact nT z
  .exact L (z▸aW)
  .exact L (z▸ca)
  .exact L (z▸bR)
 have sg:Sg la aa ta va wd TT n aS ls xs ys rows H1:=⟨sH _ _ hA,hL.imp λ_ _ q=>q.mono sH,ok,bb _ _ cs,⟨rx.1,λi l e=>by
   obtain⟨p,p1,p2,p3⟩:=rx.2 i l e;exact⟨p,p1,nS p (by rw[p3];simp) (λz=>p2 (.inr (z▸ck))),bb _ _ p3⟩⟩,am,nS la (by rw[sa _ _ hA];simp) (λz=>by rcases ba with y|⟨_,y,_⟩<;>rw[← z,hA]at y<;>cases y),nS aa (by rw[cs];simp) (λz=>ck (z▸cp)),(λt o e z=>by
   rcases z with z|z|z|z
   .rw[z]at e;rcases ba with y|⟨_,y,_⟩<;>rw[sH _ _ y]at e<;>cases e
   .rw[z,g1]at e;cases e
   .rw[z,g2]at e;cases e
   .rw[z,g3]at e;cases e),bZ,be,bv,bS,bU,bn⟩
 have bB:Tb lqF lpF TT H1:=by
  rcases ba with y|⟨c',y1,y2⟩
  .exact .inl (sH _ _ y)
  .exact .inr ⟨c',sH _ _ y1,sH _ _ y2⟩
 refine fM (FrI la aa ta va wd TT n aS ls H1) (λ_ H'=>mesH n ta wd H') ⟨_,_,_,_,_,_,[aS],rfl,⟨λ_ _ _ e=>e,g1,g2,g3,bB,FI.first ok.w0 hs,Hf.mpr ⟨(by simp),IE⟩⟩⟩ ?_ ?_
 .rintro M H3 ⟨v7,v8,v9,aI,TL,VL,W,rfl,fh⟩;refine⟨_,rfl,λp g=>?_⟩;have bE:=fh.new g (.dK []);refine⟨wd,p,W.map kw,rfl,rfl,bE.hw,ag,_,rfl,?_⟩;refine ite2 (λc=>?_) (λc=>?_)
  .have ne:W.map kw≠[]:=λz=>by rw[z]at c;cases c
   refine⟨_,rfl,wd,W.map kw,ta,_,rfl,bE.hw,ne,rfl,bE.ht,bE.tb,λkv cl=>?_,λkv cl H4 a7 a1=>?_⟩
   .obtain⟨r,j,rfl⟩:=HS.mp cl;obtain⟨x,O⟩:=bE.fi.wk r j;exact⟨r,x,rfl,vm O⟩
   obtain⟨r,j,rfl⟩:=HS.mp cl;have a5:=bE.tab bS bU bn a7 a1;obtain⟨x,O⟩:=a5.fi.wk r j;refine⟨_,rfl,wd,rfl,.inl ⟨_,.inl a5.hw⟩,_,rfl,W.map kw,.inl (r:Int),.bl true,a5.hw,rfl,zJ j,?_⟩;rw[wx];have mW:∀ y,y∈W.filter (λx=>decide (x≠r))↔y∈W/\y≠r:=λy=>by rw[Jl];simp
   have lW:(W.filter (λx=>decide (x≠r))).length<W.length:=by
    refine Nat.lt_of_le_of_ne (Jy _ _) λz=>?_;have:=List.filter_eq_self.mp (List.Sublist.eq_of_length (List.filter_sublist ..) z) r j;simp at this
   refine⟨aa,ta,va,wd,xs,ys,rows,H1,_,_,_,TL,VL,_,r,W.length,sg,rfl,⟨a5.kp.upd (.inr (.inr (.inr rfl))) _,by rw[aq be];exact a5.ht,by rw[aq bv];exact a5.hv,ag,mV a5.tb λb L=>aq λz=>?_,a5.fi.take mW,a5.nd.filter _⟩,⟨x,O⟩,lW,λan H' y1 y2=>⟨y1,by rw[fh.mes];exact y2⟩⟩
   rcases L with L|⟨c',L⟩
   .exact bn (z▸L)
   .rw[z,a5.hw]at L;cases L
  .have e0:W=[]:=by
    cases W with
    |nil=>rfl
    |cons a b=>exact Nr rfl c
   subst e0;refine⟨_,rfl,_,rfl,(by show 2<=LR;decide),λt ht=>?_⟩
   have a5:=bE.new ht (.tup [.ref ta,.ref va]);refine kk t ta va TL VL _ (λb o nb e=>?_) a5.tb (dX sa aW) (dX sa ca) ag a5.ht a5.hv a5.fi;exact a5.kp _ _ (nS b (by rw[sa _ _ e];simp) nb) (sH _ _ e)
 .rintro M H4 Q1 Q2 B ⟨v1,e1,h⟩;refine⟨v1,e1,λp g=>?_⟩;obtain⟨a,b,ac,q1,q2,q3,q4,c',q5,q6⟩:=h p g;exact⟨a,b,ac,q1,q2,q3,q4,c',q5,B _ _ q6⟩
theorem andN(a b:Nat):Mm (a:Int) (b:Int)=((a&&&b:Nat):Int):=by
 rw[PyProof.Rows.bitAnd_pp (Jw _) (Jw _),G8,G8]
theorem shlN(p:Nat):(1:Int)*2^((p:Nat):Int).toNat=((2^p:Nat):Int):=by
 rw[Ls,G8,Lu];rfl
theorem xa(m n:Nat):(m^^^n)+2*(m&&&n)=m+n:=by
 have h:=PyProof.Rows.nat_or_add_and m n;have Y:(m|||n)=(m^^^n)+(m&&&n):=by
  have e:(m^^^n)+(m&&&n)=(m^^^n)|||(m&&&n):=by
   have q:=PyProof.Rows.nat_or_add_and (m^^^n) (m&&&n);have z:(m^^^n)&&&(m&&&n)=0:=by
    apply Ic;intro i;simp only[JK,Ie,Ii]
    cases m.testBit i<;>cases n.testBit i<;>rfl
   omega
  rw[e];apply Ic;intro i;simp only[JK,Ie,Jt]
  cases m.testBit i<;>cases n.testBit i<;>rfl
 omega
theorem xorN(a b:Nat):Mo (a:Int) (b:Int)=((a^^^b:Nat):Int):=by
 rw[PyProof.Rows.bitXor_and,andN];have q:=xa a b;omega
def bl(c:Nat):List Nat:=K2.bitsF 0 c
theorem Cd(c:Nat):(bl c).Pairwise (· < ·):=K2.bitsF_sorted c c 0 (G0 _)
theorem bl_nd(c:Nat):(bl c).Nodup:=K2.nodup_of_lt (Cd c)
theorem mem_bl{c x:Nat}:x∈bl c↔c.testBit x=true:=by
 have e:K2.S (K2.bitsF 0 c)=c:=by
  have:=K2.bitsF_sum c c 0 (G0 _);rw[this,Nat.pow_zero,Nat.mul_one]
 have b:=K2.S_bit (bl_nd c) x;unfold bl at b ⊢;rw[e]at b;rw[b,decide_eq_true_iff]
theorem oI{c x:Nat}(h:c<2^m)(O:x∈bl c):x<m:=by
 have:=K2.bitsF_lt m c 0 h x O;omega
theorem rL:bl 0=[]:=K2.bitsF_zero 0
def cut2(c f t:Nat):Nat:=c^^^2^f^^^2^t
theorem mS{c f t:Nat}(l:f∈bl c)(T:t∈bl c)(n:f≠t)(x:Nat):x∈bl (cut2 c f t)↔x∈bl c/\x≠f/\x≠t:=by
 rw[mem_bl]at l T;rw[mem_bl,mem_bl];unfold cut2;rw[Ie,Ie,HF,HF];by_cases c1:x=f
 .subst c1;rw[l];simp[Ne.symm n]
 .by_cases c2:x=t
  .subst c2;rw[T];simp[n]
  .have a:¬ f=x:=λz=>c1 z.symm
   have b:¬ t=x:=λz=>c2 z.symm;simp[c1,c2,a,b]
theorem BZ{c f t:Nat}{rest:List Nat}(e:bl c=f::rest)(T:t∈rest):(bl (cut2 c f t)).Perm (rest.erase t):=by
 have s:=bl_nd c;rw[e]at s;obtain⟨i,v⟩:=Hf.mp s;have N:f≠t:=λz=>i (z▸T);refine(Jc (bl_nd _) (v.erase _)).mpr λx=>?_;rw[mS (by rw[e];exact G9 ..) (by rw[e];exact G4 _ T) N,e,v.mem_erase_iff,G6]
 constructor
 .rintro⟨J|J,Y,A⟩
  .exact Nr J Y
  .exact⟨A,J⟩
 .rintro⟨J,Y⟩;exact⟨.inr Y,λz=>i (z▸Y),J⟩
theorem GC{c f t:Nat}(h:c<2^m)(l:f<m)(T:t<m):cut2 c f t<2^m :=
 IG (IG h (HZ (by decide) l)) (HZ (by decide) T)
def Opt(D:Nat->Nat->Int)(l:List Nat)(t:Int):Prop:=Cs D l t/\∀ c,Cs D l c->t<=c
theorem Opt.perm{D:Nat->Nat->Int}{l l':List Nat}{t:Int}(h:Opt D l t)(p:l.Perm l'):Opt D l' t:=⟨h.1.perm p,λc z=>h.2 c (z.perm p.symm)⟩
theorem Opt.nil{D:Nat->Nat->Int}:Opt D [] 0:=by
 refine⟨⟨[],.refl _,rfl⟩,λc h=>?_⟩;obtain⟨k,p,e⟩:=h
 cases k with
 |nil=>rw[← e];exact II _
 |cons q r=>have:=p.length_eq;cases this
theorem Opt.step{D:Nat->Nat->Int}(sy:∀ a b,D a b=D b a){f j:Nat}{rest:List Nat}{d:Int}(o:j∈rest)(g:Opt D (rest.erase j) d)(y:∀ t∈rest,∃ tr,Opt D (rest.erase t) tr/\D f j+d<=D f t+tr):Opt D (f::rest) (D f j+d):=by
 refine⟨(g.1.add f j).perm ((List.perm_cons_erase o).symm.cons f),λc C=>?_⟩;obtain⟨e,R,c0,p,B,i⟩:=C.part sy (G9 ..);have I:rest.Perm (e::R):=p.cons_inv;have er:e∈rest:=I.mem_iff.mpr (G9 ..);have r:R.Perm (rest.erase e):=by
  have:=(I.erase e).symm;rw[Jj]at this;exact this
 obtain⟨tr,l,Y⟩:=y e er;have J:=l.2 c0 (B.perm r);omega
def BtAt(H:Hp)(v:V)(D:Nat->Nat->Int)(m:Nat):Prop:=∃ a t,v=.ref a/\H a=some (.lst t)/\∀ i,i<m->∃ p f,t[i]?=some (.ref p)/\H p=some (.lst f)/\∀ k,k<m->f[k]?=some (.int (D i k))
def lM(H:Hp)(v:V)(t:Int):Prop:=∃ a y z,v=.ref a/\H a=some (.tup [.int t,y,z])
def Ent(H:Hp)(D:Nat->Nat->Int)(m:Nat)(kvs:List (Key×V))(c:Nat)(v:V):Prop:=c<2^m/\((c=0/\lM H v 0)∨∃(t:Int)(f g:Nat)(a:Addr)(n:V)(y:Int),v=.ref a/\H a=some (.tup [.int t,.int (f:Int),.int (g:Int)])/\f∈bl c/\g∈bl c/\f≠g/\valV kvs (.inl ((cut2 c f g:Nat):Int))=some n/\lM H n y/\t=D f g+y/\Opt D (bl c) t)
structure TI(H:Hp)(D:Nat->Nat->Int)(m:Nat)(kvs:List (Key×V)):Prop where
 en:∀ k v,valV kvs k=some v->∃ c:Nat,k=.inl (c:Int)/\Ent H D m kvs c v
 z:∃ v,valV kvs (.inl ((0:Nat):Int))=some v
 nd:(kvs.map (·.1)).Nodup
def Grw(kvs b:List (Key×V))(n:Nat):Prop:=(∀ k v,valV kvs k=some v->valV b k=some v)/\∀ c:Nat,valV kvs (.inl (c:Int))=none->valV b (.inl (c:Int))≠none->(bl c).length<=n
def Tps(H H':Hp):Prop:=∀ a D,H a=some (.tup D)->H' a=some (.tup D)
theorem lM.mono{t:Int}(h:lM H v t)(s:Tps H H'):lM H' v t:=by
 obtain⟨a,y,z,e,q⟩:=h;exact⟨a,y,z,e,s _ _ q⟩
theorem Ent.cost{c:Nat}(h:Ent H D m kvs c v):∃ t,lM H v t/\Opt D (bl c) t:=by
 obtain⟨_,⟨rfl,h⟩|⟨t,f,g,a,n,d,y,E,_,_,_,_,_,_,p⟩⟩:=h
 .exact⟨0,h,by rw[rL];exact Opt.nil⟩
 .exact⟨t,⟨a,_,_,y,E⟩,p⟩
theorem Ent.mono{H H':Hp}{D:Nat->Nat->Int}{m c:Nat}{kvs b:List (Key×V)}{v:V}(h:Ent H D m kvs c v)(s:Tps H H')(g:∀ k v,valV kvs k=some v->valV b k=some v):Ent H' D m b c v:=by
 obtain⟨o,⟨e,h⟩|⟨t,f,j,a,n,d,y,E,u,B,q,i,l,r,p⟩⟩:=h
 .exact⟨o,.inl ⟨e,h.mono s⟩⟩
 .exact⟨o,.inr ⟨t,f,j,a,n,d,y,s _ _ E,u,B,q,g _ _ i,l.mono s,r,p⟩⟩
theorem TI.mono{H H':Hp}{D:Nat->Nat->Int}{m:Nat}{kvs:List (Key×V)}(h:TI H D m kvs)(s:Tps H H'):TI H' D m kvs:=⟨λk v e=>by
 obtain⟨C,f,E⟩:=h.en k v e
 exact⟨C,f,E.mono s λ_ _ z=>z⟩,h.z,h.nd⟩
theorem TrA.mono{t:T3}(h:TrA H v t)(s:Tps H H'):TrA H' v t:=by
 obtain⟨a,e,q⟩:=h;exact⟨a,e,s _ _ q⟩
theorem TbS.tps(s:TbS tb H H')(T:H tb=some (.dK kvs)):Tps H H':=λa D q=>s _ _ (λw=>by rw[w,T]at q;cases q) q
theorem BtAt.mono(h:BtAt H v D m)(T:H tb=some (.dK kvs))(s:TbS tb H H'):BtAt H' v D m:=by
 obtain⟨a,k,e,q,r⟩:=h;refine⟨a,k,e,s _ _ (λw=>by rw[w,T]at q;cases q) q,λi I=>?_⟩
 obtain⟨p,f,B,o,n⟩:=r i I;exact⟨p,f,B,s _ _ (λw=>by rw[w,T]at o;cases o) o,n⟩
theorem sZ{α u:Type}{f:α->u}:∀{l:List α},l.Nodup->(∀ a∈l,∀ b∈l,f a=f b->a=b)->(l.map f).Nodup
 |[],_,_=>IE
 |x::l,s,h=>by
  obtain⟨i,v⟩:=Hf.mp s;rw[Hu];refine Hf.mpr ⟨λz=>?_,sZ v λa G b L=>h a (G4 _ G) b (G4 _ L)⟩;obtain⟨y,Q,e⟩:=HS.mp z;exact i (h x (G9 ..) y (G4 _ Q) e.symm▸Q)
theorem TI.len(h:TI H D m kvs)(y:m<=14):kvs.length<LR:=by
 have B:∀ k∈kvs.map (·.1),∃ c:Nat,k=Sum.inl (c:Int)/\c<2^m:=λk d=>by
  cases p:valV kvs k with
  |none=>exact Nr d (xo p)
  |some v =>
   obtain⟨c,e,q⟩:=h.en k v p;exact⟨c,e,q.1⟩
 have Q:((kvs.map (·.1)).map λk:Key=>match k with | .inl i=>i.toNat | .inr _=>0).Nodup:=by
  refine sZ h.nd λa G b L e=>?_;obtain⟨c1,rfl,_⟩:=B a G;obtain⟨c2,rfl,_⟩:=B b L;have u:c1=c2:=by simpa using e
  rw[u]
 have f:=kD (2^m) _ Q λx O=>by
  obtain⟨k,d,rfl⟩:=HS.mp O;obtain⟨c,rfl,C⟩:=B k d;simpa using C
 rw[GY,GY]at f;have:2^m<=2^14:=HR (by decide) y
 have g:(2:Nat)^14=16384:=by decide
 have:=PySem.sizeLine_eq;omega
inductive restR(tb:Addr)(bv:V)(c m:Nat)(D:Nat->Nat->Int)(kvs:List (Key×V))(H0:Hp)(Q:VK)(D0:L2.Ends)(σ:L2.St)(H:L2.Hp):Prop
 |mk (v4 v5 v6 v7 v8:Option V)(kvs':List (Key×V))(v:V) (h0_:σ=[some bv,some (.int (c:Int)),some (.ref tb),v4,v5,v6,v7,v8])(h1_:TbS tb H0 H)(h2_:H tb=some (.dK kvs'))(h3_:TI H D m kvs')(h4_:Grw kvs kvs' (bl c).length)(h5_:valV kvs' (.inl (c:Int))=some v)(h6_:∀ x H',Q x H'->D0.rt x H')
def LpI(e:V)(tb r wa:Addr)(c f m:Nat)(D:Nat->Nat->Int)(kvs:List (Key×V))(rest:List Nat)(Hb:Hp)(i:Nat)(σ:St)(H:Hp):Prop:=∃(g h:Option V)(a:List (Key×V))(l:List T3)(k:List V),σ=[some e,some (.int (c:Int)),some (.ref tb),some (.ref r),some (.int (f:Int)),some (.ref wa),g,h]/\(∀ b o,b≠tb->b≠wa->Hb b=some o->H b=some o)/\H tb=some (.dK a)/\TI H D m a/\Grw kvs a (rest.length-1)/\H wa=some (.lst k)/\LsAt TrA H k l/\l.length=i /\
 ∀(d t:Nat),(rest.take i)[d]?=some t->∃(y:Int)(n:V),l[d]?=some (D f t+y,(f:Int),(t:Int))/\Opt D (rest.erase t) y/\valV a (.inl ((cut2 c f t:Nat):Int))=some n/\lM H n y
inductive spLaid(D:Nat->Nat->Int)(m j:Nat)(vs:List L2.V)(H:L2.Hp)(Q:L2.VK)(x3_:L2.XK):Prop
 |mk (bv:V)(tb:Addr)(c:Nat)(kvs:List (Key×V)) (h0_:vs=[bv,.int (c:Int),.ref tb])(h1_:BtAt H bv D m)(h2_:H tb=some (.dK kvs))(h3_:TI H D m kvs)(h4_:c<2^m)(h5_:m<=14)(h6_:(bl c).length<2*j)(h7_:(bl c).length%2=0)(h8_:∀ v t kvs' H',TbS tb H H'->H' tb=some (.dK kvs')->TI H' D m kvs'->Grw kvs kvs' (bl c).length->valV kvs' (.inl (c:Int))=some v->lM H' v t->Opt D (bl c) t->Q v H')
theorem bu:az ["between","chosen","table","numbers","first","ways","mate","rest"] ["between","chosen","table"] (ar bO):=by ac_nf
theorem Dh(sy:∀ a b,D a b=D b a)(F:Fun K "laid_in_pairs" "laid_in_pairs" bO f fd)(T:Txt mg)(ae:Cal P w K mg base 1 "bits" ["mask"] lP C G)(ac:Cal P w K mg base (j+2) "laid_in_pairs" ["between","chosen","table"] (spLaid D m j) f fd):FnOk P w K mg base CX0 (j+3) f fd ["between","chosen","table"] (spLaid D m (j+1)):=by
 refine F.ok bu (by walk_at "l") λaa A u s H vs Q E N h=>?_
 obtain⟨bv,tb,c,kvs,rfl,hB,hT,ti,g,b0,len,ev,kk⟩:=h;have hu:=qM N;have aS:=N.units
 refine⟨_,(ah (bP (xK (kC hu (pv 1) (pv 2))) (ah (aB 3 bu.nd (ae.c N (af (pv 1) aj)))
   (ah (aB 4 bu.nd (aR (pv 3) ai))
   (ah (aB 5 bu.nd (bV aj))
   (ah (bz PassesOwn.never rfl (aV (ko mZ (pv 3) (nj ai) nu)) (bY 6 bu.nd) (ah (aB 7 bu.nd (aw dB (aw dB (pv 1) (aw bW ai (pv 4))) (aw bW ai (pv 6))))
   (ao (aU (cY Hh Hy Hx aY (pv 5) (af (bJ (af (aw bL (aR (aR (pv 0) (pv 4)) (pv 6)) (aJ (ac.c N (af (pv 0) (af (pv 7) (af (pv 2) aj)))) ai)) (af (pv 4) (af (pv 6) aj)))) aj))))))
   (ao (jC hu (pv 2) (pv 1) (aC (B8 rfl aS) (by rfl) T.n_min pz (af (pv 5) aj)) rfl)))))) aO)
   (lD (t2:=restR tb bv c m D kvs H Q) (ao (aF (gm hu (pv 2) (pv 1) (λ_ _=>rfl)))) (λD0 S0 H0 h0=>?restr))),?_⟩
 case restr =>
  obtain⟨v4,v5,v6,v7,v8,ab,v,rfl,sT,bb,bd,gr,hv,kq⟩:=h0;obtain⟨c',e,en⟩:=bd.en _ v hv;have ec:c'=c:=by
   have:((c:Nat):Int)=(c':Int):=by injection e
   omega
  subst ec;obtain⟨t,J,Y⟩:=en.cost;refine⟨_,rfl,_,rfl,tb,v,rfl,by have:=DGet.k (k:=.inl ((c':Nat):Int)) bb;rw[hv]at this;exact this,?_⟩
  exact kq _ _ (kk v t ab H0 sT bb bd gr hv J Y)
 refine⟨_,rfl,_,rfl,tb,_,rfl,DGet.k (k:=.inl ((c:Nat):Int)) hT,_,rfl,?_⟩
 cases hv:valV kvs (.inl ((c:Nat):Int)) with
 |some v =>
  exact iteF ⟨_,_,_,_,_,kvs,v,rfl,(λ_ _ _ e=>e),hT,ti,⟨λ_ _ z=>z,λc' z1 z2=>Nr z1 z2⟩,hv,λ_ _ z=>z⟩
 |none =>
  refine iteT ?_;have c0:c≠0:=λz=>by
   subst z;obtain⟨v0,bE⟩:=ti.z;rw[hv]at bE;cases bE
  obtain⟨f,rest,a3⟩:∃ f rest,bl c=f::rest:=by
   cases q:bl c with
   |cons f rest=>exact⟨f,rest,rfl⟩
   |nil =>
    refine Nr (Ic λi=>?_) c0;rw[Ii]
    cases z:c.testBit i with
    |false=>rfl
    |true =>
     have:=mem_bl.mpr z;rw[q]at this;cases this
  have nd:=bl_nd c;rw[a3]at nd;obtain⟨nf,be⟩:=Hf.mp nd;have a5:(bl c).length=rest.length+1:=by rw[a3,Hk]
  have flt:f<m:=oI g (by rw[a3];exact G9 ..)
  have cH:∀ t∈rest,t<m:=λt n=>oI g (by rw[a3];exact G4 _ n)
  have rm:rest.length+1<=m:=by
   rw[← a5];exact kD m _ (bl_nd c) λx O=>oI g O
  have dd:c<16384:=by
   have:2^m<=2^14:=HR (by decide) b0
   have cG:(2:Nat)^14=16384:=by decide
   omega
  refine⟨_,rfl,(c:Int),rfl,∅,∅,λr H1 l aW aL=>?_⟩
  have cO:(K2.bitsF 0 ((c:Nat):Int).toNat).map iV=iV f::rest.map iV:=by
   rw[G8];show(bl c).map iV=_;rw[a3,Hu]
  rw[cO]at aL;refine⟨_,rfl,r,_,0,_,rfl,rfl,SqL.of aL,(show atI (iV f::rest.map iV) ((0:Nat):Int)=some (iV f) from ay rfl),?_⟩;refine⟨(by show 0<=LR;decide),λwa ce=>?_⟩
  have s2:=ak ce (.lst []);refine⟨_,rfl,_,rfl,r,_,rfl,SqL.of (s2 _ _ aL),λsl bR=>?_⟩;have cf:cutV (iV f::rest.map iV) (some 1) none=rest.map iV:=by
   have I:HT.sIx (iV f::rest.map iV).length 0 (some ((1:Nat):Int))=1:=by rw[HT.sIx_nat,Hk,GY];omega
   unfold cutV;rw[show(some (1:Int))=some ((1:Nat):Int) from rfl,I,HT.sIx_none,List.drop_succ_cons,List.drop_zero,Hk];exact IK ∅
  rw[cf];have s3:=ak bR (.lst (rest.map iV));have am:Same H (upd (upd H1 wa (.lst [])) sl (.lst (rest.map iV))):=l.trans (s2.trans s3);have ch:wa≠sl:=λz=>by rw[← z,ag]at bR;cases bR
  have g1:(upd (upd H1 wa (.lst [])) sl (.lst (rest.map iV))) wa=some (.lst []):=by rw[aq ch];exact ag
  have g2:=ag (H:=upd H1 wa (.lst [])) (a:=sl) (o:=.lst (rest.map iV));have bS:H wa=none:=dX l ce;generalize (upd (upd H1 wa (.lst [])) sl (.lst (rest.map iV)))=Hb at am g1 g2;have cn:=am _ _ hT;have co:wa≠tb:=λz=>by rw[z,hT]at bS;cases bS
  have cs:sl≠tb:=λz=>by rw[z,cn]at g2;cases g2
  have cP:TbS tb H Hb:=λb o _ e=>am _ _ e;have cQ:TI Hb D m kvs:=ti.mono λa xs q=>am _ _ q;have df:BtAt Hb bv D m:=hB.mono hT cP;refine⟨sl,rfl,⟨_,SqL.of g2⟩,bM (K:=K) (xs:=rest.map iV) (LpI bv tb r wa c f m D kvs rest Hb) ⟨_,_,kvs,[],[],rfl,λ_ _ _ _ e=>e,cn,cQ,⟨λ_ _ z=>z,λc' z1 z2=>Nr z1 z2⟩,g1,LsAt.nil,rfl,λa0 t e=>by simp at e⟩ (λi M L _ an=>by obtain⟨_,_,_,_,_,_,z,_⟩:=an;exact SqL.of (z _ _ cs (Ne.symm ch) g2)) ?_ ?_⟩
  .rintro i x M L O ⟨v7,v8,al,ws,B,rfl,k2,ap,bi,bm,a6,hL,wl,done⟩;rw[G7]at O;obtain⟨t,n,rfl⟩:=Ho.mp O;have tm:=GW n;have tl:=cH t tm;have b5:f≠t:=λz=>nf (z▸tm);have cp:=BZ a3 tm;have cl:(bl (cut2 c f t)).length+1=rest.length:=by
    rw[cp.length_eq,Ks tm];have:=Iu tm;omega
   refine⟨_,rfl,_,rfl,_,_,rfl,rfl,⟨by show(0:Int)<=(f:Int);omega,by show(f:Int)<=1000000;omega,by decide⟩,_,_,rfl,rfl,_,rfl,_,_,rfl,rfl,⟨by show(0:Int)<=(t:Int);omega,by show(t:Int)<=1000000;omega,by decide⟩,_,_,rfl,rfl,?_⟩
   have ec:Mo (Mo (c:Int) (1*2^((f:Nat):Int).toNat)) (1*2^((t:Nat):Int).toNat)=((cut2 c f t:Nat):Int):=by rw[shlN,shlN,xorN,xorN];rfl
   simp only[ec];have yl:=hL.1;have upL:∀ b zs,H b=some (.lst zs)->L b=some (.lst zs):=λb zs q=>k2 b _ (λz=>by rw[z,hT]at q;cases q) (λz=>by rw[z,bS]at q;cases q) (am _ _ q)
   obtain⟨ba,zs,rfl,ct,rr⟩:=id hB
   have cT:BtAt L (.ref ba) D m:=⟨ba,zs,rfl,upL _ _ ct,λi' aI=>by
    obtain⟨p,xs,r1,r2,r3⟩:=rr i' aI
    exact⟨p,xs,r1,upL _ _ r2,r3⟩⟩
   obtain⟨p,xs,r1,r2,r3⟩:=rr f flt;refine⟨_,rfl,.inl ⟨rfl,_,SqL.of a6⟩,_,rfl,_,rfl,ba,_,_,_,rfl,rfl,SqL.of (upL _ _ ct),ay r1,_,rfl,p,_,_,_,rfl,rfl,SqL.of (upL _ _ r2),ay (r3 t tl),_,rfl,_,rfl,_,rfl,.ref ba,tb,cut2 c f t,al,rfl,cT,ap,bi,GC g flt tl,b0,∅,∅,λv tr cu H3 b6 c5 c6 ca bB cv c7=>?_⟩
   obtain⟨va,y,z,rfl,aT⟩:=id cv;refine⟨va,_,0,_,rfl,rfl,SqT.of aT,a30,_,_,rfl,rfl,_,rfl,_,rfl,(by show 3<=LR;decide),λt3 a1=>?_⟩
   have s4:=ak a1 (.tup [.int (D f t+tr),.int (f:Int),.int (t:Int)]);have bn:H3 wa=some (.lst B):=b6 _ _ co a6;have dg:i<rest.length:=(GV.mp n).1;refine⟨wa,B,_,rfl,rfl,s4 _ _ bn,av ∅,?_⟩
   have cw:Tps L H3:=TbS.tps b6 ap;have bp:Tps H3 (upd (upd H3 t3 (.tup [.int (D f t+tr),.int (f:Int),.int (t:Int)])) wa (.lst (B++[.ref t3]))):=λa xs q=>by
    rw[aq (λz=>by rw[z,bn]at q;cases q)]
    exact s4 _ _ q
   have bU:Tps L (upd (upd H3 t3 (.tup [.int (D f t+tr),.int (f:Int),.int (t:Int)])) wa (.lst (B++[.ref t3]))):=λa xs q=>bp _ _ (cw _ _ q);have c8:t3≠wa:=λz=>by rw[z,bn]at a1;cases a1
   refine⟨_,_,cu,ws++[(D f t+tr,(f:Int),(t:Int))],B++[.ref t3],rfl,λb o n1 n2 e=>?_,?_,c6.mono bp,⟨λk v z=>ca.1 _ _ (bm.1 _ _ z),λc' y1 y2=>?_⟩,ag,?_,by rw[GZ,wl];rfl,λa0 t' e=>?_⟩
   .rw[aq n2];exact s4 _ _ (b6 _ _ n1 (k2 b o n1 n2 e))
   .rw[aq (Ne.symm co)];exact s4 _ _ c5
   .cases q2:valV al (.inl (c':Int)) with
    |none=>have:=ca.2 c' q2 y2;omega
    |some v'=>exact bm.2 c' y1 (by rw[q2];simp)
   .exact(hL.imp λ_ _ q=>TrA.mono q bU).snoc ⟨t3,rfl,by rw[aq c8];exact ag⟩
   .have a4:(rest.take i).length=i:=by rw[HY];omega
    rw[Hz,n]at e;by_cases ci:a0<i
    .rw[G5 ∅]at e
     obtain⟨cb,vr,d1,d2,d3,d4⟩:=done a0 t' e;exact⟨cb,vr,by rw[G5 ∅];exact d1,d2,ca.1 _ _ d3,d4.mono bU⟩
    .rw[G3 ∅]at e
     have h5:=(GV.mp e).1;have h6:a0=i:=by
      have:(Option.toList (some t)).length=1:=rfl;omega
     subst h6;rw[a4,Hw]at e
     cases e
     exact⟨tr,.ref va,by rw[G3 ∅,wl,Hw];rfl,c7.perm cp,bB,cv.mono bp⟩
  .rintro M L ⟨v7,v8,al,ws,B,rfl,k2,ap,bi,bm,a6,hL,wl,done⟩;rw[GY]at wl done;rw[HD]at done;have rp:1<=rest.length:=by omega
   have da:ws≠[]:=λz=>by rw[z]at wl;simp at wl;omega
   refine⟨_,rfl,wa,B,ws,rfl,SqL.of a6,hL,da,λa0 y t3 hy a1 cx=>?_⟩;have il:a0<rest.length:=by rw[← wl];exact(GV.mp a1).1
   obtain⟨t,et⟩:∃ t,rest[a0]?=some t:=⟨_,GU il⟩;have tm:=GW et;obtain⟨tr,vr,d1,d2,d3,d4⟩:=done a0 t et;rw[a1]at d1
   cases d1
   obtain⟨w',cB,a,rfl,ha⟩:=hL.get hy;rw[a1]at cB
   cases cB
   have b5:f≠t:=λz=>nf (z▸tm);have fb:f∈bl c:=by rw[a3];exact G9 ..
   have cD:t∈bl c:=by rw[a3];exact G4 _ tm
   have db:Opt D (bl c) (D f t+tr):=by
    rw[a3];refine Opt.step sy tm d2 λt' a2=>?_;obtain⟨k,d,ek⟩:=Im a2;obtain⟨cb,dh,cd,dc,_,_⟩:=done k t' (by rw[GU d,ek])
    exact⟨cb,dc,cx _ (GW cd)⟩
   have bZ:valV al (.inl ((c:Nat):Int))=none:=by
    cases q2:valV al (.inl ((c:Nat):Int)) with
    |none=>rfl
    |some v'=>have:=bm.2 c hv (by rw[q2];simp);omega
   have cne:((cut2 c f t:Nat):Int)≠(c:Int):=λz=>by
    have z':cut2 c f t=c:=by omega
    have:=(mS fb cD b5 f).mp (by rw[z'];exact fb)
    exact this.2.1 rfl
   have a7:∀ k v,valV al k=some v->valV (putK al (.inl ((c:Nat):Int)) (.ref a)) k=some v:=λk v e=>by
    rw[eJ,Nq (λz=>by rw[z,bZ]at e;cases e)]
    exact e
   refine⟨_,rfl,_,rfl,tb,_,rfl,DPut.k (k:=.inl ((c:Nat):Int)) (v:=.ref a) ap (bi.len b0),?_⟩;have tp:Tps L (upd L tb (.dK (putK al (.inl ((c:Nat):Int)) (.ref a)))):=λb xs q=>by
    rw[aq (λz=>by rw[z,ap]at q;cases q)]
    exact q
   refine⟨_,_,_,_,_,putK al (.inl ((c:Nat):Int)) (.ref a),.ref a,rfl,λb o n1 e=>?_,ag,⟨λk v e=>?_,?_,FY _ bi.nd bZ⟩,⟨λk v e=>a7 _ _ (bm.1 _ _ e),λc' y1 y2=>?_⟩,by rw[eJ,Np rfl],λ_ _ z=>z⟩
   .rw[aq n1];exact k2 b o n1 (λz=>by rw[z,bS]at e;cases e) (am _ _ e)
   .rw[eJ]at e;by_cases ck:k=.inl ((c:Nat):Int)
    .rw[Np ck]at e
     cases e
     exact⟨c,ck,g,.inr ⟨D f t+tr,f,t,a,vr,tr,rfl,tp _ _ ha,fb,cD,b5,a7 _ _ d3,d4.mono tp,rfl,db⟩⟩
    .rw[Nq ck]at e;obtain⟨c',I,e2⟩:=bi.en k v e;exact⟨c',I,e2.mono tp a7⟩
   .obtain⟨v0,bE⟩:=bi.z;exact⟨v0,a7 _ _ bE⟩
   .by_cases cc:c'=c
    .rw[cc];exact G0 _
    .rw[eJ,Nq (λz=>cc (by have:(c':Int)=(c:Int):=(by injection z);omega))]at y2
     have:=bm.2 c' y1 y2;omega
theorem ok_laid{f p:Addr}{fd k:FuncData}{D:Nat->Nat->Int}{m:Nat}(sy:∀ a b,D a b=D b a) (F:Fun K "laid_in_pairs" "laid_in_pairs" bO f fd) (T:Txt mg) (g:Cal P w K mg base 1 "bits" ["mask"] lP p k) (l:dQ K fd ["between","chosen","table"] []) (y:mg "laid_in_pairs"=some (.ref f)) (d:HV K (.ref f)=true):∀ j,FnOk P w K mg base CX0 (j+2) f fd ["between","chosen","table"] (spLaid D m j)
 |0=>⟨λO H Q E h=>by
   obtain⟨e,i,c,N,_,_,_,_,_,_,z,_⟩:=h;omega,λA u s H v Y O Q E _ _ _ _ h=>by
   obtain⟨e,i,c,N,_,_,_,_,_,_,z,_⟩:=h
   omega⟩
 |j+1=>Dh sy F T g ⟨ok_laid sy F T g l y d j,l,y,d⟩
theorem Dm{r:Nat}{o:Option Nat}(h:L[r]?=some o):(L.map oN)[r]?=some (oN o):=by rw[G7,h];rfl
theorem FI.even{s:Nat}(I:FI n ls s M T L [] (λ_ _=>False)){r k:Nat}(h:L[r]?=some (some k)):∃(l:Lk)(x y:Int),ls[k]?=some l/\mh l r/\T[r]?=some (some x)/\T[bey l r]?=some (some y)/\y+l.2.2=x:=by
 obtain⟨l,x,y,f,E,u,B,q⟩:=I.pr r k h;rcases I.rl (bey l r) y k l B (by simp) f (rN E)with p|⟨H,p,O⟩
 .exact p.elim
 .rw[oh E,u]at p;cases p;exact⟨l,x,y,f,E,u,B,∅⟩
inductive Pth(ls:List Lk)(vv:List (Option Nat))(s:Nat):Nat->List Nat->Prop where
 |root:Pth ls vv s s []
 |step {r k:Nat} {l:Lk} {ks:List Nat} (hv:vv[r]?=some (some k)) (hl:ls[k]?=some l) (h:Pth ls vv s (bey l r) ks):Pth ls vv s r (k::ks)
theorem Up.path{s r:Nat}(h:Up ls L s j r):∃ ks,Pth ls L s r ks/\ks.length=j:=by
 induction h with
 |root=>exact⟨[],.root,rfl⟩
 |step O G _ C =>
  obtain⟨ks,p,e⟩:=C;exact⟨_::ks,.step O G p,by rw[Hk,e]⟩
theorem Pth.up{s r:Nat}{ks:List Nat}(h:Pth ls L s r ks):Up ls L s ks.length r:=by
 induction h with
 |root=>exact .root
 |step O G _ C=>exact .step O G C
def lkA(ls:List Lk)(k:Nat):Lk:=ls.getD k (0,0,0)
theorem lkA_is{k:Nat}{l:Lk}(h:ls[k]?=some l):lkA ls k=l:=by unfold lkA;rw[Hg,h];rfl
def endX(l:Lk):Nat:=2^l.1^^^2^l.2.1
def oddE(ls:List Lk)(u:Nat):Nat->Nat
 |0=>0
 |i+1=>if u.testBit i=true then oddE ls u i^^^endX (lkA ls i) else oddE ls u i
def cstU(ls:List Lk)(u:Nat):Nat->Int
 |0=>0
 |i+1=>if u.testBit i=true then cstU ls u i+(lkA ls i).2.2 else cstU ls u i
theorem pD(x a:Nat):(bl (x^^^2^a)).Perm (tog (bl x) a):=by
 refine(Jc (bl_nd _) (tog_nd (bl_nd x) a)).mpr λy=>?_;rw[F0 (bl_nd x),mem_bl,Ie,HF,mem_bl,mem_bl];by_cases c:y=a
 .subst c
  cases x.testBit y<;>simp
 .have C:¬ a=y:=λz=>c z.symm
  cases x.testBit y<;>simp[c,C]
theorem low_join{n:Nat}{d:Nat->Nat->Int}(M:Met n d){ls:List Lk}(u:Nat)(hl:∀ l∈ls,l.1<n/\l.2.1<n/\d l.1 l.2.1<=l.2.2):∀ i,i<=ls.length->oddE ls u i<2^n/\∃ c,Cs d (bl (oddE ls u i)) c/\c<=cstU ls u i
 |0,_=>⟨Io n,0,by show Cs d (bl 0) 0;rw[rL];exact Opt.nil.1,II _⟩
 |i+1,h=>by
  obtain⟨J,c,Y,A⟩:=low_join M u hl i ∅
  unfold oddE cstU;by_cases b:u.testBit i=true
  .rw[Np b,Np b];obtain⟨l,e⟩:∃ l,ls[i]?=some l:=⟨_,GU ∅⟩
   obtain⟨Q,f,j⟩:=hl l (GW e);rw[lkA_is e];have G:oddE ls u i^^^endX l=oddE ls u i^^^2^l.1^^^2^l.2.1:=by unfold endX;rw[HQ]
   rw[G];refine⟨IG (IG J (HZ (by decide) Q)) (HZ (by decide) f),?_⟩
   obtain⟨C,N,v⟩:=Y.two M (bl_nd _) (λx O=>oI J O) Q f;refine⟨C,N.perm ?_,∅⟩
   exact((pD _ _).trans (xt (pD _ _) _)).symm
  .rw[Nq b,Nq b];exact⟨J,c,Y,A⟩
theorem oddE_xor(ls:List Lk)(u v:Nat):∀ i,oddE ls (u^^^v) i=oddE ls u i^^^oddE ls v i
 |0=>(Jf 0).symm
 |i+1=>by
  unfold oddE;rw[oddE_xor ls u v i,Ie];have c:∀ a b e:Nat,(a^^^e)^^^(b^^^e)=a^^^b:=λa b e=>by rw[JS b e,← HQ,HQ a e e,Jf,IS]
  cases u.testBit i<;>cases v.testBit i<;>simp
  .rw[HQ]
  .rw[HQ,HQ,JS (oddE ls v i)]
  .exact(c _ _ _).symm
theorem rG(ls:List Lk)(hw:∀ l∈ls,0<=l.2.2)(u v:Nat):∀ i,i<=ls.length->cstU ls (u^^^v) i<=cstU ls u i+cstU ls v i
 |0,_=>II _
 |i+1,h=>by
  have C:=rG ls hw u v i ∅
  obtain⟨l,e⟩:∃ l,ls[i]?=some l:=⟨_,GU ∅⟩
  have E:=hw l (GW e);unfold cstU;rw[Ie,lkA_is e]
  cases u.testBit i<;>cases v.testBit i<;>simp<;>omega
inductive Wk(ls:List Lk):Nat->Nat->Int->Prop where
 |nil (a:Nat):Wk ls a a 0
 |step {a b i:Nat} {x:Int} {l:Lk} (h:Wk ls a b x) (hl:ls[i]?=some l) (he:mh l b):Wk ls a (bey l b) (x+l.2.2)
theorem Wk.trans{a b c:Nat}{x y:Int}(h:Wk ls a b x)(g:Wk ls b c y):Wk ls a c (x+y):=by
 induction g with
 |nil=>rw[Int.add_zero];exact h
 |step _ G n C =>
  rw[← Int.add_assoc];exact .step C G n
theorem Wk.link{a:Nat}{l:Lk}(hl:ls[i]?=some l)(n:mh l a):Wk ls a (bey l a) l.2.2:=by
 have:=Wk.step (.nil a) hl n;rw[Ir]at this;exact this
theorem Wk.rev{a b:Nat}{x:Int}(h:Wk ls a b x):Wk ls b a x:=by
 induction h with
 |nil=>exact .nil _
 | @step b i x l h G n C =>
  have g:=Wk.link G (rN n);rw[oh n]at g;rw[Int.add_comm];exact g.trans C
theorem Wk.nn(hw:∀ l∈ls,0<=l.2.2){a b:Nat}{x:Int}(h:Wk ls a b x):0<=x:=by
 induction h with
 |nil=>exact II _
 |step _ G _ C=>have:=hw _ (GW G);omega
theorem Wk.rel{s:Nat}(I:FI n ls s M T L [] (λ_ _=>False)){a b:Nat}{x:Int}(h:Wk ls a b x):∀ y,T[a]?=some (some y)->∃ z,T[b]?=some (some z)/\z<=y+x:=by
 induction h with
 |nil=>intro y Q;exact⟨y,Q,∅⟩
 | @step b i x l h G c C =>
  intro y Q;obtain⟨z,J,Y⟩:=C y Q;rcases I.rl b z i l J (by simp) G c with q|⟨r,A,N⟩
  .exact q.elim
  .exact⟨r,A,∅⟩
theorem Up.wk{s:Nat}(I:FI n ls s M T L [] (λ_ _=>False)){r:Nat}(h:Up ls L s j r):∀ x,T[r]?=some (some x)->Wk ls s r x:=by
 induction h with
 |root=>intro x O;rw[I.st]at O;cases O;exact .nil _
 | @step j r k l p G h C =>
  intro x O;obtain⟨A,H,y,f,E,u,B,q⟩:=I.even p;rw[G]at f;cases f;rw[O]at u;cases u;have g:=Wk.step (C y B) G (rN E);rw[oh E,q]at g;exact g
theorem vz{P:Nat->Prop}(h:∃ n,P n):∃ n,P n/\∀ m,P m->n<=m:=by
 obtain⟨n,T⟩:=h;induction n using Lp with
 |ind n C =>
  by_cases c:∃ m,m<n/\P m
  .obtain⟨m,J,Y⟩:=c;exact C m J Y
  .exact⟨n,T,λm y=>KA λz=>c ⟨m,z,y⟩⟩
open Classical in
noncomputable def farD (ls:List Lk) (a b:Nat):Int:=if h:∃ x:Nat,Wk ls a b (x:Int) then((Classical.choose (vz h):Nat):Int) else 0
theorem kR(hw:∀ l∈ls,0<=l.2.2){a b:Nat}{x:Int}(h:Wk ls a b x):Wk ls a b (farD ls a b)/\∀ y,Wk ls a b y->farD ls a b<=y:=by
 have p:=h.nn hw;have G:∃ x:Nat,Wk ls a b (x:Int):=⟨x.toNat,by rw[IM p];exact h⟩
 have e:farD ls a b=((Classical.choose (vz G):Nat):Int):=by unfold farD;rw[dif_pos G]
 obtain⟨c1,c2⟩:=KP (vz G);rw[e];refine⟨c1,λy Q=>?_⟩;have d:=Q.nn hw;have:=c2 y.toNat (by rw[IM d];exact Q)
 omega
theorem Bu(ls:List Lk)(a b:Nat):farD ls a b=farD ls b a:=by
 have e:∀ x:Nat,Wk ls a b (x:Int)=Wk ls b a (x:Int):=λx=>propext ⟨Wk.rev,Wk.rev⟩;have E:(λx:Nat=>Wk ls a b (x:Int))=λx:Nat=>Wk ls b a (x:Int):=funext e;unfold farD;by_cases h:∃ x:Nat,Wk ls a b (x:Int)
 .have T:∃ x:Nat,Wk ls b a (x:Int):=h.imp λx z=>z.rev
  rw[dif_pos h,dif_pos T];have c1:=KP (vz h);have c2:=KP (vz T);have Q:=c1.2 _ c2.1.rev;have O:=c2.2 _ c1.1.rev;omega
 .have T:¬ ∃ x:Nat,Wk ls b a (x:Int):=λz=>h (z.imp λx y=>y.rev)
  rw[dif_neg h,dif_neg T]
def Conn(n:Nat)(ls:List Lk):Prop:=∀ b,b<n->∃ x,Wk ls 0 b x
theorem Conn.two(h:Conn n ls){a b:Nat}(G:a<n)(L:b<n):∃ x,Wk ls a b x:=by
 obtain⟨x,O⟩:=h a G;obtain⟨y,Q⟩:=h b L;exact⟨_,O.rev.trans Q⟩
theorem far_met(hw:∀ l∈ls,0<=l.2.2)(C:Conn n ls):Met n (farD ls) where
 sy:=Bu ls
 nn:=λa b=>by
  unfold farD;split
  .omega
  .exact II _
 tr:=λa b c G L d=>by
  obtain⟨x,O⟩:=C.two G L;obtain⟨y,Q⟩:=C.two L d;exact(kR hw (O.trans Q)).2 _ ((kR hw O).1.trans (kR hw Q).1)
theorem far_link(hw:∀ l∈ls,0<=l.2.2){l:Lk}(hl:l∈ls):farD ls l.1 l.2.1<=l.2.2:=by
 obtain⟨i,I,e⟩:=Im hl;have g:=Wk.link (ls:=ls) (i:=i) (l:=l) (a:=l.1) (by rw[GU I,e]) (.inl rfl)
 have b1:bey l l.1=l.2.1:=by unfold bey;rw[Np rfl]
 rw[b1]at g;exact(kR hw g).2 _ g
theorem FI.is{s:Nat}(I:FI n ls s M T L [] (λ_ _=>False))(C:Conn n ls)(y:s<n){r:Nat}(N:r<n):T[r]?=some (some (farD ls s r)):=by
 have b:∀ l∈ls,0<=l.2.2:=λl G=>(I.w0 l G).1;obtain⟨x,O⟩:=C.two y N;obtain⟨z,J,Y⟩:=O.rel I 0 I.st;obtain⟨j,u⟩:=I.up r z J;have c:=u.wk I z J;obtain⟨p,f⟩:=kR b O;obtain⟨o,A,a⟩:=p.rel I 0 I.st;rw[J]at A;cases A;have:=f z c;have e:z=farD ls s r:=by omega
 rw[← e];exact J
def gs(ks:List Nat):Nat:=ks.foldl (λm k=>m|||2^k) 0
theorem ig(ks:List Nat)(i:Nat):(gs ks).testBit i=decide (i∈ks):=by
 have d:∀(ks:List Nat)(m:Nat),(ks.foldl (λm k=>m|||2^k) m).testBit i=(m.testBit i||decide (i∈ks)):=by
  intro ks;induction ks with
  |nil=>intro m;simp
  |cons k ks C =>
   intro m;rw[KO,C,Jt,HF];by_cases c:k=i
   .subst c;simp
   .have O:¬ i=k:=λz=>c z.symm
    simp[c,O]
 unfold gs;rw[d];simp
theorem oddE_pow(ls:List Lk)(k:Nat):∀ i,oddE ls (2^k) i=if k<i then endX (lkA ls k) else 0
 |0=>by rw[Nq (Iw _)];rfl
 |i+1=>by
  unfold oddE;rw[oddE_pow ls k i,HF];by_cases c:k=i
  .subst c;rw[Np (by simp),Nq (Ia _),Np (HK _),Nat.zero_xor]
  .rw[Nq (by simpa using c)]
   by_cases d:k<i
   .rw[Np d,Np ∅]
   .rw[Nq d,Nq ∅]
theorem ym(ls:List Lk)(k:Nat):∀ i,cstU ls (2^k) i=if k<i then(lkA ls k).2.2 else 0
 |0=>by rw[Nq (Iw _)];rfl
 |i+1=>by
  unfold cstU;rw[ym ls k i,HF];by_cases c:k=i
  .subst c;rw[Np (by simp),Nq (Ia _),Np (HK _),Ir]
  .rw[Nq (by simpa using c)]
   by_cases d:k<i
   .rw[Np d,Np ∅]
   .rw[Nq d,Nq ∅]
theorem nz(ls:List Lk):∀ i,oddE ls 0 i=0
 |0=>rfl
 |i+1=>by unfold oddE;rw[Ii,Nq Hj];exact nz ls i
theorem nY(ls:List Lk):∀ i,cstU ls 0 i=0
 |0=>rfl
 |i+1=>by unfold cstU;rw[Ii,Nq Hj];exact nY ls i
theorem Pth.node{s r:Nat}{ks:List Nat}(h:Pth ls L s r ks):∀ k∈ks,∃ q j,L[q]?=some (some k)/\Up ls L s j q/\j<=ks.length:=by
 induction h with
 |root=>intro k D;cases D
 | @step r k l ks O G h C =>
  intro B D;rcases G6.mp D with rfl|D
  .exact⟨r,_,O,.step O G h.up,G0 _⟩
  .obtain⟨q,j,J,Y,A⟩:=C B D;exact⟨q,j,J,Y,by rw[Hk];omega⟩
theorem Pth.join{s:Nat}(I:FI n ls s M T L [] (λ_ _=>False)){r:Nat}{ks:List Nat}(h:Pth ls L s r ks):
  (∀ k∈ks,k<ls.length)/\oddE ls (gs ks) ls.length=2^s^^^2^r/\∀ x,T[r]?=some (some x)->cstU ls (gs ks) ls.length<=x:=by
 induction h with
 |root =>
  refine⟨(λk D=>nomatch D),?_,λx O=>?_⟩
  .show oddE ls 0 ls.length=_;rw[nz,Jf]
  .rw[I.st]at O;cases O;show cstU ls 0 ls.length<=0;rw[nY];exact II _
 | @step r k l ks p G h C =>
  obtain⟨o,J,Y⟩:=C;obtain⟨m,x,y,f,E,u,B,e5⟩:=I.even p;rw[G]at f;cases f;have d:k<ls.length:=(GV.mp G).1;have me:Up ls L s (ks.length+1) r:=.step p G h.up;have nk:k∉ks:=λz=>by
   obtain⟨q,j,N,v,e⟩:=h.node k z;obtain⟨b,_,_,A,Q,_⟩:=I.pr q k N;rw[G]at A;cases A;have qr:q≠r:=λw=>by
    subst w;have:=Up.uniq I.vs me v;omega
   have t:bey l q=r:=by
    unfold bey;rcases Q with H|H<;>rcases E with g|g
    .exact Nr (H.trans g.symm) qr
    .rw[Np H];exact g.symm
    .rw[Nq (λw=>qr (w.trans g.symm))];exact g.symm
    .exact Nr (H.trans g.symm) qr
   have:Up ls L s (ks.length+1+1) q:=.step N G (by rw[t];exact me)
   have:=Up.uniq I.vs this v;omega
  have em:gs (k::ks)=gs ks^^^2^k:=Ic λi=>by
   rw[ig,Ie,ig,HF];by_cases c:i=k
   .subst c;simp[nk]
   .have a:¬ k=i:=λz=>c z.symm
    simp[c,a]
  rw[em];refine⟨λk' D=>?_,?_,λx' aa=>?_⟩
  .rcases G6.mp D with rfl|D
   .exact d
   .exact o k' D
  .rw[oddE_xor,J,oddE_pow,Np d,lkA_is G];have ee:endX l=2^bey l r^^^2^r:=by
    unfold endX bey;rcases E with z|z
    .rw[Np z,z,JS]
    .by_cases w:r=l.1
     .rw[Np w,w,JS]
     .rw[Nq w,z]
   rw[ee,← HQ,HQ (2^s),Jf,IS]
  .rw[aa]at u;cases u;have N:=rG ls (λl G=>(I.w0 l G).1) (gs ks) (2^k) ls.length (G0 _);have v:=Y y B;rw[ym,Np d,lkA_is G]at N;omega
def wo(l:Lk):Nat:=2^l.1|||2^l.2.1
def one1(m:Nat)(l:Lk):Nat:=if m&&&wo l=0 then m else m|||wo l
def cJ(ls:List Lk)(m:Nat):Nat:=ls.foldl one1 m
inductive Run(ls:List Lk):Nat->Nat->Nat->Prop where
 |stop {m:Nat}:Run ls m m m
 |go {m a r:Nat} (h:m≠a) (n:Run ls (cJ ls m) m r):Run ls m a r
theorem AK(m:Nat)(l:Lk):m<=one1 m l:=by
 unfold one1;split
 .exact G0 _
 .exact Nat.left_le_or
theorem AJ{l:Lk}(h:m<2^n)(J:l.1<n)(h2:l.2.1<n):one1 m l<2^n:=by
 unfold one1 wo;split
 .exact h
 .exact Kr h (Kr (HZ (by decide) J) (HZ (by decide) h2))
theorem sP{l:Lk}(h:ls[i]?=some l):cJ (ls.take (i+1)) m=one1 (cJ (ls.take i) m) l:=by
 unfold cJ;rw[Hz,h,Ku];rfl
theorem orN(a b:Nat):Mn (a:Int) (b:Int)=((a|||b:Nat):Int):=by
 rw[PyProof.Rows.bitOr_and,andN];have q:=PyProof.Rows.nat_or_add_and a b;omega
theorem endsV(l:Lk):Mn (1*2^((l.1:Nat):Int).toNat) (1*2^((l.2.1:Nat):Int).toNat)=((wo l:Nat):Int):=by rw[shlN,shlN,orN];rfl
def PaAt(H:Hp)(v:V)(l:Lk):Prop:=∃ t,v=.ref t/\H t=some (.tup [.int (l.1:Int),.int (l.2.1:Int)])
theorem tZ(a b:Int):decide (V.int a=V.int b)=decide (a=b):=decide_eq_decide.mpr ⟨V.int.inj,congrArg V.int⟩
inductive spReach(vs:List L2.V)(H:L2.Hp)(Q:L2.VK)(x3_:L2.XK):Prop
 |mk (a:Addr)(ys:List V)(n:Nat)(ls:List Lk) (h0_:vs=[.int 0,.ref a])(h1_:H a=some (.lst ys))(h2_:LsAt PaAt H ys ls)(h3_:Lok n ls)(h4_:1<=n)(h5_:∀ r:Nat,Run ls 1 0 r->Q (.int (r:Int)) H)
inductive spWhl(vs:List L2.V)(H:L2.Hp)(Q:L2.VK)(x3_:L2.XK):Prop
 |mk (v:V)(n:Nat)(ls:List Lk) (h0_:vs=[.int (n:Int),v])(h1_:LnAt H v ls)(h2_:Lok n ls)(h3_:1<=n)(h4_:∀(r:Nat) H',Run ls 1 0 r->Same H H'->Q (.bl (decide ((r:Int)=1*2^((n:Nat):Int).toNat-1))) H')
structure TxtR(mg:Str->Option Value):Prop where
 n_list:mg "list"=none
 n_reversed:mg "reversed"=none
theorem cm:az ["start","pairs","mask","ahead","one","two","ends"] ["start","pairs"] (ar ke):=by ac_nf
def mRz(n:Nat)(σ:St):Nat:=match σ with | [_,_,some (.int M),some (.int a),_,_,_]=>2*((2^n:Nat)-M).toNat+(if M=a then 0 else 1)|_=>0
theorem ok_reached(F:Fun K "reached" "reached" ke f fd):FnOk P w K mg base CX0 1 f fd ["start","pairs"] spReach:=by
 refine F.ok cm (by walk_at "l") λt A u s H o Q E j h=>?_
 obtain⟨a,k,n,Y,rfl,hA,hL,ok,n1,v⟩:=h;have ab:=ok.n1
 refine⟨_,(ah (aB 2 cm.nd (aw bW ai (pv 0)))
   (ah (aB 3 cm.nd ai)
   (ah (eO PassesOwn.never (aD i4 (pv 2) (pv 3) (aG _)) (ah (aB 3 cm.nd (pv 2))
   (ao (bz PassesOwn.never rfl (aV (pv 1)) (oS rfl (aQ (bY 4 cm.nd) (aQ (bY 5 cm.nd) dv))) (ah (aB 6 cm.nd (aw AI (aw bW ai (pv 4)) (aw bW ai (pv 5))))
   (ao (bP (aD i4 (aw lU (pv 2) (pv 6)) ai (aG _)) (ao (aB 2 cm.nd (aw AI (pv 2) (pv 6)))) aO)))))))
   (ao (aF (pv 2)))))),?_⟩
 refine⟨_,rfl,_,_,rfl,rfl,⟨by decide,by decide,by decide⟩,?_⟩
 refine fM (λd L=>∃(M Ah:Nat),∃ v4 v5 v6,L=H/\d=[some (.int 0),some (.ref a),some (.int (M:Int)),some (.int (Ah:Int)),v4,v5,v6]/\M<2^n/\∀ r,Run Y M Ah r->Run Y 1 0 r)
  (λd _=>mRz n d) ⟨1,0,_,_,_,rfl,rfl,Nat.one_lt_two_pow ∅,λr z=>z⟩ ?_ ?_
 .rintro d L ⟨M,Ah,v4,v5,v6,rfl,rfl,hM,run⟩;refine⟨_,rfl,_,rfl,rfl,_,rfl,?_⟩;by_cases C:M=Ah
  .subst C;refine qJ rfl ?_;exact⟨_,rfl,v M (run M .stop)⟩
  refine ite2 (λc=>?_) (λc=>Nr (by rw[tZ,LQ (λz=>C ∅)];rfl) c)
  refine⟨_,rfl,?_⟩;refine⟨_,rfl,a,rfl,⟨_,SqL.of hA⟩,bM (K:=K) (xs:=k) (λi d q=>∃ v4 v5 v6,q=L/\d=[some (.int 0),some (.ref a),some (.int ((cJ (Y.take i) M:Nat):Int)),some (.int (M:Int)),v4,v5,v6]/\cJ (Y.take i) M<2^n/\M<=cJ (Y.take i) M) ⟨_,_,_,rfl,rfl,hM,G0 _⟩ (λi d q _ aa=>by obtain⟨_,_,_,z,_⟩:=aa;rw[z];exact SqL.of hA) ?_ ?_⟩
  .rintro i x d q O ⟨v4,v5,v6,rfl,rfl,ae,al⟩;obtain⟨l,G,p,rfl,g⟩:=hL.get O;obtain⟨b1,b2⟩:=ok.sm l (GW G);refine⟨p,_,rfl,SqT.of g,rfl,_,_,rfl,_,_,rfl,rfl,?_⟩;refine⟨_,rfl,_,_,rfl,rfl,⟨∅,∅,by decide⟩,_,rfl,_,_,rfl,rfl,⟨∅,∅,by decide⟩,_,_,rfl,rfl,?_⟩
   simp only[endsV];refine⟨_,rfl,_,rfl,_,_,rfl,rfl,rfl,_,rfl,?_⟩;have ps:=sP (m:=M) G;have ac:=AJ ae b1 b2;have am:=AK (cJ (Y.take i) M) l;simp only[andN];by_cases z:cJ (Y.take i) M&&&wo l=0
   .refine qJ (by rw[z];rfl) ?_
    have e:one1 (cJ (Y.take i) M) l=cJ (Y.take i) M:=by unfold one1;rw[Np z]
    exact⟨_,_,_,rfl,by rw[ps,e];rfl,by rw[ps];exact ac,by rw[ps];omega⟩
   .refine ite2 (λ_=>?_) (λc=>Nr (by rw[tZ,LQ (λy=>z ∅)];rfl) c)
    have e:one1 (cJ (Y.take i) M) l=cJ (Y.take i) M|||wo l:=by unfold one1;rw[Nq z]
    refine⟨_,rfl,_,rfl,_,_,rfl,rfl,?_⟩;simp only[orN];exact⟨_,_,_,rfl,by rw[ps,e];rfl,by rw[ps];exact ac,by rw[ps];omega⟩
  .rintro d q ⟨v4,v5,v6,rfl,rfl,ae,al⟩;rw[hL.1,HD]at ae al ⊢;refine⟨⟨_,M,_,_,_,rfl,rfl,ae,λr z=>run r (.go C z)⟩,?_⟩;show 2*(((2^n:Nat):Int)-((cJ Y M:Nat):Int)).toNat+(if((cJ Y M:Nat):Int)=(M:Int) then 0 else 1)<2*(((2^n:Nat):Int)-(M:Int)).toNat+(if(M:Int)=(Ah:Int) then 0 else 1);rw[Nq (show ¬ (M:Int)=(Ah:Int) from λz=>C ∅)]
   generalize (2^n:Nat)=N at hM ae;split<;>omega
 .rintro d J Q1 Q2 I ⟨v1,D,v2,B,T,b,e4,q'⟩;exact⟨v1,D,v2,B,T,b,e4,I _ _ q'⟩
theorem CH:az ["many","links"] ["many","links"] (ar pT):=by ac_nf
theorem ok_whl(F:Fun K "whole" "whole" pT f fd)(ab:Cal P w K mg base 1 "reached" ["start","pairs"] spReach q G):FnOk P w K mg base CX0 2 f fd ["many","links"] spWhl:=by
 refine F.ok CH (by walk_at "l") λM A J s H m Q E N h=>?_
 obtain⟨v,n,k,rfl,⟨a,xs,rfl,hA,B⟩,ok,b,y⟩:=h;have ac:=ok.n1;have l9:=ok.l9;have xl:=B.1;refine⟨_,(ao (aF (gn eB (ab.c N (af ai (af (eI [] ["link"] (aV (pv 1)) pg_c pt_c (λC I s H=>(bJ (af (oz K (pv 0) ai) (af (oz K (pv 0) ai) aj))))) aj))) (aw eQ (aw bW ai (pv 0)) ai) (aG _)))),?_⟩;refine⟨_,rfl,a,rfl,⟨_,SqL.of hA⟩,bI (K:=K) (xs:=xs) (λi j L=>Same H L/\LsAt PaAt L j (k.take i)) (Hs (av ∅)) ⟨λ_ _ e=>e,LsAt.nil⟩ (λi j L _ z=>SqL.of (z.1 _ _ hA)) ?_ ?_⟩
 .rintro i x j L O ⟨Y,hZ⟩;obtain⟨l,u,p,rfl,g⟩:=B.get O;have aa:=Y _ _ g;refine⟨_,rfl,p,_,0,_,rfl,rfl,SqT.of aa,a30,_,rfl,p,_,1,_,rfl,rfl,SqT.of aa,a31,(by show 2<=LR;decide),λt T=>?_⟩
  have o:=ak T (.tup [.int (l.1:Int),.int (l.2.1:Int)]);refine⟨Y.trans o,?_⟩;rw[Hz,u];exact(hZ.imp λ_ _ ⟨t,e,z⟩=>⟨t,e,o _ _ z⟩).snoc ⟨t,rfl,ag⟩
 rintro j L _ ⟨Y,hZ⟩ D d;rw[xl,HD]at hZ;have o:=ak d (.lst j);refine⟨D,j,n,k,rfl,ag,hZ.imp λ_ _ ⟨t,e,z⟩=>⟨t,e,o _ _ z⟩,ok,b,λr run=>?_⟩;refine⟨_,rfl,_,_,rfl,rfl,⟨∅,∅,by decide⟩,_,_,rfl,rfl,rfl,?_⟩
 rw[tZ];exact y r _ run (Y.trans o)
structure TxtM(mg:Str->Option Value):Prop where
 most:∃ t,mg "MOST_MARKS"=some (.int 14 t)
theorem Cu{p q:Nat}:(M&&&(2^p|||2^q)=0↔M.testBit p=false/\M.testBit q=false)/\(M|||(2^p|||2^q)=M->M.testBit p=true/\M.testBit q=true):=by
 have b1:∀ i,(2^p|||2^q).testBit i=(decide (p=i)||decide (q=i)):=λi=>by rw[Jt,HF,HF]
 refine⟨⟨λh=>?_,λ⟨J,Y⟩=>?_⟩,λh=>?_⟩
 .have J:=congrArg (λz=>K3 z p) h
  have Y:=congrArg (λz=>K3 z q) h;simp only[JK,b1,Ii]at J Y;constructor
  .simpa using J
  .simpa using Y
 .refine Ic λi=>?_;rw[JK,b1,Ii];by_cases H:p=i
  .subst H;rw[J];rfl
  .by_cases g:q=i
   .subst g;rw[Y];rfl
   .simp[H,g]
 .have J:=congrArg (λz=>K3 z p) h
  have Y:=congrArg (λz=>K3 z q) h;simp only[Jt (x:=M),b1]at J Y;constructor
  .simpa using J.symm
  .simpa using Y.symm
theorem Bs(h:M<2^m)(k:∀ p,p<m->M.testBit p=true):M=2^m-1:=by
 refine Ic λi=>?_;rw[J2];by_cases z:i<m
 .rw[k i z,MB z]
 .rw[LQ z];exact Jv (Hv h (HR (by decide) ∅))
theorem ku{n:Int}(J:Gl X x)(y:∃ t,X.mg x=some (.int n t))(hd:(x == ("__debug__" : Str))=false:=by decide):PE X (.Name x pos) (tC (.int n)):=by
 obtain⟨t,h⟩:=y;exact FD J h ⟨t,rfl⟩ hd
theorem lT:∀ i,m<=cJ (ls.take i) m/\cJ (ls.take i) m<=cJ ls m:=λi=>by
 have y:∀(l:List Lk)(m:Nat),m<=cJ l m:=λl=>by
  induction l with
  |nil=>intro m;exact G0 _
  |cons x l C=>intro m;exact Ig (AK m x) (C _)
 refine⟨y _ _,?_⟩;have e:cJ ls m=cJ (ls.drop i) (cJ (ls.take i) m):=by
  unfold cJ;rw[← Ku,Jx]
 rw[e];exact y _ _
theorem wX{r:Nat}(h:cJ ls r=r){l:Lk}(hl:l∈ls):r.testBit l.1=r.testBit l.2.1:=by
 obtain⟨i,I,e⟩:=Im hl;have u:ls[i]?=some l:=by rw[GU I,e]
 have T:=lT (ls:=ls) (m:=r) i;have A:=lT (ls:=ls) (m:=r) (i+1);have f:cJ (ls.take i) r=r:=by omega
 have E:cJ (ls.take (i+1)) r=r:=by omega
 rw[sP u,f]at E;obtain⟨b1,b2⟩:=Cu (M:=r) (p:=l.1) (q:=l.2.1);unfold one1 wo at E;split at E
 .rename_i c;obtain⟨H,g⟩:=b1.mp c;rw[H,g]
 .obtain⟨H,g⟩:=b2 E;rw[H,g]
theorem Run.shut{a r:Nat}(h:Run ls m a r)(hl:∀ l∈ls,l.1<n/\l.2.1<n):(m=a->cJ ls m=m)->m<2^n->cJ ls r=r/\r<2^n/\(m.testBit 0=true->r.testBit 0=true):=by
 induction h with
 |stop=>intro J Y;exact⟨J rfl,Y,id⟩
 | @go m a r h t C =>
  intro _ Y;have lt:∀(k:List Lk),(∀ l∈k,l.1<n/\l.2.1<n)->∀ m,m<2^n->cJ k m<2^n:=λk=>by
   induction k with
   |nil=>intro _ m y;exact y
   |cons x k b =>
    intro D m y;obtain⟨b1,b2⟩:=D x (G9 ..);exact b (λl hl=>D l (G4 _ hl)) _ (AJ y b1 b2)
  have bit:∀(k:List Lk)(m:Nat),m.testBit 0=true->(cJ k m).testBit 0=true:=λk=>by
   induction k with
   |nil=>intro m y;exact y
   |cons x k b =>
    intro m y;refine b _ ?_;unfold one1;split
    .exact y
    .rw[Jt,y];rfl
  obtain⟨N,v,j⟩:=C (λe=>by rw[e];exact e) (lt ls hl m Y)
  exact⟨N,v,λz=>j (bit ls m z)⟩
theorem run_full{r:Nat}(h:Run ls 1 0 r)(hl:∀ l∈ls,l.1<n/\l.2.1<n)(n1:1<=n)(C:Conn n ls):r=2^n-1:=by
 obtain⟨N,v,j⟩:=h.shut hl (λz=>by cases z) (Nat.one_lt_two_pow ∅)
 refine Bs v λp g=>?_;obtain⟨x,O⟩:=C p g;have d:∀{a b:Nat}{x:Int},Wk ls a b x->r.testBit a=r.testBit b:=λh=>by
  induction h with
  |nil=>rfl
  | @step b i x l T c Y A =>
   rw[A];have u:=wX N (GW c);unfold bey;rcases Y with z|z
   .rw[Np z,z];exact u
   .by_cases w:b=l.1
    .rw[Np w,w];exact u
    .rw[Nq w,z];exact u.symm
 rw[← d O];exact j (by decide)
inductive spOnes(vs:List L2.V)(H:L2.Hp)(Q:L2.VK)(x3_:L2.XK):Prop
 |mk (n:Nat) (h0_:vs=[.int (n:Int)])(h1_:n<2^40)(h2_:∀ H',Same H H'->Q (.int (((bl n).length:Nat):Int)) H')
inductive spOdd(vs:List L2.V)(H:L2.Hp)(Q:L2.VK)(x3_:L2.XK):Prop
 |mk (n:Nat) (h0_:vs=[.int (n:Int)])(h1_:n<2^40)(h2_:∀ H',Same H H'->Q (.int (((bl n).length:Nat)%2:Int)) H')
def mY(K:GX):Sp:=λm H Q _=>∃(a:Addr)(r:List Nat),m=[.ref a]/\SqL K H a (r.map iV)/\(∀ k∈r,k<80)/\Q (.int ((gs r:Nat):Int)) H
inductive Fl(vs:List L2.V)(H:L2.Hp)(Q:L2.VK)(x3_:L2.XK):Prop
 |mk (v:V)(n mk:Nat)(ls:List Lk) (h0_:vs=[.int (n:Int),v,.int (mk:Int)])(h1_:LnAt H v ls)(h2_:Lok n ls)(h3_:1<=n)(h4_:Conn n ls)(h5_:mk<2^n)(h6_:(bl mk).length%2=0)(h7_:(bl mk).length<=14)(h8_:∀ H',Same H H'->Q .non H')
theorem Fs:az ["mask"] ["mask"] (ar xF):=by ac_nf
theorem ok_ones(F:Fun K "ones" "ones" xF f fd)(T:Txt mg)(g:Cal P w K mg base 1 "bits" ["mask"] lP a G):FnOk P w K mg base CX0 2 f fd ["mask"] spOnes:=by
 refine F.ok Fs (by walk_at "l") λM A u s H m Q E N h=>?_
 obtain⟨n,rfl,i,y⟩:=h;have d:(2:Nat)^40=1099511627776:=by decide
 refine⟨_,(ao (aF (aC ax (by rfl) T.n_len a9 (af (g.c N (af (pv 0) aj)) aj)))),?_⟩
 refine⟨_,rfl,_,rfl,∅,∅,λr Y j _ b=>?_⟩
 refine⟨r,_,rfl,.inl (SqL.of b),?_⟩;rw[GY,G8];exact y _ j
theorem sc_odd:az ["mask"] ["mask"] (ar CJ):=by ac_nf
theorem ok_odd(F:Fun K "odd" "odd" CJ f fd)(x:Cal P w K mg base 2 "ones" ["mask"] spOnes a G):FnOk P w K mg base CX0 3 f fd ["mask"] spOdd:=by
 refine F.ok sc_odd (by walk_at "l") λM A u s H m Q E N h=>?_
 obtain⟨n,rfl,T,y⟩:=h;refine⟨_,(ao (aF (aw bq (x.c N (af (pv 0) aj)) ai))),?_⟩;exact⟨_,rfl,n,rfl,T,λY j=>⟨_,_,rfl,rfl,(by show(0:Int)<2;decide),y _ j⟩⟩
theorem iK:az ["places","mask","place"] ["places"] (ar kf):=by ac_nf
theorem ok_mask(F:Fun K "mask_of" "mask_of" kf f fd):FnOk P w K mg base CX0 1 f fd ["places"] (mY K):=by
 refine F.ok iK (by walk_at "l") λt A u s H m Q E N h=>?_
 obtain⟨a,r,rfl,I,b,q⟩:=h
 refine⟨_,(ah (aB 1 iK.nd ai)
   (ah (bz PassesOwn.never rfl (aV (pv 0)) (bY 2 iK.nd) (ao (aB 1 iK.nd (aw AI (pv 1) (aw bW ai (pv 2))))))
   (ao (aF (pv 1))))),?_⟩
 refine⟨_,rfl,a,rfl,⟨_,I⟩,bM (K:=K) (xs:=r.map iV) (λi M L=>∃ d,M=[some (.ref a),some (.int ((gs (r.take i):Nat):Int)),d]/\L=H) ⟨_,rfl,rfl⟩ (λi M L _ ⟨_,_,z⟩=>by rw[z];exact I) ?_ ?_⟩
 .rintro i x M L O ⟨d,rfl,rfl⟩;rw[G7]at O;obtain⟨k,D,rfl⟩:=Ho.mp O;have j:=b k (GW D);refine⟨_,rfl,_,rfl,_,_,rfl,rfl,⟨by show(0:Int)<=(k:Int);omega,by show(k:Int)<=1000000;omega,by decide⟩,_,_,rfl,rfl,?_⟩
  have e:Mn ((gs (r.take i):Nat):Int) (1*2^((k:Nat):Int).toNat)=((gs (r.take (i+1)):Nat):Int):=by
   rw[shlN,orN];unfold gs;rw[Hz,D,Ku];rfl
  simp only[e];exact⟨_,rfl,rfl⟩
 .rintro M L ⟨d,rfl,rfl⟩;rw[GY,HD];exact⟨_,rfl,q⟩
theorem m6:az ["many","links","marks"] ["many","links","marks"] (ar de):=by ac_nf
theorem ok_ref{I:FuncData}(F:Fun K "refuse_marks" "refuse_marks" de f fd)(T:TxtM mg)(ab:Cal P w K mg base 3 "odd" ["mask"] spOdd a G)(aa:Cal P w K mg base 2 "whole" ["many","links"] spWhl p Y)(x:Cal P w K mg base 2 "ones" ["mask"] spOnes C I):FnOk P w K mg base CX0 4 f fd ["many","links","marks"] Fl:=by
 refine F.ok m6 (by walk_at "l") λM A u s H m Q E N h=>?_
 obtain⟨v,n,mk,k,rfl,O,ok,i,g,l,D,b,y⟩:=h;have e:=ok.n1;have B:mk<2^40:=Hv l (HR (by decide) e)
 obtain⟨tM,hM⟩:=T.most
 refine⟨_,(ah (bP (aD eB (ab.c N (af (pv 2) aj)) ai (aG _)) (ao b9) aO)
   (ah (bP (Ar (oQ (aa.c N (af (pv 0) (af (pv 1) aj))))) (ao b9) aO)
   (ao (bP (aD vh (x.c N (af (pv 2) aj)) (ku rfl T.most) (aG _)) (ao b9) aO)))),?_⟩
 refine⟨_,rfl,mk,rfl,B,λd j=>?_⟩;refine⟨rfl,_,rfl,ite2 (λz=>Nr (V.int.inj (Nf z)) ∅) (λ_=>?_)⟩
 refine⟨_,rfl,_,rfl,v,n,k,rfl,O.mono j,ok,i,λr L run J=>?_⟩;have er:=run_full run ok.sm i g
 have t:decide ((r:Int)=1*2^((n:Nat):Int).toNat-1)=true:=MB (by
  rw[shlN,er];have:=Io n
  omega)
 rw[t];refine⟨_,rfl,iteF ?_⟩;refine⟨_,rfl,mk,rfl,B,λq o=>?_⟩;refine⟨_,_,rfl,rfl,_,rfl,ite2 (λz=>Nr (Nf z) (by show ¬ (((bl mk).length:Nat):Int) > 14;omega)) (λ_=>?_)⟩
 exact y _ (j.trans (J.trans o))
inductive spRow(vs:List L2.V)(H:L2.Hp)(Q:L2.VK)(x3_:L2.XK):Prop
 |mk (v:V)(va:Addr)(r s:Nat)(ls:List Lk)(VL:List (Option Nat))(ks:List Nat) (h0_:vs=[v,.ref va,.int (r:Int)])(h1_:LnAt H v ls)(h2_:H va=some (.lst (VL.map oN)))(h3_:VL[s]?=some none)(h4_:Pth ls VL s r ks)(h5_:ks.length<=40)(h6_:∀ q H',Same H H'->H' q=some (.lst (ks.reverse.map iV))->Q (.ref q) H')
theorem jZ:az ["links","via","room","back","here"] ["links","via","room"] (ar mB):=by ac_nf
theorem ok_row(F:Fun K "row_to" "row_to" mB f fd)(T:TxtR mg)(ae:Cal P w K mg base 1 "beyond" ["link","room"] Fn p G):FnOk P w K mg base CX0 2 f fd ["links","via","room"] spRow:=by
 refine F.ok jZ (by walk_at "l") λt A J s H m Q E N h=>?_
 obtain⟨v,va,r,s0,ls,VL,n,rfl,⟨a,D,rfl,hA,hL⟩,ab,al,hP,aW,y⟩:=h
 refine⟨_,(ah (aB 3 jZ.nd (bV aj))
   (ah (aB 4 jZ.nd (pv 2))
   (ah (eO PassesOwn.never (aD FG (aR (pv 1) (pv 4)) oW (aG _)) (ah (aU (cY Hh Hy Hx aY (pv 3) (af (aR (pv 1) (pv 4)) aj)))
   (ao (aB 4 jZ.nd (ae.c N (af (aR (pv 0) (aR (pv 1) (pv 4))) (af (pv 4) aj)))))))
   (ao (aF (sN rfl rfl T.n_list rfl T.n_reversed (pv 3))))))),?_⟩
 refine⟨(by show 0<=LR;decide),λl u=>?_⟩
 have lv:l≠va:=λz=>by rw[z,ab]at u;cases u
 refine⟨_,rfl,fM (λM L=>∃(am:Nat)(ac rest:List Nat),M=[some (.ref a),some (.ref va),some (.int (r:Int)),some (.ref l),some (.int (am:Int))]/\L l=some (.lst (ac.map iV))/\ac++rest=n/\Pth ls VL s0 am rest/\Same H L)
  (λ_ L=>match L l with|some (.lst B)=>100-B.length|_=>0) ⟨r,[],n,rfl,ag,rfl,hP,ak u _⟩ ?_ ?_⟩
 .rintro M L ⟨am,ac,rest,rfl,g,aS,C,Y⟩;have aa:ac.length+rest.length<=40:=by
   have:=congrArg List.length aS;rw[GZ]at this;omega
  have aI:=Y _ _ ab
  cases C with
  |root =>
   refine⟨_,rfl,_,rfl,va,_,_,_,rfl,rfl,SqL.of aI,ay (Dm al),rfl,_,rfl,iteF ?_⟩;rw[Kd]at aS;subst aS;refine⟨_,rfl,l,_,rfl,SqL.of g,λq x=>?_⟩;refine y q _ (Y.trans (ak x _)) ?_;rw[ag,List.map_reverse]
  | @step _ k lk aT O ap an =>
   obtain⟨a0,aL,lt,rfl,d⟩:=hL.2 k lk ap;refine⟨_,rfl,_,rfl,va,_,_,_,rfl,rfl,SqL.of aI,ay (Dm O),rfl,_,rfl,iteT ?_⟩;rw[Hk]at aa;refine⟨_,rfl,.inl ⟨rfl,_,SqL.of g⟩,_,rfl,_,rfl,va,_,_,_,rfl,rfl,SqL.of aI,ay (Dm O),l,_,_,rfl,rfl,g,av (by rw[GY];omega),?_⟩
   have o:=aH Y u (.lst (ac.map iV++[.int (k:Int)]));refine⟨_,rfl,_,rfl,_,rfl,va,_,_,_,rfl,rfl,SqL.of (o _ _ ab),ay (Dm O),a,_,_,_,rfl,rfl,SqL.of (o _ _ hA),ay aL,_,rfl,.ref lt,lk,am,rfl,⟨lt,rfl,o _ _ d⟩,?_⟩;refine⟨⟨bey lk am,ac++[k],aT,rfl,?_,?_,an,o⟩,?_⟩
   .rw[ag,Hm];rfl
   .rw[JP];exact aS
   .rw[g];show(match(upd L l (.lst (ac.map iV++[.int (k:Int)]))) l with|some (.lst B)=>100-B.length|_=>0)<100-(ac.map iV).length
    rw[ag];show 100-(ac.map iV++[V.int (k:Int)]).length<100-(ac.map iV).length;rw[GZ,GY,Hd];omega
 .rintro M L Q1 Q2 I ⟨v',e,i,j,a',b',b,d',f',g',h',i',j',k',l',q⟩;exact⟨v',e,i,j,a',b',b,d',f',g',h',i',j',k',l',I _ _ q⟩
def RM(rho:Nat->Nat)(c:Nat):Nat->Nat
 |0=>0
 |i+1=>if c.testBit i=true then RM rho c i^^^2^rho i else RM rho c i
theorem Ci(rho:Nat->Nat)(u v:Nat):∀ i,RM rho (u^^^v) i=RM rho u i^^^RM rho v i
 |0=>(Jf 0).symm
 |i+1=>by
  unfold RM;rw[Ci rho u v i,Ie];have c:∀ a b e:Nat,(a^^^e)^^^(b^^^e)=a^^^b:=λa b e=>by rw[JS b e,← HQ,HQ a e e,Jf,IS]
  cases u.testBit i<;>cases v.testBit i<;>simp
  .rw[HQ]
  .rw[HQ,HQ,JS (RM rho v i)]
  .exact(c _ _ _).symm
theorem Cj(rho:Nat->Nat)(k:Nat):∀ i,RM rho (2^k) i=if k<i then 2^rho k else 0
 |0=>by rw[Nq (Iw _)];rfl
 |i+1=>by
  unfold RM;rw[Cj rho k i,HF];by_cases c:k=i
  .subst c;rw[Np (by simp),Nq (Ia _),Np (HK _),Nat.zero_xor]
  .rw[Nq (by simpa using c)]
   by_cases d:k<i
   .rw[Np d,Np ∅]
   .rw[Nq d,Nq ∅]
theorem Cg(rho:Nat->Nat):∀ i,RM rho 0 i=0
 |0=>rfl
 |i+1=>by unfold RM;rw[Ii,Nq Hj];exact Cg rho i
theorem Ck{l:List Nat}(nd:l.Nodup)(x:Nat):∀ i,i<=l.length->(RM (λi=>l.getD i 0) (2^l.length-1) i).testBit x=decide (x∈l.take i)
 |0,_=>by rw[KY];show(0:Nat).testBit x=_;rw[Ii];simp
 |i+1,h=>by
  unfold RM;rw[Np (by rw[J2];exact MB ∅),Ie,Ck nd x i ∅,HF]
  have e:l[i]?=some l[i]:=GU ∅
  have b:l.getD i 0=l[i]:=by rw[Hg,e];rfl
  rw[b];have C:l[i]∉l.take i:=λz=>by
   obtain⟨k,D,G⟩:=Im z;rw[HY]at D;rw[List.getElem_take]at G;have:=(List.getElem_inj nd).mp G;omega
  have a:x∈l.take (i+1)↔(x∈l.take i∨x=l[i]):=by
   rw[Hz,e];exact Hc.trans (or_congr Iff.rfl Hi)
  by_cases c:x=l[i]
  .rw[LQ (λz=>C (c▸z)),MB c.symm,MB (a.mpr (.inr c))];rfl
  .rw[LQ (show ¬ l[i]=x from λz=>c z.symm),Ju];exact decide_eq_decide.mpr ⟨λh=>a.mpr (.inl h),λh=>(a.mp h).resolve_right c⟩
theorem RM_all(mk:Nat):RM (λi=>(bl mk).getD i 0) (2^(bl mk).length-1) (bl mk).length=mk:=Ic λx=>by
 rw[Ck (bl_nd mk) x _ (G0 _),HD]
 cases z:mk.testBit x with
 |true=>exact MB (mem_bl.mpr z)
 |false=>exact LQ λy=>by rw[mem_bl,z]at y;cases y
theorem B0{c f g:Nat}(l:f∈bl c)(J:g∈bl c)(n:f≠g):cut2 c f g<c:=by
 have sub:cut2 c f g&&&c=cut2 c f g:=Ic λi=>by
  rw[JK]
  cases z:(cut2 c f g).testBit i with
  |false=>rfl
  |true =>
   have:=(mS l J n i).mp (mem_bl.mpr z);rw[mem_bl.mp this.1];rfl
 have y:cut2 c f g<=c:=by rw[← sub];exact Nat.and_le_right
 have ne:cut2 c f g≠c:=λz=>by
  have:=(mS l J n f).mp (by rw[z];exact l)
  exact this.2.1 rfl
 omega
theorem Cs.map{d:Nat->Nat->Int}{rho:Nat->Nat}{l:List Nat}{c:Int}(h:Cs (λi j=>d (rho i) (rho j)) l c):Cs d (l.map rho) c:=by
 obtain⟨k,p,e⟩:=h;refine⟨k.map λq=>(rho q.1,rho q.2),?_,?_⟩
 .have a:∀ k:List (Nat×Nat),flat (k.map λq=>(rho q.1,rho q.2))=(flat k).map rho:=λk=>by
   induction k with
   |nil=>rfl
   |cons q r C=>rw[Hu,flat_cons,flat_cons,C,Hu,Hu]
  rw[a];exact p.map rho
 .rw[← e];unfold cst;rw[Jh];rfl
theorem Cs.back{d:Nat->Nat->Int}{rho ix:Nat->Nat}{c:Int}(hi:∀ i∈l,ix (rho i)=i)(h:Cs d (l.map rho) c):Cs (λi j=>d (rho i) (rho j)) l c:=by
 obtain⟨PL,p,e⟩:=h;have mem:∀ x∈flat PL,rho (ix x)=x:=λx O=>by
  obtain⟨i,u,rfl⟩:=HS.mp (p.mem_iff.mp O);rw[hi i u]
 refine⟨PL.map λq=>(ix q.1,ix q.2),?_,?_⟩
 .have a:∀ PL:List (Nat×Nat),flat (PL.map λq=>(ix q.1,ix q.2))=(flat PL).map ix:=λPL=>by
   induction PL with
   |nil=>rfl
   |cons q r C=>rw[Hu,flat_cons,flat_cons,C,Hu,Hu]
  rw[a];refine(p.map ix).trans ?_;rw[Jh];have:l.map (ix∘rho)=l:=by
   conv=>rhs;rw[← List.map_id l]
   exact Jm λi u=>hi i u
  rw[this]
 .rw[← e];unfold cst;rw[Jh];refine congrArg List.sum (Jm λq g=>?_);have t:q.1∈flat PL:=by
   unfold flat;exact List.mem_flatMap.mpr ⟨q,g,G9 ..⟩
  have D:q.2∈flat PL:=by
   unfold flat;exact List.mem_flatMap.mpr ⟨q,g,G4 _ (G9 ..)⟩
  show d (rho (ix q.1)) (rho (ix q.2))=d q.1 q.2;rw[mem _ t,mem _ D]
theorem xc(m:Nat):(bl (2^m-1)).Perm (Ik m):=by
 refine(Jc (bl_nd _) (List.nodup_range)).mpr λx=>?_;rw[mem_bl,J2,IZ,decide_eq_true_iff]
theorem Opt.rooms{d:Nat->Nat->Int}(nd:l.Nodup){t:Int}(h:Opt (λi j=>d (l.getD i 0) (l.getD j 0)) (bl (2^l.length-1)) t):Opt d l t:=by
 have T:=h.perm (xc l.length);have em:(Ik l.length).map (λi=>l.getD i 0)=l:=by
  refine List.ext_getElem (by rw[GY,ID]) λi J Y=>?_
  rw[List.getElem_map,List.getElem_range,Hg,GU Y];rfl
 have ix:∀ i∈Ik l.length,l.idxOf (l.getD i 0)=i:=λi I=>by
  have u:=IZ.mp I;rw[Hg,GU u];exact nd.idxOf_getElem i u
 refine⟨?_,λc C=>T.2 c (Cs.back (rho:=λi=>l.getD i 0) (ix:=λx=>l.idxOf x) ix (by rw[em];exact C))⟩
 have:=Cs.map (rho:=λi=>l.getD i 0) T.1;rw[em]at this;exact this
inductive pL(vs:List L2.V)(H:L2.Hp)(Q:L2.VK)(x3_:L2.XK):Prop
 |mk (ta r:Addr)(xs vals:List V)(ks:List Nat) (h0_:vs=[.ref ta,.ref r])(h1_:H ta=some (.lst xs))(h2_:H r=some (.lst (ks.map iV)))(h3_:vals.length=ks.length)(h4_:ks.length<=900)(h5_:(∀(i k:Nat),ks[i]?=some k->∃ y,xs[k]?=some y/\vals[i]?=some y))(h6_:∀ q H',Same H H'->H q=none->H' q=some (.lst vals)->Q (.ref q) H')
def uG:Sp:=λm H Q _=>m=[]/\∀ p t l,Same H l->H p=none->l p=some (.dK [(.inl ((0:Nat):Int),.ref t)])->l t=some (.tup [.int 0,.non,.non])->Q (.ref p) l
theorem so:az ["entries","numbers"] ["entries","numbers"] (ar fZ):=by ac_nf
theorem ok_chosen(F:Fun K "chosen_of" "chosen_of" fZ f fd):FnOk P w K mg base CX0 1 f fd ["entries","numbers"] pL:=by
 refine F.ok so (by walk_at "l") λM A u s H m Q E N h=>?_
 obtain⟨l,r,xs,e,a,rfl,d,b,j,o,p,n⟩:=h;refine⟨_,(ao (aF (eI [("entries",0)] ["number"] (aV (pv 1)) pg_c pt_c (λC G s H=>(sO K (pv 1) (pv 0)))))),?_⟩;refine⟨_,rfl,r,rfl,⟨_,SqL.of b⟩,bI (K:=K) (xs:=a.map iV) (λi c L=>L=H/\c=e.take i) (Hs (av (by rw[GY];omega))) ⟨rfl,rfl⟩ (λi c L _ z=>by rw[z.1];exact SqL.of b) ?_ ?_⟩
 .rintro i x c L O ⟨rfl,rfl⟩;rw[G7]at O;obtain⟨k,D,rfl⟩:=Ho.mp O;obtain⟨y,J,Y⟩:=p i k D;refine⟨_,rfl,_,rfl,l,_,_,_,rfl,rfl,SqL.of d,ay J,rfl,?_⟩;rw[Hz,Y];rfl
 rintro c L _ ⟨rfl,rfl⟩ q g;rw[GY,← j,HD];exact n q _ (ak g _) g ag
theorem sf:az [] [] (ar fX):=by ac_nf
theorem ok_table(F:Fun K "new_table" "new_table" fX f fd):FnOk P w K mg base CX0 1 f fd [] uG:=by
 refine F.ok sf (λm H Q E h=>?_) (λM A u s H m Q E N h=>?_)
 .rw[h.1];rfl
 obtain⟨rfl,y⟩:=h;refine⟨_,(ao (aF (vd (qj ai (bJ (af ai (af oW (af oW aj)))) uV) rfl rfl (λz=>by cases z) (by decide)))),?_⟩
 intro p g;refine⟨(by show 3<=LR;decide),λt T=>?_⟩
 have a:=ak g (.dK []);have i:=ak T (.tup [.int 0,.non,.non]);have pt:p≠t:=λz=>by rw[← z,ag]at T;cases T
 refine⟨by rw[aq pt];exact ag,[(.inl ((0:Nat):Int),.ref t)],rfl,(by show 1<=15;decide),?_⟩
 refine y p t _ (aH (a.trans i) g _) g ag ?_;rw[aq (Ne.symm pt)];exact ag
def FdAt(n:Nat)(ls:List Lk)(H:Hp)(v:V)(s:Nat):Prop:=∃ t l b y a,v=.ref t/\H t=some (.tup [.ref l,.ref b])/\H l=some (.lst (y.map oV))/\H b=some (.lst (a.map oN))/\FI n ls s MM y a [] (λ_ _=>False)
theorem tb_same{q:Str}{g:Pos}{TT:Addr}(h:Tb q g TT H)(s:Same H H'):Tb q g TT H':=by
 rcases h with y|⟨C,u,A⟩
 .exact .inl (s _ _ y)
 .exact .inr ⟨C,s _ _ u,s _ _ A⟩
theorem tb_ne{q:Str}{g:Pos}{TT:Addr}(h:Tb q g TT H){b:Addr}{o:HO}(e:H b=some o)(n:∀ ps,o≠.tbl ps):b≠TT:=λz=>by
 rw[z]at e;rcases h with y|⟨_,y,_⟩<;>rw[y]at e<;>cases e<;>exact n _ rfl
def SmT(H H':Hp):Prop:=∀ b o,(∀ G,o≠.tbl G)->H b=some o->H' b=some o
theorem SmT.trans(a:SmT H H1)(b:SmT H1 H2):SmT H H2:=λc o n e=>b c o n (a c o n e)
theorem SmT.of(s:Same H H'):SmT H H':=λc o _ e=>s c o e
theorem TbS.smT{q:Str}{g:Pos}{TT:Addr}(s:TbS TT H H')(h:Tb q g TT H):SmT H H':=λb o n e=>s b o (tb_ne h e n) e
theorem SmT.lst{H H':Hp}(s:SmT H H'){b:Addr}{xs:List V}(e:H b=some (.lst xs)):H' b=some (.lst xs):=s _ _ (λG z=>by cases z) e
theorem SmT.tup{H H':Hp}(s:SmT H H'){b:Addr}{xs:List V}(e:H b=some (.tup xs)):H' b=some (.tup xs):=s _ _ (λG z=>by cases z) e
theorem FdAt.mono{s:Nat}(h:FdAt n ls H v s)(sm:SmT H H'):FdAt n ls H' v s:=by
 obtain⟨t,l,b,y,a,e,J,Y,A,M⟩:=h;exact⟨t,l,b,y,a,e,sm.tup J,sm.lst Y,sm.lst A,M⟩
theorem LnAt.smT{r:List Lk}(h:LnAt H v r)(s:SmT H H'):LnAt H' v r:=by
 obtain⟨a,k,e,z,l⟩:=h;exact⟨a,k,e,s.lst z,l.imp λ_ _ ⟨t,e,q⟩=>⟨t,e,s.tup q⟩⟩
def LT(H H':Hp):Prop:=(∀ b D,H b=some (.lst D)->H' b=some (.lst D))/\∀ b D,H b=some (.tup D)->H' b=some (.tup D)
theorem LT.same(s:Same H H'):LT H H':=⟨λ_ _ e=>s _ _ e,λ_ _ e=>s _ _ e⟩
theorem LT.tbS(s:TbS tb H H')(h:H tb=some (.dK kvs)):LT H H':=⟨λb D e=>s _ _ (λz=>by rw[z,h]at e;cases e) e,λb D e=>s _ _ (λz=>by rw[z,h]at e;cases e) e⟩
theorem FdAt.lt{s:Nat}(h:FdAt n ls H v s)(sm:LT H H'):FdAt n ls H' v s:=by
 obtain⟨t,l,b,y,a,e,J,Y,A,M⟩:=h;exact⟨t,l,b,y,a,e,sm.2 _ _ J,sm.1 _ _ Y,sm.1 _ _ A,M⟩
theorem lM.uniq{t t':Int}(h:lM H v t)(h':lM H v t'):t=t':=by
 obtain⟨a,y,z,e,q⟩:=h;obtain⟨d,f,r,u,J⟩:=h';rw[e]at u
 cases u
 rw[q]at J
 cases J
 rfl
theorem Du{ks:List Nat}(h:∀ k∈ks,k<N):gs ks<2^N:=Ji _ λi I=>by
 rw[ig];exact LQ λz=>by have:=h i z;omega
theorem AX(ks:List Nat):gs ks.reverse=gs ks:=Ic λi=>by
 rw[ig,ig];exact decide_eq_decide.mpr Lh
def PrI(v:V)(n mk m N:Nat)(ls:List Lk)(r j e tb:Addr)(kvs:List (Key×V))(t:Int)(H8:Hp)(σ:St)(H:Hp):Prop:=∃(c u:Nat)(d a:Option V)(w:V)(f:Int),σ=[some (.int (n:Int)),some v,some (.int (mk:Int)),some (.ref r),some (.ref j),some (.ref e),some (.ref tb),some (.int (c:Int)),some (.int t),some (.int (u:Int)),d,a]/\Same H8 H/\valV kvs (.inl (c:Int))=some w/\lM H8 w f/\u<2^N/\oddE ls u N=mk^^^RM (λi=>(bl mk).getD i 0) c m/\cstU ls u N<=t-f
inductive spPaired(TT:Addr)(vs:List L2.V)(H:L2.Hp)(Q:L2.VK)(x3_:L2.XK):Prop
 |mk (v:V)(n mk:Nat)(ls:List Lk) (h0_:vs=[.int (n:Int),v,.int (mk:Int)])(h1_:LnAt H v ls)(h2_:Lok n ls)(h3_:1<=n)(h4_:Conn n ls)(h5_:mk<2^n)(h6_:(bl mk).length%2=0)(h7_:(bl mk).length<=14)(h8_:Tb lqF lpF TT H)(h9_:∀(t:Addr)(cost:Int)(u:Nat) H',SmT H H'->Tb lqF lpF TT H'->H' t=some (.tup [.int cost,.int (u:Int)])->u<2^ls.length->oddE ls u ls.length=mk->Opt (farD ls) (bl mk) cost->cstU ls u ls.length<=cost->Q (.ref t) H')
def RwA(ls:List Lk)(mk:Nat)(H:Hp)(v:V)(s:Nat):Prop:=∃ p,v=V.ref p/\H p=some (.lst ((bl mk).map λx=>V.int (farD ls s x)))
noncomputable def dR (ls:List Lk) (mk:Nat) (i j:Nat):Int:=farD ls ((bl mk).getD i 0) ((bl mk).getD j 0)
theorem bF:az ["many","links","marks","rooms","found","between","table","left","cost","used","first","mate"] ["many","links","marks"] (ar mC):=by ac_nf
def mPz(σ:St):Nat:=match σ with | [_,_,_,_,_,_,_,some (.int c),_,_,_,_]=>c.toNat|_=>0
theorem ok_paired{TT f2 f3 f4 f5 f6 f7 f8:Addr}{cc ci cO cP di cQ:FuncData}(F:Fun K "paired" "paired" mC f fd)(T:Txt mg)(aL:Cal P w K mg base 4 "refuse_marks" ["many","links","marks"] Fl I G)(an:Cal P w K mg base 1 "bits" ["mask"] lP f2 Y)(be:Cal P w K mg base 2 "fares" ["many","links","start"] (spFares TT) f3 cc)(aW:Cal P w K mg base 1 "chosen_of" ["entries","numbers"] pL f4 ci)(a0:Cal P w K mg base 1 "new_table" [] uG f5 cO)(GL:∀(D:Nat->Nat->Int)(m:Nat),(∀ a b,D a b=D b a)->Cal P w K mg base 10 "laid_in_pairs" ["between","chosen","table"] (spLaid D m 8) f6 cP)(ap:Cal P w K mg base 1 "mask_of" ["places"] (mY K) f7 di)(ch:Cal P w K mg base 2 "row_to" ["links","via","room"] spRow f8 cQ):FnOk P w K mg base CX0 11 f fd ["many","links","marks"] (spPaired TT):=by
 refine F.ok bF (by walk_at "l") λab A aa s H vs Q E N h=>?_
 obtain⟨v,n,mk,ls,rfl,hV,ok,n1,hc,bd,ev,ac,bB,kk⟩:=h;have hu:=qM N;have ba:=ok.n1;have dm:=ok.l9;have al:=GL (dR ls mk) (bl mk).length (λa b=>Bu _ _ _);have bU:mk<1099511627776:=by
  have J:2^n<=2^40:=HR (by decide) ba
  have cB:(2:Nat)^40=1099511627776:=by decide
  omega
 have bR:∀ x∈bl mk,x<n:=λx O=>oI bd O
 refine⟨_,(ah (aU (aL.c N (af (pv 0) (af (pv 1) (af (pv 2) aj)))))
   (ah (aB 3 bF.nd (an.c N (af (pv 2) aj)))
   (ah (ni 4 [("many",0),("links",1)] ["room"] bF.nd (aV (pv 3)) pg_c pt_c (λC ex s H=>(be.c N (af (pv 1) (af (pv 2) (af (pv 0) aj))))))
   (ah (ni 5 [("rooms",3)] ["told","via"] bF.nd (aV (pv 4)) (λC ex s H=>(jD (n:=2) (K:=K) rfl rfl (aQ (bQ (i:=0) (show(["told","via","rooms"]:List Str).Nodup from by decide) rfl (Or.inl rfl)) (aQ (bQ (i:=1) (show(["told","via","rooms"]:List Str).Nodup from by decide) rfl (Or.inl rfl)) dv)))) pt_c (λC ex s H=>(aW.c N (af (pv 0) (af (pv 2) aj)))))
   (ah (aB 6 bF.nd (a0.d N))
   (ah (aB 7 bF.nd (aw eQ (aw bW ai (aC ax (by rfl) T.n_len a9 (af (pv 3) aj))) ai))
   (ah (aB 8 bF.nd (aJ (al.c N (af (pv 5) (af (pv 7) (af (pv 6) aj)))) ai))
   (ah (aB 9 bF.nd ai)
   (ah (eO PassesOwn.never (aD i4 (pv 7) ai (aG _)) (ah (aB 10 bF.nd (aJ (gm hu (pv 6) (pv 7) (λ_ _=>rfl)) ai))
   (ah (aB 11 bF.nd (aJ (gm hu (pv 6) (pv 7) (λ_ _=>rfl)) ai))
   (ah (aB 9 bF.nd (aw dB (pv 9) (ap.c N (af (ch.c N (af (pv 1) (af (aJ (aR (pv 4) (pv 10)) ai) (af (aR (pv 3) (pv 11)) aj)))) aj))))
   (ao (aB 7 bF.nd (aw dB (aw dB (pv 7) (aw bW ai (pv 10))) (aw bW ai (pv 11)))))))))
   (ao (aF (bJ (af (pv 8) (af (pv 9) aj)))))))))))))),?_⟩
 refine⟨_,rfl,_,rfl,_,rfl,v,n,mk,ls,rfl,hV,ok,n1,hc,bd,ev,ac,λH1 s1=>?_⟩;refine⟨_,rfl,(mk:Int),rfl,∅,∅,λr H2 s2 a7 a6=>?_⟩
 rw[G8]at a6;have am:=s1.trans s2;have ck:=tb_same bB am;have bi:H2 r=some (.lst ((bl mk).map iV)):=a6;have a4:((bl mk).map iV).length=(bl mk).length:=GY ..;refine⟨_,rfl,r,rfl,⟨_,SqL.of bi⟩,fJ (K:=K) (xs:=(bl mk).map iV) (λi zs H3=>SmT H2 H3/\Tb lqF lpF TT H3/\LsAt (FdAt n ls) H3 zs ((bl mk).take i)) (Hs (av ∅)) ⟨λ_ _ _ e=>e,ck,LsAt.nil⟩ (λi zs H3 _ z=>SqL.of (z.1.lst bi)) ?_ ?_ ?_⟩
 .rintro i x zs H3 O ⟨bZ,bm,hZ⟩;rw[G7]at O;obtain⟨k,hk,rfl⟩:=Ho.mp O;refine⟨rfl,yesT ⟨_,rfl,_,rfl,_,rfl,v,n,k,ls,rfl,LnAt.smT (hV.mono am) bZ,ok,bR k (GW hk),bm,λt ta va TL VL H4 bb aT _ _ ht aS a1 fi=>?_⟩⟩;have b6:=TbS.smT bb bm;refine⟨bZ.trans b6,aT,?_⟩;rw[Hz,hk];exact(hZ.imp λ_ _ q=>q.mono b6).snoc ⟨t,ta,va,TL,VL,rfl,ht,aS,a1,fi⟩
 .rintro zs H3 ⟨bZ,bm,hZ⟩ fa ca;rw[a4,HD]at hZ;have z4:=ak ca (.lst zs);have bn:SmT H2 (upd H3 fa (.lst zs)):=bZ.trans (.of z4);have aT:=tb_same bm z4;have b0:LsAt (FdAt n ls) (upd H3 fa (.lst zs)) zs (bl mk):=hZ.imp λ_ _ q=>q.mono (.of z4);have a3:(upd H3 fa (.lst zs)) fa=some (.lst zs):=ag;generalize upd H3 fa (.lst zs)=H4 at bn aT b0 a3;have zl:=b0.1;have bS:=bn.lst bi;refine⟨_,rfl,fa,rfl,⟨_,SqL.of a3⟩,fJ (K:=K) (xs:=zs) (λi ws H5=>Same H4 H5/\LsAt (RwA ls mk) H5 ws ((bl mk).take i)) (Hs (av ∅)) ⟨λ_ _ e=>e,LsAt.nil⟩ (λi ws H5 _ z=>SqL.of (z.1 _ _ a3)) ?_ ?_ ?_⟩
  .rintro i x ws H5 O ⟨s5,hW⟩;obtain⟨s0,bE,t,ta,va,TL,VL,rfl,ht,aS,a1,fi⟩:=b0.get O;have cl:=bR s0 (GW bE);refine⟨t,_,rfl,SqT.of (s5 _ _ ht),rfl,_,_,rfl,_,_,rfl,rfl,rfl,yesT ⟨_,rfl,_,rfl,ta,r,_,(bl mk).map λx=>V.int (farD ls s0 x),bl mk,rfl,s5 _ _ aS,s5 _ _ bS,GY ..,∅,λj k hk=>?_,λq H6 s6 dn hq=>?_⟩⟩
   .refine⟨.int (farD ls s0 k),?_,by rw[G7,hk];rfl⟩
    exact vm (fi.is hc cl (bR k (GW hk)))
   .refine⟨s5.trans s6,?_⟩;rw[Hz,bE];exact(hW.imp λ_ _ ⟨p,e,z⟩=>⟨p,e,s6 _ _ z⟩).snoc ⟨q,rfl,hq⟩
  .rintro ws H5 ⟨s5,hW⟩ bv cT;rw[zl,HD]at hW;have z6:=ak cT (.lst ws);refine⟨rfl,λtb t0 H7 s7 cn a2 b5=>?_⟩;have bp:Same H4 H7:=s5.trans (z6.trans s7);have c5:LsAt (RwA ls mk) H7 ws (bl mk):=hW.imp λ_ _ ⟨p,e,z⟩=>⟨p,e,s7 _ _ (z6 _ _ z)⟩;have co:H7 bv=some (.lst ws):=s7 _ _ ag;have a5:∀ i,i<(bl mk).length->(bl mk)[i]?=some ((bl mk).getD i 0):=λi hi=>by rw[Hg,GU hi];rfl
   have bt:BtAt H7 (.ref bv) (dR ls mk) (bl mk).length:=⟨bv,ws,rfl,co,λi hi=>by
    obtain⟨y,hy,p,rfl,hp⟩:=c5.2 i _ (a5 i hi)
    exact⟨p,_,hy,hp,λk hk=>by rw[G7,a5 k hk];rfl⟩⟩
   have ti:TI H7 (dR ls mk) (bl mk).length [(.inl ((0:Nat):Int),.ref t0)]:=⟨(λk w e=>by
    by_cases c:(Sum.inl ((0:Nat):Int):Key)=k
    .rw[bh c]at e
     cases e
     exact⟨0,c.symm,Io _,.inl ⟨rfl,t0,_,_,rfl,b5⟩⟩
    .rw[bj c]at e
     cases e),⟨_,bh rfl⟩,Hf.mpr ⟨(by simp),IE⟩⟩
   have cp:=bp _ _ bS;have cb:=tb_same aT bp;have eL:(1:Int)*2^((((bl mk).map iV).length:Nat):Int).toNat-1=((2^(bl mk).length-1:Nat):Int):=by
    rw[a4,shlN];have:=Io (bl mk).length;omega
   refine⟨_,rfl,r,_,rfl,.inl (SqL.of cp),_,_,rfl,rfl,⟨∅,by rw[a4];omega,by decide⟩,_,_,rfl,rfl,?_⟩
   simp only[eL];have cs:(bl (2^(bl mk).length-1)).length=(bl mk).length:=by rw[(xc _).length_eq,ID]
   refine⟨_,rfl,_,rfl,_,rfl,.ref bv,tb,2^(bl mk).length-1,_,rfl,bt,a2,ti,by have:=Io (bl mk).length;omega,ac,by rw[cs];omega,by rw[cs];exact ev,λw t ae H8 sT cd ce gr hv cv op=>?_⟩
   have ct:=LT.tbS sT a2;obtain⟨va,y,z,rfl,a1⟩:=id cv;refine⟨va,_,0,_,rfl,rfl,SqT.of a1,a30,?_⟩;have c8:Opt (farD ls) (bl mk) t:=Opt.rooms (bl_nd mk) op;have cD:Tb lqF lpF TT H8:=mV cb λb L=>by
    have hs:∃ o,H7 b=some o/\b≠tb:=by
     rcases L with rfl|⟨c',L⟩
     .rcases cb with q|⟨_,q,_⟩
      .exact⟨_,q,λz=>by rw[z,a2]at q;cases q⟩
      .exact⟨_,q,λz=>by rw[z,a2]at q;cases q⟩
     .exact⟨_,L,λz=>by rw[z,a2]at L;cases L⟩
    obtain⟨o,J,B⟩:=hs;rw[J];exact sT _ _ B J
   have cG:SmT H H8:=λb o no e=>by
    have e4:=bn b o no (am _ _ e);have e7:=bp _ _ e4;refine sT _ _ (λz=>?_) e7;subst z;have:=dX (s5.trans z6) cn;rw[this]at e4;cases e4
   have dp:LsAt (FdAt n ls) H8 zs (bl mk):=b0.imp λ_ _ q=>(q.lt (LT.same bp)).lt ct;have da:=ct.1 _ _ (bp _ _ a3);have dq:=ct.1 _ _ cp;have dr:LnAt H8 v ls:=(LnAt.smT hV cG);refine fM (PrI v n mk (bl mk).length ls.length ls r fa bv tb ae t H8) (λM _=>mPz M) ⟨2^(bl mk).length-1,0,_,_,_,t,rfl,λ_ _ e=>e,hv,cv,Io _,by rw[nz,RM_all,Jf],by rw[nY];omega⟩ ?_ ?_
   .rintro M H9 ⟨c,u,aI,cf,w,tc,rfl,s9,hw,cw,db,ou,cu⟩;obtain⟨c',cH,dc,en⟩:=ce.en _ _ hw;have ds:c'=c:=by
     have:(c:Int)=(c':Int):=by injection cH
     omega
    subst ds;refine⟨_,rfl,rfl,_,rfl,?_⟩;by_cases c0:c'=0
    .subst c0;refine qJ rfl ?_;have dJ:tc=0:=by
      rcases en with⟨_,q⟩|⟨_,f,_,_,_,_,_,_,q,_⟩
      .exact cw.uniq q
      .rw[rL]at q;cases q
     refine⟨_,rfl,_,rfl,(by show 2<=LR;decide),λt9 dw=>?_⟩
     have z9:=ak dw (.tup [.int t,.int (u:Int)]);refine kk t9 t u _ (cG.trans (.of (s9.trans z9))) (tb_same cD (s9.trans z9)) ag db ?_ c8 ∅
     rw[ou,Cg,IS]
    .refine ite2 (λ_=>?_) (λz=>Nr (by rw[LQ (λy=>c0 (by have:=V.int.inj y;omega))];rfl) z)
     obtain⟨tt,f,g,a,vr,tr,rfl,ha,hf,hg,fg,dx,dy,dL,_⟩:∃(t:Int)(f g:Nat)(a:Addr)(vr:V)(tr:Int),w=.ref a/\H8 a=some (.tup [.int t,.int (f:Int),.int (g:Int)])/\f∈bl c'/\g∈bl c'/\f≠g/\valV ae (.inl ((cut2 c' f g:Nat):Int))=some vr/\lM H8 vr tr/\t=dR ls mk f g+tr/\Opt (dR ls mk) (bl c') t:=by
      rcases en with⟨q,_⟩|q
      .exact Nr q c0
      .exact q
     have dM:tc=tt:=cw.uniq ⟨a,_,_,rfl,ha⟩;have flt:=oI dc hf;have c6:=oI dc hg;have c7:=s9 _ _ cd;have dd:=s9 _ _ ha;have dg:DGet H9 tb (.int (c':Int)) (some (.ref a)):=by have:=DGet.k (k:=.inl ((c':Nat):Int)) c7;rw[hw]at this;exact this
     refine⟨_,rfl,_,rfl,tb,_,rfl,dg,a,_,1,_,rfl,rfl,SqT.of dd,a31,?_⟩;refine⟨_,rfl,_,rfl,tb,_,rfl,dg,a,_,2,_,rfl,rfl,SqT.of dd,a32,?_⟩;obtain⟨y,hy,tF,dN,dz,TL,VL,rfl,dA,dF,df,fi⟩:=dp.2 f _ (a5 f flt);have gl:=bR _ (GW (a5 g c6));have fl:=bR _ (GW (a5 f flt));have xg:=fi.is hc fl gl;obtain⟨j,up⟩:=fi.up _ _ xg;obtain⟨ks,dh,kl⟩:=up.path;have sh:=up.short fi.vs;have vl:=fi.vl;obtain⟨j1,j2,j3⟩:=dh.join fi;have dP:=j3 _ xg;refine⟨_,rfl,_,rfl,_,rfl,_,rfl,fa,_,_,_,rfl,rfl,SqL.of (s9 _ _ da),ay hy,tF,_,1,_,rfl,rfl,SqT.of (s9 _ _ dA),at1,_,rfl,_,rfl,r,_,_,_,rfl,rfl,SqL.of (s9 _ _ dq),ay (show((bl mk).map iV)[g]?=some (V.int (((bl mk).getD g 0:Nat):Int)) by rw[G7,a5 g c6];rfl),v,dz,(bl mk).getD g 0,(bl mk).getD f 0,ls,VL,ks,rfl,dr.mono s9,s9 _ _ df,fi.vs,dh,∅,λq dU dC hq=>?_⟩
     refine⟨q,ks.reverse,rfl,SqL.of hq,λk hk=>by have:=j1 k (Lh.mp hk);omega,_,_,rfl,rfl,?_⟩
     have ex:Mo (u:Int) ((gs ks.reverse:Nat):Int)=((u^^^gs ks:Nat):Int):=by rw[AX,xorN]
     simp only[ex];refine⟨_,rfl,_,rfl,_,_,rfl,rfl,⟨∅,∅,by decide⟩,_,_,rfl,rfl,_,rfl,_,_,rfl,rfl,⟨∅,∅,by decide⟩,_,_,rfl,rfl,?_⟩
     have ec:Mo (Mo (c':Int) (1*2^((f:Nat):Int).toNat)) (1*2^((g:Nat):Int).toNat)=((cut2 c' f g:Nat):Int):=by rw[shlN,shlN,xorN,xorN];rfl
     simp only[ec];have cx:=rG ls (λl hl=>(ok.w0 l hl).1) u (gs ks) ls.length (G0 _);refine⟨⟨cut2 c' f g,u^^^gs ks,some (.int (f:Int)),some (.int (g:Int)),vr,tr,rfl,s9.trans dC,dx,dy,IG db (Du j1),?_,?_⟩,?_⟩
     .rw[oddE_xor,ou,j2];unfold cut2;rw[Ci,Ci,Cj,Cj,Np flt,Np c6,HQ,HQ]
     .have ed:dR ls mk f g=farD ls ((bl mk).getD f 0) ((bl mk).getD g 0):=rfl
      omega
     .show((cut2 c' f g:Nat):Int).toNat<((c':Nat):Int).toNat;have:=B0 hf hg fg;omega
   .rintro M H9 Q1 Q2 hi ⟨v1,e1,e2,b,e3,q⟩;exact⟨v1,e1,e2,b,e3,hi _ _ q⟩
  .rintro i ws H5 ⟨_,hW⟩;rw[hW.1,HY];omega
 .rintro i zs H3 ⟨_,_,hZ⟩;rw[hZ.1,HY];omega
theorem GG{k:Nat}(D:k<m):(bl ((2^m-1)^^^2^k)).length=m-1:=by
 have I:(bl ((2^m-1)^^^2^k)).Perm ((Ik m).erase k):=by
  refine(pD _ _).trans ((xt (xc _) k).trans ?_);unfold tog;rw[Np (IZ.mpr D)]
 rw[I.length_eq,Le,Np (IZ.mpr D),ID]
def XL(l:List Nat):Nat:=l.foldr (λs m=>2^s^^^m) 0
theorem E2:∀{l:List Nat},l.Nodup->∀ x,(XL l).testBit x=decide (x∈l)
 |[],_,x=>by rw[show XL []=0 from rfl,Ii];simp
 |s::l,v,x=>by
  obtain⟨J,Y⟩:=Hf.mp v;show(2^s^^^XL l).testBit x=_;rw[Ie,HF,E2 Y x];by_cases c:s=x
  .subst c;simp[J]
  .have C:¬ x=s:=λz=>c z.symm
   simp[c,C]
theorem XL_bl(m:Nat):XL (bl m)=m:=Ic λx=>by
 rw[E2 (bl_nd m)]
 cases h:m.testBit x with
 |true=>exact MB (mem_bl.mpr h)
 |false=>exact LQ λz=>by rw[mem_bl.mp z]at h;cases h
structure TxtZ(mg:Str->Option Value):Prop extends Txt mg where
 n_zip:mg "zip"=none
def cS(mk:Nat):Nat:=(bl mk).getD 0 0
theorem qc(h:mk<2^n)(n1:1<=n):cS mk<n:=by
 unfold cS;rw[Hg]
 cases e:(bl mk)[0]? with
 |none=>exact n1
 |some x=>exact oI h (GW e)
theorem Ao(h:mk<2^n)(n1:1<=n)(D:(bl mk).length%2=0)(b:(bl mk).length<=14):(mk^^^2^cS mk)<2^n/\(bl (mk^^^2^cS mk)).length<=14/\(bl (mk^^^2^cS mk)).length%2=1/\1<=(bl (mk^^^2^cS mk)).length:=by
 have G:=qc h n1;refine⟨IG h (HZ (by decide) G),?_⟩
 have e:=(pD mk (cS mk)).length_eq;rw[e];unfold tog;by_cases c:cS mk∈bl mk
 .rw[Np c,Le,Np c];have:0<(bl mk).length:=Iu c;omega
 .rw[Nq c,Hk];have B:(bl mk).length=0:=by
   cases z:bl mk with
   |nil=>rfl
   |cons x r =>
    refine Nr ?_ c;unfold cS;rw[z];exact G9 ..
  omega
def TdAt(n:Nat)(ls:List Lk)(H:Hp)(v:V)(s:Nat):Prop:=∃ l y a,v=.ref l/\H l=some (.lst (y.map oV))/\FI n ls s MM y a [] (λ_ _=>False)
theorem TdAt.lt{s:Nat}(h:TdAt n ls H v s)(k:∀ b xs,H b=some (.lst xs)->H' b=some (.lst xs)):TdAt n ls H' v s:=by
 obtain⟨l,y,a,e,J,Y⟩:=h;exact⟨l,y,a,e,k _ _ J,Y⟩
theorem Em{TT:Addr}(h:Tb lqF lpF TT H)(a:H tb=some (.dK kvs))(f:TbS tb H H'):Tb lqF lpF TT H':=mV h λb L=>by
 have T:∃ o,H b=some o/\b≠tb:=by
  rcases L with rfl|⟨C,L⟩
  .rcases h with q|⟨_,q,_⟩
   .exact⟨_,q,λz=>by rw[z,a]at q;cases q⟩
   .exact⟨_,q,λz=>by rw[z,a]at q;cases q⟩
  .exact⟨_,L,λz=>by rw[z,a]at L;cases L⟩
 obtain⟨o,J,Y⟩:=T;rw[J];exact f _ _ Y J
noncomputable def dO (ls:List Lk) (l:List Nat) (i j:Nat):Int:=farD ls (l.getD i 0) (l.getD j 0)
def RwO(ls:List Lk)(l:List Nat)(H:Hp)(v:V)(s:Nat):Prop:=∃ p,v=V.ref p/\H p=some (.lst (l.map λx=>V.int (farD ls s x)))
inductive zT(vs:List L2.V)(H:L2.Hp)(Q:L2.VK)(x3_:L2.XK):Prop
 |mk (mk:Nat) (h0_:vs=[.int (mk:Int)])(h1_:mk<1099511627776)(h2_:∀ H',Same H H'->Q (.int ((cS mk:Nat):Int)) H')
inductive spHts(TT:Addr)(vs:List L2.V)(H:L2.Hp)(Q:L2.VK)(x3_:L2.XK):Prop
 |mk (v:V)(n mk:Nat)(ls:List Lk) (h0_:vs=[.int (n:Int),v,.int (mk:Int)])(h1_:LnAt H v ls)(h2_:Lok n ls)(h3_:1<=n)(h4_:Conn n ls)(h5_:mk<2^n)(h6_:(bl mk).length%2=0)(h7_:(bl mk).length<=14)(h8_:Tb lqF lpF TT H)(h9_:∀(p:Addr)(cs:List Int) H',SmT H H'->Tb lqF lpF TT H'->H' p=some (.lst (cs.map λc=>V.int (cs.getD (cS mk) 0-c)))->cs.length=n->Q (.ref p) H')
theorem yy:az ["marks"] ["marks"] (ar kc):=by ac_nf
theorem ok_root(F:Fun K "root_of" "root_of" kc f fd)(g:Cal P w K mg base 1 "bits" ["mask"] lP a G):FnOk P w K mg base CX0 2 f fd ["marks"] zT:=by
 refine F.ok yy (by walk_at "l") λM A u s H m Q E N h=>?_
 obtain⟨mk,rfl,B,n⟩:=h;refine⟨_,(ao (aF (gf (aD i4 (pv 0) ai (aG _)) (aR (g.c N (af (pv 0) aj)) ai) ai))),?_⟩;refine⟨_,rfl,rfl,_,rfl,?_⟩;by_cases c0:mk=0
 .subst c0;refine qJ rfl ?_;have e:cS 0=0:=by unfold cS;rw[rL];rfl
  have:=n H λ_ _ e=>e;rw[e]at this;exact this
 .refine ite2 (λ_=>?_) (λz=>Nr (by rw[LQ (λy=>c0 (by have:=V.int.inj y;omega))];rfl) z)
  refine⟨_,rfl,(mk:Int),rfl,∅,∅,λr d v _ b=>?_⟩
  rw[G8]at b;obtain⟨x,O⟩:∃ x,(bl mk)[0]?=some x:=by
   cases z:(bl mk)[0]? with
   |some x=>exact⟨x,rfl⟩
   |none =>
    have:bl mk=[]:=by rw[List.getElem?_eq_none_iff]at z;exact Jr ∅
    have Y:=XL_bl mk;rw[this]at Y;exact Nr Y.symm c0
  have e:cS mk=x:=by unfold cS;rw[Hg,O];rfl
  have l:atI ((bl mk).map iV) 0=some (iV x):=ay (j:=0) (by rw[G7,O];rfl)
  have:=n d v;rw[e]at this;exact⟨r,_,_,_,rfl,rfl,SqL.of b,l,this⟩
theorem bH:az ["many","links","marks","root","others","found","between","table","everyone","rests","costs","room"] ["many","links","marks"] (ar kh):=by ac_nf
theorem ok_hts{TT f2 f3 f4 f5 f6 f8:Addr}{cf cn cP cQ cT:FuncData}(F:Fun K "heights" "heights" kh f fd)(T:TxtZ mg)(aI:Cal P w K mg base 4 "refuse_marks" ["many","links","marks"] Fl I G)(an:Cal P w K mg base 1 "bits" ["mask"] lP f2 Y)(be:Cal P w K mg base 2 "fares" ["many","links","start"] (spFares TT) f3 cf)(aT:Cal P w K mg base 1 "chosen_of" ["entries","numbers"] pL f4 cn)(aW:Cal P w K mg base 1 "new_table" [] uG f5 cP)(GL:∀(D:Nat->Nat->Int)(m:Nat),(∀ a b,D a b=D b a)->Cal P w K mg base 10 "laid_in_pairs" ["between","chosen","table"] (spLaid D m 8) f6 cQ)(a3:Cal P w K mg base 2 "root_of" ["marks"] zT f8 cT):FnOk P w K mg base CX0 11 f fd ["many","links","marks"] (spHts TT):=by
 refine F.ok bH (by walk_at "l") λab A aa s H vs Q E N h=>?_
 obtain⟨v,n,mk,ls,rfl,hV,ok,n1,hc,bd,ev,ac,bB,kk⟩:=h;have hu:=qM N;have ba:=ok.n1;have dp:=ok.l9;obtain⟨l,el⟩:∃ l,l=bl (mk^^^2^cS mk):=⟨_,rfl⟩;obtain⟨ob,db,o2,o1⟩:=Ao bd n1 ev ac;rw[← el]at db o2 o1;have nd:l.Nodup:=by rw[el];exact bl_nd _
 have bR:∀ x∈l,x<n:=λx O=>by rw[el]at O;exact oI ob O
 have al:=GL (dO ls l) l.length (λa b=>Bu _ _ _);have cG:(2:Nat)^40=1099511627776:=by decide
 have J:2^n<=2^40:=HR (by decide) ba
 have bZ:mk<1099511627776:=by omega
 have rn:=qc bd n1
 refine⟨_,(ah (aU (aI.c N (af (pv 0) (af (pv 1) (af (pv 2) aj)))))
   (ah (aB 3 bH.nd (a3.c N (af (pv 2) aj)))
   (ah (aB 4 bH.nd (an.c N (af (aw dB (pv 2) (aw bW ai (pv 3))) aj)))
   (ah (ni 5 [("many",0),("links",1)] ["room"] bH.nd (aV (pv 4)) pg_c pt_c (λC ex s H=>(oz K (be.c N (af (pv 1) (af (pv 2) (af (pv 0) aj)))) ai)))
   (ah (aB 6 bH.nd (eI [("others",4)] ["told"] (aV (pv 5)) pg_c pt_c (λC ex s H=>(aT.c N (af (pv 0) (af (pv 1) aj))))))
   (ah (aB 7 bH.nd (aW.d N))
   (ah (aB 8 bH.nd (aw eQ (aw bW ai (aC ax (by rfl) T.n_len a9 (af (pv 4) aj))) ai))
   (ah (ni 9 [("table",7),("everyone",8),("between",6)] ["number"] bH.nd (aP rfl T.n_range (af (aC ax (by rfl) T.n_len a9 (af (pv 4) aj)) aj)) pg_c pt_c (λC ex s H=>(oz K (al.c N (af (pv 3) (af (aw dB (pv 2) (aw bW ai (pv 0))) (af (pv 1) aj)))) ai)))
   (ah (aB 10 bH.nd (bV aj))
   (ah (bz PassesOwn.never rfl (aP rfl T.n_range (af (pv 0) aj)) (bY 11 bH.nd) (ao (aU (cY Hh Hy Hx aY (pv 10) (af (aC (B7 rfl) (by rfl) T.n_min pz (af (eI [("room",11)] ["told","rest"] (Ax rfl T.n_zip (af (pv 5) (af (pv 9) aj))) (λC ex s H=>(jD (n:=2) (K:=K) rfl rfl (aQ (bQ (i:=0) (show(["told","rest","room"]:List Str).Nodup from by decide) rfl (Or.inl rfl)) (aQ (bQ (i:=1) (show(["told","rest","room"]:List Str).Nodup from by decide) rfl (Or.inl rfl)) dv)))) pt_c (λC ex s H=>(aw bL (sO K (pv 0) (pv 2)) (pv 1)))) aj)) aj)))))
   (ao (aF (eI [("root",3),("costs",10)] ["cost"] (aV (pv 10)) pg_c pt_c (λC ex s H=>(aw eQ (sO K (pv 2) (pv 1)) (pv 0)))))))))))))))),?_⟩
 refine⟨_,rfl,_,rfl,_,rfl,v,n,mk,ls,rfl,hV,ok,n1,hc,bd,ev,ac,λH1 s1=>?_⟩;refine⟨_,rfl,mk,rfl,bZ,λdz dr=>?_⟩;have ex:Mo (mk:Int) (1*2^((cS mk:Nat):Int).toNat)=((mk^^^2^cS mk:Nat):Int):=by rw[shlN,xorN]
 refine⟨_,rfl,_,rfl,_,_,rfl,rfl,⟨∅,∅,by decide⟩,_,_,rfl,rfl,?_⟩
 simp only[ex];refine⟨((mk^^^2^cS mk:Nat):Int),rfl,∅,∅,λr L s2 a7 a6=>?_⟩
 rw[G8]at a6;have bi:L r=some (.lst (l.map iV)):=by rw[el];exact a6
 have am:=s1.trans (dr.trans s2);have co:=tb_same bB am;have a4:(l.map iV).length=l.length:=GY ..;refine⟨_,rfl,r,rfl,⟨_,SqL.of bi⟩,fJ (K:=K) (xs:=l.map iV) (λi zs H3=>SmT L H3/\Tb lqF lpF TT H3/\LsAt (TdAt n ls) H3 zs (l.take i)) (Hs (av ∅)) ⟨λ_ _ _ e=>e,co,LsAt.nil⟩ (λi zs H3 _ z=>SqL.of (z.1.lst bi)) ?_ ?_ ?_⟩
 .rintro i x zs H3 O ⟨b0,bm,hZ⟩;rw[G7]at O;obtain⟨k,u,rfl⟩:=Ho.mp O;refine⟨rfl,yesT ⟨_,rfl,_,rfl,_,rfl,v,n,k,ls,rfl,LnAt.smT (hV.mono am) b0,ok,bR k (GW u),bm,λt ta va TL VL H4 bb aS _ _ ht aL a0 fi=>?_⟩⟩;have cb:=TbS.smT bb bm;refine⟨t,_,0,_,rfl,rfl,SqT.of ht,at0,b0.trans cb,aS,?_⟩;rw[Hz,u];exact(hZ.imp λ_ _ q=>q.lt λ_ _ e=>cb.lst e).snoc ⟨ta,TL,VL,rfl,aL,fi⟩
 .rintro zs H3 ⟨b0,bm,hZ⟩ fa cc;rw[a4,HD]at hZ;have z4:=ak cc (.lst zs);have bn:SmT L (upd H3 fa (.lst zs)):=b0.trans (.of z4);have aS:=tb_same bm z4;have b5:LsAt (TdAt n ls) (upd H3 fa (.lst zs)) zs l:=hZ.imp λ_ _ q=>q.lt λ_ _ e=>z4 _ _ e;have a2:(upd H3 fa (.lst zs)) fa=some (.lst zs):=ag;generalize upd H3 fa (.lst zs)=H4 at bn aS b5 a2;have zl:=b5.1;have bS:=bn.lst bi;have a5:∀ i,i<l.length->l[i]?=some (l.getD i 0):=λi B=>by rw[Hg,GU B];rfl
  refine⟨_,rfl,fa,rfl,⟨_,SqL.of a2⟩,bI (K:=K) (xs:=zs) (λi ws H5=>Same H4 H5/\LsAt (RwO ls l) H5 ws (l.take i)) (Hs (av ∅)) ⟨λ_ _ e=>e,LsAt.nil⟩ (λi ws H5 _ z=>SqL.of (z.1 _ _ a2)) ?_ ?_⟩
  .rintro i x ws H5 O ⟨s5,hW⟩;obtain⟨s0,bE,ta,TL,VL,rfl,aL,fi⟩:=b5.get O;have cp:=bR s0 (GW bE);refine⟨_,rfl,_,rfl,ta,r,_,l.map λx=>V.int (farD ls s0 x),l,rfl,s5 _ _ aL,s5 _ _ bS,GY ..,∅,λj k u=>?_,λq H6 s6 dq hq=>?_⟩
   .refine⟨.int (farD ls s0 k),?_,by rw[G7,u];rfl⟩
    exact vm (fi.is hc cp (bR k (GW u)))
   .refine⟨s5.trans s6,?_⟩;rw[Hz,bE];exact(hW.imp λ_ _ ⟨p,e,z⟩=>⟨p,e,s6 _ _ z⟩).snoc ⟨q,rfl,hq⟩
  .rintro ws H5 _ ⟨s5,hW⟩ bv c5;rw[zl,HD]at hW;have z6:=ak c5 (.lst ws);refine⟨rfl,λtb t0 H7 s7 ct a1 b6=>?_⟩;have bp:Same H4 H7:=s5.trans (z6.trans s7);have c6:LsAt (RwO ls l) H7 ws l:=hW.imp λ_ _ ⟨p,e,z⟩=>⟨p,e,s7 _ _ (z6 _ _ z)⟩;have cu:H7 bv=some (.lst ws):=s7 _ _ ag
   have bt:BtAt H7 (.ref bv) (dO ls l) l.length:=⟨bv,ws,rfl,cu,λi B=>by
    obtain⟨y,hy,p,rfl,g⟩:=c6.2 i _ (a5 i B)
    exact⟨p,_,hy,g,λk u=>by rw[G7,a5 k u];rfl⟩⟩
   have ti:TI H7 (dO ls l) l.length [(.inl ((0:Nat):Int),.ref t0)]:=⟨(λk w e=>by
    by_cases c:(Sum.inl ((0:Nat):Int):Key)=k
    .rw[bh c]at e
     cases e
     exact⟨0,c.symm,Io _,.inl ⟨rfl,t0,_,_,rfl,b6⟩⟩
    .rw[bj c]at e
     cases e),⟨_,bh rfl⟩,Hf.mpr ⟨(by simp),IE⟩⟩
   have cw:=bp _ _ bS;have cd:=tb_same aS bp;have eL:(1:Int)*2^(((l.map iV).length:Nat):Int).toNat-1=((2^l.length-1:Nat):Int):=by
    rw[a4,shlN];have:=Io l.length;omega
   refine⟨_,rfl,r,_,rfl,.inl (SqL.of cw),_,_,rfl,rfl,⟨∅,by rw[a4];omega,by decide⟩,_,_,rfl,rfl,?_⟩
   simp only[eL];refine⟨_,rfl,r,_,rfl,.inl (SqL.of cw),_,rfl,∅,∅,jS (k:=(l.map iV).length) (λi ys H9=>∃(ap:List (Key×V))(js:List Int),TbS tb H7 H9/\H9 tb=some (.dK ap)/\TI H9 (dO ls l) l.length ap/\ys=js.map V.int/\js.length=i) (Hs (av ∅)) ⟨_,[],λ_ _ _ e=>e,a1,ti,rfl,rfl⟩ ?_ ?_ ?_⟩
   .rintro i ys H9 B ⟨ap,js,sT,cH,dc,rfl,jl⟩;rw[a4]at B;have e0:(0:Int)+(i:Int)=(i:Int):=Ir _;rw[e0];have c7:Mo ((2^l.length-1:Nat):Int) (1*2^((i:Nat):Int).toNat)=(((2^l.length-1)^^^2^i:Nat):Int):=by rw[shlN,xorN]
    refine⟨rfl,yesT ⟨_,rfl,_,rfl,_,rfl,_,_,rfl,rfl,⟨∅,∅,by decide⟩,_,_,rfl,rfl,?_⟩⟩
    simp only[c7];have dd:=GG B;have p2:=Io l.length;refine⟨_,rfl,.ref bv,tb,(2^l.length-1)^^^2^i,ap,rfl,bt.mono a1 sT,cH,dc,IG ∅ (HZ (by decide) B),db,by rw[dd];omega,by rw[dd];omega,λw t ae H8 ds ch ci gr hv cv _=>?_⟩
    obtain⟨va,y,z,rfl,a0⟩:=id cv;refine⟨va,_,0,_,rfl,rfl,SqT.of a0,a30,ae,js++[t],λb o n e=>ds b o n (sT b o n e),ch,ci,by rw[Hm];rfl,by rw[GZ,jl];rfl⟩
   .rintro ys H9 ⟨ap,js,sT,cH,dc,rfl,jl⟩ ra c8;rw[a4]at jl;have cO:=LT.tbS sT a1;have dw:=Em cd a1 sT;have zA:=ak c8 (.lst (js.map V.int));have cx:upd H9 ra (.lst (js.map V.int)) ra=some (.lst (js.map V.int)):=ag
    have ce:SmT H (upd H9 ra (.lst (js.map V.int))):=(show SmT H H9 from λb o no e=>by
     have e4:=bn b o no (am _ _ e);refine sT _ _ (λz=>?_) (bp _ _ e4);subst z
     rw[dX (s5.trans z6) ct]at e4;cases e4).trans (.of zA)
    have df:=tb_same dw zA;have cB:upd H9 ra (.lst (js.map V.int)) fa=some (.lst zs):=zA _ _ (cO.1 _ _ (bp _ _ a2));have dg:LsAt (TdAt n ls) (upd H9 ra (.lst (js.map V.int))) zs l:=b5.imp λ_ _ q=>q.lt λ_ _ e=>zA _ _ (cO.1 _ _ (bp _ _ e));generalize upd H9 ra (.lst (js.map V.int))=HA at cx ce df cB dg;refine⟨(by show 0<=LR;decide),λca dh=>?_⟩
    have zB:=ak dh (.lst []);refine⟨_,rfl,_,rfl,∅,∅,b8 (n:=n) (λi M H3=>∃(ck:Option V)(cs:List Int),M=[some (.int (n:Int)),some v,some (.int (mk:Int)),some (.int ((cS mk:Nat):Int)),some (.ref r),some (.ref fa),some (.ref bv),some (.ref tb),some (.int ((2^l.length-1:Nat):Int)),some (.ref ra),some (.ref ca),ck]/\Same HA H3/\H3 ca=some (.lst (cs.map V.int))/\cs.length=i) ⟨_,[],rfl,zB,ag,rfl⟩ ?_ ?_⟩
    .rintro i M H3 B ⟨ck,cs,rfl,s3,bU,cl⟩;have e0:(0:Int)+(i:Int)=(i:Int):=Ir _;rw[e0];refine⟨_,rfl,.inl ⟨rfl,_,SqL.of bU⟩,_,rfl,_,rfl,fa,ra,rfl,⟨_,SqL.of (s3 _ _ cB)⟩,⟨_,SqL.of (s3 _ _ cx)⟩,ug (K:=K) (xs:=zs) (zs:=js.map V.int) (λj ys H5=>Same H3 H5/\ys=((Ik j).map λk=>farD ls (l.getD k 0) i+js.getD k 0).map V.int) (Hs (av ∅)) (by rw[GY];omega) ⟨λ_ _ e=>e,rfl⟩ (λj ys H5 _ z=>⟨SqL.of (z.1 _ _ (s3 _ _ cB)),SqL.of (z.1 _ _ (s3 _ _ cx))⟩) ?_ ?_ ?_⟩
     .rintro j x z ys H5 T5 O hz ⟨cD,rfl⟩ dx;obtain⟨s0,bE,ta,TL,VL,rfl,aL,fi⟩:=dg.get O;have cp:=bR s0 (GW bE);have di:j<js.length:=by
       have:=(GV.mp hz).1;rw[GY]at this;exact this
      have ez:z=.int (js.getD j 0):=by
       rw[G7,GU di]at hz
       cases hz
       rw[Hg,GU di];rfl
      subst ez;have dy:s0=l.getD j 0:=by rw[Hg,bE];rfl
      have s6:=ak dx (.tup [.ref ta,.int (js.getD j 0)]);refine⟨T5,_,rfl,SqT.of ag,rfl,_,_,rfl,_,_,rfl,rfl,rfl,yesT ⟨_,rfl,_,rfl,ta,_,_,_,rfl,rfl,SqL.of (s6 _ _ (cD _ _ (s3 _ _ aL))),ay (vm (fi.is hc cp B)),_,rfl,_,_,rfl,rfl,cD.trans s6,?_⟩⟩;rw[Kb,Hm,Hm,dy];rfl
     .rintro ys H5 ⟨cD,rfl⟩ q hq;have zq:=ak hq (.lst (((Ik zs.length).map λk=>farD ls (l.getD k 0) i+js.getD k 0).map V.int));refine⟨q,_,rfl,SqL.of ag,by rw[GY,ID,zl];omega,λm dA da=>?_⟩
      have dm:=zq _ _ (cD _ _ bU);refine⟨ca,_,_,rfl,rfl,dm,av (by rw[GY];omega),?_⟩
      refine⟨_,cs++[m],rfl,aH (s3.trans (cD.trans zq)) dh _,by rw[ag,Hm];rfl,by rw[GZ,cl];rfl⟩
     .rintro j ys H5 ⟨_,rfl⟩;rw[GY,GY,ID];exact G0 _
    .rintro M H3 ⟨ck,cs,rfl,s3,bU,cl⟩;have dn:∀ k,k<n->(cs.map V.int)[k]?=some (.int (cs.getD k 0)):=λk u=>by rw[G7,Hg,GU ∅];rfl
     refine⟨_,rfl,ca,rfl,⟨_,SqL.of bU⟩,fJ (K:=K) (xs:=cs.map V.int) (λi zs H4=>H4=H3/\zs=(cs.take i).map λc=>V.int (cs.getD (cS mk) 0-c)) (Hs (av (by rw[GY];omega))) ⟨rfl,rfl⟩ (λi zs H4 _ z=>by rw[z.1];exact SqL.of bU) ?_ ?_ ?_⟩
     .rintro i x zs H4 O ⟨rfl,rfl⟩;rw[G7]at O;obtain⟨k,u,rfl⟩:=Ho.mp O;refine⟨rfl,yesT ⟨_,rfl,_,rfl,ca,_,_,_,rfl,rfl,SqL.of bU,ay (dn _ rn),_,rfl,_,_,rfl,rfl,rfl,?_⟩⟩;rw[Hz,u,Hm];rfl
     .rintro zs H4 ⟨rfl,rfl⟩ p g;rw[GY,HD];have zp:=ak g (.lst (cs.map λc=>V.int (cs.getD (cS mk) 0-c)));refine kk p cs _ (ce.trans (.of (s3.trans zp))) (tb_same df (s3.trans zp)) ag cl
     .rintro i zs H4 ⟨_,rfl⟩;rw[GY,HY];omega
   .rintro i ys H9 ⟨ap,js,_,_,_,rfl,jl⟩;rw[GY,jl];exact G0 _
 .rintro i zs H3 ⟨_,_,hZ⟩;rw[hZ.1,HY];omega
structure TxtH(mg:Str->Option Value):Prop extends TxtZ mg where
 n_reversed:mg "reversed"=none
 n_sorted:mg "sorted"=none
 n_set:mg "set"=none
theorem uz:∀(ns l:List Int),(ns.foldl addN l).length<=l.length+ns.length
 |[],_=>G0 _
 |k::ns,l=>by
  have:=uz ns (addN l k);have:=yr l k;rw[KO,Hk];omega
theorem DI{b:Addr}{g:TG}{tb:TS}{D:Ends}(n:Nat)(Pv:Nat->St->Hp->Prop)(o:Pv 0 σ H)(J:n<=xs.length)(A:zs.length=n)(hl:∀ i σ H,i<=n->Pv i σ H->SqL K H a xs/\SqL K H b zs)(l:∀ i x z σ H T,xs[i]?=some x->zs[i]?=some z->Pv i σ H->H T=none->g (.ref T) σ (upd H T (.tup [x,z])) λh H2=>tb {D with nx:=Pv (i+1),ct:=Pv (i+1),bk:=D.nx} h H2)(hd:∀ σ H,Pv n σ H->D.nx σ H):
  ∃ W:Nat->Nat->St->Hp->Prop,(∃ m,W 0 m σ H)/\∀ i m σ H,W i m σ H ->
   ((Itz K a b).stop i H/\D.nx σ H)∨((Itz K a b).go i H/\∃ N:St->Hp->Prop,(∀ σ' H',N σ' H'->∃ r,r<m/\W (i+1) r σ' H')/\∀ x H',(Itz K a b).yld i H x H'->g x σ H' λh H2=>tb {D with nx:=N,ct:=N,bk:=D.nx} h H2):=by
 refine⟨λi m σ H=>m=n-i/\i<=n/\Pv i σ H,⟨n,by simp,HI _,o⟩,?_⟩
 rintro i m σ H ⟨rfl,I,p⟩;obtain⟨E,O⟩:=hl i σ H I p;by_cases G:i<n
 .have Q:i<xs.length:=by omega
  have j:i<zs.length:=by omega
  refine .inr ⟨⟨xs,zs,xs[i],zs[i],E,O,by simp[Q],by simp[j]⟩,Pv (i+1),λσ' H' L=>⟨n-(i+1),∅,rfl,G,L⟩,λv H' y=>?_⟩
  obtain⟨T,x,z,Y,rfl,rfl,u,w⟩:=y;exact l i x z σ _ T (u xs E) (w zs O) p Y
 .have e:i=n:=by omega
  subst e;exact .inl ⟨⟨xs,zs,E,O,.inr ∅⟩,hd σ H p⟩
theorem D6(xs:List V):cutV xs (some 1) none=xs.drop 1:=by
 unfold cutV;have q:=HT.sIx_nat xs.length 0 1;rw[show((1:Nat):Int)=(1:Int) from rfl]at q;rw[q,HT.sIx_none];rw[IK (by rw[Jd];omega)]
 by_cases h:1<=xs.length
 .rw[KL h]
 .have e:xs=[]:=Jo.mp ∅
  subst e;rfl
theorem CI(s:Same H H2){l:Addr}(hl:H l=none)(o:HO):Same H (upd H2 l o):=λb u e=>by
 rw[aq (λz=>by rw[z,hl]at e;cases e)]
 exact s _ _ e
theorem EG{α:Type} [DecidableEq α]:∀{l ps:List α},l.Nodup->(∀ x∈l,x∈ps)->l.length<=ps.length
 |[],_,_,_=>HI _
 |x::l,ps,h,k=>by
  obtain⟨J,Y⟩:=Hf.mp h;have m:=k x (G9 ..);have:=EG (l:=l) (ps:=ps.erase x) Y λy Q=>(List.mem_erase_of_ne (λ(e:y=x)=>J (by rw[← e];exact Q))).mpr (k y (G4 _ Q))
  rw[Ks m]at this;have p:=Iu m;rw[Hk];omega
def PrM(n:Nat)(H:Hp)(v:V):Prop:=∃(t:Addr)(i:Int)(j:Nat),v=.ref t/\H t=some (.tup [.int i,.int (j:Int)])/\j<2^n
theorem PrM.mono(h:PrM n H v)(s:Same H H'):PrM n H' v:=by
 obtain⟨t,i,j,e,q,l⟩:=h;exact⟨t,i,j,e,s _ _ q,l⟩
inductive spDry(vs:List L2.V)(H:L2.Hp)(Q:L2.VK)(x3_:L2.XK):Prop
 |mk (v:V)(ta:Addr)(n:Nat)(ls:List Lk)(tops:List Int) (h0_:vs=[v,.ref ta])(h1_:LnAt H v ls)(h2_:Lok n ls)(h3_:H ta=some (.lst (tops.map V.int)))(h4_:tops.length=n)(h5_:n+ls.length<64)(h6_:∀(q:Addr)(out:List V) H',Same H H'->H' q=some (.lst out)->out.length=n+ls.length->(∀ y∈out,PrM n H' y)->Q (.ref q) H')
inductive Ey(vs:List L2.V)(H:L2.Hp)(Q:L2.VK)(x3_:L2.XK):Prop
 |mk (p:Addr)(n rm:Nat)(ps:List Nat) (h0_:vs=[.ref p,.int (rm:Int)])(h1_:H p=some (.lst (ps.map iV)))(h2_:ps.length=n)(h3_:(∀ x∈ps,x<2^n))(h4_:rm<2^n)(h5_:n<=40)(h6_:∀(q:Addr)(qs:List Nat) H',Same H H'->H' q=some (.lst (qs.map iV))->qs.length=n->(∀ x∈qs,x<2^n)->Q (.ref q) H')
inductive spHills(TT:Addr)(vs:List L2.V)(H:L2.Hp)(Q:L2.VK)(x3_:L2.XK):Prop
 |mk (v:V)(n mk:Nat)(ls:List Lk) (h0_:vs=[.int (n:Int),v,.int (mk:Int)])(h1_:LnAt H v ls)(h2_:Lok n ls)(h3_:1<=n)(h4_:Conn n ls)(h5_:mk<2^n)(h6_:(bl mk).length%2=0)(h7_:(bl mk).length<=14)(h8_:n+ls.length<64)(h9_:Tb lqF lpF TT H)(h10_:∀(q:V) H',SmT H H'->Tb lqF lpF TT H'->Q q H')
abbrev toI(f:List (Int×Int)):List (Key×V):=f.map λe=>(Sum.inl e.1,V.int e.2)
theorem Ff{f:List (Int×Int)}{y x:Int}(h:∀ e∈f,0<=e.1/\e.1<2^n)(Q:0<=y/\y<2^n):∃ a:List (Int×Int),putK (toI f) (.inl y) (.int x)=toI a/\∀ e∈a,0<=e.1/\e.1<2^n:=by
 unfold putK;split
 .refine⟨f.map λe=>if e.1=y then(e.1,x) else e,?_,λe Y=>?_⟩
  .unfold toI;rw[Jh,Jh];refine Jm λe _=>?_;show(if(Sum.inl e.1:Key)=Sum.inl y then((Sum.inl e.1:Key),V.int x) else(Sum.inl e.1,V.int e.2))=_;by_cases z:e.1=y
   .rw[Np (congrArg _ z)];show _=((Sum.inl (if e.1=y then(e.1,x) else e).1:Key),V.int (if e.1=y then(e.1,x) else e).2);rw[Np z]
   .rw[Nq (λq=>z (Sum.inl.inj q))];show _=((Sum.inl (if e.1=y then(e.1,x) else e).1:Key),V.int (if e.1=y then(e.1,x) else e).2);rw[Nq z]
  .obtain⟨B,o,rfl⟩:=HS.mp Y;have:=h B o;split
   .exact this
   .exact this
 .refine⟨f++[(y,x)],by unfold toI;rw[Hm];rfl,λe Y=>?_⟩
  rcases Hc.mp Y with z|z
  .exact h e z
  .rw[Hi.mp z];exact Q
theorem zN:∀(f:List (Int×Int))(y:Int),∃ x,(valV (toI f) (.inl y)).getD (.int 0)=V.int x
 |[],_=>⟨0,rfl⟩
 |e::r,y=>by
  by_cases z:e.1=y
  .exact⟨e.2,by show(valV ((Sum.inl e.1,V.int e.2)::toI r) (.inl y)).getD (.int 0)=_;rw[bh (p:=(Sum.inl e.1,V.int e.2)) (k:=(Sum.inl y:Key)) (congrArg Sum.inl z)];rfl⟩
  .obtain⟨x,O⟩:=zN r y;exact⟨x,by show(valV ((Sum.inl e.1,V.int e.2)::toI r) (.inl y)).getD (.int 0)=_;rw[bj (p:=(Sum.inl e.1,V.int e.2)) (k:=(Sum.inl y:Key)) (λq=>z (Sum.inl.inj q))];exact O⟩
theorem oO:az ["links","tops","found"] ["links","tops"] (ar ki):=by ac_nf
theorem ok_dry(F:Fun K "dryings" "dryings" ki f fd)(T:TxtH mg):FnOk P w K mg base CX0 1 f fd ["links","tops"] spDry:=by
 refine F.ok oO (by walk_at "l") λo A u s H m Q E N h=>?_
 obtain⟨v,ta,n,ls,ap,rfl,hV,ok,ac,tl,aa,b⟩:=h;have an:=ok.n1;have ae:=N.units;obtain⟨la,B,rfl,a0,hL⟩:=id hV
 refine⟨_,(ah (ni 2 [] ["room","top"] oO.nd (lE rfl T.n_enumerate (af (pv 1) aj)) (λC ex s H=>(jD (n:=2) (K:=K) rfl rfl (aQ (bQ (i:=0) (show(["room","top"]:List Str).Nodup from by decide) rfl (Or.inl rfl)) (aQ (bQ (i:=1) (show(["room","top"]:List Str).Nodup from by decide) rfl (Or.inl rfl)) dv)))) pt_c (λC ex s H=>(bJ (af (aw cM ai (pv 1)) (af (aw bW ai (pv 0)) aj)))))
   (ah (aU (cY Hh PySem.F.slot_list_extend PySem.F.type_list_extend AU (pv 2) (af (eI [("tops",1)] ["one","two","length"] (aV (pv 0)) (λC ex s H=>(jD (n:=3) (K:=K) rfl rfl (aQ (bQ (i:=0) (show(["one","two","length","tops"]:List Str).Nodup from by decide) rfl (Or.inl rfl)) (aQ (bQ (i:=1) (show(["one","two","length","tops"]:List Str).Nodup from by decide) rfl (Or.inl rfl)) (aQ (bQ (i:=2) (show(["one","two","length","tops"]:List Str).Nodup from by decide) rfl (Or.inl rfl)) dv))))) pt_c (λC ex s H=>(bJ (af (aw eQ (aw bL (sO K (pv 3) (pv 0)) (sO K (pv 3) (pv 1))) (pv 2)) (af (aw AI (aw bW ai (pv 0)) (aw bW ai (pv 1))) aj))))) aj)))
   (ao (aF (sN rfl rfl T.n_list rfl T.n_reversed (aC zr (by rfl) T.n_sorted og (af (pv 2) aj))))))),?_⟩
 have a1:(ap.map V.int).length=n:=by rw[GY,tl]
 refine⟨_,rfl,ta,rfl,⟨_,SqL.of ac⟩,lK (K:=K) (xs:=ap.map V.int) (λi c L=>Same H L/\c.length=i/\∀ y∈c,PrM n L y) (Hs (av ∅)) ⟨λ_ _ e=>e,rfl,λy a=>nomatch a⟩ (λi c L _ z=>SqL.of (z.1 _ _ ac)) ?_ ?_ (λi c L z=>by omega)⟩
 .rintro i x c L T2 O ⟨Y,zl,hZ⟩ ab;have I:i<n:=by rw[← a1];exact(GV.mp O).1
  have sT:=ak ab (.tup [.int (i:Int),x]);rw[G7]at O;obtain⟨tp,a7,rfl⟩:=Ho.mp O;refine⟨T2,_,rfl,SqT.of ag,rfl,_,_,rfl,_,_,rfl,rfl,rfl,yesT ?_⟩;refine⟨_,rfl,_,_,rfl,rfl,.inl ⟨by decide,by decide⟩,_,rfl,_,_,rfl,rfl,⟨∅,∅,by decide⟩,(by show 2<=LR;decide),λt7 aW=>?_⟩
  have s7:=sT.trans (ak aW (.tup [.int (2*tp),.int (1*2^((i:Nat):Int).toNat)]));refine⟨Y.trans s7,by rw[GZ,zl];rfl,λy a=>?_⟩
  rcases Hc.mp a with a|a
  .exact(hZ y a).mono s7
  .rw[Hi.mp a];refine⟨t7,2*tp,2^i,rfl,?_,HZ (by decide) I⟩
   rw[← shlN i];exact ag
 rintro c L ⟨Y,zl,hZ⟩ fa aL;rw[a1]at zl;have a6:H fa=none:=dX Y aL;have z3:=ak aL (.lst c);have p:=Y.trans z3;have a2:∀ y∈c,PrM n (upd L fa (.lst c)) y:=λy a=>(hZ y a).mono z3;have al:(upd L fa (.lst c)) fa=some (.lst c):=ag;generalize upd L fa (.lst c)=r at p a2 al;have a3:LsAt LkAt r B ls:=hL.imp λ_ _ y=>y.mono p;have yl:=a3.1;refine⟨_,rfl,.inl ⟨rfl,_,SqL.of al⟩,_,rfl,la,rfl,⟨_,SqL.of (p _ _ a0)⟩,fJ (K:=K) (xs:=B) (λi ws H4=>Same r H4/\ws.length=i/\∀ y∈ws,PrM n H4 y) (Hs (av ∅)) ⟨λ_ _ e=>e,rfl,λy a=>nomatch a⟩ (λi ws H4 _ z=>SqL.of (z.1 _ _ (p _ _ a0))) ?_ ?_ (λi ws H4 z=>by omega)⟩
 .rintro i x ws H4 O ⟨s4,wl,hW⟩;obtain⟨l,G,t,rfl,J⟩:=a3.get O;obtain⟨l1,l2⟩:=ok.sm l (GW G);have am:∀ k,k<n->(ap.map V.int)[k]?=some (.int (ap.getD k 0)):=λk d=>by
   rw[G7,Hg,GU ∅]
   rfl
  have aT:=s4 _ _ (p _ _ ac);refine⟨t,_,rfl,SqT.of (s4 _ _ J),rfl,_,_,rfl,_,_,rfl,_,_,rfl,rfl,rfl,yesT ?_⟩;refine⟨_,rfl,_,rfl,ta,_,_,_,rfl,rfl,SqL.of aT,ay (am _ l1),_,rfl,_,rfl,ta,_,_,_,rfl,rfl,SqL.of aT,ay (am _ l2),_,_,rfl,rfl,_,rfl,_,_,rfl,rfl,?_⟩;refine⟨_,rfl,_,_,rfl,rfl,⟨∅,∅,by decide⟩,_,rfl,_,_,rfl,rfl,⟨∅,∅,by decide⟩,_,_,rfl,rfl,(by show 2<=LR;decide),λt7 aW=>?_⟩
  have ex:Mn (1*2^((l.1:Nat):Int).toNat) (1*2^((l.2.1:Nat):Int).toNat)=((2^l.1|||2^l.2.1:Nat):Int):=by rw[shlN,shlN,orN]
  have s7:=ak aW (.tup [.int (ap.getD l.1 0+ap.getD l.2.1 0-l.2.2),.int (Mn (1*2^((l.1:Nat):Int).toNat) (1*2^((l.2.1:Nat):Int).toNat))]);refine⟨s4.trans s7,by rw[GZ,wl];rfl,λy a=>?_⟩
  rcases Hc.mp a with a|a
  .exact(hW y a).mono s7
  .rw[Hi.mp a];refine⟨t7,ap.getD l.1 0+ap.getD l.2.1 0-l.2.2,2^l.1|||2^l.2.1,rfl,?_,Kr (HZ (by decide) l1) (HZ (by decide) l2)⟩
   rw[← ex];exact ag
 rintro ws H4 ⟨s4,wl,hW⟩ D hD;have sD:=ak hD (.lst ws);have fD:fa≠D:=λz=>by rw[← z,s4 _ _ al]at hD;cases hD
 have aS:=s4.trans sD;refine⟨fa,D,c,ws,rfl,rfl,aS _ _ al,ag,Hs (av ∅),?_⟩
 have s6:Same H (upd (upd H4 D (.lst ws)) fa (.lst (c++ws))):=CI (p.trans aS) a6 _;have pk:∀ y,PrM n (upd H4 D (.lst ws)) y->PrM n (upd (upd H4 D (.lst ws)) fa (.lst (c++ws))) y:=λy ⟨t,i,j,e,q,l⟩=>⟨t,i,j,e,by rw[aq (λz=>by rw[z,aS _ _ al]at q;cases q)];exact q,l⟩
 have g:∀ y∈c++ws,PrM n (upd (upd H4 D (.lst ws)) fa (.lst (c++ws))) y:=λy a=>by
  refine pk y ?_;rcases Hc.mp a with a|a
  .exact(a2 y a).mono aS
  .exact(hW y a).mono sD
 have a4:(upd (upd H4 D (.lst ws)) fa (.lst (c++ws))) fa=some (.lst (c++ws)):=ag;generalize upd (upd H4 D (.lst ws)) fa (.lst (c++ws))=H6 at s6 g a4;have a5:(c++ws).length=n+ls.length:=by rw[GZ,zl,wl,yl]
 refine⟨_,rfl,fa,c++ws,rfl,SqL.of a4,λy a=>?_,∅,λl aI G ol om=>?_⟩
 .obtain⟨t,i,j,e,q,_⟩:=g y a;exact⟨t,i,_,e,q⟩
 have s7:=ak G (.lst aI);refine⟨l,aI,rfl,SqL.of ag,λq M=>?_⟩;have s8:=ak M (.lst aI.reverse);exact b q aI.reverse _ (s6.trans (s7.trans s8)) ag (by rw[K4,ol,a5]) λy a=>(g y (om y (Lh.mp a))).mono (s7.trans s8)
theorem j9:az ["pieces","rooms","piece","room"] ["pieces","rooms"] (ar mD):=by ac_nf
theorem ok_join(F:Fun K "joined" "joined" mD f fd)(T:Txt mg)(aa:Cal P w K mg base 1 "bits" ["mask"] lP a G):FnOk P w K mg base CX0 2 f fd ["pieces","rooms"] Ey:=by
 refine F.ok j9 (by walk_at "l") λt A u s H m Q E N h=>?_
 obtain⟨p,n,rm,ps,rfl,g,pl,pb,rb,an,v⟩:=h;have ap:(2:Nat)^40=1099511627776:=by decide
 have J:2^n<=2^40:=HR (by decide) an
 refine⟨_,(ah (aB 2 j9.nd (pv 1))
   (ah (bz PassesOwn.never rfl (aV (aa.c N (af (pv 1) aj))) (bY 3 j9.nd) (ao (aB 2 j9.nd (aw AI (pv 2) (aR (pv 0) (pv 3))))))
   (ao (aF (eI [("piece",2)] ["room","before"] (lE rfl T.n_enumerate (af (pv 0) aj)) (λC ex s H=>(jD (n:=2) (K:=K) rfl rfl (aQ (bQ (i:=0) (show(["room","before","piece"]:List Str).Nodup from by decide) rfl (Or.inl rfl)) (aQ (bQ (i:=1) (show(["room","before","piece"]:List Str).Nodup from by decide) rfl (Or.inl rfl)) dv)))) pt_c (λC ex s H=>(gf (aD eB (aw lU (aw i9 (pv 2) (pv 0)) ai) ai (aG _)) (pv 2) (pv 1)))))))),?_⟩
 refine⟨_,rfl,_,rfl,(rm:Int),rfl,∅,∅,λr Y j _ al=>?_⟩
 rw[G8]at al;have aI:Y r=some (.lst ((bl rm).map iV)):=al;have ae:=j _ _ g;have am:∀ k,k<n->(ps.map iV)[k]?=some (iV (ps.getD k 0))/\ps.getD k 0<2^n:=λk d=>by
  rw[G7,Hg,GU ∅]
  exact⟨rfl,pb _ (Ij _)⟩
 refine⟨r,rfl,⟨_,SqL.of aI⟩,bM (K:=K) (xs:=(bl rm).map iV) (λi M o=>∃(v3:Option V)(pc:Nat),M=[some (.ref p),some (.int (rm:Int)),some (.int (pc:Int)),v3]/\o=Y/\pc<2^n) ⟨_,rm,rfl,rfl,rb⟩ (λi M o _ ab=>by obtain⟨_,_,_,z,_⟩:=ab;rw[z];exact SqL.of aI) ?_ ?_⟩
 .rintro i x M o O ⟨v3,pc,rfl,rfl,aL⟩;rw[G7]at O;obtain⟨k,d,rfl⟩:=Ho.mp O;have kn:=oI rb (GW d);obtain⟨a1,a2⟩:=am k kn;have ex:Mn (pc:Int) ((ps.getD k 0:Nat):Int)=((pc|||ps.getD k 0:Nat):Int):=orN _ _
  refine⟨_,rfl,_,rfl,_,rfl,p,_,_,_,rfl,rfl,SqL.of ae,ay a1,_,_,rfl,rfl,?_⟩;simp only[ex];exact⟨_,_,rfl,rfl,Kr aL a2⟩
 rintro M o ⟨v3,pc,rfl,rfl,aL⟩;have aT:(ps.map iV).length=n:=by rw[GY,pl]
 refine⟨_,rfl,p,rfl,⟨_,SqL.of ae⟩,lK (K:=K) (xs:=ps.map iV) (λi B H3=>Same o H3/\∃ qs:List Nat,B=qs.map iV/\qs.length=i/\∀ x∈qs,x<2^n) (Hs (av ∅)) ⟨λ_ _ e=>e,[],rfl,rfl,λx O=>nomatch O⟩ (λi B H3 _ z=>SqL.of (z.1 _ _ ae)) ?_ ?_ (λi B H3 ab=>by obtain⟨_,qs,e,ql,_⟩:=ab;rw[e,GY,ql];exact G0 _)⟩
 .rintro i x B H3 T2 O ⟨l,qs,rfl,ql,qb⟩ ac;have I:i<n:=by rw[← aT];exact(GV.mp O).1
  have sT:=ak ac (.tup [.int (i:Int),x]);rw[G7]at O;obtain⟨b,L,rfl⟩:=Ho.mp O;have bb:=pb b (GW L)
  have step:∀ y:Nat,y<2^n->∃ aS:List Nat,qs.map iV++[iV y]=aS.map iV/\aS.length=i+1/\∀ x∈aS,x<2^n:=λy q=>⟨qs++[y],by rw[Hm];rfl,by rw[GZ,ql];rfl,λx O=>by
   rcases Hc.mp O with O|O
   .exact qb x O
   .rw[Hi.mp O];exact q⟩
  refine⟨T2,_,rfl,SqT.of ag,rfl,_,_,rfl,_,_,rfl,rfl,rfl,yesT ?_⟩;refine⟨_,rfl,_,rfl,_,_,rfl,rfl,(show(0:Int)<=(i:Int) by omega),_,_,rfl,rfl,rfl,_,rfl,ite2 (λc=>?_) (λc=>?_)⟩
  .exact⟨_,rfl,l.trans sT,step pc aL⟩
  .exact⟨_,rfl,l.trans sT,step b bb⟩
 rintro B H3 ⟨l,qs,rfl,ql,qb⟩ D hD;exact v D qs _ (j.trans (l.trans (ak hD _))) ag (by rw[ql,aT]) qb
theorem c9:az ["many","links","marks","row","root","pieces","prices","drying","lower","levels","piece"] ["many","links","marks"] (ar pY):=by ac_nf
theorem ok_hills{TT f2 f3 f4:Addr}{a3 bd:FuncData}(F:Fun K "hills" "hills" pY f fd)(T:TxtH mg)(a4:Cal P w K mg base 11 "heights" ["many","links","marks"] (spHts TT) I G)(a5:Cal P w K mg base 1 "dryings" ["links","tops"] spDry f2 Y)(an:Cal P w K mg base 2 "root_of" ["marks"] zT f3 a3)(a7:Cal P w K mg base 2 "joined" ["pieces","rooms"] Ey f4 bd):FnOk P w K mg base CX0 12 f fd ["many","links","marks"] (spHills TT):=by
 refine F.ok c9 (by walk_at "l") λaa A r s H vs Q E N h=>?_
 obtain⟨v,n,mk,ls,rfl,hV,ok,n1,hc,aI,ev,fw,ab,aL,kk⟩:=h;have hu:=qM N;have ap:=ok.n1;have bv:(2:Nat)^40=1099511627776:=by decide
 have J:2^n<=2^40:=HR (by decide) ap
 refine⟨_,(ah (aB 3 c9.nd (a5.c N (af (pv 1) (af (a4.c N (af (pv 0) (af (pv 1) (af (pv 2) aj)))) aj))))
   (ah (aB 4 c9.nd (an.c N (af (pv 2) aj)))
   (ah (ni 5 [] ["room"] c9.nd (aP rfl T.n_range (af (pv 0) aj)) pg_c pt_c (λC ex s H=>ai))
   (ah (aB 6 c9.nd kA)
   (ah (bz PassesOwn.never rfl (Ax rfl T.n_zip (af (pv 3) (af (ko mZ (pv 3) (nj ai) nu) aj))) (oS rfl (aQ (bY 7 c9.nd) (aQ (bY 8 c9.nd) dv))) (ah (aB 5 c9.nd (a7.c N (af (pv 5) (af (aJ (pv 7) ai) aj))))
   (ah (aB 9 c9.nd (aw eQ (aJ (pv 7) ai) (aJ (pv 8) ai)))
   (ao (bz PassesOwn.never rfl (aV (aC (zo rfl rfl rfl) (by rfl) T.n_sorted og (af (cL (B6 rfl rfl rfl rfl) (by rfl) T.n_set bt_set (af (pv 5) aj)) aj))) (bY 10 c9.nd) (ao (bP (PW.pt (xJ (aD vh (pv 9) ai (aG _)) (xJ (aD i4 (pv 10) ai (aG _)) (uT (aD eB (aw lU (aw i9 (pv 10) (pv 4)) ai) ai (aG _)))))) (ao (jC hu (pv 6) (pv 10) (aw bL (CS hu (pv 6) (pv 10) ai ⟨rfl,rfl,rfl,rfl⟩) (pv 9)) rfl)) aO)))))))
   (ao (aF (cL (zt rfl) (by rfl) T.n_list iF (af (ED Kw LH PySem.F.type_dict_items Dq (pv 6)) aj))))))))),?_⟩
 refine⟨_,rfl,_,rfl,_,rfl,_,rfl,v,n,mk,ls,rfl,hV,ok,n1,hc,aI,ev,fw,aL,λp cs H1 aS a2 g cl=>?_⟩;refine⟨v,p,n,ls,cs.map λc=>cs.getD (cS mk) 0-c,rfl,hV.smT aS,ok,by rw[g,Jh];rfl,by rw[GY,cl],ab,λq out L s2 hq ol op=>?_⟩
 refine⟨_,rfl,mk,rfl,∅,λH3 s3=>?_⟩
 have rn:=qc aI n1;refine⟨_,rfl,_,rfl,∅,∅,bT (n:=n) (λi zs H4=>H4=H3/\zs=(He i 0).map iV) (Hs (av ∅)) ⟨rfl,rfl⟩ ?_ ?_⟩
 .rintro i zs H4 m ⟨rfl,rfl⟩;refine⟨rfl,?_⟩;rw[JB,Hm];rfl
 rintro zs H4 _ ⟨rfl,rfl⟩ pp cn;have s5:=ak cn (.lst ((He n 0).map iV));refine λd hd=>?_;have sd:=ak hd (.dK []);have bB:Same L (upd (upd H4 pp (.lst ((He n 0).map iV))) d (.dK [])):=s3.trans (s5.trans sd);have al:=bB _ _ hq;have bU:=sd _ _ (show upd H4 pp (.lst ((He n 0).map iV)) pp=_ from ag);have be:L d=none:=dX (s3.trans s5) hd;have gd:(upd (upd H4 pp (.lst ((He n 0).map iV))) d (.dK [])) d=some (.dK []):=ag;have cc:∀ y∈out,PrM n (upd (upd H4 pp (.lst ((He n 0).map iV))) d (.dK [])) y:=λy hy=>(op y hy).mono bB;generalize upd (upd H4 pp (.lst ((He n 0).map iV))) d (.dK [])=H6 at bB al bU gd cc;refine⟨_,rfl,_,rfl,_,rfl,q,_,rfl,SqL.of al,λq7 aT=>?_⟩;rw[D6];have s7:=ak aT (.lst (out.drop 1));have co:q7≠d:=λz=>by rw[z,gd]at aT;cases aT
 have bi:(upd H6 q7 (.lst (out.drop 1))) q7=some (.lst (out.drop 1)):=ag;have bE:=s7 _ _ gd;have ba:=bB.trans s7;have bZ:=s7 _ _ bU;have cp:q≠d:=λz=>by rw[z,gd]at al;cases al
 have cd:∀ y∈out,PrM n (upd H6 q7 (.lst (out.drop 1))) y:=λy hy=>(cc y hy).mono s7;have bm:=s7 _ _ al;generalize upd H6 q7 (.lst (out.drop 1))=H7 at s7 bi bE ba bZ cd bm;have dl:(out.drop 1).length=out.length-1:=Jd ..;have b6:∀{i:Nat}{x:V},(out.drop 1)[i]?=some x->x∈out:=λ{i x} e=>JV (GW e);have ce:∀{H9:Hp}{x:V},TbS d H7 H9->x∈out->PrM n H9 x:=λ{H9 x} sT O=>by
  obtain⟨t,i,j,e,z,l⟩:=cd x O;exact⟨t,i,j,e,sT _ _ (λy=>by rw[y,bE]at z;cases z) z,l⟩
 refine⟨q,q7,rfl,⟨_,SqL.of bm⟩,⟨_,SqL.of bi⟩,DI (K:=K) (xs:=out) (zs:=out.drop 1) (out.length-1) (λi M H9=>∃(v7 v8 v9 ae:Option V)(pa:Addr)(ps:List Nat)(kv:List (Int×Int)),M=[some (.int (n:Int)),some v,some (.int (mk:Int)),some (.ref q),some (.int ((cS mk:Nat):Int)),some (.ref pa),some (.ref d),v7,v8,v9,ae]/\TbS d H7 H9/\H9 d=some (.dK (toI kv))/\(∀ e∈kv,0<=e.1/\e.1<2^n)/\kv.length<=40*i/\H9 pa=some (.lst (ps.map iV))/\ps.length=n/\∀ x∈ps,x<2^n)
  ⟨_,_,_,_,pp,He n 0,[],rfl,λ_ _ _ e=>e,bE,(λe D=>by cases D),G0 _,bZ,IT,λx O=>by rw[List.eq_of_mem_replicate O];exact Io n⟩ (Nat.sub_le _ _) dl (λi M H9 _ ac=>by obtain⟨_,_,_,_,_,_,_,_,sT,_⟩:=ac;exact⟨SqL.of (sT _ _ cp bm),SqL.of (sT _ _ co bi)⟩) ?_ ?_⟩
 .rintro i x z M H9 T9 O hz ⟨v7,v8,v9,ae,pa,ps,kv,rfl,sT,bn,hint,kl,ct,pl,pb⟩ b5;have m:i<out.length-1:=by rw[← dl];exact(GV.mp hz).1
  obtain⟨tx,ix,jx,rfl,cf,cu⟩:=ce sT (GW O);obtain⟨tz,iz,jz,rfl,cv,cB⟩:=ce sT (b6 hz);have s9:=ak b5 (.tup [.ref tx,.ref tz]);refine⟨T9,_,rfl,SqT.of ag,rfl,_,_,rfl,_,_,rfl,rfl,?_⟩;refine⟨_,rfl,_,rfl,tx,_,1,_,rfl,rfl,SqT.of (s9 _ _ cf),at1,pa,n,jx,ps,rfl,s9 _ _ ct,pl,pb,cu,ap,λqa qs HA sA bR ql qb=>?_⟩;have bS:=s9.trans sA;refine⟨_,rfl,tx,_,0,_,rfl,rfl,SqT.of (bS _ _ cf),at0,_,rfl,tz,_,0,_,rfl,rfl,SqT.of (bS _ _ cv),at0,_,_,rfl,rfl,?_⟩;have en:qs.map iV=(qs.map λx:Nat=>(x:Int)).map V.int:=by rw[Jh];rfl
  have nl:(qs.map λx:Nat=>(x:Int)).length=n:=by rw[GY,ql]
  refine⟨_,rfl,qa,qs.map λx:Nat=>(x:Int),rfl,SqL.of (by rw[bR,en]),∅,λa ha=>?_⟩
  have ca:HA d=some (.dK (toI kv)):=bS _ _ bn;have cb:((qs.map λx:Nat=>(x:Int)).foldl addN []).length<64:=by
   have:=uz (qs.map λx:Nat=>(x:Int)) [];rw[Ja]at this;omega
  refine⟨a,_,rfl,ag,cb,λl hs u mem pw=>?_⟩;have ld:l≠d:=λy=>by
   subst y;have B:=(ak ha (setO P w a ((qs.map λx:Nat=>(x:Int)).foldl addN []))) _ _ ca
   cases (u.symm.trans B)
  have qd:qa≠d:=λy=>by
   rw[y,ca]at bR;cases bR
  have bp:hs.length<=n:=by
   have h5:=EG (l:=hs) (ps:=qs.map λx:Nat=>(x:Int)) (pw.imp λh e=>by omega) λx O=>by
    have:=(mem x).mp O;rw[yq]at this;rcases this with h|h
    .cases h
    .exact h
   omega
  refine⟨l,rfl,⟨_,SqL.of ag⟩,bM (K:=K) (xs:=hs.map V.int) (λj M HX=>∃(ae:Option V)(am:List (Int×Int)),M=[some (.int (n:Int)),some v,some (.int (mk:Int)),some (.ref q),some (.int ((cS mk:Nat):Int)),some (.ref qa),some (.ref d),some (.ref tx),some (.ref tz),some (.int (ix-iz)),ae]/\TbS d HA HX/\HX l=some (.lst (hs.map V.int))/\HX d=some (.dK (toI am))/\(∀ e∈am,0<=e.1/\e.1<2^n)/\am.length<=40*i+j) ⟨_,kv,rfl,λb o _ e=>((ak ha _).trans (ak u _)) _ _ e,ag,((ak ha _).trans (ak u _)) _ _ ca,hint,kl⟩ (λj M HX _ ac=>by obtain⟨_,_,_,_,z,_⟩:=ac;exact SqL.of z) ?_ ?_⟩
  .rintro j y M HX hy ⟨ae,am,rfl,sX,ch,bb,aW,ci⟩;have hj:j<hs.length:=by
    have:=(GV.mp hy).1;rw[GY]at this;exact this
   rw[G7]at hy;obtain⟨yv,cw,rfl⟩:=Ho.mp hy;have no:∃(ae:Option V)(am:List (Int×Int)),[some (V.int (n:Int)),some v,some (.int (mk:Int)),some (.ref q),some (.int ((cS mk:Nat):Int)),some (.ref qa),some (.ref d),some (.ref tx),some (.ref tz),some (.int (ix-iz)),some (.int yv)]=[some (.int (n:Int)),some v,some (.int (mk:Int)),some (.ref q),some (.int ((cS mk:Nat):Int)),some (.ref qa),some (.ref d),some (.ref tx),some (.ref tz),some (.int (ix-iz)),ae]/\TbS d HA HX/\HX l=some (.lst (hs.map V.int))/\HX d=some (.dK (toI am))/\(∀ e∈am,0<=e.1/\e.1<2^n)/\am.length<=40*i+(j+1):=⟨_,am,rfl,sX,ch,bb,aW,∅⟩
   refine⟨_,rfl,_,_,rfl,rfl,_,rfl,ite2 (λc1=>?_) (λc1=>no)⟩;refine⟨_,rfl,rfl,_,rfl,ite2 (λc2=>?_) (λc2=>no)⟩;refine⟨_,rfl,_,rfl,_,_,rfl,rfl,(show(0:Int)<=((cS mk:Nat):Int) by omega),_,_,rfl,rfl,rfl,_,rfl,ite2 (λc3=>?_) (λc3=>no)⟩
   obtain⟨xv,b0⟩:=zN am yv;have big:(toI am).length<LR:=by
    rw[GY];have:am.length<3000:=by omega
    exact Jg this (by decide)
   have yb:0<=yv/\yv<2^n:=by
    have:=(mem yv).mp (GW cw);rw[yq]at this;rcases this with h|h
    .cases h
    .obtain⟨x,O,rfl⟩:=HS.mp h;have:=qb x O;exact⟨∅,by exact_mod_cast this⟩
   obtain⟨a1,ck,a6⟩:=Ff (x:=xv+(ix-iz)) aW yb;refine⟨_,rfl,d,rfl,.inl ⟨_,.inl bb⟩,_,rfl,_,DGet.k (k:=.inl yv) bb,_,rfl,_,_,b0,rfl,_,rfl,_,rfl,d,_,rfl,DPut.k (k:=.inl yv) bb big,?_⟩;rw[ck];refine⟨_,a1,rfl,(λb o nb e=>by rw[aq nb];exact sX b o nb e),by rw[aq ld];exact ch,ag,a6,?_⟩
   have:=cg (toI am) (.inl yv) (V.int (xv+(ix-iz)));rw[ck,GY,GY]at this;omega
  .rintro M HX ⟨ae,am,rfl,sX,_,bb,aW,ci⟩;rw[GY]at ci;exact⟨_,_,_,_,qa,qs,am,rfl,λb o nb e=>sX b o nb (bS _ _ (sT b o nb e)),bb,aW,∅,sX _ _ qd bR,ql,qb⟩
 .rintro M H9 ⟨v7,v8,v9,ae,pa,ps,kv,rfl,sT,bn,hint,kl,_⟩;refine⟨_,rfl,.inr (.inr (.inl ⟨rfl,.inl ⟨_,bn⟩⟩)),d,_,rfl,rfl,bn,True.intro,λvw cx=>?_⟩;have sv:=ak cx (xY vw d);refine⟨vw,d,toI kv,rfl,ag,sv _ _ bn,λl u=>?_⟩;have a0:Tb lqF lpF TT H7:=tb_same (tb_same a2 s2) ba;refine kk _ _ (λb o no e=>?_) (tb_same (Em a0 bE sT) sv);have e2:=s2 _ _ (aS b o no e);exact sv _ _ (sT b o (λz=>by rw[z,be]at e2;cases e2) (ba _ _ e2))
end KF
namespace L2
theorem len_0{l:List α}(h:l.length=0):l=[]:=Jo.mp h
theorem yK{l:List α}(h:l.length=n+1):∃ x r,l=x::r/\r.length=n:=by
 cases l with
 |nil=>cases h
 |cons x r=>exact⟨x,r,rfl,Nat.succ.inj h⟩
theorem F4{l:List α}(h:l.length=1):∃ a,l=[a]:=by
 obtain⟨a,r,rfl,e⟩:=yK h;exact⟨a,by rw[len_0 e]⟩
theorem len_2{l:List α}(h:l.length=2):∃ a b,l=[a,b]:=by
 obtain⟨a,r,rfl,e⟩:=yK h;obtain⟨b,rfl⟩:=F4 e;exact⟨a,b,rfl⟩
theorem len_3{l:List α}(h:l.length=3):∃ a b c,l=[a,b,c]:=by
 obtain⟨a,r,rfl,e⟩:=yK h;obtain⟨b,c,rfl⟩:=len_2 e;exact⟨a,b,c,rfl⟩
theorem F3{l:List α}(h:l.length=4):∃ a b c d,l=[a,b,c,d]:=by
 obtain⟨a,r,rfl,e⟩:=yK h;obtain⟨b,c,d,rfl⟩:=len_3 e;exact⟨a,b,c,d,rfl⟩
theorem len_5{l:List α}(h:l.length=5):∃ a b c d e,l=[a,b,c,d,e]:=by
 obtain⟨a,r,rfl,z⟩:=yK h;obtain⟨b,c,d,e,rfl⟩:=F3 z;exact⟨a,b,c,d,e,rfl⟩
theorem len_6{l:List α}(h:l.length=6):∃ a b c d e f,l=[a,b,c,d,e,f]:=by
 obtain⟨a,r,rfl,z⟩:=yK h;obtain⟨b,c,d,e,f,rfl⟩:=len_5 z;exact⟨a,b,c,d,e,f,rfl⟩
end L2
namespace K8
theorem sub_le:∀{a b:List Nat},a.Nodup->(∀ x∈a,x∈b)->a.length<=b.length
 |[],_,_,_=>HI _
 |x::a,b,s,h=>by
  obtain⟨i,v⟩:=Hf.mp s;have O:=h x (by simp)
  have C:=sub_le (a:=a) (b:=b.erase x) v λy Q=>(List.mem_erase_of_ne (λe:y=x=>i (e▸Q))).mpr (h y (G4 _ Q));rw[Ks O]at C;have:0<b.length:=Iu O;rw[Hk];omega
theorem cV{a:List Nat}(nd:a.Nodup)(h:∀ x∈a,x<N):a.length<=N:=by
 have:=sub_le (b:=Ik N) nd λx O=>IZ.mpr (h x O);rwa[ID]at this
theorem xW(nd:l.Nodup){x:Nat}(hi:l[i]?=some x)(hj:l[j]?=some x):i=j:=by
 have p:=JD.mp nd;obtain⟨J,f⟩:=GV.mp hi;obtain⟨Y,E⟩:=GV.mp hj;rcases Nat.lt_trichotomy i j with z|z|z
 .exact Nr (f.trans E.symm) (p i j J Y z)
 .exact z
 .exact Nr (E.trans f.symm) (p j i Y J z)
abbrev En:=List (Nat×Nat)
structure bD(m:Nat)(es:En)(ts:List (List Nat)):Prop where
 len:ts.length=m
 ends:∀ e∈es,e.1<m/\e.2<m/\e.1≠e.2
 nd:∀(p:Nat)(l:List Nat),ts[p]?=some l->l.Nodup
 mem:∀(p:Nat)(l:List Nat),ts[p]?=some l->∀ t,t∈l↔∃ e,es[t]?=some e/\(e.1=p∨e.2=p)
theorem Cw(m:Nat):bD m [] (He m []) where
 len:=by simp
 ends:=λe h=>by cases h
 nd:=λp l h=>by
  rw[IH]at h;split at h
  .cases h;exact IE
  .cases h
 mem:=λp l h t=>by
  rw[IH]at h;split at h
  .cases h;simp
  .cases h
def ins(l:List Nat)(k x:Nat):List Nat:=l.take k++x::l.drop k
theorem vH{k x y:Nat}:y∈ins l k x↔y=x∨y∈l:=by
 unfold ins;rw[Hc,G6];have:=Jx k l;constructor
 .rintro(h|h|h)
  .exact .inr (KS h)
  .exact .inl h
  .exact .inr (JV h)
 .rintro(h|h)
  .exact .inr (.inl h)
  .rw[← this]at h;rcases Hc.mp h with z|z
   .exact .inl z
   .exact .inr (.inr z)
theorem Bi{k x:Nat}(nd:l.Nodup)(h:x∉l):(ins l k x).Nodup:=by
 unfold ins;have e:=Jx k l;rw[← e]at nd;obtain⟨a,b,c⟩:=Ht.mp nd;refine Ht.mpr ⟨a,Hf.mpr ⟨λz=>h (JV z),b⟩,λy Q z f=>?_⟩;rcases G6.mp f with q|q
 .intro w;exact h (by rw[← q,← w];exact KS Q)
 .exact c y Q z q
theorem bD.put{es:En}{one two k:Nat}(w:bD m es ts)(J:one<m)(h2:two<m)(i:one≠two)(e1:ts[one]?=some l)(E:ts[two]?=some l'):
  bD m (es++[(one,two)]) ((ts.set one (ins l k es.length)).set two (ins l' j es.length)):=by
 have a:∀{p l},ts[p]?=some l->es.length∉l:=λ{p l} e z=>by
  obtain⟨x,O,_⟩:=(w.mem p l e es.length).mp z;have:=(GV.mp O).1;omega
 have get:∀ p q,((ts.set one (ins l k es.length)).set two (ins l' j es.length))[p]?=some q->(p=two/\q=ins l' j es.length)∨(p=one/\p≠two/\q=ins l k es.length)∨(p≠one/\p≠two/\ts[p]?=some q):=λp q e=>by
  have L:two<(ts.set one (ins l k es.length)).length:=by rw[HG,w.len];exact h2
  have f:one<ts.length:=by rw[w.len];exact J
  rw[HH]at e;by_cases z:two=p
  .rw[Np z,Np L]at e;exact .inl ⟨z.symm,(Hq e).symm⟩
  .rw[Nq z,HH]at e;by_cases y:one=p
   .rw[Np y,Np f]at e;exact .inr (.inl ⟨y.symm,Ne.symm z,(Hq e).symm⟩)
   .rw[Nq y]at e;exact .inr (.inr ⟨Ne.symm y,Ne.symm z,e⟩)
 have c:∀ t x,(es++[(one,two)])[t]?=some x↔(es[t]?=some x)∨(t=es.length/\x=(one,two)):=λt x=>by
  by_cases z:t<es.length
  .rw[G5 z];constructor
   .exact .inl
   .rintro(y|y)
    .exact y
    .omega
  .rw[G3 ∅]
   constructor
   .intro y;have G:=(GV.mp y).1;rw[Hd]at G;have T:t=es.length:=by omega
    subst T;rw[Hw]at y
    cases y
    exact .inr ⟨rfl,rfl⟩
   .rintro(y|⟨y,rfl⟩)
    .have:=(GV.mp y).1;omega
    .rw[y,Hw];rfl
 refine⟨by rw[HG,HG];exact w.len,λe n=>?_,λp q e=>?_,λp q e t=>?_⟩
 .rcases Hc.mp n with z|z
  .exact w.ends e z
  .have:e=(one,two):=by simpa using z
   subst this;exact⟨J,h2,i⟩
 .rcases get p q e with⟨_,rfl⟩|⟨_,_,rfl⟩|⟨_,_,y⟩
  .exact Bi (w.nd two l' E) (a E)
  .exact Bi (w.nd one l e1) (a e1)
  .exact w.nd p q y
 .rcases get p q e with⟨rfl,rfl⟩|⟨rfl,d,rfl⟩|⟨b,v,y⟩
  .rw[vH,w.mem p l' E t];constructor
   .rintro(z|⟨x,O,g⟩)
    .exact⟨(one,p),(c _ _).mpr (.inr ⟨z,rfl⟩),.inr rfl⟩
    .exact⟨x,(c _ _).mpr (.inl O),g⟩
   .rintro⟨x,O,g⟩;rcases(c _ _).mp O with z|⟨z,_⟩
    .exact .inr ⟨x,z,g⟩
    .exact .inl z
  .rw[vH,w.mem p l e1 t];constructor
   .rintro(z|⟨x,O,g⟩)
    .exact⟨(p,two),(c _ _).mpr (.inr ⟨z,rfl⟩),.inl rfl⟩
    .exact⟨x,(c _ _).mpr (.inl O),g⟩
   .rintro⟨x,O,g⟩;rcases(c _ _).mp O with z|⟨z,_⟩
    .exact .inr ⟨x,z,g⟩
    .exact .inl z
  .rw[w.mem p q y t];constructor
   .rintro⟨x,O,g⟩;exact⟨x,(c _ _).mpr (.inl O),g⟩
   .rintro⟨x,O,g⟩;rcases(c _ _).mp O with z|⟨z,rfl⟩
    .exact⟨x,z,g⟩
    .rcases g with g|g
     .exact Nr g.symm b
     .exact Nr g.symm v
def hd(es:En)(d:Nat):Nat:=match es[d/2]? with|some e=>if d%2=0 then e.2 else e.1|none=>0
def tl(es:En)(d:Nat):Nat:=match es[d/2]? with|some e=>if d%2=0 then e.1 else e.2|none=>0
def leave(es:En)(t p:Nat):Nat:=match es[t]? with|some e=>if e.1=p then 2*t else 2*t+1|none=>0
def nxt(l:List Nat)(t:Nat):Nat:=(l[(l.idxOf t+1)%l.length]?).getD 0
def fol(es:En)(ts:List (List Nat))(d:Nat):Nat:=leave es (nxt ((ts[hd es d]?).getD []) (d/2)) (hd es d)
section
variable{m:Nat}{es:En}{ts:List (List Nat)}
theorem vI{t:Nat}(h:t∈l):l[l.idxOf t]?=some t:=by
 have G:=Kt.mpr h;rw[GU G,List.getElem_idxOf]
theorem gp{t:Nat}(h:t∈l):l[(l.idxOf t+1)%l.length]?=some (nxt l t):=by
 have G:0<l.length:=Iu h;have:=JY (l.idxOf t+1) G;unfold nxt;rw[GU this];rfl
theorem bD.at(w:bD m es ts){d:Nat}(h:d<2*es.length):∃ e l,es[d/2]?=some e/\hd es d=(if d%2=0 then e.2 else e.1)/\tl es d=(if d%2=0 then e.1 else e.2)/\hd es d<m/\ts[hd es d]?=some l/\d/2∈l:=by
 have G:d/2<es.length:=by omega
 have f:es[d/2]?=some es[d/2]:=GU G;have q:=w.ends _ (GW f);generalize es[d/2]=e at f q;have J:hd es d=(if d%2=0 then e.2 else e.1):=by unfold hd;rw[f]
 have Y:tl es d=(if d%2=0 then e.1 else e.2):=by unfold tl;rw[f]
 have A:hd es d<m:=by rw[J];split<;>omega
 have M:ts[hd es d]?=some (ts[hd es d]'(by rw[w.len];exact A)):=GU _
 refine⟨e,_,f,J,Y,A,M,(w.mem _ _ M _).mpr ⟨e,f,?_⟩⟩;rw[J];split
 .exact .inr rfl
 .exact .inl rfl
theorem bD.foll(w:bD m es ts){d:Nat}(h:d<2*es.length):∃ l e,ts[hd es d]?=some l/\d/2∈l/\es[nxt l (d/2)]?=some e/\(e.1=hd es d∨e.2=hd es d)/\e.1≠e.2/\fol es ts d=(if e.1=hd es d then 2*nxt l (d/2) else 2*nxt l (d/2)+1)/\fol es ts d<2*es.length/\fol es ts d/2=nxt l (d/2)/\tl es (fol es ts d)=hd es d:=by
 obtain⟨B,l,J,Y,A,M,s,L⟩:=w.at h;have T:=gp L;obtain⟨e,n,g⟩:=(w.mem _ _ s _).mp (GW T);have G:=(GV.mp n).1;have D:=(w.ends e (GW n)).2.2;have p:fol es ts d=(if e.1=hd es d then 2*nxt l (d/2) else 2*nxt l (d/2)+1):=by
  unfold fol;rw[s];show leave es (nxt l (d/2)) (hd es d)=_;unfold leave;rw[n]
 refine⟨l,e,s,L,n,g,D,p,?_,?_,?_⟩
 .rw[p];split<;>omega
 .rw[p];split<;>omega
 .rw[p];by_cases z:e.1=hd es d
  .have r:2*nxt l (d/2)/2=nxt l (d/2):=by omega
   have c:2*nxt l (d/2)%2=0:=by omega
   rw[Np z];unfold tl;rw[r,n];show(if 2*nxt l (d/2)%2=0 then e.1 else e.2)=_;rw[Np c,z]
  .have r:(2*nxt l (d/2)+1)/2=nxt l (d/2):=by omega
   have c:¬ (2*nxt l (d/2)+1)%2=0:=by omega
   rw[Nq z];unfold tl;rw[r,n];show(if(2*nxt l (d/2)+1)%2=0 then e.1 else e.2)=_;rw[Nq c];exact g.elim (λy=>Nr y z) id
theorem bD.inj(w:bD m es ts){a b:Nat}(G:a<2*es.length)(L:b<2*es.length)(h:fol es ts a=fol es ts b):a=b:=by
 obtain⟨l,e,I,r,_,_,_,_,_,i,Q⟩:=w.foll G;obtain⟨A,u,k,C,_,_,_,_,_,t,d⟩:=w.foll L;have n:hd es a=hd es b:=by rw[← Q,← d,h]
 rw[n,k]at I
 cases I
 have O:nxt l (a/2)=nxt l (b/2):=by rw[← i,← t,h]
 have N:=gp r;have v:=gp C;rw[O]at N;have Y:=xW (w.nd _ _ k) N v;have s:=Kt.mpr r;have z:=Kt.mpr C;have p:l.idxOf (a/2)=l.idxOf (b/2):=by
  generalize l.idxOf (a/2)=x at *;generalize l.idxOf (b/2)=y at *;by_cases H:x+1=l.length
  .by_cases g:y+1=l.length
   .omega
   .rw[H,KJ,Ip ∅]at Y;omega
  .by_cases g:y+1=l.length
   .rw[g,KJ,Ip ∅]at Y;omega
   .rw[Ip ∅,Ip ∅]at Y;omega
 have T:a/2=b/2:=by
  have q:=vI r;have c:=vI C;rw[p,c]at q;exact(Hq q).symm
 obtain⟨f,_,B,o,_,_,_,_⟩:=w.at G;obtain⟨E,_,j,J,_,_,_,_⟩:=w.at L;rw[T,j]at B;have M:E=f:=Hq B;rw[M]at j J;have D:=(w.ends f (GW j)).2.2;rw[o,J]at n;have:a%2=b%2:=by
  by_cases H:a%2=0<;>by_cases g:b%2=0
  .omega
  .rw[Np H,Nq g]at n;exact Nr n.symm D
  .rw[Nq H,Np g]at n;exact Nr n D
  .omega
 omega
end
structure Cn(f:Nat->Nat)(N:Nat):Prop where
 lt:∀ d,d<N->f d<N
 inj:∀ a b,a<N->b<N->f a=f b->a=b
structure Path(f:Nat->Nat)(N first:Nat)(r:List Nat):Prop where
 hd:r[0]?=some first
 lt:∀ d∈r,d<N
 nd:r.Nodup
 nx:∀ i x y,r[i]?=some x->r[i+1]?=some y->y=f x
theorem xO{f:Nat->Nat}{d:Nat}(h:d<N):Path f N d [d] where
 hd:=rfl
 lt:=λx O=>by have:x=d:=by simpa using O
              rw[this];exact h
 nd:=by simp
 nx:=λi x y J Y=>by
  have:=(GV.mp Y).1;rw[Hd]at this;omega
theorem Path.snoc{f:Nat->Nat}{d x:Nat}{r:List Nat}(p:Cn f N)(h:Path f N d (r++[x]))(T:f x≠d):Path f N d (r++[x]++[f x]) where
 hd:=by rw[G5 (by rw[GZ,Hd];omega)];exact h.hd
 lt:=λy Q=>by
  rcases Hc.mp Q with z|z
  .exact h.lt y z
  .have:y=f x:=by simpa using z
   rw[this];exact p.lt x (h.lt x (by simp))
 nd:=by
  refine Ht.mpr ⟨h.nd,by simp,λa G b L e=>?_⟩
  have t:b=f x:=by simpa using L
  subst t;obtain⟨i,I⟩:=HU.mp G;rw[e]at I;have c:=(GV.mp I).1;rw[GZ,Hd]at c
  cases i with
  |zero =>
   rw[h.hd]at I;exact T (Hq I).symm
  |succ i =>
   have g:(r++[x])[i]?=some ((r++[x])[i]'(by rw[GZ,Hd];omega)):=GU _
   have:=h.nx i _ _ g I;have l:=h.lt _ (GW g);have o:=h.lt x (by simp)
   have E:=p.inj _ _ o l this;rw[← E]at g;have n:(r++[x])[r.length]?=some x:=by rw[G3 (G0 _),Hw];rfl
   have:=xW h.nd g n;omega
 nx:=λi a b J Y=>by
  have k:=(GV.mp Y).1;rw[GZ,GZ,Hd,Hd]at k;rw[G5 (by rw[GZ,Hd];omega)]at J
  by_cases z:i+1<(r++[x]).length
  .rw[G5 z]at Y;exact h.nx i a b J Y
  .rw[GZ,Hd]at z;have j:i=r.length:=by omega
   subst j;rw[G3 (by rw[GZ,Hd];omega)]at Y
   have:r.length+1-(r++[x]).length=0:=by rw[GZ,Hd];omega
   rw[this]at Y;rw[G3 (G0 _),Hw]at J;have m:x=a:=Hq J;have E:f x=b:=Hq Y;rw[← E,m]
structure Ring(f:Nat->Nat)(N:Nat)(r:List Nat):Prop where
 lt:∀ d∈r,d<N
 nd:r.Nodup
 ne:0<r.length
 nx:∀ i x,r[i]?=some x->r[(i+1)%r.length]?=some (f x)
theorem Path.ring{f:Nat->Nat}{d x:Nat}{r:List Nat}(p:Cn f N)(h:Path f N d (r++[x]))(n:f x=d):Ring f N (r++[x]) where
 lt:=h.lt
 nd:=h.nd
 ne:=by rw[GZ,Hd];omega
 nx:=λi y Q=>by
  have G:=(GV.mp Q).1;by_cases z:i+1=(r++[x]).length
  .rw[z,KJ];have:i=r.length:=by rw[GZ,Hd]at z;omega
   subst this;rw[G3 (G0 _),Hw]at Q;have:x=y:=Hq Q;subst this;rw[n];exact h.hd
  .have O:i+1<(r++[x]).length:=by omega
   rw[Ip O];have g:=GU O;rw[g,h.nx i _ _ Q g]
theorem Ring.back{f:Nat->Nat}{a:Nat}{r:List Nat}(p:Cn f N)(h:Ring f N r)(o:a<N)(l:f a∈r):a∈r:=by
 obtain⟨i,I⟩:=HU.mp l;have G:=(GV.mp I).1;have B:∃ j,j<r.length/\(j+1)%r.length=i:=by
  cases i with
  |zero=>exact⟨r.length-1,by have:=h.ne;omega,by have:=h.ne;rw[show r.length-1+1=r.length by omega,KJ]⟩
  |succ i=>exact⟨i,∅,Ip G⟩
 obtain⟨j,n,d⟩:=B;have g:=GU n;have q:=h.nx j _ g;rw[d,I]at q;have b:=h.lt _ (GW g);have:=p.inj _ _ o b (Hq q);rw[this];exact GW g
structure a8(f:Nat->Nat)(N i:Nat)(rs:List (List Nat)):Prop where
 ring:∀ r∈rs,Ring f N r
 hdl:∀ r∈rs,∀ h,r[0]?=some h->h<i/\∀ d∈r,h<=d
 asc:∀(a b:Nat)(r r':List Nat)(h h':Nat),a<b->rs[a]?=some r->rs[b]?=some r'->r[0]?=some h->r'[0]?=some h'->h<h'
 nd:rs.flatten.Nodup
 all:∀ d,d<i->d∈rs.flatten
theorem oP(f:Nat->Nat)(N:Nat):a8 f N 0 [] where
 ring:=λr h=>by cases h
 hdl:=λr h=>by cases h
 asc:=λa b r v h T _ e=>by cases e
 nd:=by simp
 all:=λd h=>by omega
theorem a8.skip{f:Nat->Nat}(w:a8 f N i rs)(h:i∈rs.flatten):a8 f N (i+1) rs where
 ring:=w.ring
 hdl:=λr j x O=>⟨by have:=(w.hdl r j x O).1;omega,(w.hdl r j x O).2⟩
 asc:=w.asc
 nd:=w.nd
 all:=λd hd=>by
  by_cases z:d=i
  .rw[z];exact h
  .exact w.all d ∅
theorem a8.put{f:Nat->Nat}{r:List Nat}(p:Cn f N)(w:a8 f N i rs)(h:i∉rs.flatten)(hi:i<N)(j:Ring f N r)(n:Path f N i r):a8 f N (i+1) (rs++[r]):=by
 have c:∀(k x:Nat),r[k]?=some x->x∉rs.flatten:=λk=>by
  induction k with
  |zero =>
   intro x O;rw[n.hd]at O
   cases O
   exact h
  |succ k C =>
   intro x O z;have G:=(GV.mp O).1;have g:=GU (show k<r.length by omega)
   have e:=n.nx k _ _ g O;obtain⟨q,M,l⟩:=HN.mp z;rw[e]at l;exact C _ g (HN.mpr ⟨q,M,(w.ring q M).back p (j.lt _ (GW g)) l⟩)
 have vz:∀ d∈r,i<=d:=λd hd=>by
  obtain⟨k,D⟩:=HU.mp hd;by_cases z:i<=d
  .exact z
  .exact Nr (w.all d ∅) (c k d D)
 refine⟨λq M=>?_,λq M x O=>?_,λa b q J x H m o L O B=>?_,?_,λd hd=>?_⟩
 .rcases Hc.mp M with z|z
  .exact w.ring q z
  .have:q=r:=by simpa using z
   rw[this];exact j
 .rcases Hc.mp M with z|z
  .have:=w.hdl q z x O
   exact⟨∅,this.2⟩
  .have e:q=r:=by simpa using z
   subst e;rw[n.hd]at O
   cases O
   exact⟨∅,vz⟩
 .have bl:=(GV.mp L).1
  rw[GZ,Hd]at bl;rw[G5 ∅]at o
  by_cases z:b<rs.length
  .rw[G5 z]at L;exact w.asc a b q J x H m o L O B
  .have t:b=rs.length:=by omega
   subst t;rw[G3 (G0 _),Hw]at L;have e:r=J:=Hq L;subst e;rw[n.hd]at B
   cases B
   exact(w.hdl q (GW o) x O).1
 .rw[Ih];have e : [r].flatten=r:=by simp
  rw[e];refine Ht.mpr ⟨w.nd,j.nd,λa o b L e=>?_⟩;obtain⟨k,D⟩:=HU.mp L;exact c k b D (e▸o)
 .rw[Ih,Hc];by_cases z:d=i
  .right;rw[z];simp;exact GW n.hd
  .exact .inl (w.all d ∅)
theorem jP(nd:rs.flatten.Nodup){a b:Nat}{r:List Nat}{d:Nat}(G:rs[a]?=some r)(L:rs[b]?=some r')(J:d∈r)(h2:d∈r'):a=b:=by
 induction rs generalizing a b with
 |nil=>cases G
 |cons q rs C =>
  rw[HW]at nd;obtain⟨_,v,T⟩:=Ht.mp nd
  cases a with
  |zero =>
   cases b with
   |zero=>rfl
   |succ b =>
    have e:q=r:=Hq G;subst e;exact Nr rfl (T d J d (HN.mpr ⟨r',GW L,h2⟩))
  |succ a =>
   cases b with
   |zero =>
    have e:q=r':=Hq L;subst e;exact Nr rfl (T d h2 d (HN.mpr ⟨r,GW G,J⟩))
   |succ b=>exact congrArg Nat.succ (C v G L)
def chain(f:Nat->Nat):Nat->List Nat->Nat->Prop
 |x,[],z=>f x=z
 |x,y::l,z=>f x=y/\chain f y l z
theorem gN{f:Nat->Nat}:∀{x:Nat}{l:List Nat}{y:Nat}{k:List Nat}{z:Nat},chain f x (l++y::k) z↔chain f x l y/\chain f y k z
 |x,[],y,k,z=>Iff.rfl
 |x,a::l,y,k,z=>by
  show(f x=a/\chain f a (l++y::k) z)↔(f x=a/\chain f a l y)/\chain f y k z;rw[gN,and_assoc]
theorem kW{f g:Nat->Nat}:∀{x y:Nat}{l:List Nat}{z:Nat},chain f x l z->g y=f x->(∀ t∈l,g t=f t)->chain g y l z
 |x,y,[],z,h,e,_=>e.trans h
 |x,y,a::l,z,h,e,k=>⟨e.trans h.1,kW h.2 (k a (G9 ..)) λt T=>k t (G4 _ T)⟩
theorem uh{f g F:Nat->Nat}:∀{x:Nat}{l:List Nat}{z:Nat},chain f x l z->(∀ t∈x::l,g (F t)=F (f t))->chain g (F x) (l.map F) (F z)
 |x,[],z,h,k=>by
  show g (F x)=F z;rw[k x (G9 ..),show f x=z from h]
 |x,a::l,z,h,k=>⟨by rw[k x (G9 ..),h.1],uh h.2 λt T=>k t (G4 _ T)⟩
theorem nZ{f:Nat->Nat}{S:Nat->Prop}:∀{x:Nat}{l:List Nat}{z:Nat},chain f x l z->(∀ t∈x::l,S t->S (f t))->S x->S z/\∀ t∈l,S t
 |x,[],z,h,k,s=>⟨by have:=k x (G9 ..) s;rwa[show f x=z from h]at this,λt T=>nomatch T⟩
 |x,a::l,z,h,k,s=>by
  have j:S a:=by have:=k x (G9 ..) s;rwa[h.1]at this
  obtain⟨J,Y⟩:=nZ h.2 (λt T=>k t (G4 _ T)) j;refine⟨J,λt T=>?_⟩;rcases G6.mp T with y|y
  .rw[y];exact j
  .exact Y t y
structure CR(f:Nat->Nat)(N:Nat)(r:List Nat):Prop where
 ch:∃ x l,r=x::l/\chain f x l x
 lt:∀ d∈r,d<N
 nd:r.Nodup
theorem CR.closed{f:Nat->Nat}{r:List Nat}(h:CR f N r):∀ d∈r,f d∈r:=by
 obtain⟨x,l,rfl,c⟩:=h.ch;intro d hd;rcases G6.mp hd with y|y
 .subst y
  cases l with
  |nil=>rw[show f d=d from c];exact G9 ..
  |cons a l=>rw[c.1];simp
 .obtain⟨A,B,rfl⟩:=Kk y;have c2:=(gN.mp c).2
  cases B with
  |nil=>rw[show f d=x from c2];exact G9 ..
  |cons a B=>rw[c2.1];simp
theorem CR.sub{f:Nat->Nat}{r:List Nat}{S:Nat->Prop}(h:CR f N r)(k:∀ t∈r,S t->S (f t)){d:Nat}(hd:d∈r)(s:S d):∀ t∈r,S t:=by
 obtain⟨x,l,rfl,c⟩:=h.ch;have a:S x->∀ t∈x::l,S t:=λo t T=>by
  rcases G6.mp T with y|y
  .rw[y];exact o
  .exact(nZ c k o).2 t y
 rcases G6.mp hd with y|y
 .exact a (y▸s)
 .obtain⟨A,B,rfl⟩:=Kk y;have c2:=(gN.mp c).2;exact a (nZ c2 (λt T=>k t (by simp only[G6,Hc]at T ⊢;rcases T with z|z<;>simp[z])) s).1
theorem CR.same{f:Nat->Nat}{r:List Nat}(h:CR f N r)(h':CR f N r'){d:Nat}(J:d∈r)(h2:d∈r'):∀ t∈r,t∈r':=h.sub (S:=λt=>t∈r') (λt _=>h'.closed t) J h2
theorem CR.ne{f:Nat->Nat}{r:List Nat}(h:CR f N r):∃ d,d∈r:=by
 obtain⟨x,l,rfl,_⟩:=h.ch;exact⟨x,G9 ..⟩
structure Part(f:Nat->Nat)(N:Nat)(rs:List (List Nat)):Prop where
 cr:∀ r∈rs,CR f N r
 nd:rs.flatten.Nodup
 all:∀ d,d<N->d∈rs.flatten
theorem Part.pick{f:Nat->Nat}(p:Part f N rs){r:List Nat}(h:CR f N r):∃ rest,Part f N (r::rest)/\rest.length+1=rs.length:=by
 obtain⟨d,hd⟩:=h.ne;obtain⟨u,t,D⟩:=HN.mp (p.all d (h.lt d hd));have c0:=p.cr u t;have j:=h.same c0 hd D;have J:=c0.same h D hd;obtain⟨A,B,rfl⟩:=Kk t;have s:=p.nd;rw[Ih,HW]at s;obtain⟨i,v,T⟩:=Ht.mp s;obtain⟨k,c,l⟩:=Ht.mp v;refine⟨A++B,⟨λq g=>?_,?_,λy Q=>?_⟩,by simp;omega⟩
 .rcases G6.mp g with z|z
  .rw[z];exact h
  .refine p.cr q ?_;rcases Hc.mp z with z|z
   .simp[z]
   .simp[z]
 .rw[HW,Ih];refine Ht.mpr ⟨h.nd,Ht.mpr ⟨i,c,λa G b L=>T a G b (by simp[L])⟩,λa G b L=>?_⟩
  rcases Hc.mp L with z|z
  .exact λe=>T b z a (HL _ (j a G)) e.symm
  .exact l a (j a G) b z
 .have:=p.all y Q
  rw[Ih,HW]at this;rw[HW,Ih];simp only[Hc]at this ⊢;rcases this with z|z|z
  .exact .inr (.inl z)
  .exact .inl (J y z)
  .exact .inr (.inr z)
theorem Part.same:∀{rs qs:List (List Nat)}{f:Nat->Nat}{N:Nat},Part f N rs->Part f N qs->rs.length=qs.length:=by
 have y:∀(k:Nat){rs qs:List (List Nat)}{f:Nat->Nat}{N:Nat},Part f N rs->Part f N qs->rs.length<=qs.length:=by
  intro _ rs qs f N p q;have g:∀ r∈rs,∃ i,i<qs.length/\∃ v,qs[i]?=some v/\∀ t∈v,t∈r:=λr C=>by
   have c:=p.cr r C;obtain⟨d,hd⟩:=c.ne;obtain⟨v,Q,D⟩:=HN.mp (q.all d (c.lt d hd));obtain⟨i,I⟩:=HU.mp Q;exact⟨i,(GV.mp I).1,v,I,(q.cr v Q).same c D hd⟩
  have:∀(l:List (List Nat)),(∀ r∈l,r∈rs)->l.flatten.Nodup->∃ is:List Nat,is.length=l.length/\is.Nodup/\∀ i∈is,i<qs.length/\∃ r∈l,∃ v,qs[i]?=some v/\∀ t∈v,t∈r:=λl=>by
   induction l with
   |nil=>intro _ _;exact⟨[],rfl,IE,λi I=>nomatch I⟩
   |cons r l A =>
    intro h s;rw[HW]at s;obtain⟨b,a,T⟩:=Ht.mp s;obtain⟨is,m,E,u⟩:=A (λr C=>h r (G4 _ C)) a;obtain⟨i,J,v,Y,H⟩:=g r (h r (G9 ..));refine⟨i::is,by simp[m],Hf.mpr ⟨λz=>?_,E⟩,λj n=>?_⟩
    .obtain⟨_,o,D,e,x,B⟩:=u i z;rw[Y]at x
     cases x
     obtain⟨d,hd⟩:=(q.cr v (GW Y)).ne;exact T d (H d hd) d (HN.mpr ⟨o,D,B d hd⟩) rfl
    .rcases G6.mp n with z|z
     .subst z;exact⟨J,r,G9 ..,v,Y,H⟩
     .obtain⟨M,o,G,w⟩:=u j z;exact⟨M,o,G4 _ G,w⟩
  obtain⟨is,m,E,u⟩:=this rs (λ_ h=>h) p.nd;rw[← m];exact cV E λi I=>(u i I).1
 intro rs qs f N p q;exact KN (y 0 p q) (y 0 q p)
theorem Ring.cr{f:Nat->Nat}{r:List Nat}(h:Ring f N r):CR f N r:=by
 refine⟨?_,h.lt,h.nd⟩;have ne:=h.ne;match r,h,ne with
 |x::l,h,_ =>
  refine⟨x,l,rfl,?_⟩;have B:∀(k i:Nat)(y:Nat),i+k+1=(x::l).length->(x::l)[i]?=some y->chain f y ((x::l).drop (i+1)) x:=λk=>by
   induction k with
   |zero =>
    intro i y I Q;have e:=h.nx i y Q;rw[show(i+1)%(x::l).length=0 by rw[← I];simp]at e
    rw[List.drop_of_length_le ∅]
    exact(Hq e).symm
   |succ k C =>
    intro i y I Q;have e:=h.nx i y Q;rw[Ip ∅]at e
    obtain⟨G,E⟩:=GV.mp e;rw[LA G,E];exact⟨rfl,C (i+1) (f y) ∅ e⟩
  exact B l.length 0 x (by simp) rfl
theorem a8.part{f:Nat->Nat}(w:a8 f N N rs):Part f N rs:=⟨λr j=>(w.ring r j).cr,w.nd,w.all⟩
theorem tL{A B:List Nat}{t:Nat}(h:t∉A):(A++t::B).idxOf t=A.length:=by
 rw[List.idxOf_append,Nq h,List.idxOf_cons_self,Nat.zero_add]
theorem bg{A B:List Nat}{t:Nat}(h:t∉A):nxt (A++t::B) t=((B++(A++t::B)).head?).getD 0:=by
 unfold nxt;rw[tL h]
 cases B with
 |nil =>
  have e:(A.length+1)%(A++[t]).length=0:=by rw[GZ,Hd,KJ]
  rw[e,List.nil_append,List.head?_eq_getElem?]
 |cons b B =>
  have e:(A.length+1)%(A++t::b::B).length=A.length+1:=Ip (by simp)
  rw[e,G3 ∅]
  rw[show A.length+1-A.length=1 by omega]
  rfl
theorem Bh{A B:List Nat}{u:Nat}(h:u∉A):ins (A++u::B) ((A++u::B).idxOf u+1) n=A++u::n::B:=by
 rw[tL h];unfold ins;have f:(A++u::B).take (A.length+1)=A++[u]:=by
  rw[List.take_append,IK ∅,show A.length+1-A.length=1 by omega]
  rfl
 have E:(A++u::B).drop (A.length+1)=B:=by simp
 rw[f,E];simp
theorem fO{u:Nat}(h:u∈l):∃ A B,l=A++u::B/\u∉A:=by
 induction l with
 |nil=>exact nomatch h
 |cons a l C =>
  by_cases z:a=u
  .subst z;exact⟨[],l,rfl,Jq⟩
  .rcases G6.mp h with y|y
   .exact Nr y.symm z
   .obtain⟨A,B,rfl,k⟩:=C y;exact⟨a::A,B,rfl,λw=>by rcases G6.mp w with w|w;exact z w.symm;exact k w⟩
theorem FX{u:Nat}(hu:u∈l)(i:n∉l):
  nxt (ins l (l.idxOf u+1) n) u=n/\nxt (ins l (l.idxOf u+1) n) n=nxt l u/\∀ t∈l,t≠u->nxt (ins l (l.idxOf u+1) n) t=nxt l t:=by
 obtain⟨A,B,rfl,k⟩:=fO hu;rw[Bh k];have h:n∉A:=λz=>i (by simp[z])
 have m:n≠u:=λz=>i (by simp[z])
 refine⟨?_,?_,λt T g=>?_⟩
 .rw[bg k];rfl
 .have e:A++u::n::B=(A++[u])++n::B:=by simp
  rw[e,bg (λz=>by rcases Hc.mp z with z|z;exact h z;exact m (by simpa using z)),bg k]
  cases B<;>cases A<;>rfl
 .rcases Hc.mp T with z|z
  .obtain⟨c,b,rfl,G⟩:=fO z;have f:(c++t::b)++u::n::B=c++t::(b++u::n::B):=by simp
   have E:(c++t::b)++u::B=c++t::(b++u::B):=by simp
   rw[f,E,bg G,bg G]
   cases b<;>rfl
  .have r:t∈B:=by
    rcases G6.mp z with z|z
    .exact Nr z g
    .exact z
   by_cases o:t∈A
   .obtain⟨c,b,rfl,G⟩:=fO o;have f:(c++t::b)++u::n::B=c++t::(b++u::n::B):=by simp
    have E:(c++t::b)++u::B=c++t::(b++u::B):=by simp
    rw[f,E,bg G,bg G]
    cases b<;>rfl
   .obtain⟨j,d,rfl,G⟩:=fO r;have a:t≠n:=λy=>i (by rw[← y];simp)
    have f:A++u::n::(j++t::d)=(A++u::n::j)++t::d:=by simp
    have E:A++u::(j++t::d)=(A++u::j)++t::d:=by simp
    rw[f,E,bg (by simp[o,g,a,G]),bg (by simp[o,g,G])]
    cases d<;>cases A<;>rfl
theorem nC{es:En}{e:Nat×Nat}{t p:Nat}(h:t<es.length):leave (es++[e]) t p=leave es t p:=by
 unfold leave;rw[G5 h]
theorem tD{es:En}{e:Nat×Nat}{p:Nat}:leave (es++[e]) es.length p=if e.1=p then 2*es.length else 2*es.length+1:=by
 unfold leave;rw[G3 (G0 _),Hw];rfl
theorem o7{es:En}{e:Nat×Nat}{d:Nat}(h:d<2*es.length):hd (es++[e]) d=hd es d:=by
 unfold hd;rw[G5 ∅]
theorem hd_new{es:En}{e:Nat×Nat}:hd (es++[e]) (2*es.length)=e.2/\hd (es++[e]) (2*es.length+1)=e.1:=by
 have f:2*es.length/2=es.length:=by omega
 have E:(2*es.length+1)/2=es.length:=by omega
 constructor
 .unfold hd;rw[f,G3 (G0 _),Hw];show(if 2*es.length%2=0 then e.2 else e.1)=_;rw[Np ∅]
 .unfold hd;rw[E,G3 (G0 _),Hw];show(if(2*es.length+1)%2=0 then e.2 else e.1)=_;rw[Nq ∅]
theorem hd_inj{es:En}(w:bD m es ts){a b:Nat}(G:a<2*es.length)(L:b<2*es.length)(h:hd es a=hd es b)(h2:a/2=b/2):a=b:=by
 obtain⟨f,_,B,o,_⟩:=w.at G;obtain⟨E,_,j,J,_⟩:=w.at L;rw[h2,j]at B
 cases B
 have D:=(w.ends f (GW j)).2.2;rw[o,J]at h;by_cases H:a%2=0<;>by_cases g:b%2=0
 .omega
 .rw[Np H,Nq g]at h;exact Nr h.symm D
 .rw[Nq H,Np g]at h;exact Nr h D
 .omega
def i5(n:Nat)(e:Nat×Nat)(p:Nat):Nat:=if e.1=p then 2*n else 2*n+1
theorem fB{es:En}{d:Nat}(h:ts[hd es d]?=some l):fol es ts d=leave es (nxt l (d/2)) (hd es d):=by
 unfold fol;rw[h];rfl
theorem bD.flip{es:En}{a b:Nat}(w:bD m (es++[(a,b)]) ts):bD m (es++[(b,a)]) ts:=by
 have B:∀(x y:Nat)(t p:Nat),(∃ e,(es++[(x,y)])[t]?=some e/\(e.1=p∨e.2=p))->∃ e,(es++[(y,x)])[t]?=some e/\(e.1=p∨e.2=p):=λx y t p=>by
  rintro⟨e,J,Y⟩;by_cases z:t<es.length
  .rw[G5 z]at J;exact⟨e,by rw[G5 z];exact J,Y⟩
  .have G:=(GV.mp J).1
   rw[GZ,Hd]at G;have r:t=es.length:=by omega
   subst r;rw[G3 (G0 _),Hw]at J
   cases J
   exact⟨(y,x),by rw[G3 (G0 _),Hw];rfl,Y.symm⟩
 refine⟨w.len,λe n=>?_,w.nd,λp l h t=>⟨λz=>B a b t p ((w.mem p l h t).mp z),λz=>(w.mem p l h t).mpr (B b a t p z)⟩⟩;rcases Hc.mp n with z|z
 .exact w.ends e (HL _ z)
 .have:e=(b,a):=by simpa using z
  subst this;obtain⟨J,Y,A⟩:=w.ends (a,b) (by simp)
  exact⟨Y,J,λy=>A y.symm⟩
theorem bD.room{es:En}(w:bD m es ts):bD (m+1) es (ts++[[]]):=by
 refine⟨by rw[GZ,w.len];rfl,λe n=>?_,λp l h=>?_,λp l h t=>?_⟩
 .obtain⟨J,Y,A⟩:=w.ends e n;exact⟨∅,∅,A⟩
 all_goals by_cases z:p<ts.length
 .rw[G5 z]at h;exact w.nd p l h
 .have G:=(GV.mp h).1
  rw[GZ,Hd]at G;have r:p=ts.length:=by omega
  subst r;rw[G3 (G0 _),Hw]at h
  cases h
  exact IE
 .rw[G5 z]at h;exact w.mem p l h t
 .have G:=(GV.mp h).1
  rw[GZ,Hd]at G;have r:p=ts.length:=by omega
  subst r;rw[G3 (G0 _),Hw]at h
  cases h
  refine⟨(λy=>nomatch y),?_⟩;rintro⟨e,J,Y⟩;obtain⟨M,I,_⟩:=w.ends e (GW J);have:=w.len;omega
theorem Gx{es:En}(w:bD m es ts){p:Nat}(h:ts[p]?=some l):es.length∉l:=λz=>by
 obtain⟨x,O,_⟩:=(w.mem p l h es.length).mp z;have:=(GV.mp O).1;omega
theorem vN{es:En}{ts':List (List Nat)}{e:Nat×Nat}{p u:Nat}(w:bD m es ts)(hl:ts[p]?=some l)(hu:u<2*es.length)(g:hd es u=p)(c:ts'[p]?=some (ins l (l.idxOf (u/2)+1) es.length)):
  fol (es++[e]) ts' u=i5 es.length e p/\(∀ b,b/2=es.length->hd (es++[e]) b=p->fol (es++[e]) ts' b=fol es ts u)/\∀ d,d<2*es.length->d≠u->hd es d=p->fol (es++[e]) ts' d=fol es ts d:=by
 obtain⟨_,k,_,_,_,_,n,o⟩:=w.at hu;rw[g,hl]at n
 cases n
 have nn:=Gx w hl;obtain⟨i,v,a⟩:=FX o nn;have lt:∀ t∈l,nxt l t<es.length:=λt T=>by
  obtain⟨x,O,_⟩:=(w.mem p l hl (nxt l t)).mp (GW (gp T));exact(GV.mp O).1
 refine⟨?_,λb L q=>?_,λd f D j=>?_⟩
 .rw[fB (l:=ins l (l.idxOf (u/2)+1) es.length) (by rw[o7 hu,g];exact c),i,o7 hu,g,tD]
  rfl
 .rw[fB (l:=ins l (l.idxOf (u/2)+1) es.length) (by rw[q];exact c),L,v,q,nC (lt _ o),fB (l:=l) (by rw[g];exact hl),g]
 .obtain⟨_,k,_,_,_,_,I,h⟩:=w.at f;rw[j,hl]at I
  cases I
  have r:d/2≠u/2:=λz=>D (hd_inj w f hu (j.trans g.symm) z);rw[fB (l:=ins l (l.idxOf (u/2)+1) es.length) (by rw[o7 f,j];exact c),a _ h r,o7 f,j,nC (lt _ h),fB (l:=l) (by rw[j];exact hl),j]
theorem ye{es:En}{ts':List (List Nat)}{e:Nat×Nat}(w:bD m es ts){d:Nat}(f:d<2*es.length)(h:ts'[hd es d]?=ts[hd es d]?):fol (es++[e]) ts' d=fol es ts d:=by
 obtain⟨_,l,_,_,_,_,I,a⟩:=w.at f;have lt:nxt l (d/2)<es.length:=by
  obtain⟨x,O,_⟩:=(w.mem _ l I (nxt l (d/2))).mp (GW (gp a));exact(GV.mp O).1
 rw[fB (l:=l) (by rw[o7 f,h];exact I),o7 f,nC lt,fB I]
theorem cE(n:Nat)(e:Nat×Nat)(p:Nat):i5 n e p/2=n:=by
 unfold i5;split<;>omega
theorem yh{es:En}{one two:Nat}{e:Nat×Nat}(D:one≠two)(n:e=(one,two)∨e=(two,one)):hd (es++[e]) (i5 es.length e one)=two/\hd (es++[e]) (i5 es.length e two)=one/\i5 es.length e one≠i5 es.length e two/\∀ d,d<2*(es.length+1)->d<2*es.length∨d=i5 es.length e one∨d=i5 es.length e two:=by
 obtain⟨J,Y⟩:=hd_new (es:=es) (e:=e);unfold i5;rcases n with n|n
 .have c1:e.1=one:=by rw[n]
  have c2:¬ e.1=two:=by rw[n];exact D
  have c3:e.2=two:=by rw[n]
  rw[Np c1,Nq c2,J,Y];exact⟨c3,c1,∅,λd hd=>by omega⟩
 .have c1:e.1=two:=by rw[n]
  have c2:¬ e.1=one:=by rw[n];exact λz=>D z.symm
  have c3:e.2=one:=by rw[n]
  rw[Np c1,Nq c2,J,Y];exact⟨c1,c3,∅,λd hd=>by omega⟩
def par(S:Nat->Bool):List Nat->Bool
 |[]=>false
 |d::l=>S (d/2) ^^ par S l
theorem bK(S:Nat->Bool)(d:Nat)(l:List Nat):par S (d::l)=(S (d/2) ^^ par S l):=rfl
theorem AG(S:Nat->Bool):∀ a b:List Nat,par S (a++b)=(par S a ^^ par S b)
 |[],b=>by show par S b=(false ^^ par S b);rw[Kl]
 |x::a,b=>by rw[Lj,bK,bK,AG S a b,Bool.xor_assoc]
def Cp(es:En)(S g:Nat->Bool):Prop:=∀(t:Nat)(e:Nat×Nat),es[t]?=some e->S t=(g e.1 ^^ g e.2)
theorem yk{es:En}{S g:Nat->Bool}(h:Cp es S g){d:Nat}(o:d<2*es.length):S (d/2)=(g (tl es d) ^^ g (hd es d)):=by
 have f:es[d/2]?=some (es[d/2]'∅):=GU _
 rw[h _ _ f];unfold tl hd;rw[f];show _=(g (if d%2=0 then es[d/2].1 else es[d/2].2) ^^ g (if d%2=0 then es[d/2].2 else es[d/2].1));split
 .rfl
 .exact Bool.xor_comm _ _
theorem yi{m:Nat}{es:En}{ts:List (List Nat)}{S g:Nat->Bool}(w:bD m es ts)(h:Cp es S g):∀{x:Nat}{l:List Nat}{z:Nat},chain (fol es ts) x l z->x<2*es.length->(∀ t∈l,t<2*es.length)->z<2*es.length->par S (l++[z])=(g (hd es x) ^^ g (hd es z))
 |x,[],z,c,O,_,f=>by
  obtain⟨_,_,_,_,_,_,_,_,_,_,k⟩:=w.foll O;have C:fol es ts x=z:=c;rw[List.nil_append,bK,yk h f,← C,k];exact Ju _
 |x,a::l,z,c,O,G,f=>by
  obtain⟨_,_,_,_,_,_,_,_,_,_,k⟩:=w.foll O;have o:=G a (G9 ..);rw[Lj,bK,yi w h c.2 o (λt T=>G t (G4 _ T)) f,yk h o,← c.1,k]
  cases g (hd es x)<;>cases g (hd es (fol es ts x))<;>cases g (hd es z)<;>rfl
structure Gr(m:Nat)(es:En)(ts:List (List Nat)):Prop where
 w:bD m es ts
 part:∃ rs,Part (fol es ts) (2*es.length) rs/\m+rs.length=es.length+2
 conn:∀ S:Nat->Prop,(∀ e∈es,S e.1↔S e.2)->∀ p q,p<m->q<m->S p->S q
theorem CR.mono{f g:Nat->Nat}{r:List Nat}(h:CR f N r)(a:N<=M)(k:∀ t∈r,g t=f t):CR g M r:=by
 obtain⟨x,l,rfl,c⟩:=h.ch;exact⟨⟨x,l,rfl,kW c (k x (G9 ..)) λt T=>k t (G4 _ T)⟩,λd hd=>Hv (h.lt d hd) a,h.nd⟩
theorem Ea{es:En}{e:Nat×Nat}(c:∀ S:Nat->Prop,(∀ e∈es,S e.1↔S e.2)->∀ p q,p<m->q<m->S p->S q):∀ S:Nat->Prop,(∀ x∈es++[e],S x.1↔S x.2)->∀ p q,p<m->q<m->S p->S q :=
 λS h=>c S λx O=>h x (HL _ O)
theorem Gr.join{es:En}(g:Gr m es ts){left right one two:Nat}{e:Nat×Nat}{tail:List Nat}(hl:left<2*es.length)(N:CR (fol es ts) (2*es.length) (left::tail))(aa:chain (fol es ts) left tail left)(A:right∈left::tail)(J:hd es left=one)(h2:hd es right=two)(h:one≠two)(n:e=(one,two)∨e=(two,one))(e1:ts[one]?=some l)(E:ts[two]?=some l'):
  Gr m (es++[e]) ((ts.set one (ins l (l.idxOf (left/2)+1) es.length)).set two (ins l' (l'.idxOf (right/2)+1) es.length)):=by
 have w:=g.w;have aT:right<2*es.length:=N.lt right A;have Y:=w.len;have o1:one<m:=by rw[← Y];exact(GV.mp e1).1
 have o2:two<m:=by rw[← Y];exact(GV.mp E).1
 have W:bD m (es++[e]) ((ts.set one (ins l (l.idxOf (left/2)+1) es.length)).set two (ins l' (l'.idxOf (right/2)+1) es.length)):=by
  rcases n with rfl|rfl
  .exact w.put o1 o2 h e1 E
  .exact(w.put o1 o2 h e1 E).flip
 have B:((ts.set one (ins l (l.idxOf (left/2)+1) es.length)).set two (ins l' (l'.idxOf (right/2)+1) es.length))[one]?=some (ins l (l.idxOf (left/2)+1) es.length):=by
  rw[HH,Nq (λz=>h z.symm),HH,Np rfl,Np (by rw[Y];exact o1)]
 have o:((ts.set one (ins l (l.idxOf (left/2)+1) es.length)).set two (ins l' (l'.idxOf (right/2)+1) es.length))[two]?=some (ins l' (l'.idxOf (right/2)+1) es.length):=by
  rw[HH,Np rfl,Np (by rw[HG,Y];exact o2)]
 have r3:∀ p,p≠one->p≠two->((ts.set one (ins l (l.idxOf (left/2)+1) es.length)).set two (ins l' (l'.idxOf (right/2)+1) es.length))[p]?=ts[p]?:=λp n1 n2=>by
  rw[HH,Nq (λz=>n2 z.symm),HH,Nq (λz=>n1 z.symm)]
 generalize (ts.set one (ins l (l.idxOf (left/2)+1) es.length)).set two (ins l' (l'.idxOf (right/2)+1) es.length)=ts' at W B o r3;obtain⟨r,c,a3⟩:=vN (e:=e) w e1 hl J B;obtain⟨b1,b2,b3⟩:=vN (e:=e) w E aT h2 o;obtain⟨d1,d2,d3,d4⟩:=yh (es:=es) h n;have fa:=b2 _ (cE _ _ _) d1;have fb:=c _ (cE _ _ _) d2;have an:∀ d,d<2*es.length->d≠left->d≠right->fol (es++[e]) ts' d=fol es ts d:=λd f n1 n2=>by
  by_cases H:hd es d=one
  .exact a3 d f n1 H
  .by_cases i:hd es d=two
   .exact b3 d f n2 i
   .exact ye w f (r3 _ H i)
 generalize G:i5 es.length e one=α at *;generalize L:i5 es.length e two=β at *;have aW:α/2=es.length:=by rw[← G];exact cE _ _ _
 have a0:β/2=es.length:=by rw[← L];exact cE _ _ _
 have aS:right≠left:=λz=>h (by rw[← J,← h2,z])
 have a4:right∈tail:=by
  rcases G6.mp A with z|z
  .exact Nr z aS
  .exact z
 obtain⟨D,k,rfl⟩:=Kk a4;obtain⟨c1,c2⟩:=gN.mp aa;have s:=N.nd;have ac:∀ t∈D,t<2*es.length/\t≠left/\t≠right:=λt T=>by
  refine⟨N.lt t (by simp[T]),λz=>?_,λz=>?_⟩
  .subst z;exact(Hf.mp s).1 (by simp[T])
  .subst z;have:=(Ht.mp (Hf.mp s).2).2.2 t T t (by simp)
   exact this rfl
 have ae:∀ t∈k,t<2*es.length/\t≠left/\t≠right:=λt T=>by
  refine⟨N.lt t (by simp[T]),λz=>?_,λz=>?_⟩
  .subst z;exact(Hf.mp s).1 (by simp[T])
  .subst z;exact(Hf.mp (Ht.mp (Hf.mp s).2).2.1).1 T
 obtain⟨v,p,cnt⟩:=g.part;obtain⟨rest,pr,aL⟩:=p.pick N;have am:=pr.nd;rw[HW]at am;obtain⟨_,aI,al⟩:=Ht.mp am;have ap:∀ t∈rest.flatten,t<2*es.length/\t≠left/\t≠right:=λt T=>by
  obtain⟨q,j,C⟩:=HN.mp T;exact⟨(pr.cr q (G4 _ j)).lt t C,λz=>al left (by simp) t T z.symm,λz=>al right (by simp) t T z.symm⟩
 have ab:(es++[e]).length=es.length+1:=by rw[GZ];rfl
 refine⟨W,⟨(left::α::k)::(right::β::D)::rest,⟨λq M=>?_,?_,λd f=>?_⟩,by rw[ab];simp only[Hk]at aL ⊢;omega⟩,Ea g.conn⟩
 .rcases G6.mp M with z|z
  .subst z;refine⟨⟨left,α::k,rfl,r,kW c2 fa λt T=>an t (ae t T).1 (ae t T).2.1 (ae t T).2.2⟩,λd f=>?_,?_⟩
   .rw[ab];simp only[G6]at f;rcases f with y|y|y
    .omega
    .omega
    .have:=(ae d y).1;omega
   .refine Hf.mpr ⟨λy=>?_,Hf.mpr ⟨λy=>?_,?_⟩⟩
    .rcases G6.mp y with y|y
     .omega
     .exact(ae _ y).2.1 rfl
    .have:=(ae _ y).1;omega
    .exact(Hf.mp (Ht.mp (Hf.mp s).2).2.1).2
  .rcases G6.mp z with z|z
   .subst z;refine⟨⟨right,β::D,rfl,b1,kW c1 fb λt T=>an t (ac t T).1 (ac t T).2.1 (ac t T).2.2⟩,λd f=>?_,?_⟩
    .rw[ab];simp only[G6]at f;rcases f with y|y|y
     .omega
     .omega
     .have:=(ac d y).1;omega
    .refine Hf.mpr ⟨λy=>?_,Hf.mpr ⟨λy=>?_,?_⟩⟩
     .rcases G6.mp y with y|y
      .omega
      .exact(ac _ y).2.2 rfl
     .have:=(ac _ y).1;omega
     .exact(Ht.mp (Hf.mp s).2).1
   .refine(pr.cr q (G4 _ z)).mono (by rw[ab];omega) λt T=>?_
    obtain⟨k1,I,k3⟩:=ap t (HN.mpr ⟨q,z,T⟩);exact an t k1 I k3
 .have a5:∀ x∈D,∀ y∈k,x≠y:=λx O y Q=>(Ht.mp (Hf.mp s).2).2.2 x O y (by simp[Q])
  rw[HW,HW];refine Ht.mpr ⟨?_,Ht.mpr ⟨?_,aI,λa G b L=>?_⟩,λa G b L=>?_⟩
  .refine Hf.mpr ⟨λy=>?_,Hf.mpr ⟨λy=>?_,(Hf.mp (Ht.mp (Hf.mp s).2).2.1).2⟩⟩
   .rcases G6.mp y with y|y
    .omega
    .exact(ae _ y).2.1 rfl
   .have:=(ae _ y).1;omega
  .refine Hf.mpr ⟨λy=>?_,Hf.mpr ⟨λy=>?_,(Ht.mp (Hf.mp s).2).1⟩⟩
   .rcases G6.mp y with y|y
    .omega
    .exact(ac _ y).2.2 rfl
   .have:=(ac _ y).1;omega
  .obtain⟨k1,I,k3⟩:=ap b L;simp only[G6]at G;rcases G with y|y|y
   .exact λz=>k3 (z▸y)
   .omega
   .exact al a (by simp[y]) b L
  .simp only[G6,Hc]at G L;rcases L with(y|y|y)|y
   .rcases G with z|z|z
    .exact λu=>aS (by rw[← y,← u,z])
    .have:=aT;omega
    .exact λu=>(ae a z).2.2 (u.trans y)
   .rcases G with z|z|z
    .omega
    .omega
    .have:=(ae a z).1;omega
   .rcases G with z|z|z
    .exact λu=>(ac b y).2.1 (u▸z)
    .have:=(ac b y).1;omega
    .exact λu=>a5 b y a z u.symm
   .obtain⟨k1,I,k3⟩:=ap b y;rcases G with z|z|z
    .exact λu=>I (u▸z)
    .omega
    .exact al a (by simp[z]) b y
 .rw[ab]at f;simp only[HW,Hc,G6];rcases d4 d f with y|y|y
  .have:=pr.all d y
   simp only[HW,Hc,G6]at this;rcases this with(z|z|z|z)|z
   .exact .inl (.inl z)
   .exact .inr (.inl (.inr (.inr z)))
   .exact .inr (.inl (.inl z))
   .exact .inl (.inr (.inr z))
   .exact .inr (.inr z)
  .exact .inl (.inr (.inl y))
  .exact .inr (.inl (.inr (.inl y)))
theorem Gr.leaf{es:En}(g:Gr m es ts){left one:Nat}{e:Nat×Nat}{tail:List Nat}(hl:left<2*es.length)(N:CR (fol es ts) (2*es.length) (left::tail))(ab:chain (fol es ts) left tail left)(J:hd es left=one)(n:e=(one,m)∨e=(m,one))(e1:ts[one]?=some l):
  Gr (m+1) (es++[e]) (ts.set one (ins l (l.idxOf (left/2)+1) es.length)++[[es.length]]):=by
 have w:=g.w;have Y:=w.len;have o1:one<m:=by rw[← Y];exact(GV.mp e1).1
 have D:one≠m:=by omega
 have W:bD (m+1) (es++[e]) (ts.set one (ins l (l.idxOf (left/2)+1) es.length)++[[es.length]]):=by
  have q:=w.room.put (one:=one) (two:=m) (k:=l.idxOf (left/2)+1) (j:=0) (l:=l) (l':=[]) ∅ ∅ D (by rw[G5 ∅];exact e1) (by rw[G3 ∅,Y,Hw];rfl)
  have C:((ts++[[]]).set one (ins l (l.idxOf (left/2)+1) es.length)).set m (ins [] 0 es.length)=ts.set one (ins l (l.idxOf (left/2)+1) es.length)++[[es.length]]:=by
   rw[List.set_append_left _ _ ∅,List.set_append_right _ _ (by rw[HG];omega),HG,Y,Hw]
   rfl
  rw[C]at q;rcases n with rfl|rfl
  .exact q
  .exact q.flip
 have B:(ts.set one (ins l (l.idxOf (left/2)+1) es.length)++[[es.length]])[one]?=some (ins l (l.idxOf (left/2)+1) es.length):=by
  rw[G5 (by rw[HG];omega),HH,Np rfl,Np ∅]
 have o:(ts.set one (ins l (l.idxOf (left/2)+1) es.length)++[[es.length]])[m]?=some [es.length]:=by
  rw[G3 (by rw[HG];omega),HG,Y,Hw]
  rfl
 have r3:∀ p,p≠one->p<m->(ts.set one (ins l (l.idxOf (left/2)+1) es.length)++[[es.length]])[p]?=ts[p]?:=λp i n2=>by
  rw[G5 (by rw[HG];omega),HH,Nq (λz=>i z.symm)]
 generalize ts.set one (ins l (l.idxOf (left/2)+1) es.length)++[[es.length]]=ts' at W B o r3;obtain⟨r,c,a3⟩:=vN (e:=e) w e1 hl J B;obtain⟨d1,d2,d3,d4⟩:=yh (es:=es) D n;have fb:=c _ (cE _ _ _) d2;have fa:fol (es++[e]) ts' (i5 es.length e one)=i5 es.length e m:=by
  rw[fB (l:=[es.length]) (by rw[d1];exact o),cE,d1]
  have:nxt [es.length] es.length=es.length:=by
   unfold nxt;rw[List.idxOf_cons_self];simp
  rw[this,tD];rfl
 have am:∀ d,d<2*es.length->d≠left->fol (es++[e]) ts' d=fol es ts d:=λd f i=>by
  by_cases H:hd es d=one
  .exact a3 d f i H
  .obtain⟨_,_,_,_,_,k4,_⟩:=w.at f;exact ye w f (r3 _ H k4)
 generalize G:i5 es.length e one=α at *;generalize L:i5 es.length e m=β at *;have a0:α/2=es.length:=by rw[← G];exact cE _ _ _
 have a4:β/2=es.length:=by rw[← L];exact cE _ _ _
 have s:=N.nd;have ap:∀ t∈tail,t<2*es.length/\t≠left:=λt T=>⟨N.lt t (by simp[T]),λz=>(Hf.mp s).1 (z▸T)⟩
 obtain⟨v,p,cnt⟩:=g.part;obtain⟨rest,pr,aL⟩:=p.pick N;have al:=pr.nd;rw[HW]at al;obtain⟨_,aI,ae⟩:=Ht.mp al;have an:∀ t∈rest.flatten,t<2*es.length/\t≠left:=λt T=>by
  obtain⟨q,E,C⟩:=HN.mp T;exact⟨(pr.cr q (G4 _ E)).lt t C,λz=>ae left (by simp) t T z.symm⟩
 have ac:(es++[e]).length=es.length+1:=by rw[GZ];rfl
 have aT:(left::α::β::tail).Nodup:=by
  refine Hf.mpr ⟨λy=>?_,Hf.mpr ⟨λy=>?_,Hf.mpr ⟨λy=>?_,(Hf.mp s).2⟩⟩⟩
  .simp only[G6]at y;rcases y with y|y|y
   .omega
   .omega
   .exact(ap _ y).2 rfl
  .simp only[G6]at y;rcases y with y|y
   .exact d3 y
   .have:=(ap _ y).1;omega
  .have:=(ap _ y).1;omega
 refine⟨W,⟨(left::α::β::tail)::rest,⟨λq M=>?_,?_,λd f=>?_⟩,by rw[ac];simp only[Hk]at aL ⊢;omega⟩,λS I x y O Q sx=>?_⟩
 .rcases G6.mp M with z|z
  .subst z;refine⟨⟨left,α::β::tail,rfl,r,fa,kW ab fb λt T=>am t (ap t T).1 (ap t T).2⟩,λd f=>?_,aT⟩;rw[ac];simp only[G6]at f;rcases f with y|y|y|y
   .omega
   .omega
   .omega
   .have:=(ap d y).1;omega
  .refine(pr.cr q (G4 _ z)).mono (by rw[ac];omega) λt T=>?_
   obtain⟨A,h⟩:=an t (HN.mpr ⟨q,z,T⟩);exact am t A h
 .rw[HW];refine Ht.mpr ⟨aT,aI,λa G b L=>?_⟩;obtain⟨A,h⟩:=an b L;simp only[G6]at G;rcases G with y|y|y|y
  .exact λu=>h (u▸y)
  .omega
  .omega
  .exact ae a (by simp[y]) b L
 .rw[ac]at f;simp only[HW,Hc,G6];rcases d4 d f with y|y|y
  .have:=pr.all d y
   simp only[HW,Hc,G6]at this;rcases this with(z|z)|z
   .exact .inl (.inl z)
   .exact .inl (.inr (.inr (.inr z)))
   .exact .inr z
  .exact .inl (.inr (.inl y))
  .exact .inl (.inr (.inr (.inl y)))
 .skip
  have aW:S one↔S m:=by
   have:=I e (by simp)
   rcases n with rfl|rfl
   .exact this
   .exact this.symm
  have aa:=g.conn S λx O=>I x (HL _ O);have aS:S one:=by
   by_cases z:x<m
   .exact aa x one z o1 sx
   .have:x=m:=by omega
    subst this;exact aW.mpr sx
  by_cases z:y<m
  .exact aa one y o1 z aS
  .have:y=m:=by omega
   subst this;exact aW.mp aS
theorem gr_two:Gr 2 [(0,1)] [[0],[0]]:=by
 have W:bD 2 [(0,1)] [[0],[0]]:=by
  refine⟨rfl,λe n=>?_,λp l h=>?_,λp l h t=>?_⟩
  .have:e=(0,1):=by simpa using n
   subst this;exact⟨by decide,by decide,by decide⟩
  .match p,h with
   |0,h=>cases h;decide
   |1,h=>cases h;decide
   |p+2,h=>cases h
  .have B:(∃ e,([(0,1)]:En)[t]?=some e/\(e.1=p∨e.2=p))↔t=0/\(p=0∨p=1):=by
    constructor
    .rintro⟨e,J,Y⟩;match t,J with
     |0,J=>cases J;exact⟨rfl,Y.imp Eq.symm Eq.symm⟩
     |t+1,J=>cases J
    .rintro⟨rfl,Y⟩;exact⟨(0,1),rfl,Y.imp Eq.symm Eq.symm⟩
   rw[B];match p,h with
   |0,h=>cases h;simp
   |1,h=>cases h;simp
   |p+2,h=>cases h
 refine⟨W,⟨[[0,1]],⟨λr N=>?_,by decide,λd hd=>?_⟩,rfl⟩,λS x p q g M f=>?_⟩
 .have:r=[0,1]:=by simpa using N
  subst this;exact⟨⟨0,[1],rfl,by decide,(by show fol [(0,1)] [[0],[0]] 1=0;decide)⟩,λd hd=>by simp at hd ⊢;omega,by decide⟩
 .have G:d<2:=hd
  simp;omega
 .have:=x (0,1) (by simp)
  have c:S 0↔S 1:=this;have b:p=0∨p=1:=by omega
  have a:q=0∨q=1:=by omega
  rcases b with rfl|rfl<;>rcases a with rfl|rfl
  .exact f
  .exact c.mp f
  .exact c.mpr f
  .exact f
structure Bij(F:Nat->Nat)(n:Nat):Prop where
 lt:∀ k,k<n->F k<n
 inj:∀ a b,a<n->b<n->F a=F b->a=b
 sur:∀ y,y<n->∃ k,k<n/\F k=y
def ofL(o:List Nat)(k:Nat):Nat:=(o[k]?).getD 0
theorem yo{o:List Nat}(hl:o.length=n)(nd:o.Nodup)(h:∀ x∈o,x<n):Bij (ofL o) n:=by
 have get:∀ k,k<n->o[k]?=some (ofL o k):=λk D=>by
  unfold ofL;rw[GU ∅]
  rfl
 refine⟨λk D=>h _ (GW (get k D)),λa b G L e=>xW nd (get a G) (by rw[get b L,e]),λy Q=>?_⟩
 have A:y∈o:=by
  by_cases z:y∈o
  .exact z
  .have:=cV (a:=y::o) (N:=n) (Hf.mpr ⟨z,nd⟩) λx O=>by
    rcases G6.mp O with u|u
    .omega
    .exact h x u
   rw[Hk]at this;omega
 obtain⟨k,D⟩:=HU.mp A;have c:=(GV.mp D).1;refine⟨k,∅,?_⟩
 have:=get k ∅
 rw[D]at this;exact(Hq this).symm
theorem xV{F:Nat->Nat}:∀{l:List Nat},l.Nodup->(∀ x∈l,∀ y∈l,F x=F y->x=y)->(l.map F).Nodup
 |[],_,_=>IE
 |a::l,s,h=>by
  obtain⟨i,v⟩:=Hf.mp s;refine Hf.mpr ⟨λz=>?_,xV v λx O y Q=>h x (G4 _ O) y (G4 _ Q)⟩;obtain⟨x,O,e⟩:=HS.mp z;have:=h x (G4 _ O) a (G9 ..) e;exact i (this▸O)
theorem FW{F:Nat->Nat}{t:Nat}(T:t∈l)(h:∀ x∈l,F x=F t->x=t):nxt (l.map F) (F t)=F (nxt l t):=by
 obtain⟨A,B,rfl,k⟩:=fO T;have G:F t∉A.map F:=λz=>by
  obtain⟨x,O,e⟩:=HS.mp z;exact k (h x (by simp[O]) e▸O)
 rw[Hm,Hu,bg G,bg k]
 cases B<;>cases A<;>rfl
theorem FV{X Y:List Nat}{t:Nat}(nd:(X++Y).Nodup)(T:t∈X++Y):nxt (Y++X) t=nxt (X++Y) t:=by
 obtain⟨i,v,a⟩:=Ht.mp nd;rcases Hc.mp T with z|z
 .have b:t∉Y:=λy=>a t z t y rfl
  obtain⟨A,B,rfl,k⟩:=fO z;have f:Y++(A++t::B)=(Y++A)++t::B:=by simp
  have E:(A++t::B)++Y=A++t::(B++Y):=by simp
  rw[f,E,bg (by simp[b,k]),bg k]
  cases B<;>cases Y<;>cases A<;>rfl
 .have c:t∉X:=λy=>a t y t z rfl
  obtain⟨A,B,rfl,k⟩:=fO z;have f:(A++t::B)++X=A++t::(B++X):=by simp
  have E:X++(A++t::B)=(X++A)++t::B:=by simp
  rw[f,E,bg k,bg (by simp[c,k])]
  cases B<;>cases X<;>cases A<;>rfl
structure Ren(m:Nat)(es es2:En)(ts ts2:List (List Nat))(π σ:Nat->Nat):Prop where
 pi:Bij π m
 si:Bij σ es.length
 l1:es2.length=es.length
 l2:ts2.length=m
 es:∀(k:Nat)(e:Nat×Nat),es[k]?=some e->es2[σ k]?=some (π e.1,π e.2)
 ts:∀(p:Nat)(l:List Nat),ts[p]?=some l->∃ X Y,l=X++Y/\ts2[π p]?=some ((Y++X).map σ)
section
variable{m:Nat}{es es2:En}{ts ts2:List (List Nat)}{π σ:Nat->Nat}
theorem Ren.es'(R:Ren m es es2 ts ts2 π σ){x:Nat×Nat}(h:es2[j]?=some x):∃ k e,σ k=j/\es[k]?=some e/\x=(π e.1,π e.2):=by
 have N:=(GV.mp h).1;rw[R.l1]at N;obtain⟨k,D,rfl⟩:=R.si.sur j N;have f:es[k]?=some es[k]:=GU D;have:=R.es k _ f;rw[h]at this;exact⟨k,_,rfl,f,Hq this⟩
theorem Ren.ts'(R:Ren m es es2 ts ts2 π σ)(w:bD m es ts){L:List Nat}(h:ts2[j]?=some L):∃ p l X Y,p<m/\π p=j/\ts[p]?=some l/\l=X++Y/\L=(Y++X).map σ:=by
 have N:=(GV.mp h).1;rw[R.l2]at N;obtain⟨p,g,rfl⟩:=R.pi.sur j N;have f:ts[p]?=some (ts[p]'(by rw[w.len];exact g)):=GU _
 obtain⟨X,Y,J,B⟩:=R.ts p _ f;rw[h]at B;exact⟨p,_,X,Y,g,rfl,f,J,Hq B⟩
theorem lV(w:bD m es ts){p:Nat}(h:ts[p]?=some l){t:Nat}(T:t∈l):t<es.length:=by
 obtain⟨x,O,_⟩:=(w.mem p l h t).mp T;exact(GV.mp O).1
theorem Ren.turn(R:Ren m es es2 ts ts2 π σ)(w:bD m es ts):bD m es2 ts2:=by
 refine⟨R.l2,λx O=>?_,λj L h=>?_,λj L h t=>?_⟩
 .obtain⟨j,N⟩:=HU.mp O;obtain⟨k,e,_,J,rfl⟩:=R.es' N;obtain⟨r,c,C⟩:=w.ends e (GW J);exact⟨R.pi.lt _ r,R.pi.lt _ c,λz=>C (R.pi.inj _ _ r c z)⟩
 .obtain⟨p,l,X,Y,g,rfl,J,rfl,rfl⟩:=R.ts' w h;have s:=w.nd p _ J;obtain⟨i,v,T⟩:=Ht.mp s;refine xV (Ht.mpr ⟨v,i,λa G b d z=>T b d a G z.symm⟩) λx O y Q=>R.si.inj x y (lV w J ?_) (lV w J ?_)
  .simp only[Hc]at O ⊢;exact O.symm
  .simp only[Hc]at Q ⊢;exact Q.symm
 .obtain⟨p,l,X,Y,g,rfl,J,rfl,rfl⟩:=R.ts' w h;constructor
  .intro z;obtain⟨k,D,rfl⟩:=HS.mp z;obtain⟨e,B,A⟩:=(w.mem p _ J k).mp (by simp only[Hc]at D ⊢;exact D.symm)
   exact⟨_,R.es k e B,A.imp (congrArg π) (congrArg π)⟩
  .rintro⟨x,B,A⟩;obtain⟨k,e,rfl,M,rfl⟩:=R.es' B;obtain⟨r,c,C⟩:=w.ends e (GW M);have D:=(w.mem p _ J k).mpr ⟨e,M,A.imp (R.pi.inj _ _ r g) (R.pi.inj _ _ c g)⟩;exact HS.mpr ⟨k,by simp only[Hc]at D ⊢;exact D.symm,rfl⟩
def Phi(σ:Nat->Nat)(d:Nat):Nat:=2*σ (d/2)+d%2
theorem mT(d:Nat):Phi σ d/2=σ (d/2):=by unfold Phi;omega
theorem Ren.hd(R:Ren m es es2 ts ts2 π σ){d:Nat}(o:d<2*es.length):hd es2 (Phi σ d)=π (hd es d):=by
 have f:es[d/2]?=some (es[d/2]'∅):=GU _
 have E:=R.es _ _ f;unfold K8.hd;rw[mT,f,E];have y:Phi σ d%2=d%2:=by unfold Phi;omega
 show(if Phi σ d%2=0 then π es[d/2].2 else π es[d/2].1)=π (if d%2=0 then es[d/2].2 else es[d/2].1);rw[y];split<;>rfl
theorem Ren.fol(R:Ren m es es2 ts ts2 π σ)(w:bD m es ts){d:Nat}(o:d<2*es.length):fol es2 ts2 (Phi σ d)=Phi σ (fol es ts d):=by
 obtain⟨_,l,_,_,_,u,I,h⟩:=w.at o;obtain⟨X,Y,rfl,B⟩:=R.ts _ _ I;have s:=w.nd _ _ I;rw[fB (l:=(Y++X).map σ) (by rw[R.hd o];exact B),fB I,mT,R.hd o]
 have a:d/2∈Y++X:=by simp only[Hc]at h ⊢;exact h.symm
 rw[FW a λx O=>R.si.inj x _ (lV w I (by simp only[Hc]at O ⊢;exact O.symm)) (lV w I h),FV s h]
 have T:=GW (gp h);have G:=lV w I T;generalize nxt (X++Y) (d/2)=t at G;have f:es[t]?=some es[t]:=GU G;have r:=(w.ends _ (GW f)).1;unfold leave;rw[R.es _ _ f,f];show(if π es[t].1=π (K8.hd es d) then 2*σ t else 2*σ t+1)=Phi σ (if es[t].1=K8.hd es d then 2*t else 2*t+1);by_cases z:es[t].1=K8.hd es d
 .rw[Np z,Np (congrArg π z)];unfold Phi;rw[show 2*t/2=t by omega]
  omega
 .rw[Nq z,Nq (λy=>z (R.pi.inj _ _ r u y))];unfold Phi;rw[show(2*t+1)/2=t by omega]
  omega
theorem Cm(b:Bij σ es.length){x y:Nat}(O:x<2*es.length)(Q:y<2*es.length)(e:Phi σ x=Phi σ y):x=y:=by
 have f:σ (x/2)=σ (y/2):=by
  have J:=mT (σ:=σ) x;have Y:=mT (σ:=σ) y;rw[e]at J;exact J.symm.trans Y
 have:=b.inj _ _ ∅ ∅ f
 unfold Phi at e;omega
theorem Ren.gr(R:Ren m es es2 ts ts2 π σ)(g:Gr m es ts):Gr m es2 ts2:=by
 obtain⟨v,p,cnt⟩:=g.part;have flt:∀ d∈v.flatten,d<2*es.length:=λd hd=>by
  obtain⟨r,J,Y⟩:=HN.mp hd;exact(p.cr r J).lt d Y
 have h:(v.map (List.map (Phi σ))).flatten=v.flatten.map (Phi σ):=List.map_flatten.symm;refine⟨R.turn g.w,⟨v.map (List.map (Phi σ)),⟨λq M=>?_,?_,λd hd=>?_⟩,by rw[GY,R.l1];exact cnt⟩,λS I x y O Q o=>?_⟩
 .obtain⟨r,N,rfl⟩:=HS.mp M;have c:=p.cr r N;obtain⟨x,l,rfl,i⟩:=c.ch;refine⟨⟨Phi σ x,l.map (Phi σ),rfl,uh i λt T=>R.fol g.w (c.lt t T)⟩,λd hd=>?_,xV c.nd λa G b L=>Cm R.si (c.lt a G) (c.lt b L)⟩;obtain⟨t,T,rfl⟩:=HS.mp hd;have J:=c.lt t T;have Y:=R.si.lt (t/2) ∅
  rw[R.l1];unfold Phi;omega
 .rw[h];exact xV p.nd λa G b L=>Cm R.si (flt a G) (flt b L)
 .rw[R.l1]at hd;obtain⟨k,D,e⟩:=R.si.sur (d/2) ∅
  rw[h];refine HS.mpr ⟨2*k+d%2,p.all _ ∅,?_⟩
  unfold Phi;rw[show(2*k+d%2)/2=k by omega,e]
  omega
 .obtain⟨H,B,rfl⟩:=R.pi.sur x O;obtain⟨f,j,rfl⟩:=R.pi.sur y Q;refine g.conn (λp=>S (π p)) (λe n=>?_) H f B j o;obtain⟨k,D⟩:=HU.mp n;exact I (π e.1,π e.2) (GW (R.es k e D))
end
end K8
variable{es:K8.En}
namespace K8
open PySem L2
def top(i:Nat):Stmt:=PySem.Challenge.pw_spinfloor_k35_whole_roofs.main.body.getD i (.Pass ⟨0,0,0,0⟩)
abbrev kf:Stmt:=top 14
abbrev ke:Stmt:=top 16
abbrev pV:Stmt:=top 37
abbrev pW:Stmt:=top 38
abbrev gY:Stmt:=top 39
abbrev fT:Stmt:=top 40
abbrev jj:Stmt:=top 41
abbrev lj:Stmt:=top 43
abbrev iM:Stmt:=top 46
abbrev uS:Stmt:=top 47
abbrev cC:Stmt:=nJ (top 49) 0
abbrev dS:Stmt:=nJ (top 49) 1
abbrev cA:Stmt:=nJ (top 49) 5
abbrev cX:Stmt:=nJ (top 51) 0
abbrev pU:Stmt:=top 52
abbrev An:Stmt:=top 54
abbrev m8:Stmt:=top 55
abbrev lB:Stmt:=top 56
abbrev gW:Stmt:=top 57
abbrev ji:Stmt:=top 58
abbrev lh:Stmt:=top 59
abbrev fU:Stmt:=top 61
abbrev fx:Stmt:=top 62
abbrev dY:Stmt:=top 63
abbrev cz:Stmt:=nJ (top 64) 0
abbrev jh:Stmt:=top 66
abbrev Am:Stmt:=top 67
abbrev gX:Stmt:=top 68
abbrev fV:Stmt:=top 69
abbrev ng:Stmt:=top 70
abbrev lA:Stmt:=top 72
abbrev lu:Stmt:=top 73
abbrev g7:Stmt:=top 74
abbrev jt:Stmt:=top 75
abbrev jv:Stmt:=top 76
abbrev ju:Stmt:=top 77
abbrev du:Stmt:=top 78
abbrev jw:Stmt:=top 79
abbrev m9:Stmt:=top 80
abbrev jr:Stmt:=top 81
abbrev gZ:Stmt:=top 82
abbrev jo:Stmt:=top 83
abbrev lr:Stmt:=top 84
abbrev jq:Stmt:=top 85
abbrev dZ:Stmt:=top 86
abbrev fY:Stmt:=top 87
abbrev eh:Stmt:=top 88
abbrev pX:Stmt:=top 89
def tf(a b s:Int):List (Str×V):=putF "strength" (.int s) (putF "two" (.int b) (putF "one" (.int a) []))
theorem jX(a b s:Int):(tf a b s).lookup ("one" : Str)=some (.int a):=by
 unfold tf;rw[aE,Nq (by decide),aE,Nq (by decide),aE,Np rfl]
theorem oJ(a b s:Int):(tf a b s).lookup ("two" : Str)=some (.int b):=by
 unfold tf;rw[aE,Nq (by decide),aE,Np rfl]
theorem tf_str(a b s:Int):(tf a b s).lookup ("strength" : Str)=some (.int s):=by
 unfold tf;rw[aE,Np rfl]
theorem rV(a b s:Int){m:Str}(J:¬ m = "strength")(h2:¬ m = "two")(A:¬ m = "one"):(tf a b s).lookup m=none:=by
 unfold tf;rw[aE,Nq J,aE,Nq h2,aE,Nq A]
 all_goals rfl
theorem f1_len(a:Int):(putF "one" (.int a) []).length<1000:=by show 1<1000;decide
theorem f2_len(a b:Int):(putF "two" (.int b) (putF "one" (.int a) [])).length<1000:=by
 have e:(putF "two" (.int b) (putF "one" (.int a) []):List (Str×V))=([("one",.int a),("two",.int b)]:List (Str×V)):=by
  show(if("one" : Str) = "two" then[(("one" : Str),V.int b)] else(("one" : Str),V.int a)::putF "two" (V.int b) [])=_;rw[Nq (by decide)]
  all_goals rfl
 rw[e];show 2<1000;decide
structure CT(K:GX)(C:Addr):Prop where
 cl:Cls K C
 n1:fq K C "one"
 n2:fq K C "two"
 n3:fq K C "strength"
inductive lN(K:GX)(vs:List L2.V)(H:L2.Hp)(Q:L2.VK)(x3_:L2.XK):Prop
 |mk (p C dx:Addr)(a b s:Int) (h0_:vs=[.ref p,.int a,.int b,.int s])(h1_:H p=some (.ins C dx []))(h2_:CT K C)(h3_:a≠b)(h4_:0<=a)(h5_:0<=b)(h6_:0<=s)(h7_:∀ H',H' p=some (.ins C dx (tf a b s))->(∀ q o,H q=some o->q≠p->H' q=some o)->Q .non H')
theorem ak(h:H p=none)(o:HO):Same H (upd H p o):=λb u q=>by rw[aq (aA q h)];exact q
theorem aH{l:Addr}(h:Same H H2)(hl:H l=none)(o:HO):Same H (upd H2 l o):=λb u q=>by rw[aq (aA q hl)];exact h b u q
def iV(p:Nat):V:=.int (p:Int)
theorem Gi{k x:Nat}(h:l[k]?=some x):atI (l.map iV) (k:Int)=some (iV x):=ay (by rw[G7,h];rfl)
def bX(H:Hp)(ys:List V)(es:En):Prop:=ys.length=es.length/\∀(i:Nat)(e:Nat×Nat),es[i]?=some e->∃ p,ys[i]?=some (.ref p)/\H p=some (.tup [iV e.1,iV e.2])
theorem bX.mono(h:bX H ys es)(s:Same H H'):bX H' ys es:=⟨h.1,λi e q=>by
 obtain⟨p,a,b⟩:=h.2 i e q
 exact⟨p,a,s _ _ b⟩⟩
def dD(K:GX)(H:Hp)(xs:List V)(es:En):Prop:=xs.length=es.length/\∀(i:Nat)(e:Nat×Nat),es[i]?=some e->∃ p C j s,xs[i]?=some (.ref p)/\H p=some (.ins C j (tf (e.1:Int) (e.2:Int) s))/\CT K C
theorem dD.mono(t:dD K H xs es)(h:Same H H'):dD K H' xs es:=⟨t.1,λi e q=>by
 obtain⟨p,C,j,s,a,b,d⟩:=t.2 i e q
 exact⟨p,C,j,s,a,h _ _ b,d⟩⟩
def bw(H:Hp)(xs:List V)(ts:List (List Nat)):Prop:=xs.length=ts.length/\∀(i:Nat)(l:List Nat),ts[i]?=some l->∃ p,xs[i]?=some (.ref p)/\H p=some (.lst (l.map iV))
theorem bw.mono(h:bw H xs ts)(s:Same H H'):bw H' xs ts:=⟨h.1,λi e q=>by
 obtain⟨p,a,b⟩:=h.2 i e q
 exact⟨p,a,s _ _ b⟩⟩
theorem bw.snoc(h:bw H xs ts)(e:H q=some (.lst (l.map iV))):bw H (xs++[.ref q]) (ts++[l]):=by
 refine⟨by rw[GZ,GZ,h.1];rfl,λj k d=>?_⟩
 by_cases N:j<ts.length
 .rw[G5 N]at d;obtain⟨p,r,c⟩:=h.2 j k d;exact⟨p,by rw[G5 (by rw[h.1];exact N)];exact r,c⟩
 .rw[G3 ∅]at d
  have b:j=ts.length:=by
   have:=(GV.mp d).1;rw[Hd]at this;omega
  subst b;rw[Hw]at d
  cases d
  exact⟨q,by rw[← h.1,G3 (G0 _),Hw];rfl,e⟩
def bx(S:Addr->Prop)(H:Hp)(xs:List V)(ts:List (List Nat)):Prop:=xs.length=ts.length/\∀(i:Nat)(l:List Nat),ts[i]?=some l->∃ p,xs[i]?=some (.ref p)/\¬ S p/\H p=some (.lst (l.map iV))
theorem bx.mono{S:Addr->Prop}(h:bx S H xs ts)(s:∀ b u,¬ S b->H b=some u->H' b=some u):bx S H' xs ts:=⟨h.1,λi e q=>by
 obtain⟨p,a,n,b⟩:=h.2 i e q
 exact⟨p,a,n,s _ _ n b⟩⟩
theorem bx.off{S:Addr->Prop}(h:bx S H xs ts):bw H xs ts:=⟨h.1,λi e q=>by
 obtain⟨p,a,n,b⟩:=h.2 i e q
 exact⟨p,a,b⟩⟩
theorem bx.snoc{S:Addr->Prop}(h:bx S H xs ts)(n:¬ S q)(e:H q=some (.lst (l.map iV))):bx S H (xs++[.ref q]) (ts++[l]):=by
 refine⟨by rw[GZ,GZ,h.1];rfl,λj k d=>?_⟩
 by_cases N:j<ts.length
 .rw[G5 N]at d;obtain⟨p,r,c⟩:=h.2 j k d;exact⟨p,by rw[G5 (by rw[h.1];exact N)];exact r,c⟩
 .rw[G3 ∅]at d
  have b:j=ts.length:=by
   have:=(GV.mp d).1;rw[Hd]at this;omega
  subst b;rw[Hw]at d
  cases d
  exact⟨q,by rw[← h.1,G3 (G0 _),Hw];rfl,n,e⟩
theorem mR{f:Nat->Nat}(w:a8 f N i rs):rs.flatten.length<=N:=cV w.nd λx O=>by
 obtain⟨r,J,Y⟩:=HN.mp O;exact(w.ring r J).lt x Y
theorem xI{f:Nat->Nat}(w:a8 f N i rs):rs.length<=N:=by
 have h:∀(l:List (List Nat)),(∀ r∈l,0<r.length)->l.length<=l.flatten.length:=λl=>by
  induction l with
  |nil=>intro _;exact G0 _
  |cons a l C =>
   intro h;rw[HW,GZ,Hk];have J:=h a (G9 ..);have Y:=C λr j=>h r (G4 _ j);omega
 exact Ig (h rs λr j=>(w.ring r j).ne) (mR w)
structure TT(K:GX)(H:Hp)(a b:Addr)(m:Nat)(es:En)(ts:List (List Nat)):Prop where
 xs:∃ xs,SqL K H a xs/\dD K H xs es
 ys:∃ ys,SqL K H b ys/\bw H ys ts
 w:bD m es ts
 few:es.length<=62
theorem TT.mono{K:GX}{H H':Hp}{a b:Addr}{m:Nat}{es:En}{ts:List (List Nat)}(t:TT K H a b m es ts)(s:Same H H'):TT K H' a b m es ts:=by
 obtain⟨⟨D,J,Y⟩,⟨k,A,M⟩,w,f⟩:=t;exact⟨⟨D,s.seq J,Y.mono s⟩,⟨k,s.seq A,M.mono s⟩,w,f⟩
theorem iI(w:bD m es ts)(f:es.length<=62){p:Nat}(h:ts[p]?=some l):(∀ t∈l,t<62)/\l.length<=62:=by
 have a:∀ t∈l,t<es.length:=λt T=>by
  obtain⟨e,n,_⟩:=(w.mem p l h t).mp T;exact(GV.mp n).1
 exact⟨λt T=>by have:=a t T;omega,Ig (cV (w.nd p l h) a) f⟩
theorem perm(w:bD m es ts):Cn (fol es ts) (2*es.length):=⟨λd h=>by
 obtain⟨_,_,_,_,_,_,_,_,z,_⟩:=w.foll h
 exact z,λa b G L h=>w.inj G L h⟩
inductive Ez(K:GX)(vs:List L2.V)(H:L2.Hp)(Q:L2.VK)(x3_:L2.XK):Prop
 |mk (a:Addr)(xs:List V)(es:En)(d:Nat) (h0_:vs=[.ref a,.int (d:Int)])(h1_:SqL K H a xs)(h2_:dD K H xs es)(h3_:d<2*es.length)(h4_:Q (iV (hd es d)) H)
inductive Ew(K:GX)(vs:List L2.V)(H:L2.Hp)(Q:L2.VK)(x3_:L2.XK):Prop
 |mk (a:Addr)(xs:List V)(es:En)(t p:Nat)(e:Nat×Nat) (h0_:vs=[.ref a,.int (t:Int),.int (p:Int)])(h1_:SqL K H a xs)(h2_:dD K H xs es)(h3_:es[t]?=some e)(h4_:Q (iV (if e.1=p then 2*t else 2*t+1)) H)
inductive spFol(K:GX)(vs:List L2.V)(H:L2.Hp)(Q:L2.VK)(x3_:L2.XK):Prop
 |mk (a b:Addr)(m:Nat)(es:En)(ts:List (List Nat))(d:Nat) (h0_:vs=[.ref a,.ref b,.int (d:Int)])(h1_:TT K H a b m es ts)(h2_:d<2*es.length)(h3_:Q (iV (fol es ts d)) H)
inductive EA(K:GX)(vs:List L2.V)(H:L2.Hp)(Q:L2.VK)(x3_:L2.XK):Prop
 |mk (a b:Addr)(m:Nat)(es:En)(ts:List (List Nat))(d:Nat) (h0_:vs=[.ref a,.ref b,.int (d:Int)])(h1_:TT K H a b m es ts)(h2_:d<2*es.length)(h3_:∀ q r H',Same H H'->H q=none->H' q=some (.lst (r.map iV))->Path (fol es ts) (2*es.length) d r->Ring (fol es ts) (2*es.length) r->Q (.ref q) H')
inductive xu(K:GX)(vs:List L2.V)(H:L2.Hp)(Q:L2.VK)(x3_:L2.XK):Prop
 |mk (a b:Addr)(m:Nat)(es:En)(ts:List (List Nat)) (h0_:vs=[.ref a,.ref b])(h1_:TT K H a b m es ts)(h2_:∀ q ys rs H',Same H H'->H' q=some (.lst ys)->bw H' ys rs->a8 (fol es ts) (2*es.length) (2*es.length) rs->Q (.ref q) H')
def gO(H:Hp)(ys:List V)(n:Nat)(rs:List (List Nat)):Prop:=ys.length=n/\∀ i,i<n->∃ p a b r v,ys[i]?=some (.ref p)/\H p=some (.tup [iV a,iV b])/\rs[a]?=some r/\2*i∈r/\rs[b]?=some v/\2*i+1∈v
inductive zS(K:GX)(vs:List L2.V)(H:L2.Hp)(Q:L2.VK)(x3_:L2.XK):Prop
 |mk (a b:Addr)(xs ys:List V)(es:En)(f:Nat->Nat)(rs:List (List Nat)) (h0_:vs=[.ref a,.ref b])(h1_:SqL K H a xs)(h2_:dD K H xs es)(h3_:es.length<=62)(h4_:SqL K H b ys)(h5_:bw H ys rs)(h6_:a8 f (2*es.length) (2*es.length) rs)(h7_:∀ q zs H',Same H H'->H' q=some (.lst zs)->gO H' zs es.length rs->Q (.ref q) H')
def iA(ns:List Int)(k:Nat):Int:=ns.getD k 0
inductive Ab(K:GX)(vs:List L2.V)(H:L2.Hp)(Q:L2.VK)(x3_:L2.XK):Prop
 |mk (a:Addr)(k:Nat)(ns:List Int) (h0_:vs=[.ref a,.int (k:Int)])(h1_:SqL K H a (ns.map V.int))(h2_:Q (.int (iA ns k)) H)
inductive xC(K:GX)(vs:List L2.V)(H:L2.Hp)(Q:L2.VK)(x3_:L2.XK):Prop
 |mk (a b:Addr)(ys xs:List V)(m:Nat)(es:En)(ts:List (List Nat))(d:Nat) (h0_:vs=[.ref a,.ref b,.int (d:Int)])(h1_:SqL K H a ys)(h2_:bX H ys es)(h3_:SqL K H b xs)(h4_:bw H xs ts)(h5_:bD m es ts)(h6_:es.length<=62)(h7_:d<2*es.length)(h8_:Q (iV (fol es ts d)) H)
structure Txt(mg:Str->Option Value):Prop where
 n_len:mg "len"=none
 n_int:mg "int"=none
 n_bool:mg "bool"=none
 n_list:mg "list"=none
 n_tuple:mg "tuple"=none
 n_range:mg "range"=none
 n_enumerate:mg "enumerate"=none
 n_isinstance:mg "isinstance"=none
 n_min:mg "min"=none
 n_sum:mg "sum"=none
 n_sorted:mg "sorted"=none
theorem Aj:az ["ties","dart","tie"] ["ties","dart"] (ar An):=by ac_nf
theorem FQ(F:Fun K "head" "head" An f fd):FnOk P w K mg base CX0 1 f fd ["ties","dart"] (Ez K):=by
 refine F.ok Aj (by walk_at "l") λM A u s H O Q E N h=>?_
 obtain⟨a,D,B,d,rfl,x,Y,b,k⟩:=h;have G:d/2<B.length:=by omega
 have m:B[d/2]?=some B[d/2]:=GU G;obtain⟨p,C,j,t,r,I,l⟩:=Y.2 _ _ m;have n:hd B d=if d%2=0 then B[d/2].2 else B[d/2].1:=by unfold hd;rw[m]
 have c:(d:Int)/2=((d/2:Nat):Int):=by omega
 refine⟨_,(ah (aB 2 Aj.nd (aR (pv 0) (aw cN (pv 1) ai)))
   (ao (aF (gf (aD eB (aw bq (pv 1) ai) ai (aG _)) (bo (pv 2) rfl) (bo (pv 2) rfl))))),?_⟩
 refine⟨_,rfl,_,rfl,_,_,rfl,rfl,⟨by decide,by decide⟩,a,D,_,_,rfl,rfl,x,(by rw[c];exact ay r),?_⟩
 refine⟨_,rfl,_,_,rfl,rfl,(by show(0:Int)<2;decide),rfl,_,rfl,?_⟩
 refine ite2 (λq=>?_) (λq=>?_)
 .have J:(d:Int)%2=0:=V.int.inj (Nf q)
  refine⟨_,rfl,p,C,j,_,_,rfl,I,l.cl,l.n2,oJ _ _ _,?_⟩;rw[n,Np ∅]at k
  exact k
 .have J:¬ (d:Int)%2=0:=λz=>q (MB (congrArg V.int z))
  refine⟨_,rfl,p,C,j,_,_,rfl,I,l.cl,l.n1,jX _ _ _,?_⟩;rw[n,Nq ∅]at k
  exact k
theorem yz:az ["ties","number","place"] ["ties","number","place"] (ar m8):=by ac_nf
theorem yC(F:Fun K "leaving" "leaving" m8 f fd):FnOk P w K mg base CX0 1 f fd ["ties","number","place"] (Ew K):=by
 refine F.ok yz (by walk_at "l") λM A u s H m Q E N h=>?_
 obtain⟨a,D,B,t,y,e,rfl,x,Y,n,k⟩:=h;obtain⟨p,C,j,b,r,I,l⟩:=Y.2 _ _ n;have c:CMul 2 (t:Int):=.inl ⟨by decide,by decide⟩
 refine⟨_,(ao (aF (gf (aD eB (bo (aR (pv 0) (pv 1)) rfl) (pv 2) (aG _)) (aw cM ai (pv 1)) (aw bL (aw cM ai (pv 1)) ai)))),?_⟩;refine⟨_,rfl,_,rfl,a,D,_,_,rfl,rfl,x,ay r,p,C,j,_,_,rfl,I,l.cl,l.n1,jX _ _ _,_,rfl,rfl,_,rfl,?_⟩;refine ite2 (λq=>?_) (λq=>?_)
 .have J:(e.1:Int)=(y:Int):=V.int.inj (Nf q)
  refine⟨_,rfl,_,_,rfl,rfl,c,?_⟩;rw[Np ∅]at k
  exact k
 .have J:¬ (e.1:Int)=(y:Int):=λz=>q (MB (congrArg V.int z))
  refine⟨_,rfl,_,_,rfl,rfl,c,_,_,rfl,rfl,?_⟩;rw[Nq ∅]at k
  exact k
theorem fR:az ["ties","turns","dart","place","about","behind"] ["ties","turns","dart"] (ar lB):=by ac_nf
theorem vi(F:Fun K "follower" "follower" lB f fd)(T:Txt mg)(al:Cal P w K mg base 1 "head" ["ties","dart"] (Ez K) C G)(ab:Cal P w K mg base 1 "leaving" ["ties","number","place"] (Ew K) I Y):FnOk P w K mg base CX0 2 f fd ["ties","turns","dart"] (spFol K):=by
 refine F.ok fR (by walk_at "l") λM A u s H O Q E N h=>?_
 obtain⟨a,b,m,D,o,d,rfl,tt,aa,k⟩:=h;obtain⟨⟨r,J,B⟩,⟨v,j,x⟩,w',n⟩:=tt;obtain⟨l,e,p1,y,p3,p4,p5,p6,p7,p8,p9⟩:=w'.foll aa;obtain⟨ac,len⟩:=iI w' n p1;obtain⟨q,L,t⟩:=x.2 _ _ p1;have ed:(d:Int)/2=((d/2:Nat):Int):=by omega
 refine⟨_,(ah (aB 3 fR.nd (al.c N (af (pv 0) (af (pv 2) aj))))
   (ah (aB 4 fR.nd (aR (pv 1) (pv 3)))
   (ah (aB 5 fR.nd (aw bq (aw bL (cY Hh JJ JI mG (pv 4) (af (aw cN (pv 2) ai) aj)) ai) (aC ax (by rfl) T.n_len a9 (af (pv 4) aj))))
   (ao (aF (ab.c N (af (pv 0) (af (aR (pv 4) (pv 5)) (af (pv 3) aj))))))))),?_⟩
 refine⟨_,rfl,_,rfl,a,r,D,d,rfl,J,B,aa,?_⟩;refine⟨_,rfl,_,rfl,b,v,_,_,rfl,rfl,j,ay L,?_⟩;have i:(l.map iV).length=l.length:=GY _;have am:0<l.length:=Iu y;have ae:(((l.idxOf (d/2):Nat):Int)+1)%((l.map iV).length:Int)=(((l.idxOf (d/2)+1)%l.length:Nat):Int):=by rw[i];rfl
 refine⟨_,rfl,.inl ⟨rfl,_,SqL.of t⟩,_,rfl,_,_,rfl,rfl,⟨by decide,by decide⟩,q,l,d/2,rfl,congrArg (λz=>[V.int z]) ed,SqL.of t,λp g=>by have:=ac p g;omega,∅,y,_,_,rfl,rfl,_,rfl,q,_,rfl,.inl (SqL.of t),_,_,rfl,rfl,(by show(0:Int)<((l.map iV).length:Int);rw[i];omega),?_⟩
 refine⟨_,rfl,_,rfl,_,rfl,q,_,_,_,rfl,rfl,SqL.of t,(by rw[ae];exact Gi (gp y)),_,rfl,a,r,D,nxt l (d/2),hd D d,e,rfl,J,B,p3,?_⟩
 rw[p6]at k;exact k
theorem dG:az ["ties","turns","first","row","dart"] ["ties","turns","first"] (ar gW):=by ac_nf
theorem FR(F:Fun K "round_from" "round_from" gW f fd)(ae:Cal P w K mg base 2 "follower" ["ties","turns","dart"] (spFol K) p G):FnOk P w K mg base CX0 3 f fd ["ties","turns","first"] (EA K):=by
 refine F.ok dG (by walk_at "l") λt A u s H O Q E N h=>?_
 obtain⟨a,b,m,B,l,d,rfl,tt,ac,k⟩:=h;have pm:=perm tt.w
 refine⟨_,(ah (aB 3 dG.nd (bV (af (pv 2) aj)))
   (ah (aB 4 dG.nd (ae.c N (af (pv 0) (af (pv 1) (af (pv 2) aj)))))
   (ah (eO PassesOwn.never (aD i4 (pv 4) (pv 2) (aG _)) (ah (aU (cY Hh Hy Hx aY (pv 3) (af (pv 4) aj)))
   (ao (aB 4 dG.nd (ae.c N (af (pv 0) (af (pv 1) (af (pv 4) aj))))))))
   (ao (aF (pv 3)))))),?_⟩
 refine⟨_,rfl,(by show 1<=LR;decide),λq g=>?_⟩
 have j:=ak g (.lst [.int (d:Int)]);refine⟨_,rfl,_,rfl,_,rfl,a,b,m,B,l,d,rfl,tt.mono j,ac,?_⟩;refine fM (λM L=>∃(r:List Nat)(x:Nat),M=[some (.ref a),some (.ref b),some (.int (d:Int)),some (.ref q),some (iV (fol B l x))]/\Same H L/\L q=some (.lst ((r++[x]).map iV))/\Path (fol B l) (2*B.length) d (r++[x]))
  (λM L=>match L q with|some (.lst D)=>200-D.length|_=>0) ⟨[],d,rfl,j,ag,xO ac⟩ ?_ ?_
 .rintro M L ⟨r,x,rfl,J,aa,pa⟩;refine⟨_,rfl,_,rfl,rfl,_,rfl,?_⟩;have n:=tt.few;have Y:=cV pa.nd pa.lt;refine ite2 (λc=>?_) (λc=>?_)
  .have C:fol B l x≠d:=λz=>by
    rw[MB (show iV (fol B l x)=V.int (d:Int) by rw[z];rfl)]at c
    cases c
   have al:=pa.snoc pm C;have ab:=cV al.nd al.lt;have am:fol B l x<2*B.length:=al.lt _ (by simp)
   refine⟨_,rfl,.inl ⟨rfl,_,SqL.of aa⟩,_,rfl,q,_,_,rfl,rfl,aa,av (by rw[GY];omega),?_⟩
   have o:=aH J g (.lst ((r++[x]).map iV++[iV (fol B l x)]));refine⟨_,rfl,_,rfl,_,rfl,a,b,m,B,l,fol B l x,rfl,tt.mono o,am,?_⟩;refine⟨⟨r++[x],fol B l x,rfl,o,?_,al⟩,?_⟩
   .rw[ag,show((r++[x]++[fol B l x]).map iV)=(r++[x]).map iV++[iV (fol B l x)] from by rw[Hm];rfl]
   .show(match(upd L q (.lst ((r++[x]).map iV++[iV (fol B l x)]))) q with|some (.lst D)=>200-D.length|_=>0)<(match L q with|some (.lst D)=>200-D.length|_=>0)
    rw[ag,aa];show 200-((r++[x]).map iV++[iV (fol B l x)]).length<200-((r++[x]).map iV).length;rw[GZ,GY,Hd];omega
  .have C:fol B l x=d:=by
    by_cases z:fol B l x=d
    .exact z
    .exact Nr (by rw[LQ (λy=>z (by have:=V.int.inj y;omega))];rfl) c
   refine⟨_,rfl,?_⟩;exact k q _ L J g aa pa (pa.ring pm C)
 .rintro M L Q1 Q2 I ⟨v',e,b',i,T,C,v,q'⟩;exact⟨v',e,b',i,T,C,v,I _ _ q'⟩
theorem cj:az ["ties","turns","rounds","seen","dart","row","gone"] ["ties","turns"] (ar ji):=by ac_nf
theorem AM(F:Fun K "rounds_of" "rounds_of" ji f fd)(T:Txt mg)(aS:Cal P w K mg base 3 "round_from" ["ties","turns","first"] (EA K) C G):FnOk P w K mg base CX0 4 f fd ["ties","turns"] (xu K):=by
 refine F.ok cj (by walk_at "l") λab A u s H vs Q E N h=>?_
 obtain⟨a,b,m,B,ts,rfl,tt,k⟩:=h;have hu:=qM N;have pm:=perm tt.w;have ac:=tt.few;obtain⟨xs,J,Y⟩:=tt.xs
 refine⟨_,(ah (aB 2 cj.nd (bV aj))
   (ah (aB 3 cj.nd kA)
   (ah (bz PassesOwn.never rfl (aP rfl T.n_range (af (aw cM ai (aC ax (by rfl) T.n_len a9 (af (pv 0) aj))) aj)) (bY 4 cj.nd) (ao (bP (xK (kC hu (pv 4) (pv 3))) (ah (aB 5 cj.nd (aS.c N (af (pv 0) (af (pv 1) (af (pv 4) aj)))))
   (ah (aU (cY Hh Hy Hx aY (pv 2) (af (pv 5) aj)))
   (ao (bz PassesOwn.never rfl (aV (pv 5)) (bY 6 cj.nd) (ao (jC hu (pv 3) (pv 6) ve rfl)))))) aO)))
   (ao (aF (pv 2)))))),?_⟩
 refine⟨(by show 0<=LR;decide),λqr aT=>λqs a0=>?_⟩
 have v:=(ak aT (.lst [])).trans (ak a0 (.dK []));have a3:H qs=none:=by
  cases z:H qs with
  |none=>rfl
  |some o=>rw[ak aT (.lst []) qs o z]at a0;cases a0
 have al:qr≠qs:=λz=>by rw[← z,ag]at a0;cases a0
 have ap:xs.length=B.length:=Y.1;have hN:(2*(xs.length:Int)).toNat=2*B.length:=by omega
 refine⟨_,rfl,a,xs,rfl,.inl (v.seq J),_,_,rfl,rfl,.inl ⟨by decide,by decide⟩,_,rfl,∅,∅,b8 (n:=(2*(xs.length:Int)).toNat) (λi M L=>∃ v4 v5 v6 t rs aa,M=[some (.ref a),some (.ref b),some (.ref qr),some (.ref qs),v4,v5,v6]/\Same H L/\L qr=some (.lst t)/\bx (λp=>p=qr∨p=qs) L t rs/\L qs=some (.dK aa)/\aa.length<=rs.flatten.length/\(∀ d:Nat,(valV aa (Sum.inl (d:Int))).isSome=true↔d∈rs.flatten)/\a8 (fol B ts) (2*B.length) i rs)
  ⟨_,_,_,[],[],[],rfl,v,by rw[aq al,ag],⟨rfl,λi l e=>by simp at e⟩,ag,G0 _,λd=>by simp[valV],oP _ _⟩ ?_ ?_⟩
 .rintro i M L I ⟨v4,v5,v6,t,rs,aa,rfl,s2,D,rx,e2,kl,km,ro⟩;rw[hN]at I;have e0:(0:Int)+(i:Int)=(i:Int):=Ir _;rw[e0];have fl:=mR ro;have rl:=xI ro;refine⟨_,rfl,_,rfl,_,_,rfl,DGet.k (k:=Sum.inl (i:Int)) e2,_,rfl,?_⟩;refine ite2 (λc=>?_) (λc=>?_)
  .have a1:i∉rs.flatten:=λz=>by
    rw[(km i).mpr z]at c
    cases c
   refine⟨_,rfl,_,rfl,_,rfl,a,b,m,B,ts,i,rfl,tt.mono s2,I,λq r H3 s3 hq aW pa ri=>?_⟩;have aI:=s2.trans s3;have nq:¬ (q=qr∨q=qs):=by
    rintro(z|z)
    .rw[z,D]at hq;cases hq
    .rw[z,e2]at hq;cases hq
   refine⟨_,rfl,.inl ⟨rfl,_,SqL.of (s3 _ _ D)⟩,_,rfl,qr,_,_,rfl,rfl,s3 _ _ D,av (by rw[rx.1];omega),?_⟩
   have s4:=aH aI aT (.lst (t++[.ref q]));have a4:∀{H5:Hp},bx (λp=>p=qr∨p=qs) H5 (t++[.ref q]) (rs++[r])->H5 q=some (.lst (r.map iV)):=λh=>by
    obtain⟨p,z1,_,z2⟩:=h.2 rs.length r (by rw[G3 (G0 _),Hw];rfl)
    rw[← rx.1,G3 (G0 _),Hw]at z1
    cases z1
    exact z2
   have a5:bx (λp=>p=qr∨p=qs) (upd H3 qr (.lst (t++[.ref q]))) (t++[.ref q]) (rs++[r]):=by
    refine(rx.mono λp o n z=>?_).snoc nq ?_
    .rw[aq (λz=>n (.inl z))];exact s3 _ _ z
    .rw[aq (λz=>nq (.inl z))];exact aW
   have rl:r.length<=2*B.length:=cV ri.nd ri.lt
   refine⟨_,rfl,q,rfl,⟨_,SqL.of (a4 a5)⟩,bM (xs:=r.map iV) (λj M H5=>∃ v6 ae,M=[some (.ref a),some (.ref b),some (.ref qr),some (.ref qs),some (.int (i:Int)),some (.ref q),v6]/\Same H H5/\H5 qr=some (.lst (t++[.ref q]))/\bx (λp=>p=qr∨p=qs) H5 (t++[.ref q]) (rs++[r])/\H5 qs=some (.dK ae)/\ae.length<=rs.flatten.length+j/\∀ d:Nat,(valV ae (Sum.inl (d:Int))).isSome=true↔d∈rs.flatten∨d∈r.take j)
    ⟨_,aa,rfl,s4,ag,a5,by rw[aq al.symm];exact s3 _ _ e2,kl,λd=>by rw[km d];simp⟩ (λj M H5 _ p=>?_) ?_ ?_⟩
   .obtain⟨_,_,_,_,_,z,_⟩:=p;exact SqL.of (a4 z)
   .rintro j x M H5 O ⟨v6,ae,rfl,s5,f1,am,f2,aL,an⟩;rw[G7]at O;obtain⟨g,hg,rfl⟩:=Ho.mp O;have a6:j<r.length:=(GV.mp hg).1;refine⟨_,rfl,_,rfl,qs,_,rfl,DPut.k (k:=Sum.inl (g:Int)) f2 (av ∅),?_⟩
    refine⟨_,_,rfl,aH s5 a3 _,by rw[aq al];exact f1,am.mono λp o n z=>by rw[aq (λz=>n (.inr z))];exact z,ag,by have:=cg ae (Sum.inl (g:Int)) (V.bl true);omega,λd=>?_⟩
    rw[eJ];have tk:r.take (j+1)=r.take j++[g]:=by rw[Hz,hg];rfl
    rw[tk];by_cases z:d=g
    .subst z;simp
    .rw[Nq (λy=>z (by have:=Sum.inl.inj y;omega)),an d]
     simp[z]
   .rintro M H5 ⟨v6,ae,rfl,s5,f1,am,f2,aL,an⟩;rw[GY]at aL an;refine⟨_,_,_,_,rs++[r],ae,rfl,s5,f1,am,f2,by rw[Ih,GZ];simpa using aL,λd=>?_,ro.put pm a1 I ri pa⟩
    rw[an d,HD,Ih,Hc];simp
  .have a2:i∈rs.flatten:=(km i).mp (by
    cases z:(valV aa (Sum.inl (i:Int))).isSome with
    |true=>rfl
    |false=>exact Nr (by rw[z];rfl) c)
   exact⟨_,_,_,t,rs,aa,rfl,s2,D,rx,e2,kl,km,ro.skip a2⟩
 .rintro M L ⟨v4,v5,v6,t,rs,aa,rfl,s2,D,rx,e2,kl,km,ro⟩;rw[hN]at ro;exact⟨_,rfl,k qr t rs L s2 D rx.off ro⟩
theorem dW:az ["ties","rounds","number_at","number","row","dart"] ["ties","rounds"] (ar lh):=by ac_nf
theorem C5(F:Fun K "sides_of" "sides_of" lh f fd)(T:Txt mg):FnOk P w K mg base CX0 1 f fd ["ties","rounds"] (zS K):=by
 refine F.ok dW (by walk_at "l") λaa A u s H o Q E N h=>?_
 obtain⟨a,b,xs,l,B,g,rs,rfl,hS,hT,ab,hB,hR,ro,k⟩:=h;have hu:=qM N;have fl:=mR ro
 refine⟨_,(ah (aB 2 dW.nd kA)
   (ah (bz PassesOwn.never rfl (lE rfl T.n_enumerate (af (pv 1) aj)) (oS rfl (aQ (bY 3 dW.nd) (aQ (bY 4 dW.nd) dv))) (ao (bz PassesOwn.never rfl (aV (pv 4)) (bY 5 dW.nd) (ao (jC hu (pv 2) (pv 5) (pv 3) rfl)))))
   (ao (aF (eI [("number_at",2)] ["i"] (aP rfl T.n_range (af (aC ax (by rfl) T.n_len a9 (af (pv 0) aj)) aj)) pg_c pt_c (λC ex s H=>(bJ (af (gm hu (pv 1) (aw cM ai (pv 0)) (λ_ _=>rfl)) (af (gm hu (pv 1) (aw bL (aw cM ai (pv 0)) ai) (λ_ _=>rfl)) aj))))))))),?_⟩
 intro q hq;have v:=ak hq (.dK []);have kF:∀ i,(rs.take i).flatten.length<=rs.flatten.length:=λi=>by
  have:=congrArg (λz=>z.flatten.length) (Jx i rs);simp only[Ih,GZ]at this;omega
 refine⟨_,rfl,b,rfl,⟨_,v.seq hB⟩,qQ (K:=K) (xs:=l) (λi M L=>∃ v3 v4 v5 n,M=[some (.ref a),some (.ref b),some (.ref q),v3,v4,v5]/\Same H L/\L q=some (.dK n)/\n.length<=(rs.take i).flatten.length/\∀(d c:Nat)(r:List Nat),c<i->rs[c]?=some r->d∈r->valV n (Sum.inl (d:Int))=some (iV c))
  ⟨_,_,_,[],rfl,v,ag,HI _,λd c r z=>Nr z (Iw _)⟩ (λi M L _ ae=>by obtain⟨_,_,_,_,_,Y,_⟩:=ae;exact Y.seq hB) ?_ ?_⟩
 .rintro i x M L T2 O ⟨v3,v4,v5,n,rfl,Y,m,kl,km⟩ am;have aT:i<rs.length:=by
   have:=(GV.mp O).1;rw[hR.1]at this;exact this
  have al:rs[i]?=some rs[i]:=GU aT;obtain⟨p,x1,x2⟩:=hR.2 i _ al;rw[O]at x1
  cases x1
  generalize rs[i]=r at al x2;have s3:Same H (upd L T2 (.tup [.int (i:Int),.ref p])):=Y.trans (ak am _);have f1:(rs.take (i+1)).flatten=(rs.take i).flatten++r:=by rw[Hz,al];simp
  have f2:=kF (i+1);rw[f1,GZ]at f2;refine⟨T2,_,rfl,SqT.of ag,rfl,_,_,rfl,_,_,rfl,rfl,?_⟩
  refine⟨_,rfl,p,rfl,⟨_,SqL.of (s3 _ _ x2)⟩,bM (xs:=r.map iV) (λj M H5=>∃ v5 ac,M=[some (.ref a),some (.ref b),some (.ref q),some (.int (i:Int)),some (.ref p),v5]/\Same H H5/\H5 q=some (.dK ac)/\ac.length<=(rs.take i).flatten.length+j/\(∀(d c:Nat)(r:List Nat),c<i->rs[c]?=some r->d∈r->valV ac (Sum.inl (d:Int))=some (iV c))/\∀ d∈r.take j,valV ac (Sum.inl (d:Int))=some (iV i))
   ⟨_,n,rfl,s3,ak am _ _ _ m,kl,km,λd hd=>by simp at hd⟩ (λj M H5 _ ae=>by obtain⟨_,_,_,z,_⟩:=ae;exact SqL.of (z _ _ x2)) ?_ ?_⟩
  .rintro j x M H5 aS ⟨v5,ac,rfl,s5,g1,aL,an,a0⟩;rw[G7]at aS;obtain⟨g,hg,rfl⟩:=Ho.mp aS;have a1:j<r.length:=(GV.mp hg).1;refine⟨_,rfl,_,rfl,_,rfl,q,_,rfl,DPut.k (k:=Sum.inl (g:Int)) g1 (av ∅),?_⟩
   refine⟨_,_,rfl,aH s5 hq _,ag,by have:=cg ac (Sum.inl (g:Int)) (V.int (i:Int));omega,λd c r' G aW hd=>?_,λd hd=>?_⟩
   .rw[eJ,Nq (λz=>?_)]
    .exact an d c r' G aW hd
    .have z':d=g:=by have:=Sum.inl.inj z;omega
     subst z';have:=jP ro.nd aW al hd (GW hg);omega
   .rw[eJ];by_cases z:d=g
    .subst z;rw[Np rfl];rfl
    .rw[Nq (λy=>z (by have:=Sum.inl.inj y;omega))]
     refine a0 d ?_;rw[Hz,hg]at hd;simpa[z] using hd
  .rintro M H5 ⟨v5,ac,rfl,s5,g1,aL,an,a0⟩;rw[GY]at aL a0;rw[HD]at a0;refine⟨_,_,_,ac,rfl,s5,g1,by rw[f1,GZ];exact aL,λd c r' G aW hd=>?_⟩
   by_cases z:c=i
   .subst z;rw[al]at aW
    cases aW
    exact a0 d hd
   .exact an d c r' ∅ aW hd
 .rintro M L ⟨v3,v4,v5,n,rfl,Y,m,kl,km⟩;rw[hR.1]at km;have get:∀ d,d<2*B.length->∃ c r,rs[c]?=some r/\d∈r/\valV n (Sum.inl (d:Int))=some (iV c):=λd hd=>by
   obtain⟨r,z1,z2⟩:=HN.mp (ro.all d hd);obtain⟨c,z3⟩:=HU.mp z1;exact⟨c,r,z3,z2,km d c r (GV.mp z3).1 z3 z2⟩
  have ap:xs.length=B.length:=hT.1;refine⟨_,rfl,a,xs,rfl,.inl (Y.seq hS),_,rfl,∅,∅,bT (λi zs H3=>Same L H3/\gO H3 zs i rs) (by rw[G8,ap];exact Hs (av ∅)) ⟨λ_ _ e=>e,rfl,λi I=>Nr I (Iw _)⟩ ?_ ?_⟩
  .rintro i zs H3 I ⟨s3,sd⟩;have e0:(0:Int)+(i:Int)=(i:Int):=Ir _;rw[e0];rw[G8,ap]at I;obtain⟨c1,r1,z1,z2,z3⟩:=get (2*i) ∅
   obtain⟨c2,r2,y1,y2,y3⟩:=get (2*i+1) ∅
   have m2:CMul 2 (i:Int):=.inl ⟨by decide,by decide⟩
   have d1:DGet H3 q (V.int (2*(i:Int))) (some (iV c1)):=by
    rw[← z3,show((2*i:Nat):Int)=2*(i:Int) by omega]
    exact DGet.k (k:=Sum.inl (2*(i:Int))) (s3 _ _ m)
   have d2:DGet H3 q (V.int (2*(i:Int)+1)) (some (iV c2)):=by
    rw[← y3,show((2*i+1:Nat):Int)=2*(i:Int)+1 by omega]
    exact DGet.k (k:=Sum.inl (2*(i:Int)+1)) (s3 _ _ m)
   refine⟨_,rfl,_,rfl,_,_,rfl,rfl,m2,q,_,rfl,d1,_,rfl,_,rfl,_,_,rfl,rfl,m2,_,_,rfl,rfl,q,_,rfl,d2,(by show 2<=LR;decide),λt J=>?_⟩
   have s4:=ak J (.tup [iV c1,iV c2]);refine⟨s3.trans s4,by rw[GZ,sd.1];rfl,λj hj=>?_⟩
   by_cases z:j=i
   .subst z;exact⟨t,c1,c2,r1,r2,by rw[← sd.1,G3 (G0 _),Hw];rfl,ag,z1,z2,y1,y2⟩
   .obtain⟨p,a',b',r,r',w1,w2,w3⟩:=sd.2 j ∅
    exact⟨p,a',b',r,r',by rw[G5 (by rw[sd.1];omega)];exact w1,s4 _ _ w2,w3⟩
  .rintro zs H3 aI ⟨s3,sd⟩ D hD;rw[G8,ap]at sd
   exact k D zs _ ((Y.trans s3).trans (ak hD _)) ag ⟨sd.1,λi I=>by
    obtain⟨p,a',b',r,r',w1,w2,w3⟩:=sd.2 i I
    exact⟨p,a',b',r,r',w1,ak hD _ _ _ w2,w3⟩⟩
theorem pS:az ["self","one","two","strength"] ["self","one","two","strength"] (ar cC):=by ac_nf
theorem FP(F:Fun K "__init__" "Tie.__init__" cC f fd):FnOk P w K mg base CX0 1 f fd ["self","one","two","strength"] (lN K):=by
 refine F.ok pS (by walk_at "l") λt A u s H m Q E N h=>?_
 obtain⟨p,C,j,a,b,st,rfl,g,T,D,G,L,l,k⟩:=h
 refine⟨_,(ah (bP (aD eB (pv 1) (pv 2) (aG _)) (ao b9) aO)
   (ah (bP (PW.pt (sJ (aD sR (pv 1) ai (aG _)) (nh (aD sR (pv 2) ai (aG _))))) (ao b9) aO)
   (ah (bP (aD sR (pv 3) ai (aG _)) (ao b9) aO)
   (ah (lR (pv 0) (pv 1) rfl)
   (ah (lR (pv 0) (pv 2) rfl)
   (ao (lR (pv 0) (pv 3) rfl))))))),?_⟩
 walk_at "rd";refine ite2 (λc=>Nr (V.int.inj (Nf c)) D) (λ_=>?_);walk_at "rd";refine ite2 (λc=>Nr (Nf c) ∅) (λ_=>?_)
 walk_at "rd";refine ite2 (λc=>Nr (Nf c) ∅) (λ_=>?_)
 walk_at "rd";refine ite2 (λc=>Nr (Nf c) ∅) (λ_=>?_)
 refine⟨_,rfl,_,rfl,p,C,j,[],rfl,g,T.cl,T.n1,(by show 0<1000;decide),?_⟩
 refine⟨_,rfl,_,rfl,p,C,j,_,rfl,ag,T.cl,T.n2,f1_len a,?_⟩;refine⟨_,rfl,_,rfl,p,C,j,_,rfl,ag,T.cl,T.n3,f2_len a b,?_⟩;exact k _ ag λq o e M=>by rw[aq M,aq M,aq M];exact e
theorem uO:az ["script","k"] ["script","k"] (ar lA):=by ac_nf
theorem FT(F:Fun K "_law_cell" "_law_cell" lA f fd)(T:Txt mg):FnOk P w K mg base CX0 1 f fd ["script","k"] (Ab K):=by
 refine F.ok uO (by walk_at "l") λM A u s H m Q E N h=>?_
 obtain⟨a,k,b,rfl,x,q⟩:=h
 refine⟨_,(ah (bP (aD sR (pv 1) (aC ax (by rfl) T.n_len a9 (af (pv 0) aj)) (aG _)) (ao (aF (aR (pv 0) (pv 1)))) aO)
   (ao (aF ai))),?_⟩
 refine⟨_,rfl,_,rfl,a,_,rfl,.inl x,_,_,rfl,rfl,_,rfl,?_⟩;refine ite2 (λc=>?_) (λc=>?_)
 .have C:(k:Int)<((b.map V.int).length:Int):=Nf c
  rw[GY]at C;have D:k<b.length:=by omega
  have l:atI (b.map V.int) (k:Int)=some (.int (iA b k)):=ay (by rw[G7,GU D];unfold iA;rw[Hg,GU D];rfl)
  exact⟨_,rfl,_,rfl,a,_,_,_,rfl,rfl,x,l,q⟩
 .have C:¬ (k:Int)<((b.map V.int).length:Int):=λz=>c (MB z)
  rw[GY]at C;have e:iA b k=0:=by unfold iA;rw[Hg,Iy ∅];rfl
  rw[e]at q;exact q
theorem at0{u:V}:atI [u,v] 0=some u:=rfl
theorem at1{u:V}:atI [u,v] 1=some v:=rfl
theorem vp(h:SqL K H a (ps.map iV)):RdD K H (.ref a) (.list ((ps.map λ(p:Nat)=>((p:Nat):Int)).map PyData.int)):=by
 refine RdD.lst h (by simp) λi x d f E=>?_
 rw[G7]at f;rw[G7,G7]at E
 cases z:ps[i]? with
 |none=>rw[z]at f;cases f
 |some n =>
  rw[z]at f E
  cases f
  cases E
  exact .int _
theorem Bg(l:List Int):(PyData.list (l.map PyData.int)).canLay0=true/\(PyData.list (l.map PyData.int)).depth<=10:=by
 have J:∀ d∈l.map PyData.int,d.canLay0=true/\d.depth<=1:=λd hd=>by
  obtain⟨x,_,rfl⟩:=HS.mp hd;exact⟨by simp[MH],by simp[MG]⟩
 have Y:=iB λd hd=>(J d hd).1;have A:=jR λd hd=>(J d hd).2;exact⟨by simp only[MH];exact Y,by simp only[MG];omega⟩
theorem nF(l:List Int):SeqAt.shaped (.list (l.map PyData.int))=true:=m5 λd hd=>by
 obtain⟨x,_,rfl⟩:=HS.mp hd;exact⟨by simp[MH],by simp[MG]⟩
theorem bX.put{o:HO}(t:bX H ys es)(h:H q=some (.lst zs)):bX (upd H q o) ys es:=⟨t.1,λi e z=>by
 obtain⟨p,a,b⟩:=t.2 i e z;refine⟨p,a,?_⟩;rw[aq (λz=>by rw[z,h]at b;cases b)]
 exact b⟩
theorem bX.snoc{e:Nat×Nat}(t:bX H xs es)(h:H p=some (.tup [iV e.1,iV e.2])):bX H (xs++[.ref p]) (es++[e]):=by
 refine⟨by rw[GZ,GZ,t.1];rfl,λj k d=>?_⟩
 by_cases N:j<es.length
 .rw[G5 N]at d;obtain⟨p,r,c⟩:=t.2 j k d;exact⟨p,by rw[G5 (by rw[t.1];exact N)];exact r,c⟩
 .rw[G3 ∅]at d
  have b:j=es.length:=by
   have:=(GV.mp d).1;rw[Hd]at this;omega
  subst b;rw[Hw]at d
  cases d
  exact⟨p,by rw[← t.1,G3 (G0 _),Hw];rfl,h⟩
theorem Gg{k:Nat}:(ins l k n).length=l.length+1:=by
 unfold ins;rw[GZ,Hk,HY,Jd];omega
theorem EH(X:Int)(n:Nat):0<=X%((n:Int)+1)/\X%((n:Int)+1)<=(n:Int):=⟨IU _ ∅,by have:=IB X (show(0:Int)<(n:Int)+1 by omega);omega⟩
def Dist(xs:List V):Prop:=∀(i j:Nat)(p:Addr),xs[i]?=some (.ref p)->xs[j]?=some (.ref p)->i=j
theorem bx.set{S:Addr->Prop}(h:bx S H xs ts)(D:Dist xs)(e:xs[i]?=some (.ref p)):bx S (upd H p (.lst (l'.map iV))) xs (ts.set i l'):=by
 refine⟨by rw[HG];exact h.1,λj l z=>?_⟩
 have I:i<ts.length:=by rw[← h.1];exact(GV.mp e).1
 rw[HH]at z;by_cases N:i=j
 .subst N;rw[Np rfl,Np I]at z
  cases z
  obtain⟨L,r,c,C⟩:=h.2 i _ (GU I);rw[e]at r
  cases r
  exact⟨p,e,c,ag⟩
 .rw[Nq N]at z;obtain⟨L,r,c,C⟩:=h.2 j l z;exact⟨L,r,c,by rw[aq (λy=>by rw[y]at r;exact N (D i j p e r))];exact C⟩
theorem insV{k:Nat}:(l.map iV).take k++V.int (n:Int)::(l.map iV).drop k=(ins l k n).map iV:=by
 unfold ins;rw[Hm,Hu,LK,LL];rfl
theorem lC(h:SqL K H a xs)(B:bw H xs ts):RdD K H (.ref a) (.list (ts.map λl=>PyData.list ((l.map λ(p:Nat)=>((p:Nat):Int)).map PyData.int))):=by
 refine RdD.lst h (by rw[GY];exact B.1) λi x d f E=>?_
 rw[G7]at E;obtain⟨l,G,rfl⟩:=Ho.mp E;obtain⟨p,r,c⟩:=B.2 i l G;rw[f]at r
 cases r
 exact vp (SqL.of c)
theorem jy(ts:List (List Nat)):SeqAt.shaped (.list (ts.map λl=>PyData.list ((l.map λ(p:Nat)=>((p:Nat):Int)).map PyData.int)))=true:=m5 λd hd=>by
 obtain⟨l,_,rfl⟩:=HS.mp hd;exact Bg _
end K8
namespace K8
open PySem L2
inductive uJ(K:GX)(vs:List L2.V)(H:L2.Hp)(Q:L2.VK)(x3_:L2.XK):Prop
 |mk (a:Addr)(ys:List V)(es:En)(d:Nat) (h0_:vs=[.ref a,.int (d:Int)])(h1_:SqL K H a ys)(h2_:bX H ys es)(h3_:d<2*es.length)(h4_:Q (iV (hd es d)) H)
inductive pK(K:GX)(vs:List L2.V)(H:L2.Hp)(Q:L2.VK)(x3_:L2.XK):Prop
 |mk (a b:Addr)(ys xs:List V)(m:Nat)(es:En)(ts:List (List Nat))(d:Nat) (h0_:vs=[.ref a,.ref b,.int (d:Int)])(h1_:SqL K H a ys)(h2_:bX H ys es)(h3_:SqL K H b xs)(h4_:bw H xs ts)(h5_:bD m es ts)(h6_:es.length<=62)(h7_:d<2*es.length)(h8_:∀ q r H',Same H H'->H q=none->H' q=some (.lst (r.map iV))->Path (fol es ts) (2*es.length) d r->Ring (fol es ts) (2*es.length) r->Q (.ref q) H')
theorem uN:az ["ends","dart"] ["ends","dart"] (ar lu):=by ac_nf
theorem Df(F:Fun K "_law_head" "_law_head" lu f fd):FnOk P w K mg base CX0 1 f fd ["ends","dart"] (uJ K):=by
 refine F.ok uN (by walk_at "l") λM A u s H O Q E N h=>?_
 obtain⟨a,v,B,d,rfl,x,t,b,k⟩:=h;have G:d/2<B.length:=by omega
 have m:B[d/2]?=some B[d/2]:=GU G;obtain⟨p,r,I⟩:=t.2 _ _ m;have n:hd B d=if d%2=0 then B[d/2].2 else B[d/2].1:=by unfold hd;rw[m]
 have c:(d:Int)/2=((d/2:Nat):Int):=by omega
 have l:atI [iV B[d/2].1,iV B[d/2].2] (1-(d:Int)%2)=some (iV (hd B d)):=by
  by_cases z:d%2=0
  .rw[n,Np z,show(1-(d:Int)%2)=1 by omega];rfl
  .rw[n,Nq z,show(1-(d:Int)%2)=0 by omega];rfl
 refine⟨_,(ao (aF (aJ (aR (pv 0) (aw cN (pv 1) ai)) (aw eQ ai (aw bq (pv 1) ai))))),?_⟩;exact⟨_,rfl,_,rfl,_,_,rfl,rfl,⟨by decide,by decide⟩,a,v,_,_,rfl,rfl,x,(by rw[c];exact ay r),_,rfl,_,_,rfl,rfl,(by show(0:Int)<2;decide),_,_,rfl,rfl,p,_,_,_,rfl,rfl,SqT.of I,l,k⟩
theorem dH:az ["ends","turns","dart","place","row","tie"] ["ends","turns","dart"] (ar g7):=by ac_nf
theorem yD(F:Fun K "_law_behind" "_law_behind" g7 f fd)(T:Txt mg)(J:Cal P w K mg base 1 "_law_head" ["ends","dart"] (uJ K) C G):FnOk P w K mg base CX0 2 f fd ["ends","turns","dart"] (xC K):=by
 refine F.ok dH (by walk_at "l") λM A u s H O Q E N h=>?_
 obtain⟨a,b,k,D,m,B,o,d,rfl,x,hE,hB,i,v,n,aa,y⟩:=h;obtain⟨l,e,I,r,p3,p4,p5,p6,p7,p8,p9⟩:=v.foll aa;obtain⟨ab,len⟩:=iI v n I;obtain⟨q,j,t⟩:=i.2 _ _ I;obtain⟨L,al,am⟩:=hE.2 _ _ p3;have ed:(d:Int)/2=((d/2:Nat):Int):=by omega
 have ae:0<l.length:=Iu r;have Y:(l.map iV).length=l.length:=GY _;have ac:(((l.idxOf (d/2):Nat):Int)+1)%((l.map iV).length:Int)=(((l.idxOf (d/2)+1)%l.length:Nat):Int):=by rw[Y];rfl
 have m2:CMul 2 ((nxt l (d/2):Nat):Int):=.inl ⟨by decide,by decide⟩
 refine⟨_,(ah (aB 3 dH.nd (J.c N (af (pv 0) (af (pv 2) aj))))
   (ah (aB 4 dH.nd (aR (pv 1) (pv 3)))
   (ah (aB 5 dH.nd (aR (pv 4) (aw bq (aw bL (cY Hh JJ JI mG (pv 4) (af (aw cN (pv 2) ai) aj)) ai) (aC ax (by rfl) T.n_len a9 (af (pv 4) aj)))))
   (ao (aF (aw bL (aw cM ai (pv 5)) (cL B9 (by rfl) T.n_int bt_int (af (gn i4 (aJ (aR (pv 0) (pv 5)) ai) (pv 3) (aG _)) aj)))))))),?_⟩
 refine⟨_,rfl,_,rfl,a,k,B,d,rfl,x,hE,aa,?_⟩;refine⟨_,rfl,_,rfl,b,D,_,_,rfl,rfl,hB,ay j,?_⟩;refine⟨_,rfl,_,rfl,.inl ⟨rfl,_,SqL.of t⟩,_,rfl,_,_,rfl,rfl,⟨by decide,by decide⟩,q,l,d/2,rfl,congrArg (λz=>[V.int z]) ed,SqL.of t,λp g=>by have:=ab p g;omega,∅,r,_,_,rfl,rfl,_,rfl,q,_,rfl,.inl (SqL.of t),_,_,rfl,rfl,(by show(0:Int)<((l.map iV).length:Int);rw[Y];omega),q,_,_,_,rfl,rfl,SqL.of t,(by rw[ac];exact Gi (gp r)),?_⟩
 refine⟨_,rfl,_,_,rfl,rfl,m2,_,rfl,_,rfl,a,k,_,_,rfl,rfl,x,ay al,L,_,0,_,rfl,rfl,SqT.of am,at0,_,rfl,rfl,.inr ⟨_,rfl,_,_,rfl,rfl,?_⟩⟩;rw[p6]at y;by_cases c:e.1=hd B d
 .rw[Np c]at y;rw[MB (congrArg iV c)];simpa[iV] using y
 .rw[Nq c]at y;rw[LQ (λz=>c (by have:=V.int.inj z;omega))]
  simpa[iV] using y
theorem eM:az ["ends","turns","dart","row","at"] ["ends","turns","dart"] (ar jt):=by ac_nf
theorem AO(F:Fun K "_law_round" "_law_round" jt f fd)(ac:Cal P w K mg base 2 "_law_behind" ["ends","turns","dart"] (xC K) p G):FnOk P w K mg base CX0 3 f fd ["ends","turns","dart"] (pK K):=by
 refine F.ok eM (by walk_at "l") λt A u s H O Q E N h=>?_
 obtain⟨a,b,v,D,m,B,l,d,rfl,hS,hE,hB,hR,w',n,ae,k⟩:=h;have pm:=perm w'
 refine⟨_,(ah (aB 3 eM.nd (bV (af (pv 2) aj)))
   (ah (aB 4 eM.nd (ac.c N (af (pv 0) (af (pv 1) (af (pv 2) aj)))))
   (ah (eO PassesOwn.never (aD i4 (pv 4) (pv 2) (aG _)) (ah (aU (cY Hh Hy Hx aY (pv 3) (af (pv 4) aj)))
   (ao (aB 4 eM.nd (ac.c N (af (pv 0) (af (pv 1) (af (pv 4) aj))))))))
   (ao (aF (pv 3)))))),?_⟩
 refine⟨_,rfl,(by show 1<=LR;decide),λq g=>?_⟩
 have j:=ak g (.lst [.int (d:Int)]);refine⟨_,rfl,_,rfl,_,rfl,a,b,v,D,m,B,l,d,rfl,j.seq hS,hE.mono j,j.seq hB,hR.mono j,w',n,ae,?_⟩;refine fM (λM L=>∃(r:List Nat)(x:Nat),M=[some (.ref a),some (.ref b),some (.int (d:Int)),some (.ref q),some (iV (fol B l x))]/\Same H L/\L q=some (.lst ((r++[x]).map iV))/\Path (fol B l) (2*B.length) d (r++[x]))
  (λM L=>match L q with|some (.lst D)=>200-D.length|_=>0) ⟨[],d,rfl,j,ag,xO ae⟩ ?_ ?_
 .rintro M L ⟨r,x,rfl,J,aa,pa⟩;refine⟨_,rfl,_,rfl,rfl,_,rfl,?_⟩;have Y:=cV pa.nd pa.lt;refine ite2 (λc=>?_) (λc=>?_)
  .have C:fol B l x≠d:=λz=>by
    rw[MB (show iV (fol B l x)=V.int (d:Int) by rw[z];rfl)]at c
    cases c
   have al:=pa.snoc pm C;have ab:=cV al.nd al.lt;have am:fol B l x<2*B.length:=al.lt _ (by simp)
   refine⟨_,rfl,.inl ⟨rfl,_,SqL.of aa⟩,_,rfl,q,_,_,rfl,rfl,aa,av (by rw[GY];omega),?_⟩
   have o:=aH J g (.lst ((r++[x]).map iV++[iV (fol B l x)]));refine⟨_,rfl,_,rfl,_,rfl,a,b,v,D,m,B,l,fol B l x,rfl,o.seq hS,hE.mono o,o.seq hB,hR.mono o,w',n,am,?_⟩;refine⟨⟨r++[x],fol B l x,rfl,o,?_,al⟩,?_⟩
   .rw[ag,show((r++[x]++[fol B l x]).map iV)=(r++[x]).map iV++[iV (fol B l x)] from by rw[Hm];rfl]
   .show(match(upd L q (.lst ((r++[x]).map iV++[iV (fol B l x)]))) q with|some (.lst D)=>200-D.length|_=>0)<(match L q with|some (.lst D)=>200-D.length|_=>0)
    rw[ag,aa];show 200-((r++[x]).map iV++[iV (fol B l x)]).length<200-((r++[x]).map iV).length;rw[GZ,GY,Hd];omega
  .have C:fol B l x=d:=by
    by_cases z:fol B l x=d
    .exact z
    .exact Nr (by rw[LQ (λy=>z (by have:=V.int.inj y;omega))];rfl) c
   refine⟨_,rfl,?_⟩;exact k q _ L J g aa pa (pa.ring pm C)
 .rintro M L Q1 Q2 I ⟨v',e,b',i,T,C,e3,q'⟩;exact⟨v',e,b',i,T,C,e3,I _ _ q'⟩
inductive zX(vs:List L2.V)(H:L2.Hp)(Q:L2.VK)(x3_:L2.XK):Prop
 |mk (c:Int)(m:Nat) (h0_:vs=[.int c,.int (m:Int)])(h1_:m<=100)(h2_:∀(q:Addr)(o:List Nat)(H':Hp),Same H H'->H q=none->H' q=some (.lst (o.map iV))->o.length=m->o.Nodup->(∀ x∈o,x<m)->Q (.ref q) H')
inductive Aa(K:GX)(vs:List L2.V)(H:L2.Hp)(Q:L2.VK)(x3_:L2.XK):Prop
 |mk (a:Addr)(cs:List Int) (h0_:vs=[.ref a])(h1_:SqL K H a (cs.map V.int))(h2_:cs.length<=30)(h3_:∀(t pe pt:Addr)(ys xs:List V)(m:Nat)(es:En)(ts:List (List Nat))(H':Hp),Same H H'->H' t=some (.tup [.ref pe,.ref pt])->H' pe=some (.lst ys)->bX H' ys es->H' pt=some (.lst xs)->bw H' xs ts->Gr m es ts->es.length=cs.length+1->Q (.ref t) H')
def GP(H:Hp)(a pe pt:Addr)(i:Nat)(σ:St)(H5:Hp):Prop:=∃ q j b f g h u d k D m B l,σ=[some (.ref a),some (.ref pe),some (.ref pt),q,j,b,f,g,h,u,d]/\Same H H5/\H5 pe=some (.lst k)/\bX H5 k B/\H5 pt=some (.lst D)/\bx (λp=>p=pe∨p=pt∨H p≠none) H5 D l/\Dist D/\Gr m B l/\B.length=i+1
theorem mI{H7:Hp}{pe pt:Addr}{e:Nat×Nat}{ts':List (List Nat)}(k:pe≠pt)(c:H pe=none)(s7:Same H H7)(J:H7 pe=some (.lst ys))(h2:bX H7 ys es)(A:H7 pt=some (.lst xs))(M:bx (λp=>p=pe∨p=pt∨H p≠none) H7 xs ts')(s:Dist xs)(L:Gr N (es++[e]) ts')(hi:es.length=i+1){t:Addr}(T:H7 t=none){x:V}(O:x=iV e.1)(Q:y=iV e.2)(q j b f g h u d:Option V):GP H a pe pt (i+1) [some (.ref a),some (.ref pe),some (.ref pt),q,j,b,f,g,h,u,d] (upd (upd H7 t (.tup [x,y])) pe (.lst (ys++[.ref t]))):=by
 subst O Q;have r:=ak T (.tup [iV e.1,iV e.2]);refine⟨_,_,_,_,_,_,_,_,_,xs,N,es++[e],ts',rfl,aH (s7.trans r) c _,ag,((h2.mono r).snoc ag).put (r _ _ J),by rw[aq k.symm];exact r _ _ A,M.mono λp o n z=>?_,s,L,by rw[GZ,hi];rfl⟩
 rw[aq (λz=>n (.inl z))];exact r _ _ z
theorem kS{S:Addr->Prop}(h:bx S H xs ts)(D:Dist xs)(g:H q=none):Dist (xs++[.ref q]):=by
 have a:∀(j:Nat)(p:Addr),j<xs.length->(xs++[V.ref q])[j]?=some (.ref p)->xs[j]?=some (.ref p)/\p≠q:=λj p N e=>by
  rw[G5 N]at e;obtain⟨L,r,_,C⟩:=h.2 j _ (GU (by rw[← h.1];exact N))
  rw[e]at r
  cases r
  exact⟨e,aA C g⟩
 have new:∀(j:Nat)(p:Addr),¬ j<xs.length->(xs++[V.ref q])[j]?=some (.ref p)->j=xs.length/\p=q:=λj p N e=>by
  have:=(GV.mp e).1;rw[GZ,Hd]at this;have b:j=xs.length:=by omega
  subst b;rw[G3 (G0 _),Hw]at e
  cases e
  exact⟨rfl,rfl⟩
 intro j k p f E;by_cases N:j<xs.length
 .obtain⟨Y,O⟩:=a j p N f;by_cases d:k<xs.length
  .exact D j k p Y (a k p d E).1
  .exact Nr (new k p d E).2 O
 .obtain⟨Y,O⟩:=new j p N f;by_cases d:k<xs.length
  .exact Nr O (a k p d E).2
  .rw[Y,(new k p d E).1]
theorem o8(g:Gr m es ts):m<=es.length+2:=by
 obtain⟨v,_,c⟩:=g.part;omega
theorem dj:az ["cell","many","order","mixed","k"] ["cell","many"] (ar ju):=by ac_nf
theorem C8(F:Fun K "_law_order" "_law_order" ju f fd)(T:Txt mg):FnOk P w K mg base CX0 1 f fd ["cell","many"] zX:=by
 refine F.ok dj (by walk_at "l") λt A u s H b Q E N h=>?_
 obtain⟨c,m,rfl,y,k⟩:=h
 refine⟨_,(ah (aB 2 dj.nd (bV aj))
   (ah (aB 3 dj.nd (aw bq (pv 0) ai))
   (ah (bz PassesOwn.never rfl (aP rfl T.n_range (af (pv 1) aj)) (bY 4 dj.nd) (ah (aB 3 dj.nd (aw bq (aw cM (pv 3) ai) ai))
   (ao (aU (cY Hh Ko Km nA (pv 2) (af (aw bq (pv 3) (aw bL (pv 4) ai)) (af (pv 4) aj)))))))
   (ao (aF (pv 2)))))),?_⟩
 refine⟨(by show 0<=LR;decide),λq g=>?_⟩
 refine⟨_,rfl,_,_,rfl,rfl,(by show(0:Int)<1000000007;decide),?_⟩
 refine⟨_,rfl,_,rfl,∅,∅,b8 (n:=(m:Int).toNat) (λi d L=>∃(M:Int),∃ j o,d=[some (.int c),some (.int (m:Int)),some (.ref q),some (.int M),j]/\Same H L/\L q=some (.lst (o.map iV))/\o.length=i/\o.Nodup/\∀ x∈o,x<i) ⟨_,_,[],rfl,ak g _,ag,rfl,IE,λx O=>nomatch O⟩ ?_ ?_⟩
 .rintro i d L I ⟨M,j,o,rfl,J,a,G,v,lt⟩;rw[G8]at I;have B:(0:Int)+(i:Int)=(i:Int):=Ir _;rw[B];have Y:(o.map iV).length=i:=by rw[GY];exact G
  refine⟨_,rfl,_,_,rfl,rfl,.inr ⟨by decide,by decide⟩,_,_,rfl,rfl,(by show(0:Int)<2147483647;decide),?_⟩
  refine⟨_,rfl,.inl ⟨rfl,_,SqL.of a⟩,_,rfl,_,rfl,_,_,rfl,rfl,_,_,rfl,rfl,(by show(0:Int)<(i:Int)+1;omega),_,rfl,q,_,_,_,rfl,rfl,a,(EH _ _).1,(by rw[Y];exact(EH _ _).2),av ∅,?_⟩
  rw[insV];refine⟨_,_,_,rfl,aH J g _,ag,by rw[Gg,G],Bi v λz=>by have:=lt i z;omega,λx O=>?_⟩
  rcases vH.mp O with z|z
  .omega
  .have:=lt x z;omega
 .rintro d L ⟨M,j,o,rfl,J,a,G,v,lt⟩;rw[G8]at G lt;exact⟨_,rfl,k q o L J g a G v lt⟩
theorem aX:az ["cells","ends","turns","cell","mixed","fresh","left","row","right","one","two"] ["cells"] (ar jv):=by ac_nf
theorem Di{fr:Addr}{cP:FuncData}(F:Fun K "_law_grown" "_law_grown" jv f fd)(T:Txt mg)(aT:Cal P w K mg base 3 "_law_round" ["ends","turns","dart"] (pK K) fr Y)(an:Cal P w K mg base 1 "_law_head" ["ends","dart"] (uJ K) C cP):
  FnOk P w K mg base CX0 4 f fd ["cells"] (Aa K):=by
 refine F.ok aX (by walk_at "l") λaa A u s H vs Q E N h=>?_
 obtain⟨a,cs,rfl,hS,di,kk⟩:=h;have ba:(cs.map V.int).length=cs.length:=GY _
 refine⟨_,(ah (aB 1 aX.nd (bV (af (bJ (af ai (af ai aj))) aj)))
   (ah (aB 2 aX.nd (bV (af (bV (af ai aj)) (af (bV (af ai aj)) aj))))
   (ah (bz PassesOwn.never rfl (aV (pv 0)) (bY 3 aX.nd) (ah (aB 4 aX.nd (aw bq (aw cM (aw bq (pv 3) ai) ai) ai))
   (ah (aB 5 aX.nd (aC ax (by rfl) T.n_len a9 (af (pv 1) aj)))
   (ah (aB 6 aX.nd (aw bq (aw cN (pv 4) ai) (aw cM ai (pv 5))))
   (ah (aB 7 aX.nd (aT.c N (af (pv 1) (af (pv 2) (af (pv 6) aj)))))
   (ah (aB 8 aX.nd (aR (pv 7) (aw bq (aw bq (aw cM (pv 4) (pv 4)) ai) (aC ax (by rfl) T.n_len a9 (af (pv 7) aj)))))
   (ah (aB 9 aX.nd (an.c N (af (pv 1) (af (pv 6) aj))))
   (ah (aB 10 aX.nd (an.c N (af (pv 1) (af (pv 8) aj))))
   (ah (aU (cY Hh Ko Km nA (aR (pv 2) (pv 9)) (af (aw bL (cY Hh JJ JI mG (aR (pv 2) (pv 9)) (af (aw cN (pv 6) ai) aj)) ai) (af (pv 5) aj))))
   (ah (bP (PW.pt (sJ (aD eB (aw bq (pv 4) ai) ai (aG _)) (nh (aD eB (pv 9) (pv 10) (aG _))))) (ah (aB 10 aX.nd (aC ax (by rfl) T.n_len a9 (af (pv 2) aj)))
   (ao (aU (cY Hh Hy Hx aY (pv 2) (af (bV (af (pv 5) aj)) aj))))) (ao (aU (cY Hh Ko Km nA (aR (pv 2) (pv 10)) (af (aw bL (cY Hh JJ JI mG (aR (pv 2) (pv 10)) (af (aw cN (pv 8) ai) aj)) ai) (af (pv 5) aj))))))
   (ao (bP (aD eB (aw bq (aw cN (pv 3) ai) ai) ai (aG _)) (ao (aU (cY Hh Hy Hx aY (pv 1) (af (bJ (af (pv 10) (af (pv 9) aj))) aj)))) (ao (aU (cY Hh Hy Hx aY (pv 1) (af (bJ (af (pv 9) (af (pv 10) aj))) aj))))))))))))))))
   (ao (aF (bJ (af (pv 1) (af (pv 2) aj)))))))),?_⟩
 refine⟨(by show 2<=LR;decide),λt0 bi=>⟨(by show 1<=LR;decide),λpe ac=>?_⟩⟩
 have v:=ak bi (.tup [.int 0,.int 1]);have s2:=v.trans (ak ac (.lst [.ref t0]));refine⟨(by show 1<=LR;decide),λp0 cc=>⟨(by show 1<=LR;decide),λp1 aL=>⟨(by show 2<=LR;decide),λpt ap=>?_⟩⟩⟩
 have s3:=ak cc (.lst [.int 0]);have s4:=ak aL (.lst [.int 0]);have s5:=ak ap (.lst [.ref p0,.ref p1]);have cn:=((s2.trans s3).trans s4).trans s5;have none_of:∀{G:Hp}{p:Addr},Same H G->G p=none->H p=none:=λ{G p} sm z=>by
  cases y:H p with
  |none=>rfl
  |some o=>rw[sm _ _ y]at z;cases z
 have bE:=none_of v ac;have co:=none_of ((s2.trans s3).trans s4) ap;have cp:=none_of s2 cc;have ct:=none_of (s2.trans s3) aL;have g1:=s3.trans (s4.trans s5);have a6:=g1 _ _ (ag (H:=upd H t0 (.tup [.int 0,.int 1])) (a:=pe) (o:=.lst [.ref t0]));have cu:=(s4.trans s5) _ _ (ag (a:=p0) (o:=.lst [.int 0]));have cv:=s5 _ _ (ag (a:=p1) (o:=.lst [.int 0]));have cw:p0≠p1:=aA (ag (a:=p0) (o:=.lst [.int 0])) aL;have bp:pe≠pt:=aA ((s3.trans s4) _ _ (ag (a:=pe) (o:=.lst [.ref t0]))) ap;have cQ:p0≠pe:=λz=>by rw[z,ag]at cc;cases cc
 have cT:p1≠pe:=λz=>by rw[z,s3 _ _ (ag (a:=pe) (o:=.lst [.ref t0]))]at aL;cases aL
 have c5:p0≠pt:=aA (s4 _ _ (ag (a:=p0) (o:=.lst [.int 0]))) ap;have c6:p1≠pt:=aA (ag (a:=p1) (o:=.lst [.int 0])) ap;have cx:GP H a pe pt 0 [some (.ref a),some (.ref pe),some (.ref pt),none,none,none,none,none,none,none,none] (upd (upd (upd (upd (upd H t0 (.tup [.int 0,.int 1])) pe (.lst [.ref t0])) p0 (.lst [.int 0])) p1 (.lst [.int 0])) pt (.lst [.ref p0,.ref p1])):=by
  refine⟨_,_,_,_,_,_,_,_,[.ref t0],[.ref p0,.ref p1],2,[(0,1)],[[0],[0]],rfl,cn,a6,⟨rfl,λi e z=>?_⟩,ag,⟨rfl,λi l z=>?_⟩,λi j p z1 z2=>?_,gr_two,rfl⟩
  .match i,z with
   |0,z=>cases z;exact⟨t0,rfl,((ak ac _).trans g1) _ _ ag⟩
   |i+1,z=>cases z
  .match i,z with
   |0,z=>cases z;exact⟨p0,rfl,by rintro(y|y|y);exact cQ y;exact c5 y;exact y cp,cu⟩
   |1,z=>cases z;exact⟨p1,rfl,by rintro(y|y|y);exact cT y;exact c6 y;exact y ct,cv⟩
   |i+2,z=>cases z
  .match i,z1,j,z2 with
   |0,z1,0,z2=>rfl
   |1,z1,1,z2=>rfl
   |0,z1,1,z2=>cases z1;cases z2;exact Nr rfl cw
   |1,z1,0,z2=>cases z1;cases z2;exact Nr rfl cw
   |i+2,z1,_,_=>cases z1
   |0,_,j+2,z2=>cases z2
   |1,_,j+2,z2=>cases z2
 refine⟨_,rfl,a,rfl,⟨_,cn.seq hS⟩,bM (xs:=cs.map V.int) (λi M H5=>GP H a pe pt i M H5) cx (λi M H5 _ ae=>by obtain⟨_,_,_,_,_,_,_,_,_,_,_,_,_,_,z,_⟩:=ae;exact z.seq hS) ?_ ?_⟩
 .rintro i x M H5 O ⟨v3,v4,v5,v6,v7,v8,v9,al,k,xs,m,B,ts,rfl,s5,a6,en,bR,aW,D,g,I⟩;rw[G7]at O;obtain⟨c,hc,rfl⟩:=Ho.mp O;have bZ:i<cs.length:=(GV.mp hc).1;have a1:k.length=B.length:=en.1;have ab:B.length<=62:=by omega
  have w':=g.w;have cB:=w'.len;have df:=o8 g;have o0:(0:Int)<=c%1000000007*48271%2147483647:=IU _ (by decide)
  have o1:c%1000000007*48271%2147483647<2147483647:=IB _ (by decide)
  refine⟨_,rfl,_,_,rfl,rfl,(by show(0:Int)<1000000007;decide),_,_,rfl,rfl,.inr ⟨by decide,by decide⟩,_,_,rfl,rfl,(by show(0:Int)<2147483647;decide),?_⟩
  refine⟨_,rfl,pe,k,rfl,.inl (SqL.of a6),?_⟩;have a3:(0:Int)<2*(k.length:Int):=by omega
  refine⟨_,rfl,_,_,rfl,rfl,⟨by decide,by decide⟩,_,rfl,_,_,rfl,rfl,.inl ⟨by decide,by decide⟩,_,_,rfl,rfl,a3,?_⟩
  have l0:=IU (c%1000000007*48271%2147483647/2) (show 2*(k.length:Int)≠0 by omega)
  have l1:=IB (c%1000000007*48271%2147483647/2) a3;obtain⟨L,hL⟩:∃ L:Nat,c%1000000007*48271%2147483647/2%(2*(k.length:Int))=(L:Int):=⟨_,(IM l0).symm⟩;have bv:L<2*B.length:=by omega
  refine⟨_,rfl,_,rfl,_,rfl,pe,pt,k,xs,m,B,ts,L,congrArg (λz=>[V.ref pe,V.ref pt,V.int z]) hL,SqL.of a6,en,SqL.of bR,aW.off,w',ab,bv,λq r H6 s6 hq am pa ri=>?_⟩;have c7:(r.map iV).length=r.length:=GY _;have a4:=ri.ne;have cD:(0:Int)<((r.map iV).length:Int):=by omega
  have j0:=IU (c%1000000007*48271%2147483647*(c%1000000007*48271%2147483647)%1000003) (show((r.map iV).length:Int)≠0 by omega)
  have j1:=IB (c%1000000007*48271%2147483647*(c%1000000007*48271%2147483647)%1000003) cD;obtain⟨J,hJ⟩:∃ J:Nat,c%1000000007*48271%2147483647*(c%1000000007*48271%2147483647)%1000003%((r.map iV).length:Int)=(J:Int):=⟨_,(IM j0).symm⟩;have c8:J<r.length:=by omega
  obtain⟨R,hR⟩:∃ R,r[J]?=some R:=⟨_,GU c8⟩;have ci:=GW hR;have cG:=ri.lt R ci;refine⟨_,rfl,_,rfl,_,rfl,_,_,rfl,rfl,.inl ⟨by show -(2^64:Int)<c%1000000007*48271%2147483647;omega,by show c%1000000007*48271%2147483647<(2^64:Int);omega⟩,_,_,rfl,rfl,(by show(0:Int)<1000003;decide),_,rfl,q,_,rfl,.inl (SqL.of am),_,_,rfl,rfl,cD,q,_,_,_,rfl,rfl,SqL.of am,(by rw[hJ];exact Gi hR),?_⟩
  have da:=s5.trans s6;have b0:=s6 _ _ a6;have b5:=s6 _ _ bR;have ck:=en.mono s6;have a7:bx (λp=>p=pe∨p=pt∨H p≠none) H6 xs ts:=aW.mono λp o _ z=>s6 _ _ z;refine⟨_,rfl,_,rfl,pe,k,B,L,congrArg (λz=>[V.ref pe,V.int z]) hL,SqL.of b0,ck,bv,?_⟩;refine⟨_,rfl,_,rfl,pe,k,B,R,rfl,SqL.of b0,ck,cG,?_⟩;obtain⟨_,l,_,_,_,k4,k5,k6⟩:=w'.at bv;obtain⟨_,l',_,_,_,dm,cd,cH⟩:=w'.at cG;obtain⟨p1,y1,y2,y3⟩:=a7.2 _ _ k5;obtain⟨p2,z1,z2,z3⟩:=a7.2 _ _ cd;obtain⟨bb,f1⟩:=iI w' ab k5;obtain⟨db,f2⟩:=iI w' ab cd;have dg:(l.map iV).length=l.length:=GY _;have dh:(l'.map iV).length=l'.length:=GY _;have dn:l.idxOf (L/2)<l.length:=Lr k6;have dp:l'.idxOf (R/2)<l'.length:=Lr cH;have bS:∀{p q:Addr},¬ (p=pe∨p=pt∨H p≠none)->(q=pe∨q=pt)->q≠p:=λn y z=>n (by rw[← z];rcases y with y|y<;>simp[y])
  have a5:∀{p:Addr},¬ (p=pe∨p=pt∨H p≠none)->H p=none:=λ{p} n=>by
   cases y:H p with
   |none=>rfl
   |some o=>exact Nr (.inr (.inr (by rw[y];exact λz=>nomatch z))) n
  have aL:=a5 y2;have a0:=a5 z2;have eL:c%1000000007*48271%2147483647/2%(2*(k.length:Int))/2=((L/2:Nat):Int):=by rw[hL];omega
  have eR:(R:Int)/2=((R/2:Nat):Int):=by omega
  refine⟨_,rfl,_,rfl,pt,xs,_,_,rfl,rfl,SqL.of b5,ay y1,.inl ⟨rfl,_,SqL.of y3⟩,_,rfl,_,rfl,pt,xs,_,_,rfl,rfl,SqL.of b5,ay y1,.inl ⟨rfl,_,SqL.of y3⟩,_,rfl,_,_,rfl,rfl,⟨by decide,by decide⟩,p1,l,L/2,rfl,congrArg (λz=>[V.int z]) eL,SqL.of y3,λp b=>by have:=bb p b;omega,∅,k6,_,_,rfl,rfl,_,rfl,p1,_,_,_,rfl,rfl,y3,∅,∅,av ∅,?_⟩
  rw[a1,insV,show(((l.idxOf (L/2):Nat):Int)+1).toNat=l.idxOf (L/2)+1 by omega]
  have ce:=aH da aL (.lst ((ins l (l.idxOf (L/2)+1) B.length).map iV));have bU:(upd H6 p1 (.lst ((ins l (l.idxOf (L/2)+1) B.length).map iV))) pe=some (.lst k):=by rw[aq (bS y2 (.inl rfl))];exact b0
  have a2:(upd H6 p1 (.lst ((ins l (l.idxOf (L/2)+1) B.length).map iV))) pt=some (.lst xs):=by rw[aq (bS y2 (.inr rfl))];exact b5
  have cl:=ck.put (o:=.lst ((ins l (l.idxOf (L/2)+1) B.length).map iV)) y3;have bn:=a7.set (l':=ins l (l.idxOf (L/2)+1) B.length) D y1;have z7:hd B L≠hd B R->(upd H6 p1 (.lst ((ins l (l.idxOf (L/2)+1) B.length).map iV))) p2=some (.lst (l'.map iV)):=λn=>by
   rw[aq (λy=>by rw[y]at z1;exact n (D _ _ p1 y1 z1))];exact z3
  generalize dq:upd H6 p1 (.lst ((ins l (l.idxOf (L/2)+1) B.length).map iV))=H7 at ce bU a2 cl bn z7;obtain⟨x0,be,rfl,ch⟩:=ri.cr.ch;have dc:x0=L:=by
   have:=pa.hd;exact Hq this
  subst dc;have xl:xs.length=m:=by rw[aW.1,cB]
  have bd:=ri.cr;refine⟨_,rfl,_,_,rfl,rfl,(by show(0:Int)<2;decide),rfl,_,rfl,ite2 (λc=>iteT ?_) (λc=>⟨_,rfl,_,rfl,rfl,_,rfl,ite2 (λc2=>?_) (λc2=>?_)⟩)⟩
  rotate_left 2
  .have n:hd B x0≠hd B R:=λz=>c2 (MB (by rw[z]))
   have z7:=z7 n;refine⟨_,rfl,_,rfl,pt,xs,_,_,rfl,rfl,SqL.of a2,ay z1,.inl ⟨rfl,_,SqL.of z7⟩,_,rfl,_,rfl,pt,xs,_,_,rfl,rfl,SqL.of a2,ay z1,.inl ⟨rfl,_,SqL.of z7⟩,_,rfl,_,_,rfl,rfl,⟨by decide,by decide⟩,p2,l',R/2,rfl,congrArg (λz=>[V.int z]) eR,SqL.of z7,λp b=>by have:=db p b;omega,∅,cH,_,_,rfl,rfl,_,rfl,p2,_,_,_,rfl,rfl,z7,∅,∅,av ∅,?_⟩
   rw[insV,show(((l'.idxOf (R/2):Nat):Int)+1).toNat=l'.idxOf (R/2)+1 by omega]
   have b6:=aH ce a0 (.lst ((ins l' (l'.idxOf (R/2)+1) B.length).map iV));have aS:(upd H7 p2 (.lst ((ins l' (l'.idxOf (R/2)+1) B.length).map iV))) pe=some (.lst k):=by rw[aq (bS z2 (.inl rfl))];exact bU
   have bm:(upd H7 p2 (.lst ((ins l' (l'.idxOf (R/2)+1) B.length).map iV))) pt=some (.lst xs):=by rw[aq (bS z2 (.inr rfl))];exact a2
   have ca:=cl.put (o:=.lst ((ins l' (l'.idxOf (R/2)+1) B.length).map iV)) z7;have cb:=bn.set (l':=ins l' (l'.idxOf (R/2)+1) B.length) D z1;refine⟨_,rfl,_,_,rfl,rfl,⟨by decide,by decide⟩,_,_,rfl,rfl,(by show(0:Int)<2;decide),rfl,_,rfl,ite2 (λ_=>?_) (λ_=>?_)⟩
   .refine⟨_,rfl,.inl ⟨rfl,_,SqL.of aS⟩,_,rfl,_,rfl,(by show 2<=LR;decide),λt d=>⟨pe,k,_,rfl,rfl,ak d _ _ _ aS,av ∅,?_⟩⟩
    exact mI bp bE b6 aS ca bm cb D (g.join (e:=(hd B R,hd B x0)) bv bd ch ci rfl rfl n (.inr rfl) k5 cd) I d rfl rfl _ _ _ _ _ _ _ _
   .refine⟨_,rfl,.inl ⟨rfl,_,SqL.of aS⟩,_,rfl,_,rfl,(by show 2<=LR;decide),λt d=>⟨pe,k,_,rfl,rfl,ak d _ _ _ aS,av ∅,?_⟩⟩
    exact mI bp bE b6 aS ca bm cb D (g.join (e:=(hd B x0,hd B R)) bv bd ch ci rfl rfl n (.inl rfl) k5 cd) I d rfl rfl _ _ _ _ _ _ _ _
  all_goals
   refine⟨_,rfl,pt,xs,rfl,.inl (SqL.of a2),?_⟩
   refine⟨_,rfl,.inl ⟨rfl,_,SqL.of a2⟩,_,rfl,(by show 1<=LR;decide),λpn aI=>⟨pt,xs,_,rfl,rfl,ak aI _ _ _ a2,av ∅,?_⟩⟩
   have sn:=ak aI (.lst [V.int (B.length:Int)])
   have b6:=aH (ce.trans sn) co (.lst (xs++[.ref pn]))
   have aS:(upd (upd H7 pn (.lst [V.int (B.length:Int)])) pt (.lst (xs++[.ref pn]))) pe=some (.lst k):=by rw[aq bp];exact sn _ _ bU
   have bm:(upd (upd H7 pn (.lst [V.int (B.length:Int)])) pt (.lst (xs++[.ref pn]))) pt=some (.lst (xs++[.ref pn])):=ag
   have ca:=(cl.mono sn).put (o:=.lst (xs++[.ref pn])) (sn _ _ a2)
   have cO:pn≠pt:=λz=>by rw[z,a2]at aI;cases aI
   have dd:pn≠pe:=λz=>by rw[z,bU]at aI;cases aI
   have bB:H pn=none:=none_of ce aI
   have cb:bx (λp=>p=pe∨p=pt∨H p≠none) (upd (upd H7 pn (.lst [V.int (B.length:Int)])) pt (.lst (xs++[.ref pn]))) (xs++[.ref pn]) (ts.set (hd B x0) (ins l (l.idxOf (x0/2)+1) B.length)++[[B.length]]):=by
    refine(bn.mono λp o n z=>?_).snoc (by rintro(y|y|y);exact dd y;exact cO y;exact y bB) ?_
    .rw[aq (λz=>n (.inr (.inl z)))];exact sn _ _ z
    .rw[aq cO];exact ag
   have D8:=kS bn D aI
   have cf:V.int (xs.length:Int)=iV m:=by rw[xl];rfl
   refine⟨_,rfl,_,_,rfl,rfl,⟨by decide,by decide⟩,_,_,rfl,rfl,(by show(0:Int)<2;decide),rfl,_,rfl,ite2 (λ_=>?_) (λ_=>?_)⟩
   .refine⟨_,rfl,.inl ⟨rfl,_,SqL.of aS⟩,_,rfl,_,rfl,(by show 2<=LR;decide),λt d=>⟨pe,k,_,rfl,rfl,ak d _ _ _ aS,av ∅,?_⟩⟩
    exact mI bp bE b6 aS ca bm cb D8 (g.leaf (e:=(m,hd B x0)) bv bd ch rfl (.inr rfl) k5) I d cf rfl _ _ _ _ _ _ _ _
   .refine⟨_,rfl,.inl ⟨rfl,_,SqL.of aS⟩,_,rfl,_,rfl,(by show 2<=LR;decide),λt d=>⟨pe,k,_,rfl,rfl,ak d _ _ _ aS,av ∅,?_⟩⟩
    exact mI bp bE b6 aS ca bm cb D8 (g.leaf (e:=(hd B x0,m)) bv bd ch rfl (.inl rfl) k5) I d rfl cf _ _ _ _ _ _ _ _
 .rintro M H5 ⟨v3,v4,v5,v6,v7,v8,v9,al,k,xs,m,B,ts,rfl,s5,a6,en,bR,aW,D,g,I⟩;rw[ba]at I;refine⟨_,rfl,_,rfl,(by show 2<=LR;decide),λt d=>?_⟩
  have s6:=ak d (.tup [.ref pe,.ref pt]);exact kk t pe pt k xs m B ts _ (s5.trans s6) ag (s6 _ _ a6) (en.mono s6) (s6 _ _ bR) (aW.off.mono s6) g I
def cutp(c:Int)(p n:Nat):Nat:=(c%1009*((p:Int)+1)%(n:Int)).toNat
def rowN(c:Int)(b:List Nat)(p:Nat)(l:List Nat):List Nat:=(l.drop (cutp c p l.length)++l.take (cutp c p l.length)).map (ofL b)
def en2(l b:List Nat)(es:En):En:=(Ik es.length).map λj=>(ofL l ((es[b.idxOf j]?).getD (0,0)).1,ofL l ((es[b.idxOf j]?).getD (0,0)).2)
def ts2(c:Int)(l b:List Nat)(ts:List (List Nat)):List (List Nat):=(Ik ts.length).map λj=>rowN c b (l.idxOf j) ((ts[l.idxOf j]?).getD [])
theorem Bk{o:List Nat}(nd:o.Nodup){k:Nat}(h:k<o.length):o.idxOf (ofL o k)=k:=by
 have e:o[k]?=some (ofL o k):=by unfold ofL;rw[GU h];rfl
 exact xW nd (vI (GW e)) e
theorem ren_of{c:Int}{b:List Nat}(w:bD m es ts)(Q:W.length=m)(n1:W.Nodup)(b1:∀ x∈W,x<m)(O:b.length=es.length)(v:b.Nodup)(b2:∀ x∈b,x<es.length):
  Ren m es (en2 W b es) ts (ts2 c W b ts) (ofL W) (ofL b):=by
 have j:=yo Q n1 b1;have d:=yo O v b2;refine⟨j,d,by simp[en2],by simp[ts2,w.len],λk e h=>?_,λp l h=>?_⟩
 .have D:=(GV.mp h).1
  unfold en2;rw[G7,K5 (d.lt k D)];show some (ofL W ((es[b.idxOf (ofL b k)]?).getD (0,0)).1,ofL W ((es[b.idxOf (ofL b k)]?).getD (0,0)).2)=_;rw[Bk v ∅,h]
  rfl
 .have g:p<m:=by rw[← w.len];exact(GV.mp h).1
  refine⟨l.take (cutp c p l.length),l.drop (cutp c p l.length),(Jx _ _).symm,?_⟩;unfold ts2;rw[G7,K5 (by rw[w.len];exact j.lt p g)]
  show some (rowN c b (W.idxOf (ofL W p)) ((ts[W.idxOf (ofL W p)]?).getD []))=_;rw[Bk n1 ∅,h]
  rfl
theorem Gr.rows(g:Gr m es ts)(h2:2<=m){p:Nat}(h:ts[p]?=some l):0<l.length:=by
 have M:p<m:=by rw[← g.w.len];exact(GV.mp h).1
 cases l with
 |cons a l=>exact Nat.succ_pos _
 |nil =>
  exfalso;have b:∀ e∈es,e.1≠p/\e.2≠p:=λe n=>by
   obtain⟨t,T⟩:=HU.mp n;refine⟨λz=>?_,λz=>?_⟩
   .exact nomatch (g.w.mem p [] h t).mpr ⟨e,T,.inl z⟩
   .exact nomatch (g.w.mem p [] h t).mpr ⟨e,T,.inr z⟩
  have:=g.conn (λx=>x=p) (λe n=>⟨λz=>Nr z (b e n).1,λz=>Nr z (b e n).2⟩) p (if p=0 then 1 else 0) M (by split<;>omega) rfl
  have c:(if p=0 then 1 else 0)=p:=this;split at c<;>omega
theorem cut_hi{c:Nat}(h:c<=xs.length):cutV xs (some (c:Int)) none=xs.drop c:=by
 unfold cutV;rw[HT.sIx_nat,KL h];show(xs.drop c).take (xs.length-c)=_;exact IK (by rw[Jd];exact G0 _)
theorem cut_lo{c:Nat}(h:c<=xs.length):cutV xs none (some (c:Int))=xs.take c:=by
 unfold cutV;rw[HT.sIx_nat,KL h];show(xs.drop 0).take (c-0)=_;rw[List.drop_zero,Nat.sub_zero]
structure WebP(H:Hp)(pe pt:Addr)(m:Nat)(es:En)(ts:List (List Nat)):Prop where
 en:∃ ys,H pe=some (.lst ys)/\bX H ys es
 tu:∃ xs,H pt=some (.lst xs)/\bw H xs ts
 g:Gr m es ts
theorem WebP.mono{H H':Hp}{pe pt:Addr}{m:Nat}{es:En}{ts:List (List Nat)}(h:WebP H pe pt m es ts)(s:Same H H'):WebP H' pe pt m es ts:=by
 obtain⟨⟨k,a,b⟩,⟨D,c,d⟩,g⟩:=h;exact⟨⟨k,s _ _ a,b.mono s⟩,⟨D,s _ _ c,d.mono s⟩,g⟩
inductive spRen(vs:List L2.V)(H:L2.Hp)(Q:L2.VK)(x3_:L2.XK):Prop
 |mk (t pe pt:Addr)(c:Int)(m:Nat)(es:En)(ts:List (List Nat)) (h0_:vs=[.ref t,.int c])(h1_:H t=some (.tup [.ref pe,.ref pt]))(h2_:WebP H pe pt m es ts)(h3_:2<=m)(h4_:es.length<=31)(h5_:∀(t' pe' pt':Addr)(es':En)(ts':List (List Nat))(H':Hp),Same H H'->H' t'=some (.tup [.ref pe',.ref pt'])->WebP H' pe' pt' m es' ts'->es'.length=es.length->Q (.ref t') H')
theorem aM:az ["grown","cell","places","ties","ends","k","turns","p","row","cut"] ["grown","cell"] (ar du):=by ac_nf
theorem ok_ren(F:Fun K "_law_renumbered" "_law_renumbered" du f fd)(T:Txt mg)(a0:Cal P w K mg base 1 "_law_order" ["cell","many"] zX a G):FnOk P w K mg base CX0 2 f fd ["grown","cell"] spRen:=by
 refine F.ok aM (by walk_at "l") λab A aa s H vs Q E N h=>?_
 obtain⟨t,pe,pt,c,m,B,ts,rfl,ht,⟨⟨ys,am,en⟩,⟨xs,ap,tu⟩,g⟩,Y,cn,kk⟩:=h;have w':=g.w;have mf:=o8 g;have aL:ys.length=B.length:=en.1;have aT:xs.length=m:=by rw[tu.1,w'.len]
 refine⟨_,(ah (aB 2 aM.nd (a0.c N (af (pv 1) (af (aC ax (by rfl) T.n_len a9 (af (aJ (pv 0) ai) aj)) aj))))
   (ah (aB 3 aM.nd (a0.c N (af (aw cN (pv 1) ai) (af (aC ax (by rfl) T.n_len a9 (af (aJ (pv 0) ai) aj)) aj))))
   (ah (aB 4 aM.nd (cL dt (by rfl) T.n_list iF (af (aJ (pv 0) ai) aj)))
   (ah (bz PassesOwn.never rfl (aP rfl T.n_range (af (aC ax (by rfl) T.n_len a9 (af (aJ (pv 0) ai) aj)) aj)) (bY 5 aM.nd) (ao (oR (bJ (af (aR (pv 2) (aJ (aR (aJ (pv 0) ai) (pv 5)) ai)) (af (aR (pv 2) (aJ (aR (aJ (pv 0) ai) (pv 5)) ai)) aj))) (oU (pv 4) (aR (pv 3) (pv 5)) iJ))))
   (ah (aB 6 aM.nd (cL dt (by rfl) T.n_list iF (af (aJ (pv 0) ai) aj)))
   (ah (bz PassesOwn.never rfl (aP rfl T.n_range (af (aC ax (by rfl) T.n_len a9 (af (aJ (pv 0) ai) aj)) aj)) (bY 7 aM.nd) (ah (ni 8 [("ties",3)] ["k"] aM.nd (aV (aR (aJ (pv 0) ai) (pv 7))) pg_c pt_c (λC ex s H=>(sO K (pv 1) (pv 0))))
   (ah (aB 9 aM.nd (aw bq (aw cM (aw bq (pv 1) ai) (aw bL (pv 7) ai)) (aC ax (by rfl) T.n_len a9 (af (pv 8) aj))))
   (ao (oR (aw op_cat (ko mZ (pv 8) (nj (pv 9)) nu) (ko mZ (pv 8) nu (nj (pv 9)))) (oU (pv 6) (aR (pv 2) (pv 7)) iJ))))))
   (ao (aF (bJ (af (pv 4) (af (pv 6) aj))))))))))),?_⟩
 refine⟨_,rfl,_,rfl,t,_,1,_,rfl,rfl,SqT.of ht,at1,pt,xs,rfl,.inl (SqL.of ap),c,m,(by rw[aT];rfl),∅,λq1 o1 H1 v _ J l1 n1 b1=>?_⟩
 refine⟨_,rfl,_,_,rfl,rfl,⟨by decide,by decide⟩,_,rfl,t,_,0,_,rfl,rfl,SqT.of (v _ _ ht),at0,pe,ys,rfl,.inl (SqL.of (v _ _ am)),_,B.length,(by rw[aL];rfl),∅,λq2 o2 r s2 _ bb l2 n2 b2=>?_⟩
 have ae:=v.trans s2;have R:=ren_of (c:=c) w' l1 n1 b1 l2 n2 b2;have a6:=s2 _ _ J;refine⟨_,rfl,t,_,0,_,rfl,rfl,SqT.of (ae _ _ ht),at0,pe,ys,rfl,.inl (SqL.of (ae _ _ am)),λqe bn=>?_⟩;have s3:=ak bn (.lst ys);have al:=ae.trans s3;have co:=s3 _ _ bb;have cp:=s3 _ _ a6;have bi:∀ k,k<m->(o1.map iV)[k]?=some (iV (ofL o1 k)):=λk d=>by
  rw[G7];unfold ofL;rw[GU ∅];rfl
 have bB:∀ k,k<B.length->(o2.map iV)[k]?=some (iV (ofL o2 k)):=λk d=>by
  rw[G7];unfold ofL;rw[GU ∅];rfl
 have ck:H qe=none:=by
  cases y:H qe with
  |none=>rfl
  |some o=>rw[ae _ _ y]at bn;cases bn
 refine⟨_,rfl,t,_,0,_,rfl,rfl,SqT.of (al _ _ ht),at0,pe,ys,rfl,.inl (SqL.of (al _ _ am)),_,rfl,∅,∅,b8 (n:=(ys.length:Int).toNat) (λi M H5=>∃ v5 v6 v7 v8 v9 zs,M=[some (.ref t),some (.int c),some (.ref q1),some (.ref q2),some (.ref qe),v5,v6,v7,v8,v9]/\Same r H5/\H5 qe=some (.lst zs)/\zs.length=B.length/\∀(k:Nat)(e:Nat×Nat),k<i->B[k]?=some e->∃ p,zs[ofL o2 k]?=some (.ref p)/\H5 p=some (.tup [iV (ofL o1 e.1),iV (ofL o1 e.2)]))
  ⟨_,_,_,_,_,ys,rfl,s3,ag,aL,λk e z=>Nr z (Iw _)⟩ ?_ ?_⟩
 .rintro i M H5 I ⟨v5,v6,v7,v8,v9,zs,rfl,s5,hz,zl,bp⟩;rw[G8,aL]at I;have e0:(0:Int)+(i:Int)=(i:Int):=Ir _;rw[e0];have aS:=ae.trans s5;obtain⟨e,he⟩:∃ e,B[i]?=some e:=⟨_,GU I⟩;obtain⟨p,x1,x2⟩:=(en.mono aS).2 i e he;obtain⟨a1,a2,_⟩:=w'.ends e (GW he);have b6:=R.si.lt i I;refine⟨_,rfl,_,rfl,t,_,0,_,rfl,rfl,SqT.of (aS _ _ ht),at0,_,rfl,pe,ys,_,_,rfl,rfl,SqL.of (aS _ _ am),ay x1,p,_,0,_,rfl,rfl,SqT.of x2,at0,q1,_,_,_,rfl,rfl,SqL.of (s5 _ _ a6),ay (bi _ a1),_,rfl,_,rfl,t,_,0,_,rfl,rfl,SqT.of (aS _ _ ht),at0,_,rfl,pe,ys,_,_,rfl,rfl,SqL.of (aS _ _ am),ay x1,p,_,1,_,rfl,rfl,SqT.of x2,at1,q1,_,_,_,rfl,rfl,SqL.of (s5 _ _ a6),ay (bi _ a2),(by show 2<=LR;decide),λtt a4=>?_⟩
  have sn:=ak a4 (.tup [iV (ofL o1 e.1),iV (ofL o1 e.2)]);refine⟨_,rfl,_,rfl,_,rfl,q2,_,_,_,rfl,rfl,SqL.of (sn _ _ (s5 _ _ bb)),ay (bB _ I),qe,zs,_,ofL o2 i,rfl,rfl,sn _ _ hz,jN ∅,?_⟩
  refine⟨_,_,_,_,_,_,rfl,aH (s5.trans sn) bn _,ag,by rw[HG];exact zl,λk e' d bv=>?_⟩
  by_cases z:k=i
  .subst z;rw[he]at bv
   cases bv
   exact⟨tt,by rw[HH,Np rfl,Np ∅],by rw[aq (λz=>by rw[z,hz]at a4;cases a4)];exact ag⟩
  .obtain⟨p',u1,u2⟩:=bp k e' ∅ bv
   have b5:k<B.length:=(GV.mp bv).1;refine⟨p',by rw[HH,Nq (λy=>z (R.si.inj _ _ b5 I y.symm))];exact u1,?_⟩
   rw[aq (λz=>by rw[z,hz]at u2;cases u2)]
   exact sn _ _ u2
 rintro M H5 ⟨v5,v6,v7,v8,v9,zs,rfl,s5,hz,zl,bp⟩;rw[G8,aL]at bp;have aS:=ae.trans s5
 have cd:bX H5 zs (en2 o1 o2 B):=⟨by rw[zl,R.l1],λj x h=>by
  obtain⟨k,e,rfl,h4,rfl⟩:=R.es' h
  exact bp k e (GV.mp h4).1 h4⟩
 refine⟨_,rfl,t,_,1,_,rfl,rfl,SqT.of (aS _ _ ht),at1,pt,xs,rfl,.inl (SqL.of (aS _ _ ap)),λqt a3=>?_⟩;have s6:=ak a3 (.lst xs);have be:=aS.trans s6
 refine⟨_,rfl,t,_,1,_,rfl,rfl,SqT.of (be _ _ ht),at1,pt,xs,rfl,.inl (SqL.of (be _ _ ap)),_,rfl,∅,∅,b8 (n:=(xs.length:Int).toNat) (λi M H7=>∃ v5 v7 v8 v9 ws,M=[some (.ref t),some (.int c),some (.ref q1),some (.ref q2),some (.ref qe),v5,some (.ref qt),v7,v8,v9]/\Same H5 H7/\H7 qt=some (.lst ws)/\ws.length=m/\∀(p:Nat)(l:List Nat),p<i->ts[p]?=some l->∃ q,ws[ofL o1 p]?=some (.ref q)/\H7 q=some (.lst ((rowN c o2 p l).map iV))/\q≠qt)
  ⟨_,_,_,_,xs,rfl,s6,ag,aT,λk e z=>Nr z (Iw _)⟩ ?_ ?_⟩
 .rintro i M H7 I ⟨w5,w7,w8,w9,ws,rfl,s7,hw,wl,a7⟩;rw[G8,aT]at I;have e0:(0:Int)+(i:Int)=(i:Int):=Ir _;rw[e0];have bU:=aS.trans s7;have bd:=s5.trans s7;obtain⟨l,u⟩:∃ l,ts[i]?=some l:=⟨_,GU (by rw[w'.len];exact I)⟩
  obtain⟨p,x1,x2⟩:=(tu.mono bU).2 i l u;have cl:=g.rows Y u;have ca:∀ k∈l,k<B.length:=λk d=>lV w' u d;have bZ:l.length<=B.length:=cV (w'.nd _ _ u) ca;have bE:(l.map iV).length=l.length:=GY _;refine⟨_,rfl,t,_,1,_,rfl,rfl,SqT.of (bU _ _ ht),at1,_,rfl,pt,xs,_,_,rfl,rfl,SqL.of (bU _ _ ap),ay x1,p,rfl,⟨_,SqL.of x2⟩,bI (K:=K) (xs:=l.map iV) (λj zs H8=>H8=H7/\zs=((l.map (ofL o2)).map iV).take j) (by rw[bE];exact Hs (av ∅)) ⟨rfl,rfl⟩ (λj zs H8 _ z=>z.1▸SqL.of x2) ?_ ?_⟩
  .rintro j x zs H8 O ⟨rfl,rfl⟩;rw[G7]at O;obtain⟨k,d,rfl⟩:=Ho.mp O;refine⟨_,rfl,_,rfl,q2,_,_,_,rfl,rfl,SqL.of (bd _ _ bb),ay (bB _ (ca k (GW d))),rfl,?_⟩;rw[Hz,G7,G7,d];rfl
  rintro zs H8 aW ⟨rfl,rfl⟩ D hD;rw[bE,IK (by rw[GY,GY];exact G0 _)]
  have sD:=ak hD (.lst ((l.map (ofL o2)).map iV));have dlen:((l.map (ofL o2)).map iV).length=l.length:=by rw[GY,GY]
  have bR:(0:Int)<(((l.map (ofL o2)).map iV).length:Int):=by omega
  have c0:=IU c (show(1009:Int)≠0 by decide)
  have c1:=IB c (show(0:Int)<1009 by decide)
  refine⟨_,rfl,_,_,rfl,rfl,(by show(0:Int)<1009;decide),_,rfl,_,_,rfl,rfl,_,_,rfl,rfl,.inl ⟨by show -(2^64:Int)<c%1009;omega,by show c%1009<(2^64:Int);omega⟩,_,rfl,D,_,rfl,.inl (SqL.of ag),_,_,rfl,rfl,bR,?_⟩
  have u0:=IU (c%1009*((i:Int)+1)) (show(((l.map (ofL o2)).map iV).length:Int)≠0 by omega)
  have u1:=IB (c%1009*((i:Int)+1)) bR;have cb:c%1009*((i:Int)+1)%(((l.map (ofL o2)).map iV).length:Int)=((cutp c i l.length:Nat):Int):=by
   unfold cutp;rw[dlen]at u0 ⊢;exact(IM u0).symm
  have bS:cutp c i l.length<=((l.map (ofL o2)).map iV).length:=by omega
  refine⟨_,rfl,_,rfl,_,rfl,D,_,rfl,SqL.of ag,λce cf=>?_⟩;rw[cb,cut_hi bS];have sB:=ak cf (.lst (((l.map (ofL o2)).map iV).drop (cutp c i l.length)));refine⟨_,rfl,_,rfl,_,rfl,D,_,rfl,SqL.of (sB _ _ ag),λb6 ch=>?_⟩;rw[cut_lo bS];have sC:=ak ch (.lst (((l.map (ofL o2)).map iV).take (cutp c i l.length)));refine⟨ce,b6,_,_,rfl,rfl,sC _ _ ag,ag,by rw[Jd,HY];exact Hs (av ∅),λb3 b0=>?_⟩
  have aI:((l.map (ofL o2)).map iV).drop (cutp c i l.length)++((l.map (ofL o2)).map iV).take (cutp c i l.length)=(rowN c o2 i l).map iV:=by
   unfold rowN;rw[Hm,Hm,LL,LL,LK,LK]
  rw[aI];have sE:=ak b0 (.lst ((rowN c o2 i l).map iV));have ba:=((sD.trans sB).trans sC).trans sE;refine⟨_,rfl,_,rfl,_,rfl,q1,_,_,_,rfl,rfl,SqL.of (ba _ _ (bd _ _ a6)),ay (bi _ I),qt,ws,_,ofL o1 i,rfl,rfl,ba _ _ hw,jN (by rw[wl];exact R.pi.lt i I),?_⟩
  have cc:b3≠qt:=λz=>by rw[z,((sD.trans sB).trans sC) _ _ hw]at b0;cases b0
  refine⟨_,_,_,_,_,rfl,aH (s7.trans ba) a3 _,ag,by rw[HG];exact wl,λp' l' bm ac=>?_⟩
  by_cases z:p'=i
  .subst z;rw[u]at ac
   cases ac
   exact⟨b3,by rw[HH,Np rfl,Np (by rw[wl];exact R.pi.lt p' I)],by rw[aq cc];exact ag,cc⟩
  .obtain⟨q,u1,u2,u3⟩:=a7 p' l' ∅ ac
   have an:p'<m:=by rw[← w'.len];exact(GV.mp ac).1
   exact⟨q,by rw[HH,Nq (λy=>z (R.pi.inj _ _ an I y.symm))];exact u1,by rw[aq u3];exact ba _ _ u2,u3⟩
 rintro M H7 ⟨w5,w7,w8,w9,ws,rfl,s7,hw,wl,a7⟩;rw[G8,aT]at a7
 have ci:bw H7 ws (ts2 c o1 o2 ts):=⟨by rw[wl,R.l2],λj L h=>by
  have hj:j<m:=by rw[← R.l2];exact(GV.mp h).1
  obtain⟨p,b,rfl⟩:=R.pi.sur j hj;obtain⟨l,u⟩:∃ l,ts[p]?=some l:=⟨_,GU (by rw[w'.len];exact b)⟩
  obtain⟨q,z1,z2,_⟩:=a7 p l b u;refine⟨q,z1,?_⟩;unfold ts2 at h;rw[G7,K5 (by rw[w'.len];exact R.pi.lt p b)]at h
  have h':some (rowN c o2 (o1.idxOf (ofL o1 p)) ((ts[o1.idxOf (ofL o1 p)]?).getD []))=some L:=h;rw[Bk n1 ∅,u]at h'
  cases h'
  exact z2⟩
 refine⟨_,rfl,_,rfl,(by show 2<=LR;decide),λt' a5=>?_⟩
 have s8:=ak a5 (.tup [.ref qe,.ref qt]);exact kk t' qe qt (en2 o1 o2 B) (ts2 c o1 o2 ts) _ ((aS.trans s7).trans s8) ag ⟨⟨zs,s8 _ _ (s7 _ _ hz),(cd.mono s7).mono s8⟩,⟨ws,s8 _ _ hw,ci.mono s8⟩,R.gr g⟩ R.l1
theorem pz:LV "min"=some (.builtin "min"):=by decide
abbrev Kn:=List (Int×Int)
def gQ(H:Hp)(l:List V)(ks:Kn):Prop:=l.length=ks.length/\∀(i:Nat)(k:Int×Int),ks[i]?=some k->(k.1=0∨k.1=1)/\0<=k.2/\∃ p,l[i]?=some (.ref p)/\H p=some (.tup [.int k.1,.int k.2])
theorem gQ.mono{l:List V}{ks:Kn}(h:gQ H l ks)(s:Same H H'):gQ H' l ks:=⟨h.1,λi k z=>by
 obtain⟨a,b,p,c,d⟩:=h.2 i k z
 exact⟨a,b,p,c,s _ _ d⟩⟩
theorem gQ.put{l:List V}{ks:Kn}{o:HO}(t:gQ H l ks)(h:H q=some (.lst zs)):gQ (upd H q o) l ks:=⟨t.1,λi e z=>by
 obtain⟨u,v,p,a,b⟩:=t.2 i e z;refine⟨u,v,p,a,?_⟩;rw[aq (λz=>by rw[z,h]at b;cases b)]
 exact b⟩
theorem gQ.snoc{l:List V}{ks:Kn}{k:Int×Int}(t:gQ H l ks)(h:H p=some (.tup [.int k.1,.int k.2]))(J:k.1=0∨k.1=1)(h2:0<=k.2):gQ H (l++[.ref p]) (ks++[k]):=by
 refine⟨by rw[GZ,GZ,t.1];rfl,λj x d=>?_⟩
 by_cases N:j<ks.length
 .rw[G5 N]at d;obtain⟨u,v,p,r,c⟩:=t.2 j x d;exact⟨u,v,p,by rw[G5 (by rw[t.1];exact N)];exact r,c⟩
 .rw[G3 ∅]at d
  have b:j=ks.length:=by
   have:=(GV.mp d).1;rw[Hd]at this;omega
  subst b;rw[Hw]at d
  cases d
  exact⟨J,h2,p,by rw[← t.1,G3 (G0 _),Hw];rfl,h⟩
structure dE(H:Hp)(t pe pt pk:Addr)(m:Nat)(es:En)(ts:List (List Nat))(ks:Kn):Prop where
 t:H t=some (.tup [.ref pe,.ref pt,.ref pk])
 w:WebP H pe pt m es ts
 k:∃ ws,H pk=some (.lst ws)/\gQ H ws ks
 few:es.length<=16
 kl:ks.length=es.length
theorem dE.mono{H H':Hp}{t pe pt j:Addr}{m:Nat}{es:En}{ts:List (List Nat)}{ks:Kn}(h:dE H t pe pt j m es ts ks)(s:Same H H'):dE H' t pe pt j m es ts ks:=by
 obtain⟨a,b,⟨l,c,d⟩,e,f⟩:=h;exact⟨s _ _ a,b.mono s,⟨l,s _ _ c,d.mono s⟩,e,f⟩
theorem Gr.two(g:Gr m es ts)(h:0<es.length):2<=m:=by
 obtain⟨a,b,c⟩:=g.w.ends _ (GW (GU h));omega
inductive xB(K:GX)(vs:List L2.V)(H:L2.Hp)(Q:L2.VK)(x3_:L2.XK):Prop
 |mk (a:Addr)(ns:List Int) (h0_:vs=[.ref a,.int 3,.int 16])(h1_:SqL K H a (ns.map V.int))(h2_:ns.length<=63)(h3_:∀(t pe pt pk:Addr)(m:Nat)(es:En)(ts:List (List Nat))(ks:Kn)(H':Hp),Same H H'->dE H' t pe pt pk m es ts ks->(∀ k∈ks,k.2<=10^(30:Int).toNat)->Q (.ref t) H')
theorem at30{u x:V}:atI [u,v,x] 0=some u:=rfl
theorem at31{u x:V}:atI [u,v,x] 1=some v:=rfl
theorem at32{u x:V}:atI [u,v,x] 2=some x:=rfl
theorem cy:az ["script","first","most","cells","grown","told","k","cell"] ["script","first","most"] (ar jw):=by ac_nf
theorem AQ{fr:Addr}{a6:FuncData}(F:Fun K "_law_built" "_law_built" jw f fd)(T:Txt mg)(aS:Cal P w K mg base 4 "_law_grown" ["cells"] (Aa K) p G)(ap:Cal P w K mg base 2 "_law_renumbered" ["grown","cell"] spRen fr Y)(ac:Cal P w K mg base 1 "_law_cell" ["script","k"] (Ab K) I a6):
  FnOk P w K mg base CX0 5 f fd ["script","first","most"] (xB K):=by
 refine F.ok cy (by walk_at "l") λy A u s H O Q E j h=>?_
 obtain⟨a,ns,rfl,hS,aW,kk⟩:=h;have aa:(ns.map V.int).length=ns.length:=GY _
 refine⟨_,(ah (ni 3 [("script",0)] ["k"] cy.nd (Ay rfl T.n_range (af (aw bL (pv 1) ai) (af (aC (ui rfl) (by rfl) T.n_min pz (af (aw eQ (aC ax (by rfl) T.n_len a9 (af (pv 0) aj)) ai) (af (aw eQ (aw bL (pv 1) (aw cM ai (pv 2))) ai) aj))) (af ai aj)))) pg_c pt_c (λC ex s H=>(sO K (pv 1) (pv 0))))
   (ah (aB 4 cy.nd (ap.c j (af (aS.c j (af (pv 3) aj)) (af (ac.c j (af (pv 0) (af (pv 1) aj))) aj))))
   (ah (aB 5 cy.nd (bV aj))
   (ah (bz PassesOwn.never rfl (aP rfl T.n_range (af (aC ax (by rfl) T.n_len a9 (af (aJ (pv 4) ai) aj)) aj)) (bY 6 cy.nd) (ah (aB 7 cy.nd (ac.c j (af (pv 0) (af (aw bL (pv 1) (aw cM ai (pv 6))) aj))))
   (ao (aU (cY Hh Hy Hx aY (pv 5) (af (bJ (af (aw bq (pv 7) ai) (af (aw bq (aw cN (pv 7) ai) (aw bL (aw AH ai ai) ai)) aj))) aj))))))
   (ao (aF (bJ (af (aJ (pv 4) ai) (af (aJ (pv 4) ai) (af (pv 5) aj)))))))))),?_⟩
 have hn:Mh (3+1) (if(3+2*16-2:Int)<((ns.map V.int).length:Int)-1 then 3+2*16-2 else((ns.map V.int).length:Int)-1) 2=(((Mh (3+1) (if(3+2*16-2:Int)<((ns.map V.int).length:Int)-1 then 3+2*16-2 else((ns.map V.int).length:Int)-1) 2).toNat:Nat):Int):=by
  refine(IM ?_).symm;unfold Mh;rw[Np (by decide)]
  split<;>omega
 have L:∀ i:Nat,i<(Mh (3+1) (if(3+2*16-2:Int)<((ns.map V.int).length:Int)-1 then 3+2*16-2 else((ns.map V.int).length:Int)-1) 2).toNat->i<15/\4+2*i<ns.length:=λi l=>by
  rw[aa]at l;unfold Mh at l;rw[Np (by decide)]at l
  split at l<;>split at l<;>omega
 have hz:(Mh (3+1) (if(3+2*16-2:Int)<((ns.map V.int).length:Int)-1 then 3+2*16-2 else((ns.map V.int).length:Int)-1) 2).toNat<=15:=by
  by_cases z:(Mh (3+1) (if(3+2*16-2:Int)<((ns.map V.int).length:Int)-1 then 3+2*16-2 else((ns.map V.int).length:Int)-1) 2).toNat<=15
  .exact z
  .have:=(L 15 ∅).1;omega
 refine⟨_,rfl,_,_,rfl,rfl,_,rfl,a,_,rfl,.inl hS,_,_,rfl,rfl,_,rfl,_,rfl,_,_,rfl,rfl,.inl ⟨by decide,by decide⟩,_,_,rfl,rfl,_,_,rfl,rfl,_,_,rfl,_,_,_,_,rfl,by decide,by decide,(by split<;>omega),(by split<;>omega),⟨by decide,by decide⟩,hn,?_⟩
 generalize (Mh (3+1) (if(3+2*16-2:Int)<((ns.map V.int).length:Int)-1 then 3+2*16-2 else((ns.map V.int).length:Int)-1) 2).toNat=N at L hz;refine uf (λi e o=>o=H/\∃ cs:List Int,e=cs.map V.int/\cs.length=i) (Hs (av ∅)) ⟨rfl,[],rfl,rfl⟩ ?_ ?_
 .rintro i e o l ⟨rfl,cs,rfl,cl⟩;have aT:=(L i l).2;have e0:(3+1:Int)+(i:Int)*2=((4+2*i:Nat):Int):=by omega
  rw[e0];refine⟨_,rfl,_,rfl,a,_,_,_,rfl,rfl,hS,ay (v:=.int ns[4+2*i]) (by rw[G7,GU aT];rfl),rfl,cs++[ns[4+2*i]],?_,by rw[GZ,cl];rfl⟩
  rw[Hm];rfl
 rintro e o _ ⟨rfl,cs,rfl,cl⟩ b a7;have d:=ak a7 (.lst (cs.map V.int));refine⟨_,rfl,b,cs,rfl,SqL.of ag,∅,λt pe pt e r m B ts H3 s3 J ae hE al hR g a3=>?_⟩
 have ab:=d.trans s3;refine⟨_,rfl,_,rfl,a,3,ns,rfl,ab.seq hS,t,pe,pt,_,m,B,ts,rfl,J,⟨⟨e,ae,hE⟩,⟨r,al,hR⟩,g⟩,g.two ∅,∅,λt' a2 a0 es' ts' H4 s4 aL wp ba=>?_⟩
 have a4:=ab.trans s4;have a5:es'.length<=16:=by omega
 refine⟨(by show 0<=LR;decide),λq x=>?_⟩
 have s5:=ak x (.lst []);obtain⟨zs,am,a1⟩:=wp.en;have an:zs.length=es'.length:=a1.1;refine⟨_,rfl,t',_,0,_,rfl,rfl,SqT.of (s5 _ _ aL),at0,a2,zs,rfl,.inl (SqL.of (s5 _ _ am)),_,rfl,∅,∅,b8 (n:=(zs.length:Int).toNat) (λi M H5=>∃ v6 v7 ws ks,M=[some (.ref a),some (.int 3),some (.int 16),some (.ref b),some (.ref t'),some (.ref q),v6,v7]/\Same H4 H5/\H5 q=some (.lst ws)/\gQ H5 ws ks/\ks.length=i/\∀ k∈ks,k.2<=10^(30:Int).toNat) ⟨_,_,[],[],rfl,s5,ag,⟨rfl,λi k z=>by simp at z⟩,rfl,λk z=>nomatch z⟩ ?_ ?_⟩
 .rintro i M H5 l ⟨v6,v7,ws,ks,rfl,s6,hw,tk,kl,kb⟩;rw[G8,an]at l;have e0:(0:Int)+(i:Int)=(i:Int):=Ir _;rw[e0];have wl:=tk.1;refine⟨_,rfl,_,rfl,_,rfl,_,_,rfl,rfl,.inl ⟨by decide,by decide⟩,_,_,rfl,rfl,a,3+2*i,ns,(by rw[show((3+2*i:Nat):Int)=3+2*(i:Int) by omega];rfl),(a4.trans s6).seq hS,?_⟩
  refine⟨_,rfl,.inl ⟨rfl,_,SqL.of hw⟩,_,rfl,_,_,rfl,rfl,(by show(0:Int)<2;decide),_,rfl,_,_,rfl,rfl,⟨by decide,by decide⟩,_,_,rfl,rfl,⟨by decide,by decide,by decide⟩,_,_,rfl,rfl,_,_,rfl,rfl,(by show(0:Int)<10^(30:Int).toNat+1;decide),(by show 2<=LR;decide),λtt aI=>?_⟩
  have sn:=ak aI (.tup [.int (iA ns (3+2*i)%2),.int (iA ns (3+2*i)/2%(10^(30:Int).toNat+1))]);refine⟨q,ws,_,rfl,rfl,sn _ _ hw,av ∅,?_⟩
  refine⟨_,_,_,ks++[(iA ns (3+2*i)%2,iA ns (3+2*i)/2%(10^(30:Int).toNat+1))],rfl,aH (s6.trans sn) x _,ag,((tk.mono sn).snoc ag (by show iA ns (3+2*i)%2=0∨iA ns (3+2*i)%2=1;omega) (IU _ (by decide))).put (sn _ _ hw),by rw[GZ,kl];rfl,λk D=>?_⟩
  rcases Hc.mp D with z|z
  .exact kb k z
  .rw[Hi.mp z];exact Int.lt_add_one_iff.mp (IB _ (by decide))
 .rintro M H5 ⟨v6,v7,ws,ks,rfl,s6,hw,tk,kl,kb⟩;rw[G8,an]at kl;refine⟨_,rfl,t',_,0,_,rfl,rfl,SqT.of (s6 _ _ aL),at0,_,rfl,t',_,1,_,rfl,rfl,SqT.of (s6 _ _ aL),at1,_,rfl,(by show 3<=LR;decide),λtt aI=>?_⟩
  have sn:=ak aI (.tup [.ref a2,.ref a0,.ref q]);exact kk tt a2 a0 q m es' ts' ks _ ((a4.trans s6).trans sn) ⟨ag,(wp.mono s6).mono sn,⟨ws,sn _ _ hw,tk.mono sn⟩,a5,kl⟩ kb
open KF (andN orN shlN xorN)
theorem oK:∀{a b:List Int},a.Perm b->a.Pairwise (·<=·)->b.Pairwise (·<=·)->a=b
 |[],b,h,_,_=>(List.nil_perm.mp h).symm▸rfl
 |x::a,[],h,_,_=>Nr h.length_eq (by simp)
 |x::a,y::b,h,n,d=>by
  obtain⟨r,c⟩:=K7.mp n;obtain⟨b1,b2⟩:=K7.mp d;have J:x<=y:=by
   rcases G6.mp (h.mem_iff.mpr (G9 ..):y∈x::a)with z|z
   .rw[z];exact II _
   .exact r y z
  have Y:y<=x:=by
   rcases G6.mp (h.mem_iff.mp (G9 ..):x∈y::b)with z|z
   .rw[z];exact II _
   .exact b1 x z
  have e:x=y:=Int.le_antisymm J Y;subst e;rw[oK (List.Perm.cons_inv h) c b2]
def cI(l:List Nat):List Int:=l.map λ(p:Nat)=>((p:Nat):Int)
theorem cI_V(l:List Nat):(cI l).map V.int=l.map iV:=by unfold cI;rw[Jh];rfl
theorem Fo{r:List Nat}{out:List Int}(g:out.Perm (cI l))(T:out.Pairwise (·<=·))(k:l.Nodup)(c:r.Pairwise (· < ·))(y:∀ t,t∈l↔t∈r):out=cI r:=by
 have d:r.Nodup:=c.imp λh=>Hr h;have q:(cI l).Perm (cI r):=((Jc k d).mpr y).map _;refine oK (g.trans q) T ?_;unfold cI;exact List.Pairwise.map _ (λa b h=>by omega) c
theorem Bj:ins l l.length n=l++[n]:=by
 unfold ins;rw[HD,List.drop_length]
inductive zV(K:GX)(vs:List L2.V)(H:L2.Hp)(Q:L2.VK)(x3_:L2.XK):Prop
 |mk (a:Addr)(xs:List V)(m:Nat)(es:En) (h0_:vs=[.int (m:Int),.ref a])(h1_:SqL K H a xs)(h2_:dD K H xs es)(h3_:(∀ e∈es,e.1<m/\e.2<m))(h4_:Q .non H)
inductive xw(K:GX)(vs:List L2.V)(H:L2.Hp)(Q:L2.VK)(x3_:L2.XK):Prop
 |mk (a b:Addr)(xs zs:List V)(m:Nat)(es:En)(ts:List (List Nat)) (h0_:vs=[.int (m:Int),.ref a,.ref b])(h1_:SqL K H a xs)(h2_:dD K H xs es)(h3_:SqL K H b zs)(h4_:bw H zs ts)(h5_:bD m es ts)(h6_:es.length<=30)(h7_:m<=40)(h8_:∀ H',Same H H'->Q .non H')
inductive zU(K:GX)(vs:List L2.V)(H:L2.Hp)(Q:L2.VK)(x3_:L2.XK):Prop
 |mk (a:Addr)(xs:List V)(m:Nat)(es:En)(ts:List (List Nat)) (h0_:vs=[.int (m:Int),.ref a])(h1_:SqL K H a xs)(h2_:dD K H xs es)(h3_:Gr m es ts)(h4_:2<=m)(h5_:m<=40)(h6_:es.length<=30)(h7_:∀ H',Same H H'->Q .non H')
theorem i7:az ["many","ties","tie"] ["many","ties"] (ar fU):=by ac_nf
theorem C7(F:Fun K "refuse_ends" "refuse_ends" fU f fd):FnOk P w K mg base CX0 1 f fd ["many","ties"] (zV K):=by
 refine F.ok i7 (by walk_at "l") λo A u s H b Q E N h=>?_
 obtain⟨a,xs,m,B,rfl,v,Y,t,k⟩:=h;refine⟨_,(ao (bz PassesOwn.never rfl (aV (pv 1)) (bY 2 i7.nd) (ao (bP (PW.pt (sJ (aD op_ge (bo (pv 2) rfl) (pv 0) (aG _)) (nh (aD op_ge (bo (pv 2) rfl) (pv 0) (aG _))))) (ao b9) aO)))),?_⟩;refine⟨_,rfl,a,rfl,⟨_,v⟩,bM (K:=K) (xs:=xs) (λi M L=>∃ d,M=[some (.int (m:Int)),some (.ref a),d]/\L=H) ⟨_,rfl,rfl⟩ (λi M L _ ⟨_,_,z⟩=>z▸v) ?_ ?_⟩
 .rintro i x M L O ⟨d,rfl,rfl⟩;have I:i<B.length:=by rw[← Y.1];exact(GV.mp O).1
  obtain⟨e,n⟩:∃ e,B[i]?=some e:=⟨_,GU I⟩;obtain⟨p,C,j,st,r,q,l⟩:=Y.2 i e n;rw[O]at r
  cases r
  obtain⟨y,g⟩:=t e (GW n);refine⟨_,rfl,p,C,j,_,_,rfl,q,l.cl,l.n1,jX _ _ _,_,rfl,_,_,rfl,rfl,_,rfl,?_⟩;refine ite2 (λc=>Nr (Nf c) ∅) (λ_=>?_)
  refine⟨_,rfl,p,C,j,_,_,rfl,q,l.cl,l.n2,oJ _ _ _,_,rfl,_,_,rfl,rfl,_,rfl,?_⟩;refine ite2 (λc=>Nr (Nf c) ∅) (λ_=>?_)
  exact⟨_,rfl,rfl⟩
 .rintro M L ⟨d,rfl,rfl⟩;exact k
theorem cK:az ["many","ties","turns","ending","number","tie"] ["many","ties","turns"] (ar fx):=by ac_nf
theorem AL(F:Fun K "refuse_turns" "refuse_turns" fx f fd)(T:Txt mg):FnOk P w K mg base CX0 1 f fd ["many","ties","turns"] (xw K):=by
 refine F.ok cK (by walk_at "l") λaa A J s H vs Q E N h=>?_
 obtain⟨a,b,xs,zs,m,B,ts,rfl,hS,hT,hB,hR,w',ab,be,kk⟩:=h;have aI:=N.units
 refine⟨_,(ah (ni 3 [] ["place"] cK.nd (aP rfl T.n_range (af (pv 0) aj)) pg_c pt_c (λC ex s H=>(bV aj)))
   (ah (bz PassesOwn.never rfl (lE rfl T.n_enumerate (af (pv 1) aj)) (oS rfl (aQ (bY 4 cK.nd) (aQ (bY 5 cK.nd) dv))) (ah (aU (cY Hh Hy Hx aY (aR (pv 3) (bo (pv 5) rfl)) (af (pv 4) aj)))
   (ao (aU (cY Hh Hy Hx aY (aR (pv 3) (bo (pv 5) rfl)) (af (pv 4) aj))))))
   (ao (bP (aD (EE aI) (eI [] ["about"] (aV (pv 2)) pg_c pt_c (λC ex s H=>(aC (uj (K:=K) rfl) (by rfl) T.n_sorted og (af (pv 0) aj)))) (pv 3) (aG _)) (ao b9) aO)))),?_⟩
 refine⟨_,rfl,_,rfl,∅,∅,bT (n:=(m:Int).toNat) (λi v L=>Same H L/\bx (λp=>H p≠none) L v (He i [])/\Dist v) (by rw[G8];exact Hs (av ∅)) ⟨λ_ _ e=>e,⟨rfl,λi l e=>by simp at e⟩,λi j p e=>by simp at e⟩ ?_ ?_⟩
 .rintro i v L I ⟨s2,rx,D⟩;refine⟨(by show 0<=LR;decide),λl G=>?_⟩
  have s3:=ak G (.lst []);refine⟨s2.trans s3,?_,kS rx D G⟩;rw[JB];refine(rx.mono λb u _ z=>s3 _ _ z).snoc (λz=>z ?_) ag
  cases y:H l with
  |none=>rfl
  |some o=>rw[s2 _ _ y]at G;cases G
 rintro v L aT ⟨s2,rx,D⟩ pn an;rw[G8]at rx;have s3:=ak an (.lst v);have bm:H pn=none:=by
  cases y:H pn with
  |none=>rfl
  |some o=>rw[s2 _ _ y]at an;cases an
 have bp:bx (λp=>p=pn∨H p≠none) (upd L pn (.lst v)) v (He m []):=⟨rx.1,λi l z=>by
  obtain⟨p,a1,a2,a3⟩:=rx.2 i l z;have n2:p≠pn:=aA a3 an
  exact⟨p,a1,by rintro(y|y);exact n2 y;exact a2 y,s3 _ _ a3⟩⟩
 refine⟨_,rfl,a,rfl,⟨_,(s2.trans s3).seq hS⟩,qQ (K:=K) (xs:=xs) (λi M H5=>∃ v4 v5 rows,M=[some (.int (m:Int)),some (.ref a),some (.ref b),some (.ref pn),v4,v5]/\Same H H5/\H5 pn=some (.lst v)/\bx (λp=>p=pn∨H p≠none) H5 v rows/\bD m (B.take i) rows/\∀ r∈rows,r.Pairwise (· < ·))
  ⟨_,_,_,rfl,s2.trans s3,ag,bp,Cw m,λr N=>by rw[(Ki.mp N).2];exact JQ⟩ (λi M H5 _ ae=>by obtain⟨_,_,_,_,z,_⟩:=ae;exact z.seq hS) ?_ ?_⟩
 .rintro i x M H5 T2 O ⟨v4,v5,rows,rfl,s5,a6,aL,w5,pw⟩ am;have I:i<B.length:=by rw[← hT.1];exact(GV.mp O).1
  obtain⟨e,Y⟩:∃ e,B[i]?=some e:=⟨_,GU I⟩;obtain⟨p,C,dx,st,x1,x2,x3⟩:=hT.2 i e Y;rw[O]at x1
  cases x1
  have sT:=ak am (.tup [.int (i:Int),.ref p]);have s6:=s5.trans sT;have x6:=s6 _ _ x2;obtain⟨c,e2,e3⟩:=w'.ends e (GW Y);have bi:(B.take i).length=i:=by rw[HY];omega
  have bn:=w5.len;obtain⟨l,G⟩:∃ l,rows[e.1]?=some l:=⟨_,GU ∅⟩
  obtain⟨l',ac⟩:∃ l,rows[e.2]?=some l:=⟨_,GU ∅⟩
  have a7:bx (λp=>p=pn∨H p≠none) (upd H5 T2 (.tup [.int (i:Int),.ref p])) v rows:=aL.mono λb u _ z=>sT _ _ z;obtain⟨p1,y1,y2,y3⟩:=a7.2 _ _ G;obtain⟨p2,z1,z2,z3⟩:=a7.2 _ _ ac;have a0:∀{p:Addr},¬ (p=pn∨H p≠none)->H p=none/\p≠pn:=λ{p} n=>by
   refine⟨?_,λz=>n (.inl z)⟩
   cases y:H p with
   |none=>rfl
   |some o=>exact Nr (.inr (by rw[y];exact λz=>nomatch z)) n
  obtain⟨ap,bv⟩:=a0 y2;obtain⟨aS,bB⟩:=a0 z2;have bU:p2≠p1:=λy=>by rw[y]at z1;exact e3 (D _ _ p1 y1 z1)
  have ll:∀{q:Nat}{r:List Nat},rows[q]?=some r->∀ t∈r,t<i:=λ{q r} h t d=>by
   have:=lV w5 h d;omega
  have bE:∀{q:Nat}{r:List Nat},rows[q]?=some r->r.length<=30:=λ{q r} h=>by
   have:=cV (w5.nd _ _ h) (ll h);omega
  have f1:=bE G;have f2:=bE ac;have bb:=sT _ _ a6;refine⟨T2,_,rfl,SqT.of ag,rfl,_,_,rfl,_,_,rfl,rfl,?_⟩;refine⟨_,rfl,_,rfl,p,C,dx,_,_,rfl,x6,x3.cl,x3.n1,jX _ _ _,pn,v,_,_,rfl,rfl,SqL.of bb,ay y1,.inl ⟨rfl,_,SqL.of y3⟩,_,rfl,p1,_,_,rfl,rfl,y3,av (by rw[GY];omega),?_⟩
  have a4:(l.map iV)++[V.int (i:Int)]=(l++[i]).map iV:=by rw[Hm];rfl
  rw[a4];have x7:(upd (upd H5 T2 (.tup [.int (i:Int),.ref p])) p1 (.lst ((l++[i]).map iV))) p=some (.ins C dx (tf (e.1:Int) (e.2:Int) st)):=by rw[aq (λz=>by rw[z]at x2;rw[x2]at ap;cases ap)];exact x6
  have bd:(upd (upd H5 T2 (.tup [.int (i:Int),.ref p])) p1 (.lst ((l++[i]).map iV))) pn=some (.lst v):=by rw[aq bv.symm];exact bb
  have z7:(upd (upd H5 T2 (.tup [.int (i:Int),.ref p])) p1 (.lst ((l++[i]).map iV))) p2=some (.lst (l'.map iV)):=by rw[aq bU];exact z3
  refine⟨_,rfl,_,rfl,p,C,dx,_,_,rfl,x7,x3.cl,x3.n2,oJ _ _ _,pn,v,_,_,rfl,rfl,SqL.of bd,ay z1,.inl ⟨rfl,_,SqL.of z7⟩,_,rfl,p2,_,_,rfl,rfl,z7,av (by rw[GY];omega),?_⟩
  have ba:(l'.map iV)++[V.int (i:Int)]=(l'++[i]).map iV:=by rw[Hm];rfl
  rw[ba];refine⟨_,_,(rows.set e.1 (l++[i])).set e.2 (l'++[i]),rfl,aH (aH s6 ap _) aS _,by rw[aq bB.symm];exact bd,(a7.set D y1).set D z1,?_,λr N=>?_⟩
  .have q:=w5.put (k:=l.length) (j:=l'.length) c e2 e3 G ac
   rw[Bj,Bj,bi]at q;rw[Hz,Y];exact q
  .have bS:∀{q:Nat}{r:List Nat},rows[q]?=some r->(r++[i]).Pairwise (· < ·):=λ{q r} h=>List.pairwise_append.mpr ⟨pw r (GW h),List.pairwise_singleton _ _,λx O y hy=>by
    have:=ll h x O;have:y=i:=by simpa using hy
    omega⟩
   rcases IQ N with z|z
   .rcases IQ z with z|z
    .exact pw r z
    .rw[z];exact bS G
   .rw[z];exact bS ac
 rintro M H5 ⟨v4,v5,rows,rfl,s5,a6,aL,w5,pw⟩;rw[hT.1,HD]at w5;have aW:zs.length=m:=by rw[hR.1,w'.len]
 refine⟨_,rfl,b,rfl,⟨_,s5.seq hB⟩,bI (K:=K) (xs:=zs) (λi vs H6=>Same H5 H6/\bw H6 vs (rows.take i)) (Hs (av ∅)) ⟨λ_ _ e=>e,rfl,λi l e=>by simp at e⟩ (λi vs H6 _ z=>(s5.trans z.1).seq hB) ?_ ?_⟩
 .rintro i x vs H6 O ⟨s6,rz⟩;have I:i<ts.length:=by rw[← hR.1];exact(GV.mp O).1
  obtain⟨l,G⟩:∃ l,ts[i]?=some l:=⟨_,GU I⟩;obtain⟨r,al⟩:∃ r,rows[i]?=some r:=⟨_,GU (by rw[w5.len,← w'.len];exact I)⟩
  obtain⟨p,a1,a2⟩:=(hR.mono (s5.trans s6)).2 i l G;rw[O]at a1
  cases a1
  have b0:l.length<=30:=Ig (cV (w'.nd _ _ G) λt d=>lV w' G d) ab;refine⟨_,rfl,p,cI l,rfl,(by rw[cI_V];exact SqL.of a2),(by unfold cI;rw[GY];omega),λq a5 hq g hs=>?_⟩
  have eo:=Fo g hs (w'.nd _ _ G) (pw r (GW al)) λt=>(w'.mem i l G t).trans (w5.mem i r al t).symm;subst eo;have s7:=ak hq (.lst ((cI r).map V.int));refine⟨s6.trans s7,?_⟩;rw[show rows.take (i+1)=rows.take i++[r] by rw[Hz,al];rfl]
  exact(rz.mono s7).snoc (by rw[ag,cI_V])
 rintro vs H6 _ ⟨s6,rz⟩ D' bZ;rw[aW,← w5.len,HD]at rz;have s7:=ak bZ (.lst vs);have bR:=s6.trans s7;refine⟨_,rfl,_,lC (SqL.of ag) (rz.mono s7),lC (SqL.of (bR _ _ a6)) (aL.off.mono bR),jy rows,_,rfl,iteF ?_⟩;exact kk _ (s5.trans bR)
theorem ma:az ["many","ties"] ["many","ties"] (ar dY):=by ac_nf
theorem C6{fr:Addr}(F:Fun K "refuse_parted" "refuse_parted" dY f fd)(ab:Cal P w K mg base 1 "reached" ["start","pairs"] KF.spReach fr G):FnOk P w K mg base CX0 2 f fd ["many","ties"] (zU K):=by
 refine F.ok ma (by walk_at "l") λM A J s H o Q E N h=>?_
 obtain⟨a,xs,m,B,q,rfl,hS,Y,g,m2,ac,k,v⟩:=h;have am:xs.length=B.length:=Y.1;refine⟨_,(ao (bP (aD i4 (ab.c N (af ai (af (eI [] ["tie"] (aV (pv 1)) pg_c pt_c (λC ex s H=>(bJ (af (vc (K:=K) rfl (pv 0) rfl) (af (vc (K:=K) rfl (pv 0) rfl) aj))))) aj))) (aw eQ (aw bW ai (pv 0)) ai) (aG _)) (ao b9) aO)),?_⟩;refine⟨_,rfl,a,rfl,⟨_,hS⟩,bI (K:=K) (xs:=xs) (λi j ae=>Same H ae/\bX ae j (B.take i)) (Hs (av ∅)) ⟨λ_ _ e=>e,rfl,λi l e=>by simp at e⟩ (λi j ae _ z=>z.1.seq hS) ?_ ?_⟩
 .rintro i x j ae O ⟨al,ez⟩;have I:i<B.length:=by rw[← Y.1];exact(GV.mp O).1
  obtain⟨e,n⟩:∃ e,B[i]?=some e:=⟨_,GU I⟩;obtain⟨p,C,t,st,T,a2,a3⟩:=(Y.mono al).2 i e n;rw[O]at T
  cases T
  refine⟨_,rfl,p,C,t,_,_,rfl,a2,a3.cl,a3.n1,jX _ _ _,_,rfl,p,C,t,_,_,rfl,a2,a3.cl,a3.n2,oJ _ _ _,(by show 2<=LR;decide),λg d=>?_⟩
  have aa:=ak d (.tup [iV e.1,iV e.2]);refine⟨al.trans aa,?_⟩;rw[show B.take (i+1)=B.take i++[e] by rw[Hz,n];rfl]
  exact(ez.mono aa).snoc ag
 rintro j ae _ ⟨al,ez⟩ D hD;rw[Y.1,HD]at ez;have aa:=ak hD (.lst j);have y:=ez.mono aa;have mem:∀ l∈B.map (λe=>((e.1,e.2,0):KF.Lk)),l.1<m/\l.2.1<m:=λl u=>by
  obtain⟨e,n,rfl⟩:=HS.mp u;obtain⟨b1,b2,_⟩:=g.w.ends e n;exact⟨b1,b2⟩
 have cn:KF.Conn m (B.map λe=>((e.1,e.2,0):KF.Lk)):=λb L=>g.conn (λp=>∃ x,KF.Wk (B.map λe=>(e.1,e.2,0)) 0 p x) (λe n=>by
  obtain⟨i,I⟩:=IW n;have lk:=KF.Wk.link (show(B.map λe=>((e.1,e.2,0):KF.Lk))[i]?=some (e.1,e.2,0) by rw[G7,I];rfl) (a:=e.1) (.inl rfl)
  rw[show KF.bey (e.1,e.2,0) e.1=e.2 from Np rfl]at lk
  exact⟨λ⟨x,h⟩=>⟨_,h.trans lk⟩,λ⟨x,h⟩=>⟨_,h.trans lk.rev⟩⟩) 0 b ∅ L ⟨0,.nil 0⟩
 refine⟨D,j,m,B.map λe=>(e.1,e.2,0),rfl,ag,⟨by rw[GY];exact y.1,λi l u=>?_⟩,⟨ac,by rw[GY];omega,mem,λl u=>?_⟩,∅,λr N=>?_⟩
 .rw[G7]at u;obtain⟨e,n,rfl⟩:=Ho.mp u;obtain⟨p,x1,x2⟩:=y.2 i e n;exact⟨_,x1,p,rfl,x2⟩
 .obtain⟨e,n,rfl⟩:=HS.mp u;exact⟨II _,Jw _⟩
 rw[KF.run_full N mem ∅ cn]
 refine⟨_,rfl,_,_,rfl,rfl,⟨∅,∅,by decide⟩,_,_,rfl,rfl,rfl,_,rfl,?_⟩
 refine qJ ?_ (v _ (al.trans aa));show V.int _=V.int _;rw[shlN];have:=Io m;congr 1;omega
def cls(PL PS:Addr)(a:Bool):Addr:=if a=true then PS else PL
def jV(PL PS:Addr)(H:Hp)(xs:List V)(es:En)(ks:Kn):Prop:=xs.length=es.length/\∀(i:Nat)(e:Nat×Nat)(k:Int×Int),es[i]?=some e->ks[i]?=some k->∃ p j,xs[i]?=some (.ref p)/\H p=some (.ins (cls PL PS (decide (k.1=1))) j (tf (e.1:Int) (e.2:Int) k.2))
theorem jV.mono{PS:Addr}{ks:Kn}(t:jV PL PS H xs es ks)(h:Same H H'):jV PL PS H' xs es ks:=⟨t.1,λi e k q r=>by
 obtain⟨p,j,a,b⟩:=t.2 i e k q r
 exact⟨p,j,a,h _ _ b⟩⟩
structure CW(K:GX)(C:Addr):Prop where
 cl:Cls K C
 n1:fq K C "many"
 n2:fq K C "ties"
 n3:fq K C "turns"
 n4:fq K C "rounds"
 n5:fq K C "sides"
theorem iO(k:Str)(v:V):∀ fs:List (Str×V),(putF k v fs).length<=fs.length+1
 |[]=>G0 _
 | (a,b)::r=>by
  show(if a=k then(a,v)::r else(a,b)::putF k v r).length<=_;have:=iO k v r;split<;>simp only[Hk]<;>omega
theorem none_of{b:Addr}(s:Same H H')(z:H' b=none):H b=none:=by
 cases y:H b with
 |none=>rfl
 |some o=>rw[s _ _ y]at z;cases z
structure WebG(S:Addr->Prop)(H:Hp)(fs:List (Str×V))(m:Nat)(es:En)(ts rs:List (List Nat)):Prop where
 many:fs.lookup ("many" : Str)=some (.int (m:Int))
 turns:∃ q z,fs.lookup ("turns" : Str)=some (.ref q)/\¬ S q/\H q=some (.lst z)/\bx S H z ts
 rounds:∃ q z,fs.lookup ("rounds" : Str)=some (.ref q)/\H q=some (.lst z)/\bw H z rs
 sides:∃ q z,fs.lookup ("sides" : Str)=some (.ref q)/\H q=some (.lst z)/\gO H z es.length rs
 part:a8 (fol es ts) (2*es.length) (2*es.length) rs
theorem gO.mono{z:List V}(h:gO H z n rs)(s:Same H H'):gO H' z n rs:=⟨h.1,λi I=>by
 obtain⟨t,a,b,r,v,u,A,w⟩:=h.2 i I
 exact⟨t,a,b,r,v,u,s _ _ A,w⟩⟩
theorem WebG.mono{S f:Addr->Prop}{H H':Hp}{fs:List (Str×V)}{m:Nat}{es:En}{ts rs:List (List Nat)}(h:WebG S H fs m es ts rs)(s:Same H H')(i:∀ a,f a->S a):WebG f H' fs m es ts rs:=by
 obtain⟨a,⟨q,z,b1,I,b2,b3⟩,⟨J,o,c1,c2,c3⟩,⟨C,g,d1,d2,B⟩,e⟩:=h;refine⟨a,⟨q,z,b1,λy=>I (i _ y),s _ _ b2,b3.1,λj l y=>?_⟩,⟨J,o,c1,s _ _ c2,c3.mono s⟩,⟨C,g,d1,s _ _ d2,B.mono s⟩,e⟩;obtain⟨r,u,A,w⟩:=b3.2 j l y;exact⟨r,u,λx=>A (i _ x),s _ _ w⟩
inductive mX(K:GX)(vs:List L2.V)(H:L2.Hp)(Q:L2.VK)(x3_:L2.XK):Prop
 |mk (p C dx qt qh:Addr)(m:Nat)(xs zs:List V)(es:En)(ts:List (List Nat)) (h0_:vs=[.ref p,.int (m:Int),.ref qt,.ref qh])(h1_:H p=some (.ins C dx []))(h2_:CW K C)(h3_:H qt=some (.lst xs))(h4_:dD K H xs es)(h5_:H qh=some (.lst zs))(h6_:bw H zs ts)(h7_:Gr m es ts)(h8_:0<es.length)(h9_:es.length<=30)(h10_:∀(fs:List (Str×V))(q1:Addr)(rs:List (List Nat))(H':Hp),H' p=some (.ins C dx fs)->WebG (λa=>H a≠none) H' fs m es ts rs->H q1=none->fs.lookup ("ties" : Str)=some (.ref q1)->H' q1=some (.lst xs)->(∀ q o,H q=some o->q≠p->H' q=some o)->Q .non H')
theorem dD.keep{G:Hp}(t:dD K H xs es)(g:H p=some (.ins C f []))(k:∀ q u,q≠p->H q=some u->G q=some u):dD K G xs es:=⟨t.1,λi e z=>by
 obtain⟨q,c,v,s,a,b,d⟩:=t.2 i e z;refine⟨q,c,v,s,a,k _ _ (λz=>?_) b,d⟩;rw[z,g]at b;have m:([]:List (Str×V))=tf (e.1:Int) (e.2:Int) s:=by
  injection b with b;injection b
 have E:=jX (e.1:Int) (e.2:Int) s;rw[← m]at E
 cases E⟩
theorem ka:az ["self","many","ties","turns","rounds"] ["self","many","ties","turns"] (ar cz):=by ac_nf
theorem C3{f2 f3 f4 f5:Addr}{d1 d2 d4 d5:FuncData}(F:Fun K "__init__" "Web.__init__" cz f fd)(T:Txt mg)(aS:Cal P w K mg base 1 "refuse_ends" ["many","ties"] (zV K) I d1)(aL:Cal P w K mg base 1 "refuse_turns" ["many","ties","turns"] (xw K) f2 d2)(ap:Cal P w K mg base 2 "refuse_parted" ["many","ties"] (zU K) f3 Y)(aW:Cal P w K mg base 4 "rounds_of" ["ties","turns"] (xu K) f4 d4)(a3:Cal P w K mg base 1 "sides_of" ["ties","rounds"] (zS K) f5 d5):
  FnOk P w K mg base CX0 5 f fd ["self","many","ties","turns"] (mX K):=by
 refine F.ok ka (by walk_at "l") λaa A J s H vs Q E N h=>?_
 obtain⟨p,C,dx,qt,qh,m,xs,zs,es,ts,rfl,j,cw,aI,hT,a7,hR,g,e0,ab,kk⟩:=h;have w':=g.w;have m2:=g.two e0;have mf:=o8 g;have bS:xs.length=es.length:=hT.1;have an:zs.length=m:=by rw[hR.1,w'.len]
 have pl:∀{q:Addr}{k:List V},H q=some (.lst k)->q≠p:=λ{q k} h z=>by rw[z,j]at h;cases h
 refine⟨_,(ah (aU (aS.c N (af (pv 1) (af (pv 2) aj))))
   (ah (aU (aL.c N (af (pv 1) (af (pv 2) (af (pv 3) aj)))))
   (ah (aU (ap.c N (af (pv 1) (af (pv 2) aj))))
   (ah (aB 4 ka.nd (aW.c N (af (pv 2) (af (pv 3) aj))))
   (ah (bP (aD i4 (aw bL (aw eQ (pv 1) (aC ax (by rfl) T.n_len a9 (af (pv 2) aj))) (aC ax (by rfl) T.n_len a9 (af (pv 4) aj))) ai (aG _)) (ao b9) aO)
   (ah (lR (pv 0) (pv 1) rfl)
   (ah (lR (pv 0) (cL dt (by rfl) T.n_list iF (af (pv 2) aj)) rfl)
   (ah (lR (pv 0) (eI [] ["about"] (aV (pv 3)) pg_c pt_c (λC ex s H=>(cL (pq (K:=K) rfl) (by rfl) T.n_list iF (af (pv 0) aj)))) rfl)
   (ah (lR (pv 0) (pv 4) rfl)
   (ao (lR (pv 0) (a3.c N (af (pv 2) (af (pv 4) aj))) rfl))))))))))),?_⟩
 refine⟨_,rfl,_,rfl,qt,xs,m,es,rfl,SqL.of aI,hT,λe d=>⟨(w'.ends e d).1,(w'.ends e d).2.1⟩,?_⟩;refine⟨_,rfl,_,rfl,_,rfl,qt,qh,xs,zs,m,es,ts,rfl,SqL.of aI,hT,SqL.of a7,hR,w',ab,∅,λH1 v=>?_⟩
 refine⟨_,rfl,_,rfl,qt,xs,m,es,ts,rfl,SqL.of (v _ _ aI),hT.mono v,g,m2,∅,ab,λL s2=>?_⟩
 have ac:=v.trans s2;refine⟨_,rfl,_,rfl,qt,qh,m,es,ts,rfl,⟨⟨xs,SqL.of (ac _ _ aI),hT.mono ac⟩,⟨zs,SqL.of (ac _ _ a7),hR.mono ac⟩,w',∅⟩,λqr vs rs H3 s3 aT a5 ro=>?_⟩
 have ae:=ac.trans s3;have cnt:m+rs.length=es.length+2:=by
  obtain⟨bd,p',c⟩:=g.part;rw[← p'.same ro.part];exact c
 have bm:vs.length=rs.length:=a5.1;refine⟨_,rfl,_,rfl,qt,xs,rfl,.inl (SqL.of (ae _ _ aI)),_,_,rfl,rfl,_,rfl,qr,vs,rfl,.inl (SqL.of aT),_,_,rfl,rfl,rfl,_,rfl,?_⟩;refine qJ (congrArg V.int ∅) ?_
 have be:=ae _ _ j;refine⟨_,rfl,_,rfl,p,C,dx,[],rfl,be,cw.cl,cw.n1,(by show 0<1000;decide),?_⟩
 have keep:∀{G:Hp}{o:HO}{q:Addr}{u:HO},q≠p->G q=some u->(upd G p o) q=some u:=λn z=>by rw[aq n];exact z
 refine⟨_,rfl,qt,xs,rfl,.inl (SqL.of (keep (pl aI) (ae _ _ aI))),λq1 am=>?_⟩;have a6:q1≠p:=λz=>by rw[z,ag]at am;cases am
 have t4:=ak am (.lst xs);refine⟨_,rfl,p,C,dx,_,rfl,t4 _ _ ag,cw.cl,cw.n2,?_,?_⟩
 .have:=iO "many" (.int (m:Int)) ([]:List (Str×V));simp only[Ja]at this;omega
 have t1:∀ q u,q≠p->H3 q=some u->(upd (upd (upd H3 p (.ins C dx (putF "many" (.int (m:Int)) []))) q1 (.lst xs)) p (.ins C dx (putF "ties" (.ref q1) (putF "many" (.int (m:Int)) [])))) q=some u:=λq u n z=>keep n (t4 _ _ (keep n z));have bn:(upd (upd (upd H3 p (.ins C dx (putF "many" (.int (m:Int)) []))) q1 (.lst xs)) p (.ins C dx (putF "ties" (.ref q1) (putF "many" (.int (m:Int)) [])))) q1=some (.lst xs):=keep a6 ag;have pa:(upd (upd (upd H3 p (.ins C dx (putF "many" (.int (m:Int)) []))) q1 (.lst xs)) p (.ins C dx (putF "ties" (.ref q1) (putF "many" (.int (m:Int)) [])))) p=some (.ins C dx (putF "ties" (.ref q1) (putF "many" (.int (m:Int)) []))):=ag;generalize upd (upd (upd H3 p (.ins C dx (putF "many" (.int (m:Int)) []))) q1 (.lst xs)) p (.ins C dx (putF "ties" (.ref q1) (putF "many" (.int (m:Int)) [])))=H4 at t1 bn pa;have lk:(putF "ties" (.ref q1) (putF "many" (.int (m:Int)) []):List (Str×V)).lookup ("ties" : Str)=some (.ref q1):=by rw[aE,Np rfl]
 have ln:(putF "ties" (.ref q1) (putF "many" (.int (m:Int)) []):List (Str×V)).length<=2:=by
  have a1:=iO "many" (.int (m:Int)) ([]:List (Str×V));have a2:=iO "ties" (.ref q1) (putF "many" (.int (m:Int)) ([]:List (Str×V)));simp only[Ja]at a1;omega
 have bp:(putF "ties" (.ref q1) (putF "many" (.int (m:Int)) []):List (Str×V)).lookup ("many" : Str)=some (.int (m:Int)):=by rw[aE,Nq (by decide),aE,Np rfl]
 generalize (putF "ties" (.ref q1) (putF "many" (.int (m:Int)) []):List (Str×V))=fs at pa lk ln bp;have ba:=t1 _ _ (pl a7) (ae _ _ a7);have bb:∀{b:Addr},H4 b=none->H b=none:=λ{b} z=>by
  cases y:H b with
  |none=>rfl
  |some o =>
   by_cases n:b=p
   .rw[n,pa]at z;cases z
   .rw[t1 _ _ n (ae _ _ y)]at z;cases z
 have bv:H q1=none:=by
  cases y:H q1 with
  |none=>rfl
  |some o=>rw[keep a6 (ae _ _ y)]at am;cases am
 refine⟨_,rfl,qh,rfl,⟨_,SqL.of ba⟩,bI (K:=K) (xs:=zs) (λi k H5=>Same H4 H5/\bx (λa=>H a≠none) H5 k (ts.take i)) (Hs (av ∅)) ⟨λ_ _ e=>e,rfl,λi l e=>by simp at e⟩ (λi _ H5 _ z=>SqL.of (z.1 _ _ ba)) ?_ ?_⟩
 .rintro i x k H5 O ⟨s5,rz⟩;have B:i<ts.length:=by rw[← hR.1];exact(GV.mp O).1
  obtain⟨l,M⟩:∃ l,ts[i]?=some l:=⟨_,GU B⟩;obtain⟨r,a1,a2⟩:=hR.2 i l M;rw[O]at a1
  cases a1
  refine⟨_,rfl,r,_,rfl,.inl (SqL.of (s5 _ _ (t1 _ _ (pl a2) (ae _ _ a2)))),λg hg=>⟨s5.trans (ak hg _),?_⟩⟩;rw[show ts.take (i+1)=ts.take i++[l] by rw[Hz,M];rfl]
  exact(rz.mono λb u _ z=>ak hg _ _ _ z).snoc (λz=>z (bb (none_of s5 hg))) ag
 rintro k H5 _ ⟨s5,rz⟩ D hD;rw[hR.1,HD]at rz;have bi:D≠p:=λz=>by rw[z,s5 _ _ pa]at hD;cases hD
 have s6:=s5.trans (ak hD (.lst k));refine⟨_,rfl,p,C,dx,fs,rfl,s6 _ _ pa,cw.cl,cw.n3,∅,?_⟩
 have b6:=iO "turns" (.ref D) fs;have bU:(putF "turns" (.ref D) fs).lookup ("ties" : Str)=some (.ref q1):=by rw[aE,Nq (by decide)];exact lk
 refine⟨_,rfl,_,rfl,p,C,dx,_,rfl,ag,cw.cl,cw.n4,∅,?_⟩
 have ca:=iO "rounds" (.ref qr) (putF "turns" (.ref D) fs);have bZ:(putF "rounds" (.ref qr) (putF "turns" (.ref D) fs)).lookup ("ties" : Str)=some (.ref q1):=by rw[aE,Nq (by decide)];exact bU
 have t7:∀ q u,q≠p->H3 q=some u->(upd (upd (upd H5 D (.lst k)) p (.ins C dx (putF "turns" (.ref D) fs))) p (.ins C dx (putF "rounds" (.ref qr) (putF "turns" (.ref D) fs)))) q=some u:=λq u n z=>keep n (keep n (s6 _ _ (t1 q u n z)));have bB:(upd (upd (upd H5 D (.lst k)) p (.ins C dx (putF "turns" (.ref D) fs))) p (.ins C dx (putF "rounds" (.ref qr) (putF "turns" (.ref D) fs)))) q1=some (.lst xs):=keep a6 (keep a6 (s6 _ _ bn));have p7:(upd (upd (upd H5 D (.lst k)) p (.ins C dx (putF "turns" (.ref D) fs))) p (.ins C dx (putF "rounds" (.ref qr) (putF "turns" (.ref D) fs)))) p=some (.ins C dx (putF "rounds" (.ref qr) (putF "turns" (.ref D) fs))):=ag;have D7:(upd (upd (upd H5 D (.lst k)) p (.ins C dx (putF "turns" (.ref D) fs))) p (.ins C dx (putF "rounds" (.ref qr) (putF "turns" (.ref D) fs)))) D=some (.lst k):=keep bi (keep bi ag);have u7:∀ q u,q≠p->H5 q=some u->(upd (upd (upd H5 D (.lst k)) p (.ins C dx (putF "turns" (.ref D) fs))) p (.ins C dx (putF "rounds" (.ref qr) (putF "turns" (.ref D) fs)))) q=some u:=λq u n z=>keep n (keep n (ak hD _ _ _ z));generalize upd (upd (upd H5 D (.lst k)) p (.ins C dx (putF "turns" (.ref D) fs))) p (.ins C dx (putF "rounds" (.ref qr) (putF "turns" (.ref D) fs)))=H7 at t7 bB p7 D7 u7;have a4:∀{q:Addr}{k:List V},H3 q=some (.lst k)->q≠p:=λ{q k} h z=>by rw[z,be]at h;cases h
 have b0:bw H7 vs rs:=⟨a5.1,λi l z=>by
  obtain⟨r,a1,a2⟩:=a5.2 i l z
  exact⟨r,a1,t7 _ _ (a4 a2) a2⟩⟩
 have T7:dD K H7 xs es:=(hT.mono ae).keep be t7;refine⟨_,rfl,_,rfl,qt,qr,xs,vs,es,_,rs,rfl,SqL.of (t7 _ _ (pl aI) (ae _ _ aI)),T7,∅,SqL.of (t7 _ _ (a4 aT) aT),b0,ro,λq5 z5 H8 s8 al bE=>?_⟩
 refine⟨_,rfl,p,C,dx,_,rfl,s8 _ _ p7,cw.cl,cw.n5,∅,?_⟩
 have b5:q5≠p:=λz=>by rw[z,s8 _ _ p7]at al;cases al
 have bR:=t7 _ _ (a4 aT) aT;refine kk _ q1 rs _ ag ⟨?_,⟨D,k,?_,λz=>z (bb (none_of s5 hD)),keep bi (s8 _ _ D7),rz.1,λi l z=>?_⟩,⟨qr,vs,?_,keep (a4 aT) (s8 _ _ bR),a5.1,λi l z=>?_⟩,⟨q5,z5,?_,keep b5 al,bE.1,λi B=>?_⟩,ro⟩ bv (by rw[aE,Nq (by decide)];exact bZ) (keep a6 (s8 _ _ bB)) λq o z n=>keep n (s8 _ _ (t7 q o n (ae _ _ z)))
 .rw[aE,Nq (by decide),aE,Nq (by decide),aE,Nq (by decide)]
  exact bp
 .rw[aE,Nq (by decide),aE,Nq (by decide),aE,Np rfl]
 .obtain⟨r,a1,a0,a2⟩:=rz.2 i l z;have nr:r≠p:=λz=>by rw[z,s5 _ _ pa]at a2;cases a2
  exact⟨r,a1,a0,keep nr (s8 _ _ (u7 r _ nr a2))⟩
 .rw[aE,Nq (by decide),aE,Np rfl]
 .obtain⟨r,a1,a2⟩:=a5.2 i l z;exact⟨r,a1,keep (a4 a2) (s8 _ _ (t7 _ _ (a4 a2) a2))⟩
 .rw[aE,Np rfl]
 .obtain⟨t,a,b,r,r',y1,y2,y3⟩:=bE.2 i B;exact⟨t,a,b,r,r',y1,keep (λz=>by rw[z,s8 _ _ p7]at y2;cases y2) y2,y3⟩
theorem jV.at{PS:Addr}{ks:Kn}(t:jV PL PS H xs es ks)(d:ks.length=es.length)(y:CT K PL)(TS:CT K PS):dD K H xs es:=⟨t.1,λi e z=>by
 have I:=(GV.mp z).1;obtain⟨k,D⟩:∃ k,ks[i]?=some k:=⟨_,GU ∅⟩
 obtain⟨p,j,a,b⟩:=t.2 i e k z D;refine⟨p,_,j,k.2,a,b,?_⟩;unfold cls;split
 .exact TS
 .exact y⟩
def WebF(S:Addr->Prop)(PL PS k:Addr)(H:Hp)(p:Addr)(m:Nat)(es:En)(ts rs:List (List Nat))(ks:Kn):Prop:=∃ j fs E D,H p=some (.ins k j fs)/\WebG S H fs m es ts rs/\¬ S E/\fs.lookup ("ties" : Str)=some (.ref E)/\H E=some (.lst D)/\jV PL PS H D es ks
theorem WebF.mono{S f:Addr->Prop}{PL PS k p:Addr}{H H':Hp}{m:Nat}{es:En}{ts rs:List (List Nat)}{ks:Kn}(h:WebF S PL PS k H p m es ts rs ks)(s:Same H H')(i:∀ a,f a->S a):WebF f PL PS k H' p m es ts rs ks:=by
 obtain⟨j,fs,E,D,a,b,n,c,d,e⟩:=h;exact⟨j,fs,E,D,s _ _ a,b.mono s i,λy=>n (i _ y),c,s _ _ d,e.mono s⟩
inductive Ex(PL PS WC:Addr)(vs:List L2.V)(H:L2.Hp)(Q:L2.VK)(x3_:L2.XK):Prop
 |mk (t pe pt pk:Addr)(m:Nat)(es:En)(ts:List (List Nat))(ks:Kn) (h0_:vs=[.ref t])(h1_:dE H t pe pt pk m es ts ks)(h2_:0<es.length)(h3_:∀(p:Addr)(rs:List (List Nat))(H':Hp),Same H H'->WebF (λa=>H a≠none) PL PS WC H' p m es ts rs ks->Q (.ref p) H')
theorem iL:az ["built","ties","k","end"] ["built"] (ar m9):=by ac_nf
theorem FO{PS WC fW:Addr}(F:Fun K "_law_web" "_law_web" m9 f fd)(T:Txt mg)(an:Mak P w K mg base 1 "Pull" ["self","one","two","strength"] (lN K) PL I G)(ap:Mak P w K mg base 1 "Push" ["self","one","two","strength"] (lN K) PS I G)(TL:CT K PL)(TS:CT K PS)(aT:Mak P w K mg base 5 "Web" ["self","many","ties","turns"] (mX K) WC fW Y)(cw:CW K WC):FnOk P w K mg base CX0 7 f fd ["built"] (Ex PL PS WC):=by
 refine F.ok iL (by walk_at "l") λab A aa s H vs Q E N h=>?_
 obtain⟨t,pe,pt,pk,m,d,ts,ks,rfl,bp,a4,kk⟩:=h;obtain⟨ht,⟨⟨ys,al,hE⟩,⟨xs,aI,hR⟩,g⟩,⟨ws,aS,tk⟩,ac,kl⟩:=bp;have aW:ys.length=d.length:=hE.1;have mf:=o8 g;have a7:xs.length=m:=by rw[hR.1,g.w.len]
 refine⟨_,(ah (aB 1 iL.nd (bV aj))
   (ah (bz PassesOwn.never rfl (aP rfl T.n_range (af (aC ax (by rfl) T.n_len a9 (af (aJ (pv 0) ai) aj)) aj)) (bY 2 iL.nd) (ah (aB 3 iL.nd (aR (aJ (pv 0) ai) (pv 2)))
   (ao (bP (aD eB (aJ (aR (aJ (pv 0) ai) (pv 2)) ai) ai (aG _)) (ao (aU (cY Hh Hy Hx aY (pv 1) (af (lF ap.mkc ap.ok (N.mono (by decide)) rfl ap.mg ap.bn .nil i3 (af (aJ (pv 3) ai) (af (aJ (pv 3) ai) (af (aJ (aR (aJ (pv 0) ai) (pv 2)) ai) aj)))) aj)))) (ao (aU (cY Hh Hy Hx aY (pv 1) (af (lF an.mkc an.ok (N.mono (by decide)) rfl an.mg an.bn .nil i3 (af (aJ (pv 3) ai) (af (aJ (pv 3) ai) (af (aJ (aR (aJ (pv 0) ai) (pv 2)) ai) aj)))) aj))))))))
   (ao (aF (lF aT.mkc aT.ok (N.mono (by decide)) rfl aT.mg aT.bn .nil i3 (af (aC ax (by rfl) T.n_len a9 (af (aJ (pv 0) ai) aj)) (af (pv 1) (af (eI [] ["row"] (aV (aJ (pv 0) ai)) pg_c pt_c (λC ex s H=>(cL (pq (K:=K) rfl) (by rfl) T.n_list iF (af (pv 0) aj)))) aj)))))))),?_⟩
 refine⟨(by show 0<=LR;decide),λq hq=>?_⟩
 have s1:=ak hq (.lst []);refine⟨_,rfl,t,_,0,_,rfl,rfl,SqT.of (s1 _ _ ht),at30,pe,ys,rfl,.inl (SqL.of (s1 _ _ al)),_,rfl,∅,∅,b8 (n:=(ys.length:Int).toNat) (λi M L=>∃ v2 v3 us,M=[some (.ref t),some (.ref q),v2,v3]/\Same H L/\L q=some (.lst us)/\jV PL PS L us (d.take i) ks) ⟨_,_,[],rfl,s1,ag,rfl,λi e k z=>by simp at z⟩ ?_ ?_⟩
 .rintro i M L hi ⟨v2,v3,us,rfl,s2,am,tt⟩;rw[G8,aW]at hi;have e0:(0:Int)+(i:Int)=(i:Int):=Ir _;rw[e0];obtain⟨e,he⟩:∃ e,d[i]?=some e:=⟨_,GU hi⟩;obtain⟨k,v⟩:∃ k,ks[i]?=some k:=⟨_,GU ∅⟩
  obtain⟨_,_,ne⟩:=g.w.ends e (GW he);obtain⟨p,x1,x2⟩:=(hE.mono s2).2 i e he;obtain⟨k1,k2,bb,y1,y2⟩:=(tk.mono s2).2 i k v;have ul:us.length=i:=by rw[tt.1,HY];omega
  refine⟨_,rfl,t,_,0,_,rfl,rfl,SqT.of (s2 _ _ ht),at30,_,rfl,pe,ys,_,_,rfl,rfl,SqL.of (s2 _ _ al),ay x1,?_⟩;refine⟨_,rfl,t,_,2,_,rfl,rfl,SqT.of (s2 _ _ ht),at32,_,rfl,pk,ws,_,_,rfl,rfl,SqL.of (s2 _ _ aS),ay y1,bb,_,0,_,rfl,rfl,SqT.of y2,at0,rfl,_,rfl,?_⟩;have ae:∀(x dx:Addr)(H':Hp),Same L H'->H' x=some (.ins (cls PL PS (decide (k.1=1))) dx (tf (e.1:Int) (e.2:Int) k.2))->∃ v2 v3 zs,([some (.ref t),some (.ref q),some (.int (i:Int)),some (.ref p)]:St)=[some (.ref t),some (.ref q),v2,v3]/\Same H (upd H' q (.lst (us++[.ref x])))/\(upd H' q (.lst (us++[.ref x]))) q=some (.lst zs)/\jV PL PS (upd H' q (.lst (us++[.ref x]))) zs (d.take (i+1)) ks:=λx dx H' s4 J=>by
   refine⟨_,_,_,rfl,aH (s2.trans s4) hq _,ag,by rw[GZ,ul,HY];simp;omega,λj e' k' hj bd=>?_⟩
   have be:∀{b:Addr}{C dx:Addr}{fs:List (Str×V)},H' b=some (.ins C dx fs)->b≠q:=λz y=>by rw[y,s4 _ _ am]at z;cases z
   rw[La]at hj;by_cases z:j<i
   .rw[Np ∅]at hj
    obtain⟨p',aL,a1,a2⟩:=(tt.mono s4).2 j e' k' (by rw[La,Np z];exact hj) bd
    exact⟨p',aL,by rw[G5 ∅];exact a1,by rw[aq (be a2)];exact a2⟩
   .by_cases z2:j=i
    .subst z2;rw[Np ∅,he]at hj
     cases hj
     rw[v]at bd
     cases bd
     exact⟨x,dx,by rw[← ul,G3 (G0 _),Hw];rfl,by rw[aq (be J)];exact J⟩
    .rw[Nq ∅]at hj
     cases hj
  refine ite2 (λc=>?_) (λc=>?_)
  .have c':k.1=1:=V.int.inj (Nf c)
   refine⟨_,rfl,.inl ⟨rfl,_,SqL.of am⟩,_,rfl,p,_,0,_,rfl,rfl,SqT.of x2,at0,_,rfl,p,_,1,_,rfl,rfl,SqT.of x2,at1,_,rfl,t,_,2,_,rfl,rfl,SqT.of (s2 _ _ ht),at32,_,rfl,pk,ws,_,_,rfl,rfl,SqL.of (s2 _ _ aS),ay y1,bb,_,1,_,rfl,rfl,SqT.of y2,at1,?_⟩;intro x dx nx a3 ba;refine⟨x,PS,dx,_,_,_,rfl,ag,TS,∅,∅,∅,k2,λH' J B=>?_⟩
   have s4:Same L H':=λb o z=>B b o (by rw[aq (aA z nx),aq (aA z a3)];exact z) (aA z nx)
   refine⟨rfl,q,us,_,rfl,rfl,s4 _ _ am,av ∅,ae x dx H' s4 ?_⟩
   rw[MB c'];exact J
  .have c':¬ k.1=1:=λz=>c (MB (by rw[z]))
   refine⟨_,rfl,.inl ⟨rfl,_,SqL.of am⟩,_,rfl,p,_,0,_,rfl,rfl,SqT.of x2,at0,_,rfl,p,_,1,_,rfl,rfl,SqT.of x2,at1,_,rfl,t,_,2,_,rfl,rfl,SqT.of (s2 _ _ ht),at32,_,rfl,pk,ws,_,_,rfl,rfl,SqL.of (s2 _ _ aS),ay y1,bb,_,1,_,rfl,rfl,SqT.of y2,at1,?_⟩;intro x dx nx a3 ba;refine⟨x,PL,dx,_,_,_,rfl,ag,TL,∅,∅,∅,k2,λH' J B=>?_⟩
   have s4:Same L H':=λb o z=>B b o (by rw[aq (aA z nx),aq (aA z a3)];exact z) (aA z nx)
   refine⟨rfl,q,us,_,rfl,rfl,s4 _ _ am,av ∅,ae x dx H' s4 ?_⟩
   rw[LQ c'];exact J
 rintro M L ⟨v2,v3,us,rfl,s2,am,tt⟩;rw[G8,aW,HD]at tt;have a5:=s2 _ _ aI;refine⟨_,rfl,t,_,1,_,rfl,rfl,SqT.of (s2 _ _ ht),at31,pt,xs,rfl,.inl (SqL.of a5),_,rfl,_,rfl,t,_,1,_,rfl,rfl,SqT.of (s2 _ _ ht),at31,pt,rfl,⟨_,SqL.of a5⟩,bI (K:=K) (xs:=xs) (λi zs H3=>Same L H3/\bw H3 zs (ts.take i)) (Hs (av ∅)) ⟨λ_ _ e=>e,rfl,λi l e=>by simp at e⟩ (λi zs H3 _ z=>SqL.of (z.1 _ _ a5)) ?_ ?_⟩
 .rintro i x zs H3 O ⟨s3,rz⟩;have hi:i<ts.length:=by rw[← hR.1];exact(GV.mp O).1
  obtain⟨l,r⟩:∃ l,ts[i]?=some l:=⟨_,GU hi⟩;obtain⟨p,a1,a2⟩:=(hR.mono (s2.trans s3)).2 i l r;rw[O]at a1
  cases a1
  refine⟨_,rfl,p,_,rfl,.inl (SqL.of a2),λg hg=>?_⟩;have s4:=ak hg (.lst (l.map iV));refine⟨s3.trans s4,?_⟩;rw[show ts.take (i+1)=ts.take i++[l] by rw[Hz,r];rfl]
  exact(rz.mono s4).snoc ag
 rintro zs H3 _ ⟨s3,rz⟩ D hD;rw[hR.1,HD]at rz;have s4:=ak hD (.lst zs);have a0:=s3.trans s4;intro x dx nx a3 ba;have up:∀ b o,(upd H3 D (.lst zs)) b=some o->(upd (upd (upd H3 D (.lst zs)) dx (.own x)) x (.ins WC dx [])) b=some o:=λb o z=>by rw[aq (aA z nx),aq (aA z a3)];exact z
 refine⟨x,WC,dx,q,D,m,us,zs,d,ts,(by rw[a7];rfl),ag,cw,up _ _ (a0 _ _ am),((tt.at kl TL TS).mono a0).mono up,up _ _ ag,(rz.mono s4).mono up,g,a4,∅,λfs q1 rs H' J hg hn B h3 h4=>⟨rfl,?_⟩⟩
 have s5:Same L H':=λb o z=>h4 b o (up _ _ (a0 _ _ z)) (aA (a0 _ _ z) nx)
 have a6:∀ a,H a≠none->(upd (upd (upd H3 D (.lst zs)) dx (.own x)) x (.ins WC dx [])) a≠none:=λa z y=>z (by
  cases u:H a with
  |none=>rfl
  |some o=>rw[up _ _ (a0 _ _ (s2 _ _ u))]at y;cases y)
 exact kk x rs H' (s2.trans s5) ⟨dx,fs,q1,us,J,hg.mono (λ_ _ z=>z) a6,λz=>a6 _ z hn,B,h3,tt.mono s5⟩
open KF (andN orN shlN xorN)
theorem Cb:LV "sum"=some (.builtin "sum"):=by decide
theorem CP{t2:TE}(J:PE X e O)(h2:PE X e t2):PE X e (λσ H Q=>O σ H Q∨t2 σ H Q):=λB s σ H Q I h=>h.elim (J B s σ H Q I) (h2 B s σ H Q I)
def bit(l a:Int):Int:=l/2^a.toNat%2
theorem zG(x y:Int):Mm (Mo x y) 1=(x%2+y%2)%2:=by
 have e:Mm (Mo x y) 1=Mo x y%2:=PySem.W.kbt_mask _ 1;rw[e,PyProof.Rows.bitXor_and];omega
inductive i6(push:Bool)(vs:List L2.V)(H:L2.Hp)(Q:L2.VK)(x3_:L2.XK):Prop
 |mk (p:_) (h0_:vs=[.ref p])(h1_:Q (.int (if push=true then 1 else 0)) H)
def TieAt(H:Hp)(p C:Addr)(a b s:Int):Prop:=∃ j,H p=some (.ins C j (tf a b s))
def upL(u:Nat->Bool)(i:Nat):List Nat:=(Ik i).filter u
theorem pF(u:Nat->Bool)(i:Nat):upL u (i+1)=if u i=true then upL u i++[i] else upL u i:=by
 unfold upL;rw[Kb,Kj];by_cases h:u i=true
 .rw[Np h];simp[h]
 .rw[Nq h];simp[h]
def yF(ps:List Nat):Nat:=ps.foldl (λm p=>m|||2^p) 0
theorem oX(ps:List Nat)(p:Nat):yF (ps++[p])=yF ps|||2^p:=by unfold yF;rw[Ku];rfl
def MK(u:Nat->Bool):Nat->Nat
 |0=>0
 |i+1=>if u i=true then MK u i|||2^i else MK u i
theorem qB(u:Nat->Bool):∀ i,yF (upL u i)=MK u i
 |0=>rfl
 |i+1=>by
  rw[pF];show _=if u i=true then MK u i|||2^i else MK u i
  split
  .rw[oX,qB u i]
  .exact qB u i
theorem cF(u:Nat->Bool)(k:Nat):∀ i,(MK u i).testBit k=(decide (k<i)&&u k)
 |0=>by show K3 0 k=_;simp
 |i+1=>by
  show(if u i=true then MK u i|||2^i else MK u i).testBit k=_
  have C:=cF u k i;by_cases h:u i=true
  .rw[Np h,Jt,C,HF];by_cases z:i=k
   .subst z;simp[h]
   .by_cases g:k<i
    .simp[g,Iz g,z]
    .have:¬ k<i+1:=by omega
     simp[g,z,this]
  .rw[Nq h,C];by_cases g:k<i
   .simp[g,Iz g]
   .by_cases z:i=k
    .subst z;simp[h]
    .have:¬ k<i+1:=by omega
     simp[g,this]
def stg(ks:Kn)(t:Nat):Int:=match ks[t]? with|some k=>k.2|none=>0
def prL(ks:Kn)(u:Nat->Bool)(i:Nat):List Int:=(Ik i).map λt=>if u t=true then stg ks t else 0
theorem qi(ks:Kn)(u:Nat->Bool)(i:Nat):prL ks u (i+1)=prL ks u i++[if u i=true then stg ks i else 0]:=by
 unfold prL;rw[Kb,Hm];rfl
theorem GO{u v:Nat->Bool}:∀{i:Nat},(∀ t,t<i->u t=v t)->MK u i=MK v i
 |0,_=>rfl
 |i+1,h=>by
  show(if u i=true then MK u i|||2^i else MK u i)=(if v i=true then MK v i|||2^i else MK v i)
  rw[h i (HK _),GO λt T=>h t (Iz T)]
theorem bitN(N a:Nat):bit (N:Int) (a:Int)=if N.testBit a=true then 1 else 0:=by
 unfold bit;rw[G8,Lb];have e:((N:Int)/2^a%2)=((N/2^a%2:Nat):Int):=by
  rw[Int.natCast_emod,Int.natCast_ediv,Lu];rfl
 rw[e];by_cases z:N/2^a%2=1
 .rw[z,MB rfl];rfl
 .rw[LQ z];have:N/2^a%2=0:=by omega
  rw[this];rfl
def mY(K:GX):Sp:=λm H Q _=>∃(a:Addr)(G:List Nat),m=[.ref a]/\SqL K H a (G.map iV)/\(∀ p∈G,p<80)/\Q (.int ((yF G:Nat):Int)) H
theorem Ring.clos{f:Nat->Nat}{x:Nat}{r:List Nat}(h:Ring f N r)(O:x∈r):f x∈r:=by
 obtain⟨i,I,e⟩:=Im O;exact GW (h.nx i x (by rw[GU I,e]))
theorem Ring.sub{f:Nat->Nat}{d:Nat}{r:List Nat}(h:Ring f N r)(h':Ring f N r')(J:d∈r)(h2:d∈r'):∀ x∈r,x∈r':=by
 obtain⟨i,I,e⟩:=Im J;have go:∀ j,r[(i+j)%r.length]?=some (r[(i+j)%r.length]'(JY _ h.ne))/\r[(i+j)%r.length]'(JY _ h.ne)∈r':=λj=>by
  induction j with
  |zero =>
   refine⟨GU _,?_⟩;have:(i+0)%r.length=i:=by rw[Nat.add_zero];exact Ip I
   have E:r[(i+0)%r.length]'(JY _ h.ne)=d:=by
    rw[← e];exact getElem_congr_idx this
   rw[E];exact h2
  |succ j C =>
   refine⟨GU _,?_⟩;have z:=h.nx _ _ C.1;have em:((i+j)%r.length+1)%r.length=(i+(j+1))%r.length:=by rw[Nat.mod_add_mod];rfl
   rw[em,GU (JY _ h.ne)]at z;rw[Hq z];exact h'.clos C.2
 intro x O;obtain⟨k,D,G⟩:=Im O;have g:=(go (k+r.length-i)).2;have:(i+(k+r.length-i))%r.length=k:=by
  rw[show i+(k+r.length-i)=k+r.length by omega,Nat.add_mod_right]
  exact Ip D
 have E:r[(i+(k+r.length-i))%r.length]'(JY _ h.ne)=x:=by
  rw[← G];exact getElem_congr_idx this
 rw[E]at g;exact g
theorem a8.at{f:Nat->Nat}{d:Nat}(w:a8 f N N rs)(h:d<N):∃(a:Nat)(r:List Nat),rs[a]?=some r/\d∈r:=by
 obtain⟨r,J,Y⟩:=HN.mp (w.all d h);obtain⟨a,G,e⟩:=Im J;exact⟨a,r,by rw[GU G,e],Y⟩
theorem a8.no_less{f:Nat->Nat}(w:a8 f N N rs)(w':a8 f N N rs'):∀(a:Nat)(b d:Nat)(r r':List Nat),rs[a]?=some r->rs'[b]?=some r'->d∈r->d∈r'->a<=b:=by
 intro a;induction a using Lp with
 |_ a A =>
  intro b d r r' G L J Y;have t:=GW G;have D:=GW L;have R:=w.ring r t;have o:=w'.ring r' D;have h:0<r.length:=R.ne;have m:0<r'.length:=o.ne;have n:r[0]?=some r[0]:=GU R.ne;have l:r'[0]?=some r'[0]:=GU o.ne;have E:=(w.hdl r t _ n).2 _ (o.sub R Y J _ (Ij o.ne));have Q:=(w'.hdl r' D _ l).2 _ (R.sub o J Y _ (Ij R.ne))
  cases a with
  |zero=>exact HI _
  |succ a =>
   have s:a<rs.length:=by have:=(GV.mp G).1;omega
   have g:rs[a]?=some rs[a]:=GU s;generalize rs[a]=p at g;have x:=GW g;have P:=w.ring p x;have k:0<p.length:=P.ne;have u:p[0]?=some p[0]:=GU P.ne;have lt:=w.asc a (a+1) p r _ _ (HK _) g G u n;obtain⟨c,e,C,j⟩:=w'.at (P.lt _ (Ij P.ne));have y:=A a (HK _) c p[0] p e g C (Ij P.ne) j;have PC:=w'.ring e (GW C);have v:0<e.length:=PC.ne;have q:e[0]?=some e[0]:=GU PC.ne;have O:=(w'.hdl e (GW C) _ q).2 _ j;by_cases z:c<b
   .omega
   .exfalso;by_cases i:c=b
    .subst i;rw[L]at C
     cases C
     omega
    .have:=w'.asc b c r' e _ _ ∅ L C l q
     omega
theorem a8.same{f:Nat->Nat}{a b d:Nat}{r:List Nat}(w:a8 f N N rs)(w':a8 f N N rs')(G:rs[a]?=some r)(L:rs'[b]?=some r')(J:d∈r)(h2:d∈r'):a=b :=
 KN (w.no_less w' a b d r r' G L J h2) (w'.no_less w b a d r' r L G h2 J)
theorem Ring.eq{f:Nat->Nat}{d:Nat}{r:List Nat}(h:Ring f N r)(h':Ring f N r')(e:r[0]?=some d)(u:r'[0]?=some d):r=r':=by
 have t:=GW e;have D:=GW u;have G:r.length=r'.length:=KN (sub_le h.nd (h.sub h' t D)) (sub_le h'.nd (h'.sub h D t));have go:∀ i,i<r.length->r[i]?=r'[i]?:=λi=>by
  induction i with
  |zero=>intro _;rw[e,u]
  |succ i C =>
   intro I;have q:=C ∅
   obtain⟨x,O⟩:∃ x,r[i]?=some x:=⟨_,GU ∅⟩
   have a:=h.nx i x O;rw[q]at O;have b:=h'.nx i x O;rw[Ip I]at a;rw[Ip ∅]at b
   rw[a,b]
 apply Kv;intro i;by_cases I:i<r.length
 .exact go i I
 .rw[Iy ∅,Iy ∅]
theorem a8.sub1{f:Nat->Nat}(w:a8 f N N rs)(w':a8 f N N rs'){k:Nat}{r:List Nat}(D:rs[k]?=some r):rs'[k]?=some r:=by
 have R:=w.ring r (GW D);have h:0<r.length:=R.ne;have n:r[0]?=some r[0]:=GU h;obtain⟨b,v,L,j⟩:=w'.at (R.lt _ (Ij h));have e:k=b:=w.same w' D L (Ij h) j;subst e;have o:=w'.ring v (GW L);have m:0<v.length:=o.ne;have l:v[0]?=some v[0]:=GU m;have E:=(w.hdl r (GW D) _ n).2 _ (o.sub R j (Ij h) _ (Ij m));have C:=(w'.hdl v (GW L) _ l).2 _ j;have O:v[0]=r[0]:=KN C E;rw[O]at l;rw[L,Ring.eq R o n l]
theorem a8.eq{f:Nat->Nat}(w:a8 f N N rs)(w':a8 f N N rs'):rs=rs':=by
 apply Kv;intro k
 cases h:rs[k]? with
 |some r=>exact(w.sub1 w' h).symm
 |none =>
  cases T:rs'[k]? with
  |none=>rfl
  |some r=>rw[w'.sub1 w T]at h;cases h
def sm(l:List Nat)(g:Nat->Nat):Nat:=(l.map g).sum
theorem Ac(x:Nat)(l:List Nat)(g:Nat->Nat):sm (x::l) g=g x+sm l g:=by unfold sm;rw[Hu,IX]
def WebT(PL PS k:Addr)(H:Hp)(p:Addr)(m:Nat)(es:En)(ts:List (List Nat))(ks:Kn):Prop:=∃ j fs E D O r,H p=some (.ins k j fs)/\fs.lookup ("many" : Str)=some (.int (m:Int))/\fs.lookup ("ties" : Str)=some (.ref E)/\H E=some (.lst D)/\jV PL PS H D es ks/\fs.lookup ("turns" : Str)=some (.ref O)/\H O=some (.lst r)/\bw H r ts
theorem WebF.t{S:Addr->Prop}{PS:Addr}{ks:Kn}(h:WebF S PL PS f H p m es ts rs ks):WebT PL PS f H p m es ts ks:=by
 obtain⟨j,fs,E,D,a,b,_,c,d,e⟩:=h;obtain⟨O,r,b1,_,b2,b3⟩:=b.turns;exact⟨j,fs,E,D,O,r,a,b.many,c,d,e,b1,b2,b3.off⟩
inductive zZ(vs:List L2.V)(H:L2.Hp)(Q:L2.VK)(x3_:L2.XK):Prop
 |mk (c:Int)(m:Nat) (h0_:vs=[.int c,.int (m:Int)])(h1_:m<=40)(h2_:∀ N:Nat,N<2^m->Q (.int (N:Int)) H)
theorem uP:az ["self"] ["self"] (ar dS):=by ac_nf
theorem C0(F:Fun K "wish" "Tie.wish" dS f fd):FnOk P w K mg base CX0 1 f fd ["self"] (i6 false):=by
 refine F.ok uP (by walk_at "l") λM A u s H m Q E N h=>?_
 obtain⟨p,rfl,k⟩:=h;exact⟨_,(ao (aF ai)),k⟩
theorem sG:az ["self"] ["self"] (ar cX):=by ac_nf
theorem CZ(F:Fun K "wish" "Push.wish" cX f fd):FnOk P w K mg base CX0 1 f fd ["self"] (i6 true):=by
 refine F.ok sG (by walk_at "l") λM A u s H m Q E N h=>?_
 obtain⟨p,rfl,k⟩:=h;exact⟨_,(ao (aF ai)),k⟩
theorem m7:az ["cell","many","mixed"] ["cell","many"] (ar lr):=by ac_nf
theorem Dc(F:Fun K "_law_mask" "_law_mask" lr f fd):FnOk P w K mg base CX0 1 f fd ["cell","many"] zZ:=by
 refine F.ok m7 (by walk_at "l") λM A u s H O Q E N h=>?_
 obtain⟨c,m,rfl,a,y⟩:=h;have g:(0:Int)<1*2^((m:Nat):Int).toNat:=by
  rw[shlN];have:=Io m;omega
 refine⟨_,(ah (aB 2 m7.nd (aw cM (aw bq (pv 0) (aw AH ai ai)) ai))
   (ao (aF (aw bq (aw dB (pv 2) (aw i9 (pv 2) ai)) (aw bW ai (pv 1)))))),?_⟩
 refine⟨_,rfl,_,_,rfl,rfl,⟨by decide,by decide,by decide⟩,_,_,rfl,rfl,(by show(0:Int)<10^(24:Int).toNat;decide),_,_,rfl,rfl,.inr ⟨by decide,by decide⟩,?_⟩
 refine⟨_,rfl,_,rfl,_,_,rfl,rfl,(by show(0:Int)<=17;decide),_,_,rfl,rfl,_,rfl,_,_,rfl,rfl,⟨∅,∅,by decide⟩,_,_,rfl,rfl,g,?_⟩
 have o:=IU (Mo (c%10^(24:Int).toNat*2654435761) (c%10^(24:Int).toNat*2654435761/2^(17:Int).toNat)) (Int.ne_of_gt g);have q:=y (Mo (c%10^(24:Int).toNat*2654435761) (c%10^(24:Int).toNat*2654435761/2^(17:Int).toNat)%(1*2^((m:Nat):Int).toNat)).toNat;rw[IM o]at q;refine q ?_;have J:=IB (Mo (c%10^(24:Int).toNat*2654435761) (c%10^(24:Int).toNat*2654435761/2^(17:Int).toNat)) g;rw[shlN]at o J ⊢;omega
def bt(M t:Nat):Nat:=M/2^t%2
theorem Ca(M t:Nat):bt M t=if M.testBit t=true then 1 else 0:=by
 unfold bt;rw[Lb];by_cases z:M/2^t%2=1
 .rw[z,MB rfl,Np rfl]
 .rw[LQ z,Nq Hj];omega
theorem EZ(M t:Nat):Mm ((M:Int)/2^((t:Nat):Int).toNat) 1=((bt M t:Nat):Int):=by
 have e:Mm ((M:Int)/2^((t:Nat):Int).toNat) 1=((M:Int)/2^((t:Nat):Int).toNat)%2:=PySem.W.kbt_mask _ 1;rw[e,G8];unfold bt;rw[Int.natCast_emod,Int.natCast_ediv,Lu];rfl
def parR(M:Nat)(r:List Nat):Nat:=sm r (λd=>bt M (d/2))%2
theorem CA(l:List Nat)(g:Nat->Nat):(l.map λd=>((g d:Nat):Int)).sum=((sm l g:Nat):Int):=by
 induction l with
 |nil=>rfl
 |cons x l C=>rw[Hu,IX,C,Ac];omega
def aK(ks:Kn)(t:Nat):Bool:=match ks[t]? with|some k=>decide (k.1=1)|none=>false
theorem fy{ks:Kn}{t:Nat}{k:Int×Int}(h:ks[t]?=some k):aK ks t=decide (k.1=1):=by unfold aK;rw[h]
def oddU(M:Nat)(rs:List (List Nat))(k:Nat):Bool:=decide (parR M (rs.getD k [])=1)
theorem DG{k:Nat}{r:List Nat}(h:rs[k]?=some r):rs.getD k []=r:=by rw[Hg,h];rfl
def WebR(PL PS k:Addr)(H:Hp)(p:Addr)(es:En)(ks:Kn)(rs:List (List Nat)):Prop:=∃ j fs E D l i,H p=some (.ins k j fs)/\fs.lookup ("ties" : Str)=some (.ref E)/\H E=some (.lst D)/\jV PL PS H D es ks/\fs.lookup ("rounds" : Str)=some (.ref l)/\H l=some (.lst i)/\bw H i rs
theorem WebR.mono{PL PS k:Addr}{H H':Hp}{p:Addr}{es:En}{ks:Kn}{rs:List (List Nat)}(h:WebR PL PS k H p es ks rs)(s:Same H H'):WebR PL PS k H' p es ks rs:=by
 obtain⟨j,fs,E,D,l,i,a,b,c,d,e,f,g⟩:=h;exact⟨j,fs,E,D,l,i,s _ _ a,b,s _ _ c,d.mono s,e,s _ _ f,g.mono s⟩
inductive zW(PL PS WC:Addr)(vs:List L2.V)(H:L2.Hp)(Q:L2.VK)(x3_:L2.XK):Prop
 |mk (p:Addr)(es:En)(ks:Kn)(rs:List (List Nat)) (h0_:vs=[.ref p])(h1_:WebR PL PS WC H p es ks rs)(h2_:ks.length=es.length)(h3_:es.length<=30)(h4_:∀ H',Same H H'->Q (.int ((MK (aK ks) es.length:Nat):Int)) H')
inductive pI(PL PS WC:Addr)(vs:List L2.V)(H:L2.Hp)(Q:L2.VK)(x3_:L2.XK):Prop
 |mk (p:Addr)(M k:Nat)(es:En)(ks:Kn)(rs:List (List Nat))(r:List Nat) (h0_:vs=[.ref p,.int (M:Int),.int (k:Int)])(h1_:WebR PL PS WC H p es ks rs)(h2_:rs[k]?=some r)(h3_:r.length<=900)(h4_:∀ H',Same H H'->Q (.int ((parR M r:Nat):Int)) H')
inductive zY(PL PS WC:Addr)(vs:List L2.V)(H:L2.Hp)(Q:L2.VK)(x3_:L2.XK):Prop
 |mk (p:Addr)(es:En)(ks:Kn)(rs:List (List Nat)) (h0_:vs=[.ref p])(h1_:WebR PL PS WC H p es ks rs)(h2_:ks.length=es.length)(h3_:es.length<=30)(h4_:rs.length<=70)(h5_:(∀ r∈rs,r.length<=900))(h6_:∀ H',Same H H'->Q (.int ((MK (oddU (MK (aK ks) es.length) rs) rs.length:Nat):Int)) H')
theorem WebF.r{S:Addr->Prop}{PS:Addr}{ks:Kn}(h:WebF S PL PS f H p m es ts rs ks):WebR PL PS f H p es ks rs:=by
 obtain⟨j,fs,E,D,a,g,_,b,c,d⟩:=h;obtain⟨l,i,e,s,k⟩:=g.rounds;exact⟨j,fs,E,D,l,i,a,b,c,d,e,s,k⟩
theorem Ag:az ["web"] ["web"] (ar pV):=by ac_nf
theorem FL{PS f1:Addr}{d1:FuncData}(F:Fun K "pushes" "pushes" pV f fd)(T:Txt mg)(cw:CW K q)(TL:CT K PL)(TS:CT K PS)(ab:Cal P w K mg base 1 "mask_of" ["places"] (mY K) a G)(u0:Met P w K mg base 1 PL "wish" ["self"] (i6 false) I Y)(u1:Met P w K mg base 1 PS "wish" ["self"] (i6 true) f1 d1):
  FnOk P w K mg base CX0 2 f fd ["web"] (zW PL PS q):=by
 refine F.ok Ag (by walk_at "l") λt A u s H m Q E N h=>?_
 obtain⟨p,B,ks,rs,rfl,⟨r,fs,j,xs,q5,z5,g,aL,ae,tk,_⟩,kl,aa,kk⟩:=h;have ap:=TL.cl;have aI:=TS.cl;have am:xs.length=B.length:=tk.1;refine⟨_,(ao (aF (ab.c N (af (eI [] ["number","tie"] (lE rfl T.n_enumerate (af (bo (pv 0) rfl) aj)) (λC ex s H=>(jD (n:=2) (K:=K) rfl rfl (aQ (bQ (i:=0) (show(["number","tie"]:List Str).Nodup from by decide) rfl (Or.inl rfl)) (aQ (bQ (i:=1) (show(["number","tie"]:List Str).Nodup from by decide) rfl (Or.inl rfl)) dv)))) (λC ex s H=>(qg (aD eB (CP (iP (pv 1) ap u0.me u0.ok (N.mono (by decide)) u0.bn .nil i3) (iP (pv 1) aI u1.me u1.ok (N.mono (by decide)) u1.bn .nil i3)) ai (aG _)))) (λC ex s H=>(pv 0))) aj)))),?_⟩
 refine⟨_,rfl,p,q,r,fs,_,rfl,g,cw.cl,cw.n2,aL,j,rfl,⟨_,SqL.of ae⟩,lK (K:=K) (xs:=xs) (λi v o=>Same H o/\v=(upL (aK ks) i).map iV) (Hs (av ∅)) ⟨λ_ _ e=>e,rfl⟩ (λi v o _ z=>SqL.of (z.1 _ _ ae)) ?_ ?_ ?_⟩
 .rintro i x v o T2 O ⟨J,rfl⟩ ac;have l:i<B.length:=by rw[← tk.1];exact(GV.mp O).1
  obtain⟨e,M⟩:∃ e,B[i]?=some e:=⟨_,GU l⟩;obtain⟨k,d⟩:∃ k,ks[i]?=some k:=⟨_,GU ∅⟩
  have s3:=J.trans (ak ac (.tup [.int (i:Int),x]));obtain⟨p',al,x1,x2⟩:=(tk.mono s3).2 i e k M d;rw[O]at x1
  cases x1
  refine⟨T2,_,rfl,SqT.of ag,rfl,_,_,rfl,_,_,rfl,rfl,rfl,?_⟩;have hU:=fy d;have an:∀ b:Bool,b=aK ks i->(if b=true then tVar 0 ([some (.int (i:Int)),some (.ref p')]:St) (upd o T2 (.tup [.int (i:Int),.ref p'])) (λy H4=>Same H H4/\(upL (aK ks) i).map iV++[y]=(upL (aK ks) (i+1)).map iV) else Same H (upd o T2 (.tup [.int (i:Int),.ref p']))/\(upL (aK ks) i).map iV=(upL (aK ks) (i+1)).map iV):=λb L=>by
   rw[pF,← L]
   cases b with
   |true =>
    refine iteT ⟨_,rfl,s3,?_⟩;rw[Np rfl,Hm];rfl
   |false =>
    refine iteF ⟨s3,?_⟩;rw[Nq (by decide)]
  by_cases c:k.1=1
  .rw[MB c]at x2 hU;refine .inr ⟨_,rfl,p',al,_,rfl,x2,rV _ _ _ (by decide) (by decide) (by decide),p',rfl,rfl,_,rfl,?_⟩
   exact an _ hU.symm
  .rw[LQ c]at x2 hU;refine .inl ⟨_,rfl,p',al,_,rfl,x2,rV _ _ _ (by decide) (by decide) (by decide),p',rfl,rfl,_,rfl,?_⟩
   exact an _ hU.symm
 .rintro v o ⟨J,rfl⟩ D hD;rw[am];refine⟨D,upL (aK ks) B.length,rfl,SqL.of ag,λp g=>?_,?_⟩
  .have:=IZ.mp (Jl.mp g).1;omega
  .rw[qB];exact kk _ (J.trans (ak hD _))
 .rintro i v o ⟨_,rfl⟩;rw[GY];exact Ig (Jy _ _) (by rw[ID];exact G0 _)
theorem Ai:az ["web","ties","number"] ["web","ties","number"] (ar pW):=by ac_nf
theorem C9{PS:Addr}(F:Fun K "odd_at" "odd_at" pW f fd)(T:Txt mg)(cw:CW K a):FnOk P w K mg base CX0 1 f fd ["web","ties","number"] (pI PL PS a):=by
 refine F.ok Ai (by walk_at "l") λt A J s H m Q E N h=>?_
 obtain⟨p,M,k,B,n,c,r,rfl,⟨b,fs,j,xs,q5,z5,g,_,_,_,l5,aa,hR⟩,u,G,y⟩:=h;obtain⟨pr,l,q⟩:=hR.2 k r u;refine⟨_,(ao (aF (aw bq (aC (rJ rfl) (by rfl) T.n_sum Cb (af (eI [("ties",1)] ["dart"] (aV (aR (bo (pv 0) rfl) (pv 2))) pg_c pt_c (λC I s H=>(aw lU (aw i9 (pv 1) (aw cN (pv 0) ai)) ai))) aj)) ai))),?_⟩
 refine⟨_,rfl,p,a,b,fs,_,rfl,g,cw.cl,cw.n4,l5,_,rfl,q5,z5,_,_,rfl,rfl,SqL.of aa,ay l,pr,rfl,⟨_,SqL.of q⟩,bI (K:=K) (xs:=r.map iV) (λi v L=>Same H L/\v=((r.take i).map λd=>((bt M (d/2):Nat):Int)).map V.int) (Hs (av (by rw[GY];omega))) ⟨λ_ _ e=>e,rfl⟩ (λi v L _ z=>SqL.of (z.1 _ _ q)) ?_ ?_⟩
 .rintro i x v L O ⟨Y,rfl⟩;rw[G7]at O;obtain⟨d,o,rfl⟩:=Ho.mp O;have ed:(d:Int)/2=((d/2:Nat):Int):=by omega
  refine⟨_,rfl,_,rfl,_,_,rfl,rfl,⟨by decide,by decide⟩,_,_,rfl,rfl,(show(0:Int)<=(d:Int)/2 by omega),_,_,rfl,rfl,Y,?_⟩
  rw[Hz,o,Hm,Hm];show _++[V.int (Mm ((M:Int)/2^((d:Int)/2).toNat) 1)]=_++[V.int ((bt M (d/2):Nat):Int)];rw[ed,EZ]
 rintro v L _ ⟨Y,rfl⟩ D hD;rw[GY,HD];refine⟨D,_,rfl,SqL.of ag,_,_,rfl,rfl,(by show(0:Int)<2;decide),?_⟩
 have e:(r.map λd=>((bt M (d/2):Nat):Int)).sum%2=((parR M r:Nat):Int):=by
  rw[CA r λd=>bt M (d/2)];unfold parR;omega
 show Q (V.int ((r.map λd=>((bt M (d/2):Nat):Int)).sum%2)) _;rw[e];exact y _ (Y.trans (ak hD _))
theorem j6:az ["web","pushing"] ["web"] (ar gY):=by ac_nf
theorem FN{fp PS:Addr}{aL:FuncData}(F:Fun K "odd_rounds" "odd_rounds" gY f fd)(T:Txt mg)(cw:CW K I)(ab:Cal P w K mg base 1 "mask_of" ["places"] (mY K) a G)(an:Cal P w K mg base 2 "pushes" ["web"] (zW PL PS I) fp Y)(al:Cal P w K mg base 1 "odd_at" ["web","ties","number"] (pI PL PS I) q aL):
  FnOk P w K mg base CX0 3 f fd ["web"] (zY PL PS I):=by
 refine F.ok j6 (by walk_at "l") λt A u s H m Q E N h=>?_
 obtain⟨p,B,ks,v,rfl,wb,kl,aa,aS,ap,n⟩:=h
 refine⟨_,(ah (aB 1 j6.nd (an.c N (af (pv 0) aj)))
   (ao (aF (ab.c N (af (eI [("web",0),("pushing",1)] ["number"] (aP rfl T.n_range (af (aC ax (by rfl) T.n_len a9 (af (bo (pv 0) rfl) aj)) aj)) pg_c (λC ex s H=>(qg (aD eB (al.c N (af (pv 1) (af (pv 2) (af (pv 0) aj)))) ai (aG _)))) (λC ex s H=>(pv 0))) aj))))),?_⟩
 refine⟨_,rfl,p,B,ks,v,rfl,wb,kl,aa,λd j=>?_⟩;have aI:=wb.mono j;obtain⟨b,fs,y,x,q5,z5,g,_,_,_,l5,ae,hR⟩:=id aI;have am:z5.length=v.length:=hR.1;generalize hM:MK (aK ks) B.length=M;rw[hM]at n;refine⟨_,rfl,p,I,b,fs,_,rfl,g,cw.cl,cw.n4,l5,q5,z5,rfl,.inl (SqL.of ae),_,rfl,∅,∅,jS (λi k L=>Same d L/\k=(upL (oddU M v) i).map iV) (Hs (av ∅)) ⟨λ_ _ e=>e,rfl⟩ ?_ ?_ ?_⟩
 .rintro i k L l ⟨J,rfl⟩;have e0:(0:Int)+(i:Int)=(i:Int):=Ir _;rw[e0];obtain⟨r,ac⟩:∃ r,v[i]?=some r:=⟨_,GU ∅⟩
  refine⟨rfl,_,rfl,_,rfl,_,rfl,p,M,i,B,ks,v,r,rfl,aI.mono J,ac,ap r (GW ac),λH3 o=>⟨rfl,_,rfl,?_⟩⟩;have hu:oddU M v i=decide (parR M r=1):=by unfold oddU;rw[DG ac]
  rw[pF,hu];refine ite2 (λc=>?_) (λc=>?_)
  .have O:parR M r=1:=by have:=V.int.inj (Nf c);omega
   refine⟨_,rfl,J.trans o,?_⟩;rw[Np (MB O),Hm];rfl
  .have O:¬ parR M r=1:=λz=>c (MB (congrArg V.int ∅))
   refine⟨J.trans o,?_⟩;rw[Nq (by simpa using O)]
 .rintro k L ⟨J,rfl⟩ D hD;rw[G8,am];refine⟨D,upL (oddU M v) v.length,rfl,SqL.of ag,λp g=>?_,?_⟩
  .have:=IZ.mp (Jl.mp g).1;omega
  .rw[qB];exact n _ (j.trans (J.trans (ak hD _)))
 .rintro i k L ⟨_,rfl⟩;rw[GY];exact Ig (Jy _ _) (by rw[ID];exact G0 _)
structure TxtZ(mg:Str->Option Value):Prop extends Txt mg where
 n_zip:mg "zip"=none
def WebS(PL PS k:Addr)(H:Hp)(p:Addr)(es:En)(ks:Kn)(rs:List (List Nat)):Prop:=∃ j fs E D l i,H p=some (.ins k j fs)/\fs.lookup ("ties" : Str)=some (.ref E)/\H E=some (.lst D)/\jV PL PS H D es ks/\fs.lookup ("sides" : Str)=some (.ref l)/\H l=some (.lst i)/\gO H i es.length rs
def zx(H:Hp)(zs:List V)(n:Nat)(ks:Kn)(rs:List (List Nat)):Prop:=zs.length=n/\∀ i,i<n->∃ k t a b r v,ks[i]?=some k/\zs[i]?=some (.ref t)/\H t=some (.tup [iV a,iV b,.int k.2])/\rs[a]?=some r/\2*i∈r/\rs[b]?=some v/\2*i+1∈v
theorem zx.mono{ks:Kn}(h:zx H zs n ks rs)(s:Same H H'):zx H' zs n ks rs:=⟨h.1,λi I=>by
 obtain⟨k,t,a,b,r,v,d,u,A,w⟩:=h.2 i I
 exact⟨k,t,a,b,r,v,d,u,s _ _ A,w⟩⟩
inductive uH(PL PS WC:Addr)(vs:List L2.V)(H:L2.Hp)(Q:L2.VK)(x3_:L2.XK):Prop
 |mk (p:Addr)(es:En)(ks:Kn)(rs:List (List Nat)) (h0_:vs=[.ref p])(h1_:WebS PL PS WC H p es ks rs)(h2_:ks.length=es.length)(h3_:es.length<=62)(h4_:∀ q zs H',Same H H'->H q=none->H' q=some (.lst zs)->zx H' zs es.length ks rs->Q (.ref q) H')
theorem uM:az ["web"] ["web"] (ar lj):=by ac_nf
theorem De{PS:Addr}(F:Fun K "links_of" "links_of" lj f fd)(T:TxtZ mg)(cw:CW K q)(TL:CT K PL)(TS:CT K PS):FnOk P w K mg base CX0 1 f fd ["web"] (uH PL PS q):=by
 refine F.ok uM (by walk_at "l") λM A u s H m Q E N h=>?_
 obtain⟨p,B,ks,rs,rfl,⟨G,fs,y,xs,q5,z5,g,l1,ae,tk,l5,ac,l⟩,kl,aa,kk⟩:=h;have am:xs.length=B.length:=tk.1;have an:z5.length=B.length:=l.1;have ct:∀ b,CT K (cls PL PS b):=λb=>by
  unfold cls;split
  .exact TS
  .exact TL
 refine⟨_,(ao (aF (eI [] ["sides","tie"] (Ax rfl T.n_zip (af (bo (pv 0) rfl) (af (bo (pv 0) rfl) aj))) (λC ex s H=>(jD (n:=2) (K:=K) rfl rfl (aQ (bQ (i:=0) (show(["sides","tie"]:List Str).Nodup from by decide) rfl (Or.inl rfl)) (aQ (bQ (i:=1) (show(["sides","tie"]:List Str).Nodup from by decide) rfl (Or.inl rfl)) dv)))) pt_c (λC ex s H=>(bJ (af (oz K (pv 0) ai) (af (oz K (pv 0) ai) (af (vc (K:=K) rfl (pv 1) rfl) aj)))))))),?_⟩
 refine⟨_,rfl,p,q,G,fs,_,rfl,g,cw.cl,cw.n5,l5,_,rfl,p,q,G,fs,_,rfl,g,cw.cl,cw.n2,l1,q5,y,rfl,⟨_,SqL.of ac⟩,⟨_,SqL.of ae⟩,ug (K:=K) (xs:=z5) (zs:=xs) (λi v L=>Same H L/\zx L v i ks rs) (Hs (av ∅)) ∅ ⟨λ_ _ e=>e,rfl,λi I=>by omega⟩ (λi v L _ z=>⟨SqL.of (z.1 _ _ ac),SqL.of (z.1 _ _ ae)⟩) ?_ ?_ ?_⟩
 .rintro i x z v L T2 O hz ⟨J,hY⟩ ab;have I:i<B.length:=by rw[← an];exact(GV.mp O).1
  obtain⟨e,Y⟩:∃ e,B[i]?=some e:=⟨_,GU I⟩;obtain⟨k,d⟩:∃ k,ks[i]?=some k:=⟨_,GU ∅⟩
  obtain⟨t,a,b,r,r',y1,y2,y3,y4,y5,y6⟩:=l.2 i I;rw[O]at y1
  cases y1
  obtain⟨p',al,x1,x2⟩:=tk.2 i e k Y d;rw[hz]at x1
  cases x1
  have s3:=J.trans (ak ab (.tup [.ref t,.ref p']));refine⟨T2,_,rfl,SqT.of ag,rfl,_,_,rfl,_,_,rfl,rfl,rfl,yesT ?_⟩;refine⟨_,rfl,t,_,0,_,rfl,rfl,SqT.of (s3 _ _ y2),at0,_,rfl,t,_,1,_,rfl,rfl,SqT.of (s3 _ _ y2),at1,_,rfl,p',_,al,_,_,rfl,s3 _ _ x2,(ct _).cl,(ct _).n3,tf_str _ _ _,(by show 3<=LR;decide),λt4 aI=>?_⟩
  have s4:=ak aI (.tup [iV a,iV b,.int k.2]);have ap:=(ak ab (.tup [.ref t,.ref p'])).trans s4;have aL:=hY.mono ap;refine⟨J.trans ap,by rw[GZ,hY.1];rfl,λj hj=>?_⟩
  by_cases c:j<i
  .obtain⟨k',t',a',b',w1,w2,v0,v1,v2⟩:=aL.2 j c;exact⟨k',t',a',b',w1,w2,v0,by rw[G5 (by rw[hY.1];exact c)];exact v1,v2⟩
  .have:j=i:=by omega
   subst this;exact⟨k,t4,a,b,r,r',d,by rw[← hY.1,G3 (G0 _),Hw];rfl,ag,y3,y4,y5,y6⟩
 .rintro v L ⟨J,hY⟩ D hD;rw[an]at hY;have aS:H D=none:=by
   cases z:H D with
   |none=>rfl
   |some o=>rw[J _ _ z]at hD;cases hD
  exact kk D v _ (J.trans (ak hD _)) aS ag (hY.mono (ak hD _))
 .rintro i v L ⟨_,hY⟩;rw[hY.1];exact G0 _
open KF (ku)
theorem vg(S T:Nat->Bool):∀ l:List Nat,par (λt=>S t ^^ T t) l=(par S l ^^ par T l)
 |[]=>rfl
 |d::l=>by
  rw[bK,bK,bK,vg S T l]
  cases S (d/2)<;>cases T (d/2)<;>cases par S l<;>cases par T l<;>rfl
theorem eu{S T:Nat->Bool}:∀{l:List Nat},(∀ d∈l,S (d/2)=T (d/2))->par S l=par T l
 |[],_=>rfl
 |d::l,h=>by rw[bK,bK,h d (G9 ..),eu λx O=>h x (G4 _ O)]
theorem xQ:∀ l:List Nat,par (λ_=>false) l=false
 |[]=>rfl
 |d::l=>by rw[bK,xQ l];rfl
theorem AF(i:Nat):∀{l:List Nat},l.Nodup->par (λt=>decide (t=i)) l=(decide (2*i∈l) ^^ decide (2*i+1∈l))
 |[],_=>rfl
 |d::l,s=>by
  obtain⟨b,v⟩:=Hf.mp s;rw[bK,AF i v];by_cases c0:d=2*i
  .subst c0;rw[MB (show 2*i/2=i by omega),LQ b,MB (G9 ..)]
   have:decide (2*i+1∈2*i::l)=decide (2*i+1∈l):=decide_eq_decide.mpr ⟨λz=>(G6.mp z).elim (λy=>by omega) id,G4 _⟩
   rw[this]
   cases decide (2*i+1∈l)<;>rfl
  .have p:decide (2*i∈d::l)=decide (2*i∈l):=decide_eq_decide.mpr ⟨λz=>(G6.mp z).elim (λy=>Nr y.symm c0) id,G4 _⟩
   by_cases c1:d=2*i+1
   .subst c1;rw[MB (show(2*i+1)/2=i by omega),p,LQ b,MB (G9 ..)]
    cases decide (2*i∈l)<;>rfl
   .have r:decide (2*i+1∈d::l)=decide (2*i+1∈l):=decide_eq_decide.mpr ⟨λz=>(G6.mp z).elim (λy=>Nr y.symm c1) id,G4 _⟩
    rw[LQ (show ¬ d/2=i by omega),p,r]
    cases decide (2*i∈l)<;>cases decide (2*i+1∈l)<;>rfl
structure Dl(N:Nat)(rs:List (List Nat))(ls:List KF.Lk):Prop where
 nd:rs.flatten.Nodup
 all:∀ d,d<2*N->d∈rs.flatten
 lt:∀ r∈rs,∀ d∈r,d<2*N
 rn:∀ r∈rs,r.Nodup
 ln:ls.length=N
 sd:∀(i:Nat)(l:KF.Lk),ls[i]?=some l->(∃ r,rs[l.1]?=some r/\2*i∈r)/\∃ r,rs[l.2.1]?=some r/\2*i+1∈r
theorem Dl.odd{N:Nat}{rs:List (List Nat)}{ls:List KF.Lk}(D:Dl N rs ls)(u:Nat){a:Nat}{R:List Nat}(B:rs[a]?=some R):∀ i,i<=N->(KF.oddE ls u i).testBit a=par (λt=>u.testBit t&&decide (t<i)) R
 |0,_=>by
  show(0:Nat).testBit a=_;rw[Ii];exact((eu λd _=>by rw[LQ (Iw _),JR]).trans (xQ R)).symm
 |i+1,h=>by
  have C:=D.odd u B i ∅
  obtain⟨l,G⟩:∃ l,ls[i]?=some l:=⟨_,GU (by rw[D.ln];omega)⟩
  obtain⟨⟨r,w,o⟩,⟨v,j,J⟩⟩:=D.sd i l G;have b:=D.rn R (GW B);have I:decide (2*i∈R)=decide (l.1=a):=decide_eq_decide.mpr ⟨λz=>jP D.nd w B o z,λz=>by rw[z,B]at w;cases w;exact o⟩
  have b1:decide (2*i+1∈R)=decide (l.2.1=a):=decide_eq_decide.mpr ⟨λz=>jP D.nd j B J z,λz=>by rw[z,B]at j;cases j;exact J⟩
  unfold KF.oddE;by_cases c:u.testBit i=true
  .rw[Np c,Ie,C,KF.lkA_is G];unfold KF.endX;rw[Ie,HF,HF,← I,← b1,← AF i b,← vg];refine eu λd _=>?_;by_cases z:d/2=i
   .rw[z,c,LQ (Ia i),MB rfl,MB (HK i)];rfl
   .rw[LQ z,Ju];congr 1;exact decide_eq_decide.mpr ∅
  .rw[Nq c,C];refine eu λd _=>?_;by_cases z:d/2=i
   .have O:u.testBit i=false:=by cases y:u.testBit i;rfl;exact Nr y c
    rw[z,O];rfl
   .congr 1;exact decide_eq_decide.mpr ∅
theorem Dl.oddN(D:Dl N rs ls)(u:Nat){a:Nat}{R:List Nat}(B:rs[a]?=some R):(KF.oddE ls u N).testBit a=par (λt=>u.testBit t) R:=by
 rw[D.odd u B N (G0 _)];refine eu λd hd=>?_;have:=D.lt R (GW B) d hd;rw[MB (show d/2<N by omega),LP]
theorem Dl.rooms(D:Dl N rs ls):∀ l∈ls,l.1<rs.length/\l.2.1<rs.length:=λl G=>by
 obtain⟨i,I⟩:=IW G;obtain⟨⟨_,w,_⟩,⟨_,j,_⟩⟩:=D.sd i l I;exact⟨(GV.mp w).1,(GV.mp j).1⟩
theorem sU{n:Nat}{ls:List KF.Lk}(hl:∀ l∈ls,l.1<n/\l.2.1<n)(u:Nat):∀ i,i<=ls.length->KF.oddE ls u i<2^n
 |0,_=>Io n
 |i+1,h=>by
  unfold KF.oddE;have C:=sU hl u i ∅
  split
  .obtain⟨l,e⟩:∃ l,ls[i]?=some l:=⟨_,GU ∅⟩
   obtain⟨Q,O⟩:=hl l (GW e);rw[KF.lkA_is e];exact IG C (IG (HZ (by decide) Q) (HZ (by decide) O))
  .exact C
theorem xf{x y:Nat}(O:x<2^n)(Q:y<2^n)(h:∀ a,a<n->x.testBit a=y.testBit a):x=y:=Ic λa=>by
 by_cases c:a<n
 .exact h a c
 .rw[Jv (Hv O (HR (by decide) ∅)),Jv (Hv Q (HR (by decide) ∅))]
def phi(F:Nat->Bool)(x:Nat):Nat->Bool
 |0=>false
 |n+1=>phi F x n ^^ (F n&&x.testBit n)
theorem qq(F:Nat->Bool)(x y:Nat):∀ n,phi F (x^^^y) n=(phi F x n ^^ phi F y n)
 |0=>rfl
 |n+1=>by
  unfold phi;rw[qq F x y n,Ie]
  cases phi F x n<;>cases phi F y n<;>cases F n<;>cases x.testBit n<;>cases y.testBit n<;>rfl
theorem qp(F:Nat->Bool):∀ n,phi F 0 n=false
 |0=>rfl
 |n+1=>by unfold phi;rw[qp F n,Ii,JR];rfl
theorem uZ(F:Nat->Bool)(a:Nat):∀ n,phi F (2^a) n=(F a&&decide (a<n))
 |0=>by unfold phi;rw[LQ (Iw _),JR]
 |n+1=>by
  unfold phi;rw[uZ F a n,HF];by_cases c:a=n
  .subst c;rw[LQ (Ia _),MB rfl,MB (HK _),JR,Kl]
  .rw[LQ c,JR,Ju];congr 1;exact decide_eq_decide.mpr ∅
theorem Az{n:Nat}{ls:List KF.Lk}(hl:∀ l∈ls,l.1<n/\l.2.1<n)(F:Nat->Bool)(u t:Nat)(f:∀ (i:Nat) (l:KF.Lk),i≠t->ls[i]?=some l->F l.1=F l.2.1){lt:KF.Lk}(T:ls[t]?=some lt)(hu:u.testBit t=true):∀ i,i<=ls.length->phi F (KF.oddE ls u i) n=(decide (t<i)&&(F lt.1 ^^ F lt.2.1))
 |0,_=>by
  show phi F 0 n=_;rw[qp,LQ (Iw _),JE]
 |i+1,h=>by
  have C:=Az hl F u t f T hu i ∅
  obtain⟨l,e⟩:∃ l,ls[i]?=some l:=⟨_,GU ∅⟩
  obtain⟨Q,O⟩:=hl l (GW e);have b:phi F (KF.endX l) n=(F l.1 ^^ F l.2.1):=by
   unfold KF.endX;rw[qq,uZ,uZ,MB Q,MB O,LP,LP]
  unfold KF.oddE;by_cases c:t=i
  .subst c;rw[Np hu,qq,C,KF.lkA_is e,b];rw[T]at e
   cases e
   rw[LQ (Ia _),MB (HK _),JE,Kl,IJ]
  .have L:decide (t<i+1)=decide (t<i):=decide_eq_decide.mpr ∅
   rw[L];split
   .rw[qq,C,KF.lkA_is e,b,f i l (λz=>c z.symm) e,Bool.xor_self,Ju]
   .exact C
theorem yj{S g:Nat->Bool}(w:bD m es ts)(h:Cp es S g){r:List Nat}(c:CR (fol es ts) (2*es.length) r):par S r=false:=by
 obtain⟨x,l,rfl,i⟩:=c.ch;have O:=c.lt x (G9 ..);have:=yi w h i O (λt T=>c.lt t (G4 _ T)) O;rw[AG]at this;rw[bK];have E:par S [x]=S (x/2):=by rw[bK];exact Ju _
 rw[E,Bool.xor_self]at this;rw[Bool.xor_comm];exact this
theorem Dl.last(D:Dl N rs ls)(w:bD m es ts)(k:es.length=N)(cr:∀ r∈rs,CR (fol es ts) (2*es.length) r)(F:Nat->Bool){t:Nat}{lt:KF.Lk}(T:ls[t]?=some lt)(f:∀ (i:Nat) (l:KF.Lk),i≠t->ls[i]?=some l->F l.1=F l.2.1):F lt.1=F lt.2.1:=by
 have c:t<N:=by rw[← D.ln];exact(GV.mp T).1
 obtain⟨e,Y⟩:∃ e,es[t]?=some e:=⟨_,GU ∅⟩
 obtain⟨_,_,ne⟩:=w.ends e (GW Y);obtain⟨S,I⟩:∃ S:Nat->Bool,Cp es S (λp=>decide (p=e.1)):=⟨λs=>match es[s]? with|some x=>(decide (x.1=e.1) ^^ decide (x.2=e.1))|none=>false,λs x O=>by show(match es[s]? with|some x=>(decide (x.1=e.1) ^^ decide (x.2=e.1))|none=>false)=_;rw[O]⟩
 have g:(MK S N).testBit t=true:=by
  rw[cF,MB c,I t e Y];show(true&&(decide (e.1=e.1) ^^ decide (e.2=e.1)))=true;rw[MB rfl,LQ (Ne.symm ne)];rfl
 have h:KF.oddE ls (MK S N) N=0:=by
  refine xf (n:=rs.length) (by rw[← D.ln];exact sU D.rooms _ _ (G0 _)) (Io _) λa G=>?_
  have B:=GU G;rw[D.oddN _ B,Ii,← yj w I (cr _ (GW B))];refine eu λd hd=>?_;have:=D.lt _ (GW B) d hd;rw[cF,MB (show d/2<N by omega),IJ]
 have:=Az D.rooms F (MK S N) t f T g N (by rw[D.ln];exact G0 _)
 rw[h,qp,MB c,IJ]at this
 cases a:F lt.1<;>cases b:F lt.2.1<;>rw[a,b]at this
 .cases this
 .cases this
def GQ(rs:List (List Nat))(S M:Nat):Prop:=∀(k:Nat)(r:List Nat),rs[k]?=some r->parR S r=parR M r
theorem xP(S:Nat):∀ r:List Nat,par (λt=>S.testBit t) r=decide (parR S r=1)
 |[]=>rfl
 |d::r=>by
  have C:=xP S r;rw[bK,C];unfold parR;rw[Ac,Ca]
  cases S.testBit (d/2) with
  |true =>
   rw[Np rfl,Bool.true_xor];by_cases c:sm r (λd=>bt S (d/2))%2=1
   .rw[MB c,LQ ∅];rfl
   .rw[LQ c,MB ∅];rfl
  |false =>
   rw[Nq Hj,Kl,Nat.zero_add]
theorem pZ(nd:l.Nodup){G:Nat->Bool}(h:∀ s∈l,G (nxt l s)=G s):∀{s s':Nat},s∈l->s'∈l->G s=G s':=by
 have B:∀ j,(N:j<l.length)->G l[j]=G (l[0]'∅):=λj=>by
  induction j with
  |zero=>intro _;rfl
  |succ j C =>
   intro N;have y:l[j]'∅∈l:=Ij _
   have e:=gp y;rw[nd.idxOf_getElem j ∅,Ip N,GU N]at e
   rw[Hq e,h _ y];exact C ∅
 intro s s' J Y;obtain⟨j,N,rfl⟩:=Im J;obtain⟨i,I,rfl⟩:=Im Y;rw[B j N,B i I]
theorem Dl.whole(D:Dl N rs ls)(g:Gr m es ts)(hN:es.length=N)(cr:∀ r∈rs,CR (fol es ts) (2*es.length) r)(F:Nat->Bool)(hF:∀ (i:Nat) (l:KF.Lk),ls[i]?=some l->F l.1=F l.2.1){a b:Nat}(o:a<rs.length)(L:b<rs.length):F a=F b:=by
 have w:=g.w;obtain⟨G,hG⟩:∃ G:Nat->Bool,∀ s l,ls[s]?=some l->G s=F l.1:=⟨λs=>match ls[s]? with|some l=>F l.1|none=>false,λs l h=>by show(match ls[s]? with|some l=>F l.1|none=>false)=_;rw[h]⟩
 have c:∀{a:Nat}{r:List Nat}{d:Nat},rs[a]?=some r->d∈r->F a=G (d/2):=λ{a r d} J Y=>by
  have hd:=D.lt r (GW J) d Y;obtain⟨l,M⟩:∃ l,ls[d/2]?=some l:=⟨_,GU (by rw[D.ln];omega)⟩
  obtain⟨⟨B,x,I⟩,⟨k,y1,A⟩⟩:=D.sd _ l M;rw[hG _ l M];by_cases z:d%2=0
  .rw[show 2*(d/2)=d by omega]at I
   rw[jP D.nd J x Y I]
  .rw[show 2*(d/2)+1=d by omega]at A
   rw[jP D.nd J y1 Y A,hF _ l M]
 have fl:∀ d,d<2*N->G (fol es ts d/2)=G (d/2):=λd hd=>by
  obtain⟨r,j,al⟩:=HN.mp (D.all d hd);obtain⟨a,o⟩:=IW j;rw[← c o al,← c o ((cr r j).closed d al)]
 have ab:∀{p:Nat}{l:List Nat},ts[p]?=some l->∀ s∈l,G (nxt l s)=G s:=λ{p l} M s y=>by
  obtain⟨e,n,q⟩:=(w.mem p l M s).mp y;have sl:=(GV.mp n).1;obtain⟨d,d1,d2,d3⟩:∃ d,d/2=s/\hd es d=p/\d<2*es.length:=by
   rcases q with z|z
   .refine⟨2*s+1,∅,?_,∅⟩
    unfold hd;rw[show(2*s+1)/2=s by omega,n]
    show(if(2*s+1)%2=0 then e.2 else e.1)=p;rw[Nq ∅]
    exact z
   .refine⟨2*s,∅,?_,∅⟩
    unfold hd;rw[show 2*s/2=s by omega,n]
    show(if 2*s%2=0 then e.2 else e.1)=p;rw[Np ∅]
    exact z
  obtain⟨l',_,f1,_,_,_,_,_,_,Q,_⟩:=w.foll d3;rw[d2,M]at f1
  cases f1
  rw[← d1,← Q];exact fl d ∅
 obtain⟨r0,ac⟩:∃ r,rs[a]?=some r:=⟨_,GU o⟩;obtain⟨B,aa⟩:∃ r,rs[b]?=some r:=⟨_,GU L⟩;obtain⟨d0,am⟩:=(cr r0 (GW ac)).ne;obtain⟨d1,ae⟩:=(cr B (GW aa)).ne;rw[c ac am,c aa ae];have l0:=D.lt _ (GW ac) _ am;have l1:=D.lt _ (GW aa) _ ae;obtain⟨H,k0,_,_,_,p0,q0,m0⟩:=w.at (d:=d0) ∅
 obtain⟨f,k1,_,_,_,p1,E,m1⟩:=w.at (d:=d1) ∅
 have:=g.conn (λp=>∃ l s,ts[p]?=some l/\s∈l/\G s=G (d0/2)) (λe n=>by
  obtain⟨t,T⟩:=IW n;obtain⟨b1,b2,_⟩:=w.ends e n;obtain⟨u,C⟩:∃ l,ts[e.1]?=some l:=⟨_,GU (by rw[w.len];exact b1)⟩
  obtain⟨v,O⟩:∃ l,ts[e.2]?=some l:=⟨_,GU (by rw[w.len];exact b2)⟩
  have tu:=(w.mem _ u C t).mpr ⟨e,T,.inl rfl⟩;have tv:=(w.mem _ v O t).mpr ⟨e,T,.inr rfl⟩;constructor
  .rintro⟨l,s,x,I,x3⟩;rw[C]at x
   cases x
   exact⟨v,t,O,tv,(pZ (w.nd _ _ C) (ab C) tu I).trans x3⟩
  .rintro⟨l,s,x,I,x3⟩;rw[O]at x
   cases x
   exact⟨u,t,C,tu,(pZ (w.nd _ _ O) (ab O) tv I).trans x3⟩) (hd es d0) (hd es d1) p0 p1 ⟨k0,_,q0,m0,rfl⟩
 obtain⟨l,s,x,I,x3⟩:=this;rw[E]at x
 cases x
 rw[pZ (w.nd _ _ E) (ab E) m1 I];exact x3.symm
theorem Dl.conn1(D:Dl N rs ls)(g:Gr m es ts)(k:es.length=N)(cr:∀ r∈rs,CR (fol es ts) (2*es.length) r):KF.Conn rs.length ls:=λb L=>by
 obtain⟨F,f⟩:∃ F:Nat->Bool,∀ b,F b=true↔∃ x,KF.Wk (ls) 0 b x:=⟨λb=>@decide (∃ x,KF.Wk (ls) 0 b x) (JM _),λb=>by rw[@decide_eq_true_iff _ (JM _)]⟩
 have u:∀(i:Nat)(l:KF.Lk),ls[i]?=some l->F l.1=F l.2.1:=λi l n=>by
  have o:F l.1=true->F l.2.1=true:=λz=>by
   obtain⟨x,O⟩:=(f _).mp z;have:=KF.Wk.step O n (.inl rfl);have e:KF.bey l l.1=l.2.1:=by unfold KF.bey;rw[Np rfl]
   rw[e]at this;exact(f _).mpr ⟨_,this⟩
  have h:F l.2.1=true->F l.1=true:=λz=>by
   obtain⟨x,O⟩:=(f _).mp z;have:=KF.Wk.step O n (.inr rfl);by_cases q:l.2.1=l.1
   .rw[← q];exact z
   .have e:KF.bey l l.2.1=l.1:=by unfold KF.bey;rw[Nq q]
    rw[e]at this;exact(f _).mpr ⟨_,this⟩
  cases p:F l.1 with
  |true=>rw[o p]
  |false =>
   cases q:F l.2.1 with
   |true=>rw[h q]at p;cases p
   |false=>rfl
 have:=D.whole g k cr F u (a:=0) (b:=b) ∅ L
 rw[(f 0).mpr ⟨0,.nil 0⟩]at this;exact(f b).mp this.symm
def UB(es:En)(ks:Kn)(L t:Nat):Bool:=match es[t]? with|some e=>(L.testBit e.1 ^^ L.testBit e.2 ^^ aK ks t)|none=>false
theorem Ei{ks:Kn}{L t:Nat}{e:Nat×Nat}(h:es[t]?=some e):UB es ks L t=(L.testBit e.1 ^^ L.testBit e.2 ^^ aK ks t):=by unfold UB;rw[h]
theorem tO:∀ PL:List (Nat×Nat),(KF.flat PL).length%2=0
 |[]=>rfl
 |p::PL=>by
  rw[KF.flat_cons,Hk,Hk];have:=tO PL;omega
structure Oth(m:Nat)(es:En)(ts:List (List Nat))(ks:Kn)(rs:List (List Nat))(ls:List KF.Lk):Prop where
 g:Gr m es ts
 ro:a8 (fol es ts) (2*es.length) (2*es.length) rs
 d:Dl es.length rs ls
 kl:ks.length=es.length
 ws:∀(i:Nat)(l:KF.Lk),ls[i]?=some l->∃ k,ks[i]?=some k/\l.2.2=k.2/\0<=k.2/\k.2<=10^(30:Int).toNat
 m2:2<=m
 few:es.length<=16
theorem Oth.cr{m:Nat}{es:En}{ts:List (List Nat)}{ks:Kn}{rs:List (List Nat)}{ls:List KF.Lk}(O:Oth m es ts ks rs ls):∀ r∈rs,CR (fol es ts) (2*es.length) r:=λr N=>(O.ro.ring r N).cr
theorem Oth.lay{ks:Kn}(O:Oth m es ts ks rs ls)(L:Nat):KF.oddE ls (MK (UB es ks L) es.length) es.length=KF.oddE ls (MK (aK ks) es.length) es.length:=by
 refine xf (n:=rs.length) (by rw[← O.d.ln];exact sU O.d.rooms _ _ (G0 _)) (by rw[← O.d.ln];exact sU O.d.rooms _ _ (G0 _)) λa G=>?_
 have B:=GU G;rw[O.d.oddN _ B,O.d.oddN _ B];have lt:=O.d.lt _ (GW B);obtain⟨S,I⟩:∃ S:Nat->Bool,Cp es S (λp=>L.testBit p):=⟨λs=>match es[s]? with|some x=>(L.testBit x.1 ^^ L.testBit x.2)|none=>false,λs x o=>by show(match es[s]? with|some x=>(L.testBit x.1 ^^ L.testBit x.2)|none=>false)=_;rw[o]⟩
 have b:=yj O.g.w I (O.cr _ (GW B));have:par (λt=>(MK (UB es ks L) es.length).testBit t) rs[a]=par (λt=>S t ^^ (MK (aK ks) es.length).testBit t) rs[a]:=eu λd hd=>by
  have:=lt d hd;obtain⟨e,Y⟩:∃ e,es[d/2]?=some e:=⟨_,GU ∅⟩
  rw[cF,cF,MB (show d/2<es.length by omega),IJ,IJ,Ei Y,I _ e Y]
 rw[this,vg,b,Kl]
theorem Oth.lok1{ks:Kn}(O:Oth m es ts ks rs ls)(T:rs.length<=40):KF.Lok rs.length ls where
 n1:=T
 l9:=by
  have Y:=O.d.ln;have A:=O.few;omega
 sm l hl:=O.d.rooms l hl
 w0 l hl:=by
  obtain⟨i,I⟩:=IW hl;obtain⟨k,_,e,a,b⟩:=O.ws i l I;rw[e];refine⟨a,Int.le_trans b ?_⟩;unfold KF.MM;decide
theorem Oth.evenM{ks:Kn}(O:Oth m es ts ks rs ls)(T:rs.length<=40)(M:Nat):KF.oddE ls M es.length<2^rs.length/\(KF.bl (KF.oddE ls M es.length)).length%2=0:=by
 have ok:=O.lok1 T;have j:∀ l∈ls,0<=l.2.2:=λl G=>(ok.w0 l G).1;have C:=O.d.conn1 O.g rfl O.cr;obtain⟨J,c,⟨k,I,_⟩,_⟩:=KF.low_join (KF.far_met j C) M (λl G=>⟨(ok.sm l G).1,(ok.sm l G).2,KF.far_link j G⟩) ls.length (G0 _);rw[O.d.ln]at J I;refine⟨J,?_⟩;rw[← I.length_eq];exact tO k
theorem Oth.even1{ks:Kn}(O:Oth m es ts ks rs ls)(T:rs.length<=40):KF.oddE ls (MK (aK ks) es.length) es.length<2^rs.length/\(KF.bl (KF.oddE ls (MK (aK ks) es.length) es.length)).length%2=0:=O.evenM T _
theorem er_at{t:Nat}{l:KF.Lk}(hi:i≠t)(h:ls[i]?=some l):∃ j:Nat,(ls.eraseIdx t)[j]?=some l:=by
 by_cases c:i<t
 .exact⟨i,by rw[JW c];exact h⟩
 .refine⟨i-1,?_⟩;rw[JX ∅,show i-1+1=i by omega]
  exact h
theorem Dl.conn(D:Dl N rs ls)(g:Gr m es ts)(k:es.length=N)(cr:∀ r∈rs,CR (fol es ts) (2*es.length) r){t:Nat}(T:t<N):KF.Conn rs.length (ls.eraseIdx t):=λb L=>by
 obtain⟨F,f⟩:∃ F:Nat->Bool,∀ b,F b=true↔∃ x,KF.Wk (ls.eraseIdx t) 0 b x:=⟨λb=>@decide (∃ x,KF.Wk (ls.eraseIdx t) 0 b x) (JM _),λb=>by rw[@decide_eq_true_iff _ (JM _)]⟩
 have u:∀(i:Nat)(l:KF.Lk),i≠t->ls[i]?=some l->F l.1=F l.2.1:=λi l I G=>by
  obtain⟨j,n⟩:=er_at I G;have o:F l.1=true->F l.2.1=true:=λz=>by
   obtain⟨x,O⟩:=(f _).mp z;have:=KF.Wk.step O n (.inl rfl);have e:KF.bey l l.1=l.2.1:=by unfold KF.bey;rw[Np rfl]
   rw[e]at this;exact(f _).mpr ⟨_,this⟩
  have h:F l.2.1=true->F l.1=true:=λz=>by
   obtain⟨x,O⟩:=(f _).mp z;have:=KF.Wk.step O n (.inr rfl);by_cases q:l.2.1=l.1
   .rw[← q];exact z
   .have e:KF.bey l l.2.1=l.1:=by unfold KF.bey;rw[Nq q]
    rw[e]at this;exact(f _).mpr ⟨_,this⟩
  cases p:F l.1 with
  |true=>rw[o p]
  |false =>
   cases q:F l.2.1 with
   |true=>rw[h q]at p;cases p
   |false=>rfl
 obtain⟨lt,d⟩:∃ l,ls[t]?=some l:=⟨_,GU (by rw[D.ln];exact T)⟩
 have s:∀(i:Nat)(l:KF.Lk),ls[i]?=some l->F l.1=F l.2.1:=λi l G=>by
  by_cases c:i=t
  .subst c;exact D.last g.w k cr F G u
  .exact u i l c G
 have:=D.whole g k cr F s (a:=0) (b:=b) ∅ L
 rw[(f 0).mpr ⟨0,.nil 0⟩]at this;exact(f b).mp this.symm
theorem er_lk{t:Nat}:KF.lkA (ls.eraseIdx t) i=if i<t then KF.lkA ls i else KF.lkA ls (i+1):=by
 unfold KF.lkA;rw[Hg];by_cases c:i<t
 .rw[JW c,Np c,Hg]
 .rw[JX ∅,Nq c,Hg]
structure Ins(t:Nat)(u u':Nat):Prop where
 lo:∀ j,j<t->u'.testBit j=u.testBit j
 hi:∀ j,t<=j->u'.testBit j=u.testBit (j+1)
theorem Ins.odd1{ls:List KF.Lk}{t u y:Nat}(h:Ins t u y):∀ i,i<=t->KF.oddE (ls.eraseIdx t) y i=KF.oddE ls u i/\KF.cstU (ls.eraseIdx t) y i=KF.cstU ls u i
 |0,_=>⟨rfl,rfl⟩
 |i+1,I=>by
  obtain⟨a,b⟩:=h.odd1 (ls:=ls) i ∅
  unfold KF.oddE KF.cstU;rw[a,b,h.lo i ∅,er_lk,Np (show i<t by omega)]
  exact⟨rfl,rfl⟩
theorem Ins.odd2{ls:List KF.Lk}{t u y:Nat}(h:Ins t u y):∀ i,KF.oddE ls u (t+i+1)=KF.oddE (ls.eraseIdx t) y (t+i)^^^(if u.testBit t=true then KF.endX (KF.lkA ls t) else 0)/\KF.cstU ls u (t+i+1)=KF.cstU (ls.eraseIdx t) y (t+i)+(if u.testBit t=true then(KF.lkA ls t).2.2 else 0)
 |0=>by
  obtain⟨a,b⟩:=h.odd1 (ls:=ls) t (G0 _);show KF.oddE ls u (t+1)=KF.oddE (ls.eraseIdx t) y t^^^_/\KF.cstU ls u (t+1)=KF.cstU (ls.eraseIdx t) y t+_;rw[a,b];show(if u.testBit t=true then KF.oddE ls u t^^^KF.endX (KF.lkA ls t) else KF.oddE ls u t)=_/\(if u.testBit t=true then KF.cstU ls u t+(KF.lkA ls t).2.2 else KF.cstU ls u t)=_;split
  .exact⟨rfl,rfl⟩
  .exact⟨(IS _).symm,(Int.add_zero _).symm⟩
 |i+1=>by
  obtain⟨a,b⟩:=h.odd2 (ls:=ls) i;have f:KF.oddE ls u (t+(i+1)+1)=if u.testBit (t+i+1)=true then KF.oddE ls u (t+i+1)^^^KF.endX (KF.lkA ls (t+i+1)) else KF.oddE ls u (t+i+1):=rfl;have E:KF.cstU ls u (t+(i+1)+1)=if u.testBit (t+i+1)=true then KF.cstU ls u (t+i+1)+(KF.lkA ls (t+i+1)).2.2 else KF.cstU ls u (t+i+1):=rfl;have w:KF.oddE (ls.eraseIdx t) y (t+(i+1))=if y.testBit (t+i)=true then KF.oddE (ls.eraseIdx t) y (t+i)^^^KF.endX (KF.lkA (ls.eraseIdx t) (t+i)) else KF.oddE (ls.eraseIdx t) y (t+i):=rfl;have B:KF.cstU (ls.eraseIdx t) y (t+(i+1))=if y.testBit (t+i)=true then KF.cstU (ls.eraseIdx t) y (t+i)+(KF.lkA (ls.eraseIdx t) (t+i)).2.2 else KF.cstU (ls.eraseIdx t) y (t+i):=rfl;rw[f,E,w,B,a,b,h.hi (t+i) ∅,er_lk,Nq (show ¬ t+i<t by omega)]
  by_cases c:u.testBit (t+i+1)=true
  .rw[Np c,Np c,Np c,Np c];refine⟨?_,∅⟩
   rw[HQ,HQ];congr 1;exact JS _ _
  .rw[Nq c,Nq c,Nq c,Nq c];exact⟨rfl,rfl⟩
theorem Ins.all{t u:Nat}(h:Ins t u j)(k:ls.length=N)(T:t<N):KF.oddE ls u N=KF.oddE (ls.eraseIdx t) j (ls.eraseIdx t).length^^^(if u.testBit t=true then KF.endX (KF.lkA ls t) else 0)/\KF.cstU ls u N=KF.cstU (ls.eraseIdx t) j (ls.eraseIdx t).length+(if u.testBit t=true then(KF.lkA ls t).2.2 else 0):=by
 obtain⟨i,I⟩:∃ i,N=t+i+1:=⟨N-t-1,∅⟩
 have x:(ls.eraseIdx t).length=t+i:=by rw[Kf ∅];omega
 rw[x,I];exact h.odd2 i
theorem Dl.marks(D:Dl N rs ls)(M:Nat):MK (oddU M rs) rs.length=KF.oddE ls M N:=by
 refine xf (n:=rs.length) (Ji _ λi I=>by rw[cF,LQ ∅,JE]) (by rw[← D.ln];exact sU D.rooms _ _ (G0 _)) λa G=>?_
 have B:=GU G;rw[D.oddN _ B,xP,cF,MB G,IJ];unfold oddU;rw[Hg,B];rfl
theorem EI{ks:Kn}(h:zx H zs N ks rs):∃ ls:List KF.Lk,LsAt KF.LkAt H zs ls/\ls.length=N/\∀(i:Nat)(l:KF.Lk),ls[i]?=some l->((∃ r,rs[l.1]?=some r/\2*i∈r)/\∃ r,rs[l.2.1]?=some r/\2*i+1∈r)/\∃ k,ks[i]?=some k/\l.2.2=k.2:=by
 have go:∀ n,n<=N->∃ ls:List KF.Lk,LsAt KF.LkAt H (zs.take n) ls/\ls.length=n/\∀(i:Nat)(l:KF.Lk),ls[i]?=some l->((∃ r,rs[l.1]?=some r/\2*i∈r)/\∃ r,rs[l.2.1]?=some r/\2*i+1∈r)/\∃ k,ks[i]?=some k/\l.2.2=k.2:=λn=>by
  induction n with
  |zero=>exact λ_=>⟨[],LsAt.nil,rfl,λi l z=>by simp at z⟩
  |succ n C =>
   intro T;obtain⟨ls,a,b,c⟩:=C ∅
   obtain⟨k,t,x,y,r,v,o,J,Y,A,M,s,L⟩:=h.2 n ∅
   refine⟨ls++[(x,y,k.2)],?_,by rw[GZ,b];rfl,λi l e=>?_⟩
   .rw[Hz,J];exact a.snoc ⟨t,rfl,Y⟩
   .by_cases q:i<n
    .rw[G5 ∅]at e
     exact c i l e
    .have:i=n:=by
      have:=(GV.mp e).1;rw[GZ,b]at this;have:i<n+1:=this;omega
     subst this;rw[G3 ∅,b,Hw]at e
     cases e
     exact⟨⟨⟨r,A,M⟩,⟨v,s,L⟩⟩,k,o,rfl⟩
 obtain⟨ls,a,b,c⟩:=go N (G0 _);rw[← h.1,HD]at a;exact⟨ls,a,b,c⟩
theorem jA(g:Gr m es ts)(b:a8 (fol es ts) (2*es.length) (2*es.length) rs):m+rs.length=es.length+2:=by
 obtain⟨a,p,c⟩:=g.part;rw[← p.same b.part];exact c
structure TxtO(mg:Str->Option Value)(TR:Addr):Prop extends TxtZ mg where
 modd:∃ t,mg "MOST_ODD"=some (.int 12 t)
 n_max:mg "max"=none
 g_TooRough:mg "TooRough"=some (.ref TR)
def rgh(ks:Kn)(n:Nat)(rs:List (List Nat)):Nat:=(KF.bl (MK (oddU (MK (aK ks) n) rs) rs.length)).length
inductive z8(TR PL PS WC:Addr)(vs:List L2.V)(H:L2.Hp)(Q:L2.VK)(E:L2.XK):Prop
 |mk (p:Addr)(es:En)(ks:Kn)(rs:List (List Nat)) (h0_:vs=[.ref p])(h1_:WebR PL PS WC H p es ks rs)(h2_:ks.length=es.length)(h3_:es.length<=30)(h4_:rs.length<=32)(h5_:(∀ r∈rs,r.length<=900))(h6_:(12<rgh ks es.length rs->∀ H',Same H H'->E (.ref TR) none H'))(h7_:(rgh ks es.length rs<=12->∀ H',Same H H'->Q (.int ((MK (oddU (MK (aK ks) es.length) rs) rs.length:Nat):Int)) H'))
theorem fP:az ["web","marks"] ["web"] (ar iM):=by ac_nf
theorem Dd{PS:Addr}{d1 d2:FuncData}(F:Fun K "marks_of" "marks_of" iM f fd)(T:TxtO mg q)(D:ExC K q)(e:Cal P w K mg base 3 "odd_rounds" ["web"] (zY PL PS I) a d1)(x:Cal P w K mg base 2 "ones" ["mask"] KF.spOnes C d2):FnOk P w K mg base (CXd P w) 4 f fd ["web"] (z8 q PL PS I):=by
 refine F.okD fP (by walk_at "l") λM A u s H m Q E N h=>?_
 obtain⟨p,B,r,v,rfl,t,d,b,aa,g,O,n⟩:=h
 refine⟨_,(ah (aB 1 fP.nd (e.c N (af (pv 0) aj)))
   (ah (bP (aD vh (x.c N (af (pv 1) aj)) (ku rfl T.modd) (aG _)) (ao (As D T.g_TooRough rfl zH rfl rfl (af AB aj))) aO)
   (ao (aF (pv 1))))),?_⟩
 refine⟨_,rfl,p,B,r,v,rfl,t,d,b,∅,g,λY j=>?_⟩
 have k:=λz L (J:Same Y L)=>n z L (j.trans J);have G:=λz L (J:Same Y L)=>O z L (j.trans J);have lt:MK (oddU (MK (aK r) B.length) v) v.length<2^v.length:=Ji _ λi l=>by rw[cF,LQ ∅,JE]
 unfold rgh at k G;generalize MK (oddU (MK (aK r) B.length) v) v.length=mk at lt k G ⊢;refine⟨_,rfl,mk,rfl,Hv lt (HR (by decide) ∅),λL J=>?_⟩
 refine⟨_,_,rfl,rfl,_,rfl,ite2 (λz=>⟨(by decide:1<=LR),G (by have:=Nf z;omega) _ J⟩) (λz=>?_)⟩
 exact⟨_,rfl,k (by have o:¬ ((12:Int)<((KF.bl mk).length:Int)):=λy=>z (MB y);omega) _ J⟩
inductive spRT(PL PS WC:Addr)(vs:List L2.V)(H:L2.Hp)(Q:L2.VK)(x3_:L2.XK):Prop
 |mk (p:Addr)(S:Nat)(es:En)(ks:Kn)(rs:List (List Nat)) (h0_:vs=[.ref p,.int (S:Int)])(h1_:WebR PL PS WC H p es ks rs)(h2_:ks.length=es.length)(h3_:es.length<=30)(h4_:rs.length<=70)(h5_:(∀ r∈rs,r.length<=900))(h6_:GQ rs S (MK (aK ks) es.length))(h7_:∀ H',Same H H'->Q .non H')
inductive spLO(PL PS WC:Addr)(vs:List L2.V)(H:L2.Hp)(Q:L2.VK)(x3_:L2.XK):Prop
 |mk (p:Addr)(S m:Nat)(es:En)(ts:List (List Nat))(ks:Kn)(rs:List (List Nat)) (h0_:vs=[.ref p,.int (S:Int)])(h1_:WebT PL PS WC H p m es ts ks)(h2_:WebR PL PS WC H p es ks rs)(h3_:Gr m es ts)(h4_:a8 (fol es ts) (2*es.length) (2*es.length) rs)(h5_:ks.length=es.length)(h6_:0<m)(h7_:m<=40)(h8_:es.length<=30)(h9_:(∀ k∈ks,k.1=0∨k.1=1))(h10_:GQ rs S (MK (aK ks) es.length))(h11_:∀(L:Nat) H',Same H H'->L<2^m->Q (.int (L:Int)) H')
theorem x8{x y:Nat}(h:(Sum.inl (x:Int):Key)=Sum.inl (y:Int)):x=y:=by
 have:=Sum.inl.inj h;omega
def sI(b:Bool):Int:=if b=true then 1 else 0
def kvS(g:Nat->Bool)(ps:List Nat):List (Key×V):=ps.map λ(p:Nat)=>((.inl ((p:Nat):Int):Key),V.int (sI (g p)))
theorem tE{g:Nat->Bool}{p:Nat}(nd:ps.Nodup)(h:p∈ps):valV (kvS g ps) (.inl (p:Int))=some (.int (sI (g p))):=by
 induction ps with
 |nil=>cases h
 |cons x r C =>
  rw[Hf]at nd;show valV (((.inl (x:Int):Key),V.int (sI (g x)))::kvS g r) _=_;rcases G6.mp h with e|h
  .subst e;exact bh rfl
  .have ne:¬ (Sum.inl (x:Int):Key)=Sum.inl (p:Int):=λz=>nd.1 (by rw[x8 z];exact h)
   rw[bj ne];exact C nd.2 h
theorem A4{g:Nat->Bool}{p:Nat}(h:p∉ps):valV (kvS g ps) (.inl (p:Int))=none:=by
 induction ps with
 |nil=>rfl
 |cons x r C =>
  show valV (((.inl (x:Int):Key),V.int (sI (g x)))::kvS g r) _=_;have ne:¬ (Sum.inl (x:Int):Key)=Sum.inl (p:Int):=λz=>h (by rw[← x8 z];exact G9 ..)
  rw[bj ne];exact C λz=>h (G4 _ z)
theorem A5{g:Nat->Bool}{p:Nat}(h:p∉ps)(b:Bool):putK (kvS g ps) (.inl (p:Int)) (.int (sI b))=kvS (λz=>if z=p then b else g z) (ps++[p]):=by
 rw[qf _ (A4 h)];unfold kvS;rw[Hm];refine congr (congrArg _ (Jm λx O=>?_)) (by simp)
 simp only[Nq (show ¬ x=p from λz=>h (by rw[← z];exact O))]
def oth(e:Nat×Nat)(p:Nat):Nat:=if p=e.1 then e.2 else e.1
structure Met'(m:Nat)(ps wl:List Nat):Prop where
 nd:ps.Nodup
 lt:∀ p∈ps,p<m
 wn:∀ p∈wl,p∈ps
theorem sY(s:Same H H'){b:Addr}(h:H' b=none):H b=none:=by
 cases z:H b with
 |none=>rfl
 |some u=>rw[s _ _ z]at h;cases h
theorem tj(x:Nat):∀(n:Nat)(ps:List Nat),ps.length=n->(yF ps).testBit x=decide (x∈ps)
 |0,ps,h=>by
  rw[Jo.mp h];show(0:Nat).testBit x=_;rw[Ii];rfl
 |n+1,ps,h=>by
  have ne:ps≠[]:=λe=>by rw[e]at h;cases h
  have eq:ps.dropLast++[ps.getLast ne]=ps:=Lm ne;have G:ps.dropLast.length=n:=by rw[List.length_dropLast,h];rfl
  rw[← eq,oX,Jt,tj x n _ G,HF];generalize ps.dropLast=r;generalize ps.getLast ne=q;by_cases a:x∈r
  .rw[MB a,MB (HL _ a),Bool.true_or]
  .rw[LQ a,Bool.false_or];by_cases b:q=x
   .rw[MB b,MB (by rw[b];simp)]
   .rw[LQ b,LQ (by simp only[Hc,Hi];exact λz=>z.elim a λy=>b y.symm)]
theorem zk{d:Addr}{g:TG}(Pv:Nat->List V->Hp->Prop)(hz:kvs.length<=LR)(E:Pv 0 [] H1)(hl:∀ i ys H,i<=kvs.length->Pv i ys H->H d=some (.frz o (.dK kvs)))
  (T:∀ i k y ys H,kvs[i]?=some (k,y)->Pv i ys H->g (kV k) (He n none++σ) H λh H2=>h.drop n=σ/\tt h H2 λb H3=>if b=true then O h H3 (λy t=>Pv (i+1) (ys++[y]) t) else Pv (i+1) ys H3) (hd:∀ ys H,Pv kvs.length ys H->QQ ys H) (Q:∀ i ys H,Pv i ys H->ys.length<=i)
  : gP g tt O n σ (Itk o kvs d) H1 QQ:=by
 refine⟨λi m ys H=>m=kvs.length-i/\i<=kvs.length/\Pv i ys H,⟨kvs.length,by simp,HI _,E⟩,?_⟩
 rintro i m ys H ⟨rfl,I,p⟩;have q:=hl i ys H I p;have s:=Q i ys H p;refine⟨∅,?_⟩
 by_cases G:i<kvs.length
 .refine .inr ⟨⟨q,G⟩,λc H2=>Pv (i+1) c H2,λc H2 r=>⟨kvs.length-(i+1),∅,rfl,G,r⟩,λx l y=>?_⟩
  obtain⟨k,y,f,rfl,rfl⟩:=y;exact T i k y ys _ f p
 .have e:i=kvs.length:=by omega
  subst e;exact .inl ⟨⟨q,G0 _⟩,hd ys H p⟩
theorem xor3(a b c:Bool):Mo (Mo (sI a) (if b=true then 1 else 0)) (sI c)=sI (a ^^ b ^^ c):=by cases a<;>cases b<;>cases c<;>decide
theorem GH(S t:Nat):Mm ((S:Int)/2^((t:Nat):Int).toNat) 1=sI (S.testBit t):=by
 rw[EZ,Ca];unfold sI;split<;>rfl
theorem AS(nd:ps.Nodup)(h:∀ p∈ps,p<m):ps.length<=m:=cV nd h
inductive jY(C:Addr)(vs:List L2.V)(H:L2.Hp)(Q:L2.VK)(x3_:L2.XK):Prop
 |mk (p a b s x:_) (h0_:vs=[.ref p,.int x])(h1_:TieAt H p C a b s)(h2_:Q (.int (if x=a then b else a)) H)
theorem Met'.new{wl:List Nat}{y:Nat}(h:Met' m ps wl)(j:y∉ps)(c:y<m):Met' m (ps++[y]) (wl++[y]):=by
 refine⟨Ht.mpr ⟨h.nd,by simp,λa G b L z=>j (by rw[← Hi.mp L,← z];exact G)⟩,λy Q=>?_,λy Q=>?_⟩
 .rcases Hc.mp Q with z|z
  .exact h.lt y z
  .rw[Hi.mp z];exact c
 .rcases Hc.mp Q with z|z
  .exact HL _ (h.wn y z)
  .exact HE _ z
theorem fu:az ["web","ties","pushing","number"] ["web","ties"] (ar fT):=by ac_nf
theorem ok_rt{PS:Addr}{d1 d2:FuncData}(F:Fun K "refuse_ties" "refuse_ties" fT f fd)(T:Txt mg)(cw:CW K q)(aI:Cal P w K mg base 2 "pushes" ["web"] (zW PL PS q) a d1)(ae:Cal P w K mg base 1 "odd_at" ["web","ties","number"] (pI PL PS q) C d2):FnOk P w K mg base CX0 3 f fd ["web","ties"] (spRT PL PS q):=by
 refine F.ok fu (by walk_at "l") λt A u s H m Q E N h=>?_
 obtain⟨p,S,B,ks,G,rfl,wb,kl,aa,aT,aL,ev,l⟩:=h
 refine⟨_,(ah (aB 2 fu.nd (aI.c N (af (pv 0) aj)))
   (ao (bz PassesOwn.never rfl (aP rfl T.n_range (af (aC ax (by rfl) T.n_len a9 (af (bo (pv 0) rfl) aj)) aj)) (bY 3 fu.nd) (ao (bP (aD i4 (ae.c N (af (pv 0) (af (pv 1) (af (pv 3) aj)))) (ae.c N (af (pv 0) (af (pv 2) (af (pv 3) aj)))) (aG _)) (ao b9) aO))))),?_⟩
 refine⟨_,rfl,p,B,ks,G,rfl,wb,kl,aa,λY v=>?_⟩;have aS:=wb.mono v;obtain⟨b,fs,k,D,q5,z5,g,_,_,_,l5,ac,hR⟩:=id aS;have am:z5.length=G.length:=hR.1;generalize hM:MK (aK ks) B.length=M at *;refine⟨_,rfl,p,q,b,fs,_,rfl,g,cw.cl,cw.n4,l5,q5,z5,rfl,.inl (SqL.of ac),_,rfl,∅,∅,b8 (n:=(z5.length:Int).toNat) (λi d L=>∃ v3,d=[some (.ref p),some (.int (S:Int)),some (.int (M:Int)),v3]/\Same Y L/\∀ j r,j<i->G[j]?=some r->parR S r=parR M r) ⟨_,rfl,λ_ _ e=>e,λj r h=>Nr h (Iw _)⟩ ?_ ?_⟩
 .rintro i d L I ⟨v3,rfl,J,al⟩;have e0:(0:Int)+(i:Int)=(i:Int):=Ir _;rw[e0];obtain⟨r,ab⟩:∃ r,G[i]?=some r:=⟨_,GU ∅⟩
  refine⟨_,rfl,_,rfl,_,rfl,p,S,i,B,ks,G,r,rfl,aS.mono J,ab,aL r (GW ab),λx o=>?_⟩;refine⟨_,rfl,_,rfl,_,rfl,p,M,i,B,ks,G,r,rfl,aS.mono (J.trans o),ab,aL r (GW ab),λH4 s4=>?_⟩;have ap:=(J.trans o).trans s4;refine⟨rfl,_,rfl,ite2 (λc=>?_) (λc=>?_)⟩
  .have O:parR S r≠parR M r:=λz=>by rw[z,MB rfl]at c;cases c
   exact Nr (ev i r ab) O
  .have O:parR S r=parR M r:=by
    by_cases z:parR S r=parR M r
    .exact z
    .exact Nr (by rw[LQ (λy=>z (by have:=V.int.inj y;omega))];rfl) c
   refine⟨_,rfl,ap,λj r2 hj an=>?_⟩;by_cases e:j=i
   .subst e;rw[ab]at an
    cases an
    exact O
   .exact al j r2 ∅ an
 .rintro d L ⟨v3,rfl,J,al⟩;rw[G8,am]at al;exact l _ (v.trans J)
theorem pR:az ["self","place"] ["self","place"] (ar cA):=by ac_nf
theorem sS(F:Fun K "across" "Tie.across" cA f fd)(T:CT K C):FnOk P w K mg base CX0 1 f fd ["self","place"] (jY C):=by
 refine F.ok pR (by walk_at "l") λM A u s H m Q E N h=>?_
 obtain⟨p,a,b,st,x,rfl,⟨j,g⟩,k⟩:=h;refine⟨_,(ao (aF (gf (aD eB (pv 1) (bo (pv 0) rfl) (aG _)) (bo (pv 0) rfl) (bo (pv 0) rfl)))),?_⟩;refine⟨_,rfl,_,rfl,p,C,j,_,_,rfl,g,T.cl,T.n1,jX _ _ _,rfl,_,rfl,?_⟩;refine ite2 (λc=>?_) (λc=>?_)
 .refine⟨_,rfl,p,C,j,_,_,rfl,g,T.cl,T.n2,oJ _ _ _,?_⟩;rw[Np (V.int.inj (Nf c))]at k;exact k
 .refine⟨_,rfl,p,C,j,_,_,rfl,g,T.cl,T.n1,jX _ _ _,?_⟩;rw[Nq (λz=>c (MB (by rw[z])))]at k
  exact k
theorem bN:az ["web","ties","signs","waiting","place","number","tie","there"] ["web","ties"] (ar jj):=by ac_nf
theorem ok_lo{f2 cG cH g0 g1 PS WC:Addr}{d1 d2 co ch bm:FuncData}(F:Fun K "laying_of" "laying_of" jj f fd)(T:Txt mg)(cw:CW K WC)(TL:CT K PL)(TS:CT K PS)(bE:Cal P w K mg base 3 "refuse_ties" ["web","ties"] (spRT PL PS WC) I d1)(al:Cal P w K mg base 1 "mask_of" ["places"] (mY K) f2 d2)(a0:Met P w K mg base 1 PL "across" ["self","place"] (jY PL) cG Y)(a1:Met P w K mg base 1 PS "across" ["self","place"] (jY PS) cH co)(u0:Met P w K mg base 1 PL "wish" ["self"] (i6 false) g0 ch)(u1:Met P w K mg base 1 PS "wish" ["self"] (i6 true) g1 bm):FnOk P w K mg base CX0 4 f fd ["web","ties"] (spLO PL PS WC):=by
 refine F.ok bN (by walk_at "l") λab A aa s H vs Q E N h=>?_
 obtain⟨p,S,m,B,ts,ks,rs,rfl,wt,wr,g,ro,kl,m0,bZ,ac,bv,ev,kk⟩:=h;have hu:=qM N;have a3:=N.units;have cc:=TL.cl;have cd:=TS.cl;have mf:=o8 g;have ca:=xI ro;have b0:∀ r∈rs,r.length<=900:=λr N=>by
  have:=cV (ro.ring r N).nd (ro.ring r N).lt;omega
 obtain⟨dx,fs,q1,xs,q3,z3,hp,lm,l1,J,tk,l3,h3,cO⟩:=id wt
 refine⟨_,(ah (aU (bE.c N (af (pv 0) (af (pv 1) aj))))
   (ah (aB 2 bN.nd (vd (qj ai ai uV) rfl rfl (λz=>by cases z) (by decide)))
   (ah (aB 3 bN.nd (bV (af ai aj)))
   (ah (eO PassesOwn.never (aD (op_neG a3) (pv 3) (bV aj) (aG _)) (ah (aB 4 bN.nd (ED Hh PySem.F.slot_list_pop PySem.F.type_list_pop mt_pop (pv 3)))
   (ao (bz PassesOwn.never rfl (aV (aR (bo (pv 0) rfl) (pv 4))) (bY 5 bN.nd) (ah (aB 6 bN.nd (aR (bo (pv 0) rfl) (pv 5)))
   (ah (aB 7 bN.nd (CP (AD (pv 6) cc a0.me a0.ok (N.mono (by decide)) a0.bn .nil i3 (af (pv 4) aj)) (AD (pv 6) cd a1.me a1.ok (N.mono (by decide)) a1.bn .nil i3 (af (pv 4) aj))))
   (ao (bP (xK (kC hu (pv 7) (pv 2))) (ah (jC hu (pv 2) (pv 7) (aw dB (aw dB (gm hu (pv 2) (pv 4) (λ_ _=>rfl)) (CP (iP (pv 6) cc u0.me u0.ok (N.mono (by decide)) u0.bn .nil i3) (iP (pv 6) cd u1.me u1.ok (N.mono (by decide)) u1.bn .nil i3))) (aw lU (aw i9 (pv 1) (pv 5)) ai)) rfl)
   (ao (aU (cY Hh Hy Hx aY (pv 3) (af (pv 7) aj))))) aO))))))))
   (ao (aF (al.c N (af (eI [("signs",2)] ["place"] (FA (pv 2)) pg_c (λC ex s H=>(qg (aD eB (gm hu (pv 1) (pv 0) (λ_ _=>rfl)) ai (aG _)))) (λC ex s H=>(pv 0))) aj)))))))),?_⟩
 refine⟨_,rfl,_,rfl,p,S,B,ks,rs,rfl,wr,kl,ac,∅,b0,ev,λH1 s1=>?_⟩
 intro d hd;refine⟨ag,[(.inl ((0:Nat):Int),.int 0)],rfl,(by show 1<=15;decide),?_⟩
 have sd:Same H1 (upd (upd H1 d (.dK [])) d (.dK (fF [] [(.inl ((0:Nat):Int),.int 0)]))):=aH (ak hd _) hd _;have bB:(upd (upd H1 d (.dK [])) d (.dK (fF [] [(.inl ((0:Nat):Int),.int 0)]))) d=some (.dK (kvS (λ_=>false) [0])):=by
  rw[ag];rfl
 generalize upd (upd H1 d (.dK [])) d (.dK (fF [] [(.inl ((0:Nat):Int),.int 0)]))=n at sd bB;refine⟨(by show 1<=LR;decide),λq hq=>?_⟩
 have sq:=ak hq (.lst [.int 0]);have b5:q≠d:=λz=>by rw[z,bB]at hq;cases hq
 have aS:H1 q=none:=sY sd hq;refine⟨λmm M H'=>∃(Pl:Nat->Bool)(ps wl:List Nat)(v4 v5 v6 v7:Option V),mm=2*(m-ps.length)+wl.length/\mm<=80/\M=[some (.ref p),some (.int (S:Int)),some (.ref d),some (.ref q),v4,v5,v6,v7]/\Same H1 H'/\H' d=some (.dK (kvS Pl ps))/\H' q=some (.lst (wl.map iV))/\Met' m ps wl,⟨_,λ_=>false,[0],[0],_,_,_,_,rfl,(by show 2*(m-1)+1<=80;omega),rfl,sd.trans sq,sq _ _ bB,ag,⟨(by simp),λx O=>by rw[Hi.mp O];exact m0,λx O=>O⟩⟩,?_⟩
 rintro mm M H3 ⟨Pl,ps,wl,v4,v5,v6,v7,rfl,cP,rfl,s3,cf,bR,mt⟩;refine⟨_,rfl,(by show 0<=LR;exact HI _),λl u=>?_⟩
 have sl:=ak u (.lst []);refine⟨_,_,vp (SqL.of (sl _ _ bR)),vp (ps:=[]) (SqL.of ag),nF _,nF _,_,rfl,?_⟩;rw[DS];have cp:=s3.trans sl;have cs:=sl _ _ cf;have ct:=sl _ _ bR;generalize upd H3 l (.lst [])=H4 at cp cs ct;refine ite2 (λc=>?_) (λc=>?_)
 .have ne:wl≠[]:=λz=>by rw[z,MB rfl]at c;cases c
  have cB:wl.dropLast++[wl.getLast ne]=wl:=Lm ne;obtain⟨x,O⟩:∃ x,x=wl.getLast ne:=⟨_,rfl⟩;obtain⟨bd,hw⟩:∃ bd,bd=wl.dropLast:=⟨_,rfl⟩;rw[← O,← hw]at cB;subst cB;clear O hw ne c;have cD:=mt.wn x (by simp)
  have xm:=mt.lt x cD;obtain⟨row,bb⟩:∃ row,ts[x]?=some row:=⟨_,GU (by rw[g.w.len];exact xm)⟩
  have cT:=AS mt.nd mt.lt;refine⟨λae H'=>∃(Pl:Nat->Bool)(an ba:List Nat)(v4 v5 v6 v7:Option V),2*(m-an.length)+ba.length<2*(m-ps.length)+(bd++[x]).length/\ae=[some (.ref p),some (.int (S:Int)),some (.ref d),some (.ref q),v4,v5,v6,v7]/\Same H1 H'/\H' d=some (.dK (kvS Pl an))/\H' q=some (.lst (ba.map iV))/\Met' m an ba,λae H' ⟨Pl,an,ba,a4,a5,a6,a7,lt,e1,e2,e3,e4,e5⟩=>⟨_,lt,Pl,an,ba,a4,a5,a6,a7,rfl,Ig (Hs lt) cP,e1,e2,e3,e4,e5⟩,?_⟩;have cu:((bd++[x]).map iV)[((bd++[x]).map iV).length-1]?=some (iV x):=by
   rw[Hm,GZ,GY];show(bd.map iV++[iV x])[bd.length+1-1]?=_;rw[Kh,G3 (by rw[GY];exact G0 _),GY,Hw]
   rfl
  refine⟨_,rfl,.inl ⟨rfl,_,SqL.of ct⟩,q,_,iV x,rfl,rfl,ct,cu,?_⟩;have cv:((bd++[x]).map iV).dropLast=bd.map iV:=by
   rw[Hm];exact List.dropLast_concat
  rw[cv];have s5:Same H1 (upd H4 q (.lst (bd.map iV))):=aH cp aS _;have ci:(upd H4 q (.lst (bd.map iV))) d=some (.dK (kvS Pl ps)):=by rw[aq (Ne.symm b5)];exact cs
  have ap:(upd H4 q (.lst (bd.map iV))) q=some (.lst (bd.map iV)):=ag;generalize upd H4 q (.lst (bd.map iV))=H5 at s5 ci ap;obtain⟨r,r1,r2⟩:=cO.2 x row bb;have bi:=s1.trans s5;have rl:row.length<=B.length:=cV (g.w.nd x row bb) λt ht=>by
   obtain⟨e,he,_⟩:=(g.w.mem x row bb t).mp ht;exact(GV.mp he).1
  refine⟨_,rfl,p,WC,dx,fs,_,rfl,bi _ _ hp,cw.cl,cw.n3,l3,_,rfl,q3,z3,_,_,rfl,rfl,SqL.of (bi _ _ h3),ay r1,r,rfl,⟨_,SqL.of (bi _ _ r2)⟩,bM (K:=K) (xs:=row.map iV) (λj M H6=>∃(Pl:Nat->Bool)(an ba:List Nat)(v5 v6 v7:Option V),M=[some (.ref p),some (.int (S:Int)),some (.ref d),some (.ref q),some (iV x),v5,v6,v7]/\Same H1 H6/\H6 d=some (.dK (kvS Pl an))/\H6 q=some (.lst (ba.map iV))/\Met' m an ba/\x∈an/\2*(m-an.length)+ba.length<2*(m-ps.length)+(bd++[x]).length) ⟨Pl,ps,bd,_,_,_,rfl,s5,ci,ap,⟨mt.nd,mt.lt,λy hy=>mt.wn y (by simp[hy])⟩,cD,by rw[GZ,Hd];omega⟩ (λj M H6 _ am=>by obtain⟨_,_,_,_,_,_,_,z,_⟩:=am;exact SqL.of (z _ _ (s1 _ _ r2))) ?_ ?_⟩
  .rintro j v M H6 bp ⟨Pl,an,ba,v5,v6,v7,rfl,s6,bS,aL,be,b6,ce⟩;rw[G7]at bp;obtain⟨t,ht,rfl⟩:=Ho.mp bp;obtain⟨e,he,aT⟩:=(g.w.mem x row bb t).mp (GW ht);obtain⟨k,hk⟩:∃ k,ks[t]?=some k:=⟨_,GU (by have:=(GV.mp he).1;omega)⟩
   have cb:=s1.trans s6;obtain⟨p',a2,x1,x2⟩:=(tk.mono cb).2 t e k he hk;obtain⟨b1,b2,bne⟩:=g.w.ends e (GW he);have om:oth e x<m:=by unfold oth;split<;>assumption
   have cQ:=AS be.nd be.lt;have cn:(if(x:Int)=(e.1:Int) then(e.2:Int) else(e.1:Int))=((oth e x:Nat):Int):=by
    unfold oth;by_cases c:x=e.1
    .rw[Np ∅,Np c]
    .rw[Nq ∅,Nq c]
   refine⟨_,rfl,p,WC,dx,fs,_,rfl,cb _ _ hp,cw.cl,cw.n2,l1,_,rfl,q1,xs,_,_,rfl,rfl,SqL.of (cb _ _ J),ay x1,?_⟩;by_cases c:k.1=1
   .rw[MB c]at x2;refine .inr ⟨_,rfl,p',a2,_,rfl,x2,rV _ _ _ (by decide) (by decide) (by decide),_,rfl,p',_,_,_,(x:Int),rfl,⟨a2,x2⟩,?_⟩
    rw[cn];refine⟨_,rfl,_,rfl,d,_,rfl,.inl ⟨_,.inl ((oth e x:Nat):Int),.inl bS,rfl,rfl⟩,_,rfl,?_⟩;by_cases aI:oth e x∈an
    .rw[tE be.nd aI];exact iteF ⟨Pl,an,ba,_,_,_,rfl,s6,bS,aL,be,b6,ce⟩
    .rw[A4 aI];refine iteT ?_;refine⟨_,rfl,_,rfl,d,_,rfl,.inl ⟨_,.inl (x:Int),.inl bS,rfl,(tE be.nd b6).symm⟩,?_⟩;refine .inr ⟨_,rfl,p',a2,_,rfl,x2,rV _ _ _ (by decide) (by decide) (by decide),p',rfl,_,_,rfl,rfl,_,rfl,_,rfl,_,_,rfl,rfl,(show(0:Int)<=(t:Int) by omega),_,_,rfl,rfl,_,_,rfl,rfl,?_⟩
     refine⟨_,rfl,_,rfl,d,_,rfl,DPut.k (k:=.inl ((oth e x:Nat):Int)) bS (av (by unfold kvS;rw[GY];omega)),?_⟩
     obtain⟨G,ck⟩:∃ G,putK (kvS Pl an) (.inl ((oth e x:Nat):Int)) (.int (Mo (Mo (sI (Pl x)) (if true=true then 1 else 0)) (Mm ((S:Int)/2^((t:Nat):Int).toNat) 1)))=kvS G (an++[oth e x]):=⟨_,by rw[GH,xor3];exact A5 aI _⟩
     have bU:(upd H6 d (.dK (putK (kvS Pl an) (.inl ((oth e x:Nat):Int)) (.int (Mo (Mo (sI (Pl x)) (if true=true then 1 else 0)) (Mm ((S:Int)/2^((t:Nat):Int).toNat) 1)))))) q=some (.lst (ba.map iV)):=by rw[aq b5];exact aL
     refine⟨_,rfl,.inl ⟨rfl,_,SqL.of bU⟩,_,rfl,q,_,_,rfl,rfl,bU,av (by rw[GY];omega),?_⟩
     refine⟨G,an++[oth e x],ba++[oth e x],_,_,_,rfl,aH (aH s6 hd _) aS _,?_,?_,be.new aI om,HL _ b6,?_⟩
     .rw[aq (Ne.symm b5),ag,ck]
     .rw[ag,Hm];rfl
     .simp only[GZ,Hd]at ce ⊢;have:=AS (Ht.mpr ⟨be.nd,(by simp),λa ha b L z=>aI (by rw[← Hi.mp L,← z];exact ha)⟩:(an++[oth e x]).Nodup) (m:=m) (λy hy=>(Hc.mp hy).elim (be.lt y) λz=>by rw[Hi.mp z];exact om)
      rw[GZ,Hd]at this;omega
   .rw[LQ c]at x2;refine .inl ⟨_,rfl,p',a2,_,rfl,x2,rV _ _ _ (by decide) (by decide) (by decide),_,rfl,p',_,_,_,(x:Int),rfl,⟨a2,x2⟩,?_⟩
    rw[cn];refine⟨_,rfl,_,rfl,d,_,rfl,.inl ⟨_,.inl ((oth e x:Nat):Int),.inl bS,rfl,rfl⟩,_,rfl,?_⟩;by_cases aI:oth e x∈an
    .rw[tE be.nd aI];exact iteF ⟨Pl,an,ba,_,_,_,rfl,s6,bS,aL,be,b6,ce⟩
    .rw[A4 aI];refine iteT ?_;refine⟨_,rfl,_,rfl,d,_,rfl,.inl ⟨_,.inl (x:Int),.inl bS,rfl,(tE be.nd b6).symm⟩,?_⟩;refine .inl ⟨_,rfl,p',a2,_,rfl,x2,rV _ _ _ (by decide) (by decide) (by decide),p',rfl,_,_,rfl,rfl,_,rfl,_,rfl,_,_,rfl,rfl,(show(0:Int)<=(t:Int) by omega),_,_,rfl,rfl,_,_,rfl,rfl,?_⟩
     refine⟨_,rfl,_,rfl,d,_,rfl,DPut.k (k:=.inl ((oth e x:Nat):Int)) bS (av (by unfold kvS;rw[GY];omega)),?_⟩
     obtain⟨G,ck⟩:∃ G,putK (kvS Pl an) (.inl ((oth e x:Nat):Int)) (.int (Mo (Mo (sI (Pl x)) (if false=true then 1 else 0)) (Mm ((S:Int)/2^((t:Nat):Int).toNat) 1)))=kvS G (an++[oth e x]):=⟨_,by rw[GH,xor3];exact A5 aI _⟩
     have bU:(upd H6 d (.dK (putK (kvS Pl an) (.inl ((oth e x:Nat):Int)) (.int (Mo (Mo (sI (Pl x)) (if false=true then 1 else 0)) (Mm ((S:Int)/2^((t:Nat):Int).toNat) 1)))))) q=some (.lst (ba.map iV)):=by rw[aq b5];exact aL
     refine⟨_,rfl,.inl ⟨rfl,_,SqL.of bU⟩,_,rfl,q,_,_,rfl,rfl,bU,av (by rw[GY];omega),?_⟩
     refine⟨G,an++[oth e x],ba++[oth e x],_,_,_,rfl,aH (aH s6 hd _) aS _,?_,?_,be.new aI om,HL _ b6,?_⟩
     .rw[aq (Ne.symm b5),ag,ck]
     .rw[ag,Hm];rfl
     .simp only[GZ,Hd]at ce ⊢;have:=AS (Ht.mpr ⟨be.nd,(by simp),λa ha b L z=>aI (by rw[← Hi.mp L,← z];exact ha)⟩:(an++[oth e x]).Nodup) (m:=m) (λy hy=>(Hc.mp hy).elim (be.lt y) λz=>by rw[Hi.mp z];exact om)
      rw[GZ,Hd]at this;omega
  .rintro M H6 ⟨Pl,an,ba,v5,v6,v7,rfl,s6,bS,aL,be,b6,ce⟩;exact⟨Pl,an,ba,_,_,_,_,ce,rfl,s6,bS,aL,be⟩
 .have e0:wl=[]:=by
   cases wl with
   |nil=>rfl
   |cons a b=>exact Nr (by rw[LQ (by simp)];rfl) c
  subst e0;refine⟨_,rfl,d,_,rfl,cs,λo=>?_⟩;have cQ:=AS mt.nd mt.lt;refine zk (kvs:=kvS Pl ps) (d:=d) (o:=o) (λi ys H5=>H5=upd H4 d (.frz o (.dK (kvS Pl ps)))/\ys=((ps.take i).filter Pl).map iV) (Hs (av (by unfold kvS;rw[GY];omega))) ⟨rfl,rfl⟩ (λi ys H5 _ z=>by rw[z.1];exact ag) ?_ ?_ ?_
  .rintro i ky y ys H5 cx ⟨rfl,rfl⟩;unfold kvS at cx;rw[G7]at cx;obtain⟨x,O,e2⟩:=Ho.mp cx
   cases e2
   have et:ps.take (i+1)=ps.take i++[x]:=by rw[Hz,O];rfl
   refine⟨rfl,_,rfl,_,rfl,d,_,rfl,.inl ⟨_,.inl (x:Int),.inr ⟨o,ag⟩,rfl,(tE mt.nd (GW O)).symm⟩,rfl,_,rfl,?_⟩
   cases aW:Pl x with
   |true =>
    refine iteT ⟨_,rfl,rfl,?_⟩;rw[et,Kj,Hm,Kx aW];rfl
   |false =>
    refine iteF ⟨rfl,?_⟩;rw[et,Kj,Hm,Ky (by rw[aW];exact Hj)]
    simp
  .rintro ys H5 ⟨rfl,rfl⟩ D hD;have el:(kvS Pl ps).length=ps.length:=by unfold kvS;rw[GY]
   rw[el,HD];refine⟨D,ps.filter Pl,rfl,SqL.of ag,λx O=>?_,?_⟩
   .have:=mt.lt x (Jl.mp O).1
    omega
   .have sF:Same H1 (upd (upd H4 d (.frz o (.dK (kvS Pl ps)))) D (.lst (((ps.filter Pl)).map iV))):=(aH cp hd _).trans (ak hD _)
    exact kk _ _ (s1.trans sF) (Ji _ λx O=>by rw[tj x _ _ rfl];exact LQ λz=>by have:=mt.lt x (Jl.mp z).1;omega)
  .rintro i ys H5 ⟨_,rfl⟩;rw[GY];exact Ig (Jy _ _) (by rw[HY];exact Nat.min_le_left _ _)
open KF (ku)
theorem qC(ok:KF.Lok n ls)(C:KF.Conn n ls){u:Nat}{cost:Int}(D:KF.Opt (KF.farD ls) (KF.bl mk) cost)(e:KF.oddE ls u ls.length=mk):cost<=KF.cstU ls u ls.length:=by
 have j:∀ l∈ls,0<=l.2.2:=λl G=>(ok.w0 l G).1;obtain⟨_,c,J,Y⟩:=KF.low_join (KF.far_met j C) u (λl G=>⟨(ok.sm l G).1,(ok.sm l G).2,KF.far_link j G⟩) ls.length (G0 _);rw[e]at J;have:=D.2 c J;omega
structure Jn(ls:List KF.Lk)(mk:Nat)(c:Int):Prop where
 ex:∃ u,KF.oddE ls u ls.length=mk/\KF.cstU ls u ls.length<=c
 lo:∀ u,KF.oddE ls u ls.length=mk->c<=KF.cstU ls u ls.length
theorem Jn.one{c c':Int}(h:Jn ls mk c)(h':Jn ls mk c'):c=c':=by
 obtain⟨u,a,b⟩:=h.ex;obtain⟨y,d,i⟩:=h'.ex;have:=h.lo y d;have:=h'.lo u a;omega
def skp(t j:Nat):Nat:=if j<t then j else j+1
theorem xh{u:Nat}(h:u<=j):u.testBit j=false:=Jv (Hv Nat.lt_two_pow_self (HR (by decide) h))
theorem ins_dn(t u:Nat):Ins t u (MK (λj=>u.testBit (skp t j)) (u+1)) where
 lo j hj:=by
  rw[cF];show(decide (j<u+1)&&u.testBit (if j<t then j else j+1))=_;rw[Np hj];by_cases c:j<u+1
  .rw[MB c,IJ]
  .rw[LQ c,xh ∅];rfl
 hi j hj:=by
  rw[cF];show(decide (j<u+1)&&u.testBit (if j<t then j else j+1))=_;rw[Nq ∅]
  by_cases c:j<u+1
  .rw[MB c,IJ]
  .rw[LQ c,xh ∅];rfl
theorem ES(t y:Nat)(b:Bool):∃ u,Ins t u y/\u.testBit t=b:=by
 have B:∀ i,(MK (λi=>if i<t then y.testBit i else if i=t then b else y.testBit (i-1)) (y+t+2)).testBit i=if i<t then y.testBit i else if i=t then b else y.testBit (i-1):=λi=>by
  rw[cF];by_cases c:i<y+t+2
  .rw[MB c,IJ]
  .rw[LQ c,Nq ∅,Nq ∅,xh ∅];rfl
 refine⟨MK (λi=>if i<t then y.testBit i else if i=t then b else y.testBit (i-1)) (y+t+2),⟨λj N=>?_,λj N=>?_⟩,?_⟩
 .rw[B,Np N]
 .rw[B,Nq ∅,Nq ∅,Kh]
 .rw[B,Nq (Ia _),Np rfl]
theorem my{a b c:Nat}(h:a=b^^^c):b=a^^^c:=by rw[h,HQ,Jf,IS]
theorem A9{t T:Nat}{a b:Int}(d:t<ls.length)(G:Jn (ls.eraseIdx t) T a)(L:Jn (ls.eraseIdx t) (T^^^KF.endX (KF.lkA ls t)) b):Jn ls T (min a (b+(KF.lkA ls t).2.2)) where
 ex:=by
  by_cases c:a<=b+(KF.lkA ls t).2.2
  .obtain⟨y,J,Y⟩:=G.ex;obtain⟨u,g,L⟩:=ES t y false;obtain⟨N,v⟩:=g.all rfl d;rw[L,Nq Hj]at N v;exact⟨u,by rw[N,J,IS],∅⟩
  .obtain⟨y,J,Y⟩:=L.ex;obtain⟨u,g,L⟩:=ES t y true;obtain⟨N,v⟩:=g.all rfl d;rw[L,Np rfl]at N v;exact⟨u,by rw[N,J,HQ,Jf,IS],∅⟩
 lo u g:=by
  obtain⟨N,v⟩:=(ins_dn t u).all (ls:=ls) rfl d;rw[g]at N;by_cases c:u.testBit t=true
  .rw[Np c]at N v;have:=L.lo _ (my N);omega
  .rw[Nq c,IS]at N;rw[Nq c]at v;have:=G.lo _ N.symm;omega
theorem ET{t:Nat}(T:t<N)(S:Nat->Bool):Ins t (MK S N) (MK (λj=>S (skp t j)) (N-1)) where
 lo j hj:=by
  rw[cF,cF];show(decide (j<N-1)&&S (if j<t then j else j+1))=_;rw[Np hj,MB (show j<N-1 by omega),MB (show j<N by omega)]
 hi j hj:=by
  rw[cF,cF];show(decide (j<N-1)&&S (if j<t then j else j+1))=_;rw[Nq ∅]
  congr 1;exact decide_eq_decide.mpr ∅
def TP(ks:Kn)(N:Nat)(ls:List KF.Lk)(t:Nat):Nat:=KF.oddE ls (MK (aK ks) N) N^^^(if aK ks t=true then KF.endX (KF.lkA ls t) else 0)
theorem tp_er{ks:Kn}{t:Nat}(k:ls.length=N)(T:t<N):TP ks N ls t=KF.oddE (ls.eraseIdx t) (MK (λj=>aK ks (skp t j)) (N-1)) (ls.eraseIdx t).length:=by
 obtain⟨M,_⟩:=(ET T (aK ks)).all (ls:=ls) k T;rw[cF,MB T,IJ]at M;exact(my M).symm
theorem kj{ks:Kn}{t:Nat}{k:Int×Int}(h:i≠t):aK (ks.set t k) i=aK ks i:=by unfold aK;rw[JC (λz=>h z.symm)]
section
variable{m:Nat}{es:En}{ts rs:List (List Nat)}{ks:Kn}{ls:List KF.Lk}
theorem Oth.er{b:List KF.Lk}{t:Nat}{k:Int×Int}(O:Oth m es ts ks rs ls)(B:Oth m es ts (ks.set t k) rs b)(T:t<es.length):b.eraseIdx t=ls.eraseIdx t/\KF.endX (KF.lkA b t)=KF.endX (KF.lkA ls t)/\TP (ks.set t k) es.length b t=TP ks es.length ls t/\(KF.lkA b t).2.2=k.2:=by
 have sm:∀(i:Nat)(l A:KF.Lk),ls[i]?=some l->b[i]?=some A->A.1=l.1/\A.2.1=l.2.1:=λi l A h p=>by
  obtain⟨⟨r,a,f⟩,⟨s,b1,b2⟩⟩:=O.d.sd i l h;obtain⟨⟨C,c1,c2⟩,⟨q,d1,d2⟩⟩:=B.d.sd i A p;exact⟨jP O.d.nd c1 a c2 f,jP O.d.nd d1 b1 d2 b2⟩
 have D:=O.d.ln;have n:=B.d.ln;obtain⟨l,G⟩:∃ l,ls[t]?=some l:=⟨_,GU ∅⟩
 obtain⟨A,g⟩:∃ l,b[t]?=some l:=⟨_,GU ∅⟩
 have e:b=ls.set t A:=Kv λi=>by
  by_cases c:i<es.length
  .obtain⟨x,o⟩:∃ l,ls[i]?=some l:=⟨_,GU ∅⟩
   obtain⟨y,Q⟩:∃ l,b[i]?=some l:=⟨_,GU ∅⟩
   by_cases z:i=t
   .subst z;rw[g,Iv ∅]
   .rw[JC (λu=>z u.symm),o,Q];obtain⟨v,J⟩:=sm i x y o Q;obtain⟨M,a,f,_⟩:=O.ws i x o;obtain⟨I,b1,b2,_⟩:=B.ws i y Q;rw[JC (λu=>z u.symm),a]at b1
    cases b1
    have:y=x:=Prod.ext v (Prod.ext J (b2.trans f.symm));rw[this]
  .rw[Iy ∅,Iy (by rw[HG];omega)]
 obtain⟨v,J⟩:=sm t l A G g;have er:b.eraseIdx t=ls.eraseIdx t:=by rw[e,List.eraseIdx_set_eq]
 refine⟨er,?_,?_,?_⟩
 .rw[KF.lkA_is G,KF.lkA_is g];unfold KF.endX;rw[v,J]
 .rw[tp_er n T,tp_er D T,er];congr 1;refine GO λj _=>kj ?_;unfold skp;split<;>omega
 .rw[KF.lkA_is g];obtain⟨I,b1,b2,_⟩:=B.ws t A g;rw[Iv (by rw[O.kl];exact T)]at b1
  cases b1
  exact b2
theorem pG(t:Nat):KF.oddE ls (MK (aK ks) es.length) es.length=TP ks es.length ls t^^^(if aK ks t=true then KF.endX (KF.lkA ls t) else 0):=by
 unfold TP;rw[HQ,Jf,IS]
def wor(es:En)(ks:Kn)(L:Nat):Int:=(prL ks (UB es ks L) es.length).sum
theorem EX{ks:Kn}{ls:List KF.Lk}{S:Nat->Bool}{N:Nat}(h:∀ i,i<N->(KF.lkA ls i).2.2=stg ks i):∀ i,i<=N->KF.cstU ls (MK S N) i=(prL ks S i).sum
 |0,_=>rfl
 |i+1,I=>by
  rw[qi,Ka,← EX h i ∅]
  show(if(MK S N).testBit i=true then KF.cstU ls (MK S N) i+(KF.lkA ls i).2.2 else KF.cstU ls (MK S N) i)=_;rw[cF,MB (show i<N by omega),IJ,h i ∅,IX,List.sum_nil]
  split<;>omega
theorem Oth.none{t:Nat}{h p1:Int}(O:Oth m es ts ks rs ls)(T:t<es.length)(o:Jn (ls.eraseIdx t) (TP ks es.length ls t) h)(J:Jn (ls.eraseIdx t) (TP ks es.length ls t^^^KF.endX (KF.lkA ls t)) p1)(L:Nat):(if(UB es ks L t ^^ aK ks t)=true then p1 else h)<=wor es ks L-(if UB es ks L t=true then stg ks t else 0):=by
 have D:=O.d.ln;have st:∀ i,i<es.length->(KF.lkA ls i).2.2=stg ks i:=λi I=>by
  obtain⟨l,G⟩:∃ l,ls[i]?=some l:=⟨_,GU ∅⟩
  obtain⟨k,J,Y,_⟩:=O.ws i l G;rw[KF.lkA_is G,Y];unfold stg;rw[J]
 obtain⟨N,v⟩:=(ET T (UB es ks L)).all (ls:=ls) D T;rw[cF,MB T,IJ]at N v;rw[O.lay L,pG t]at N;rw[EX st _ (G0 _),st t T]at v;have N:=my N;unfold wor
 cases a:UB es ks L t<;>cases b:aK ks t<;>rw[a,b]at N<;>rw[a]at v
 .have:=o.lo _ (by rw[N];simp)
  simp at v ⊢;omega
 .have:=J.lo _ (by rw[N];simp)
  simp at v ⊢;omega
 .have:=J.lo _ (by rw[N];simp)
  simp at v ⊢;omega
 .have:=o.lo _ (by rw[N];simp[HQ])
  simp at v ⊢;omega
end
inductive xA(PL PS WC:Addr)(vs:List L2.V)(H:L2.Hp)(Q:L2.VK)(x3_:L2.XK):Prop
 |mk (p:Addr)(es:En)(ks:Kn)(rs:List (List Nat)) (h0_:vs=[.ref p])(h1_:WebR PL PS WC H p es ks rs)(h2_:ks.length=es.length)(h3_:es.length<=30)(h4_:rs.length<=32)(h5_:(∀ r∈rs,r.length<=900))(h6_:rgh ks es.length rs<=12)(h7_:∀ H',Same H H'->Q (.int ((MK (oddU (MK (aK ks) es.length) rs) rs.length:Nat):Int)) H')
theorem AN{PS:Addr}{d1 d2:FuncData}(F:Fun K "marks_of" "marks_of" iM f fd)(T:TxtO mg q)(e:Cal P w K mg base 3 "odd_rounds" ["web"] (zY PL PS I) a d1)(x:Cal P w K mg base 2 "ones" ["mask"] KF.spOnes C d2):FnOk P w K mg base CX0 4 f fd ["web"] (xA PL PS I):=by
 refine F.ok fP (by walk_at "l") λM A u s H m Q E N h=>?_
 obtain⟨p,B,r,v,rfl,t,d,n,o,g,b,y⟩:=h
 refine⟨_,(ah (aB 1 fP.nd (e.c N (af (pv 0) aj)))
   (ah (bP (aD vh (x.c N (af (pv 1) aj)) (ku rfl T.modd) (aG _)) (ao b9) aO)
   (ao (aF (pv 1))))),?_⟩
 refine⟨_,rfl,p,B,r,v,rfl,t,d,n,∅,g,λY j=>?_⟩
 have k:=λL (J:Same Y L)=>y L (j.trans J);have lt:MK (oddU (MK (aK r) B.length) v) v.length<2^v.length:=Ji _ λi l=>by rw[cF,LQ ∅,JE]
 unfold rgh at b;generalize MK (oddU (MK (aK r) B.length) v) v.length=mk at lt k b ⊢;refine⟨_,rfl,mk,rfl,Hv lt (HR (by decide) ∅),λL J=>?_⟩
 refine⟨_,_,rfl,rfl,_,rfl,ite2 (λz=>Nr (Nf z) ∅) (λ_=>?_)⟩
 exact⟨_,rfl,k _ J⟩
theorem bw.smT(h:bw H xs ts)(s:KF.SmT H H'):bw H' xs ts:=⟨h.1,λi l e=>by
 obtain⟨p,a,b⟩:=h.2 i l e
 exact⟨p,a,s.lst b⟩⟩
theorem jV.smT{PS:Addr}{ks:Kn}(h:jV PL PS H xs es ks)(s:KF.SmT H H'):jV PL PS H' xs es ks:=⟨h.1,λi e k J Y=>by
 obtain⟨p,j,a,b⟩:=h.2 i e k J Y
 exact⟨p,j,a,s _ _ (λG y=>by cases y) b⟩⟩
theorem WebR.smT{PL PS k p:Addr}{H H':Hp}{es:En}{ks:Kn}{rs:List (List Nat)}(h:WebR PL PS k H p es ks rs)(s:KF.SmT H H'):WebR PL PS k H' p es ks rs:=by
 obtain⟨j,fs,E,D,l,i,a,b,c,d,e,f,g⟩:=h;exact⟨j,fs,E,D,l,i,s _ _ (λG y=>by cases y) a,b,s.lst c,d.smT s,e,s.lst f,g.smT s⟩
theorem WebT.smT{PL PS k p:Addr}{H H':Hp}{m:Nat}{es:En}{ts:List (List Nat)}{ks:Kn}(h:WebT PL PS k H p m es ts ks)(s:KF.SmT H H'):WebT PL PS k H' p m es ts ks:=by
 obtain⟨j,fs,E,D,O,r,a,b,c,d,e,f,g,i⟩:=h;exact⟨j,fs,E,D,O,r,s _ _ (λG y=>by cases y) a,b,c,s.lst d,e.smT s,f,s.lst g,i.smT s⟩
structure WebL(TT PL PS WC:Addr)(H:Hp)(p m:Nat)(es:En)(ts rs:List (List Nat))(ks:Kn):Prop where
 wf:∃ S,WebF S PL PS WC H p m es ts rs ks
 g:Gr m es ts
 kl:ks.length=es.length
 kin:∀ k∈ks,k.1=0∨k.1=1
 kb:∀ k∈ks,0<=k.2/\k.2<=10^(30:Int).toNat
 few:es.length<=16
 e0:0<es.length
 tb:Tb KF.lqF KF.lpF TT H
inductive uI(TT PL PS WC:Addr)(vs:List L2.V)(H:L2.Hp)(Q:L2.VK)(x3_:L2.XK):Prop
 |mk (p:Addr)(m:Nat)(es:En)(ts rs:List (List Nat))(ks:Kn) (h0_:vs=[.ref p])(h1_:WebL TT PL PS WC H p m es ts rs ks)(h2_:rgh ks es.length rs<=12)(h3_:∀(t:Addr)(c:Int)(v1 v2:V)(ls:List KF.Lk)(H':Hp),KF.SmT H H'->Tb KF.lqF KF.lpF TT H'->H' t=some (.tup [.int c,v1,v2])->Oth m es ts ks rs ls->Jn ls (KF.oddE ls (MK (aK ks) es.length) es.length) c->Q (.ref t) H')
theorem j7:az ["web","marks","many","links","found"] ["web"] (ar uS):=by ac_nf
theorem Dg{TT f3 f4 f5 PS WC:Addr}{d1 d2 d5:FuncData}(F:Fun K "least" "least" uS f fd)(T:TxtO mg a)(cw:CW K WC)(ae:Cal P w K mg base 4 "marks_of" ["web"] (xA PL PS WC) C d1)(aL:Cal P w K mg base 1 "links_of" ["web"] (uH PL PS WC) I d2)(aS:Cal P w K mg base 11 "paired" ["many","links","marks"] (KF.spPaired TT) f3 G)(a3:Cal P w K mg base 4 "laying_of" ["web","ties"] (spLO PL PS WC) f4 Y)(bd:Cal P w K mg base 12 "hills" ["many","links","marks"] (KF.spHills TT) f5 d5):FnOk P w K mg base CX0 13 f fd ["web"] (uI TT PL PS WC):=by
 refine F.ok j7 (by walk_at "l") λaa A e s H vs Q E N h=>?_
 obtain⟨p,m,D,ts,rs,ks,rfl,wl,rg,kk⟩:=h;obtain⟨⟨S,wf⟩,g,kl,aT,kb,ab,e0,tb⟩:=wl;obtain⟨dx,fs,q1,x,b,wg,_,l2,ap,tk⟩:=id wf;obtain⟨q5,z5,l5,am,r5⟩:=wg.rounds;obtain⟨q6,z6,l6,an,r6⟩:=wg.sides;have ro:=wg.part;have cnt:=jA g ro;have m2:=g.two e0;have bR:rs.length<=20:=by omega
 have be:1<=rs.length:=by
  obtain⟨r,al,_⟩:=HN.mp (ro.all 0 ∅)
  have:=Iu al;omega
 have a7:∀ r∈rs,r.length<=900:=λr N=>by
  have:=cV (ro.ring r N).nd (ro.ring r N).lt;omega
 have bv:z5.length=rs.length:=r5.1
 refine⟨_,(ah (aB 1 j7.nd (ae.c N (af (pv 0) aj)))
   (ah (aB 2 j7.nd (aC ax (by rfl) T.n_len a9 (af (bo (pv 0) rfl) aj)))
   (ah (aB 3 j7.nd (aL.c N (af (pv 0) aj)))
   (ah (aB 4 j7.nd (aS.c N (af (pv 2) (af (pv 3) (af (pv 1) aj)))))
   (ao (aF (bJ (af (aJ (pv 4) ai) (af (a3.c N (af (pv 0) (af (aJ (pv 4) ai) aj))) (af (bd.c N (af (pv 2) (af (pv 3) (af (pv 1) aj)))) aj)))))))))),?_⟩
 refine⟨_,rfl,p,D,ks,rs,rfl,wf.r,kl,∅,∅,a7,rg,λH1 v=>?_⟩
 refine⟨_,rfl,p,WC,dx,fs,_,rfl,v _ _ b,cw.cl,cw.n4,l5,q5,z5,rfl,.inl (SqL.of (v _ _ am)),?_⟩;rw[bv];refine⟨_,rfl,p,D,ks,rs,rfl,⟨dx,fs,q1,x,q6,z6,v _ _ b,l2,v _ _ ap,tk.mono v,l6,v _ _ an,r6.mono v⟩,kl,∅,λq zs o s2 nq hq lk=>?_⟩
 obtain⟨ls,bi,ln,lp⟩:=EI lk
 have O:Oth m D ts ks rs ls:=⟨g,ro,⟨ro.nd,ro.all,λr N=>(ro.ring r N).lt,λr N=>(ro.ring r N).nd,ln,λi l M=>(lp i l M).1⟩,kl,λi l M=>by
  obtain⟨k,J,B⟩:=(lp i l M).2
  exact⟨k,J,B,kb k (GW J)⟩,m2,ab⟩
 have bm:=O.d.marks (MK (aK ks) D.length);have ac:=v.trans s2;have bb:=KF.tb_same tb ac;have ba:=O.lok1 ∅
 have conn:=O.d.conn1 O.g rfl O.cr;obtain⟨y,e2⟩:=O.even1 ∅
 unfold rgh at rg;rw[bm]at rg;rw[bm];have bS:KF.LnAt o (.ref q) ls:=⟨q,zs,rfl,hq,bi⟩;refine⟨_,rfl,_,rfl,_,rfl,.ref q,rs.length,_,ls,rfl,bS,ba,be,conn,y,e2,∅,bb,λr4 c4 u4 H4 aW aI a0 bU bn bB bE=>?_⟩
 have jn:Jn ls (KF.oddE ls (MK (aK ks) D.length) D.length) c4:=⟨⟨u4,bn,bE⟩,λu z=>qC ba conn bB z⟩;have a6:=(KF.SmT.of ac).trans aW;have ev:GQ rs u4 (MK (aK ks) D.length):=λk r j=>by
  have a1:=O.d.oddN u4 j;have a2:=O.d.oddN (MK (aK ks) D.length) j;rw[ln]at bn;rw[bn,a2,xP,xP]at a1;have:=decide_eq_decide.mp a1;unfold parR at this ⊢;omega
 refine⟨_,rfl,r4,_,0,_,rfl,rfl,SqT.of a0,at0,_,rfl,_,rfl,r4,_,1,_,rfl,rfl,SqT.of a0,at1,p,u4,m,D,ts,ks,rs,rfl,wf.t.smT a6,wf.r.smT a6,g,ro,kl,∅,∅,∅,aT,ev,λL H5 s5 ly=>?_⟩
 have a4:=KF.tb_same aI s5;have bp:=aW.trans (KF.SmT.of s5);refine⟨_,rfl,_,rfl,_,rfl,.ref q,rs.length,_,ls,rfl,bS.smT bp,ba,be,conn,y,e2,∅,∅,a4,λq7 H7 bZ a5=>?_⟩
 refine⟨(by show 3<=LR;decide),λt n=>?_⟩
 have st:=ak n (.tup [.int c4,.int (L:Int),q7]);exact kk t c4 _ _ ls _ ((KF.SmT.of ac).trans (bp.trans (bZ.trans (KF.SmT.of st)))) (KF.tb_same a5 st) ag O jn
theorem F2{R:Hp->V->α->Prop}{xs:List α}(h:LsAt R H ys xs)(t:Nat):LsAt R H (ys.eraseIdx t) (xs.eraseIdx t):=by
 refine⟨by rw[KU,KU,h.1],λi x e=>?_⟩
 by_cases c:i<t
 .rw[JW c]at e ⊢;exact h.2 i x e
 .rw[JX ∅]at e ⊢
  exact h.2 (i+1) x e
theorem DJ(mk a b:Nat):(KF.bl (mk^^^2^a^^^2^b)).length<=(KF.bl mk).length+2:=sub_le (b:=a::b::KF.bl mk) (KF.bl_nd _) λx O=>by
 rw[KF.mem_bl,Ie,Ie,HF,HF]at O;by_cases c:a=x
 .rw[c];simp
 by_cases d:b=x
 .rw[d];simp
 rw[LQ c,LQ d,Ju,Ju]at O;exact G4 _ (G4 _ (KF.mem_bl.mpr O))
theorem Oth.lokE{ks:Kn}(O:Oth m es ts ks rs ls)(t:Nat)(T:rs.length<=40):KF.Lok rs.length (ls.eraseIdx t) where
 n1:=T
 l9:=Ig (by rw[KU];split<;>omega) (O.lok1 T).l9
 sm l hl:=(O.lok1 T).sm l (LC hl)
 w0 l hl:=(O.lok1 T).w0 l (LC hl)
def RX(a TT:Addr)(ks:Kn)(es:En)(rs:List (List Nat))(H:Hp)(E:XK):Prop:=12<rgh ks es.length rs->∀ l,Same H l->Tb KF.lqF KF.lpF TT l->E (.ref a) none l
inductive Eu(TR TT PL PS WC:Addr)(vs:List L2.V)(H:L2.Hp)(Q:L2.VK)(E:L2.XK):Prop
 |mk (p:Addr)(t m:Nat)(es:En)(ts rs:List (List Nat))(ks:Kn) (h0_:vs=[.ref p,.int (t:Int)])(h1_:WebL TT PL PS WC H p m es ts rs ks)(h2_:t<es.length)(h3_:RX TR TT ks es rs H E)(h4_:(rgh ks es.length rs<=12 ->
 ∀(r:Addr)(c0 c1:Int)(ls:List KF.Lk)(H':Hp),KF.SmT H H'->Tb KF.lqF KF.lpF TT H'->H' r=some (.tup [.int c0,.int c1])->Oth m es ts ks rs ls->Jn (ls.eraseIdx t) (TP ks es.length ls t) c0->Jn (ls.eraseIdx t) (TP ks es.length ls t^^^KF.endX (KF.lkA ls t)) c1->Q (.ref r) H'))
theorem jg:az ["web","number","marks","many","links","link","pleased","displeased"] ["web","number"] (ar Am):=by ac_nf
theorem FK{TT f1 f2 f3 g0 g1 PS WC:Addr}{d1 d2 e1:FuncData}(F:Fun K "roof" "roof" Am f fd)(T:TxtO mg I)(cw:CW K WC)(TL:CT K PL)(TS:CT K PS)(ae:CalD P w K mg base 4 "marks_of" ["web"] (z8 I PL PS WC) f1 d1)(aS:Cal P w K mg base 1 "links_of" ["web"] (uH PL PS WC) f2 d2)(aT:Cal P w K mg base 11 "paired" ["many","links","marks"] (KF.spPaired TT) f3 G)(u0:Met P w K mg base 1 PL "wish" ["self"] (i6 false) g0 Y)(u1:Met P w K mg base 1 PS "wish" ["self"] (i6 true) g1 e1):FnOk P w K mg base (CXd P w) 12 f fd ["web","number"] (Eu I TT PL PS WC):=by
 refine F.okD jg (by walk_at "l") λaa A o s H vs Q E N h=>?_
 obtain⟨p,t,m,es,ts,rs,ks,rfl,wl,ht,kx,kk⟩:=h;obtain⟨⟨S,wf⟩,g,kl,aW,kb,ab,Y,tb⟩:=wl;have bd:=TL.cl;have be:=TS.cl;obtain⟨dx,fs,q1,xs,j,wg,_,l2,ap,tk⟩:=id wf;obtain⟨q5,z5,l5,am,r5⟩:=wg.rounds;obtain⟨q6,z6,l6,an,r6⟩:=wg.sides;have ro:=wg.part;have cnt:=jA g ro;have m2:=g.two Y;have cb:rs.length<=16:=by omega
 have bi:1<=rs.length:=by
  obtain⟨r,al,_⟩:=HN.mp (ro.all 0 ∅)
  have:=Iu al;omega
 have a7:∀ r∈rs,r.length<=900:=λr N=>by
  have:=cV (ro.ring r N).nd (ro.ring r N).lt;omega
 have bZ:z5.length=rs.length:=r5.1
 refine⟨_,(ah (aB 2 jg.nd (CV ae.ok (N.mono (by decide)) rfl ae.mg ae.kp ae.bn .nil zH rfl (af (pv 0) aj)))
   (ah (aB 3 jg.nd (aC ax (by rfl) T.n_len a9 (af (bo (pv 0) rfl) aj)))
   (ah (aB 4 jg.nd (aS.c N (af (pv 0) aj)))
   (ah (aB 5 jg.nd (cY Hh PySem.F.slot_list_pop PySem.F.type_list_pop Dp (pv 4) (af (pv 1) aj)))
   (ah (aB 6 jg.nd (aJ (aT.c N (af (pv 3) (af (pv 4) (af (pv 2) aj)))) ai))
   (ah (aB 7 jg.nd (aJ (aT.c N (af (pv 3) (af (pv 4) (af (aw dB (aw dB (pv 2) (aw bW ai (aJ (pv 5) ai))) (aw bW ai (aJ (pv 5) ai))) aj)))) ai))
   (ao (aF (gf (aD eB (CP (iP (yB qI (bo (pv 0) rfl) (pv 1) (λ_ _=>rfl)) bd u0.me u0.ok (N.mono (by decide)) u0.bn .nil i3) (iP (yB qI (bo (pv 0) rfl) (pv 1) (λ_ _=>rfl)) be u1.me u1.ok (N.mono (by decide)) u1.bn .nil i3)) ai (aG _)) (bJ (af (pv 6) (af (pv 7) aj))) (bJ (af (pv 7) (af (pv 6) aj)))))))))))),?_⟩
 refine⟨_,rfl,p,es,ks,rs,rfl,wf.r,kl,∅,∅,a7,λz H1 n=>kx z H1 n (KF.tb_same tb n),λrg H1 n=>?_⟩
 have kk:=kk rg;refine⟨_,rfl,p,WC,dx,fs,_,rfl,n _ _ j,cw.cl,cw.n4,l5,q5,z5,rfl,.inl (SqL.of (n _ _ am)),?_⟩;rw[bZ];refine⟨_,rfl,p,es,ks,rs,rfl,⟨dx,fs,q1,xs,q6,z6,n _ _ j,l2,n _ _ ap,tk.mono n,l6,n _ _ an,r6.mono n⟩,kl,∅,λq zs L s2 nq hq lk=>?_⟩
 obtain⟨ls,bm,ln,lp⟩:=EI lk
 have O:Oth m es ts ks rs ls:=⟨g,ro,⟨ro.nd,ro.all,λr N=>(ro.ring r N).lt,λr N=>(ro.ring r N).nd,ln,λi l M=>(lp i l M).1⟩,kl,λi l M=>by
  obtain⟨k,J,B⟩:=(lp i l M).2
  exact⟨k,J,B,kb k (GW J)⟩,m2,ab⟩
 have bp:=O.d.marks (MK (aK ks) es.length);obtain⟨l,M⟩:∃ l,ls[t]?=some l:=⟨_,GU ∅⟩
 obtain⟨y,hy,tt,rfl,a2⟩:=bm.2 t l M;have zl:zs.length=es.length:=by rw[bm.1,ln]
 have bU:=O.d.rooms l (GW M);have qt:tt≠q:=λz=>by rw[z,hq]at a2;cases a2
 refine⟨_,rfl,.inl ⟨rfl,_,SqL.of hq⟩,_,rfl,q,zs,_,t,_,rfl,rfl,hq,∅,∅,(vG (jN (show t<zs.length by omega))).1,hy,?_⟩
 have a4:(upd L q (.lst (zs.eraseIdx t))) q=some (.lst (zs.eraseIdx t)):=ag;have s3:Same H1 (upd L q (.lst (zs.eraseIdx t))):=aH s2 nq _;have b6:KF.LnAt (upd L q (.lst (zs.eraseIdx t))) (.ref q) (ls.eraseIdx t):=⟨q,_,rfl,a4,(F2 bm t).imp λv x ⟨a,b,c⟩=>⟨a,b,by rw[aq (λz=>by rw[z,hq]at c;cases c)];exact c⟩⟩
 have cc:(upd L q (.lst (zs.eraseIdx t))) tt=some (.tup [.int (l.1:Int),.int (l.2.1:Int),.int l.2.2]):=by rw[aq qt];exact a2
 generalize upd L q (.lst (zs.eraseIdx t))=H3 at a4 s3 b6 cc;have ac:=n.trans s3;have a1:=KF.tb_same tb ac;have ba:=O.lokE t ∅
 have conn:=O.d.conn O.g rfl O.cr ht;obtain⟨e1,e2⟩:=O.evenM ∅ (MK (aK ks) es.length)
 obtain⟨e3,e4⟩:=O.evenM ∅ (MK (aK ks) es.length^^^2^t)
 have bS:KF.oddE ls (MK (aK ks) es.length^^^2^t) es.length=KF.oddE ls (MK (aK ks) es.length) es.length^^^2^l.1^^^2^l.2.1:=by
  rw[KF.oddE_xor,KF.oddE_pow,Np ∅,KF.lkA_is M,HQ]
  rfl
 unfold rgh at rg;rw[bp]at rg;rw[bp];have bb:=pG (es:=es) (ks:=ks) (ls:=ls) t;have f3:=DJ (KF.oddE ls (MK (aK ks) es.length) es.length) l.1 l.2.1;rw[bS]at e3 e4;have lx:KF.endX (KF.lkA ls t)=2^l.1^^^2^l.2.1:=by rw[KF.lkA_is M];rfl
 generalize KF.oddE ls (MK (aK ks) es.length) es.length=mk at rg e1 e2 e3 e4 f3 bb;refine⟨_,rfl,_,rfl,_,rfl,.ref q,rs.length,mk,ls.eraseIdx t,rfl,b6,ba,bi,conn,e1,e2,∅,a1,λr4 c4 u4 H4 a0 aL a3 ce bv b0 b5=>?_⟩
 have j4:Jn (ls.eraseIdx t) mk c4:=⟨⟨u4,bv,b5⟩,λu z=>qC ba conn b0 z⟩;refine⟨r4,_,0,_,rfl,rfl,SqT.of a3,at0,?_⟩;have ex:Mo (Mo ((mk:Nat):Int) (1*2^((l.1:Nat):Int).toNat)) (1*2^((l.2.1:Nat):Int).toNat)=((mk^^^2^l.1^^^2^l.2.1:Nat):Int):=by
  rw[KF.shlN,KF.shlN,KF.xorN,KF.xorN]
 have cd:=a0.tup cc;refine⟨_,rfl,_,rfl,_,rfl,_,rfl,tt,_,0,_,rfl,rfl,SqT.of cd,at30,_,_,rfl,rfl,⟨∅,∅,by decide⟩,_,_,rfl,rfl,_,rfl,tt,_,1,_,rfl,rfl,SqT.of cd,at31,_,_,rfl,rfl,⟨∅,∅,by decide⟩,_,_,rfl,rfl,?_⟩
 dsimp only;rw[ex];refine⟨.ref q,rs.length,_,ls.eraseIdx t,rfl,b6.smT a0,ba,bi,conn,e3,e4,∅,aL,λr5 c5 u5 H5 bE a5 cf cn ch ci ck=>?_⟩
 have j5:Jn (ls.eraseIdx t) (mk^^^KF.endX (KF.lkA ls t)) c5:=by
  rw[lx,← HQ];exact⟨⟨u5,ch,ck⟩,λu z=>qC ba conn ci z⟩
 refine⟨r5,_,0,_,rfl,rfl,SqT.of cf,at0,?_⟩;have bB:=a0.trans bE;have ins:∀{b C d:Addr}{fs:List (Str×V)},H b=some (.ins C d fs)->H5 b=some (.ins C d fs):=λz=>bB _ _ (λps y=>by cases y) (ac _ _ z)
 have bR:=bB.lst (ac _ _ ap);obtain⟨e,he⟩:∃ e,es[t]?=some e:=⟨_,GU ht⟩;obtain⟨k,D⟩:∃ k,ks[t]?=some k:=⟨_,GU ∅⟩
 obtain⟨p',aI,x1,x2⟩:=tk.2 t e k he D;have x5:=ins x2;have a6:KF.SmT H H5:=(KF.SmT.of ac).trans bB;have pu:=fy D;by_cases c:k.1=1
 .rw[MB c]at x5 pu;rw[pu,Np rfl]at bb;refine .inr ⟨_,rfl,p,WC,dx,fs,_,rfl,ins j,cw.cl,cw.n2,l2,_,rfl,q1,xs,_,_,rfl,rfl,SqL.of bR,ay x1,p',aI,_,rfl,x5,rV _ _ _ (by decide) (by decide) (by decide),p',rfl,rfl,_,rfl,iteF ⟨_,rfl,_,rfl,(by show 2<=LR;decide),λr6 ca=>?_⟩⟩
  have s6:=ak ca (.tup [.int c5,.int c4]);exact kk r6 c5 c4 ls _ (a6.trans (.of s6)) (KF.tb_same a5 s6) ag O (by rw[my bb];exact j5) (by rw[← bb];exact j4)
 .rw[LQ c]at x5 pu;rw[pu,Nq Hj,IS]at bb;refine .inl ⟨_,rfl,p,WC,dx,fs,_,rfl,ins j,cw.cl,cw.n2,l2,_,rfl,q1,xs,_,_,rfl,rfl,SqL.of bR,ay x1,p',aI,_,rfl,x5,rV _ _ _ (by decide) (by decide) (by decide),p',rfl,rfl,_,rfl,iteT ⟨_,rfl,_,rfl,(by show 2<=LR;decide),λr6 ca=>?_⟩⟩
  have s6:=ak ca (.tup [.int c4,.int c5]);exact kk r6 c4 c5 ls _ (a6.trans (.of s6)) (KF.tb_same a5 s6) ag O (by rw[← bb];exact j4) (by rw[← bb];exact j5)
inductive zR(vs:List L2.V)(H:L2.Hp)(Q:L2.VK)(x3_:L2.XK):Prop
 |mk (t pe pt pk:Addr)(c:Int)(m:Nat)(es:En)(ts:List (List Nat))(ks:Kn) (h0_:vs=[.ref t,.int c])(h1_:dE H t pe pt pk m es ts ks)(h2_:(∀ k∈ks,k.2<=10^(30:Int).toNat))(h3_:∀(t' pk':Addr)(ks':Kn)(H':Hp),Same H H'->dE H' t' pe pt pk' m es ts ks'->(∀ k∈ks',k.2<=10^(30:Int).toNat)->Q (.ref t') H')
theorem tZ(a b:Int):decide (V.int a=V.int b)=decide (a=b):=decide_eq_decide.mpr ⟨V.int.inj,congrArg V.int⟩
inductive Fm(vs:List L2.V)(H:L2.Hp)(Q:L2.VK)(x3_:L2.XK):Prop
 |mk (t pe pt pk:Addr)(m:Nat)(es:En)(ts:List (List Nat))(ks:Kn)(L k:Nat) (h0_:vs=[.ref t,.int (L:Int),.int (k:Int)])(h1_:dE H t pe pt pk m es ts ks)(h2_:k<es.length)(h3_:Q (.bl (UB es ks L k)) H)
inductive spWor(vs:List L2.V)(H:L2.Hp)(Q:L2.VK)(x3_:L2.XK):Prop
 |mk (t pe pt pk:Addr)(m:Nat)(es:En)(ts:List (List Nat))(ks:Kn)(L:Nat) (h0_:vs=[.ref t,.int (L:Int)])(h1_:dE H t pe pt pk m es ts ks)(h2_:∀ H',Same H H'->Q (.int (wor es ks L)) H')
theorem sk:az ["built","cell"] ["built","cell"] (ar jq):=by ac_nf
theorem C4(F:Fun K "_law_small" "_law_small" jq f fd)(T:Txt mg):FnOk P w K mg base CX0 1 f fd ["built","cell"] zR:=by
 refine F.ok sk (by walk_at "l") λM A u s H b Q E N h=>?_
 obtain⟨t,pe,pt,pk,c,m,B,q,r,rfl,bp,kb,y⟩:=h;have n:=bp.few;have v:=bp.kl;obtain⟨J,wp,⟨l,aa,p⟩,_,_⟩:=id bp;have am:l.length=r.length:=p.1
 refine⟨_,(ah (bP (aD i4 (aw bq (pv 1) ai) ai (aG _)) (ao (aF (pv 0))) aO)
   (ao (aF (bJ (af (aJ (pv 0) ai) (af (aJ (pv 0) ai) (af (eI [] ["one"] (aV (aJ (pv 0) ai)) pg_c pt_c (λC G s H=>(bJ (af (oz K (pv 0) ai) (af (aw bq (oz K (pv 0) ai) ai) aj))))) aj))))))),?_⟩
 refine⟨_,rfl,_,_,rfl,rfl,(by show(0:Int)<3;decide),rfl,_,rfl,ite2 (λ_=>?_) (λ_=>?_)⟩
 .exact⟨_,rfl,y t pk r H (λ_ _ z=>z) bp kb⟩
 refine⟨_,rfl,t,_,0,_,rfl,rfl,SqT.of J,at30,_,rfl,t,_,1,_,rfl,rfl,SqT.of J,at31,_,rfl,t,_,2,_,rfl,rfl,SqT.of J,at32,pk,rfl,⟨_,SqL.of aa⟩,bI (K:=K) (xs:=l) (λi j L=>∃ I:Kn,Same H L/\gQ L j I/\I.length=i/\∀ k∈I,k.2<=10^(30:Int).toNat) (Hs (av ∅)) ⟨[],λ_ _ z=>z,⟨rfl,λi k e=>by simp at e⟩,rfl,λk z=>nomatch z⟩ (λi j L _ ⟨_,z,_⟩=>SqL.of (z _ _ aa)) ?_ ?_⟩
 .rintro i x j L O ⟨I,Y,td,an,al⟩;obtain⟨k,d⟩:∃ k,r[i]?=some k:=⟨_,GU (by rw[← am];exact(GV.mp O).1)⟩
  obtain⟨ae,k0,t2,a,g⟩:=p.2 i k d;rw[O]at a
  cases a
  refine⟨_,rfl,t2,_,0,_,rfl,rfl,SqT.of (Y _ _ g),at0,_,rfl,t2,_,1,_,rfl,rfl,SqT.of (Y _ _ g),at1,_,_,rfl,rfl,(by show(0:Int)<4;decide),(by show 2<=LR;decide),λt3 ac=>?_⟩
  have o:=ak ac (.tup [.int k.1,.int (k.2%4)]);refine⟨I++[(k.1,k.2%4)],Y.trans o,(td.mono o).snoc ag ae (by show 0<=k.2%4;omega),by rw[GZ,an];rfl,λx O=>?_⟩
  rcases Hc.mp O with z|z
  .exact al x z
  .rw[Hi.mp z];show k.2%4<=_;have:(4:Int)<=10^(30:Int).toNat:=by decide
   omega
 rintro j L zl ⟨I,Y,td,an,al⟩ D hD;have sD:=ak hD (.lst j);refine⟨(by show 3<=LR;decide),λt4 ap=>?_⟩
 have s4:=ak ap (.tup [.ref pe,.ref pt,.ref D]);have ab:=(Y.trans sD).trans s4;exact y t4 D I _ ab ⟨ag,wp.mono ab,⟨j,s4 _ _ ag,(td.mono sD).mono s4⟩,n,∅⟩ al
theorem j8:az ["built","laying","k","end"] ["built","laying","k"] (ar gZ):=by ac_nf
theorem ok_den(F:Fun K "_law_denied" "_law_denied" gZ f fd):FnOk P w K mg base CX0 1 f fd ["built","laying","k"] Fm:=by
 refine F.ok j8 (by walk_at "l") λM A u s H O Q E N h=>?_
 obtain⟨t,b,pt,j,m,B,o,r,L,k,rfl,J,D,y⟩:=h;have d:=J.kl;obtain⟨T,wp,⟨l,i,Y⟩,_,_⟩:=id J;obtain⟨v,c,C⟩:=wp.en;obtain⟨e,n⟩:∃ e,B[k]?=some e:=⟨_,GU D⟩;obtain⟨kd,ab⟩:∃ kd,r[k]?=some kd:=⟨_,GU ∅⟩
 obtain⟨p,x,I⟩:=C.2 k e n;obtain⟨aa,k0,q,a,g⟩:=Y.2 k kd ab
 refine⟨_,(ah (aB 3 j8.nd (aR (aJ (pv 0) ai) (pv 2)))
   (ao (aF (gn i4 (aw lU (aw dB (aw i9 (pv 1) (aJ (pv 3) ai)) (aw i9 (pv 1) (aJ (pv 3) ai))) ai) (aJ (aR (aJ (pv 0) ai) (pv 2)) ai) (aG _))))),?_⟩
 refine⟨_,rfl,t,_,0,_,rfl,rfl,SqT.of T,at30,_,rfl,b,v,_,_,rfl,rfl,SqL.of c,ay x,?_⟩;refine⟨_,rfl,_,rfl,p,_,0,_,rfl,rfl,SqT.of I,at0,_,_,rfl,rfl,Jw _,_,rfl,_,rfl,p,_,1,_,rfl,rfl,SqT.of I,at1,_,_,rfl,rfl,Jw _,_,_,rfl,rfl,_,_,rfl,rfl,_,rfl,t,_,2,_,rfl,rfl,SqT.of T,at32,_,rfl,j,l,_,_,rfl,rfl,SqL.of i,ay a,q,_,0,_,rfl,rfl,SqT.of g,at0,rfl,?_⟩;have G:(!decide (V.int (Mm (Mo ((L:Int)/2^((e.1:Nat):Int).toNat) ((L:Int)/2^((e.2:Nat):Int).toNat)) 1)=V.int kd.1))=UB B r L k:=by
  rw[zG,Ei n,fy ab];have b1:(L:Int)/2^((e.1:Nat):Int).toNat%2=bit (L:Int) (e.1:Int):=rfl;have b2:(L:Int)/2^((e.2:Nat):Int).toNat%2=bit (L:Int) (e.2:Int):=rfl;rw[b1,b2,bitN,bitN];rcases aa with z|z<;>rw[z]<;>cases L.testBit e.1<;>cases L.testBit e.2<;>decide
 rw[← G]at y;exact y
theorem sj:az ["built","laying"] ["built","laying"] (ar jo):=by ac_nf
theorem ok_wor{d1:FuncData}(F:Fun K "_law_worth" "_law_worth" jo f fd)(T:Txt mg)(ac:Cal P w K mg base 1 "_law_denied" ["built","laying","k"] Fm a d1):FnOk P w K mg base CX0 2 f fd ["built","laying"] spWor:=by
 refine F.ok sj (by walk_at "l") λM A u s H O Q E N h=>?_
 obtain⟨t,pe,pt,pk,m,B,q,r,L,rfl,bp,n⟩:=h;have b:=bp.few;have kl:=bp.kl;obtain⟨d,wp,⟨x,ae,Y⟩,_,_⟩:=id bp;obtain⟨v,aa,hE⟩:=wp.en;have yl:v.length=B.length:=hE.1;refine⟨_,(ao (aF (aC (rJ rfl) (by rfl) T.n_sum Cb (af (eI [("laying",1),("built",0)] ["k"] (aP rfl T.n_range (af (aC ax (by rfl) T.n_len a9 (af (aJ (pv 0) ai) aj)) aj)) pg_c (λC p s H=>(qg (oQ (ac.c N (af (pv 2) (af (pv 1) (af (pv 0) aj))))))) (λC p s H=>(oz K (sO K (oz K (pv 2) ai) (pv 0)) ai))) aj)))),?_⟩
 refine⟨_,rfl,t,_,0,_,rfl,rfl,SqT.of d,at30,pe,v,rfl,.inl (SqL.of aa),_,rfl,∅,∅,jS (k:=(v.length:Int).toNat) (λi j o=>o=H/\∃ z:List Int,j=z.map V.int/\z.sum=(prL r (UB B r L) i).sum/\z.length<=i) (Hs (av ∅)) ⟨rfl,[],rfl,rfl,HI _⟩ ?_ ?_ (λi j o ab=>by obtain⟨_,z,e,_,l⟩:=ab;rw[e,GY];exact l)⟩
 .rintro i j o I ⟨rfl,z,rfl,y,G⟩;rw[G8,yl]at I;have e0:(0:Int)+(i:Int)=(i:Int):=Ir _;rw[e0];obtain⟨kd,am⟩:∃ kd,r[i]?=some kd:=⟨_,GU ∅⟩
  obtain⟨al,k0,t2,J,g⟩:=Y.2 i kd am;have sg:stg r i=kd.2:=by unfold stg;rw[am]
  refine⟨rfl,_,rfl,_,rfl,_,rfl,t,pe,pt,pk,m,B,q,r,L,i,rfl,bp,I,_,rfl,?_⟩
  cases hU:UB B r L i with
  |true =>
   refine iteT ⟨_,rfl,t,_,2,_,rfl,rfl,SqT.of d,at32,_,rfl,pk,x,_,_,rfl,rfl,SqL.of ae,ay J,t2,_,1,_,rfl,rfl,SqT.of g,at1,rfl,z++[kd.2],by rw[Hm];rfl,?_,by rw[GZ];exact Nat.succ_le_succ G⟩
   rw[qi,Ka,Ka,y,hU,Np rfl,sg]
  |false =>
   refine iteF ⟨rfl,z,rfl,?_,∅⟩
   rw[qi,Ka,y,hU,Nq Hj];simp
 rintro j o ⟨rfl,z,rfl,y,_⟩ D hD;rw[G8,yl]at y;refine⟨D,z,rfl,SqL.of ag,?_⟩;rw[y];exact n _ (ak hD _)
def WI(kvs:List (Key×V))(rs:List (List Nat)):Prop:=(∀(d a:Nat)(r:List Nat),rs[a]?=some r->d∈r->valV kvs (Sum.inl (d:Int))=some (.int (a:Int)))/\∀ d:Nat,d∉rs.flatten->valV kvs (Sum.inl (d:Int))=none
def SdAt(H:Hp)(zs:List V)(N:Nat)(rs:List (List Nat))(e:List (Nat×Nat)):Prop:=e.length=N/\bX H zs e/\∀(i:Nat)(x:Nat×Nat),e[i]?=some x->(∃ r,rs[x.1]?=some r/\2*i∈r)/\∃ r,rs[x.2]?=some r/\2*i+1∈r
inductive spSd(vs:List L2.V)(H:L2.Hp)(Q:L2.VK)(x3_:L2.XK):Prop
 |mk (t pe pt pk:Addr)(m:Nat)(es:En)(ts:List (List Nat))(ks:Kn)(rs:List (List Nat)) (h0_:vs=[.ref t])(h1_:dE H t pe pt pk m es ts ks)(h2_:a8 (fol es ts) (2*es.length) (2*es.length) rs)(h3_:∀(q:Addr)(zs:List V)(sd:List (Nat×Nat))(H':Hp),Same H H'->H q=none->H' q=some (.lst zs)->SdAt H' zs es.length rs sd->Q (.ref q) H')
theorem cq:az ["built","where","many","dart","each"] ["built"] (ar jr):=by ac_nf
theorem ok_sd{d1:FuncData}(F:Fun K "_law_sides" "_law_sides" jr f fd)(T:Txt mg)(aI:Cal P w K mg base 3 "_law_round" ["ends","turns","dart"] (pK K) p d1):FnOk P w K mg base CX0 4 f fd ["built"] spSd:=by
 refine F.ok cq (by walk_at "l") λaa A u s H vs Q E N h=>?_
 obtain⟨t,pe,pt,pk,m,B,ts,ks,a7,rfl,bp,bb,kk⟩:=h;have hu:=qM N;have ab:=bp.few;obtain⟨v,wp,_,_,_⟩:=id bp;obtain⟨l,am,hE⟩:=wp.en;obtain⟨xs,ap,hX⟩:=wp.tu;have tw:=wp.g.w;have pm:=perm tw;have yl:l.length=B.length:=hE.1
 refine⟨_,(ah (aB 1 cq.nd kA)
   (ah (aB 2 cq.nd ai)
   (ah (bz PassesOwn.never rfl (aP rfl T.n_range (af (aw cM ai (aC ax (by rfl) T.n_len a9 (af (aJ (pv 0) ai) aj))) aj)) (bY 3 cq.nd) (ao (bP (xK (kC hu (pv 3) (pv 1))) (ah (bz PassesOwn.never rfl (aV (aI.c N (af (aJ (pv 0) ai) (af (aJ (pv 0) ai) (af (pv 3) aj))))) (bY 4 cq.nd) (ao (jC hu (pv 1) (pv 4) (pv 2) rfl)))
   (ao (ps_aug (i:=2) cq.nd rfl (Or.inl rfl) ai ip_add))) aO)))
   (ao (aF (eI [("where",1)] ["k"] (aP rfl T.n_range (af (aC ax (by rfl) T.n_len a9 (af (aJ (pv 0) ai) aj)) aj)) pg_c pt_c (λC ex s H=>(bJ (af (gm hu (pv 1) (aw cM ai (pv 0)) (λ_ _=>rfl)) (af (gm hu (pv 1) (aw bL (aw cM ai (pv 0)) ai) (λ_ _=>rfl)) aj)))))))))),?_⟩
 refine λd hd=>?_;have sd:=ak hd (.dK []);have hN:(2*(l.length:Int)).toNat=2*B.length:=by omega
 refine⟨_,rfl,t,_,0,_,rfl,rfl,SqT.of (sd _ _ v),at30,pe,l,rfl,.inl (SqL.of (sd _ _ am)),_,_,rfl,rfl,.inl ⟨by decide,by decide⟩,_,rfl,∅,∅,b8 (n:=(2*(l.length:Int)).toNat) (λi M o=>∃ v3 v4 rs G,M=[some (.ref t),some (.ref d),some (.int ((rs.length:Nat):Int)),v3,v4]/\Same H o/\o d=some (.dK G)/\G.length<=rs.flatten.length/\WI G rs/\a8 (fol B ts) (2*B.length) i rs)
  ⟨_,_,[],[],rfl,sd,ag,G0 _,⟨λd a r e=>by simp at e,λd _=>rfl⟩,oP _ _⟩ ?_ ?_⟩
 .rintro i M o I ⟨v3,v4,rs,G,rfl,s2,aS,kl,wi,ro⟩;rw[hN]at I;have e0:(0:Int)+(i:Int)=(i:Int):=Ir _;rw[e0];have fl:=mR ro;refine⟨_,rfl,_,rfl,_,_,rfl,DGet.k (k:=Sum.inl (i:Int)) aS,_,rfl,?_⟩;refine ite2 (λc=>?_) (λc=>?_)
  .have a2:i∉rs.flatten:=λz=>by
    obtain⟨r,J,Y⟩:=HN.mp z;obtain⟨a,ha⟩:=IW J;rw[wi.1 i a r ha Y]at c
    cases c
   refine⟨_,rfl,t,_,0,_,rfl,rfl,SqT.of (s2 _ _ v),at30,_,rfl,t,_,1,_,rfl,rfl,SqT.of (s2 _ _ v),at31,_,rfl,pe,pt,l,xs,m,B,ts,i,rfl,SqL.of (s2 _ _ am),hE.mono s2,SqL.of (s2 _ _ ap),hX.mono s2,tw,∅,I,λq r H3 s3 hq a0 pa ri=>?_⟩
   have aT:=s2.trans s3;have rl:r.length<=2*B.length:=cV ri.nd ri.lt;have a1:q≠d:=λz=>by rw[z,aS]at hq;cases hq
   refine⟨q,rfl,⟨_,SqL.of a0⟩,bM (K:=K) (xs:=r.map iV) (λj M H5=>∃ v4 ac,M=[some (.ref t),some (.ref d),some (.int ((rs.length:Nat):Int)),some (.int (i:Int)),v4]/\Same H H5/\H5 q=some (.lst (r.map iV))/\H5 d=some (.dK ac)/\ac.length<=rs.flatten.length+j/\∀ x:Nat,valV ac (Sum.inl (x:Int))=if x∈r.take j then some (.int ((rs.length:Nat):Int)) else valV G (Sum.inl (x:Int)))
    ⟨_,G,rfl,aT,a0,s3 _ _ aS,kl,λx=>by rw[KY,Nq Jq]⟩ (λj M H5 _ an=>by obtain⟨_,_,_,_,z,_⟩:=an;exact SqL.of z) ?_ ?_⟩
   .rintro j x M H5 O ⟨bd,ac,rfl,s5,p,f2,aW,aL⟩;rw[G7]at O;obtain⟨g,hg,rfl⟩:=Ho.mp O;have ba:j<r.length:=(GV.mp hg).1;refine⟨_,rfl,_,rfl,_,rfl,d,_,rfl,DPut.k (k:=Sum.inl (g:Int)) f2 (av ∅),?_⟩
    refine⟨_,_,rfl,aH s5 hd _,by rw[aq a1];exact p,ag,by have:=cg ac (Sum.inl (g:Int)) (V.int ((rs.length:Nat):Int));omega,λx=>?_⟩
    rw[eJ];have tk:r.take (j+1)=r.take j++[g]:=by rw[Hz,hg];rfl
    rw[tk];by_cases z:x=g
    .subst z;rw[Np rfl,Np (by simp)]
    .rw[Nq (λy=>z (by have:=Sum.inl.inj y;omega)),aL x]
     have:x∈r.take j++[g]↔x∈r.take j:=by simp[z]
     by_cases q:x∈r.take j
     .rw[Np q,Np (this.mpr q)]
     .rw[Nq q,Nq (λy=>q (this.mp y))]
   .rintro M H5 ⟨bd,ac,rfl,s5,p,f2,aW,aL⟩;rw[GY]at aW aL;rw[HD]at aL;have be:=ro.put pm a2 I ri pa;have a4:∀ x,x∈rs.flatten->x∉r:=λx J Y=>by
     have:=be.nd;rw[Ih,KD]at this;exact(Ht.mp this).2.2 x J x Y rfl
    refine⟨_,rfl,_,_,rfl,rfl,?_⟩;refine⟨some (.int (i:Int)),bd,rs++[r],ac,?_,s5,f2,by rw[Ih,KD,GZ];exact aW,⟨λx a r' ha O=>?_,λx O=>?_⟩,be⟩
    .rw[GZ];rfl
    .rw[aL x];by_cases al:a<rs.length
     .rw[G5 al]at ha;rw[Nq (a4 x (HN.mpr ⟨r',GW ha,O⟩))];exact wi.1 x a r' ha O
     .have bm:=(GV.mp ha).1
      rw[GZ,Hd]at bm;have ae:a=rs.length:=by omega
      subst ae;rw[G3 (G0 _),Hw]at ha
      cases ha
      rw[Np O]
    .rw[Ih,KD,Hc]at O;rw[aL x,Nq (λy=>O (.inr y))];exact wi.2 x λy=>O (.inl y)
  .have a6:i∈rs.flatten:=by
    by_cases z:i∈rs.flatten
    .exact z
    .exact Nr (by rw[wi.2 i z];rfl) c
   exact⟨_,_,rs,G,rfl,s2,aS,kl,wi,ro.skip a6⟩
 .rintro M o ⟨v3,v4,rs,G,rfl,s2,aS,kl,wi,ro⟩;rw[hN]at ro;have bi:∀ x,x<2*B.length->∃ a,valV G (Sum.inl (x:Int))=some (.int ((a:Nat):Int))/\∃ r,a7[a]?=some r/\x∈r:=λx O=>by
   obtain⟨a,r,J,Y⟩:=ro.at O;obtain⟨b,r',h3,h4⟩:=bb.at O;have:=ro.same bb J h3 Y h4;subst this;exact⟨a,wi.1 x a r J Y,r',h3,h4⟩
  refine⟨_,rfl,t,_,0,_,rfl,rfl,SqT.of (s2 _ _ v),at30,pe,l,rfl,.inl (SqL.of (s2 _ _ am)),_,rfl,∅,∅,bT (n:=(l.length:Int).toNat) (λi zs H5=>∃ sd:List (Nat×Nat),Same o H5/\bX H5 zs sd/\sd.length=i/\∀(j:Nat)(x:Nat×Nat),sd[j]?=some x->(∃ r,a7[x.1]?=some r/\2*j∈r)/\∃ r,a7[x.2]?=some r/\2*j+1∈r) (Hs (av ∅)) ⟨[],λ_ _ e=>e,⟨rfl,λi e z=>by simp at z⟩,rfl,λj x z=>by simp at z⟩ ?_ ?_⟩
  .rintro i zs H5 I ⟨sd,s5,hz,sl,hs⟩;rw[G8,yl]at I;have e0:(0:Int)+(i:Int)=(i:Int):=Ir _;rw[e0];obtain⟨a,ha,a5⟩:=bi (2*i) ∅
   obtain⟨b,L,bn⟩:=bi (2*i+1) ∅
   have a3:=s5 _ _ aS;refine⟨_,rfl,_,rfl,_,_,rfl,rfl,.inl ⟨by decide,by decide⟩,d,_,rfl,.inl ⟨_,.inl ((2*i:Nat):Int),.inl a3,rfl,ha.symm⟩,_,rfl,_,rfl,_,_,rfl,rfl,.inl ⟨by decide,by decide⟩,_,_,rfl,rfl,d,_,rfl,.inl ⟨_,.inl ((2*i+1:Nat):Int),.inl a3,rfl,L.symm⟩,(by show 2<=LR;decide),λg hg=>?_⟩
   have sg:=ak hg (.tup [.int (a:Int),.int (b:Int)]);refine⟨sd++[(a,b)],s5.trans sg,(hz.mono sg).snoc ag,by rw[GZ,sl];rfl,λj x O=>?_⟩
   by_cases jl:j<sd.length
   .rw[G5 jl]at O;exact hs j x O
   .have bv:=(GV.mp O).1
    rw[GZ,Hd]at bv;have je:j=sd.length:=by omega
    rw[je,G3 (G0 _),Hw]at O
    cases O
    rw[je,sl];exact⟨a5,bn⟩
  rintro zs H5 _ ⟨sd,s5,hz,sl,hs⟩ D hD;rw[G8,yl]at sl;have sD:=ak hD (.lst zs);exact kk D zs sd _ (s2.trans (s5.trans sD)) (sY (s2.trans s5) hD) ag ⟨sl,hz.mono sD,hs⟩
open KF (andN orN shlN xorN)
structure LsS(sd:List (Nat×Nat))(ks:Kn)(N:Nat)(ls:List KF.Lk):Prop where
 ln:ls.length=N
 sl:sd.length=N
 sd:∀(i:Nat)(l:KF.Lk),ls[i]?=some l->sd[i]?=some (l.1,l.2.1)/\∃ k,ks[i]?=some k/\l.2.2=k.2
 lt:∀ l∈ls,l.1<40/\l.2.1<40
theorem Oth.lsS{ks:Kn}(O:Oth m es ts ks rs ls)(q:rs.length<=40){e:List (Nat×Nat)}(h:SdAt H zs es.length rs e):LsS e ks es.length ls:=by
 obtain⟨g,_,T⟩:=h;refine⟨O.d.ln,g,λi l G=>⟨?_,?_⟩,λl G=>?_⟩
 .have u:=(GV.mp G).1
  have D:=O.d.ln;obtain⟨x,o⟩:∃ x,e[i]?=some x:=⟨_,GU ∅⟩
  obtain⟨⟨w,r,b1⟩,N,c,b2⟩:=T i x o;obtain⟨⟨n,C,b3⟩,p,j,b4⟩:=O.d.sd i l G;have f:=O.ro.same O.ro r C b1 b3;have E:=O.ro.same O.ro c j b2 b4;rw[o,← f,← E]
 .obtain⟨k,a,b,_⟩:=O.ws i l G;exact⟨k,a,b⟩
 .obtain⟨a,b⟩:=O.d.rooms l G;omega
theorem oth_of{ks:Kn}{e:List (Nat×Nat)}(g:Gr m es ts)(b:a8 (fol es ts) (2*es.length) (2*es.length) rs)(d:ks.length=es.length)(j:∀ k∈ks,0<=k.2/\k.2<=10^(30:Int).toNat)(D:2<=m)(n:es.length<=16)(h:SdAt H zs es.length rs e):∃ ls,Oth m es ts ks rs ls:=by
 obtain⟨c,_,T⟩:=h;have a:∀(i:Nat)(l:KF.Lk),((e.zip ks).map λx=>((x.1.1,x.1.2,x.2.2):KF.Lk))[i]?=some l->∃ x k,e[i]?=some x/\ks[i]?=some k/\l=(x.1,x.2,k.2):=λi l G=>by
  rw[G7]at G;obtain⟨⟨x,k⟩,J,Y⟩:=Ho.mp G;obtain⟨A,M⟩:=List.getElem?_zip_eq_some.mp J;exact⟨x,k,A,M,Y.symm⟩
 refine⟨(e.zip ks).map λx=>(x.1.1,x.1.2,x.2.2),g,b,⟨b.nd,b.all,λr N=>(b.ring r N).lt,λr N=>(b.ring r N).nd,by rw[GY,List.length_zip];omega,λi l G=>?_⟩,d,λi l G=>?_,D,n⟩
 .obtain⟨x,k,J,Y,rfl⟩:=a i l G;exact T i x J
 .obtain⟨x,k,J,Y,rfl⟩:=a i l G;exact⟨k,Y,rfl,j k (GW Y)⟩
theorem Es(mk:Nat):∀ n,((Ik n).map λk=>sI (mk.testBit k)).sum=((((Ik n).filter λi=>mk.testBit i).length:Nat):Int)
 |0=>rfl
 |n+1=>by
  rw[Kb,Hm,Ka,Es mk n,Kj,GZ]
  cases c:mk.testBit n with
  |true =>
   rw[Kx (p:=λi=>mk.testBit i) c];simp[sI,c]
  |false =>
   rw[Ky (p:=λi=>mk.testBit i) (by rw[c];exact Hj)]
   simp[sI,c]
theorem Ee{y:Nat}(h:y<2^n):(KF.bl y).length=((Ik n).filter λi=>y.testBit i).length:=by
 refine List.Perm.length_eq ((Jc (KF.bl_nd y) ((List.nodup_range).filter _)).mpr λx=>?_);rw[Jl,IZ,KF.mem_bl];refine⟨λz=>⟨?_,z⟩,λz=>z.2⟩;by_cases c:x<n
 .exact c
 .rw[Jv (Hv h (HR (by decide) ∅))]at z
  cases z
inductive spOC(vs:List L2.V)(H:L2.Hp)(Q:L2.VK)(x3_:L2.XK):Prop
 |mk (t pe pt pk:Addr)(m:Nat)(es:En)(ts:List (List Nat))(ks:Kn)(rs:List (List Nat))(n:Nat)(b:Bool) (h0_:vs=[.ref t,.int (n:Int),.bl b])(h1_:dE H t pe pt pk m es ts ks)(h2_:(∀ k∈ks,0<=k.2/\k.2<=10^(30:Int).toNat))(h3_:a8 (fol es ts) (2*es.length) (2*es.length) rs)(h4_:n<es.length)(h5_:∀ H',Same H H'->Q (.int ((rgh (ks.set n (sI b,0)) es.length rs:Nat):Int)) H')
theorem bG:az ["built","number","push","marks","sides","k"] ["built","number","push"] (ar dZ):=by ac_nf
theorem ok_oc{d1:FuncData}(F:Fun K "_law_odd_count" "_law_odd_count" dZ f fd)(T:Txt mg)(an:Cal P w K mg base 4 "_law_sides" ["built"] spSd a d1):FnOk P w K mg base CX0 5 f fd ["built","number","push"] spOC:=by
 refine F.ok bG (by walk_at "l") λaa A J s H e Q E N h=>?_
 obtain⟨t,pe,pt,pk,m,B,ts,ks,rs,n,b,rfl,bp,kb,ro,nl,kk⟩:=h;have ab:=bp.few;have kl:=bp.kl;have g:=bp.w.g;have cnt:=jA g ro;have m2:=g.two ∅
 obtain⟨ac,aI⟩:∃ ac,ac=ks.set n (sI b,0):=⟨_,rfl⟩;rw[← aI]at kk;have aW:ac.length=B.length:=by rw[aI,HG];exact kl
 have aL:∀ k∈ac,0<=k.2/\k.2<=10^(30:Int).toNat:=λk u=>by
  rw[aI]at u;rcases IQ u with z|z
  .exact kb k z
  .rw[z];exact⟨II _,by show(0:Int)<=_;decide⟩
 refine⟨_,(ah (aB 3 bG.nd ai)
   (ah (aB 4 bG.nd (an.c N (af (pv 0) aj)))
   (ah (bz PassesOwn.never rfl (aP rfl T.n_range (af (aC ax (by rfl) T.n_len a9 (af (pv 4) aj)) aj)) (bY 5 bG.nd) (ao (bP (PW.pt (sJ (PW.pt (xJ (aD eB (pv 5) (pv 1) (aG _)) (uT (oQ (pv 2))))) (nh (PW.pt (xJ (aD i4 (pv 5) (pv 1) (aG _)) (uT (aD eB (aJ (aR (aJ (pv 0) ai) (pv 5)) ai) ai (aG _)))))))) (ao (aB 3 bG.nd (aw dB (aw dB (pv 3) (aw bW ai (aJ (aR (pv 4) (pv 5)) ai))) (aw bW ai (aJ (aR (pv 4) (pv 5)) ai))))) aO)))
   (ao (aF (aC (rJ rfl) (by rfl) T.n_sum Cb (af (eI [("marks",3)] ["k"] (aP rfl T.n_range (af (aw cM ai (aC ax (by rfl) T.n_len a9 (af (pv 4) aj))) aj)) pg_c pt_c (λC ex s H=>(aw lU (aw i9 (pv 1) (pv 0)) ai))) aj))))))),?_⟩
 refine⟨_,rfl,t,pe,pt,pk,m,B,ts,ks,rs,rfl,bp,ro,λq zs sd Y j nq r a0=>?_⟩;obtain⟨ls,O⟩:=oth_of g ro aW aL m2 ab a0;have L:=O.lsS ∅ a0
 obtain⟨v,wp,⟨ws,ae,hT⟩,_,_⟩:=id (bp.mono j);have zl:zs.length=B.length:=by rw[a0.2.1.1,L.sl]
 refine⟨_,rfl,q,zs,rfl,.inl (SqL.of r),_,rfl,∅,∅,b8 (n:=(zs.length:Int).toNat) (λi M o=>∃ v5,M=[some (.ref t),some (.int (n:Int)),some (.bl b),some (.int ((KF.oddE ls (MK (aK ac) B.length) i:Nat):Int)),some (.ref q),v5]/\o=Y) ⟨_,rfl,rfl⟩ ?_ ?_⟩
 .rintro i M o I ⟨v5,rfl,rfl⟩;rw[G8,zl]at I;have e0:(0:Int)+(i:Int)=(i:Int):=Ir _;rw[e0];obtain⟨kd,ap⟩:∃ kd,ks[i]?=some kd:=⟨_,GU ∅⟩
  obtain⟨am,k0,t2,z1,z2⟩:=hT.2 i kd ap;obtain⟨l,G⟩:∃ l,ls[i]?=some l:=⟨_,GU (by rw[L.ln];exact I)⟩
  obtain⟨p,x1,x2⟩:=a0.2.1.2 i _ (L.sd i l G).1;have a3:=L.lt l (GW G);have st:KF.oddE ls (MK (aK ac) B.length) (i+1)=if aK ac i=true then KF.oddE ls (MK (aK ac) B.length) i^^^KF.endX (KF.lkA ls i) else KF.oddE ls (MK (aK ac) B.length) i:=by
   show(if(MK (aK ac) B.length).testBit i=true then _ else _)=_;rw[cF,MB I,IJ]
  have pu:aK ac i=if i=n then b else decide (kd.1=1):=by
   by_cases c:i=n
   .subst c;rw[Np rfl,aI,fy (Iv ∅)]
    cases b<;>rfl
   .rw[Nq c,aI,kj c,fy ap]
  have a1:aK ac i=true->Mo (Mo ((KF.oddE ls (MK (aK ac) B.length) i:Nat):Int) (1*2^((l.1:Nat):Int).toNat)) (1*2^((l.2.1:Nat):Int).toNat)=((KF.oddE ls (MK (aK ac) B.length) (i+1):Nat):Int):=λc=>by
   rw[shlN,shlN,xorN,xorN,st,Np c,KF.lkA_is G,HQ];rfl
  have no:aK ac i=false->KF.oddE ls (MK (aK ac) B.length) (i+1)=KF.oddE ls (MK (aK ac) B.length) i:=λc=>by rw[st,c,Nq Hj]
  refine⟨_,rfl,_,rfl,rfl,_,rfl,ite2 (λc=>⟨_,rfl,_,rfl,ite2 (λd=>iteT ?_) (λd=>?_)⟩) (λc=>iteF ?_)⟩;rotate_left 1
  .have c':i=n:=by have:=V.int.inj (Nf c);omega
   have pf:aK ac i=false:=by rw[pu,Np c'];exact Bool.eq_false_iff.mpr d
   refine⟨_,rfl,_,rfl,rfl,_,rfl,qJ (by rw[c']) (iteF ⟨some (.int (i:Int)),?_,rfl⟩)⟩
   rw[no pf];rfl
  .have c':¬ i=n:=λz=>c (MB (by rw[z]))
   refine⟨_,rfl,_,rfl,rfl,_,rfl,ite2 (λz=>⟨_,rfl,t,_,2,_,rfl,rfl,SqT.of v,at32,_,rfl,pk,ws,_,_,rfl,rfl,SqL.of ae,ay z1,t2,_,0,_,rfl,rfl,SqT.of z2,at0,rfl,_,rfl,ite2 (λd=>?_) (λd=>?_)⟩) (λz=>Nr (by rw[LQ (λy=>c' (by have:=V.int.inj y;omega))];rfl) z)⟩
   rotate_left 1
   .have d':¬ kd.1=1:=λz=>d (MB (by rw[z]))
    have pf:aK ac i=false:=by rw[pu,Nq c',LQ d']
    refine⟨some (.int (i:Int)),?_,rfl⟩;rw[no pf];rfl
   have d':kd.1=1:=V.int.inj (Nf d);have aS:aK ac i=true:=by rw[pu,Nq c',MB d']
   refine⟨_,rfl,_,rfl,_,rfl,q,zs,_,_,rfl,rfl,SqL.of r,ay x1,p,_,0,_,rfl,rfl,SqT.of x2,at0,_,_,rfl,rfl,⟨∅,∅,by decide⟩,_,_,rfl,rfl,_,rfl,_,rfl,q,zs,_,_,rfl,rfl,SqL.of r,ay x1,p,_,1,_,rfl,rfl,SqT.of x2,at1,_,_,rfl,rfl,⟨∅,∅,by decide⟩,_,_,rfl,rfl,?_⟩
   refine⟨some (.int (i:Int)),?_,rfl⟩;rw[← a1 aS];rfl
  .have c':i=n:=by have:=V.int.inj (Nf c);omega
   have aS:aK ac i=true:=by rw[pu,Np c'];exact d
   refine⟨_,rfl,_,rfl,_,rfl,q,zs,_,_,rfl,rfl,SqL.of r,ay x1,p,_,0,_,rfl,rfl,SqT.of x2,at0,_,_,rfl,rfl,⟨∅,∅,by decide⟩,_,_,rfl,rfl,_,rfl,_,rfl,q,zs,_,_,rfl,rfl,SqL.of r,ay x1,p,_,1,_,rfl,rfl,SqT.of x2,at1,_,_,rfl,rfl,⟨∅,∅,by decide⟩,_,_,rfl,rfl,?_⟩
   refine⟨some (.int (i:Int)),?_,rfl⟩;rw[← a1 aS];rfl
 .rintro M o ⟨v5,rfl,rfl⟩;rw[G8,zl];have hN:(2*(zs.length:Int)).toNat=2*B.length:=by omega
  have al:KF.oddE ls (MK (aK ac) B.length) B.length<2^rs.length:=(O.evenM ∅ _).1
  have a2:rgh ac B.length rs=(KF.bl (KF.oddE ls (MK (aK ac) B.length) B.length)).length:=by unfold rgh;rw[O.d.marks]
  generalize KF.oddE ls (MK (aK ac) B.length) B.length=mk at al a2;refine⟨_,rfl,q,zs,rfl,.inl (SqL.of r),_,_,rfl,rfl,.inl ⟨by decide,by decide⟩,_,rfl,∅,∅,bT (n:=(2*(zs.length:Int)).toNat) (λi us H6=>H6=o/\us=((Ik i).map λk=>sI (mk.testBit k)).map V.int) (Hs (av ∅)) ⟨rfl,rfl⟩ ?_ ?_⟩
  .rintro i us H6 I ⟨rfl,rfl⟩;have aT:(0:Int)+(i:Int)=(i:Int):=Ir _;rw[aT];refine⟨_,rfl,_,rfl,_,_,rfl,rfl,(show(0:Int)<=(i:Int) by omega),_,_,rfl,rfl,rfl,?_⟩
   rw[Kb,Hm,Hm];exact congrArg (λx=>_++[V.int x]) (GH mk i)
  rintro us H6 _ ⟨rfl,rfl⟩ D hD;rw[hN];have sD:=ak hD (.lst (((Ik (2*B.length)).map λk=>sI (mk.testBit k)).map V.int));refine⟨D,(Ik (2*B.length)).map λk=>sI (mk.testBit k),rfl,SqL.of ag,?_⟩;rw[Es,← Ee (n:=2*B.length) (Hv al (HR (by decide) ∅)),← a2]
  exact kk _ (j.trans sD)
def kOf(g:Int):Int×Int:=(if g<0 then 1 else 0,if g<0 then -g else g)
theorem ct_cls{PS:Addr}(y:CT K PL)(TS:CT K PS)(a:Bool):CT K (cls PL PS a):=by
 unfold cls;split
 .exact TS
 .exact y
inductive zQ(PL PS:Addr)(vs:List L2.V)(H:L2.Hp)(Q:L2.VK)(x3_:L2.XK):Prop
 |mk (a b g:Int) (h0_:vs=[.int a,.int b,.int g])(h1_:a≠b)(h2_:0<=a)(h3_:0<=b)(h4_:∀(x dx:Addr)(H':Hp),Same H H'->H' x=some (.ins (cls PL PS (decide (g<0))) dx (tf a b (if g<0 then -g else g)))->Q (.ref x) H')
inductive Et(PL PS WC:Addr)(vs:List L2.V)(H:L2.Hp)(Q:L2.VK)(x3_:L2.XK):Prop
 |mk (p:Addr)(m n:Nat)(g:Int)(es:En)(ts:List (List Nat))(ks:Kn) (h0_:vs=[.ref p,.int (n:Int),.int g])(h1_:WebT PL PS WC H p m es ts ks)(h2_:ks.length=es.length)(h3_:Gr m es ts)(h4_:es.length<=30)(h5_:n<es.length)(h6_:∀(p':Addr)(rs:List (List Nat))(H':Hp),Same H H'->WebF (λa=>H a≠none) PL PS WC H' p' m es ts rs (ks.set n (kOf g))->Q (.ref p') H')
inductive xy(s:Int)(vs:List L2.V)(H:L2.Hp)(Q:L2.VK)(x3_:L2.XK):Prop
 |mk (x:Int) (h0_:vs=[.int x])(h1_:Q (.int (if s*x > 0 then s*x else 0)) H)
inductive spAtP(vs:List L2.V)(H:L2.Hp)(Q:L2.VK)(x3_:L2.XK):Prop
 |mk (r:Addr)(c0 c1 x:Int) (h0_:vs=[.ref r,.int x])(h1_:H r=some (.tup [.int c0,.int c1]))(h2_:Q (.int (if c1+(if x > 0 then x else 0)<c0+(if -x > 0 then -x else 0) then c1+(if x > 0 then x else 0) else c0+(if -x > 0 then -x else 0))) H)
theorem Af:az ["one","two","signed"] ["one","two","signed"] (ar pU):=by ac_nf
theorem ok_of{PS:Addr}(F:Fun K "tie_of" "tie_of" pU f fd)(d:Mak P w K mg base 1 "Pull" ["self","one","two","strength"] (lN K) PL p G)(n:Mak P w K mg base 1 "Push" ["self","one","two","strength"] (lN K) PS p G)(y:CT K PL)(TS:CT K PS):
  FnOk P w K mg base CX0 3 f fd ["one","two","signed"] (zQ PL PS):=by
 refine F.ok Af (by walk_at "l") λM A u s H m Q E N h=>?_
 obtain⟨a,b,g,rfl,i,v,T,k⟩:=h
 refine⟨_,(ah (bP (aD sR (pv 2) ai (aG _)) (ao (aF (lF n.mkc n.ok (N.mono (by decide)) rfl n.mg n.bn .nil i3 (af (pv 0) (af (pv 1) (af (CO xr (pv 2)) aj)))))) aO)
   (ao (aF (lF d.mkc d.ok (N.mono (by decide)) rfl d.mg d.bn .nil i3 (af (pv 0) (af (pv 1) (af (pv 2) aj))))))),?_⟩
 walk_at "rd";refine ite2 (λc=>?_) (λc=>?_)
 .have C:g<0:=Nf c
  refine⟨_,rfl,_,rfl,_,rfl,_,rfl,?_⟩;intro x j t B D;have r:Same H (upd (upd H j (.own x)) x (.ins PS j [])):=λq o e=>by rw[aq (aA e t),aq (aA e B)];exact e
  refine⟨x,PS,j,a,b,-g,rfl,ag,TS,i,v,T,∅,λl J Y=>⟨rfl,k x j l (λq o e=>Y q o (r q o e) (aA e t)) ?_⟩⟩
  rw[MB C,Np C];exact J
 .have C:¬ g<0:=λz=>c (MB z)
  refine⟨_,rfl,_,rfl,_,rfl,?_⟩;intro x j t B D;have r:Same H (upd (upd H j (.own x)) x (.ins PL j [])):=λq o e=>by rw[aq (aA e t),aq (aA e B)];exact e
  refine⟨x,PL,j,a,b,g,rfl,ag,y,i,v,T,∅,λl J Y=>⟨rfl,k x j l (λq o e=>Y q o (r q o e) (aA e t)) ?_⟩⟩
  rw[LQ C,Nq C];exact J
theorem lQ:az ["web","number","pull","ties"] ["web","number","pull"] (ar jh):=by ac_nf
theorem FJ{fW PS WC:Addr}(F:Fun K "with_pull" "with_pull" jh f fd)(T:Txt mg)(an:Cal P w K mg base 3 "tie_of" ["one","two","signed"] (zQ PL PS) I G)(ae:Mak P w K mg base 5 "Web" ["self","many","ties","turns"] (mX K) WC fW Y)(cw:CW K WC)(TL:CT K PL)(TS:CT K PS):
  FnOk P w K mg base CX0 7 f fd ["web","number","pull"] (Et PL PS WC):=by
 refine F.ok lQ (by walk_at "l") λaa A t s H vs Q E N h=>?_
 obtain⟨p,m,n,g,D,ts,ks,rfl,⟨dx,fs,q1,xs,q3,z3,w1,w2,w3,w4,w5,w6,w7,w8⟩,kl,gr,ab,hn,kk⟩:=h;have al:xs.length=D.length:=w5.1;obtain⟨e,M⟩:∃ e,D[n]?=some e:=⟨_,GU hn⟩;obtain⟨k,j⟩:∃ k,ks[n]?=some k:=⟨_,GU ∅⟩
 obtain⟨b1,b2,ne⟩:=gr.w.ends e (GW M);obtain⟨r,dr,x1,x2⟩:=w5.2 n e k M j;have C1:=ct_cls TL TS (decide (k.1=1))
 refine⟨_,(ah (aB 3 lQ.nd (cL dt (by rfl) T.n_list iF (af (bo (pv 0) rfl) aj)))
   (ah (oR (an.c N (af (bo (aR (pv 3) (pv 1)) rfl) (af (bo (aR (pv 3) (pv 1)) rfl) (af (pv 2) aj)))) (oU (pv 3) (pv 1) iJ))
   (ao (aF (lF ae.mkc ae.ok (N.mono (by decide)) rfl ae.mg ae.bn .nil i3 (af (bo (pv 0) rfl) (af (pv 3) (af (bo (pv 0) rfl) aj)))))))),?_⟩
 refine⟨_,rfl,p,WC,dx,fs,_,rfl,w1,cw.cl,cw.n2,w3,q1,xs,rfl,.inl (SqL.of w4),λq hq=>?_⟩;have l:=ak hq (.lst xs);refine⟨_,rfl,_,rfl,q,xs,_,_,rfl,rfl,SqL.of ag,ay x1,r,_,dr,_,_,rfl,l _ _ x2,C1.cl,C1.n1,jX _ _ _,?_⟩;refine⟨_,rfl,_,rfl,q,xs,_,_,rfl,rfl,SqL.of ag,ay x1,r,_,dr,_,_,rfl,l _ _ x2,C1.cl,C1.n2,oJ _ _ _,?_⟩;refine⟨_,rfl,_,_,_,rfl,∅,∅,∅,λx dy L s2 O=>?_⟩
 refine⟨_,rfl,_,rfl,q,xs,_,n,rfl,rfl,s2 _ _ ag,jN ∅,?_⟩
 have ac:Same H (upd L q (.lst (xs.set n (.ref x)))):=aH (l.trans s2) hq _;have qx:∀{b C d:Addr}{fs:List (Str×V)},L b=some (.ins C d fs)->(upd L q (.lst (xs.set n (.ref x)))) b=some (.ins C d fs):=λ{b C d fs} z=>by
  rw[aq (λy=>by rw[y,s2 _ _ ag]at z;cases z)]
  exact z
 have tt:jV PL PS (upd L q (.lst (xs.set n (.ref x)))) (xs.set n (.ref x)) D (ks.set n (kOf g)):=by
  refine⟨by rw[HG];exact al,λi e' k' y1 y2=>?_⟩
  by_cases z:n=i
  .subst z;rw[M]at y1
   cases y1
   rw[HH,Np rfl,Np ∅]at y2
   cases y2
   refine⟨x,dy,by rw[HH,Np rfl,Np ∅],qx ?_⟩
   have ek:decide ((kOf g).1=1)=decide (g<0):=by
    by_cases y:g<0
    .rw[MB y,MB (show(kOf g).1=1 from Np y)]
    .rw[LQ y,LQ (λu:(kOf g).1=1=>Nr ((Nq y:(kOf g).1=0).symm.trans u) (by decide))]
   rw[ek];exact O
  .rw[HH,Nq z]at y2;obtain⟨r',d',u1,u2⟩:=w5.2 i e' k' y1 y2;exact⟨r',d',by rw[HH,Nq z];exact u1,ac _ _ u2⟩
 have am:(upd L q (.lst (xs.set n (.ref x)))) q=some (.lst (xs.set n (.ref x))):=ag;generalize upd L q (.lst (xs.set n (.ref x)))=H3 at ac tt am;refine⟨_,rfl,p,WC,dx,fs,_,rfl,ac _ _ w1,cw.cl,cw.n1,w2,_,rfl,_,rfl,p,WC,dx,fs,_,rfl,ac _ _ w1,cw.cl,cw.n3,w6,?_⟩;intro y dz ny aL aW;have up:∀ b o,H3 b=some o->(upd (upd H3 dz (.own y)) y (.ins WC dz [])) b=some o:=λb o z=>by rw[aq (aA z ny),aq (aA z aL)];exact z
 have aS:(ks.set n (kOf g)).length=D.length:=by rw[HG];exact kl
 refine⟨y,WC,dz,q,q3,m,_,z3,D,ts,rfl,ag,cw,up _ _ am,(tt.at aS TL TS).mono up,up _ _ (ac _ _ w7),(w8.mono ac).mono up,gr,∅,ab,λaT p1 rs H' J hg aI B h3 h4=>⟨rfl,?_⟩⟩
 have s5:Same H3 H':=λb o z=>h4 b o (up _ _ z) (aA z ny)
 have ap:∀ a,H a≠none->(upd (upd H3 dz (.own y)) y (.ins WC dz [])) a≠none:=λa z u=>z (by
  cases v:H a with
  |none=>rfl
  |some o=>rw[up _ _ (ac _ _ v)]at u;cases u)
 exact kk y rs H' (ac.trans s5) ⟨dz,aT,p1,_,J,hg.mono (λ_ _ z=>z) ap,λz=>ap _ z aI,B,h3,tt.mono s5⟩
theorem pQ:az ["pull"] ["pull"] (ar gX):=by ac_nf
theorem ok_pa(F:Fun K "paid_alike" "paid_alike" gX f fd)(T:TxtO mg a):FnOk P w K mg base CX0 1 f fd ["pull"] (xy (-1)):=by
 refine F.ok pQ (by walk_at "l") λM A u s H m Q E N h=>?_
 obtain⟨x,rfl,y⟩:=h;refine⟨_,(ao (aF (aC (n9 rfl) (by rfl) T.n_max Cc (af ai (af (CO xr (pv 0)) aj))))),?_⟩
 refine⟨_,rfl,_,rfl,_,_,rfl,?_⟩;rw[show(-1:Int)*x = -x by omega]at y
 exact y
theorem ox:az ["pull"] ["pull"] (ar fV):=by ac_nf
theorem ok_pu(F:Fun K "paid_unlike" "paid_unlike" fV f fd)(T:TxtO mg a):FnOk P w K mg base CX0 1 f fd ["pull"] (xy 1):=by
 refine F.ok ox (by walk_at "l") λM A u s H m Q E N h=>?_
 obtain⟨x,rfl,y⟩:=h;refine⟨_,(ao (aF (aC (n9 rfl) (by rfl) T.n_max Cc (af ai (af (pv 0) aj))))),?_⟩
 refine⟨_,rfl,_,_,rfl,?_⟩;rw[Ls]at y;exact y
theorem yA:az ["pair","pull"] ["pair","pull"] (ar ng):=by ac_nf
theorem ok_atp{d1 d2:FuncData}(F:Fun K "at_pull" "at_pull" ng f fd)(T:TxtO mg TR)(e:Cal P w K mg base 1 "paid_alike" ["pull"] (xy (-1)) a d1)(d:Cal P w K mg base 1 "paid_unlike" ["pull"] (xy 1) p d2):FnOk P w K mg base CX0 2 f fd ["pair","pull"] spAtP:=by
 refine F.ok yA (by walk_at "l") λM A u s H m Q E N h=>?_
 obtain⟨r,c0,c1,x,rfl,b,y⟩:=h;refine⟨_,(ao (aF (aC (ui rfl) (by rfl) T.n_min pz (af (aw bL (aJ (pv 0) ai) (e.c N (af (pv 1) aj))) (af (aw bL (aJ (pv 0) ai) (d.c N (af (pv 1) aj))) aj))))),?_⟩
 refine⟨_,rfl,r,_,0,_,rfl,rfl,SqT.of b,at0,_,rfl,x,rfl,_,_,rfl,rfl,_,rfl,r,_,1,_,rfl,rfl,SqT.of b,at1,_,rfl,x,rfl,_,_,rfl,rfl,_,_,rfl,?_⟩;rw[show(-1:Int)*x = -x by omega,Ls]
 exact y
end K8
variable{ks:K8.Kn}
namespace K8
open PySem L2
open KF (andN orN shlN xorN)
inductive spRo(TT PL PS WC:Addr)(vs:List L2.V)(H:L2.Hp)(Q:L2.VK)(x3_:L2.XK):Prop
 |mk (p:Addr)(t m:Nat)(es:En)(ts rs:List (List Nat))(ks:Kn) (h0_:vs=[.ref p,.int (t:Int)])(h1_:WebL TT PL PS WC H p m es ts rs ks)(h2_:t<es.length)(h3_:(12<rgh ks es.length rs->∀ H',Same H H'->Tb KF.lqF KF.lpF TT H'->Q (.str "rough") H'))(h4_:(rgh ks es.length rs<=12 ->
 ∀(r:Addr)(c0 c1:Int)(ls:List KF.Lk)(H':Hp),KF.SmT H H'->Tb KF.lqF KF.lpF TT H'->H' r=some (.tup [.int c0,.int c1])->Oth m es ts ks rs ls->Jn (ls.eraseIdx t) (TP ks es.length ls t) c0->Jn (ls.eraseIdx t) (TP ks es.length ls t^^^KF.endX (KF.lkA ls t)) c1->Q (.ref r) H'))
inductive spNL(K:GX)(vs:List L2.V)(H:L2.Hp)(Q:L2.VK)(x3_:L2.XK):Prop
 |mk (t pe pt pk a r:Addr)(n m:Nat)(es:En)(ts:List (List Nat))(ks:Kn)(ns:List Int)(c0 c1:Int) (h0_:vs=[.ref t,.ref a,.int (n:Int),.ref r])(h1_:dE H t pe pt pk m es ts ks)(h2_:SqL K H a (ns.map V.int))(h3_:ns.length<=63)(h4_:n<es.length)(h5_:m<=40)(h6_:H r=some (.tup [.int c0,.int c1]))(h7_:(∀ L,(if(UB es ks L n ^^ aK ks n)=true then c1 else c0)<=wor es ks L-(if UB es ks L n=true then stg ks n else 0)))(h8_:∀ H',Same H H'->Q (.bl true) H')
theorem oy:az ["web","number"] ["web","number"] (ar fY):=by ac_nf
theorem ok_ro{TT PS:Addr}{d1:FuncData}(F:Fun K "_law_roof_of" "_law_roof_of" fY f fd)(T:TxtO mg C)(ac:ExC K C)(up:JG K C (.ref C)=some true)(i:CalD P w K mg base 12 "roof" ["web","number"] (Eu C TT PL PS q) a d1):FnOk P w K mg base CX0 13 f fd ["web","number"] (spRo TT PL PS q):=by
 have ab:∀ x,x=C->JG K x (.ref C)=some true:=λx e=>by subst e;exact up
 refine F.ok oy (by walk_at "l") λM A u s H b Q E N h=>?_
 obtain⟨p,t,m,D,o,G,n,rfl,g,d,kr,y⟩:=h;refine⟨_,(ao (Fz (Cs:=(λc=>c=C)) rfl rfl rfl rfl T.g_TooRough ac ab (λB XE W l=>(ao (aF (AE i.ok (N.mono (by decide)) rfl i.mg i.kp i.bn .nil l rfl (af (pv 0) (af (pv 1) aj)))))) (λv=>(ao (aF AB))))),?_⟩
 refine⟨_,rfl,_,rfl,p,t,m,D,o,G,n,rfl,g,d,λz Y j aa=>⟨C,rfl,rfl,kr z Y j aa⟩,λz r c0 c1 k Y j aa J O L I=>?_⟩;exact y z r c0 c1 k Y j aa J O L I
theorem br:az ["built","script","number","found","end","cell","laying","cost"] ["built","script","number","found"] (ar eh):=by ac_nf
theorem ok_nl{d1 d2:FuncData}(F:Fun K "_law_none_less" "_law_none_less" eh f fd)(T:Txt mg)(aL:Cal P w K mg base 2 "_law_worth" ["built","laying"] spWor p d1)(aT:Cal P w K mg base 1 "_law_mask" ["cell","many"] zZ C d2)(al:Cal P w K mg base 1 "_law_denied" ["built","laying","k"] Fm I G):FnOk P w K mg base CX0 3 f fd ["built","script","number","found"] (spNL K):=by
 refine F.ok br (by walk_at "l") λaa A u s H b Q E N h=>?_
 obtain⟨t,pe,pt,pk,a,r,n,m,B,ts,ks,ns,c0,c1,rfl,bp,hS,a0,nl,aS,an,lo,kk⟩:=h;have kl:=bp.kl;obtain⟨d,wp,⟨ws,am,hT⟩,_,_⟩:=id bp;obtain⟨v,ab,hE⟩:=wp.en;obtain⟨xs,ae,hX⟩:=wp.tu;have xl:xs.length=m:=by rw[hX.1,wp.g.w.len]
 obtain⟨e,Y⟩:∃ e,B[n]?=some e:=⟨_,GU nl⟩;obtain⟨k,D⟩:∃ k,ks[n]?=some k:=⟨_,GU ∅⟩
 obtain⟨ep,x1,x2⟩:=hE.2 n e Y;obtain⟨aI,k0,kp,z1,z2⟩:=hT.2 n k D;have st:stg ks n=k.2:=by unfold stg;rw[D]
 refine⟨_,(ah (aB 4 br.nd (aR (aJ (pv 0) ai) (pv 2)))
   (ah (bz PassesOwn.never rfl (aV (ko mZ (pv 1) nu (nj ai))) (bY 5 br.nd) (ah (aB 6 br.nd (aT.c N (af (pv 5) (af (aC ax (by rfl) T.n_len a9 (af (aJ (pv 0) ai) aj)) aj))))
   (ah (aB 7 br.nd (aL.c N (af (pv 0) (af (pv 6) aj))))
   (ah (bP (oQ (al.c N (af (pv 0) (af (pv 6) (af (pv 2) aj))))) (ao (aB 7 br.nd (aw eQ (pv 7) (aJ (aR (aJ (pv 0) ai) (pv 2)) ai)))) aO)
   (ao (bP (aD sR (pv 7) (aJ (pv 3) (aw lU (aw dB (aw i9 (pv 6) (aJ (pv 4) ai)) (aw i9 (pv 6) (aJ (pv 4) ai))) ai)) (aG _)) (ao (aF ve)) aO))))))
   (ao (aF ve)))),?_⟩
 refine⟨_,rfl,t,_,0,_,rfl,rfl,SqT.of d,at30,_,rfl,pe,v,_,_,rfl,rfl,SqL.of ab,ay x1,?_⟩;refine⟨_,rfl,_,rfl,a,_,rfl,hS,λq l=>?_⟩;have j:=ak l (.lst (cutV (ns.map V.int) none (some 64)));refine⟨q,rfl,⟨_,SqL.of ag⟩,bM (xs:=cutV (ns.map V.int) none (some 64)) (λi M o=>Same H o/\o q=some (.lst (cutV (ns.map V.int) none (some 64)))/\∃ v5 v6 v7,M=[some (.ref t),some (.ref a),some (.int (n:Int)),some (.ref r),some (.ref ep),v5,v6,v7]) ⟨j,ag,_,_,_,rfl⟩ (λi M o _ z=>SqL.of z.2.1) ?_ ?_⟩
 .rintro i x M o O ⟨J,ac,v5,v6,v7,rfl⟩;obtain⟨c,rfl⟩:∃ c,x=V.int c:=by
   have:=GW O;unfold cutV at this;obtain⟨c,_,rfl⟩:=HS.mp (JV (KS this));exact⟨c,rfl⟩
  have aW:=bp.mono J;refine⟨_,rfl,_,rfl,t,_,1,_,rfl,rfl,SqT.of aW.t,at31,pt,xs,rfl,.inl (SqL.of (J _ _ ae)),c,m,(by rw[xl];rfl),aS,λL hL=>?_⟩
  refine⟨_,rfl,_,rfl,t,pe,pt,pk,m,B,ts,ks,L,rfl,aW,λH3 s3=>?_⟩;have ap:=J.trans s3;have a1:=bp.mono ap;have lo:=lo L;rw[Ei Y,st]at lo;have ux:((L.testBit e.1 ^^ L.testBit e.2 ^^ aK ks n) ^^ aK ks n)=(L.testBit e.1 ^^ L.testBit e.2):=by cases L.testBit e.1<;>cases L.testBit e.2<;>cases aK ks n<;>rfl
  rw[ux]at lo;have a3:atI [V.int c0,V.int c1] (Mm (Mo ((L:Int)/2^((e.1:Nat):Int).toNat) ((L:Int)/2^((e.2:Nat):Int).toNat)) 1)=some (.int (if(L.testBit e.1 ^^ L.testBit e.2)=true then c1 else c0)):=by
   have b1:=bitN L e.1;have b2:=bitN L e.2;unfold bit at b1 b2;rw[zG,b1,b2]
   cases L.testBit e.1<;>cases L.testBit e.2<;>rfl
  have a2:=ap _ _ x2;refine⟨_,rfl,_,rfl,_,rfl,t,pe,pt,pk,m,B,ts,ks,L,n,rfl,a1,nl,_,rfl,?_⟩;rw[Ei Y];refine ite2 (λz=>?_) (λz=>?_)
  .rw[Np z]at lo;refine⟨_,rfl,_,rfl,t,_,2,_,rfl,rfl,SqT.of a1.t,at32,_,rfl,pk,ws,_,_,rfl,rfl,SqL.of (ap _ _ am),ay z1,kp,_,1,_,rfl,rfl,SqT.of (ap _ _ z2),at1,_,_,rfl,rfl,?_⟩;refine⟨_,rfl,_,rfl,_,rfl,_,rfl,ep,_,0,_,rfl,rfl,SqT.of a2,at0,_,_,rfl,rfl,(show(0:Int)<=(e.1:Int) by omega),_,rfl,_,rfl,ep,_,1,_,rfl,rfl,SqT.of a2,at1,_,_,rfl,rfl,(show(0:Int)<=(e.2:Int) by omega),_,_,rfl,rfl,_,_,rfl,rfl,r,_,_,_,rfl,rfl,SqT.of (ap _ _ an),a3,_,_,rfl,rfl,_,rfl,ite2 (λy=>Nr (Nf y) (by show ¬ wor B ks L-k.2<_;omega)) (λ_=>⟨ap,s3 _ _ ac,_,_,_,rfl⟩)⟩
  .rw[Nq z]at lo;refine⟨_,rfl,_,rfl,_,rfl,_,rfl,ep,_,0,_,rfl,rfl,SqT.of a2,at0,_,_,rfl,rfl,(show(0:Int)<=(e.1:Int) by omega),_,rfl,_,rfl,ep,_,1,_,rfl,rfl,SqT.of a2,at1,_,_,rfl,rfl,(show(0:Int)<=(e.2:Int) by omega),_,_,rfl,rfl,_,_,rfl,rfl,r,_,_,_,rfl,rfl,SqT.of (ap _ _ an),a3,_,_,rfl,rfl,_,rfl,ite2 (λy=>Nr (Nf y) (by show ¬ wor B ks L<_;omega)) (λ_=>⟨ap,s3 _ _ ac,_,_,_,rfl⟩)⟩
 .rintro M o ⟨J,ac,v5,v6,v7,rfl⟩;exact kk _ J
open KF (andN orN shlN xorN)
theorem xR{a b:Int}(h:H p=some (.tup [.int a,.int b])):RdD K H (.ref p) (.tuple [.int a,.int b]):=by
 refine RdD.tup (SqT.of h) rfl λj x g E C=>?_;match j with
 |0=>cases E;cases C;exact .int _
 |1=>cases E;cases C;exact .int _
 |j+2=>cases E
theorem sQ(a b:Int):SeqAt.shaped (.tuple [.int a,.int b])=true:=by
 simp[SeqAt.shaped,MH,PyData.canLayAll0,MG,PyData.depthAll]
theorem CC{z:List V}(h:gO H z n rs)(s:KF.SmT H H'):gO H' z n rs:=⟨h.1,λi I=>by
 obtain⟨t,a,b,r,v,u,A,w⟩:=h.2 i I
 exact⟨t,a,b,r,v,u,s.tup A,w⟩⟩
theorem Ad(s:KF.SmT H H')(h:bw H xs ts):bw H' xs ts:=⟨h.1,λi l e=>by
 obtain⟨p,a,b⟩:=h.2 i l e
 exact⟨p,a,s.lst b⟩⟩
theorem CD(s:KF.SmT H H')(h:bX H ys es):bX H' ys es:=⟨h.1,λi l e=>by
 obtain⟨p,a,b⟩:=h.2 i l e
 exact⟨p,a,s.tup b⟩⟩
theorem WebF.smT{S:Addr->Prop}{PS:Addr}(h:WebF S PL PS f H p m es ts rs ks)(s:KF.SmT H H'):WebF S PL PS f H' p m es ts rs ks:=by
 obtain⟨t,fs,E,D,a,⟨N,⟨q,z,b1,I,b2,b3⟩,⟨J,o,c1,c2,c3⟩,⟨Q,g,d1,d2,B⟩,pt⟩,n,c,d,e⟩:=h;have M:∀{b C d:Addr}{fs:List (Str×V)},H b=some (.ins C d fs)->H' b=some (.ins C d fs):=λz=>s _ _ (λG y=>by cases y) z
 refine⟨t,fs,E,D,M a,⟨N,⟨q,z,b1,I,s.lst b2,b3.1,λj l y=>?_⟩,⟨J,o,c1,s.lst c2,Ad s c3⟩,⟨Q,g,d1,s.lst d2,CC B s⟩,pt⟩,n,c,s.lst d,e.1,λi x k q r=>?_⟩
 .obtain⟨r,u,A,w⟩:=b3.2 j l y;exact⟨r,u,A,s.lst w⟩
 .obtain⟨L,v,Y,O⟩:=e.2 i x k q r;exact⟨L,v,Y,M O⟩
theorem WebP.smT{H H':Hp}{pe pt:Addr}{m:Nat}{es:En}{ts:List (List Nat)}(h:WebP H pe pt m es ts)(s:KF.SmT H H'):WebP H' pe pt m es ts:=by
 obtain⟨⟨k,a,b⟩,⟨D,c,d⟩,g⟩:=h;exact⟨⟨k,s.lst a,CD s b⟩,⟨D,s.lst c,d.smT s⟩,g⟩
theorem dE.smT{H H':Hp}{t pe pt j:Addr}{m:Nat}{es:En}{ts:List (List Nat)}{ks:Kn}(h:dE H t pe pt j m es ts ks)(s:KF.SmT H H'):dE H' t pe pt j m es ts ks:=by
 obtain⟨a,b,⟨l,c,d⟩,e,f⟩:=h;exact⟨s.tup a,b.smT s,⟨l,s.lst c,d.1,λi k D=>by obtain⟨x,y,p,u,v⟩:=d.2 i k D;exact⟨x,y,p,u,s.tup v⟩⟩,e,f⟩
theorem Fp(s:KF.SmT H H')(h:SqL K H a xs):SqL K H' a xs:=by
 rcases h with(h|⟨o,h⟩)|h
 .exact .inl (.inl (s _ _ (λG z=>by cases z) h))
 .exact .inl (.inr ⟨o,s _ _ (λG z=>by cases z) h⟩)
 .exact .inr h
structure Lw(K:GX)(TT PL PS WC:Addr)(H:Hp)(a t pe pt pk p m:Nat)(ns:List Int)(es:En)(ts rs:List (List Nat))(ks:Kn):Prop where
 hS:SqL K H a (ns.map V.int)
 bp:dE H t pe pt pk m es ts ks
 wl:WebL TT PL PS WC H p m es ts rs ks
theorem Lw.smT{K:GX}{TT PL PS k:Addr}{H H':Hp}{a t pe pt j p m:Nat}{ns:List Int}{es:En}{ts rs:List (List Nat)}{ks:Kn}(h:Lw K TT PL PS k H a t pe pt j p m ns es ts rs ks)(s:KF.SmT H H')(tb:Tb KF.lqF KF.lpF TT H'):Lw K TT PL PS k H' a t pe pt j p m ns es ts rs ks:=by
 obtain⟨r,b1,⟨⟨S,c1⟩,c2,c3,c4,b,c,d,_⟩⟩:=h;exact⟨Fp s r,b1.smT s,⟨⟨S,c1.smT s⟩,c2,c3,c4,b,c,d,tb⟩⟩
theorem Lw.mono{TT PS:Addr}{a t pe pt p:Nat}(h:Lw K TT PL PS f H a t pe pt N p m ns es ts rs ks)(s:Same H H'):Lw K TT PL PS f H' a t pe pt N p m ns es ts rs ks:=h.smT (KF.SmT.of s) (KF.tb_same h.wl.tb s)
theorem EB{a:Kn}(h:∀ i,i<N->aK ks i=aK a i):rgh ks N rs=rgh a N rs:=by unfold rgh;rw[GO h]
theorem Ap{k k':Int×Int}(a:n<ks.length)(h:decide (k.1=1)=decide (k'.1=1)):rgh (ks.set n k) N rs=rgh (ks.set n k') N rs:=EB λi _=>by
 by_cases c:i=n
 .subst c;rw[fy (Iv a),fy (Iv a),h]
 .rw[kj c,kj c]
theorem Fu{k:Int×Int}{b:Bool}(D:ks[n]?=some k)(h:b=decide (k.1=1)):rgh (ks.set n (sI b,0)) N rs=rgh ks N rs:=EB λi _=>by
 by_cases c:i=n
 .subst c;rw[fy (Iv (GV.mp D).1),fy D,h]
  cases decide (k.1=1)<;>rfl
 .rw[kj c]
theorem EN(g:Int):decide ((kOf g).1=1)=decide (g<0):=by
 unfold kOf;by_cases c:g<0
 .rw[Np c,MB c];rfl
 .rw[Nq c,LQ c];rfl
theorem WebL.pull{TT PS:Addr}{p:Nat}{g:Int}{S:Addr->Prop}(h:WebL TT PL PS a H p m es ts rs ks)(M : -(10^(30:Int).toNat)<=g)(v:g<=10^(30:Int).toNat)(s:Same H H')(l:WebF S PL PS a H' N m es ts rs' (ks.set n (kOf g))):WebL TT PL PS a H' N m es ts rs (ks.set n (kOf g)):=by
 obtain⟨⟨q,r⟩,gr,d,f,j,b,B,i⟩:=h;have e:rs'=rs:=by
  obtain⟨_,_,_,_,_,o,_⟩:=id l;obtain⟨_,_,_,_,_,t,_⟩:=id r;exact o.part.eq t.part
 rw[e]at l;refine⟨⟨S,l⟩,gr,by rw[HG];exact d,λk D=>?_,λk D=>?_,b,B,KF.tb_same i s⟩
 .rcases IQ D with z|z
  .exact f k z
  .rw[z];unfold kOf;by_cases c:g<0
   .rw[Np c];exact .inr rfl
   .rw[Nq c];exact .inl rfl
 .rcases IQ D with z|z
  .exact j k z
  .rw[z];show 0<=(if g<0 then -g else g)/\(if g<0 then -g else g)<=_;split<;>omega
structure Rf(H:Hp)(r n m:Nat)(es:En)(ts rs:List (List Nat))(ks:Kn)(c0 c1:Int)(ls:List KF.Lk):Prop where
 hr:H r=some (.tup [.int c0,.int c1])
 O:Oth m es ts ks rs ls
 j0:Jn (ls.eraseIdx n) (TP ks es.length ls n) c0
 j1:Jn (ls.eraseIdx n) (TP ks es.length ls n^^^KF.endX (KF.lkA ls n)) c1
theorem Rf.smT{r:Nat}{c0 c1:Int}(h:Rf H r n m es ts rs ks c0 c1 ls)(s:KF.SmT H H'):Rf H' r n m es ts rs ks c0 c1 ls:=⟨s.tup h.hr,h.O,h.j0,h.j1⟩
theorem Rf.at{H:Hp}{r n m:Nat}{es:En}{ts rs:List (List Nat)}{ks:Kn}{c0 c1 c g:Int}{ls b:List KF.Lk}(h:Rf H r n m es ts rs ks c0 c1 ls)(k:n<es.length)(a:Oth m es ts (ks.set n (kOf g)) rs b)(j:Jn b (KF.oddE b (MK (aK (ks.set n (kOf g))) es.length) es.length) c):c=if c1+(if g > 0 then g else 0)<c0+(if -g > 0 then -g else 0) then c1+(if g > 0 then g else 0) else c0+(if -g > 0 then -g else 0):=by
 obtain⟨f,E,u,B⟩:=h.O.er a k;have D:=a.d.ln;have L:=h.j0;have I:=h.j1;rw[← f,← u]at L I;rw[← E]at I;have G:aK (ks.set n (kOf g)) n=decide (g<0):=by
  rw[fy (Iv (by rw[h.O.kl];exact k))]
  unfold kOf;by_cases c:g<0
  .rw[Np c,MB c];rfl
  .rw[Nq c,LQ c];rfl
 rw[pG n,G]at j;have w:(kOf g).2=if g<0 then -g else g:=rfl;by_cases C:g<0
 .rw[MB C,Np rfl]at j;have:=j.one (A9 ∅ I (by rw[HQ,Jf,IS];exact L))
  rw[B,w,Np C]at this;have J:(if g > 0 then g else 0)=0:=Nq ∅
  have Y:(if -g > 0 then -g else 0) = -g:=Np ∅
  rw[this,J,Y];split<;>omega
 .rw[LQ C,Nq Hj,IS]at j;have:=j.one (A9 ∅ L I)
  rw[B,w,Nq C]at this;have J:(if g > 0 then g else 0)=g:=by split<;>omega
  have Y:(if -g > 0 then -g else 0)=0:=Nq ∅
  rw[this,J,Y];split<;>omega
theorem Rf.same{r r':Nat}{c0 c1 C d1 g:Int}{b:List KF.Lk}(h:Rf H r n m es ts rs ks c0 c1 ls)(k:n<es.length)(h':Rf H' r' n m es ts rs (ks.set n (kOf g)) C d1 b):C=c0/\d1=c1:=by
 obtain⟨f,E,u,B⟩:=h.O.er h'.O k;have L:=h'.j0;have I:=h'.j1;rw[f,u]at L I;rw[E]at I;exact⟨L.one h.j0,I.one h.j1⟩
inductive rL1(K:GX)(TT PL PS WC:Addr)(Q:VK)(D:L2.Ends)(σ:L2.St)(H:L2.Hp):Prop
 |mk (a t pe pt pk p m n:Nat)(ns:List Int)(es:En)(ts rs:List (List Nat))(ks:Kn)(vf:V) (h0_:σ=[some (.ref a),some (.ref t),some (.ref p),some (.int (n:Int)),some vf,none,none,none,none])(h1_:Lw K TT PL PS WC H a t pe pt pk p m ns es ts rs ks)(h2_:n<es.length)(h3_:ns.length<=63)(h4_:((12<rgh ks es.length rs/\vf=.str "rough")∨(rgh ks es.length rs<=12/\∃ r c0 c1 ls,vf=.ref r/\Rf H r n m es ts rs ks c0 c1 ls)))(h5_:D.rt=Q)
inductive rL2(K:GX)(TT PL PS WC:Addr)(Q:VK)(D:L2.Ends)(σ:L2.St)(H:L2.Hp):Prop
 |mk (a t pe pt pk p m n r:Nat)(ns:List Int)(es:En)(ts rs:List (List Nat))(ks:Kn)(c0 c1:Int)(ls:List KF.Lk) (h0_:σ=[some (.ref a),some (.ref t),some (.ref p),some (.int (n:Int)),some (.ref r),none,none,none,none])(h1_:Lw K TT PL PS WC H a t pe pt pk p m ns es ts rs ks)(h2_:n<es.length)(h3_:Rf H r n m es ts rs ks c0 c1 ls)(h4_:D.rt=Q)
inductive rL3(K:GX)(TT PL PS WC:Addr)(Q:VK)(D:L2.Ends)(σ:L2.St)(H:L2.Hp):Prop
 |mk (a t pe pt pk p m n r:Nat)(ns:List Int)(es:En)(ts rs:List (List Nat))(ks:Kn)(c0 c1 far:Int)(ls:List KF.Lk)(v5 v7 v8:Option V) (h0_:σ=[some (.ref a),some (.ref t),some (.ref p),some (.int (n:Int)),some (.ref r),v5,some (.int far),v7,v8])(h1_:Lw K TT PL PS WC H a t pe pt pk p m ns es ts rs ks)(h2_:n<es.length)(h3_:Rf H r n m es ts rs ks c0 c1 ls)(h4_:0<=far)(h5_:far<=10^(30:Int).toNat)(h6_:D.rt=Q)
inductive pJ(K:GX)(TT:Addr)(vs:List L2.V)(H:L2.Hp)(Q:L2.VK)(x3_:L2.XK):Prop
 |mk (a:Addr)(ns:List Int) (h0_:vs=[.ref a])(h1_:SqL K H a (ns.map V.int))(h2_:ns.length<=63)(h3_:Tb KF.lqF KF.lpF TT H)(h4_:∀ H',Q (.bl true) H')
theorem i8:az ["script","built","web","number","found","cell","far","pull","other"] ["script"] (ar pX):=by ac_nf
theorem ok_law{TT f3 f4 f5 f6 f7 f8 f9 g1 PS WC:Addr}{d1 d2 d5 d6 d7 d8 d9 e1:FuncData}(F:Fun K "law" "law" pX f fd)(T:TxtO mg C)(cw:CW K WC)(bd:Cal P w K mg base 5 "_law_built" ["script","first","most"] (xB K) q d1)(al:Cal P w K mg base 1 "_law_cell" ["script","k"] (Ab K) I d2)(be:Cal P w K mg base 1 "_law_small" ["built","cell"] zR f3 G)(bB:Cal P w K mg base 7 "_law_web" ["built"] (Ex PL PS WC) f4 Y)(a2:Cal P w K mg base 13 "_law_roof_of" ["web","number"] (spRo TT PL PS WC) f5 d5)(an:Cal P w K mg base 5 "_law_odd_count" ["built","number","push"] spOC f6 d6)(a5:Cal P w K mg base 3 "_law_none_less" ["built","script","number","found"] (spNL K) f7 d7)(a4:Cal P w K mg base 7 "with_pull" ["web","number","pull"] (Et PL PS WC) f8 d8)(bS:Cal P w K mg base 13 "least" ["web"] (uI TT PL PS WC) f9 d9)(bE:Cal P w K mg base 2 "at_pull" ["pair","pull"] spAtP g1 e1):FnOk P w K mg base CX0 14 f fd ["script"] (pJ K TT):=by
 refine F.ok i8 (by walk_at "l") λaa A u s H vs Q E N h=>?_
 obtain⟨a,ns,rfl,hS,bn,tb,kq⟩:=h;have a0:=N.units
 refine⟨_,(ah (aB 1 i8.nd (be.c N (af (bd.c N (af (pv 0) (af ai (af ai aj)))) (af (al.c N (af (pv 0) (af ai aj))) aj))))
   (ah (aB 2 i8.nd (bB.c N (af (pv 1) aj)))
   (ah (aB 3 i8.nd (aw bq (al.c N (af (pv 0) (af ai aj))) (aC ax (by rfl) T.n_len a9 (af (aJ (pv 1) ai) aj))))
   (ah (aB 4 i8.nd (a2.c N (af (pv 2) (af (pv 3) aj))))
   (lD (t2:=rL1 K TT PL PS WC Q) (ah (bP (aD vh (an.c N (af (pv 1) (af (pv 3) (af (gn eB (aJ (aR (aJ (pv 1) ai) (pv 3)) ai) ai (aG _)) aj)))) ai (aG _)) (ao (aF (gn eB (pv 4) AB (aG _)))) aO)
   (ah (bP (PW.pt (sJ (Ar (oQ (aC Eb (by rfl) T.n_isinstance rK (af (pv 4) (af (FF (v:=.ty "tuple") rfl T.n_tuple Ec rfl) aj))))) (sJ (aD i4 (aC ax (by rfl) T.n_len a9 (af (pv 4) aj)) ai (aG _)) (nh (Ar (oQ (a5.c N (af (pv 1) (af (pv 0) (af (pv 3) (af (pv 4) aj))))))))))) (ao (aF ve)) aO)
   (lD (t2:=rL2 K TT PL PS WC Q) (ah (aB 5 i8.nd (al.c N (af (pv 0) (af ai aj))))
   (ah (aB 6 i8.nd (aw bq (aw cN (pv 5) ai) (aw bL (aw AH ai ai) ai)))
   (ah (bz PassesOwn.never rfl (aV (bV (af (aw eQ (aw bq (pv 5) ai) ai) (af (pv 6) (af (aR (bV (af (aw eQ ai (aw bq (pv 5) ai)) (af (CO xr (pv 6)) aj))) (aw bq (aw cN (pv 5) ai) ai)) aj))))) (bY 7 i8.nd) (ao (bP (aD op_le (an.c N (af (pv 1) (af (pv 3) (af (gn sR (pv 7) ai (aG _)) aj)))) ai (aG _)) (ah (aB 8 i8.nd (a4.c N (af (pv 2) (af (pv 3) (af (pv 7) aj)))))
   (ao (bP (aD i4 (aJ (bS.c N (af (pv 8) aj)) ai) (bE.c N (af (pv 4) (af (pv 7) aj))) (aG _)) (ao (aF ve)) aO))) aO)))
   (lD (t2:=rL3 K TT PL PS WC Q) (ah (bP (PW.pt (sJ (aD (EE a0) (bo (pv 2) rfl) (aJ (pv 1) ai) (aG _)) (nh (aD vh (an.c N (af (pv 1) (af (pv 3) (af (gn eB (aJ (aR (aJ (pv 1) ai) (pv 3)) ai) ai (aG _)) aj)))) ai (aG _))))) (ao (aF (gn (EF a0) (bo (pv 2) rfl) (aJ (pv 1) ai) (aG _)))) aO)
   (ah (aB 8 i8.nd (a4.c N (af (pv 2) (af (pv 3) (af (aR (bV (af (CO xr (aC (n9 rfl) (by rfl) T.n_max Cc (af ai (af (pv 6) aj)))) (af (pv 6) aj))) (aJ (aR (aJ (pv 1) ai) (pv 3)) ai)) aj)))))
   (ao (aF (gn (EF a0) (a2.c N (af (pv 8) (af (pv 3) aj))) (pv 4) (aG _)))))) (λD0 S0 H0 h0=>?rest3))))) (λD0 S0 H0 h0=>?rest2)))) (λD0 S0 H0 h0=>?rest1)))))),?_⟩
 case rest3 =>
  obtain⟨a,t,pe,pt,pk,p,m,n,r,ns,B,ts,rs,ks,c0,c1,a3,ls,v5,v7,v8,rfl,lw,nl,rf,f0,cG,hQ⟩:=h0;obtain⟨⟨S,wf⟩,g,kl,a6,kb,ab,e0,tb⟩:=id lw.wl;obtain⟨dx,fs,q1,ci,b,wg,_,l2,aL,tk⟩:=id wf;obtain⟨q6,z6,l6,_,aI,r6⟩:=wg.turns;obtain⟨J,wp,⟨ws,aT,hT⟩,_,_⟩:=id lw.bp;obtain⟨xs,aS,hX⟩:=wp.tu;obtain⟨k,D⟩:∃ k,ks[n]?=some k:=⟨_,GU (by ac_rfl)⟩
  obtain⟨bb,k0,kp,z1,z2⟩:=hT.2 n k D;refine⟨_,rfl,p,WC,dx,fs,_,rfl,b,cw.cl,cw.n3,l6,_,rfl,t,_,1,_,rfl,rfl,SqT.of J,at31,_,lC (SqL.of aI) r6.off,lC (SqL.of aS) hX,jy _,_,rfl,iteF ?_⟩;refine⟨_,rfl,_,rfl,_,rfl,t,_,2,_,rfl,rfl,SqT.of J,at32,_,rfl,pk,ws,_,_,rfl,rfl,SqL.of aT,ay z1,kp,_,0,_,rfl,rfl,SqT.of z2,at0,rfl,t,pe,pt,pk,m,B,ts,ks,rs,n,_,rfl,lw.bp,kb,wg.part,nl,λH1 j=>?_⟩;have bU:=lw.mono j;refine⟨_,_,rfl,rfl,_,rfl,ite2 (λz=>?_) (λz=>?_)⟩
  .refine⟨_,rfl,p,WC,dx,fs,_,rfl,j _ _ b,cw.cl,cw.n3,l6,_,rfl,t,_,1,_,rfl,rfl,SqT.of (j _ _ J),at31,_,lC (SqL.of (j _ _ aI)) (r6.off.mono j),lC (SqL.of (j _ _ aS)) (hX.mono j),jy _,?_⟩;rw[hQ];exact kq _
  .have z':¬ (8:Int)<((rgh (ks.set n (sI (decide (V.int k.1=V.int 0)),0)) B.length rs:Nat):Int):=λy=>z (MB y)
   obtain⟨g4,cn,gl,gh,gk⟩:∃ g4,atI [V.int (-(if a3 > 1 then a3 else 1)),V.int a3] k.1=some (.int g4)/\-(10^(30:Int).toNat)<=g4/\g4<=10^(30:Int).toNat/\decide (g4<0)=decide (V.int k.1=V.int 0):=by
    have co:(1:Int)<=10^(30:Int).toNat:=by decide
    rcases bb with y|y<;>rw[y]
    .refine⟨_,rfl,by split<;>ac_rfl,by split<;>ac_rfl,?_⟩
     rw[MB rfl,MB (by split<;>ac_rfl)]
    .refine⟨_,rfl,by ac_rfl,by ac_rfl,?_⟩
     rw[LQ (show ¬ a3<0 by ac_rfl)]
     rfl
   refine⟨_,rfl,_,rfl,_,rfl,1,a3,rfl,_,rfl,_,rfl,(by show 2<=LR;decide),λq8 cc=>?_⟩
   have s8:=ak cc (.lst [V.int (-(if a3 > 1 then a3 else 1)),V.int a3]);have bZ:=j.trans s8;refine⟨_,rfl,t,_,2,_,rfl,rfl,SqT.of (bZ _ _ J),at32,_,rfl,pk,ws,_,_,rfl,rfl,SqL.of (bZ _ _ aT),ay z1,kp,_,0,_,rfl,rfl,SqT.of (bZ _ _ z2),at0,q8,_,_,_,rfl,rfl,SqL.of ag,cn,p,m,n,g4,B,ts,ks,rfl,(wf.mono bZ (λ_ y=>y)).t,kl,g,by ac_rfl,nl,λp' cb H7 s7 cd=>?_⟩
   have ce:=(bU.mono s8).wl.pull gl gh s7 cd;have rg:rgh (ks.set n (kOf g4)) B.length rs<=8:=by
    rw[Ap (k':=(sI (decide (V.int k.1=V.int 0)),0)) (by ac_rfl) (by rw[EN,gk];cases decide (V.int k.1=V.int 0)<;>rfl)]
    ac_rfl
   refine⟨_,rfl,_,rfl,p',n,m,B,ts,rs,_,rfl,ce,nl,λy=>Nr y (by ac_rfl),λ_ r' d0 d1 a1 H8 cf b5 h8 O' j0 j1=>?_⟩
   obtain⟨rfl,rfl⟩:=rf.same nl ⟨h8,O',j0,j1⟩;refine⟨_,rfl,_,xR h8,xR (((KF.SmT.of (bZ.trans s7)).trans cf).tup rf.hr),sQ _ _,?_⟩;rw[hQ];exact kq _
 case rest2 =>
  obtain⟨a,t,pe,pt,pk,p,m,n,r,ns,B,ts,rs,ks,c0,c1,ls,rfl,lw,nl,rf,hQ⟩:=h0;refine⟨_,rfl,a,2,ns,rfl,lw.hS,?_⟩;show ml 5 (V.int (iA ns 2)) _ _ _;generalize iA ns 2=c;refine⟨_,rfl,_,_,rfl,rfl,⟨by decide,by decide⟩,_,_,rfl,rfl,⟨by decide,by decide,by decide⟩,_,_,rfl,rfl,_,_,rfl,rfl,(by show(0:Int)<10^(30:Int).toNat+1;decide),?_⟩
  show ml 6 (V.int (c/9%(10^(30:Int).toNat+1))) _ _ _;have f0:=IU (c/9) (show(10^(30:Int).toNat+1:Int)≠0 by decide)
  have q:=IB (c/9) (show(0:Int)<10^(30:Int).toNat+1 by decide)
  generalize c/9%(10^(30:Int).toNat+1)=a3 at f0 q ⊢;have co:(4:Int)<=10^(30:Int).toNat:=by decide
  obtain⟨g3,cp,cs,ct⟩:∃ g3,atI [V.int (4-c%9),V.int (-a3)] (c/9%2)=some (.int g3)/\-(10^(30:Int).toNat)<=g3/\g3<=10^(30:Int).toNat:=by
   have:c/9%2=0∨c/9%2=1:=by ac_rfl
   rcases this with z|z<;>rw[z]
   .exact⟨_,rfl,by ac_rfl,by ac_rfl⟩
   .exact⟨_,rfl,by ac_rfl,by ac_rfl⟩
  refine⟨_,rfl,_,_,rfl,rfl,(by decide:(0:Int)<9),_,_,rfl,rfl,_,rfl,_,rfl,_,_,rfl,rfl,(by decide:(0:Int)<9),_,_,rfl,rfl,_,rfl,_,rfl,(by show 2<=LR;decide),λq8 cc=>?_⟩
  have s8:=ak cc (.lst [V.int (4-c%9),V.int (-a3)]);refine⟨_,rfl,_,_,rfl,rfl,⟨by decide,by decide⟩,_,_,rfl,rfl,(by decide:(0:Int)<2),q8,_,_,_,rfl,rfl,SqL.of ag,cp,(by show 3<=LR;decide),λq9 cu=>?_⟩
  have s9:=s8.trans (ak cu (.lst [V.int (c%9-4),V.int a3,V.int g3]));refine⟨q9,rfl,⟨_,SqL.of ag⟩,bM (xs:=[V.int (c%9-4),V.int a3,V.int g3]) (λi M H5=>KF.SmT H0 H5/\Tb KF.lqF KF.lpF TT H5/\H5 q9=some (.lst [V.int (c%9-4),V.int a3,V.int g3])/\∃ v7 v8,M=[some (.ref a),some (.ref t),some (.ref p),some (.int (n:Int)),some (.ref r),some (.int c),some (.int a3),v7,v8]) ⟨.of s9,KF.tb_same lw.wl.tb s9,ag,_,_,rfl⟩ (λi M H5 _ z=>SqL.of z.2.2.1) ?_ ?_⟩
  .rintro i x M H5 o ⟨sm,ba,ap,v7,v8,rfl⟩;obtain⟨g,rfl,gl,gh⟩:∃ g,x=V.int g/\-(10^(30:Int).toNat)<=g/\g<=10^(30:Int).toNat:=by
    match i,o with
    |0,o=>cases o;exact⟨_,rfl,by ac_rfl,by ac_rfl⟩
    |1,o=>cases o;exact⟨_,rfl,by ac_rfl,by ac_rfl⟩
    |2,o=>cases o;exact⟨_,rfl,cs,ct⟩
    |i+3,o=>cases o
   have ch:=lw.smT sm ba;have ck:=rf.smT sm;obtain⟨⟨S,wf⟩,gr,kl,a6,kb,ab,e0,_⟩:=id ch.wl;obtain⟨dx,fs,q1,ci,b,wg,_⟩:=id wf;refine⟨_,rfl,_,rfl,_,rfl,_,_,rfl,rfl,t,pe,pt,pk,m,B,ts,ks,rs,n,_,rfl,ch.bp,kb,wg.part,nl,λH6 s6=>?_⟩;have cv:=KF.tb_same ba s6;refine⟨_,_,rfl,rfl,_,rfl,ite2 (λz=>?_) (λz=>⟨sm.trans (.of s6),cv,s6 _ _ ap,_,_,rfl⟩)⟩;have z':=Nf z;have cx:=ch.mono s6;refine⟨_,rfl,_,rfl,_,rfl,p,m,n,g,B,ts,ks,rfl,(wf.mono s6 (λ_ y=>y)).t,kl,gr,by ac_rfl,nl,λp' cb H7 s7 cd=>?_⟩
   have ce:=cx.wl.pull gl gh s7 cd;have rg:rgh (ks.set n (kOf g)) B.length rs<=12:=by
    rw[Ap (k':=(sI (decide (g<0)),0)) (by ac_rfl) (by rw[EN];cases decide (g<0)<;>rfl)]
    ac_rfl
   refine⟨_,rfl,p',m,B,ts,rs,_,rfl,ce,rg,λt8 c8 v1 v2 a1 H8 cf b5 h8 O' j'=>?_⟩;have b0:=(KF.SmT.of s6).trans ((KF.SmT.of s7).trans cf);refine⟨t8,_,0,_,rfl,rfl,SqT.of h8,at30,_,rfl,_,rfl,r,c0,c1,g,rfl,b0.tup ck.hr,rfl,_,rfl,qJ (congrArg V.int (ck.at nl O' j')) ⟨sm.trans b0,b5,b0.lst ap,_,_,rfl⟩⟩
  .rintro M H5 ⟨sm,ba,ap,v7,v8,rfl⟩;exact⟨a,t,pe,pt,pk,p,m,n,r,ns,B,ts,rs,ks,c0,c1,a3,ls,_,_,_,rfl,lw.smT sm ba,nl,rf.smT sm,f0,by ac_rfl,hQ⟩
 case rest1 =>
  obtain⟨a,t,pe,pt,pk,p,m,n,ns,B,ts,rs,ks,vf,rfl,lw,nl,bn,hv,hQ⟩:=h0;obtain⟨⟨S,wf⟩,g,kl,a6,kb,ab,e0,tb⟩:=id lw.wl;obtain⟨dx,fs,q1,ci,b,wg,_,l2,aL,tk⟩:=id wf;obtain⟨J,wp,⟨ws,aT,hT⟩,_,_⟩:=id lw.bp;obtain⟨k,D⟩:∃ k,ks[n]?=some k:=⟨_,GU (by ac_rfl)⟩
  obtain⟨bb,k0,kp,z1,z2⟩:=hT.2 n k D;refine⟨_,rfl,_,rfl,_,rfl,t,_,2,_,rfl,rfl,SqT.of J,at32,_,rfl,pk,ws,_,_,rfl,rfl,SqL.of aT,ay z1,kp,_,0,_,rfl,rfl,SqT.of z2,at0,rfl,t,pe,pt,pk,m,B,ts,ks,rs,n,_,rfl,lw.bp,kb,wg.part,nl,λH1 j=>?_⟩;rw[Fu D (tZ _ _)];have bU:=lw.mono j;have bi:m<=40:=by have:=o8 g;ac_rfl
  refine⟨_,_,rfl,rfl,_,rfl,ite2 (λz=>?_) (λz=>?_)⟩
  .have z':(12:Int)<((rgh ks B.length rs:Nat):Int):=Nf z
   rcases hv with⟨_,rfl⟩|⟨y,_⟩
   .refine⟨_,rfl,rfl,?_⟩;rw[MB rfl,hQ];exact kq _
   .ac_rfl
  .have z':¬ (12:Int)<((rgh ks B.length rs:Nat):Int):=λy=>z (MB y)
   rcases hv with⟨y,_⟩|⟨_,r,c0,c1,ls,rfl,rf⟩
   .ac_rfl
   have b6:=rf.smT (.of j);refine⟨_,rfl,_,_,_,_,_,rfl,TyOf.tup b6.hr,Or.inl ⟨_,rfl,rfl⟩,kit_tt K,_,rfl,iteF ?_⟩;refine⟨_,rfl,r,_,rfl,.inr (SqT.of b6.hr),rfl,_,rfl,qJ rfl ?_⟩;refine⟨_,rfl,_,rfl,_,rfl,_,rfl,t,pe,pt,pk,a,r,n,m,B,ts,ks,ns,c0,c1,rfl,bU.bp,bU.hS,bn,nl,bi,b6.hr,rf.O.none nl rf.j0 rf.j1,λL s2=>⟨_,rfl,iteF ?_⟩⟩;exact⟨a,t,pe,pt,pk,p,m,n,r,ns,B,ts,rs,ks,c0,c1,ls,rfl,bU.mono s2,nl,b6.smT (.of s2),hQ⟩
 refine⟨_,rfl,a,ns,rfl,hS,bn,λt pe pt pk m B ts ks H1 j bp kb=>?_⟩;refine⟨_,rfl,a,0,ns,rfl,j.seq hS,t,pe,pt,pk,_,m,B,ts,ks,rfl,bp,kb,λt2 ca ac L s2 bm bv=>?_⟩;have g:=bm.w.g;have ab:=bm.few;have kl:=bm.kl;have e0:0<B.length:=by
  cases B with
  |nil =>
   exfalso;obtain⟨rs,p,c⟩:=g.part;have:rs.length=0∨0<rs.length:=by ac_rfl
   rcases this with z|z
   .have m2:m=2:=by simpa[z] using c
    have:=g.conn (λx=>x=0) (λe he=>nomatch he) 0 1 (by ac_rfl) (by ac_rfl) rfl
    cases this
   .obtain⟨d,hd⟩:=(p.cr _ (GW (GU z))).ne;have:=(p.cr _ (GW (GU z))).lt d hd
    cases this
  |cons e B=>exact Nat.succ_pos _
 refine⟨_,rfl,t2,pe,pt,ca,m,B,ts,ac,rfl,bm,e0,λp rs H3 s3 wf=>?_⟩;have ae:=(j.trans s2).trans s3;have bR:=bm.mono s3;obtain⟨a7,cB,⟨ws,aT,hT⟩,_,_⟩:=id bR;obtain⟨ys,am,hE⟩:=cB.en;have yl:ys.length=B.length:=hE.1;have a6:∀ k∈ac,k.1=0∨k.1=1:=λk D=>by
  obtain⟨i,l⟩:=HU.mp D;exact(hT.2 i k l).1
 have cD:∀ k∈ac,0<=k.2/\k.2<=10^(30:Int).toNat:=λk D=>by
  obtain⟨i,l⟩:=HU.mp D;exact⟨(hT.2 i k l).2.1,bv k D⟩
 have lw:Lw K TT PL PS WC H3 a t2 pe pt ca p m ns B ts rs ac:=⟨ae.seq hS,bR,⟨⟨_,wf⟩,g,kl,a6,cD,ab,e0,KF.tb_same tb ae⟩⟩;have x0:(0:Int)<(ys.length:Int):=by ac_rfl
 have g0:=IU (iA ns 1) (show(ys.length:Int)≠0 by ac_rfl)
 have g1:=IB (iA ns 1) x0;obtain⟨n,hn⟩:∃ n:Nat,iA ns 1%(ys.length:Int)=(n:Int):=⟨_,(IM g0).symm⟩;have nl:n<B.length:=by ac_rfl
 refine⟨_,rfl,a,1,ns,rfl,lw.hS,_,rfl,t2,_,0,_,rfl,rfl,SqT.of a7,at30,pe,ys,rfl,.inl (SqL.of am),_,_,rfl,rfl,x0,?_⟩;show ml 3 (V.int (iA ns 1%(ys.length:Int))) _ _ _;rw[hn];refine⟨_,rfl,_,rfl,p,n,m,B,ts,rs,ac,rfl,lw.wl,nl,λz H4 s4 aW=>?_,λz r c0 c1 ls H4 s4 aW h4 O j0 j1=>?_⟩
 .exact⟨a,t2,pe,pt,ca,p,m,n,ns,B,ts,rs,ac,_,rfl,lw.smT (.of s4) aW,nl,bn,.inl ⟨z,rfl⟩,rfl⟩
 .exact⟨a,t2,pe,pt,ca,p,m,n,ns,B,ts,rs,ac,_,rfl,lw.smT s4 aW,nl,bn,.inr ⟨z,r,c0,c1,ls,rfl,h4,O,j0,j1⟩,rfl⟩
open KF (mE iN g8 mB pT xG xF CJ de fZ bO fX mC kc kh ki mD pY)
structure GF(K:GX)(x:Str)(st:Stmt)(f:Addr)(fd:FuncData):Prop where
 a:HJ K LU x=some (some (.ref f))
 F:Fun K x x st f fd
structure Wr(P:Program)(w:World)(K:GX)(mg:Str->Option Value)(base:Heap):Prop where
 g:∀{x:Str}{v:Value},HJ K LU x=some (some v)->mg x=some v
section
variable{P:Program}{w:World}{K:GX}{mg:Str->Option Value}{base:Heap}{x p p2 p3 p4 p5:Str}{ps:List Str}{st:Stmt}{f:Addr}{fd:FuncData}{k:Nat}{sp:Sp}
def Bn(x:Str)(st:Stmt)(us:List Value)(r:List (Str×Value)):Prop:=∀ kV O C d M l,bindArgs (IC x x (cZ st) (b7 st) (ar st) .none kV O C d M l) ⟨us,[]⟩=pure r
theorem GF.b(g:GF K x st f fd)(h:∀ us:List Value,us.length=ps.length->Bn x st us (ps.zip us)):dQ K fd ps []:=g.F.binds λkV O C d M l us G=>h us G kV O C d M l
theorem Wr.c(W:Wr P w K mg base)(g:GF K x st f fd)(b:dQ K fd ps [])(o:FnOk P w K mg base CX0 k f fd ps sp):Cal P w K mg base k x ps sp f fd:=⟨o,b,W.g g.a,g.F.kp⟩
theorem Wr.c0(W:Wr P w K mg base)(g:GF K x st f fd)(o:FnOk P w K mg base CX0 k f fd [] sp)(h:Bn x st [] []:=by intros _ _ _ _ _ _;rfl):Cal P w K mg base k x [] sp f fd:=W.c g (g.b λz l=>match z,l with | [],_=>h) o
theorem GF.b1(g:GF K x st f fd)(h:∀ u,Bn x st [u] [(p,u)]):dQ K fd [p] []:=g.b λz l=>by obtain⟨_,rfl⟩:=F4 l;exact h _
theorem GF.b2(g:GF K x st f fd)(h:∀ u v,Bn x st [u,v] [(p,u),(p2,v)]):dQ K fd [p,p2] []:=g.b λz l=>by obtain⟨_,_,rfl⟩:=len_2 l;exact h _ _
theorem GF.b3(g:GF K x st f fd)(h:∀ u v y,Bn x st [u,v,y] [(p,u),(p2,v),(p3,y)]):dQ K fd [p,p2,p3] []:=g.b λz l=>by obtain⟨_,_,_,rfl⟩:=len_3 l;exact h _ _ _
theorem GF.b4(g:GF K x st f fd)(h:∀ u v y z,Bn x st [u,v,y,z] [(p,u),(p2,v),(p3,y),(p4,z)]):dQ K fd [p,p2,p3,p4] []:=g.b λc l=>by obtain⟨_,_,_,_,rfl⟩:=F3 l;exact h _ _ _ _
theorem Wr.c1(W:Wr P w K mg base)(g:GF K x st f fd)(o:FnOk P w K mg base CX0 k f fd [p] sp)(h:∀ u,Bn x st [u] [(p,u)]:=by intros _ _ _ _ _ _ _;rfl):Cal P w K mg base k x [p] sp f fd:=W.c g (g.b1 h) o
theorem Wr.c2(W:Wr P w K mg base)(g:GF K x st f fd)(o:FnOk P w K mg base CX0 k f fd [p,p2] sp)(h:∀ u v,Bn x st [u,v] [(p,u),(p2,v)]:=by intros _ _ _ _ _ _ _ _;rfl):Cal P w K mg base k x [p,p2] sp f fd:=W.c g (g.b2 h) o
theorem Wr.c3(W:Wr P w K mg base)(g:GF K x st f fd)(o:FnOk P w K mg base CX0 k f fd [p,p2,p3] sp)(h:∀ u v y,Bn x st [u,v,y] [(p,u),(p2,v),(p3,y)]:=by intros _ _ _ _ _ _ _ _ _;rfl):Cal P w K mg base k x [p,p2,p3] sp f fd:=W.c g (g.b3 h) o
theorem Wr.c4(W:Wr P w K mg base)(g:GF K x st f fd)(o:FnOk P w K mg base CX0 k f fd [p,p2,p3,p4] sp)(h:∀ u v y z,Bn x st [u,v,y,z] [(p,u),(p2,v),(p3,y),(p4,z)]:=by intros _ _ _ _ _ _ _ _ _ _;rfl):Cal P w K mg base k x [p,p2,p3,p4] sp f fd:=W.c g (g.b4 h) o
theorem Wr.d1(W:Wr P w K mg base)(g:GF K x st f fd)(o:FnOk P w K mg base (CXd P w) k f fd [p] sp)(h:∀ u,Bn x st [u] [(p,u)]:=by intros _ _ _ _ _ _ _;rfl):CalD P w K mg base k x [p] sp f fd:=⟨o,g.b1 h,W.g g.a,g.F.kp⟩
theorem Wr.d2(W:Wr P w K mg base)(g:GF K x st f fd)(o:FnOk P w K mg base (CXd P w) k f fd [p,p2] sp)(h:∀ u v,Bn x st [u,v] [(p,u),(p2,v)]:=by intros _ _ _ _ _ _ _ _;rfl):CalD P w K mg base k x [p,p2] sp f fd:=⟨o,g.b2 h,W.g g.a,g.F.kp⟩
end
theorem Cy{c T:Addr}{g:Value}{b d:Option Addr}{h i:Array (Option Value)}{vs:Array Value}(a:HJ K LU x=some (some (.ref f)))(l:K.lookup f=some ⟨u,b,.func fd,h⟩)(e:fd.code=.ref c)(j:K.lookup c=some ⟨g,d,.fields vs,i⟩)(v:vs[11]?=some (.ref T)):Jz K x=some (c,T):=by
 unfold Jz;rw[a];simp only[l,e,j,v]
theorem all_mk{l:Lo}{w:World}{K:GX}{h:Heap}{mg:Str->Option Value}{j fK cH cG iH O Y a2 Bx Bw DR yS qV DM Gn oE wj iy vR DO Bv BA BB DQ Gv DN DP tS qR vS yR yQ Gs bE fH bS eG DL aa By yW tQ vQ yP qS oB nK cD vP ab tR qT BC yV yU tV vY wc vZ mq we Bz vX tU vU yT vV nL qU nM Gu:Addr}{cT TT:Addr}{Q:Value}{dT:Option Addr}{vT:Array Value}{f:Array (Option Value)}(X:K.In h)(G:h.Ns LU mg) (q:mg "law"=some (.ref j))
  {Dj Eg qw rQ vj xj qv rP sV uy qu rO ac E1:Option Addr} {CF pP uK pO r8 pN ae:Array (Option Value)} {Dk Dy DX CN rH D9 qA qH rh qo kZ rF vk vF wA uY n8 wU qz qG qZ qm kY rE sW tH t5 sL lX ue qy qF qY qk kX rD al EM EV EC B5 EW:Value}
  {E H:Tok}
  {am an a3 BR BQ D5 ze DZ Gy oH wQ nX wD D2 BP BV BX D4 GB D1 D3 ub rq wF zc zb GA DY ap BS zi t6 wC za rA oG nU wB aI ua rB BY zh zg ud wJ wN wK mv wO BU wI uc wG zf wH nV rC nW:FuncData}
  (jU:HJ K LU "TooRough"=some (some (.ref fK)))
  (xn:HJ K LU "Pull"=some (some (.ref cH)))
  (xk:HJ K LU "Push"=some (some (.ref cG)))
  (Cf:HJ K LU "Web"=some (some (.ref iH)))
  (ic:HC K (.ref cH) "__init__"=some (some (.ref bE)))
  (ib:HC K (.ref cH) "wish"=some (some (.ref fH)))
  (fA:HC K (.ref cH) "across"=some (some (.ref bS)))
  (h9:HC K (.ref cG) "__init__"=some (some (.ref bE)))
  (h7:HC K (.ref cG) "wish"=some (some (.ref eG)))
  (fz:HC K (.ref cG) "across"=some (some (.ref bS)))
  (jK:HC K (.ref iH) "__init__"=some (some (.ref cD)))
  (yd:GF K "bits" xG O am)
  (ya:GF K "ones" xF Y an)
  (DH:GF K "odd" CJ a2 a3)
  (fG:GF K "mask_of" kf Bx BR)
  (kK:GF K "reached" ke Bw BQ)
  (mQ:GF K "beyond" mE DR D5)
  (iU:GF K "links_at" iN yS ze)
  (mK:GF K "row_to" mB DM DZ)
  (qN:GF K "whole" pT Gn Gy)
  (di:GF K "refuse_marks" de oE oH)
  (gL:GF K "chosen_of" fZ wj wQ)
  (aW:GF K "laid_in_pairs" bO iy nX)
  (gA:GF K "new_table" fX vR wD)
  (mM:GF K "paired" mC DO D2)
  (kJ:GF K "root_of" kc Bv BP)
  (kN:GF K "heights" kh BA BV)
  (kP:GF K "dryings" ki BB BX)
  (mP:GF K "joined" mD DQ D4)
  (qP:GF K "hills" pY Gv GB)
  (mL:GF K "pushes" pV DN D1)
  (mO:GF K "odd_at" pW DP D3)
  (fe:GF K "odd_rounds" gY tS ub)
  (dJ:GF K "refuse_ties" fT qR rq)
  (gB:GF K "laying_of" jj vS wF)
  (iT:GF K "links_of" lj yR zc)
  (dU:GF K "marks_of" iM yQ zb)
  (qO:GF K "least" uS Gs GA)
  (mJ:GF K "tie_of" pU DL DY)
  (yc:GF K "head" An aa ap)
  (kL:GF K "leaving" m8 By BS)
  (iZ:GF K "follower" lB yW zi)
  (eY:GF K "round_from" gW tQ t6)
  (gz:GF K "rounds_of" ji vQ wC)
  (iS:GF K "sides_of" lh yP za)
  (dM:GF K "refuse_ends" fU qS rA)
  (dh:GF K "refuse_turns" fx oB oG)
  (cO:GF K "refuse_parted" dY nK nU)
  (gy:GF K "with_pull" jh vP wB)
  (x9:GF K "roof" Am ab aI)
  (eZ:GF K "paid_alike" gX tR ua)
  (dN:GF K "paid_unlike" fV qT rB)
  (kQ:GF K "at_pull" ng BC BY)
  (iY:GF K "_law_cell" lA yV zh)
  (iX:GF K "_law_head" lu yU zg)
  (fk:GF K "_law_behind" g7 tV ud)
  (gF:GF K "_law_round" jt vY wJ)
  (gH:GF K "_law_grown" jv wc wN)
  (gG:GF K "_law_order" ju vZ wK)
  (cf:GF K "_law_renumbered" du mq mv)
  (gK:GF K "_law_built" jw we wO)
  (kM:GF K "_law_web" m9 Bz BU)
  (gE:GF K "_law_sides" jr vX wI)
  (fj:GF K "_law_denied" gZ tU uc)
  (gC:GF K "_law_worth" jo vU wG)
  (iW:GF K "_law_mask" lr yT zf)
  (gD:GF K "_law_small" jq vV wH)
  (cP:GF K "_law_odd_count" dZ nL nV)
  (dP:GF K "_law_roof_of" fY qU rC)
  (cQ:GF K "_law_none_less" eh nM nW)
  (oi:HJ K LU "fares"=some (some (.ref qV)))
  (qD:K.lookup qV=some ⟨Dk,Dj,.func (IC "fares" "fares" (cZ g8) (b7 g8) (ar g8) .none Dy DX CN Eg rH D9),CF⟩)
  (wZ:IY K rH "fares"=true)
  (qE:HV K (.ref qV)=true)
  (iq:K.lookup bE=some ⟨qA,qw,.func (IC "__init__" "Tie.__init__" (cZ cC) (b7 cC) (ar cC) .none qH rh qo rQ kZ rF),pP⟩)
  (iE:IY K kZ "Tie.__init__"=true)
  (iu:HV K (.ref bE)=true)
  (eX:JF K (.ref bE)=true)
  (lG:K.lookup fH=some ⟨vk,vj,.func (IC "wish" "Tie.wish" (cZ dS) (b7 dS) (ar dS) .none vF wA uY xj n8 wU),uK⟩)
  (lL:IY K n8 "Tie.wish"=true)
  (iR:HV K (.ref fH)=true)
  (lH:JF K (.ref fH)=true)
  (ik:K.lookup bS=some ⟨qz,qv,.func (IC "across" "Tie.across" (cZ cA) (b7 cA) (ar cA) .none qG qZ qm rP kY rE),pO⟩)
  (iD:IY K kY "Tie.across"=true)
  (dq:HV K (.ref bS)=true)
  (eU:JF K (.ref bS)=true)
  (jM:K.lookup eG=some ⟨sW,sV,.func (IC "wish" "Push.wish" (cZ cX) (b7 cX) (ar cX) .none tH t5 sL uy lX ue),r8⟩)
  (jT:IY K lX "Push.wish"=true)
  (gu:HV K (.ref eG)=true)
  (jO:JF K (.ref eG)=true)
  (ij:K.lookup cD=some ⟨qy,qu,.func (IC "__init__" "Web.__init__" (cZ cz) (b7 cz) (ar cz) .none qF qY qk rO kX rD),pN⟩)
  (iC:IY K kX "Web.__init__"=true)
  (ir:HV K (.ref cD)=true)
  (iw:JF K (.ref cD)=true)
  (Eh:HJ K LU "law"=some (some (.ref Gu)))
  (F6:K.lookup Gu=some ⟨al,ac,.func (IC "law" "law" (cZ pX) (b7 pX) (ar pX) .none EM EV EC E1 B5 EW),ae⟩)
  (GD:IY K B5 "law"=true)
  (F8:HV K (.ref Gu)=true)
  (fL:LF K fK veM "ValueError.__new__"=true)
  (bZ:JG K fK (.ref fK)=some true)
  (u9:Jp K cH Str.empty=true)
  (vK:JA K cH=true)
  (uX:JO K cH=true)
  (uR:HC K (.ref cH) "__setattr__"=some (some (.builtin "object.__setattr__")))
  (vt:J1 K cH=true)
  (vC:HV K (.ref cH)=true)
  (jJ:HC K (.ref cH) "one"=some none)
  (jI:HC K (.ref cH) "two"=some none)
  (dA:HC K (.ref cH) "strength"=some none)
  (u6:Jp K cG Str.empty=true)
  (vJ:JA K cG=true)
  (uW:JO K cG=true)
  (uQ:HC K (.ref cG) "__setattr__"=some (some (.builtin "object.__setattr__")))
  (vq:J1 K cG=true)
  (vB:HV K (.ref cG)=true)
  (jH:HC K (.ref cG) "one"=some none)
  (jG:HC K (.ref cG) "two"=some none)
  (dw:HC K (.ref cG) "strength"=some none)
  (AA:Jp K iH Str.empty=true)
  (Bp:JA K iH=true)
  (Av:JO K iH=true)
  (Al:HC K (.ref iH) "__setattr__"=some (some (.builtin "object.__setattr__")))
  (AV:J1 K iH=true)
  (A8:HV K (.ref iH)=true)
  (jF:HC K (.ref iH) "many"=some none)
  (jE:HC K (.ref iH) "ties"=some none)
  (g9:HC K (.ref iH) "turns"=some none)
  (gq:HC K (.ref iH) "rounds"=some none)
  (hO:HC K (.ref iH) "sides"=some none)
  (vL:HJ K LU "MOST_MARKS"=some (some (.int 14 E)))
  (vM:HJ K LU "MOST_ODD"=some (some (.int 12 H)))
  (E8:HJ K LU "len"=some none)
  (E9:HJ K LU "int"=some none)
  (zF:HJ K LU "bool"=some none)
  (zD:HJ K LU "list"=some none)
  (uA:HJ K LU "tuple"=some none)
  (uB:HJ K LU "range"=some none)
  (jf:HJ K LU "enumerate"=some none)
  (gU:HJ K LU "isinstance"=some none)
  (E6:HJ K LU "min"=some none)
  (E4:HJ K LU "sum"=some none)
  (pC:HJ K LU "sorted"=some none)
  (E7:HJ K LU "max"=some none)
  (E3:HJ K LU "zip"=some none)
  (Fb:HJ K LU "abs"=some none)
  (zE:HJ K LU "dict"=some none)
  (k8:HJ K LU "reversed"=some none)
  (E5:HJ K LU "set"=some none)
  (tbc:rH=.ref cT) (tbl:K.lookup cT=some ⟨Q,dT,.fields vT,f⟩) (tbv:vT[11]?=some (.ref TT)) (tbn:K.lookup TT=none)
  : ∃ fd:FuncData,(∀(s:Shared)(v:Value),BindsTo s fd ⟨[v],[]⟩ [("script",v)])/\∃ c T,Jz K "fares"=some (c,T)/\K.lookup T=none/\∀ base:Heap,K.In base->base.Ns LU mg->Js base c T->Bm mg base->FnOk l.prog w K mg base CX0 14 j fd ["script"] (pJ K T):=by
 have ba:=Cy oi qD tbc tbl tbv;have e:=q.symm.trans (Je X G Eh)
 cases e
 have Co:=fun_mk (st:=g8) qD wZ qE;have GJ:=Co.binds (ps:=["many","links","start"]) λ_ _ _ _ _ _ z u=>by obtain⟨p,r,I,rfl⟩:=len_3 u;rfl
 have l8:=fun_mk (st:=cC) iq iE iu;have lZ:=l8.binds (ps:=["self","one","two","strength"]) λ_ _ _ _ _ _ z u=>by obtain⟨p,r,I,n,rfl⟩:=F3 u;rfl
 have pB:=fun_mk (st:=dS) lG lL iR;have zu:=pB.binds (ps:=["self"]) λ_ _ _ _ _ _ z u=>by obtain⟨p,rfl⟩:=F4 u;rfl
 have iG:=fun_mk (st:=cA) ik iD dq;have lY:=iG.binds (ps:=["self","place"]) λ_ _ _ _ _ _ z u=>by obtain⟨p,r,rfl⟩:=len_2 u;rfl
 have oo:=fun_mk (st:=cX) jM jT gu;have xi:=oo.binds (ps:=["self"]) λ_ _ _ _ _ _ z u=>by obtain⟨p,rfl⟩:=F4 u;rfl
 have l7:=fun_mk (st:=cz) ij iC ir;have uw:=l7.binds (ps:=["self","many","ties","turns"]) λ_ _ _ _ _ _ z u=>by obtain⟨p,r,I,n,rfl⟩:=F3 u;rfl
 have a4:=fun_mk (st:=pX) F6 GD F8;refine⟨IC "law" "law" (cZ pX) (b7 pX) (ar pX) .none EM EV EC E1 B5 EW,λs v=>.of_eq rfl,cT,TT,ba,tbn,λbase _ _ L C=>?_⟩;have F1:=Je X G oi;have ca:=Je X G Eh;have yJ:=Je X G jU;have aT:=Je X G xn;have a0:=Je X G xk;have a5:=Je X G Cf;have bb:=Je X G vL;have modd:=Je X G vM;have J:=HP X G E8;have M:=HP X G E9;have A:=HP X G zF;have o:=HP X G zD;have t:=HP X G uA;have x:=HP X G uB;have k:=HP X G jf;have i:=HP X G gU;have N:=HP X G E6;have a6:=HP X G E4;have n_sorted:=HP X G pC;have n_max:=HP X G E7;have n_zip:=HP X G E3;have a7:=HP X G Fb;have b6:=HP X G zE;have n_reversed:=HP X G k8;have n_set:=HP X G E5;have W:Wr l.prog w K mg base:=⟨λe=>Je X G e⟩;have y:CT K cH:=⟨⟨u9,vK,uX,uR⟩,jJ,jI,dA⟩;have TS:CT K cG:=⟨⟨u6,vJ,uW,uQ⟩,jH,jG,dw⟩;have d:CW K iH:=⟨⟨AA,Bp,Av,Al⟩,jF,jE,g9,gq,hO⟩;have T:Txt mg:=⟨J,M,A,o,t,x,k,i,N,a6,n_sorted⟩;have GI:FnOk l.prog w K mg base CX0 1 bE _ _ (lN K):=FP l8;have ML:Mak l.prog w K mg base 1 "Pull" _ (lN K) cH bE _:=⟨⟨vt,ic,eX,vC⟩,GI,lZ,aT⟩;have MS:Mak l.prog w K mg base 1 "Push" _ (lN K) cG bE _:=⟨⟨vq,h9,eX,vB⟩,GI,lZ,a0⟩;have Gh:=W.c2 yc (FQ yc.F);have Gl:=W.c3 kL (yC kL.F);have Gf:=W.c3 iZ (vi iZ.F T Gh Gl);have Gr:=W.c3 eY (FR eY.F Gf);have GR:=W.c2 gz (AM gz.F T Gr);have GS:=W.c2 iS (C5 iS.F T);have wL:Met l.prog w K mg base 1 cH "wish" _ (i6 false) fH _:=⟨⟨ib,lH,iR⟩,C0 pB,zu⟩;have wS:Met l.prog w K mg base 1 cG "wish" _ (i6 true) eG _:=⟨⟨h7,jO,gu⟩,CZ oo,xi⟩;have Gm:=W.c1 (sp:=(mY K)) fG (KF.ok_mask fG.F);have Gp:=W.c1 mL (FL mL.F T d y TS Gm wL wS);have Go:=W.c3 (sp:=(pI cH cG iH)) mO (C9 mO.F T d);have Gq:=W.c1 fe (FN fe.F T d Gm Gp Go);have R1:=W.c2 dM (C7 dM.F);have R2:=W.c3 dh (AL dh.F T);have bd:=W.c2 kK (KF.ok_reached kK.F);have R3:=W.c2 cO (C6 cO.F bd);have WI:FnOk l.prog w K mg base CX0 5 cD _ _ (mX K):=C3 l7 T R1 R2 R3 GR GS;have MW:Mak l.prog w K mg base 5 "Web" _ (mX K) iH cD _:=⟨⟨AV,jK,iw,A8⟩,WI,uw,a5⟩;have Gc:=W.c2 iY (FT iY.F T);have L1:=W.c2 iX (Df iX.F);have cb:=W.c3 fk (yD fk.F T L1);have L3:=W.c3 gF (AO gF.F cb);have L4:=W.c1 gH (Di gH.F T L3 L1);have L5:=W.c2 gG (C8 gG.F T);have L6:=W.c2 cf (ok_ren cf.F T L5);have L7:=W.c3 gK (AQ gK.F T L4 L6 Gc);have L8:=W.c1 kM (FO kM.F T ML MS y TS MW d);have kT:KF.Txt mg:=⟨J,M,A,o,t,x,N,a7,k,i⟩;have be:=W.c2 mQ (KF.ok_bey mQ.F);have cc:=W.c2 iU (KF.ok_at iU.F kT);have bi:Cal l.prog w K mg base 2 "fares" _ (KF.spFares TT) qV _:=⟨KF.ok_fares Co kT ba oi L C cc be,GJ,F1,qE⟩;have cd:=W.c2 qN (KF.ok_whl qN.F bd);have ce:=W.c3 mK (KF.ok_row mK.F ⟨o,n_reversed⟩ be);have B:=W.c1 yd (KF.ok_bits yd.F);have a1:=W.c1 ya (KF.ok_ones ya.F kT B);have ch:=W.c1 DH (KF.ok_odd DH.F a1);have ci:=W.c1 fG (KF.ok_mask fG.F);have bm:=W.c3 di (KF.ok_ref di.F ⟨⟨_,bb⟩⟩ ch cd a1);have bn:=W.c2 gL (KF.ok_chosen gL.F);have bp:=W.c0 gA (KF.ok_table gA.F);have bv:∀(D:Nat->Nat->Int)(m:Nat),(∀ a b,D a b=D b a)->Cal l.prog w K mg base 10 "laid_in_pairs" _ (KF.spLaid D m 8) iy _:=λD m sy=>⟨KF.ok_laid sy aW.F kT B (aW.b3 λ_ _ _=>by intros _ _ _ _ _ _;rfl) (W.g aW.a) aW.F.kp 8,(aW.b3 λ_ _ _=>by intros _ _ _ _ _ _;rfl),(W.g aW.a),aW.F.kp⟩
 have bB:=W.c3 mM (KF.ok_paired mM.F kT bm B bi bn bp bv ci ce);have bR:KF.TxtZ mg:={kT with n_zip:=n_zip};have bU:KF.TxtH mg:={bR with n_reversed:=n_reversed,n_sorted:=n_sorted,n_set:=n_set};have b0:=W.c1 kJ (KF.ok_root kJ.F B);have ck:=W.c3 kN (KF.ok_hts kN.F bR bm B bi bn bp bv b0);have cl:=W.c2 kP (KF.ok_dry kP.F bU);have cn:=W.c2 mP (KF.ok_join mP.F kT B);have co:=W.c3 qP (KF.ok_hills qP.F bU ck cl b0 cn);have TO:TxtO mg fK:={T with n_zip:=n_zip,modd:=⟨_,modd⟩,n_max:=n_max,g_TooRough:=yJ};have cp:=W.d1 dU (Dd dU.F TO fL Gq a1);have cs:=W.c1 dU (AN dU.F TO Gq a1);have TZ:TxtZ mg:={T with n_zip:=n_zip};have b5:=W.c1 iT (De iT.F TZ d y TS);have ct:=W.c2 gD (C4 gD.F T);have aL:Met l.prog w K mg base 1 cH "across" _ (jY cH) bS _:=⟨⟨fA,eU,dq⟩,sS iG y,lY⟩;have aS:Met l.prog w K mg base 1 cG "across" _ (jY cG) bS _:=⟨⟨fz,eU,dq⟩,sS iG TS,lY⟩;have M1:=W.c2 dJ (ok_rt dJ.F T d Gp Go);have M2:=W.c2 gB (ok_lo gB.F T d y TS M1 Gm aL aS wL wS);have N2:=W.c3 fj (ok_den fj.F);have N3:=W.c2 gC (ok_wor gC.F T N2);have N4:=W.c1 gE (ok_sd gE.F T L3);have N7:=W.c2 iW (Dc iW.F);have M3:=W.c1 (sp:=(uI TT cH cG iH)) qO (Dg qO.F TO d cs b5 bB M2 co);have M6:=W.d2 x9 (FK x9.F TO d y TS cp b5 bB wL wS);have N1:=W.c2 dP (ok_ro dP.F TO fL bZ M6);have N5:=W.c3 cP (ok_oc cP.F T N4);have N8:=W.c4 cQ (ok_nl cQ.F T N3 N7 N2);have P1:=W.c3 mJ (ok_of mJ.F ML MS y TS);have P2:=W.c3 gy (FJ gy.F T P1 MW d y TS);have P3:=W.c1 eZ (ok_pa eZ.F TO);have P4:=W.c1 dN (ok_pu dN.F TO);have P5:=W.c2 kQ (ok_atp kQ.F TO P3 P4);exact ok_law a4 TO d L7 Gc ct L8 N1 N5 N8 P2 M3 P5
theorem walk{l:Lo}{q:Program}{E:List Str}{N:(Str->Option Value)->Heap->Prop}{H:World->Heap->Prop}{d:DefRec}{K:Params->GX}(i:l.most=some 63)(m:d.params.defaults=[])(g:∀(w:World)(h:Heap),H w h->(K w.params).In h)(y:((PyProof.Rows.recsOf q).find? (λe=>e.name == ("fares" : Str))).isSome=true)(F:∀(w:World)(mg:Str->Option Value)(j:Addr)(h:Heap),(K w.params).In h->h.Ns LU mg->mg d.name=some (.ref j) ->
   ∃ fd:FuncData,(∀(s:Shared)(u:Value),BindsTo s fd ⟨[u],[]⟩ [("script",u)])/\∃ c T,Jz (K w.params) "fares"=some (c,T)/\(K w.params).lookup T=none/\∀ base:Heap,(K w.params).In base->base.Ns LU mg->Js base c T->Bm mg base->FnOk l.prog w (K w.params) mg base CX0 14 j fd ["script"] (pJ (K w.params) T)):
  PySem.W.WalkO q E N H l.row.toRowW d [] (λf vs=>PySem.call f vs) :=
 L2.walk_ofT (n:=63) (k:=14) (x:="script") (CX:=CX0) (sp:=λK T=>pJ K T) i (by decide) m ⟨rfl,by decide,by decide⟩ g (Option.some_get y).symm F (λ_ _ _ a b G Y I=>⟨a,b,rfl,I,G,.inl Y,λ_=>rfl⟩) λ_ _ _ _ z=>z
end K8
namespace PySem.W.Fast
def tw7082083127738775591:=Nat
def tw3155555089291873195:=Nat
def tw7036692489748201653:=Nat
def tw6997235255534896598:=Nat
def tw15851674931087205089:=Nat
def tw5946752779338742716:=Nat
def tw4455818366178034375:=Nat
def tw1187266133712922633:=Nat
def tw14449628931184101625:=Nat
def tw12119692769704234625:=Nat
def tw3955214105504374876:=Nat
def tw7486437397366735068:=Nat
def tw1773164523148239264:=Nat
def tw9625686914939468806:=Nat
def tw10700740519014750279:=Nat
def tw5280025414918059196:=Nat
def tw7110350345441891758:=Nat
def tw1375538237842442001:=Nat
def tw11140123403862283336:=Nat
def tw7860667239414109230:=Nat
def tw17869106639580857709:=Nat
def tw13477392503479037775:=Nat
def tw9749001104012053931:=Nat
def tw8854967023727270129:=Nat
def tw10105856822437866376:=Nat
def tw7322303752430376662:=Nat
def tw15497704571136817006:=Nat
def tw11428299145802089403:=Nat
def tw6348295086081350671:=Nat
def tw10949975216979859985:=Nat
def tw15619086025802913236:=Nat
def tw8863526397183195265:=Nat
def tw9864914544649781729:=Nat
def tw14234815292031021515:=Nat
def tw9533250357290152175:=Nat
def tw15807740639416227647:=Nat
def tw15544409828060564981:=Nat
def tw14071654798083335701:=Nat
def tw17910596296927802919:=Nat
def tw13032422225654171791:=Nat
def tw6913917819125976934:=Nat
def tw10069137454588156147:=Nat
def tw2201052522797406751:=Nat
def tw16075224374174442674:=Nat
def tw11613757006943004622:=Nat
def tw933570027463836136:=Nat
def tw6003002737002052009:=Nat
def tw6580379366795109723:=Nat
def tw3314109573937328048:=Nat
def tw11123996577560981193:=Nat
def tw11844893420093653919:=Nat
def tw8140346322111713361:=Nat
def tw10628108077076705475:=Nat
def tw14220838746367909715:=Nat
def tw12571768566192822975:=Nat
def tw11996845084782319588:=Nat
def tw17007948653245758887:=Nat
def tw16330676967847475920:=Nat
def tw3688360700945605168:=Nat
def tw3021375818306928552:=Nat
def tw2608953590090816040:=Nat
def tw14217425242377756826:=Nat
def tw9116565779513378826:=Nat
def tw8517161683596027205:=Nat
def tw8467514754024643872:=Nat
def tw7984029124394347782:=Nat
def tw5697216273865701519:=Nat
def tw3765659911564091863:=Nat
def tw240836769232263414:=Nat
def tw17968445357380629728:=Nat
def tw16056091150664284027:=Nat
def tw10161706824374706695:=Nat
def tw11507334778748232913:=Nat
def tw3388732339236911046:=Nat
def tw1753694438341222784:=Nat
def tw15982154745607213773:=Nat
def tw1311293042464754392:=Nat
def tw16287038318987885946:=Nat
def tw3236633823707890349:=Nat
def tw4398742993039360551:=Nat
def tw4269921473805214229:=Nat
def tw2883284189505886051:=Nat
def tw6624417554342565367:=Nat
def tw7725633645842970435:=Nat
def tw657362694696789906:=Nat
def tw13835867011129008530:=Nat
def tw2369458710162176749:=Nat
def tw18232595090813217019:=Nat
def tw16216017327308359241:=Nat
def tw1531191287023924789:=Nat
def tw2419850178731725233:=Nat
def tw12680979688306937071:=Nat
def tw16589512993091693561:=Nat
def tw13812980531941846006:=Nat
def tw4665850767564725853:=Nat
def tw9348226346918022126:=Nat
def tw2684899452896069494:=Nat
def tw1395942795198079716:=Nat
def tw3988998861529218440:=Nat
def tw12377964293629772985:=Nat
def tw15301902221132847002:=Nat
def tw921313997412020997:=Nat
def tw8091612337763948299:=Nat
def tw2793928306360509302:=Nat
def tw12491954094177525538:=Nat
def tw10900155627137355151:=Nat
def tw14806434937508338591:=Nat
def tw13138848972245536541:=Nat
def tw10337617606810866124:=Nat
def tw15779516866357911400:=Nat
def tw867035004259907183:=Nat
def tw15081228558182995661:=Nat
def tw9344429896498173905:=Nat
def tw8921852816737368046:=Nat
def tw8731329540925006803:=Nat
def tw8459354829460444750:=Nat
def tw8243299178293972134:=Nat
def tw8213698626909181934:=Nat
def tw6747855659526281538:=Nat
def tw6616527996853712091:=Nat
def tw6377211204655117267:=Nat
def tw5674882037118686155:=Nat
def tw4911521610141783590:=Nat
def tw291486824985660052:=Nat
def tw16999852599923943606:=Nat
def tw15724100226613610966:=Nat
def tw15381539510464543994:=Nat
def tw15186824559273717211:=Nat
def tw14758405001612776288:=Nat
def tw14529291659172406215:=Nat
def tw12839687535900502384:=Nat
def tw10400545093738081802:=Nat
def tw10003496848284138033:=Nat
def tw9237364656884101907:=Nat
def tw9232743547954730539:=Nat
def tw8306980501964886524:=Nat
def tw8108415193773874657:=Nat
def tw7929853252588320005:=Nat
def tw3424672547362561605:=Nat
def tw17714181639765185498:=Nat
def tw1708851844971409341:=Nat
def tw16305984823543899357:=Nat
def tw13673337940881597606:=Nat
def tw12674755953812070957:=Nat
def tw11195188378424628479:=Nat
def tw17094029953611651779:=Nat
def tw8318562608382348960:=Nat
def tw8189986548990117985:=Nat
def tw8040896528098856398:=Nat
def tw6681101201780170571:=Nat
def tw6143867193590349920:=Nat
def tw6047589575600190862:=Nat
def tw4745102194716600982:=Nat
def tw4657373948815229143:=Nat
def tw16944909213280194583:=Nat
def tw13149945368164640674:=Nat
def tw9172876294935347523:=Nat
def tw9747577835712237284:=Nat
def tw8413291876939613321:=Nat
def tw11266507717746773385:=Nat
def tw13901500615833096202:=Nat
def tw13131154624641553130:=Nat
def tw3903855909435204396:=Nat
def tw18360851842722268270:=Nat
def tw7193332652929072974:=Nat
def tw1244045876548772850:=Nat
def tw3768011895161193043:=Nat
def tw9180465987265984435:=Nat
def tw5211556205775994138:=Nat
def tw16331408293741064667:=Nat
def tw6170685757726570429:=Nat
def tw10212357448470959294:=Nat
def tw15735360236861492415:=Nat
def tw7182031983539426911:=Nat
def tw10628609958872958080:=Nat
def tw14158059022197895584:=Nat
def tw12417677684620963328:=Nat
def tw7735399642940726816:=Nat
def tw15671454527399315200:=Nat
def tw14779879945870743328:=Nat
def tw2506452370621350816:=Nat
def tw7143805475833904096:=Nat
def tw6255544388264939617:=Nat
def tw143697091278044257:=Nat
def tw11325548532370815105:=Nat
def tw8327542812832056449:=Nat
def tw2778636370919436513:=Nat
def tw1449625059895206209:=Nat
def tw4488386237396514369:=Nat
def tw4649241870321390177:=Nat
def tw10041203045311171265:=Nat
def tw10424108231733993377:=Nat
def tw16195740575875043330:=Nat
def tw3837999840539668738:=Nat
def tw17399455775625402722:=Nat
def tw9169200888864848642:=Nat
def tw1426308698999181186:=Nat
def tw13227032803847689090:=Nat
def tw9492345239650349219:=Nat
def tw18297312835053763811:=Nat
def tw13673735501187664131:=Nat
def tw14120308923598384483:=Nat
def tw5255599863821255011:=Nat
def tw12426500516979795587:=Nat
def tw16658435471289782947:=Nat
def tw3832823156481495779:=Nat
def tw2640361592123615075:=Nat
def tw12623842399520177059:=Nat
def tw10169885159219814339:=Nat
def tw18118871870048457667:=Nat
def tw12499508928757232579:=Nat
def tw2853538171978284196:=Nat
def tw13640265242025989732:=Nat
def tw15356307403114994564:=Nat
def tw2071641011672495012:=Nat
def tw8588959311558965156:=Nat
def tw3926822165044100036:=Nat
def tw9358828651359662052:=Nat
def tw9954309741625924741:=Nat
def tw10565172212594084165:=Nat
def tw11365130142713109861:=Nat
def tw18212575077622589893:=Nat
def tw3396491971268147749:=Nat
def tw4854002760341802597:=Nat
def tw8900135339562744549:=Nat
def tw2307720294806665989:=Nat
def tw15600537538943556549:=Nat
def tw4175197067005773862:=Nat
def tw11095856432595957830:=Nat
def tw13153461188672958534:=Nat
def tw4390466109481655558:=Nat
def tw10792302623125513606:=Nat
def tw16050534637535104486:=Nat
def tw14778579574690023014:=Nat
def tw496160864545533606:=Nat
def tw13838759584050489094:=Nat
def tw16728306664294997958:=Nat
def tw12474301279486672039:=Nat
def tw16106472861175766567:=Nat
def tw5104501098846956552:=Nat
def tw417649980237206536:=Nat
def tw12340212928639483976:=Nat
def tw6392749049005978728:=Nat
def tw16347272356898782568:=Nat
def tw14384162551787312552:=Nat
def tw12191759771977989640:=Nat
def tw12417146673960973832:=Nat
def tw10399043464092993096:=Nat
def tw543702576366277576:=Nat
def tw6692454494264258761:=Nat
def tw11727108680556461321:=Nat
def tw17074443315220148681:=Nat
def tw3242842092497934825:=Nat
def tw6640435567499979850:=Nat
def tw17741263291580006634:=Nat
def tw16461559321400201482:=Nat
def tw7890144495702900682:=Nat
def tw13142861299766438091:=Nat
def tw12172597784387960011:=Nat
def tw17524696353977079115:=Nat
def tw14705822927027147307:=Nat
def tw16189748030446487243:=Nat
def tw15666698056032707307:=Nat
def tw1979367146842629963:=Nat
def tw17525586675086833708:=Nat
def tw12759071824512501804:=Nat
def tw2828442096273389132:=Nat
def tw11546170142448166572:=Nat
def tw8985421418277096140:=Nat
def tw15518015100403588173:=Nat
def tw9035150470685934701:=Nat
def tw5922981406973069613:=Nat
def tw10681542496968410509:=Nat
def tw10063647592745906733:=Nat
def tw9073506288014406253:=Nat
def tw2151870661591281742:=Nat
def tw3621067529571523694:=Nat
def tw16696642353343634638:=Nat
def tw1836177816065923502:=Nat
def tw13280338576033648078:=Nat
def tw18197655053611913742:=Nat
def tw16291729605070080526:=Nat
def tw12463436862842800686:=Nat
def tw4633645426008233646:=Nat
def tw2100636660720418478:=Nat
def tw16192866162961021646:=Nat
def tw14393703846526603022:=Nat
def tw17993598414509010702:=Nat
def tw17918333207407374126:=Nat
def tw2368283582540246383:=Nat
def tw6316410378504195471:=Nat
def tw10219877290817973647:=Nat
def tw13569840264955418159:=Nat
def tw7806312334734751375:=Nat
def tw15558495335751531183:=Nat
def tw12296790400556005263:=Nat
def tw298543136886325135:=Nat
def tw17958561017800927376:=Nat
def tw18141441769214792880:=Nat
def tw4961384275235749232:=Nat
def tw6880435867009749392:=Nat
def tw16048248371783955888:=Nat
def tw11030038105027082672:=Nat
def tw11431183262194639344:=Nat
def tw7641556750050800144:=Nat
def tw17428956743159179856:=Nat
def tw4710344288759128048:=Nat
def tw8438753442573619184:=Nat
def tw11021326465788943377:=Nat
def tw9987160866814555345:=Nat
def tw17240682567379006929:=Nat
def tw8927228440302302737:=Nat
def tw11637152705645763377:=Nat
def tw15845766878663572690:=Nat
def tw13773214365325370738:=Nat
def tw7766087166718782834:=Nat
def tw14752176753285161394:=Nat
def tw15426879389999384018:=Nat
def tw13594552589021646322:=Nat
def tw159192299093917266:=Nat
def tw2988946036052605554:=Nat
def tw4477054204453350547:=Nat
def tw9387761490786941107:=Nat
def tw18255668413097987443:=Nat
def tw16639454919661900147:=Nat
def tw3704305300294715795:=Nat
def tw16003386887643467187:=Nat
def tw4306983528627634643:=Nat
def tw6236795843544522227:=Nat
def tw8439632304928366291:=Nat
def tw14549312524852387603:=Nat
def tw12427455236435879891:=Nat
def tw13691264142265290260:=Nat
def tw6243652518611426868:=Nat
def tw4473977677208982228:=Nat
def tw17241747964946102004:=Nat
def tw1399933689108380436:=Nat
def tw9080183813546696532:=Nat
def tw1958766304268746773:=Nat
def tw1529063669052431413:=Nat
def tw10822094098843672885:=Nat
def tw257940762560451893:=Nat
def tw18210680886879924693:=Nat
def tw6506824718274018037:=Nat
def tw13604445558714885973:=Nat
def tw11057437643382438934:=Nat
def tw183790526549563510:=Nat
def tw12153448849991790742:=Nat
def tw10257139201916405046:=Nat
def tw4936807492363515254:=Nat
def tw5897228396780116406:=Nat
def tw12424646460383599094:=Nat
def tw3861278082492835350:=Nat
def tw15747303962543137590:=Nat
def tw93782909914007382:=Nat
def tw8450470487468552215:=Nat
def tw8060089088665574551:=Nat
def tw6979170215803167031:=Nat
def tw4013879182126505367:=Nat
def tw10809036341739321911:=Nat
def tw8890541580535589463:=Nat
def tw16558633870332333783:=Nat
def tw4033107901937412855:=Nat
def tw9949048043560551383:=Nat
def tw2024663475211795672:=Nat
def tw9619647425854774552:=Nat
def tw1576268704284566872:=Nat
def tw10935312894357129720:=Nat
def tw9990571484167697016:=Nat
def tw11716097365360904920:=Nat
def tw3571796148822395768:=Nat
def tw1948137258146221976:=Nat
def tw10902788253244172216:=Nat
def tw16712501317573076473:=Nat
def tw6179499265355444729:=Nat
def tw16757399123093286617:=Nat
def tw12954307007756147673:=Nat
def tw12572784934348024858:=Nat
def tw7753256235491674202:=Nat
def tw12618077560261267546:=Nat
def tw9191940608167292186:=Nat
def tw15865236148759836954:=Nat
def tw1656251029222467002:=Nat
def tw16691410068350972410:=Nat
def tw13471985012417680890:=Nat
def tw10737863058821924634:=Nat
def tw1277176826894444314:=Nat
def tw4331438127893702490:=Nat
def tw3196027599967763354:=Nat
def tw11196905046731009978:=Nat
def tw8229399758504093723:=Nat
def tw13572486419263930523:=Nat
def tw1825295414189381819:=Nat
def tw8456594856462421275:=Nat
def tw11625194611525627579:=Nat
def tw9050895563527147291:=Nat
def tw10424603628347912059:=Nat
def tw16307357427186918652:=Nat
def tw7261487299619381532:=Nat
def tw18322335681362985276:=Nat
def tw1318255914964557180:=Nat
def tw5099049146514239004:=Nat
def tw10538919130573757052:=Nat
def tw4304637074330652380:=Nat
def tw8692420902288043836:=Nat
def tw3518637887726832508:=Nat
def tw17345698497958727612:=Nat
def tw2254497619306774524:=Nat
def tw10815770390982926493:=Nat
def tw1160047841401317533:=Nat
def tw10204230219086114013:=Nat
def tw14512287884981319933:=Nat
def tw5510326059198308861:=Nat
def tw1791350200315821693:=Nat
def tw812804496157110909:=Nat
def tw11656899266837081757:=Nat
def tw3119124574569783997:=Nat
def tw2152288186621844189:=Nat
def tw8754724472867235998:=Nat
def tw8137950111179567294:=Nat
def tw5505630221750563006:=Nat
def tw11598413300208310526:=Nat
def tw10705895114161172062:=Nat
def tw9869046787709527646:=Nat
def tw12200507018113931102:=Nat
def tw17666391693601884062:=Nat
def tw6220240360616753054:=Nat
def tw16027087152071694334:=Nat
def tw3531314134794427455:=Nat
def tw13005023622588344415:=Nat
def tw10921870626787348671:=Nat
def tw9501224533357466975:=Nat
def tw12716079536486230399:=Nat
def tw17876688601660363199:=Nat
def tw4874386312019469855:=Nat
def tw11275127694528871999:=Nat
def tw4285891345642568479:=Nat
def tw16308955986107556703:=Nat
def tw6490808484424516443:=Nat
end PySem.W.Fast
open PySem PySem.W PyProof.Rows
set_option maxRecDepth 100000 in
set_option maxHeartbeats 0 in
theorem PySem.Challenge.cw_spinfloor_k35_whole_roofs_holds : PySem.Challenge.rw_spinfloor_k35_whole_roofs.Holds := by
 w_on;o_law;k_head;(case hw=>w_witness2);k_fill;refine K8.walk (l:=PySem.Challenge.rw_spinfloor_k35_whole_roofs) rfl rfl (λw h Y=>PySem.W.km_in_of Y) ?R ?F;(case R=>kernel_rfl)
 case F =>
  intro w mg fa h KX G hmg;refine' K8.all_mk KX G hmg ?jU ?xn ?xk ?Cf ?ic ?ib ?fA ?h9 ?h7 ?fz ?jK ?yd ?ya ?DH ?fG ?kK ?mQ ?iU ?mK ?qN ?di ?gL ?aW ?gA ?mM ?kJ ?kN ?kP ?mP ?qP ?mL ?mO ?fe ?dJ ?gB ?iT ?dU ?qO ?mJ ?yc ?kL ?iZ ?eY ?gz ?iS ?dM ?dh ?cO ?gy ?x9 ?eZ ?dN ?kQ ?iY ?iX ?fk ?gF ?gH ?gG ?cf ?gK ?kM ?gE ?fj ?gC ?iW ?gD ?cP ?dP ?cQ ?oi ?qD ?wZ ?qE ?iq ?iE ?iu ?eX ?lG ?lL ?iR ?lH ?ik ?iD ?dq ?eU ?jM ?jT ?gu ?jO ?ij ?iC ?ir ?iw ?Eh ?F6 ?GD ?F8 ?fL ?bZ ?u9 ?vK ?uX ?uR ?vt ?vC ?jJ ?jI ?dA ?u6 ?vJ ?uW ?uQ ?vq ?vB ?jH ?jG ?dw ?AA ?Bp ?Av ?Al ?AV ?A8 ?jF ?jE ?g9 ?gq ?hO ?vL ?vM ?E8 ?E9 ?zF ?zD ?uA ?uB ?jf ?gU ?E6 ?E4 ?pC ?E7 ?E3 ?Fb ?zE ?k8 ?E5 ?tbc ?tbl ?tbv ?tbn;(case jU|xn|xk|Cf|ic|ib|fA|h9|h7|fz|jK=>k_is)
  (case yd|ya|DH|fG|kK|mQ|iU|mK|qN|di|gL|aW|gA|mM|kJ|kN|kP|mP|qP|mL|mO|fe|dJ|gB|iT|dU|qO|mJ|yc|kL|iZ|eY|gz|iS|dM|dh|cO|gy|x9|eZ|dN|kQ|iY|iX|fk|gF|gH|gG|cf|gK|kM|gE|fj|gC|iW|gD|cP|dP|cQ=>refine' ⟨?ja,L2.fun_mk ?jl ?jc ?jk⟩;(case ja=>k_is);(case jl=>k_is);(case jc=>k_is);(case jk=>k_is));(case oi|qD|wZ|qE|iq|iE|iu|eX|lG|lL|iR|lH|ik|iD|dq|eU|jM|jT|gu|jO|ij|iC|ir|iw|Eh|F6|GD|F8=>k_is)
  (case fL=>k_exc);(case bZ|u9|vK|uX|uR|vt|vC|jJ|jI|dA|u6|vJ|uW|uQ|vq|vB|jH|jG|dw|AA|Bp|Av|Al|AV|A8|jF|jE|g9|gq|hO|vL|vM|E8|E9|zF|zD|uA|uB|jf|gU|E6|E4|pC|E7|E3|Fb|zE|k8|E5=>k_is)
  (case tbc=>rfl);(case tbl=>k_is);(case tbv=>rfl);(case tbn=>kernel_rfl)
