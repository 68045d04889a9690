import PyProof.Rows.All
import Wide.All
import OpenK.AllK
import Wide.FinOn
import Lean
import PyProof.EqAt
import PyProof.EqKinds
import PyProof.TupleCall
import PySem.Challenge.RW_spinfloor_k32_papers_for_layings
open PyProof.Rows renaming callWith_type1 → Mr, kindOf → MD, IntsAre → MI, seqObj → Nb, get?_update_seq → Nc, bitAnd_pp → Nz
open PyProof.Rows.F renaming plain_set_update_loop → Nu
open PyProof.Rows.LCg renaming lst → MU
open PySem renaming sizeLine → LZ, mainGlobals → Ma, bootBuiltins → Mb, starEach → Me, wpAny_mono → Mf, compareOp → Mg, wpAny_truthy_bool → Mh, assignEach → Mi, wpAny_bind → Mj, wpAny_holding → Ml, wpAny_passesOwn → Mm, wpAny_pure → Mn, foldedSetIterable → Ms, binaryOp → Mt, codeAny → Mx, codeAny_mono → MB, wpAny_Call_Name_kw → MC, wpAny_specialOf → MN, wpAny_ite_split → MP, wpAny_isInstance → MQ, wpAny_newObj_type → MV, wpAny_call_entry → MX, wpAny_callSpecial?_slot → MZ, wpAny_typeNameOfWhole_itemiter → M0, wpAny_isOneOf_itemiter → M7, wpAny_setField_rec → M8, wpAny_letGo → Na, wpAny_newList → Nd, codeAny_builtin → Ng, wpAny_seqItems → Ni, wpAny_tryCatch → Nj, updateSeq → Nk, wpAny_updateSeq → Nl, plainId_quiet → Nm, wpAny_setState_of → Nr, wpAny_askSetting → Nv
open PySem.Around renaming under_plainId → Nh
open PySem.Builtin renaming bitAnd → Mu, bitOr → Mv, bitXor → Mw
open PySem.Builtin.Builtins renaming bindParams → Nn
open PySem.Builtin.Dict_items renaming ownsTuple → MY, pairFromOwner → M9
open PySem.Builtin.List renaming listLengthHint → MO, listExtendWith → Nw, listSameRef → Nx, listItems → Ny
open PySem.Builtin.Range renaming rangeSize → Mq
open PySem.Calls renaming spliced_nil → Mz, spliced_cons → MA, callWith_builtin → MH
open PySem.Heap renaming lt_size → L9, get?_none_of_le → Mc, SameBut → Md, get?_push_of_some → Mo, get?_push_size → Mp, size_push → My, get?_update_self → MF, get?_update_other → MG, size_update → Nf
open PySem.Heap.SameBut renaming update → M6
open PySem.Obj renaming mapSeq → ME
open PySem.PyData renaming depth → MR, canLay0 → MT
open PySem.SetTable renaming below → Nq, grown → Nt
open Array renaming length_toList → HK, getElem?_toList → Iy, getElem?_eq_getElem → IL, getElem?_eq_none → Kf, getD → Ko, getD_eq_getD_getElem? → Kt, getElem?_eq_some_iff → Ku, toList_push → Lp
open Bool renaming false_ne_true → HG, false_and → Iw, true_and → IA, false_eq_true → II, and_false → I8, and_eq_true → JH, xor_false → JU, eq_iff_iff → Ks, not_true → KN, false_xor → K7, and_true → Lj, or_false → LX
open Classical renaming choose_spec → K0, propDecidable → LW
open Int renaming toNat_natCast → Hn, zero_add → IF, natCast_nonneg → IH, emod_lt_of_pos → Jk, toNat_of_nonneg → Jn, le_refl → Jo, emod_nonneg → Jt, fdiv_eq_ediv_of_nonneg → LD
open List renaming getElem?_eq_getElem → Hf, getElem?_eq_some_iff → Hg, mem_of_getElem? → Hh, length_map → Hi, length_append → Hk, getElem?_append_right → Hm, getElem?_append_left → Ho, mem_cons_of_mem → Hq, getElem?_map → Hr, mem_cons → Hs, length_singleton → Ht, mem_cons_self → Hu, map_append → Hv, replicate → Hw, mem_append → Hx, nodup_cons → Hy, getD_eq_getElem?_getD → Hz, mem_singleton → HB, length_cons → HD, size_toArray → HE, take_add_one → HH, take_length → HL, nodup_append → HP, map_cons → HR, length_take → HW, mem_append_right → HZ, mem_map → Ie, mem_iff_getElem? → Ih, mem_flatten → Ij, length_set → Il, getElem?_set → Ip, flatten_cons → Iq, mem_append_left → Iu, range → IC, length_drop → ID, flatten_append → IE, getElem_of_mem → IK, length_pos_of_mem → IM, getElem_mem → IT, getElem?_of_mem → IV, take_of_length_le → IX, sum_cons → Ja, length_range → Jb, length_filter_le → Jc, nodup_nil → Jd, mem_range → Je, getElem?_replicate → Jh, filter_cons_of_pos → Ji, filter_cons_of_neg → Jj, not_mem_nil → Jl, length_replicate → Jr, length_nil → Js, mem_filter → Jv, perm_ext_iff_of_nodup → Jx, getElem?_eq_none → Jz, filter_append → JA, length_eq_zero_iff → JE, eq_nil_of_length_eq_zero → JG, take_append_drop → JM, map_map → JN, lookup → JO, replicate_succ' → JR, erase_cons_head → JS, pairwise_iff_getElem → JT, map_congr_left → JW, sum_append → J2, range_succ → Ka, find?_cons → Kb, append_nil → Kc, append_assoc → Kh, all_eq_true → Km, mem_replicate → Kw, getElem?_take → Kx, append_of_mem → Ky, mem_or_eq_of_mem_set → Kz, getElem?_zip_eq_some → KA, length_erase_of_mem → KH, idxOf_lt_length_iff → KI, foldl_append → KJ, filter_cons → KO, flatten_singleton → KP, of_mem_zip → KW, foldl_cons → KY, filter_nil → KZ, mem_of_mem_drop → K4, take_zero → K6, length_reverse → Lb, getElem?_range → Lc, filterMap_cons → Ld, pairwise_cons → Lh, getElem?_drop → Li, length_erase → Lo, mem_reverse → Ls, isEmpty_nil → Lu, cons_append → Lv, dropLast_concat_getLast → Lx, idxOf_lt_length_of_mem → LB, length_eraseIdx_of_lt → LC, drop_zero → LJ, drop_eq_getElem_cons → LK, map_take → LS, map_drop → LU, any_cons → LV
open List.Pairwise renaming nil → Ki
open Nat renaming le_refl → Hl, le_of_lt → HJ, ne_of_lt → HN, sub_self → HQ, lt_of_lt_of_le → HY, zero_le → Ia, testBit_two_pow → Ib, lt_succ_self → Ik, pow_le_pow_right → Im, le_trans → Io, pow_lt_pow_right → Ir, lt_irrefl → Iz, eq_of_testBit_eq → IB, two_pow_pos → IG, xor_assoc → IJ, testBit_xor → IP, ne_of_gt → IQ, zero_testBit → IS, lt_succ_of_lt → IU, not_lt_zero → IY, lt_pow_two_of_testBit → IZ, mod_eq_of_lt → I9, xor_lt_two_pow → Jg, lt_trans → Jy, le_succ → JB, testBit_or → JJ, testBit_and → JL, not_lt_of_le → JV, mod_lt → JX, min_eq_left → J1, testBit_eq_decide_div_mod_eq → Kd, testBit_lt_two_pow → Ke, xor_self → Kj, le_of_not_lt → Kk, le_add_right → Kl, testBit_two_pow_sub_one → Kr, xor_comm → Kv, or_lt_two_pow → KG, mod_self → KU, mul_le_mul_right → K3, testBit → La, lt_of_le_of_lt → Lf, add_sub_cancel → Lg, le_succ_of_le → Ln, xor_zero → Lq, and_le_right → Lr, strongRecOn → LA
open Option renaming map_eq_some_iff → HF, map_some → KS, isSome_iff_exists → LN
open Option.some renaming inj → HM
open PySem renaming Spec → HI, mem_of_lookup → Ju, mem_getD → LF, getD_mem → LG
open PySem.F renaming plainAttrs_list → HC, type_list_append → HS, slot_list_append → HU, plain_min_loop → Ii, plain_extend_loop → Jq, entry_min_loop → Jw, type_list_index → JY, slot_list_index → JZ, type_list_insert → KC, slot_list_insert → KD, plainAttrs_dict → KL, slot_dict_get → KR, args_list_init_2 → LL, typeCall_list_1 → LO, slot_dict_items → LP, entry_list_init → LQ, args_dict_get_3 → LR
open PySem.W renaming Frag → Hj, findIn → HV, nsIn → Ic, mg_none_of → Ig, keepIn → Iv, fnOf → IW, kia_one → Jf, emptyDict → Jm, codeIn → Jp, instObj → JC, mg_of → JD, plainGet → JF, CodeHd → JI, isFn → JK, tabIn → JP, hasDictIn → JQ, plainOver → Kg, makesIn → Kq, kla_obj → KQ, lookIn → K5, plainGet_of → K9, callWith_K → Le, methodObj → Ll, takerIn → Ly, OpenLaw → Lz, tabObj → LH, kitOne → LI
set_option Elab.async false
set_option linter.all false
set_option compiler.extract_closed false
set_option genSizeOf false
set_option maxRecDepth 100000
local macro_rules | `(tactic| omega) => `(tactic| first | assumption | lia | omega +splitDisjunctions)
local macro_rules | `(tactic| ac_rfl) => `(tactic| omega +splitDisjunctions)
local macro_rules | `(tactic| ac_nf) => `(tactic| exact ⟨rfl,rfl,rfl,by decide +kernel,rfl,by decide +kernel,by decide +kernel⟩)
local macro_rules | `(tactic| decide) => `(tactic| decide +kernel)
local macro_rules | `(∅) => `(by omega)
local macro_rules | `(tactic| walk_at "cc") => `(tactic| first | exact ⟨by decide, by decide⟩ | (show (0 : Int) < _; decide) | (show (0 : Int) < _; omega) | (show (0 : Int) ≤ _; omega) | exact ⟨by decide, by decide, by decide⟩ | exact ⟨by omega, by omega, by decide⟩ | exact Or.inl ⟨by decide, by decide⟩ | exact Or.inl ⟨by omega, by omega⟩)
local macro_rules | `(tactic| walk_at "rd") => `(tactic| repeat (first | refine ⟨_, rfl, ?_⟩ | (refine ⟨_, _, rfl, rfl, ?cc, ?_⟩; (case cc => walk_at "cc")) | refine ⟨_, _, rfl, rfl, ?_⟩ | refine ⟨rfl, ?_⟩ | (refine ⟨?cc, ?_⟩; (case cc => walk_at "cc"))))
local macro_rules | `(tactic| walk_at "l") => `(tactic| (intro _ _ _ _ h; first | (cases h; subst_vars; rfl) | repeat (first | (obtain ⟨e, _⟩ := h; subst e; rfl) | obtain ⟨_, h⟩ := h)))
theorem LY{p:Prop}[Decidable p](h:¬p):decide p=false:=decide_eq_false h
theorem MJ{p:Prop}[Decidable p](h:p):decide p=true:=decide_eq_true h
theorem Np{p:Prop}[Decidable p](h:decide p=true):p:=of_decide_eq_true h
theorem NA.{u}{c:Prop}{h:Decidable c}(f:c){α:Sort u}{t e:α}:ite c t e=t:=if_pos f
theorem NB.{u}{c:Prop}{h:Decidable c}(f:¬c){α:Sort u}{t e:α}:ite c t e=e:=if_neg f
theorem NC{a b:Prop}(h:a)(g:¬a):b:=absurd h g
open PySem (Addr Around CmpOp Env Expr FuncData Heap Obj Pos Program Result Scope Sem Shared Stmt Str Value World)
variable{C I PL a f it p q tb tp va wd:Addr}{A:Around}{op:CmpOp}{env:Env}{G J fd:FuncData}{base h h':Heap}{K:Hj}{Y:List (Addr×Obj)}{rs ts:List (List Nat)}{sd:List (Nat×Nat)}{T:List (Option Int)}{O:List (Option Nat)}{fr:List (Str×Nat)}{fp:List Addr}{ns ord:List Int}{W l l' ps r':List Nat}{its us vs:List Value}{L M N ep i j m n t':Nat}{D:Nat->Nat->Int}{ex ex':Nat->Nat->Prop}{e:Nat×Nat}{o ob:Obj}{p2 pos:Pos}{P:Program}{B:Prop}{R:Result->Shared->Prop}{scope:Scope}{pl:Sem Bool}{s:Shared}{x:Str}{mg:Str->Option Value}{α:Type}{u:Value}{E Q:Value->Shared->Prop}{w:World}
namespace L2
open PySem PySem.Spec PyProof.Rows
abbrev Key:=Sum Int Str
def oG:Key->Value->Bool
 |.inl k,v=>Value.isInt k v
 |.inr x,v=>Value.isStrOf x v
def keyH(w:World):Key->Int
 |.inl k=>hashInt k
 |.inr x=>hashStr w x
theorem a9:∀{k:Key}{v:Value},oG k v=true->(∃ i t,k=Sum.inl i/\v=Value.int i t)∨(∃ x t,k=Sum.inr x/\v=Value.str x t)
 |.inl i,v,h=>by
  obtain⟨t,e⟩:=Value.isInt_shape (k:=i) (v:=v) h;exact .inl ⟨i,t,rfl,e⟩
 |.inr x,v,h=>by
  obtain⟨t,e⟩:=Value.isStrOf_shape (x:=x) (v:=v) h;exact .inr ⟨x,t,rfl,e⟩
theorem A9(i:Int)(t:Tok):oG (.inl i) (.int i t)=true:=by simp[oG,Value.isInt]
theorem A8(x:Str)(t:Tok):oG (.inr x) (.str x t)=true:=by simp[oG,Value.isStrOf]
theorem key_ll(a b:Int):decide ((Sum.inl a:Key)=Sum.inl b)=(a == b):=by
 by_cases e:a=b
 .subst e;simp
 .have h:¬ (Sum.inl a:Key)=Sum.inl b:=λq=>e (Sum.inl.inj q)
  rw[LY h];exact(beq_eq_false_iff_ne.mpr e).symm
theorem key_rr(a b:Str):decide ((Sum.inr a:Key)=Sum.inr b)=decide (a=b):=by
 by_cases e:a=b
 .subst e;simp
 .have h:¬ (Sum.inr a:Key)=Sum.inr b:=λq=>e (Sum.inr.inj q)
  rw[LY h,LY e]
theorem key_lr(a:Int)(b:Str):decide ((Sum.inl a:Key)=Sum.inr b)=false:=LY (λq=>nomatch q)
theorem key_rl(a:Str)(b:Int):decide ((Sum.inr a:Key)=Sum.inl b)=false:=LY (λq=>nomatch q)
def bK(prog:Program)(w:World):PySem.KeyKind prog w Key where
 is:=oG
 hash:=keyH w
 inj:=λv a b A L=>by
  rcases a9 A with⟨i,t,rfl,rfl⟩ | ⟨x,t,rfl,rfl⟩
  .rcases a9 L with⟨j,u,rfl,e⟩ | ⟨y,u,rfl,e⟩
   .injection e with G _;rw[G]
   .exact nomatch e
  .rcases a9 L with⟨j,u,rfl,e⟩ | ⟨y,u,rfl,e⟩
   .exact nomatch e
   .injection e with G _;rw[G]
 byValue:=λk v h=>by
  rcases a9 h with⟨i,t,rfl,rfl⟩ | ⟨x,t,rfl,rfl⟩<;>rfl
 pyHash:=λp h=>by
  rcases a9 p with⟨i,t,rfl,rfl⟩ | ⟨x,t,rfl,rfl⟩
  .exact wpAny_pyHash_int h
  .exact wpAny_pyHash_str h
 eqBool:=λT p h=>by
  rcases a9 T with⟨i,t,rfl,rfl⟩ | ⟨x,t,rfl,rfl⟩
  .rcases a9 p with⟨j,u,rfl,rfl⟩ | ⟨y,u,rfl,rfl⟩
   .rw[key_ll]at h;exact wpAny_eqBool_int h
   .rw[key_lr]at h;exact SeqAt.EqAt.int_str i t y u _ _ _ _ h
  .rcases a9 p with⟨j,u,rfl,rfl⟩ | ⟨y,u,rfl,rfl⟩
   .rw[key_rl]at h;exact SeqAt.EqAt.str_int x t j u _ _ _ _ h
   .rw[key_rr]at h;exact wpAny_eqBool_str h
 «strs»:=λk x t v h=>by
  rcases a9 h with⟨i,u,rfl,e⟩ | ⟨y,u,rfl,e⟩
  .exact nomatch e
  .injection e with G _;subst G
   cases v<;>rfl
theorem vt(prog:Program)(w:World)(i:Int)(t:Tok):(bK prog w).is (.inl i) (.int i t)=true:=A9 i t
theorem vq(prog:Program)(w:World)(x:Str)(t:Tok):(bK prog w).is (.inr x) (.str x t)=true:=A8 x t
inductive V where
 |non | bl (b:Bool) | int (i:Int) | str (x:Str) | byt (b:Array UInt8) | flt (b:UInt64) | ref (a:Addr) | ty (n:String)
 deriving DecidableEq
def RelV:V->Value->Prop
 |.non,u=>u=Value.none
 |.bl b,u=>u=Value.bool b
 |.int i,u=>∃ t,u=Value.int i t
 |.str x,u=>∃ t,u=Value.str x t
 |.byt b,u=>∃ t,u=Value.bytes b t
 |.flt b,u=>∃ t,u=Value.float b t
 |.ref a,u=>u=Value.ref a
 |.ty n,u=>u=Value.type n
abbrev Vals:List V->List Value->Prop:=Paired RelV
theorem Vals.length{xs:List V}{us:List Value}(r:Vals xs us):xs.length=us.length:=Paired.length r
theorem Vals.get:∀{xs:List V}{us:List Value}{i:Nat}{x:V},Vals xs us->xs[i]?=some x->∃ u,us[i]?=some u/\RelV x u
 |_,_,_,_,.nil,e=>by simp at e
 |_,_,0,_,.cons r _,e=>by simp at e;subst e;exact⟨_,rfl,r⟩
 |_,_,i+1,x,.cons _ t,e=>by
  obtain⟨u,M,J⟩:=Vals.get (i:=i) (x:=x) t (by simpa using e)
  exact⟨u,by simpa using M,J⟩
theorem Vals.set{x:V}{u:Value}(r:RelV x u):∀{xs:List V}{us:List Value}(i:Nat),Vals xs us->Vals (xs.set i x) (us.set i u)
 |_,_,_,.nil=>.nil
 |_,_,0,.cons _ t=>.cons r t
 |_,_,i+1,.cons q t=>.cons q (Vals.set r i t)
theorem Vals.append:∀{xs ys:List V}{us J:List Value},Vals xs us->Vals ys J->Vals (xs++ys) (us++J)
 |_,_,_,_,.nil,s=>s
 |_,_,_,_,.cons r t,s=>.cons r (Vals.append t s)
theorem Vals.take:∀{xs:List V}{us:List Value}(n:Nat),Vals xs us->Vals (xs.take n) (us.take n)
 |_,_,0,_=>.nil
 |_,_,_+1,.nil=>.nil
 |_,_,n+1,.cons r t=>.cons r (Vals.take n t)
theorem Vals.drop:∀{xs:List V}{us:List Value}(n:Nat),Vals xs us->Vals (xs.drop n) (us.drop n)
 |_,_,0,r=>r
 |_,_,_+1,.nil=>.nil
 |_,_,n+1,.cons _ t=>Vals.drop n t
def RelO:Option V->Option Value->Prop
 |some v,some u=>RelV v u
 |none,none=>True
 |_,_=>False
def KV{a:Type}:List (a×V)->List (a×Value)->Prop:=Paired λ(p:a×V) (q:a×Value)=>p.1=q.1/\RelV p.2 q.2
def kV:Key->V
 |.inl i=>.int i
 |.inr x=>.str x
inductive HO where
  |lst (xs:List V)
  |tup (xs:List V)
  |dK (kvs:List (Key×V)) | dT (kvs:List (List Key×V))
  |set (S:Int->Bool) (n:Nat)
  |ins (C dx:Addr) (fs:List (Str×V))
  |own (x:Addr)
  |xd (fs:List (Str×V))
  |met (f x:Addr)
  |rng (lo hi:Int)
  |frz (o:Obj) (u:HO)
  |tbl (ps:Array Value)
  |ext (φ:Heap->Prop)
abbrev Hp:=Addr->Option HO
def upd(H:Hp)(a:Addr)(o:HO):Hp:=λb=>if b=a then some o else H b
theorem ag{H:Hp}{o:HO}:upd H a o a=some o:=by unfold upd;rw[NA rfl]
theorem aq{H:Hp}{b:Addr}{o:HO}(h:b≠a):upd H a o b=H b:=by unfold upd;rw[NB h]
theorem yE{H:Hp}{b:Addr}{o u:HO}(h:H a=some o)(h':H b=some u)(d:o≠u):a≠b:=by
 intro e;subst e;rw[h]at h';exact d (HM h')
theorem aH{H:Hp}{b:Addr}{o:HO}(h:H a=some o)(h':H b=none):a≠b:=by
 intro e;subst e;rw[h]at h';cases h'
section
variable(P:Program)(w:World)
def bG(H:Hp)(h:Heap)(a:Addr):HO->Prop
 |.lst D=>D.length<=LZ/\∃(O:List Value)(n:Nat),Vals D O/\h.get? a=some { cls:=.type "list",data:=.seq O.toArray n }
 |.tup D=>D.length<=LZ/\∃ O:List Value,Vals D O/\IsTup h a O.toArray
 |.dK m=>m.length<=LZ/\(a == sysModules)=false/\∃ l,KV m l/\h.DictOf (bK P w) a l
 |.dT m=>m.length<=LZ/\(a == sysModules)=false/\∃ D:List (List Key×Addr×Value),
   Paired (λ(p:List Key×V) (q:List Key×Addr×Value)=>p.1=q.1/\H q.2.1=some (.tup (p.1.map kV))/\RelV p.2 q.2.2) m D /\
   ∃ o B r,h.get? a=some o/\o.ExactDict/\o.data=.dict B r/\B.toList=D.map (entryOfKey (tupleKind (bK P w)))/\(D.map (·.1)).Nodup
 |.set S n=>h.SetOf (intKind P w) a S n
 |.ins C j fs=>H j=some (.own a)/\fs.length<=1000/\j≠a/\h.get? a=some (JC C j) /\
   ∃ L,h.Ns1 j L/\(∀ f,RelO (fs.lookup f) (L f))/\PySem.Within L (fs.map (·.1))
 |.own _=>∃ o,h.get? a=some o
 |.xd fs=>∃ L,h.Ns1 a L/\∀ f,RelO (fs.lookup f) (L f)
 |.rng lo d=>∃ t u v,h.get? a=some { cls:=.type "range",data:=.fields #[.int lo t,.int d u,.int 1 v] }
 |.frz o u=>h.get? a=some o/\bG H h a u
 |.tbl G=>h.get? a=some { cls:=.none,data:=.fields G }
 |.met f x=>h.get? a=some (Ll (.ref f) (.ref x))
 |.ext s=>s h/\(∃ o,h.get? a=some o)/\∀ M J:Heap,s M->(∀ o,M.get? a=some o->J.get? a=some o)->s J
def HOk(H:Hp)(h:Heap):Prop:=∀ a o,H a=some o->bG P w H h a o
end
section
variable{P:Program}{w:World}{H H':Hp}{h h':Heap}{a:Addr}{o:HO}
theorem bG.lt(x:bG P w H h a o):a<h.objs.size:=by
 cases o with
 |lst D=>obtain⟨_,_,_,_,e⟩:=x;exact L9 e
 |tup D=>obtain⟨_,_,_,p⟩:=x;exact p.lt
 |dK m=>obtain⟨_,_,_,_,o,_,_,e,_⟩:=x;exact L9 e
 |dT m=>obtain⟨_,_,_,_,o,_,_,e,_⟩:=x;exact L9 e
 |set S n=>obtain⟨o,_,_,_,e,_⟩:=x;exact L9 e
 |ins C j fs=>obtain⟨_,_,_,e,_⟩:=x;exact L9 e
 |own y=>obtain⟨_,e⟩:=x;exact L9 e
 |xd fs=>obtain⟨_,⟨_,_,_,e,_⟩,_⟩:=x;exact L9 e
 |rng lo d=>obtain⟨_,_,_,e⟩:=x;exact L9 e
 |frz N u=>obtain⟨e,_⟩:=x;exact L9 e
 |tbl G=>exact L9 (show h.get? a=some _ from x)
 |met f y=>exact L9 (show h.get? a=some _ from x)
 |ext s=>obtain⟨_,⟨_,e⟩,_⟩:=x;exact L9 e
theorem Paired.mapP{α c:Type}{F G:α->c->Prop}:∀{d:List α}{g:List c},Paired F d g->(∀ a b,F a b->G a b)->Paired G d g
 |_,_,.nil,_=>.nil
 |_,_,.cons r t,f=>.cons (f _ _ r) (Paired.mapP t f)
theorem bG.stay(x:bG P w H h a o)(k:∀ b u,(b=a∨H b=some (.own a))->h.get? b=some u->h'.get? b=some u)
  (T:∀ b,H b=some (.own a)->H' b=some (.own a)) (J:∀ b xs,H b=some (.tup xs)->H' b=some (.tup xs)):bG P w H' h' a o:=by
 induction o with
 |lst xs=>obtain⟨z,O,n,r,e⟩:=x;exact⟨z,O,n,r,k _ _ (.inl rfl) e⟩
 |tup xs=>obtain⟨z,O,r,N,e,c⟩:=x;exact⟨z,O,r,N,k _ _ (.inl rfl) e,c⟩
 |dK m=>obtain⟨z,y,l,r,N,B,D,e,c⟩:=x;exact⟨z,y,l,r,N,B,D,k _ _ (.inl rfl) e,c⟩
 |dT m =>
  obtain⟨z,y,xs,r,N,B,D,e,c⟩:=x;exact⟨z,y,xs,Paired.mapP r λp q z=>⟨z.1,J _ _ z.2.1,z.2.2⟩,N,B,D,k _ _ (.inl rfl) e,c⟩
 |set S n=>obtain⟨N,B,D,t,e,c⟩:=x;exact⟨N,B,D,t,k _ _ (.inl rfl) e,c⟩
 |ins C j fs =>
  obtain⟨d,z,ne,e,L,⟨i,B,D,E,c⟩,r⟩:=x;exact⟨T _ d,z,ne,k _ _ (.inl rfl) e,L,⟨i,B,D,k _ _ (.inr d) E,c⟩,r⟩
 |own y=>obtain⟨N,e⟩:=x;exact⟨N,k _ _ (.inl rfl) e⟩
 |xd fs=>obtain⟨L,⟨i,B,D,e,c⟩,r⟩:=x;exact⟨L,⟨i,B,D,k _ _ (.inl rfl) e,c⟩,r⟩
 |rng lo g=>obtain⟨t,u,v,e⟩:=x;exact⟨t,u,v,k _ _ (.inl rfl) e⟩
 |frz N u Y=>obtain⟨e,q⟩:=x;exact⟨k _ _ (.inl rfl) e,Y q⟩
 |tbl G =>
  have e:h.get? a=some { cls:=.none,data:=.fields G }:=x;show h'.get? a=some { cls:=.none,data:=.fields G };exact k a _ (.inl rfl) e
 |met f y =>
  have e:h.get? a=some (Ll (.ref f) (.ref y)):=x;show h'.get? a=some (Ll (.ref f) (.ref y));exact k a _ (.inl rfl) e
 |ext s=>obtain⟨p,⟨o,e⟩,st⟩:=x;exact⟨st _ _ p λo q=>k _ _ (.inl rfl) q,⟨o,k _ _ (.inl rfl) e⟩,st⟩
theorem HOk.lt(x:HOk P w H h)(e:H a=some o):a<h.objs.size:=(x a o e).lt
theorem HOk.fresh(x:HOk P w H h)(e:h.objs.size<=a):H a=none:=by
 cases q:H a with
 |none=>rfl
 |some u=>exact NC (HY (x.lt q) e) (Iz _)
theorem HOk.kept(x:HOk P w H h)(k:∀ b u,h.get? b=some u->h'.get? b=some u):HOk P w H h':=λa o e =>
 (x a o e).stay (λb u _ q=>k b u q) (λ_ q=>q) λ_ _ q=>q
theorem HOk.laid(x:HOk P w H h)(k:∀ b u,h.get? b=some u->h'.get? b=some u)(B:h.objs.size<=a)(new:bG P w (upd H a o) h' a o):HOk P w (upd H a o) h':=λb u e=>by
 have g:=x.fresh B;by_cases L:b=a
 .subst L;rw[ag]at e;cases e;exact new
 .rw[aq L]at e;exact(x b u e).stay (λc v _ q=>k c v q) (λc q=>by rw[aq (aH q g)];exact q) λc D q=>by rw[aq (aH q g)];exact q
end
def Rd(H:Hp)(a:Addr)(u:HO):Prop:=H a=some u∨∃ o,H a=some (.frz o u)
theorem Rd.ok{H:Hp}{u:HO}(r:Rd H a u)(x:HOk P w H h):bG P w H h a u:=by
 rcases r with r | ⟨o,r⟩
 .exact x a u r
 .obtain⟨_,q⟩:=x a _ r;exact q
def Mut:Option HO->Prop
 |some (.lst _)=>True
 |some (.dK _)=>True
 |some (.dT _)=>True
 |some (.set _ _)=>True
 |some (.ins _ _ _)=>True
 |some (.ext _)=>True
 |_=>False
section
variable{P:Program}{w:World}{H:Hp}{h h':Heap}{x e:Addr}{o':HO}
theorem HOk.write(ok:HOk P w H h)(d:Mut (H x))(T:e=x∨H e=some (.own x))(k:∀ b u,b≠e->h.get? b=some u->h'.get? b=some u)(g:∃ u,h'.get? e=some u)
  (new:bG P w (upd H x o') h' x o'):HOk P w (upd H x o') h':=λb u q=>by
 have i:∀ c y,H c=some (.own y)->c≠x:=λc y r z=>by subst z;rw[r]at d;exact d
 have j:∀ c D,H c=some (.tup D)->c≠x:=λc D r z=>by subst z;rw[r]at d;exact d
 by_cases L:b=x
 .subst L;rw[ag]at q;cases q;exact new
 .rw[aq L]at q;by_cases a:b=e
  .have J:H b=some (.own x):=by
    rcases T with z | z
    .exact NC (a.trans z) L
    .rw[a];exact z
   rw[q]at J;cases J;obtain⟨v,p⟩:=g;exact⟨v,by rw[a];exact p⟩
  .refine(ok b u q).stay (λc v f r=>k c v ?_ r) (λc r=>by rw[aq (i c b r)];exact r) λc D r=>by rw[aq (j c D r)];exact r
   rcases f with rfl | f
   .exact a
   .rintro rfl;rcases T with z | z
    .exact i c b f z
    .rw[f]at z;cases z;exact L rfl
end
structure Un(fs ex:List Addr)(H H':Hp)(h h':Heap):Prop where
 keep:∀ b o,h.get? b=some o->H b=none->b∉fs->b∉ex->h'.get? b=some o
 slot:∀ b o,h.get? b=some o->H b=none->b∈fs->b∉ex->∃ sl,h'.get? b=some { o with slots:=sl }
 free:∀ b o,h.get? b=some o->H b=none->b∉ex->H' b=none
 there:∀ b o,h.get? b=some o->b∉ex->∃ o',h'.get? b=some o'
 tups:∀ b xs,H b=some (.tup xs)->H' b=some (.tup xs)
 frzs:∀ b o u,H b=some (.frz o u)->H' b=some (.frz o u)
 tbls:∀ b ps,H b=some (.tbl ps)->∃ more,H' b=some (.tbl (ps++more))
section
variable{fs fs' ex ex':List Addr}{H H1 H2:Hp}{h h1 h2 h':Heap}{a x e:Addr}{o:HO}
theorem Un.any(u:Un fs ex H H1 h h1){b:Addr}(q:h.get? b=some ob)(n:H b=none)(O:b∉ex):∃ sl,h1.get? b=some { ob with slots:=sl }:=by
 by_cases L:b∈fs
 .exact u.slot b ob q n L O
 .exact⟨ob.slots,u.keep b ob q n L O⟩
theorem Un.kept(k:∀ b u,h.get? b=some u->h'.get? b=some u):Un fs ex H H h h' :=
 ⟨λb N q _ _ _=>k b N q,λb N q _ _ _=>⟨N.slots,k b N q⟩,λ_ _ _ n _=>n,λb N q _=>⟨N,k b N q⟩,λ_ _ q=>q,λ_ _ _ q=>q,λ_ G q=>⟨#[],by rw[q];simp⟩⟩
theorem Un.refl:Un fs ex H H h h:=Un.kept λ_ _ q=>q
theorem Un.laid(k:∀ b u,h.get? b=some u->h'.get? b=some u)(B:h.objs.size<=a)(g:H a=none):Un fs ex H (upd H a o) h h' where
 keep:=λb u q _ _ _=>k b u q
 slot:=λb u q _ _ _=>⟨u.slots,k b u q⟩
 free:=λb u q n _=>by rw[aq (HN (HY (L9 q) B))];exact n
 there:=λb u q _=>⟨u,k b u q⟩
 tups:=λb D q=>by rw[aq (aH q g)];exact q
 frzs:=λb u D q=>by rw[aq (aH q g)];exact q
 tbls:=λb G q=>⟨#[],by rw[aq (aH q g),q];simp⟩
theorem Un.write(d:Mut (H x))(T:e=x∨H e=some (.own x))(k:∀ b u,b≠e->h.get? b=some u->h'.get? b=some u)(g:∃ u,h'.get? e=some u):Un fs ex H (upd H x o) h h':=by
 have O:∀ b,H b=none->b≠x:=λb n z=>by subst z;rw[n]at d;exact d
 have L:∀ b,H b=none->b≠e:=λb n z=>by
  subst z;rcases T with r | r
  .exact O b n r
  .rw[n]at r;cases r
 have N:∀ b u,H b=some u->¬ Mut (some u)->b≠x:=λb u q I z=>by subst z;rw[q]at d;exact I d
 refine⟨λb u q n _ _=>k b u (L b n) q,λb u q n _ _=>⟨u.slots,k b u (L b n) q⟩,λb u q n _=>by rw[aq (O b n)];exact n,λb u q _=>?_,
  λb D q=>by rw[aq (N b _ q λz=>z)];exact q,λb u D q=>by rw[aq (N b _ q λz=>z)];exact q,λb G q=>⟨#[],by rw[aq (N b _ q λz=>z),q];simp⟩⟩
 by_cases a:b=e
 .subst a;exact g
 .exact⟨u,k b u a q⟩
end
def trk(h:Heap)(H:Hp):List Addr:=(IC h.objs.size).filter λa=>(H a).isSome
def hidT(h:Heap)(H:Hp):Heap:=PySem.W.hideAll h (trk h H)
theorem Bq(h:Heap)(H:Hp):(hidT h H).objs.size=h.objs.size:=PySem.W.hideAll_size _ _
theorem mU{H:Hp}{b:Addr}(e:h.get? b=some o)(n:H b=none):(hidT h H).get? b=some o :=
 PySem.W.hideAll_get _ e λN=>by
  have q:(H b).isSome=true:=(Jv.mp N).2;rw[n]at q;simp at q
theorem F4{H:Hp}{b:Addr}(e:(hidT h H).get? b=some o):h.get? b=some o/\H b=none:=by
 have l:h.get? b=some o:=PySem.W.of_hideAll (trk h H) e;refine⟨l,?_⟩
 cases q:H b with
 |none=>rfl
 |some x =>
  have N:b∈trk h H:=Jv.mpr ⟨Je.mpr (L9 l),by simp[q]⟩
  have z:(hidT h H).get? b=none:=PySem.W.hideAll_none (trk h H) N;rw[z]at e;cases e
structure Mod(K:Hj)(mg:Str->Option Value)(base:Heap):Prop where
 kin:K.In base
 glob:base.Ns Ma mg
 blt:∃ mb,base.Ns builtinsNs mb/\∀ x:Str,x≠"__name__"->mb x=Mb x
 nolimit:base.NoLimit
set_option genInjectivity false in
structure Cx where
 prog:Program
 w:World
 K:Hj
 mg:Str->Option Value
 base:Heap
 A:Around
 N:List Str
 s₀:Shared
 H₀:Hp
 env:Env
 outer:List Env
 stack:List Env
 ex:List Addr
 fn:Str->Bool
 calm:Bool
 pn:List (Addr×Obj)
 xe:Value->Shared->Prop
def frs(l:List Env):List Addr:=l.filterMap (·.frame)
abbrev Cx.fs(X:Cx):List Addr:=frs X.outer
def Vis(a:Scope)(x:Str):Prop:=a.names.lookup x=some .local∨a.names.lookup x=some .cell∨a.names.lookup x=some .free
def Loc(a:Scope)(x:Str):Prop:=a.names.lookup x=some .local∨a.names.lookup x=some .cell
def Look(env:Env)(h:Heap)(m:Str->Option Value)(x:Str)(u:Value):Prop :=
 (env.kindOf x=some .local/\m x=some u)∨((env.kindOf x=some .cell∨env.kindOf x=some .free)/\∃ c,env.cells.lookup x=some c/\h.IsCell c (some u))
structure Cx.Ok(X:Cx):Prop where
 mod:Mod X.K X.mg X.base
 kind:X.env.scope.kind=.function
 glob:X.env.globals=Ma
 blt:X.env.builtins=builtinsNs
 above:X.s₀.heap.objs.size<=X.env.locals
 inj:∀ x y c,X.env.cells.lookup x=some c->X.env.cells.lookup y=some c->x=y
 has:∀ x,(X.env.kindOf x=some .cell∨X.env.kindOf x=some .free)->∃ c,X.env.cells.lookup x=some c
 cab:∀ x c,X.fn x=true->X.env.cells.lookup x=some c->X.s₀.heap.objs.size<=c
 hd:X.calm=true->X.A.handled=none
 frames:X.A.frames=some X.stack
 stk:X.stack=X.outer∨(X.stack=X.env::X.outer/\X.env.frame=some X.env.locals)
 exf:∀ b∈X.ex,b≠X.env.locals/\∀ x c,X.env.cells.lookup x=some c->c≠b
 bs:∀ b o,X.base.get? b=some o->X.s₀.heap.get? b=some o/\X.H₀ b=none
 bsz:X.base.objs.size<=X.s₀.heap.objs.size
 noex:∀ b o,X.base.get? b=some o->b∉X.ex
 exfs:∀ b∈X.ex,b∉X.fs
 funs:X.s₀.heap.FunFrames X.base X.outer
 frf:∀ b∈X.fs,X.H₀ b=none
structure Inv(X:Cx)(pins:List (Addr×Obj))(σ:List (Option V))(H:Hp)(s:Shared):Prop where
 ok:X.Ok
 os:s.os=X.s₀.os
 bare:AllBare s.gens
 base:Un X.fs X.ex X.H₀ H X.s₀.heap s.heap
 loc:∃ m,s.heap.Ns X.env.locals m/\∀(i:Nat)(x:Str)(v:V),X.N[i]?=some x->σ[i]?=some (some v)->Vis X.env.scope x->∃ u,RelV v u/\Look X.env s.heap m x u
 cell:∀ x c,X.env.cells.lookup x=some c->∃ v,s.heap.IsCell c v
 free:H X.env.locals=none
 freeC:∀ x c,X.env.cells.lookup x=some c->H c=none
 pin:∀ p∈X.pn++pins,s.heap.get? p.1=some p.2/\H p.1=none/\p.1≠X.env.locals/\p.1∉X.fs/\∀ v,p.2.data≠.cell v
 hok:HOk X.prog X.w H s.heap
 len:σ.length=X.N.length
section
variable{X:Cx}{pins:List (Addr×Obj)}{σ:List (Option V)}{H H':Hp}{s:Shared}{h':Heap}
theorem Cx.Ok.nofr(ok:X.Ok){b:Addr}(e:X.base.get? b=some o):b∉X.fs:=λL=>by
 have:=(ok.funs.mem L).1;rw[e]at this;cases this
theorem Inv.bs(I:Inv X pins σ H s):∀ b o,X.base.get? b=some o->s.heap.get? b=some o/\H b=none:=λb o e =>
 ⟨I.base.keep b o (I.ok.bs b o e).1 (I.ok.bs b o e).2 (I.ok.nofr e) (I.ok.noex b o e),I.base.free b o (I.ok.bs b o e).1 (I.ok.bs b o e).2 (I.ok.noex b o e)⟩
theorem Inv.bk(I:Inv X pins σ H s):∀ b o,X.base.get? b=some o->s.heap.get? b=some o:=λb o e=>(I.bs b o e).1
theorem Inv.mod(I:Inv X pins σ H s):Mod X.K X.mg X.base:=I.ok.mod
theorem Inv.kIn(I:Inv X pins σ H s):X.K.In s.heap:=I.ok.mod.kin.keeps I.bk
theorem Inv.nolimit(I:Inv X pins σ H s):s.heap.NoLimit:=I.ok.mod.nolimit.keeps I.bk
theorem Inv.lt(I:Inv X pins σ H s):X.env.locals<s.heap.objs.size:=let ⟨_,g,_⟩:=I.loc;g.lt
theorem Inv.sz(I:Inv X pins σ H s):X.s₀.heap.objs.size<=s.heap.objs.size:=Io I.ok.above (HJ I.lt)
theorem Inv.nofs(I:Inv X pins σ H s)(h:s.heap.objs.size<=a):a∉X.fs:=λL=>by
 obtain⟨_,o,T,_⟩:=I.ok.funs.mem L;exact NC (HY (L9 T) (Io I.sz h)) (Iz _)
theorem Inv.cne(I:Inv X pins σ H s):∀ x c,X.env.cells.lookup x=some c->c≠X.env.locals:=λx c e z=>by
 obtain⟨v,o,T,hd⟩:=I.cell x c e;obtain⟨m,⟨C,B,D,a,n,_⟩,_⟩:=I.loc;rw[z,a]at T;cases T;rw[n]at hd;cases hd
theorem Inv.funs(I:Inv X pins σ H s):s.heap.FunFrames X.base X.outer:=by
 have all:∀(l:List Env),(∀ b∈frs l,b∈X.fs)->X.s₀.heap.FunFrames X.base l->s.heap.FunFrames X.base l:=by
  intro l;induction l with
  |nil=>intro _ _;trivial
  |cons c r Y =>
   intro y D;obtain⟨C,⟨L,o,a,g,T,hd⟩,G⟩:=D;have J:L∈X.fs:=y L (by unfold frs;rw[Ld,a];exact Hu)
   obtain⟨j,e⟩:=I.base.slot L o T (I.ok.frf L J) J λz=>I.ok.exfs L z J;exact⟨C,⟨L,_,a,g,e,hd⟩,Y (λb u=>y b (by unfold frs;rw[Ld,a];exact Hq _ u)) G⟩
 exact all X.outer (λ_ u=>u) I.ok.funs
theorem Inv.stack(I:Inv X pins σ H s):s.heap.FunFrames X.base X.stack:=by
 rcases I.ok.stk with e | ⟨e,a⟩
 .rw[e];exact I.funs
 .rw[e];obtain⟨m,g,_⟩:=I.loc;refine .cons (by rw[I.ok.kind];decide) a g ?_ I.funs
  exact Mc (Io I.ok.bsz I.ok.above)
theorem Inv.stkSub(I:Inv X pins σ H s):∀ b∈frs X.stack,b∈X.env.locals::X.fs:=λb L=>by
 rcases I.ok.stk with e | ⟨e,a⟩
 .rw[e]at L;exact Hq _ L
 .rw[e]at L;unfold frs at L;rw[Ld,a]at L;exact L
theorem Inv.stkFree(I:Inv X pins σ H s):∀ b∈frs X.stack,H b=none:=λb L=>by
 rcases Hs.mp (I.stkSub b L)with e | L
 .rw[e];exact I.free
 .obtain⟨_,o,T,_⟩:=I.ok.funs.mem L;exact I.base.free b o T (I.ok.frf b L) λz=>I.ok.exfs b z L
theorem Inv.step{g':Array GenState}{t':Nat}{d':Drawn}{ch:List Addr}(I:Inv X pins σ H s)
  (y:∀ b∈ch,(b∈X.ex∨X.s₀.heap.objs.size<=b)/\b≠X.env.locals/\(∀ x c,X.env.cells.lookup x=some c->c≠b)/\∀ p∈X.pn++pins,p.1≠b)
  (keep:∀ b o,b≠X.env.locals->b∉X.fs->b∉ch->s.heap.get? b=some o->H b=none->h'.get? b=some o)
  (slot:∀ b o,b≠X.env.locals->b∈X.fs->b∉ch->s.heap.get? b=some o->H b=none->∃ sl,h'.get? b=some { o with slots:=sl }) (free:∀ b o,b∉ch->s.heap.get? b=some o->H b=none->H' b=none)
  (there:∀ b o,b∉ch->s.heap.get? b=some o->∃ C,h'.get? b=some C)
  (tups:∀ b xs,H b=some (.tup xs)->H' b=some (.tup xs)) (frzs:∀ b o u,H b=some (.frz o u)->H' b=some (.frz o u)) (tbls:∀ b ps,H b=some (.tbl ps)->∃ more,H' b=some (.tbl (ps++more)))
  (ns:∀ m,s.heap.Ns X.env.locals m->h'.Ns X.env.locals m) (A:HOk X.prog X.w H' h') (t:AllBare g') :
  Inv X pins σ H' { s with heap:=h',gens:=g',drawn:=d',toks:=t' }:=by
 have Y:∀ b o,X.s₀.heap.get? b=some o->b≠X.env.locals:=λb o e=>HN (HY (L9 e) I.ok.above);have J:∀ b o,X.s₀.heap.get? b=some o->b∉X.ex->b∉ch:=λb o e O L=>by
  rcases(y b L).1 with z | z
  .exact O z
  .exact NC (HY (L9 e) z) (Iz _)
 have M:∀ x c,X.env.cells.lookup x=some c->∀ v,s.heap.IsCell c v->h'.IsCell c v:=λx c e v ⟨o,T,hd⟩=>by
  have N:c∉ch:=λz=>(y c z).2.2.1 x c e rfl;by_cases f:c∈X.fs
  .obtain⟨sl,q⟩:=slot c o (I.cne x c e) f N T (I.freeC x c e);exact⟨_,q,hd⟩
  .exact⟨o,keep c o (I.cne x c e) f N T (I.freeC x c e),hd⟩
 refine⟨I.ok,I.os,t,⟨λb o e n L O=>?_,λb o e n L O=>?_,λb o e n O=>?_,λb o e O=>?_,λb xs e=>tups b xs (I.base.tups b xs e),λb o xs e=>frzs b o xs (I.base.frzs b o xs e),λb ps e=>?_⟩,?_,λx c e=>?_,?_,λx c e=>?_,λp B=>?_,A,I.len⟩
 .exact keep b o (Y b o e) L (J b o e O) (I.base.keep b o e n L O) (I.base.free b o e n O)
 .obtain⟨sl,G⟩:=I.base.slot b o e n L O;obtain⟨aa,E⟩:=slot b _ (Y b o e) L (J b o e O) G (I.base.free b o e n O);exact⟨aa,E⟩
 .obtain⟨C,G⟩:=I.base.there b o e O;exact free b C (J b o e O) G (I.base.free b o e n O)
 .obtain⟨C,G⟩:=I.base.there b o e O;exact there b C (J b o e O) G
 .obtain⟨Q,G⟩:=I.base.tbls b ps e;obtain⟨a,E⟩:=tbls b _ G;exact⟨Q++a,by rw[E,Array.append_assoc]⟩
 .obtain⟨m,g,D⟩:=I.loc;refine⟨m,ns m g,λi x v G E h=>?_⟩;obtain⟨u,r,l⟩:=D i x v G E h;refine⟨u,r,?_⟩;rcases l with l | ⟨k,c,e,z⟩
  .exact .inl l
  .exact .inr ⟨k,c,e,M x c e _ z⟩
 .obtain⟨v,z⟩:=I.cell x c e;exact⟨v,M x c e v z⟩
 .obtain⟨m,⟨o,_,_,T,_⟩,_⟩:=I.loc;exact free _ o (λz=>(y _ z).2.1 rfl) T I.free
 .obtain⟨v,o,T,hd⟩:=I.cell x c e;exact free c o (λz=>(y c z).2.2.1 x c e rfl) T (I.freeC x c e)
 .obtain⟨e,n,ne,j,d⟩:=I.pin p B;have N:p.1∉ch:=λz=>(y p.1 z).2.2.2 p B rfl;exact⟨keep p.1 p.2 ne j N e n,free p.1 p.2 N e n,ne,j,d⟩
theorem Inv.un(I:Inv X pins σ H s)(u:Un X.fs [] H H' s.heap h')(A:HOk X.prog X.w H' h'):Inv X pins σ H' { s with heap:=h',toks:=t' }:=by
 obtain⟨m,⟨o,B,l,T,r⟩,_⟩:=id I.loc;obtain⟨j,J⟩:=u.any T I.free (by simp)
 exact I.step (g':=s.gens) (d':=s.drawn) (ch:=[]) (λ_ z=>nomatch z) (λb o _ L _ e n=>u.keep b o e n L (by simp)) (λb o _ L _ e n=>u.slot b o e n L (by simp)) (λb o _ e n=>u.free b o e n (by simp)) (λb o _ e=>u.there b o e (by simp)) u.tups u.frzs u.tbls (λG N=>by
  obtain⟨C,es',g,a,D⟩:=N;rw[T]at a;cases a
  exact⟨_,es',g,J,D⟩) A I.bare
theorem Inv.call{g':Array GenState}{d':Drawn}{ch:List Addr}(I:Inv X pins σ H s)(u:Un (frs X.stack) ch H H' s.heap h')(A:HOk X.prog X.w H' h')(t:AllBare g')
  (y:∀ b∈ch,(b∈X.ex∨X.s₀.heap.objs.size<=b)/\b≠X.env.locals/\(∀ x c,X.env.cells.lookup x=some c->c≠b)/\∀ p∈X.pn++pins,p.1≠b) :
  Inv X pins σ H' { s with heap:=h',gens:=g',drawn:=d',toks:=t' }:=by
 obtain⟨m,⟨o,B,l,T,r⟩,_⟩:=id I.loc;obtain⟨j,J⟩:=u.any T I.free λz=>(y _ z).2.1 rfl
 exact I.step (ch:=ch) y (λb o J L f e n=>u.keep b o e n (λz=>(Hs.mp (I.stkSub b z)).elim J L) f) (λb o _ _ f e n=>u.any e n f) (λb o f e n=>u.free b o e n f) (λb o f e=>u.there b o e f) u.tups u.frzs u.tbls (λG N=>by
  obtain⟨C,es',g,a,D⟩:=N;rw[T]at a;cases a
  exact⟨_,es',g,J,D⟩) A t
theorem Inv.turned(I:Inv X pins σ H s)(k:∀ b o,b≠it->s.heap.get? b=some o->h'.get? b=some o)(g:H it=none)(J:it≠X.env.locals)
  (M:it∈X.ex∨X.s₀.heap.objs.size<=it) (h2:∀ x c,X.env.cells.lookup x=some c->c≠it) (i:∀ p∈X.pn++pins,p.1≠it):Inv X pins σ H { s with heap:=h',toks:=t' }:=by
 have j:∀ b u,H b=some u->b≠it:=λb u e z=>by rw[z,g]at e;cases e
 refine I.step (g':=s.gens) (d':=s.drawn) (ch:=[it]) (λb L=>?_) (λb o _ _ f e _=>k b o (λz=>f (by simp[z])) e) (λb o _ _ f e _=>⟨o.slots,k b o (λz=>f (by simp[z])) e⟩) (λ_ _ _ _ n=>n)
  (λb o f e=>⟨o,k b o (λz=>f (by simp[z])) e⟩) (λ_ _ e=>e) (λ_ _ _ e=>e) (λb G e=>⟨#[],by rw[e];simp⟩) (λm N=>?_) (λb u e=>?_) I.bare
 .have e:b=it:=by simpa using L
  subst e;exact⟨M,J,h2,i⟩
 .obtain⟨o,B,D,T,r⟩:=N;exact⟨o,B,D,k _ o (Ne.symm J) T,r⟩
 .refine(I.hok b u e).stay (λc v f q=>k c v ?_ q) (λ_ q=>q) λ_ _ q=>q;rcases f with z | z
  .rw[z];exact j b u e
  .exact j c _ z
theorem Inv.tok(I:Inv X pins σ H s)(t:Nat):Inv X pins σ H { s with toks:=t }:=I.un (h':=s.heap) (t':=t) Un.refl I.hok
theorem Inv.kept{t':Nat}(I:Inv X pins σ H s)(k:∀ b u,s.heap.get? b=some u->h'.get? b=some u):Inv X pins σ H { s with heap:=h',toks:=t' }:=I.un (Un.kept k) (I.hok.kept k)
theorem Inv.laid{a:Addr}{o:HO}{t':Nat}(I:Inv X pins σ H s)(k:∀ b u,s.heap.get? b=some u->h'.get? b=some u)(B:s.heap.objs.size<=a)(new:bG X.prog X.w (upd H a o) h' a o) :
  Inv X pins σ (upd H a o) { s with heap:=h',toks:=t' }:=I.un (Un.laid k B (I.hok.fresh B)) (I.hok.laid k B new)
theorem Inv.write{x e:Addr}{o:HO}{t':Nat}(I:Inv X pins σ H s)(d:Mut (H x))(T:e=x∨H e=some (.own x))(k:∀ b u,b≠e->s.heap.get? b=some u->h'.get? b=some u)(g:∃ u,h'.get? e=some u)
  (new:bG X.prog X.w (upd H x o) h' x o):Inv X pins σ (upd H x o) { s with heap:=h',toks:=t' }:=I.un (Un.write d T k g) (I.hok.write d T k g new)
theorem Inv.weak{σ':List (Option V)}(I:Inv X pins σ H s)(hl:σ'.length=σ.length)(w:∀ (i:Nat) v,σ'[i]?=some (some v)->σ[i]?=some (some v)):Inv X pins σ' H s :=
 ⟨I.ok,I.os,I.bare,I.base,let ⟨m,g,C⟩:=I.loc;⟨m,g,λi x v G E B=>C i x v G (w i v E) B⟩,I.cell,I.free,I.freeC,I.pin,I.hok,hl.trans I.len⟩
theorem Inv.pins_of(I:Inv X pins σ H s)(h:∀ p∈Y,s.heap.get? p.1=some p.2/\H p.1=none/\p.1≠X.env.locals/\p.1∉X.fs/\∀ v,p.2.data≠.cell v):Inv X Y σ H s :=
 ⟨I.ok,I.os,I.bare,I.base,I.loc,I.cell,I.free,I.freeC,λp B=>(Hx.mp B).elim (λz=>I.pin p (Iu _ z)) (h p),I.hok,I.len⟩
theorem xV{N:List Str}(o:N.Nodup)(a:N[i]?=some x)(b:N[j]?=some x):i=j:=by
 obtain⟨M,G⟩:=Hg.mp a;obtain⟨J,E⟩:=Hg.mp b;exact(List.getElem_inj o).mp (G.trans E.symm)
theorem zT{M:Model}{v:V}{Q:Unit->Shared->Prop}(I:Inv X pins σ H s)(hN:X.N.Nodup)(hi:X.N[i]?=some x)(O:Loc X.env.scope x)(r:RelV v u)
  (h:∀ s',Inv X pins (σ.set i (some v)) H s'->(∃ a,Md a s.heap s'.heap/\(a=X.env.locals∨X.env.cells.lookup x=some a))->Q () s') (hf:X.fn x=true∨X.env.scope.names.lookup x=some .local:=by first | exact .inl rfl | exact .inr rfl | assumption):wpAny M A (storeName X.env x u) Q E s:=by
 obtain⟨m,T,D⟩:=id I.loc;have an:(X.env.scope.kind == .class||(X.env.scope.kind == .module&&X.env.locals != X.env.globals))=false:=by rw[I.ok.kind];rfl
 have al:i<σ.length:=by rw[I.len];exact(Hg.mp hi).1
 have cne:=I.cne;have aa:∀{a:Addr}{h':Heap},(∃ o,s.heap.get? a=some o/\H a=none)->Md a s.heap h'->HOk X.prog X.w H h':=λ{a h'} g l b ob e=>by
  obtain⟨_,_,ae⟩:=g;refine(I.hok b ob e).stay (λc w' f q=>(l.2 c ?_).trans q) (λ_ q=>q) λ_ _ q=>q;rintro rfl;rcases f with rfl | f
  .rw[ae]at e;cases e
  .rw[ae]at f;cases f
 rcases O with C | C
 .refine wpAny_storeName_local C T (λh' aL l=>?_) an;obtain⟨oL,_,_,ab,_⟩:=id T;refine h _ ⟨I.ok,I.os,I.bare,⟨λb o e n L O=>?_,λb o e n L O=>?_,I.base.free,λb o e O=>?_,I.base.tups,I.base.frzs,I.base.tbls⟩,⟨_,aL,λj y v' G t e3=>?_⟩,λy c e=>?_,I.free,I.freeC,λp B=>?_,aa ⟨oL,ab,I.free⟩ l,by simpa using I.len⟩ ⟨_,l,.inl rfl⟩
  .exact(l.2 b (HN (HY (L9 e) I.ok.above))).trans (I.base.keep b o e n L O)
  .obtain⟨sl,G⟩:=I.base.slot b o e n L O;exact⟨sl,(l.2 b (HN (HY (L9 e) I.ok.above))).trans G⟩
  .obtain⟨o',G⟩:=I.base.there b o e O;exact⟨o',(l.2 b (HN (HY (L9 e) I.ok.above))).trans G⟩
  .by_cases Y:j=i
   .subst Y;rw[hi]at G;cases G;rw[List.getElem?_set_self al]at t
    cases t
    exact⟨u,r,.inl ⟨C,by simp⟩⟩
   .rw[List.getElem?_set_ne (Ne.symm Y)]at t;obtain⟨u',r',q⟩:=D j y v' G t e3;refine⟨u',r',?_⟩;rcases q with⟨k,e⟩ | ⟨k,c,e,z⟩
    .refine .inl ⟨k,?_⟩;have:y≠x:=λe=>Y (xV hN G (e▸hi));simp[this,e]
    .exact .inr ⟨k,c,e,z.sameBut l (cne y c e)⟩
  .obtain⟨w',z⟩:=I.cell y c e;exact⟨w',z.sameBut l (cne y c e)⟩
  .obtain⟨e,n,ne,nf,d⟩:=I.pin p B;exact⟨(l.2 p.1 ne).trans e,n,ne,nf,d⟩
 .have am:X.fn x=true:=by
   rcases hf with z | z
   .exact z
   .rw[z]at C;cases C
  obtain⟨c,f⟩:=I.ok.has x (.inl C);obtain⟨w',z⟩:=I.cell x c f;refine wpAny_storeName_cell I.ok.kind C f z (λh' ac l=>?_);obtain⟨oc,ap,aA⟩:=id z;refine h { s with heap:=h' } ⟨I.ok,I.os,I.bare,⟨λb o e n L O=>?_,λb o e n L O=>?_,I.base.free,λb o e O=>?_,I.base.tups,I.base.frzs,I.base.tbls⟩,⟨m,T.sameBut l (Ne.symm (cne x c f)),λj y v' G t e3=>?_⟩,λy J e=>?_,I.free,I.freeC,λp B=>?_,aa ⟨oc,ap,I.freeC x c f⟩ l,by simpa using I.len⟩ ⟨c,l,.inr f⟩
  .exact(l.2 b (HN (HY (L9 e) (I.ok.cab x c am f)))).trans (I.base.keep b o e n L O)
  .obtain⟨sl,G⟩:=I.base.slot b o e n L O;exact⟨sl,(l.2 b (HN (HY (L9 e) (I.ok.cab x c am f)))).trans G⟩
  .obtain⟨o',G⟩:=I.base.there b o e O;exact⟨o',(l.2 b (HN (HY (L9 e) (I.ok.cab x c am f)))).trans G⟩
  .by_cases Y:j=i
   .subst Y;rw[hi]at G;cases G;rw[List.getElem?_set_self al]at t
    cases t
    exact⟨u,r,.inr ⟨.inl C,c,f,ac⟩⟩
   .rw[List.getElem?_set_ne (Ne.symm Y)]at t;obtain⟨u',r',q⟩:=D j y v' G t e3;refine⟨u',r',?_⟩;rcases q with q | ⟨k,J,e,z'⟩
    .exact .inl q
    .refine .inr ⟨k,J,e,z'.sameBut l ?_⟩;rintro rfl;exact Y (xV hN G (I.ok.inj _ _ _ e f▸hi))
  .by_cases aI:J=c
   .subst aI;exact⟨_,ac⟩
   .obtain⟨w2,z2⟩:=I.cell y J e;exact⟨w2,z2.sameBut l aI⟩
  .obtain⟨e,n,ne,nf,d⟩:=I.pin p B;refine⟨(l.2 p.1 ?_).trans e,n,ne,nf,d⟩;intro q;rw[q,ap]at e;have q':oc=p.2:=HM e;exact d w' (by rw[← q'];exact aA)
theorem mK{M:Model}{v:V}{Q:Unit->Shared->Prop}(I:Inv X pins σ H s)(o:X.N.Nodup)(hi:X.N[i]?=some x)(O:Loc X.env.scope x)(r:RelV v u)
  (h:∀ s',Inv X pins (σ.set i (some v)) H s'->Q () s') (a:X.fn x=true∨X.env.scope.names.lookup x=some .local:=by first | exact .inl rfl | exact .inr rfl | assumption):wpAny M A (storeName X.env x u) Q E s :=
 zT I o hi O r (λs' m _=>h s' m) a
theorem Inv.call'{s':Shared}{ch:List Addr}(I:Inv X pins σ H s)(T:s'.os=s.os)(u:Un (frs X.stack) ch H H' s.heap s'.heap)(A:HOk X.prog X.w H' s'.heap)(m:AllBare s'.gens)
  (y:∀ b∈ch,(b∈X.ex∨X.s₀.heap.objs.size<=b)/\b≠X.env.locals/\(∀ x c,X.env.cells.lookup x=some c->c≠b)/\∀ p∈X.pn++pins,p.1≠b):Inv X pins σ H' s':=by
 obtain⟨h',g',d',t',C⟩:=s';have e:C=s.os:=T;subst e;exact I.call (g':=g') (t':=t') (d':=d') u A m y
end
abbrev XK:=Value->Option Addr->Hp->Prop
abbrev St:=List (Option V)
abbrev VK:=V->Hp->Prop
abbrev TE:=St->Hp->VK->Prop
abbrev TT:=St->Hp->(Bool->Hp->Prop)->Prop
abbrev TA:=St->Hp->(List V->Hp->Prop)->Prop
set_option genInjectivity false in
structure Ends where
 nx:St->Hp->Prop
 rt:VK
 bk:St->Hp->Prop:=λ_ _=>False
 ct:St->Hp->Prop:=λ_ _=>False
abbrev TS:=Ends->St->Hp->Prop
def EP(X:Cx)(B:List (Addr×Obj))(σ:St)(Q:VK)(u:Value)(s':Shared):Prop:=∃ v C,Inv X B σ C s'/\RelV v u/\Q v C
def TP(X:Cx)(B:List (Addr×Obj))(σ:St)(Q:Bool->Hp->Prop)(b:Bool)(s':Shared):Prop:=∃ C,Inv X B σ C s'/\Q b C
def AP(X:Cx)(B:List (Addr×Obj))(σ:St)(Q:List V->Hp->Prop)(us:List Value)(s':Shared):Prop:=∃ l C,Inv X B σ C s'/\Vals l us/\Q l C
def SP(X:Cx)(B:List (Addr×Obj))(D:Ends)(f:Flow)(s':Shared):Prop :=
 match f with
 |.next=>∃ p C,Inv X B p C s'/\D.nx p C
 |.brk=>∃ p C,Inv X B p C s'/\D.bk p C
 |.cont=>∃ p C,Inv X B p C s'/\D.ct p C
 |.ret u=>∃ v p C,Inv X B p C s'/\RelV v u/\D.rt v C
def PE(X:Cx)(e:Expr)(t:TE):Prop :=
 ∀(B:List (Addr×Obj))(s:Shared)(Y:St)(H:Hp)(Q:VK),Inv X B Y H s->t Y H Q->wpAny (model X.prog X.w) X.A (eval e X.env) (EP X B Y Q) X.xe s
def PT(X:Cx)(e:Expr)(t:TT):Prop :=
 ∀(B:List (Addr×Obj))(s:Shared)(Y:St)(H:Hp)(Q:Bool->Hp->Prop),Inv X B Y H s->t Y H Q->wpAny (model X.prog X.w) X.A (isTrue e X.env (eval e X.env)) (TP X B Y Q) X.xe s
def PW(X:Cx)(e:Expr)(t:TT):Prop :=
 ∀(whole:Sem Value)(B:List (Addr×Obj))(s:Shared)(Y:St)(H:Hp)(Q:Bool->Hp->Prop),Inv X B Y H s->t Y H Q->wpAny (model X.prog X.w) X.A (isTrue e X.env whole) (TP X B Y Q) X.xe s
theorem PW.pt{X:Cx}{e:Expr}{t:TT}(h:PW X e t):PT X e t:=h _
def PA(X:Cx)(es:List Expr)(t:TA):Prop :=
 ∀(r:Pos)(B:List (Addr×Obj))(s:Shared)(Y:St)(H:Hp)(Q:List V->Hp->Prop),Inv X B Y H s->t Y H Q->wpAny (model X.prog X.w) X.A (spliced (backTo r (Me es X.env))) (AP X B Y Q) X.xe s
def PS(X:Cx)(st:Stmt)(t:TS):Prop :=
 ∀(B:List (Addr×Obj))(s:Shared)(Y:St)(H:Hp)(D:Ends),Inv X B Y H s->t D Y H->wpAny (model X.prog X.w) X.A (exec st X.env) (SP X B D) X.xe s
def PSs(X:Cx)(st:List Stmt)(t:TS):Prop :=
 ∀(B:List (Addr×Obj))(s:Shared)(Y:St)(H:Hp)(D:Ends),Inv X B Y H s->t D Y H->wpAny (model X.prog X.w) X.A (execs st X.env) (SP X B D) X.xe s
theorem thn{t:Sem α}{Q v:α->Shared->Prop}{M:Model}(h:wpAny M A t Q E s)(y:∀ a s,Q a s->v a s):wpAny M A t v E s:=Mf h y λ_ _ x=>x
section
variable{X:Cx}
inductive tVar(i:Nat)(σ:L2.St)(H:L2.Hp)(Q:L2.VK):Prop
 |mk (v:_) (h0_:σ[i]?=some (some v))(h1_:Q v H)
def tC(v:V):TE:=λ_ H Q=>Q v H
theorem pe_var(o:X.N[i]?=some x)(p:Vis X.env.scope x) (hd:(x == ("__debug__" : Str))=false:=by decide) (M:(x == ("__classdict__" : Str))=false:=by decide):PE X (.Name x pos) (tVar i):=by
 intro B s Y H Q I h;obtain⟨v,e,h⟩:=h;obtain⟨m,g,D⟩:=I.loc;obtain⟨u,r,l⟩:=D i x v o e p;have G:EP X B Y Q u s:=⟨v,H,I,r,h⟩;rcases l with⟨C,E⟩ | ⟨C,c,f,a⟩
 .exact wpAny_Name (wpAny_loadName_local I.ok.kind C g E G) hd
 .rcases C with C | C
  .exact wpAny_Name (wpAny_loadName_cell I.ok.kind C f a G) hd
  .exact wpAny_Name (wpAny_loadName_free I.ok.kind C f a G M) hd
theorem ai{i j pos}:PE X (.Constant (.int i) j pos) (tC (.int i)):=λ_ _ _ H _ I h=>wpAny_Constant_int ⟨.int i,H,I.tok _,⟨_,rfl⟩,h⟩
theorem nM{b j pos}:PE X (.Constant (.bool b) j pos) (tC (.bl b)):=λ_ _ _ H _ I h=>Constant_bool ⟨.bl b,H,I,rfl,h⟩
theorem oZ{j pos}:PE X (.Constant .none j pos) (tC .non):=λ_ _ _ H _ I h=>Constant_none ⟨.non,H,I,rfl,h⟩
def Gl(X:Cx)(x:Str):Prop:=X.env.kindOf x=some .globalImplicit
theorem qF{σ:St}{H:Hp}(I:Inv X Y σ H s)(m:Gl X x)(N:X.mg x=some u)(h:Q u s)
  (hd:(x == ("__debug__" : Str))=false:=by decide):wpAny (model X.prog X.w) X.A (eval (.Name x pos) X.env) Q E s :=
 Calls.Name_function_global I.ok.kind m (Calls.loadGlobal_global (by rw[I.ok.glob];exact I.mod.glob.keeps I.bk) N h) hd
theorem jt{σ:St}{H:Hp}(I:Inv X Y σ H s)(m:Gl X x)(N:X.mg x=none)(p:Mb x=some u)(h:Q u s)
  (g:x≠"__name__":=by decide) (hd:(x == ("__debug__" : Str))=false:=by decide):wpAny (model X.prog X.w) X.A (eval (.Name x pos) X.env) Q E s:=by
 obtain⟨k,M,J⟩:=I.mod.blt;exact Calls.Name_function_global I.ok.kind m (Calls.loadGlobal_builtin (by rw[I.ok.glob];exact I.mod.glob.keeps I.bk) N (by rw[I.ok.blt];exact M.keeps I.bk) ((J x g).trans p) h) hd
theorem FP{v:V}(m:Gl X x)(N:X.mg x=some u)(r:RelV v u) (hd:(x == ("__debug__" : Str))=false:=by decide):PE X (.Name x pos) (tC v) :=
 λ_ _ _ H _ I h=>qF I m N ⟨v,H,I,r,h⟩ hd
theorem FQ{v:V}(m:Gl X x)(N:X.mg x=none)(p:Mb x=some u)(r:RelV v u) (g:x≠"__name__":=by decide) (hd:(x == ("__debug__" : Str))=false:=by decide):PE X (.Name x pos) (tC v) :=
 λ_ _ _ H _ I h=>jt I m N p ⟨v,H,I,r,h⟩ g hd
variable{a b:Expr}{ta tb:TE}{pos:Pos}
def PC(X:Cx)(op:CmpOp)(a b:Expr)(t:TE):Prop :=
 ∀(B:List (Addr×Obj))(s:Shared)(Y:St)(H:Hp)(Q:VK),Inv X B Y H s->t Y H Q ->
  wpAny (model X.prog X.w) X.A (eval a X.env) (λv f=>wpAny (model X.prog X.w) X.A (eval b X.env) (λu c=>wpAny (model X.prog X.w) X.A (Mg op v u) (EP X B Y Q) X.xe c) X.xe f) X.xe s
def tB(t:TE):TT:=λY H Q=>t Y H λx O=>∃ c,x=.bl c/\Q c O
theorem xK{t:TE}(h:PC X op a b t)(M:behindInMarks op b=false:=by first | exact nobehind _ (by decide) (by decide) | rfl):PT X (.Compare a [op] [b] pos) (tB t):=by
 intro B s Y H Q I p;refine wpAny_isTrue_Compare1 (thn (h B s Y H _ I p) λv j M=>thn M λu m J=>thn J λc L ⟨x,O,i,w,C⟩=>?_) M;obtain⟨d,rfl,q⟩:=C
 cases w
 exact Mh ⟨O,i,q⟩
theorem lU{e:Expr}{t:TE}(h:PE X e t)(T:∀ whole,isTrue e X.env whole=(do let v ← whole;standAt e.pos;holding [v] (truthy v)):=by intro _;rfl):PT X e (tB t):=by
 intro B s Y H Q I p;refine isTrue_plain (thn (h B s Y H _ I p) λv j ⟨x,O,i,w,C⟩=>?_) (T _);obtain⟨d,rfl,q⟩:=C
 cases w
 exact Mh ⟨O,i,q⟩
variable{tA tB':TT}{rest:List Expr}
def tAnd(t u:TT):TT:=λY H Q=>t Y H λc O=>if c=true then u Y O Q else Q false O
def tOr(t u:TT):TT:=λY H Q=>t Y H λc O=>if c=true then Q true O else u Y O Q
def tNot(t:TT):TT:=λY H Q=>t Y H λc O=>Q (!c) O
theorem FK(A:PT X a tA):PW X (.BoolOp .And [a] pos) tA:=by
 intro d B s Y H Q I h;refine isTrue_and (thn (A B s Y H Q I h) λc j e=>?_)
 cases c with
 |true=>exact isTrue_and_nil e
 |false=>exact e
theorem nK(A:PT X a tA):PW X (.BoolOp .Or [a] pos) tA:=by
 intro d B s Y H Q I h;refine isTrue_or (thn (A B s Y H Q I h) λc j e=>?_)
 cases c with
 |false=>exact isTrue_or_nil e
 |true=>exact e
theorem EK(A:PT X a tA)(L:PW X (.BoolOp .And (b::rest) pos) tB'):PW X (.BoolOp .And (a::b::rest) pos) (tAnd tA tB'):=by
 intro d B s Y H Q I h;refine isTrue_and (thn (A B s Y H _ I h) λc j ⟨O,i,C⟩=>?_)
 cases c with
 |true=>exact L d B j Y O Q i C
 |false=>exact⟨O,i,C⟩
theorem oF(A:PT X a tA)(L:PW X (.BoolOp .Or (b::rest) pos) tB'):PW X (.BoolOp .Or (a::b::rest) pos) (tOr tA tB'):=by
 intro d B s Y H Q I h;refine isTrue_or (thn (A B s Y H _ I h) λc j ⟨O,i,C⟩=>?_)
 cases c with
 |true=>exact⟨O,i,C⟩
 |false=>exact L d B j Y O Q i C
theorem oY(A:PT X a tA):PT X (.UnaryOp .Not a pos) (tNot tA):=by
 intro B s Y H Q I h;exact isTrue_not (A B s Y H (λc O=>Q (!c) O) I h)
def tAndV(ta tb:TE):TE:=λY H Q=>ta Y H λx O=>∃ c,x=.bl c/\if c=true then tb Y O Q else Q (.bl false) O
def tOrV(ta tb:TE):TE:=λY H Q=>ta Y H λx O=>∃ c,x=.bl c/\if c=true then Q (.bl true) O else tb Y O Q
def tNotV(ta:TE):TE:=λY H Q=>ta Y H λx O=>∃ c,x=.bl c/\Q (.bl (!c)) O
theorem AD{op}{t:TE}(h:PE X a t):PE X (.BoolOp op [a] pos) t:=λB s Y H Q I C=>BoolOp_one (h B s Y H Q I C)
theorem xP(A:PE X a ta)(L:PE X (.BoolOp .And (b::rest) pos) tb):PE X (.BoolOp .And (a::b::rest) pos) (tAndV ta tb):=by
 intro B s Y H Q I h;refine BoolOp_and (thn (A B s Y H _ I h) λv j ⟨x,O,i,w,C⟩=>?_);obtain⟨c,rfl,C⟩:=C
 cases w
 refine Mh ?_
 cases c with
 |true=>exact L B j Y O Q i C
 |false=>exact⟨.bl false,O,i,rfl,C⟩
theorem pe_or(A:PE X a ta)(L:PE X (.BoolOp .Or (b::rest) pos) tb):PE X (.BoolOp .Or (a::b::rest) pos) (tOrV ta tb):=by
 intro B s Y H Q I h;refine BoolOp_or (thn (A B s Y H _ I h) λv j ⟨x,O,i,w,C⟩=>?_);obtain⟨c,rfl,C⟩:=C
 cases w
 refine Mh ?_
 cases c with
 |false=>exact L B j Y O Q i C
 |true=>exact⟨.bl true,O,i,rfl,C⟩
theorem pe_not(A:PE X a ta):PE X (.UnaryOp .Not a pos) (tNotV ta):=by
 intro B s Y H Q I h;refine UnaryOp_ (thn (A B s Y H _ I h) λv j ⟨x,O,i,w,C⟩=>?_);obtain⟨c,rfl,C⟩:=C
 cases w
 exact not_of (Mh ⟨.bl (!c),O,i,rfl,C⟩)
def tIf(t:TT)(ta tb:TE):TE:=λY H Q=>t Y H λc O=>if c=true then ta Y O Q else tb Y O Q
theorem iZ{c:Expr}(f:PT X c tA)(A:PE X a ta)(L:PE X b tb):PE X (.IfExp c a b pos) (tIf tA ta tb):=by
 intro B s Y H Q I h;refine wpAny_IfExp (thn (f B s Y H _ I h) λd j ⟨O,i,C⟩=>?_)
 cases d with
 |true=>exact A B j Y O Q i C
 |false=>exact L B j Y O Q i C
end
def SqL(K:Hj)(H:Hp)(a:Addr)(xs:List V):Prop :=
 Rd H a (.lst xs) ∨
  ∃(o:Obj)(O:Array Value)(n:Nat),K.lookup a=some o/\o.cls=.type "list"/\o.dict=none/\o.data=.seq O n/\O.size<=LZ/\Vals xs O.toList
def SqT(K:Hj)(H:Hp)(a:Addr)(xs:List V):Prop :=
 Rd H a (.tup xs) ∨
  ∃(o:Obj)(O:Array Value)(n:Nat),K.lookup a=some o/\o.cls=.type "tuple"/\o.data=.seq O n/\O.size<=LZ/\Vals xs O.toList
def absV:Value->Option V
 |.none=>some .non
 |.bool b=>some (.bl b)
 |.int i _=>some (.int i)
 |.str x _=>some (.str x)
 |.bytes b _=>some (.byt b)
 |.float b _=>some (.flt b)
 |.ref a=>some (.ref a)
 |.type n=>some (.ty n)
 |_=>none
theorem RelV.abs{x:V}(r:RelV x u):absV u=some x:=by
 cases x with
 |non=>cases r;rfl
 |bl _=>cases r;rfl
 |int _=>obtain⟨t,rfl⟩:=r;rfl
 |str _=>obtain⟨t,rfl⟩:=r;rfl
 |byt _=>obtain⟨t,rfl⟩:=r;rfl
 |flt _=>obtain⟨t,rfl⟩:=r;rfl
 |ref _=>cases r;rfl
 |ty _=>cases r;rfl
theorem RelV.inj{x y:V}(r:RelV x u)(q:RelV y u):x=y:=HM (r.abs.symm.trans q.abs)
theorem Vals.inj:∀{xs ys:List V}{us:List Value},Vals xs us->Vals ys us->xs=ys
 |_,_,_,.nil,.nil=>rfl
 |_,_,_,.cons r t,.cons D m=>by rw[r.inj D,Vals.inj t m]
section
variable{X:Cx}{pins:List (Addr×Obj)}{σ:St}{H:Hp}{s:Shared}{a:Addr}{xs ys:List V}
theorem SqL.of(h:H a=some (.lst xs)):SqL K H a xs:=.inl (.inl h)
theorem SqT.of(h:H a=some (.tup xs)):SqT K H a xs:=.inl (.inl h)
theorem Inv.list(I:Inv X pins σ H s)(h:SqL X.K H a xs):∃ its:List Value,Vals xs its/\PlainL s.heap a its.toArray/\xs.length<=LZ:=by
 rcases h with h | ⟨o,its,n,C,f,hd,l,A,r⟩
 .obtain⟨z,its,n,r,e⟩:=h.ok I.hok;exact⟨its,r,⟨_,n,e,rfl,rfl,rfl⟩,z⟩
 .refine⟨its.toList,r,⟨o,n,I.kIn a o C,f,hd,by simpa using l⟩,?_⟩
  have e:=r.length;simp only[HK]at e;omega
theorem Inv.tuple(I:Inv X pins σ H s)(h:SqT X.K H a xs):∃ its:List Value,Vals xs its/\IsTup s.heap a its.toArray/\xs.length<=LZ:=by
 rcases h with h | ⟨o,its,n,C,f,l,A,r⟩
 .obtain⟨z,its,r,p⟩:=h.ok I.hok;exact⟨its,r,p,z⟩
 .refine⟨its.toList,r,⟨o,I.kIn a o C,f,n,by simpa using l⟩,?_⟩
  have e:=r.length;simp only[HK]at e;omega
theorem Inv.list_inj(I:Inv X pins σ H s)(h:SqL X.K H a xs)(h':SqL X.K H a ys):xs=ys:=by
 obtain⟨O,r,⟨o,n,e,_,_,d⟩,_⟩:=I.list h;obtain⟨b,D,⟨C,i,l,_,_,B⟩,_⟩:=I.list h';rw[e]at l;cases l;rw[d]at B;injection B with E _;have:O=b:=by simpa using congrArg Array.toList E
 subst this;exact r.inj D
end
abbrev Cx.wish(X:Cx)(E:Value->Shared->Prop):Cx:={ X with xe:=E }
abbrev Cx.nox(X:Cx):Cx:=X.wish λ_ _=>False
theorem Cx.Ok.wish{X:Cx}(ok:X.Ok)(E:Value->Shared->Prop):(X.wish E).Ok :=
 ⟨ok.mod,ok.kind,ok.glob,ok.blt,ok.above,ok.inj,ok.has,ok.cab,ok.hd,ok.frames,ok.stk,ok.exf,ok.bs,ok.bsz,ok.noex,ok.exfs,ok.funs,ok.frf⟩
theorem Cx.Ok.unwish{X:Cx}(ok:(X.wish E).Ok):X.Ok :=
 ⟨ok.mod,ok.kind,ok.glob,ok.blt,ok.above,ok.inj,ok.has,ok.cab,ok.hd,ok.frames,ok.stk,ok.exf,ok.bs,ok.bsz,ok.noex,ok.exfs,ok.funs,ok.frf⟩
section
variable{X:Cx}{pins:List (Addr×Obj)}{σ:St}{H:Hp}{s:Shared}{E:Value->Shared->Prop}
theorem Inv.wish(I:Inv X pins σ H s)(E:Value->Shared->Prop):Inv (X.wish E) pins σ H s:=⟨I.ok.wish E,I.os,I.bare,I.base,I.loc,I.cell,I.free,I.freeC,I.pin,I.hok,I.len⟩
theorem Inv.unwish(I:Inv (X.wish E) pins σ H s):Inv X pins σ H s:=⟨I.ok.unwish,I.os,I.bare,I.base,I.loc,I.cell,I.free,I.freeC,I.pin,I.hok,I.len⟩
theorem SP.unwish{D:Ends}{f:Flow}{s':Shared}(h:SP (X.wish E) pins D f s'):SP X pins D f s':=by
 cases f with
 |next=>obtain⟨p,C,I,q⟩:=h;exact⟨p,C,I.unwish,q⟩
 |brk=>obtain⟨p,C,I,q⟩:=h;exact⟨p,C,I.unwish,q⟩
 |cont=>obtain⟨p,C,I,q⟩:=h;exact⟨p,C,I.unwish,q⟩
 |ret u=>obtain⟨v,p,C,I,r,q⟩:=h;exact⟨v,p,C,I.unwish,r,q⟩
theorem PSs.nox{st:List Stmt}{t:TS}(h:PSs X.nox st t):PSs X st t:=λpins s σ H D I C =>
 Mf (h pins s σ H D (I.wish _) C) (λ_ _ q=>q.unwish) λ_ _ z=>False.elim z
end
section
variable{X:Cx}{st:Stmt}{rest:List Stmt}{t u:TS}{e:Expr}{te:TE}{pos:Pos}
def tNext:TS:=λD Y H=>D.nx Y H
def tSeq(t u:TS):TS:=λD Y H=>t { D with nx:=u D } Y H
theorem aN:PSs X [] tNext:=λ_ _ Y H _ I h=>wpAny_execs_nil ⟨Y,H,I,h⟩
theorem ah(M:PS X st t)(h2:PSs X rest u):PSs X (st::rest) (tSeq t u):=by
 intro B s Y H D I h;refine wpAny_execs_cons (thn (M B s Y H { D with nx:=u D } I h) λf j q=>?_)
 cases f with
 |next =>
  obtain⟨p,C,m,q⟩:=q;exact h2 B j p C D m q
 |ret v=>exact q
 |brk=>exact q
 |cont=>exact q
theorem ao(M:PS X st t):PSs X [st] t:=by
 intro B s Y H D I h;refine wpAny_execs_cons (thn (M B s Y H D I h) λf j q=>?_)
 cases f with
 |next=>exact wpAny_execs_nil q
 |ret v=>exact q
 |brk=>exact q
 |cont=>exact q
theorem Inv.quiet{σ:St}{H:Hp}(I:Inv X Y σ H s):interactive X.env=false:=by simp[interactive,I.ok.kind]
def tDrop(te:TE):TS:=λD Y H=>te Y H λ_ O=>D.nx Y O
theorem aU(T:PE X e te)(l:swapsWith e none pos.line X.env=pure false:=by rfl):PS X (.Expr e pos) (tDrop te):=by
 intro B s Y H D I h;exact wpAny_Expr_any (thn (T B s Y H _ I h) λv j ⟨x,O,i,w,C⟩=>⟨Y,O,i,C⟩) I.quiet l
def tRet(te:TE):TS:=λD Y H=>te Y H D.rt
theorem aF(T:PE X e te):PS X (.Return (some e) pos) (tRet te):=by
 intro B s Y H D I h;exact wpAny_Return_some (thn (T B s Y H _ I h) λv j ⟨x,O,i,w,C⟩=>⟨x,Y,O,i,w,C⟩)
def tIfS(c:TT)(t u:TS):TS:=λD Y H=>c Y H λb O=>if b=true then t D Y O else u D Y O
theorem bF{c:Expr}{a b:List Stmt}{e:TT}(f:PT X c e)(A:PSs X a t)(L:PSs X b u):PS X (.If c a b pos) (tIfS e t u):=by
 intro B s Y H D I h;refine wpAny_If (thn (f B s Y H _ I h) λd j ⟨O,i,C⟩=>?_)
 cases d with
 |true=>exact A B j Y O D i C
 |false=>exact L B j Y O D i C
def tNever:TS:=λ_ _ _=>False
theorem cC:PS X st tNever:=λ_ _ _ _ _ _ h=>h.elim
end
abbrev TG:=V->St->Hp->(St->Hp->Prop)->Prop
abbrev TGs:=List V->St->Hp->(St->Hp->Prop)->Prop
def PG(X:Cx)(a:Expr)(t:TG):Prop :=
 ∀(B:List (Addr×Obj))(s:Shared)(Y:St)(H:Hp)(v:V)(u:Value)(Q:St->Hp->Prop),Inv X B Y H s->RelV v u->t v Y H Q ->
  wpAny (model X.prog X.w) X.A (assign a X.env u) (λ_ d=>∃ p C,Inv X B p C d/\Q p C) X.xe s
def PGs(X:Cx)(ts:List Expr)(t:TGs):Prop :=
 ∀(B:List (Addr×Obj))(s:Shared)(Y:St)(H:Hp)(l:List V)(L:List Value)(Q:St->Hp->Prop),Inv X B Y H s->Vals l L->t l Y H Q ->
  wpAny (model X.prog X.w) X.A (assignInOrder ((Mi ts X.env).map (·.2)) L) (λ_ d=>∃ p C,Inv X B p C d/\Q p C) X.xe s
abbrev TSet:=V->V->V->Hp->(Hp->Prop)->Prop
def PSet(X:Cx)(t:TSet):Prop :=
 ∀(B:List (Addr×Obj))(s:Shared)(Y:St)(H:Hp)(o i v:V)(L e u:Value)(Q:Hp->Prop),Inv X B Y H s->RelV o L->RelV i e->RelV v u->t o i v H Q ->
  wpAny (model X.prog X.w) X.A (setItem L e u) (λ_ d=>∃ C,Inv X B Y C d/\Q C) X.xe s
abbrev TIp:=V->V->Hp->VK->Prop
def PIp(X:Cx)(op:Operator)(t:TIp):Prop :=
 ∀(B:List (Addr×Obj))(s:Shared)(Y:St)(H:Hp)(x y:V)(v u:Value)(Q:VK),Inv X B Y H s->RelV x v->RelV y u->t x y H Q ->
  wpAny (model X.prog X.w) X.A (inplaceOp op v u) (EP X B Y Q) X.xe s
section
variable{X:Cx}{pos:Pos}
def gO(i:Nat):TG:=λv Y H Q=>Q (Y.set i (some v)) H
theorem a8(o:X.N.Nodup)(hi:X.N[i]?=some x)(O:Loc X.env.scope x)(a:X.fn x=true∨X.env.scope.names.lookup x=some .local:=by first | exact .inl rfl | exact .inr rfl | assumption):PG X (.Name x pos) (gO i):=by
 intro B s Y H v u Q I r h;exact wpAny_assign_Name (mK I o hi O r (λd m=>⟨_,H,m,h⟩) a)
def gNil:TGs:=λl Y H Q=>l = []/\Q Y H
inductive gCons(t:TG)(u:TGs)(vs:List L2.V)(σ:L2.St)(H:L2.Hp)(Q:(L2.St->L2.Hp->Prop)):Prop
 |mk (v r:_) (h0_:vs=v::r)(h1_:t v σ H λσ' H'=>u r σ' H' Q)
theorem bT:PGs X [] gNil:=by
 intro B s Y H l L Q I r h;obtain⟨e,h⟩:=h;subst e
 cases r
 exact assignInOrder_nil ⟨Y,H,I,h⟩
theorem aJ{e:Expr}{es:List Expr}{t:TG}{u:TGs}(M:PG X e t)(h2:PGs X es u)
  (l:(Mi (e::es) X.env).map (·.2)=assign e X.env::(Mi es X.env).map (·.2):=by rfl):PGs X (e::es) (gCons t u):=by
 intro B s Y H d L Q I r h;obtain⟨v,n,G,h⟩:=h;subst G
 cases r with
 |cons r y =>
  rw[l];refine assignInOrder_cons (thn (M B s Y H _ _ _ I r h) λ_ j ⟨g,O,i,C⟩=>?_);exact h2 B j g O _ _ Q i y C
inductive gTup(K:Hj)(n:Nat)(t:TGs)(v:L2.V)(σ:L2.St)(H:L2.Hp)(Q:(L2.St->L2.Hp->Prop)):Prop
 |mk (a xs:_) (h0_:v=.ref a)(h1_:SqT K H a xs)(h2_:xs.length=n)(h3_:t xs σ H Q)
theorem nL{es:List Expr}{k:Nat}{t:TGs}(f:X.calm=true)(h:PGs X es t)
  (T:(Mi es X.env).length=n:=by rfl) (c:(Mi es X.env).findIdx? (·.1)=none:=by rfl):PG X (.Tuple es k pos) (gTup X.K n t):=by
 intro B s Y H v u Q I r C;obtain⟨a,N,G,y,D,C⟩:=C;subst G
 cases r
 obtain⟨g,rv,J,A⟩:=I.tuple y;refine assign_Tuple_tuple (I.ok.hd f) J (by simp[T,← D,rv.length]) c λM O=>?_
 have i:Inv X B Y H { s with heap:=M }:=I.kept (t':=s.toks) λb o e=>O b o (HN (L9 e)) e;exact h B _ Y H N _ Q i (by simpa using rv) C
def gSub(a b:TE)(t:TSet):TG:=λv Y H Q=>a Y H λo O=>b Y O λi N=>t o i v N λM=>Q Y M
theorem sk{o i:Expr}{a b:TE}{t:TSet}(T:PE X o a)(hi:PE X i b)(l:PSet X t)
  (A:∀ v,assign (.Subscript o i pos) X.env v=(do
   let ov ← holding [v] (eval o X.env)
   let e ← holding [v,ov] (eval i X.env)
   standAt pos
   holding [v,ov,e] (setItem ov e v)
   release [v,ov,e] []):=by intro _;rfl):PG X (.Subscript o i pos) (gSub a b t):=by
 intro B s Y H v u Q I r h;rw[A];refine Mj (Ml (thn (T B s Y H _ I h) λov j ⟨x,O,J,w,C⟩=>?_));refine Mj (Ml (thn (hi B j Y O _ J C) λe m ⟨y,N,p,g,n⟩=>?_));refine Mj (wpAny_standAt (Mj (Ml (thn (l B m Y N x y v ov e u _ p w g r n) λ_ L ⟨M,E,G⟩=>?_))));exact wpAny_release ⟨Y,M,E,G⟩
def tAsg(A:TE)(g:TG):TS:=λD Y H=>A Y H λx O=>g x Y O D.nx
theorem r9{N e:Expr}{A:TE}{g:TG}(T:PE X e A)(t:PG X N g)(l:swapsWithSole [N] e pos.line X.env=pure false:=by rfl)(hw:swappedStores [N] e X.env=pure none:=by rfl)
  (M:(Mi [N] X.env).map (·.2) = [assign N X.env]:=by rfl):PS X (.Assign [N] e pos) (tAsg A g):=by
 intro B s Y H D I h;refine wpAny_Assign_stores (thn (T B s Y H _ I h) λv j ⟨x,O,i,w,C⟩=>?_) l hw;rw[M];exact thn (t B j Y O x v _ i w C) λ_ m q=>q
theorem ps_set{e:Expr}{A:TE}{b:Pos}(o:X.N.Nodup)(hi:X.N[i]?=some x)(O:Loc X.env.scope x)(T:PE X e A)(l:swapsWith e (some (.Name x b)) pos.line X.env=pure false:=by rfl)(a:X.fn x=true∨X.env.scope.names.lookup x=some .local:=by first | exact .inl rfl | exact .inr rfl | assumption) :
  PS X (.Assign [.Name x b] e pos) (tAsg A (gO i)):=by
 intro B s Y H D I h;refine wpAny_Assign_Name (thn (T B s Y H _ I h) λv j ⟨y,n,J,w,C⟩=>?_) l;exact mK J o hi O w (λm p=>⟨_,n,p,C⟩) a
inductive tAug(i:Nat)(te:TE)(ti:TIp)(D:L2.Ends)(σ:L2.St)(H:L2.Hp):Prop
 |mk (x:_) (h0_:σ[i]?=some (some x))(h1_:te σ H λy H1=>ti x y H1 λz H2=>D.nx (σ.set i (some z)) H2)
theorem EL{e:Expr}{te:TE}{op:Operator}{ti:TIp}{al:Pos}(hN:X.N.Nodup)(hi:X.N[i]?=some x)(O:Loc X.env.scope x)(T:PE X e te)(b:PIp X op ti)(t:X.fn x=true∨X.env.scope.names.lookup x=some .local:=by first | exact .inl rfl | exact .inr rfl | assumption) :
  PS X (.AugAssign (.Name x al) op e pos) (tAug i te ti):=by
 intro B s Y H D I h;obtain⟨v,G,h⟩:=h;obtain⟨m,g,L⟩:=I.loc;have am:Vis X.env.scope x:=by rcases O with k | k;exact .inl k;exact .inr (.inl k)
 obtain⟨u,r,l⟩:=L i x v hi G am;refine wpAny_AugAssign_Name ?_;have go:wpAny (model X.prog X.w) X.A (eval e X.env) (λw ae=>wpAny (model X.prog X.w) X.A (inplaceOp op u w) (λr ab=>wpAny (model X.prog X.w) X.A (storeName X.env x r) (λ_=>SP X B D .next) X.xe ab) X.xe ae) X.xe s:=by
  refine thn (T B s Y H _ I h) λw o aa=>?_;obtain⟨y,n,a,p,M⟩:=aa;refine thn (b B o Y n v y u w _ a r p M) λz q aa=>?_;obtain⟨zv,j,I2,Q,d⟩:=aa;exact mK I2 hN hi O Q (λJ I3=>⟨_,j,I3,d⟩) t
 rcases l with⟨C,E⟩ | ⟨C,c,f,ac⟩
 .exact wpAny_loadName_local I.ok.kind C g E go
 .rcases C with C | C
  .exact wpAny_loadName_cell I.ok.kind C f ac go
  .rcases O with k | k
   .have:X.env.scope.names.lookup x=some .free:=C
    rw[k]at this;cases this
   .have:X.env.scope.names.lookup x=some .free:=C
    rw[k]at this;cases this
def ipI(f:Int->Int->Int):TIp:=λx y H Q=>∃ i j,x=.int i/\y=.int j/\Q (.int (f i j)) H
theorem EZ:PIp X .Add (ipI λi j=>i+j):=by
 intro B s Y H x y v u Q I w g h;obtain⟨i,j,G,E,q⟩:=h;subst G;subst E;obtain⟨t,rfl⟩:=w;obtain⟨m,rfl⟩:=g;exact iadd_int ⟨.int _,H,I.tok _,⟨_,rfl⟩,q⟩
inductive Ez(c:TT)(tb:TS)(D:L2.Ends)(σ:L2.St)(H:L2.Hp):Prop
 |mk (W:Nat->St->Hp->Prop) (h0_:(∃ m,W m σ H))(h1_:∀ m σ H,W m σ H ->
 c σ H λb H1=>if b=true then ∃ N:St->Hp->Prop,(∀ σ' H',N σ' H'->∃ m',m'<m/\W m' σ' H')/\tb { D with nx:=N,ct:=N,bk:=D.nx } σ H1 else D.nx σ H1)
theorem dU{c:Expr}{a:List Stmt}{tc:TT}{tb:TS}(l:PassesOwn (model X.prog X.w) X.A X.env X.xe)(y:PT X c tc)(L:PSs X a tb):PS X (.While c a [] pos) (Ez tc tb):=by
 intro B s Y H D I h;obtain⟨W,⟨u,Q⟩,turn⟩:=h;refine wpAny_While (codeAny_whileLoop (λn k=>∃ p C,Inv X B p C k/\W n p C) ?_ u ⟨Y,H,I,Q⟩);rintro n j ⟨g,O,i,w1⟩;refine Mm l (thn (y B j g O _ i (turn n g O w1)) λb m ⟨r,z,d⟩=>?_)
 cases b with
 |true =>
  obtain⟨N,o,d⟩:=d;rw[NA rfl];refine Mm l (thn (L B m g r _ z d) λf q J=>?_)
  cases f with
  |next =>
   obtain⟨e,M,t,T⟩:=J;obtain⟨G,E,x⟩:=o e M T;exact⟨G,E,e,M,t,x⟩
  |cont =>
   obtain⟨e,M,t,T⟩:=J;obtain⟨G,E,x⟩:=o e M T;exact⟨G,E,e,M,t,x⟩
  |brk=>exact J
  |ret v=>exact J
 |false =>
  rw[NB HG];exact wpAny_execs_nil ⟨g,r,z,d⟩
end
set_option genInjectivity false in
structure It where
 go:Nat->Hp->Prop
 yld:Nat->Hp->V->Hp->Prop
 stop:Nat->Hp->Prop
def FpOk(X:Cx)(B:List (Addr×Obj))(H:Hp)(b:Addr):Prop :=
 H b=none/\b≠X.env.locals/\b∉X.fs/\(b∈X.ex∨X.s₀.heap.objs.size<=b)/\(∀ x c,X.env.cells.lookup x=some c->c≠b)/\∀ p∈X.pn++B,p.1≠b
theorem Inv.fpOk{X:Cx}{σ:St}{H H':Hp}{b:Addr}(I:Inv X Y σ H s)(L:s.heap.objs.size<=b)(g:H' b=none):FpOk X Y H' b:=by
 refine⟨g,IQ (HY I.lt L),I.nofs L,.inr (Io I.sz L),λx c e z=>?_,λp B z=>?_⟩
 .obtain⟨v,q⟩:=I.cell x c e;exact NC (HY q.lt (by rw[z];exact L)) (Iz _)
 .exact NC (HY (L9 (I.pin p B).1) (by rw[z];exact L)) (Iz _)
structure Turn(P:Program)(w:World)(K:Hj)(tg:Expr)(J:It)(fp:List Addr)(it:Addr)(tn:Nat->Heap->Prop):Prop where
 mem:it∈fp
 obj:∀ i h,tn i h->∀ b∈fp,∃ o,h.get? b=some o/\∀ v,o.data≠.cell v
 keep:∀ i h h',tn i h->(∀ b∈fp,∀ o,h.get? b=some o->h'.get? b=some o)->tn i h'
 item:∀(X:Cx),X.prog=P->X.w=w->X.K=K->X.calm=true->∀(i:Nat)(pins:List (Addr×Obj))(s:Shared)(σ:St)(H:Hp)(E:Value->Shared->Prop),Inv X pins σ H s->(∀ b∈fp,FpOk X pins H b)->tn i s.heap->J.go i H ->
  wpAny (model P w) X.A (pyNext (.ref it)) (λr s1=>∃ u,r=some u /\
   wpAny (model P w) X.A (letOwnedTupleGo tg (.ref it) u) (λ_ s2=>∃ x H',Inv X pins σ H' s2/\RelV x u/\J.yld i H x H'/\tn (i+1) s2.heap/\∀ b∈fp,H' b=none) E s1) E s
 done:∀(X:Cx),X.prog=P->X.w=w->X.K=K->X.calm=true->∀(i:Nat)(pins:List (Addr×Obj))(s:Shared)(σ:St)(H:Hp)(E:Value->Shared->Prop),Inv X pins σ H s->(∀ b∈fp,FpOk X pins H b)->tn i s.heap->J.stop i H ->
  wpAny (model P w) X.A (pyNext (.ref it)) (λr s1=>r=none/\Inv X pins σ H s1) E s
 self:∀(A:Around)(i:Nat)(s:Shared)(Q:Value->Shared->Prop)(E:Value->Shared->Prop),tn i s.heap->Q (.ref it) s->wpAny (model P w) A (pyIter (.ref it)) Q E s
abbrev TI:=St->Hp->(It->Hp->Prop)->Prop
def PIE(X:Cx)(B:List (Addr×Obj))(σ:St)(N:Expr)(R:It->Hp->Prop)(d:Value)(s2:Shared):Prop :=
 ∃(e:Addr)(c:List Addr)(a:Nat->Heap->Prop)(J:It)(C:Hp),d=.ref e/\Inv X B σ C s2/\Turn X.prog X.w X.K N J c e a/\a 0 s2.heap/\(∀ b∈c,FpOk X B C b)/\R J C
def PI(X:Cx)(N d:Expr)(k:TI):Prop :=
 ∀(B:List (Addr×Obj))(s:Shared)(Y:St)(H:Hp)(R:It->Hp->Prop),Inv X B Y H s->k Y H R ->
  wpAny (model X.prog X.w) X.A (eval d X.env) (λv j=>wpAny (model X.prog X.w) X.A (pyIter v) (PIE X B Y N R) X.xe j) X.xe s
theorem DN{M:Model}{N:Expr}{n:String}{vs:Array Value}{Q:Unit->Shared->Prop}(T:s.heap.get? it=some o)(f:o.cls=.type n)(hd:o.data=.fields vs)
  (g : ["enumerate","zip","dict_itemiterator","dict_reverseitemiterator","odict_iterator","itertools.zip_longest","itertools.pairwise"].contains n=false) (y:Q () s):wpAny M A (letOwnedTupleGo N (.ref it) u) Q E s:=by
 unfold letOwnedTupleGo
 cases N<;>first
  |exact Mn y
  | (cases u<;>first
    |exact Mn y
    | (refine Mj (wpAny_load T ?_)
       rw[f,hd]
       show wpAny M A (if(["enumerate","zip","dict_itemiterator","dict_reverseitemiterator","odict_iterator","itertools.zip_longest","itertools.pairwise"].contains n&&vs[0]? == some (rawInt _))=true then _ else _) Q E s
       rw[NB (by intro h;rw[g,Iw]at h;cases h)]
       exact Mn y))
def Itl(K:Hj)(a:Addr):It :=
 ⟨λi H=>∃ D x,SqL K H a D/\D[i]?=some x,λi H x C=>C=H/\∀ D,SqL K H a D->D[i]?=some x,λi H=>∃ D,SqL K H a D/\D.length<=i⟩
def Itr(lo:Int)(n:Nat):It:=⟨λi _=>i<n,λi H x C=>C=H/\x=.int (lo+i),λi _=>n<=i⟩
theorem zN{Q:Expr}(a it:Addr):Turn P w K Q (Itl K a) [it] it (λi h=>h.IsListIter it a i) where
 mem:=by simp
 obj:=λi h st b L=>by
  have e:b=it:=by simpa using L
  subst e;obtain⟨o,e,c,d⟩:=st;exact⟨o,e,λv z=>by rw[d]at z;cases z⟩
 keep:=λi h j st k=>st.at λo e=>k it (by simp) o e
 item:=by
  intro X hP C hK f i B s Y H E I r st m;subst hP C hK;obtain⟨N,x,n,O⟩:=m;obtain⟨g,rv,p,A⟩:=I.list n;obtain⟨u,T,l⟩:=rv.get O;obtain⟨f0,t,y,f3,q,f5⟩:=r it (by simp)
  refine wpAny_pyNext_list_item st p.isList (x:=u) (by simpa using T) λj aa sb=>?_
  have J:Inv X B Y H { s with heap:=j }:=I.turned (t':=s.toks) (λb o L e=>(sb.2 b L).trans e) f0 t f3 q f5;obtain⟨o,e,c,d⟩:=id aa;exact⟨u,rfl,DN (s:={ s with heap:=j }) e c d (by decide) ⟨x,H,J,l,⟨rfl,λM G=>by rw[I.list_inj G n];exact O⟩,aa,λb L=>(r b L).1⟩⟩
 done:=by
  intro X hP C hK f i B s Y H E I r st m;subst hP C hK;obtain⟨N,n,O⟩:=m;obtain⟨g,rv,p,A⟩:=I.list n;obtain⟨f0,t,y,f3,q,f5⟩:=r it (by simp)
  have D:=rv.length;exact wpAny_pyNext_list_end (I.ok.hd f) st p.isList (by simp;omega) λj eb=>⟨rfl,I.turned (t':=s.toks) (λb o L e=>eb b o L e) f0 t f3 q f5⟩
 self:=λ_ _ _ _ _ st h=>wpAny_pyIter_listiter st h
theorem yu{N:Expr}(it:Addr)(lo:Int)(n:Nat):Turn P w K N (Itr lo n) [it] it (λi h=>IsRangeIter h it (lo+(i:Nat)*1) ((n:Int)-(i:Nat)) 1) where
 mem:=by simp
 obj:=λi h st b L=>by
  have e:b=it:=by simpa using L
  subst e
  exact⟨_,st,λv z=>by
   have c:Data.fields _=Data.cell v:=z
   cases c⟩
 keep:=λi h M st k=>k it (by simp) _ st
 item:=by
  intro X T C y f i B s Y H E I a st m;subst T C y;obtain⟨r,u,A,x,d,Q⟩:=a it (by simp)
  have W:=Walks.range (prog:=X.prog) (w:=X.w) (I.ok.hd f) it lo 1 n;refine W.item i s _ _ m st λv M l p q j=>?_;obtain⟨t,rfl⟩:=p;have J:Inv X B Y H { s with heap:=M,toks:=l }:=I.turned (λb o L e=>j b o (by simpa using L) e) r u x d Q
  refine⟨_,rfl,DN (s:={ s with heap:=M,toks:=l }) (n:="range_iterator") q rfl rfl (by decide) ⟨.int (lo+i),H,J,⟨t,?_⟩,⟨rfl,rfl⟩,q,λb L=>(a b L).1⟩⟩
  rw[Int.mul_one]
 done:=by
  intro X T C y f i B s Y H E I a st m;subst T C y;obtain⟨r,u,A,x,d,Q⟩:=a it (by simp)
  exact wpAny_pyNext_range_end (I.ok.hd f) st (by have:n<=i:=m;omega) λM O=>⟨rfl,I.turned (t':=s.toks) (λb o L e=>O b o L e) r u x d Q⟩
 self:=λ_ _ _ _ _ st h=>wpAny_pyIter_rangeiter st h
section
variable{X:Cx}{tg:Expr}
def iList(K:Hj)(tl:TE):TI:=λY H R=>tl Y H λx O=>∃ a,x=.ref a/\(∃ D,SqL K O a D)/\R (Itl K a) O
theorem aP{l:Expr}{tl:TE}(hl:PE X l tl):PI X tg l (iList X.K tl):=by
 intro B s Y H R I h;refine thn (hl B s Y H _ I h) λv j z=>?_;obtain⟨x,O,i,w,C⟩:=z;obtain⟨a,e,⟨D,n⟩,q⟩:=C;subst e
 cases w
 obtain⟨g,rv,p,A⟩:=i.list n;refine wpAny_pyIter_list p.isList ?_;refine⟨j.heap.objs.size,[j.heap.objs.size],_,_,O,rfl,i.kept (t':=j.toks) λb o e=>Mo _ e,zN a _,⟨_,Mp _ rfl,rfl,rfl⟩,λb L=>?_,q⟩;have e:b=j.heap.objs.size:=by simpa using L
 subst e;exact i.fpOk (Hl _) (i.hok.fresh (Hl _))
theorem C3{σ:St}{H:Hp}{R:It->Hp->Prop}{lo hi:Int}{t u v:Tok}{tk:Nat}(I:Inv X Y σ H s)(M : -(2^62)<=lo)(h2:lo<2^62)(f : -(2^62)<=hi)(C:hi<2^62)
  (q:R (Itr lo (hi-lo).toNat) H):wpAny (model X.prog X.w) X.A (pyIter (.ref s.heap.objs.size)) (PIE X Y σ tg R) E { s with heap:=s.heap.push { cls:=.type "range",data:=.fields #[.int lo t,.int hi u,.int 1 v] },toks:=tk }:=by
 refine wpAny_pyIter_range (IsRange.new ..) (small_one M h2 f C) ?_;have i:Inv X Y σ H { s with heap:=s.heap.push { cls:=.type "range",data:=.fields #[.int lo t,.int hi u,.int 1 v] },toks:=tk }:=I.kept λb o e=>Mo _ e
 refine⟨(s.heap.push { cls:=.type "range",data:=.fields #[.int lo t,.int hi u,.int 1 v] }).objs.size,[(s.heap.push { cls:=.type "range",data:=.fields #[.int lo t,.int hi u,.int 1 v] }).objs.size],_,_,H,rfl,
  i.kept (t':=tk) λb o e=>Mo _ e,yu _ lo (hi-lo).toNat,?_,λb L=>?_,q⟩
 .have G:lo+((0:Nat):Int)*1=lo:=by simp
  have p:(((hi-lo).toNat:Nat):Int)-((0:Nat):Int)=Mq lo hi 1:=by rw[rangeSize_one];split<;>ac_rfl
  show IsRangeIter _ _ (lo+((0:Nat):Int)*1) ((((hi-lo).toNat:Nat):Int)-((0:Nat):Int)) 1;rw[G,p];exact Mp _ rfl
 .have e:b=(s.heap.push { cls:=.type "range",data:=.fields #[.int lo t,.int hi u,.int 1 v] }).objs.size:=by simpa using L
  subst e;exact i.fpOk (Hl _) (i.hok.fresh (Hl _))
def iRng1(T:TA):TI:=λY H R=>T Y H λl O=>∃ j:Int,l = [.int j]/\-(2^62)<=j/\j<2^62/\R (Itr 0 j.toNat) O
theorem aO{a:Expr}{T:TA}{p:Pos} (m:Gl X "range") (N:X.mg "range" = none) (A:PA X [a] T) (l:Me [a] X.env = [(false,eval a X.env)]:=by rfl):PI X tg (.Call (.Name "range" p) [a] [] pos) (iRng1 T):=by
 intro B s Y H R I h;refine Call_ (jt I m N boot_range (Mr (thn (A pos B s Y H _ I h) λL o ⟨d,O,i,w,C⟩=>?_) l rfl));obtain⟨j,e,C,n,q⟩:=C;subst e
 cases w with
 |cons r y =>
  cases y
  obtain⟨t,rfl⟩:=r;exact call_range_1 (C3 i ∅ ∅ C n (by simpa using q))
def tFor(k:TI)(g:TG)(tb:TS):TS:=λD Y H=>k Y H λJ O=>∃ W:Nat->Nat->St->Hp->Prop,(∃ m,W 0 m Y O)/\∀ i m Y H,W i m Y H ->
 (J.stop i H/\D.nx Y H)∨(J.go i H/\∃ N:St->Hp->Prop,(∀ p C,N p C->∃ G,G<m/\W (i+1) G p C)/\∀ x C,J.yld i H x C->g x Y C λc r=>tb { D with nx:=N,ct:=N,bk:=D.nx } c r)
def xN(fp:List Addr)(h:Heap):List (Addr×Obj):=fp.filterMap λb=>(h.get? b).map λo=>(b,o)
theorem i3{b:Addr}(L:b∈fp)(e:h.get? b=some o):(b,o)∈xN fp h:=List.mem_filterMap.mpr ⟨b,L,by rw[e];rfl⟩
theorem AS{p:Addr×Obj}(B:p∈xN fp h):p.1∈fp/\h.get? p.1=some p.2:=by
 obtain⟨b,L,e⟩:=List.mem_filterMap.mp B
 cases q:h.get? b with
 |none=>rw[q]at e;cases e
 |some o =>
  rw[q]at e;have l:(b,o)=p:=HM e;subst l;exact⟨L,q⟩
theorem Inv.pinned{σ:St}{H:Hp}(I:Inv X Y σ H s)(a:∀ b∈fp,FpOk X Y H b)(T:∀ b∈fp,∃ o,s.heap.get? b=some o/\∀ v,o.data≠.cell v):Inv X (Y++xN fp s.heap) σ H s :=
 I.pins_of λp B=>(Hx.mp B).elim (λz=>I.pin p (HZ _ z)) λz=>by
  obtain⟨L,e⟩:=AS z;obtain⟨r,u,A,_⟩:=a p.1 L;obtain⟨o,l,d⟩:=T p.1 L;rw[e]at l;cases l;exact⟨e,r,u,A,d⟩
theorem Inv.unpinned{pl:List (Addr×Obj)}{σ:St}{H:Hp}(I:Inv X (Y++pl) σ H s):Inv X Y σ H s:=I.pins_of λp B=>I.pin p (HZ _ (Iu _ B))
theorem bw{ae:Expr}{ab:List Stmt}{wi:TI}{g:TG}{tb:TS}(l:PassesOwn (model X.prog X.w) X.A X.env X.xe)(y:X.calm=true)(hi:PI X tg ae wi)(C:PG X tg g)(L:PSs X ab tb)
  (a:∀ x,Ms ae X.env x=pure x:=by intro _;rfl):PS X (.For tg ae ab [] pos) (tFor wi g tb):=by
 intro B s Y H D I h;refine wpAny_For (thn (hi B s Y H _ I h) λv k M=>thn M λaS q c=>?_) a;obtain⟨it,fp,tn,J,j,e,I2,T,ac,f2,W,⟨m0,w0⟩,turn⟩:=c;subst e;have am:∀{H':Hp},(∀ b∈fp,H' b=none)->∀ b∈fp,FpOk X B H' b:=λt b L=>⟨t b L,(f2 b L).2⟩;refine codeAny_forLoop_any (λn s'=>∃ i aa H',Inv X B aa H' s'/\tn i s'.heap/\(∀ b∈fp,H' b=none)/\W i n aa H') ?_ m0 ⟨0,Y,j,I2,ac,λb L=>(f2 b L).1,w0⟩;rintro n p ⟨i,al,z,I3,aI,aL,w3⟩;rcases turn i n al z w3 with⟨stop,qn⟩ | ⟨go,N,hN,step⟩
 .refine Mm l (thn (T.done X rfl rfl rfl y i B p al z X.xe I3 (am aL) aI stop) λr s4 ⟨G,I4⟩=>?_);subst G;exact wpAny_execs_nil ⟨al,z,I4,qn⟩
 .refine Mm l (thn (T.item X rfl rfl rfl y i B p al z X.xe I3 (am aL) aI go) λr s4 ⟨u,G,h4⟩=>?_);subst G;refine Mm l (thn h4 λ_ Q ⟨x,O,I5,r5,y5,ap,aT⟩=>?_);have aV:=I5.pinned (am aT) (T.obj _ _ ap);refine Mm l (thn (C _ Q al O x u _ aV r5 (step x O y5)) λ_ s6 ⟨aA,H6,I6,q6⟩=>?_);refine Mm l (thn (L _ s6 aA H6 _ I6 q6) λf s7 q7=>?_);have again:∀{an:St}{H7:Hp},Inv X (B++xN fp Q.heap) an H7 s7->N an H7->∃ m,m<n/\∃ i aa H',Inv X B aa H' s7/\tn i s7.heap/\(∀ b∈fp,H' b=none)/\W i m aa H':=λ{an H7} I7 n7=>by
   obtain⟨m',E,w7⟩:=hN an H7 n7;refine⟨m',E,i+1,an,H7,I7.unpinned,T.keep _ _ _ ap λb L o e=>(I7.pin (b,o) (HZ _ (HZ _ (i3 L e)))).1,λb L=>?_,w7⟩;obtain⟨o,e,d⟩:=T.obj _ _ ap b L;exact(I7.pin (b,o) (HZ _ (HZ _ (i3 L e)))).2.1
  cases f with
  |next=>obtain⟨an,H7,I7,n7⟩:=q7;exact again I7 n7
  |cont=>obtain⟨an,H7,I7,n7⟩:=q7;exact again I7 n7
  |brk=>obtain⟨an,H7,I7,q7⟩:=q7;exact⟨an,H7,I7.unpinned,q7⟩
  |ret v=>obtain⟨x7,an,H7,I7,r7,q7⟩:=q7;exact⟨x7,an,H7,I7.unpinned,r7,q7⟩
end
theorem cu{xs:List V}{g:TG}{tb:TS}{D:Ends}{σ:St}{H:Hp}(Pv:Nat->St->Hp->Prop)(E:Pv 0 σ H)(hl:∀ i σ H,i<=xs.length->Pv i σ H->SqL K H a xs)
  (l:∀ i x σ H,xs[i]?=some x->Pv i σ H->g x σ H λc H2=>tb { D with nx:=Pv (i+1),ct:=Pv (i+1),bk:=D.nx } c H2) (hd:∀ σ H,Pv xs.length σ H->D.nx σ H) :
  ∃ W:Nat->Nat->St->Hp->Prop,(∃ m,W 0 m σ H)/\∀ i m σ H,W i m σ H ->
   ((Itl K a).stop i H/\D.nx σ H)∨((Itl K a).go i H/\∃ N:St->Hp->Prop,(∀ σ' H',N σ' H'->∃ G,G<m/\W (i+1) G σ' H')/\∀ x H',(Itl K a).yld i H x H'->g x σ H' λc H2=>tb { D with nx:=N,ct:=N,bk:=D.nx } c H2):=by
 refine⟨λi m σ H=>m=xs.length-i/\i<=xs.length/\Pv i σ H,⟨xs.length,by simp,Ia _,E⟩,?_⟩
 rintro i m σ H ⟨rfl,d,p⟩;have q:=hl i σ H d p;by_cases L:i<xs.length
 .refine .inr ⟨⟨xs,xs[i],q,by simp[L]⟩,Pv (i+1),λσ' H' o=>⟨xs.length-(i+1),∅,rfl,L,o⟩,λx H' y=>?_⟩
  obtain⟨e,y⟩:=y;subst e;exact l i x σ _ (y xs q) p
 .have e:i=xs.length:=by omega
  subst e;exact .inl ⟨⟨xs,q,Hl _⟩,hd σ H p⟩
theorem bQ{lo:Int}{g:TG}{tb:TS}{D:Ends}{σ:St}{H:Hp}(Pv:Nat->St->Hp->Prop)(E:Pv 0 σ H)
  (l:∀ i σ H,i<n->Pv i σ H->g (.int (lo+i)) σ H λc H2=>tb { D with nx:=Pv (i+1),ct:=Pv (i+1),bk:=D.nx } c H2) (hd:∀ σ H,Pv n σ H->D.nx σ H) :
  ∃ W:Nat->Nat->St->Hp->Prop,(∃ m,W 0 m σ H)/\∀ i m σ H,W i m σ H ->
   ((Itr lo n).stop i H/\D.nx σ H)∨((Itr lo n).go i H/\∃ N:St->Hp->Prop,(∀ σ' H',N σ' H'->∃ G,G<m/\W (i+1) G σ' H')/\∀ x H',(Itr lo n).yld i H x H'->g x σ H' λc H2=>tb { D with nx:=N,ct:=N,bk:=D.nx } c H2):=by
 refine⟨λi m σ H=>m=n-i/\i<=n/\Pv i σ H,⟨n,by simp,Ia _,E⟩,?_⟩
 rintro i m σ H ⟨rfl,d,p⟩;by_cases L:i<n
 .refine .inr ⟨L,Pv (i+1),λσ' H' o=>⟨n-(i+1),∅,rfl,L,o⟩,λx H' y=>?_⟩
  obtain⟨e,y⟩:=y;subst e y;exact l i σ _ L p
 .have e:i=n:=by omega
  subst e;exact .inl ⟨Hl _,hd σ H p⟩
theorem eQ{c:TT}{tb:TS}{D:Ends}{σ:St}{H:Hp}(Pv:St->Hp->Prop)(a:St->Hp->Nat)(E:Pv σ H)
  (y:∀ σ H,Pv σ H->c σ H λb H1=>if b=true then tb { D with nx:=λσ' H'=>Pv σ' H'/\a σ' H'<a σ H,ct:=λσ' H'=>Pv σ' H'/\a σ' H'<a σ H,bk:=D.nx } σ H1 else D.nx σ H1)
  (mono:∀ σ H Q v,(∀ b H1,Q b H1->v b H1)->c σ H Q->c σ H v):Ez c tb D σ H:=by
 refine⟨λm σ H=>m=a σ H/\Pv σ H,⟨_,rfl,E⟩,?_⟩;rintro m σ H ⟨rfl,p⟩;refine mono σ H _ _ (λb H1 q=>?_) (y σ H p)
 cases b with
 |true=>exact⟨_,λσ' H' ⟨o,l⟩=>⟨_,l,rfl,o⟩,q⟩
 |false=>exact q
abbrev R2:=V->V->Hp->VK->Prop
def OpR(X:Cx)(f:Value->Value->Sem Value)(r:R2):Prop :=
 ∀(B:List (Addr×Obj))(s:Shared)(Y:St)(H:Hp)(x y:V)(v u:Value)(Q:VK),Inv X B Y H s->RelV x v->RelV y u->r x y H Q ->
  wpAny (model X.prog X.w) X.A (f v u) (EP X B Y Q) X.xe s
def UnR(X:Cx)(f:Value->Sem Value)(r:V->Hp->VK->Prop):Prop :=
 ∀(B:List (Addr×Obj))(s:Shared)(Y:St)(H:Hp)(x:V)(v:Value)(Q:VK),Inv X B Y H s->RelV x v->r x H Q ->
  wpAny (model X.prog X.w) X.A (f v) (EP X B Y Q) X.xe s
def fH(X:Cx)(f:Value)(r:List V->Hp->VK->Prop):Prop :=
 ∀(B:List (Addr×Obj))(s:Shared)(Y:St)(H:Hp)(D:List V)(L:List Value)(Q:VK),Inv X B Y H s->Vals D L->r D H Q ->
  wpAny (model X.prog X.w) X.A (call f L) (EP X B Y Q) X.xe s
def tOp(r:R2)(T tb:TE):TE:=λY H Q=>T Y H λx O=>tb Y O λy N=>r x y N Q
def tUn(r:V->Hp->VK->Prop)(T:TE):TE:=λY H Q=>T Y H λx O=>r x O Q
inductive rI(C:Int->Int->Prop)(g:Int->Int->V)(x:L2.V)(y:L2.V)(H:L2.Hp)(Q:L2.VK):Prop
 |mk (i j:_) (h0_:x=.int i)(h1_:y=.int j)(h2_:C i j)(h3_:Q (g i j) H)
inductive rI0(g:Int->Int->V)(x:L2.V)(y:L2.V)(H:L2.Hp)(Q:L2.VK):Prop
 |mk (i j:_) (h0_:x=.int i)(h1_:y=.int j)(h2_:Q (g i j) H)
inductive rU(g:Int->V)(x:L2.V)(H:L2.Hp)(Q:L2.VK):Prop
 |mk (i:_) (h0_:x=.int i)(h1_:Q (g i) H)
section
variable{X:Cx}{a b c:Expr}{ta tb tc:TE}{pos:Pos}
theorem binT(g:PE X a ta)(L:PE X b tb){σ:St}{H:Hp}{R:V->V->Hp->Prop}(I:Inv X Y σ H s)
  (h:ta σ H λx H1=>tb σ H1 λy H2=>R x y H2)  {f:Value->Value->Sem Value}
  (r:∀ v u s2 x y H2,Inv X Y σ H2 s2->RelV x v->RelV y u->R x y H2->wpAny (model X.prog X.w) X.A (f v u) Q X.xe s2) :
  wpAny (model X.prog X.w) X.A (eval a X.env) (λv s₁=>wpAny (model X.prog X.w) X.A (eval b X.env) (λu s₂=>wpAny (model X.prog X.w) X.A (f v u) Q X.xe s₂) X.xe s₁) X.xe s:=by
 refine thn (g Y s σ H _ I h) λv j z=>?_;obtain⟨x,H1,i,o,C⟩:=z;refine thn (L Y j σ H1 _ i C) λu s2 z=>?_;obtain⟨y,H2,p,c,n⟩:=z;exact r v u s2 x y H2 p o c n
theorem av{op:Operator}{r:R2}(T:OpR X (Mt op) r)(A:PE X a ta)(L:PE X b tb):PE X (.BinOp a op b pos) (tOp r ta tb):=by
 intro B s Y H Q I h;exact wpAny_BinOp (binT A L I h λv u m x y N p k c q=>T B m Y N x y v u Q p k c q)
theorem pe_un{op:UnaryOp}{r:V->Hp->VK->Prop}(T:UnR X (unaryOp op) r)(A:PE X a ta):PE X (.UnaryOp op a pos) (tUn r ta):=by
 intro B s Y H Q I h;exact UnaryOp_ (thn (A B s Y H _ I h) λv j ⟨x,O,i,w,C⟩=>T B j Y O x v Q i w C)
theorem opI{f:Value->Value->Sem Value}{C:Int->Int->Prop}{g:Int->Int->Int}
  (rule:∀(i j:Int)(t u:Tok)(s:Shared)(Q:Value->Shared->Prop)(E:Value->Shared->Prop),C i j->Q (.int (g i j) s.toks) { s with toks:=s.toks+1 }->wpAny (model X.prog X.w) X.A (f (.int i t) (.int j u)) Q E s) :
  OpR X f (rI C λi j=>.int (g i j)):=by
 intro B s Y H x y v u Q I k c h;obtain⟨i,j,rfl,rfl,d,q⟩:=h;obtain⟨t,rfl⟩:=k;obtain⟨m,rfl⟩:=c;exact rule i j t m s _ _ d ⟨.int (g i j),H,I.tok _,⟨_,rfl⟩,q⟩
theorem opI0{f:Value->Value->Sem Value}{g:Int->Int->Int}
  (rule:∀(i j:Int)(t u:Tok)(s:Shared)(Q:Value->Shared->Prop)(E:Value->Shared->Prop),Q (.int (g i j) s.toks) { s with toks:=s.toks+1 }->wpAny (model X.prog X.w) X.A (f (.int i t) (.int j u)) Q E s) :
  OpR X f (rI0 λi j=>.int (g i j)):=by
 intro B s Y H x y v u Q I k c h;obtain⟨i,j,rfl,rfl,q⟩:=h;obtain⟨t,rfl⟩:=k;obtain⟨m,rfl⟩:=c;exact rule i j t m s _ _ ⟨.int (g i j),H,I.tok _,⟨_,rfl⟩,q⟩
theorem opB0{f:Value->Value->Sem Value}{g:Int->Int->Bool}
  (rule:∀(i j:Int)(t u:Tok)(s:Shared)(Q:Value->Shared->Prop)(E:Value->Shared->Prop),Q (.bool (g i j)) s->wpAny (model X.prog X.w) X.A (f (.int i t) (.int j u)) Q E s) :
  OpR X f (rI0 λi j=>.bl (g i j)):=by
 intro B s Y H x y v u Q I k c h;obtain⟨i,j,rfl,rfl,q⟩:=h;obtain⟨t,rfl⟩:=k;obtain⟨m,rfl⟩:=c;exact rule i j t m s _ _ ⟨.bl (g i j),H,I,rfl,q⟩
def CDiv(i j:Int):Prop:=0<j/\j<1073741824
def CPow(i j:Int):Prop:=0<=j/\j<=1000000/\i.natAbs<2^64
def CMul(i j:Int):Prop:=(-(2^64)<i/\i<2^64)∨(-(2^64)<j/\j<2^64)
theorem CMul.ok{i j:Int}(h:CMul i j):IntMulOk i j:=by
 rcases h with⟨M,J⟩ | ⟨M,J⟩
 .exact .of_left (intBits_le_64 M J)
 .exact .of_right (intBits_le_64 M J)
theorem yt(k:Nat):(0:Int)<=2^k:=by
 rw[two_pow_cast];exact IH _
theorem bE:OpR X (Mt .Add) (rI0 λi j=>.int (i+j)):=opI0 λ_ _ _ _ _ _ _ q=>add_int q
theorem dM:OpR X (Mt .Sub) (rI0 λi j=>.int (i-j)):=opI0 λ_ _ _ _ _ _ _ q=>sub_int q
theorem b9:OpR X (Mt .Mult) (rI CMul λi j=>.int (i*j)):=opI λ_ _ _ _ _ _ _ f q=>mul_int q f.ok
theorem bj:OpR X (Mt .FloorDiv) (rI CDiv λi j=>.int (i/j)):=opI λi j _ _ _ _ _ f q=>by
 have M:(0:Int)<j:=f.1;have J:j<1073741824:=f.2;exact floordiv_int ∅ (by rw[LD i ∅];exact q) (.inl (PyProof.noPylong_small ∅))
theorem aY:OpR X (Mt .Mod) (rI (λ_ j=>0<j) λi j=>.int (i%j)):=opI λi j _ _ _ _ _ f q=>by
 have M:(0:Int)<j:=f;exact mod_int' ∅ (by rw[Int.fmod_eq_emod_of_nonneg i ∅];exact q)
theorem xT:OpR X (Mt .Pow) (rI CPow λi j=>.int (i^j.toNat)):=opI λ_ _ _ _ _ _ _ f q=>pow_int_small f.1 f.2.1 f.2.2 q
theorem bJ:OpR X (Mt .LShift) (rI CPow λi j=>.int (i*2^j.toNat)):=opI λ_ _ _ _ _ _ _ f q=>lshift_int_small f.1 f.2.1 f.2.2 q
theorem cV:OpR X (Mt .RShift) (rI (λ_ j=>0<=j) λi j=>.int (i/2^j.toNat)):=opI λi j _ _ _ _ _ f q =>
 rshift_int f (by rw[LD i (yt _)];exact q)
theorem eF:OpR X (Mt .BitAnd) (rI0 λi j=>.int (Mu i j)):=opI0 λ_ _ _ _ _ _ _ q=>and_int q
theorem AH:OpR X (Mt .BitOr) (rI0 λi j=>.int (Mv i j)):=opI0 λ_ _ _ _ _ _ _ q=>or_int q
theorem b8:OpR X (Mt .BitXor) (rI0 λi j=>.int (Mw i j)):=opI0 λ_ _ _ _ _ _ _ q=>xor_int q
theorem unI{f:Value->Sem Value}{g:Int->Int}
  (rule:∀(i:Int)(t:Tok)(s:Shared)(Q:Value->Shared->Prop)(E:Value->Shared->Prop),Q (.int (g i) s.toks) { s with toks:=s.toks+1 }->wpAny (model X.prog X.w) X.A (f (.int i t)) Q E s) :
  UnR X f (rU λi=>.int (g i)):=by
 intro B s Y H x v Q I k h;obtain⟨i,rfl,q⟩:=h;obtain⟨t,rfl⟩:=k;exact rule i t s _ _ ⟨.int (g i),H,I.tok _,⟨_,rfl⟩,q⟩
theorem Ew:UnR X (unaryOp .USub) (rU λi=>.int (-i)):=unI λ_ _ _ _ _ q=>neg_int q
end
def scal:V->V->Bool
 |.non,.non=>true | .non,.int _=>true | .int _,.non=>true | .non,.bl _=>true | .bl _,.non=>true | .non,.str _=>true | .str _,.non=>true
 |.int _,.int _=>true | .bl _,.bl _=>true | .str _,.str _=>true | .byt _,.byt _=>true
 |.int _,.str _=>true | .str _,.int _=>true | .bl _,.str _=>true | .str _,.bl _=>true
 |_,_=>false
def rEq:R2:=λx y H Q=>scal x y=true/\Q (.bl (decide (x=y))) H
def rNe:R2:=λx y H Q=>scal x y=true/\Q (.bl (!decide (x=y))) H
theorem BP{i j:Int}:decide (V.int i=V.int j)=(i == j):=by
 rw[Ks];simp
theorem E1{i j:Bool}:decide (V.bl i=V.bl j)=(i == j):=by
 rw[Ks];simp
theorem BO{i j:Str}:decide (V.str i=V.str j)=(i == j):=by
 rw[Ks];simp
theorem BQ{i j:Array UInt8}:decide (V.byt i=V.byt j)=(i.toList == j.toList):=by
 rw[Ks]
 cases i
 cases j
 simp
section
variable{X:Cx}{a b c:Expr}{ta tb tc:TE}{pos:Pos}
theorem bf{σ:St}{H:Hp}{Q:VK}{k n:Bool}(I:Inv X Y σ H s)(q:Q (.bl k) H)(e:k=n):EP X Y σ Q (.bool n) s:=by
 subst e;exact⟨.bl k,H,I,rfl,q⟩
theorem cq:OpR X (Mg .Eq) rEq:=by
 intro B s Y H x y v u Q I k c h;obtain⟨l,q⟩:=h
 cases x with
 |non =>
  cases k
  cases y with
  |non=>cases c;exact PySem.EqNone.eq_none_none (bf I q (by simp))
  |bl j=>cases c;exact PySem.EqNone.eq_none_bool (bf I q (by simp))
  |int j=>obtain⟨m,rfl⟩:=c;exact PySem.EqNone.eq_none_int (bf I q (by simp))
  |str j=>obtain⟨m,rfl⟩:=c;exact PySem.EqNone.eq_none_str (bf I q (by simp))
  |_=>exact NC (show false=true from l) HG
 |bl i =>
  cases k
  cases y with
  |non=>cases c;exact PySem.EqNone.eq_bool_none (bf I q (by simp))
  |bl j=>cases c;exact eq_bool (bf I q E1)
  |str j=>obtain⟨m,rfl⟩:=c;exact PySem.EqMixed.eq_bool_str (bf I q (by simp))
  |_=>exact NC (show false=true from l) HG
 |int i =>
  obtain⟨t,rfl⟩:=k
  cases y with
  |non=>cases c;exact PySem.EqNone.eq_int_none (bf I q (by simp))
  |int j=>obtain⟨m,rfl⟩:=c;exact eq_int (bf I q BP)
  |str j=>obtain⟨m,rfl⟩:=c;exact PySem.EqMixed.eq_int_str (bf I q (by simp))
  |_=>exact NC (show false=true from l) HG
 |str i =>
  obtain⟨t,rfl⟩:=k
  cases y with
  |non=>cases c;exact PySem.EqNone.eq_str_none (bf I q (by simp))
  |bl j=>cases c;exact PySem.EqMixed.eq_str_bool (bf I q (by simp))
  |int j=>obtain⟨m,rfl⟩:=c;exact PySem.EqMixed.eq_str_int (bf I q (by simp))
  |str j=>obtain⟨m,rfl⟩:=c;exact eq_str (bf I q BO)
  |_=>exact NC (show false=true from l) HG
 |byt i =>
  obtain⟨t,rfl⟩:=k
  cases y with
  |byt j=>obtain⟨m,rfl⟩:=c;exact PySem.W.eq_bytes (bf I q BQ)
  |_=>exact NC (show false=true from l) HG
 |_=>cases y<;>exact NC (show false=true from l) HG
theorem jj:OpR X (Mg .NotEq) rNe:=by
 intro B s Y H x y v u Q I k c h;obtain⟨l,q⟩:=h
 cases x with
 |non =>
  cases k
  cases y with
  |non=>cases c;exact PySem.EqNone.ne_none_none (bf I q (by simp))
  |bl j=>cases c;exact PySem.EqNone.ne_none_bool (bf I q (by simp))
  |int j=>obtain⟨m,rfl⟩:=c;exact PySem.EqNone.ne_none_int (bf I q (by simp))
  |str j=>obtain⟨m,rfl⟩:=c;exact PySem.EqNone.ne_none_str (bf I q (by simp))
  |_=>exact NC (show false=true from l) HG
 |bl i =>
  cases k
  cases y with
  |non=>cases c;exact PySem.EqNone.ne_bool_none (bf I q (by simp))
  |bl j=>cases c;exact ne_bool (bf I q (congrArg not E1))
  |str j=>obtain⟨m,rfl⟩:=c;exact PySem.EqMixed.ne_bool_str (bf I q (by simp))
  |_=>exact NC (show false=true from l) HG
 |int i =>
  obtain⟨t,rfl⟩:=k
  cases y with
  |non=>cases c;exact PySem.EqNone.ne_int_none (bf I q (by simp))
  |int j=>obtain⟨m,rfl⟩:=c;exact ne_int (bf I q (congrArg not BP))
  |str j=>obtain⟨m,rfl⟩:=c;exact PySem.EqMixed.ne_int_str (bf I q (by simp))
  |_=>exact NC (show false=true from l) HG
 |str i =>
  obtain⟨t,rfl⟩:=k
  cases y with
  |non=>cases c;exact PySem.EqNone.ne_str_none (bf I q (by simp))
  |bl j=>cases c;exact PySem.EqMixed.ne_str_bool (bf I q (by simp))
  |int j=>obtain⟨m,rfl⟩:=c;exact PySem.EqMixed.ne_str_int (bf I q (by simp))
  |str j=>obtain⟨m,rfl⟩:=c;exact ne_str (bf I q (congrArg not BO))
  |_=>exact NC (show false=true from l) HG
 |byt i =>
  obtain⟨t,rfl⟩:=k
  cases y with
  |byt j=>obtain⟨m,rfl⟩:=c;exact PySem.W.ne_bytes (bf I q (congrArg not BQ))
  |_=>exact NC (show false=true from l) HG
 |_=>cases y<;>exact NC (show false=true from l) HG
theorem sJ:OpR X (Mg .Lt) (rI0 λi j=>.bl (decide (i<j))):=opB0 λ_ _ _ _ _ _ _ q=>lt_int q
theorem op_le:OpR X (Mg .LtE) (rI0 λi j=>.bl (decide (i<=j))):=opB0 λ_ _ _ _ _ _ _ q=>le_int q
theorem vf:OpR X (Mg .Gt) (rI0 λi j=>.bl (decide (j<i))):=opB0 λ_ _ _ _ _ _ _ q=>gt_int q
theorem AJ:OpR X (Mg .GtE) (rI0 λi j=>.bl (decide (j<=i))):=opB0 λ_ _ _ _ _ _ _ q=>ge_int q
theorem op_isN:OpR X (Mg .Is) (λx y H Q=>y=.non/\Q (.bl (decide (x=.non))) H):=by
 intro B s Y H x y v u Q I k c h;obtain⟨rfl,q⟩:=h
 cases c
 refine is_none_gen (bf I q ?_)
 cases x<;>first
  | (cases k;rfl)
  | (obtain⟨t,rfl⟩:=k;rfl)
theorem FR:OpR X (Mg .IsNot) (λx y H Q=>y=.non/\Q (.bl (!decide (x=.non))) H):=by
 intro B s Y H x y v u Q I k c h;obtain⟨rfl,q⟩:=h
 cases c
 refine isnot_none_gen (bf I q ?_)
 cases x<;>first
  | (cases k;rfl)
  | (obtain⟨t,rfl⟩:=k;rfl)
theorem aE(b:Expr)(h:op≠.In:=by decide)(h2:op≠.NotIn:=by decide):behindInMarks op b=false:=by
 have G:(op == CmpOp.In)=false:=by cases op<;>first | rfl | exact NC rfl h
 have E:(op == CmpOp.NotIn)=false:=by cases op<;>first | rfl | exact NC rfl h2
 cases b<;>simp[behindInMarks,G,E]
theorem cE{r:R2}(T:OpR X (Mg op) r)(A:PE X a ta)(L:PE X b tb)(E:behindInMarks op b=false):PE X (.Compare a [op] [b] pos) (tOp r ta tb):=by
 intro B s Y H Q I h;exact wpAny_Compare1 (binT A L I h λv u m x y N p k c q=>T B m Y N x y v u Q p k c q) E
def tTest(t:TE):TT:=λY H Q=>t Y H λx C=>∃ k,x=.bl k/\Q k C
theorem aD{r:R2}(T:OpR X (Mg op) r)(A:PE X a ta)(L:PE X b tb)(E:behindInMarks op b=false):PT X (.Compare a [op] [b] pos) (tTest (tOp r ta tb)):=by
 intro B s Y H Q I h
 refine wpAny_isTrue_Compare1 (thn (A B s Y H _ I h) λv j ⟨x,O,i,w,C⟩=>thn (L B j Y O _ i C) λu m ⟨y,N,p,g,n⟩ =>
  thn (T B m Y N x y v u _ p w g n) λc q ⟨z,M,t,f,k,e,J⟩=>?_) E
 subst e
 cases f
 exact Mh ⟨M,t,J⟩
theorem o8:(LZ:Nat)<2^63:=by rw[sizeLine_eq];decide
theorem g9{x:V}(r:Vals [x] us):∃ u,us = [u]/\RelV x u:=by
 cases r with
 |cons w g=>cases g;exact⟨_,rfl,w⟩
theorem CD{x y:V}(r:Vals [x,y] us):∃ u w',us = [u,w']/\RelV x u/\RelV y w':=by
 cases r with
 |cons w g =>
  cases g with
  |cons f p=>cases p;exact⟨_,_,rfl,w,f⟩
theorem Ci(f:X.calm=true):fH X (.builtin "min") (λxs H Q=>∃ i j,xs = [.int i,.int j]/\Q (.int (if j<i then j else i)) H):=by
 intro B s Y H xs L Q I r h;obtain⟨i,j,rfl,q⟩:=h;obtain⟨u,w,rfl,⟨t,rfl⟩,⟨m,rfl⟩⟩:=CD r;refine min_two_ints (I.ok.hd f) λM l k=>⟨_,H,I.kept k,?_,q⟩;by_cases c:j<i
 .rw[NA c,NA c];exact⟨_,rfl⟩
 .rw[NB c,NB c];exact⟨_,rfl⟩
theorem Cm:fH X (.type "int") (λxs H Q=>(∃ i,xs = [.int i]/\Q (.int i) H)∨∃ k,xs = [.bl k]/\Q (.int (if k then 1 else 0)) H):=by
 intro B s Y H xs L Q I r h;rcases h with⟨i,rfl,q⟩ | ⟨k,rfl,q⟩
 .obtain⟨u,rfl,t,rfl⟩:=g9 r;exact call_int_int ⟨.int i,H,I,⟨_,rfl⟩,q⟩
 .obtain⟨u,rfl,w⟩:=g9 r
  cases w
  exact call_int_bool ⟨.int (if k then 1 else 0),H,I.tok _,⟨_,rfl⟩,q⟩
end
structure ObjM(h:Heap)(x dx C:Addr)(mA:Str->Option Value):Prop where
 obj:h.get? x=some (JC C dx)
 ns:h.Ns1 dx mA
 ne:dx≠x
theorem A3{L:Str->Option Value}(n:h.Ns1 p L):∃ i,h.get? p=some i/\∀ name,K5 name i=some (L name):=by
 obtain⟨o,B,D,T,hd,C,_,N⟩:=n;refine⟨o,T,λname=>?_⟩;have e:=N name;unfold nsFind findBy at e;rw[← Array.find?_toList]at e;unfold K5;rw[hd];dsimp only;split
 .rename_i y q;rw[q]at e;exact congrArg some e
 .rename_i q;rw[q]at e;have a:B.toList.any (·.refKey)=false:=by
   rw[List.any_eq_false];intro y G;obtain⟨z,t,b⟩:=C y (Array.mem_toList_iff.mp G);simp[DictEntry.refKey,b]
  have g:¬ B.toList.any (·.refKey)=true:=by rw[a];exact HG
  rw[NB g];exact congrArg some e
theorem ObjM.look{x:Addr}{L:Str->Option Value}(I:ObjM h x a C L):∃ i,PySem.W.InstAt h x (JC C a) C (some i)/\∀ name,K5 name i=some (L name) :=
 let ⟨i,T,D⟩:=A3 I.ns
 ⟨i,⟨I.obj,rfl,rfl,T⟩,D⟩
section
variable{prog:Program}{w:World}{A:Around}{E:Value->Shared->Prop}{s:Shared}{K:Hj}{x dx C f:Addr}{mA:Str->Option Value}{name:Str}{v:Value}
theorem GA{b:Bool}(X:K.In s.heap)(I:ObjM s.heap x dx C mA)(m:JF K C name=true)(H:JQ K C=true)
  (g:HV K (.ref C) name=some none) (p:mA name=some v) (a:PySem.W.handedIn v=true) (h:Q v { s with toks:=s.toks+1 }) :
  wpAny (model prog w) A (getAttr (.ref x) name b) Q E s:=by
 obtain⟨i,J,D⟩:=I.look;exact PySem.W.get_value X J (K9 m).1 (PySem.W.findObj_own H g rfl (by rw[D,p])) a h
theorem DO{Q:Value×List Value->Shared->Prop}(X:K.In s.heap)(I:ObjM s.heap x dx C mA)(m:JF K C name=true)
  (a:HV K (.ref C) name=some (some (.ref f))) (N:JK K (.ref f)=true) (p:mA name=none) (h:Q (.ref f,[.ref x]) s) :
  wpAny (model prog w) A (getMethod (.ref x) name pl) Q E s:=by
 obtain⟨i,J,D⟩:=I.look;exact PySem.W.method_fn X J (K9 m).1 (K9 m).2 a (beq_iff_eq.mp N) (by show(K5 name i).map (·.isSome)=some false;rw[D,p];rfl) h
theorem FD{ns:List Str}{Q:Unit->Shared->Prop}(X:K.In s.heap)(I:ObjM s.heap x dx C mA)
  (l:HV K (.ref C) "__setattr__" = some (some (.builtin "object.__setattr__"))) (B:Kg K C=true) (N:Ly K C name=some none) (e:JQ K C=true)
  (hw:PySem.Within mA ns) (hsz:ns.length<=LZ)
  (h:∀ h',ObjM h' x dx C (λy=>if y=name then some v else mA y)->Md dx s.heap h'->Q () { s with heap:=h',toks:=s.toks+2 }) :
  wpAny (model prog w) A (setAttr (.ref x) name v) Q E s:=by
 obtain⟨i,J,D⟩:=I.look;refine PySem.W.set_plain X J l (PySem.W.osa_open (s:={ s with toks:=s.toks+1 }) (r:=none) X J B N λb=>?_);obtain⟨L,f,H⟩:=PySem.W.any_some e;have O:s.heap.get? x=some ⟨.ref C,some dx,.plain,#[]⟩:=I.obj;refine Mj (Mn (Mj (Mj (wpAny_loadPart O (Mj (PySem.W.Looks.here (s:={ s with toks:=s.toks+1 }) (PySem.W.looks_clsIn X f) ?_))))));rw[H];refine Mn (a:=some dx) (Mj (Mn (Mj ?_)));refine wpAny_nsSet1 (s:={ s with toks:=s.toks+1 }) I.ns λh' c k=>?_;obtain⟨o,m,n,d,g,j⟩:=c.count (PySem.Within.cons name v hw);refine Mj (wpAny_lookBehind d (by rw[g];exact pastItsLine_dict (Io j (by rw[HD];omega))) ?_)
 exact Mn (h _ ⟨(k.2 _ (Ne.symm I.ne)).trans I.obj,c,I.ne⟩ k)
theorem DD{kw:List (Str×Value)}(X:K.In s.heap)(N:Kq K C=true)
  (hi:HV K (.ref C) "__init__" = some (some (.ref f))) (a:PySem.W.typeIn K (.ref f)=some (.type "function"))
  (h:Mx (model prog w) (A.under (.builtin "type.__call__" ⟨.ref C::vs,kw⟩)) (.call (.ref f) ⟨.ref (s.heap.objs.size+1)::vs,kw⟩) (PySem.W.InitBack (s.heap.objs.size+1) R)
   { s with heap:=(s.heap.push Jm).push (JC C s.heap.objs.size) }) :
  Mx (model prog w) A (.call (.ref C) ⟨vs,kw⟩) R s:=by
 obtain⟨H,g,d,t,os⟩:=s;exact PySem.W.make_core (PySem.W.makes_of X N) (PySem.W.looks_findIn X hi) (λb=>PySem.W.bind_fn X b a) (.inl rfl) h
end
def putF(f:Str)(v:V):List (Str×V)->List (Str×V)
 |[]=>[(f,v)]
 | (g,x)::r=>if g=f then(g,v)::r else(g,x)::putF f v r
theorem aG(f g:Str)(v:V):∀ fs:List (Str×V),(putF f v fs).lookup g=if g=f then some v else fs.lookup g
 |[]=>by
  show JO g [(f,v)]=_;by_cases h:g=f
  .have L:(g == f)=true:=beq_iff_eq.mpr h
   simp only[JO,L,NA h]
  .have L:(g == f)=false:=beq_eq_false_iff_ne.mpr h
   simp only[JO,L,NB h]
 | (k,x)::r=>by
  have Y:=aG f g v r;rw[show putF f v ((k,x)::r)=(if k=f then(k,v)::r else(k,x)::putF f v r) from rfl];by_cases C:k=f
  .rw[NA C];by_cases h:g=k
   .have L:(g == k)=true:=beq_iff_eq.mpr h
    simp only[JO,L,NA (h.trans C)]
   .have L:(g == k)=false:=beq_eq_false_iff_ne.mpr h
    simp only[JO,L,NB (λe:g=f=>h (e.trans C.symm))]
  .rw[NB C];by_cases h:g=k
   .have L:(g == k)=true:=beq_iff_eq.mpr h
    simp only[JO,L,NB (λe:g=f=>C (h.symm.trans e))]
   .have L:(g == k)=false:=beq_eq_false_iff_ne.mpr h
    simp only[JO,L];exact Y
theorem nW(f:Str)(v:V):∀ fs:List (Str×V),f∈(putF f v fs).map (·.1)/\∀ g,g∈fs.map (·.1)->g∈(putF f v fs).map (·.1)
 |[]=>⟨by simp[putF],λg h=>by simp at h⟩
 | (k,x)::r=>by
  obtain⟨s,u⟩:=nW f v r;rw[show putF f v ((k,x)::r)=(if k=f then(k,v)::r else(k,x)::putF f v r) from rfl];by_cases C:k=f
  .rw[NA C];subst C;exact⟨by simp,λg h=>by simpa using h⟩
  .rw[NB C];refine⟨?_,λg h=>?_⟩
   .rw[HR];exact Hq _ s
   .rw[HR]at h ⊢;rcases Hs.mp h with e | e
    .exact Hs.mpr (.inl e)
    .exact Hq _ (u g e)
theorem nU(f:Str)(v:V):∀ fs:List (Str×V),(putF f v fs).length<=fs.length+1
 |[]=>by simp[putF]
 | (k,x)::r=>by
  have Y:=nU f v r;rw[show putF f v ((k,x)::r)=(if k=f then(k,v)::r else(k,x)::putF f v r) from rfl];by_cases C:k=f
  .rw[NA C,HD,HD];omega
  .rw[NB C,HD,HD];omega
theorem RelO.some_of{v:V}{o:Option Value}(r:RelO (some v) o):∃ u,o=some u/\RelV v u:=by
 cases o with
 |none=>exact(show False from r).elim
 |some u=>exact⟨u,rfl,r⟩
theorem RelO.none_of{o:Option Value}(r:RelO none o):o=none:=by
 cases o with
 |none=>rfl
 |some u=>exact(show False from r).elim
theorem Bt{v:V}(r:RelV v u):PySem.W.handedIn u=true:=by
 cases v with
 |non=>cases (show u=Value.none from r);rfl
 |bl b=>cases (show u=Value.bool b from r);rfl
 |int i=>obtain⟨t,e⟩:=(show ∃ t,u=Value.int i t from r);cases e;rfl
 |str x=>obtain⟨t,e⟩:=(show ∃ t,u=Value.str x t from r);cases e;rfl
 |byt b=>obtain⟨t,e⟩:=(show ∃ t,u=Value.bytes b t from r);cases e;rfl
 |flt b=>obtain⟨t,e⟩:=(show ∃ t,u=Value.float b t from r);cases e;rfl
 |ref a=>cases (show u=Value.ref a from r);rfl
 |ty n=>cases (show u=Value.type n from r);rfl
section
variable{P:Program}{w:World}{H H':Hp}{h h':Heap}{a C dx:Addr}{fs fs':List (Str×V)}
theorem qM(A:HOk P w H h)(e:H a=some (.ins C dx fs)):∃ L,ObjM h a dx C L/\(∀ f,RelO (fs.lookup f) (L f))/\PySem.Within L (fs.map (·.1))/\fs.length<=1000/\H dx=some (.own a):=by
 obtain⟨d,z,ne,N,L,n,r,q⟩:=(show bG P w H h a (.ins C dx fs) from A a _ e);exact⟨L,⟨N,n,ne⟩,r,q,z,d⟩
end
structure Cls(K:Hj)(C:Addr):Prop where
 pg:JF K C Str.empty=true
 hd:JQ K C=true
 po:Kg K C=true
 sa:HV K (.ref C) "__setattr__" = some (some (.builtin "object.__setattr__"))
theorem Cls.get(c:Cls K C)(f:Str):JF K C f=true:=c.pg
def fy(K:Hj)(C:Addr)(f:Str):Prop:=HV K (.ref C) f=some none
theorem fy.taker{f:Str}(n:fy K C f):Ly K C f=some none:=by
 unfold Ly;rw[show HV K (.ref C) f=some none from n];rfl
structure Meth(K:Hj)(C:Addr)(m:Str)(f:Addr):Prop where
 at_:HV K (.ref C) m=some (some (.ref f))
 fn:JK K (.ref f)=true
 kp:Iv K (.ref f)=true
section
variable{X:Cx}{pins:List (Addr×Obj)}{σ:St}{H:Hp}{s:Shared}{a C dx:Addr}{fs:List (Str×V)}{f:Str}{v:V}{A:Around}{E:Value->Shared->Prop}
theorem yN{b:Bool}(I:Inv X pins σ H s)(e:H a=some (.ins C dx fs))(c:Cls X.K C)(n:fy X.K C f)(l:fs.lookup f=some v)
  (h:∀ u s',Inv X pins σ H s'->RelV v u->Q u s'):wpAny (model X.prog X.w) A (getAttr (.ref a) f b) Q E s:=by
 obtain⟨L,O,r,_,_,_⟩:=qM I.hok e;obtain⟨u,T,J⟩:=RelO.some_of (v:=v) (o:=L f) (by rw[← l];exact r f)
 exact GA I.kIn O (c.get f) c.hd n T (Bt J) (h u _ (I.tok _) J)
theorem pj{m:Str}{g:Addr}{Q:Value×List Value->Shared->Prop}(I:Inv X pins σ H s)(e:H a=some (.ins C dx fs))(c:Cls X.K C)(k:Meth X.K C m g)(l:fs.lookup m=none)
  (h:Q (.ref g,[.ref a]) s):wpAny (model X.prog X.w) A (getMethod (.ref a) m pl) Q E s:=by
 obtain⟨L,O,r,_,_,_⟩:=qM I.hok e;have T:L m=none:=RelO.none_of (by rw[← l];exact r m)
 exact DO I.kIn O (c.get m) k.at_ k.fn T h
theorem yx{y:V}{Q:Unit->Shared->Prop}(I:Inv X pins σ H s)(e:H a=some (.ins C dx fs))(c:Cls X.K C)(n:fy X.K C f)(hl:fs.length<1000)(i:RelV y u)
  (h:∀ s',Inv X pins σ (upd H a (.ins C dx (putF f y fs))) s'->Q () s'):wpAny (model X.prog X.w) A (setAttr (.ref a) f u) Q E s:=by
 obtain⟨d,O,r,k,_,T⟩:=qM I.hok e;have Y:(fs.map (·.1)).length<=LZ:=by rw[Hi,sizeLine_eq];omega
 refine FD I.kIn O c.sa c.po n.taker c.hd k Y λM p j=>h _ ?_;have hd:∃ o,M.get? dx=some o:=let ⟨o,_,_,l,_⟩:=p.ns;⟨o,l⟩;refine I.write (x:=a) (e:=dx) (by rw[e];exact True.intro) (.inr T) (λb q L z=>(j.2 b L).trans z) hd ?_
 refine⟨by rw[aq O.ne];exact T,?_,O.ne,p.obj,_,p.ns,λg=>?_,λg m=>?_⟩
 .have:=nU f y fs;omega
 .show RelO ((putF f y fs).lookup g) (if g=f then some u else d g);rw[aG];by_cases q:g=f
  .rw[NA q,NA q];exact i
  .rw[NB q,NB q];exact r g
 .by_cases q:g=f
  .rw[q];exact(nW f y fs).1
  .refine(nW f y fs).2 g (k g λz=>m ?_);show(if g=f then some u else d g)=none;rw[NB q];exact z
theorem Inv.made(I:Inv X pins σ H s):Inv X pins σ (upd (upd H s.heap.objs.size (.own (s.heap.objs.size+1))) (s.heap.objs.size+1) (.ins C s.heap.objs.size []))
  { s with heap:=(s.heap.push Jm).push (JC C s.heap.objs.size) }:=by
 have G:(s.heap.push Jm).get? s.heap.objs.size=some Jm:=Mp s.heap rfl;have E:((s.heap.push Jm).push (JC C s.heap.objs.size)).get? (s.heap.objs.size+1)=some (JC C s.heap.objs.size):=by
  have:=Mp (s.heap.push Jm) (o:=JC C s.heap.objs.size) rfl;rwa[My]at this
 have B:(s.heap.push Jm).Ns s.heap.objs.size (λ_=>none):=⟨Jm,#[],_,G,rfl,(λe T=>NC T (by simp)),λ_=>rfl⟩
 have i:=I.laid (a:=s.heap.objs.size) (o:=.own (s.heap.objs.size+1)) (h':=s.heap.push Jm) (t':=s.toks) (λb u q=>Mo _ q) (Hl _) ⟨_,G⟩;refine i.laid (a:=s.heap.objs.size+1) (o:=.ins C s.heap.objs.size []) (t':=s.toks) (λb u q=>Mo _ q) (Nat.le_of_eq (My _ _)) ?_;have ne:s.heap.objs.size≠s.heap.objs.size+1:=HN (Ik _);refine⟨by rw[aq ne,ag],Ia _,ne,E,λ_=>none,(Heap.Ns1.of_empty B).at λo q=>Mo _ q,λ_=>True.intro,λy Q=>NC rfl Q⟩
theorem G0{prog:Program}{e:Expr}{f:Str}{s:Shared}(L:attributeBase e f env (eval e env)=eval e env)
  (h:wpAny (model prog w) A (eval e env) (λo s₁=>wpAny (model prog w) A (getAttr o f true) Q E s₁) E s):wpAny (model prog w) A (eval (.Attribute e f pos) env) Q E s :=
 Attribute_any_ h (by rw[arm_eval_Attribute,L])
end
def tFld(K:Hj)(T:TE)(f:Str):TE:=λY H Q=>T Y H λx O=>∃ a C j fs v,x=.ref a/\O a=some (.ins C j fs)/\Cls K C/\fy K C f/\fs.lookup f=some v/\Q v O
def sFld(K:Hj)(T g:TE)(f:Str):TS:=λD Y H=>g Y H λy O=>T Y O λx N=>∃ a C j fs,x=.ref a/\N a=some (.ins C j fs)/\Cls K C/\fy K C f/\fs.length<1000 /\
 D.nx Y (upd N a (.ins C j (putF f y fs)))
section
variable{X:Cx}{o e value:Expr}{f:Str}{pos pos' tpos:Pos}{ta tv:TE}
theorem bM(T:PE X e ta)(L:attributeBase e f X.env (eval e X.env)=eval e X.env):PE X (.Attribute e f pos) (tFld X.K ta f):=by
 intro B s Y H Q I h;refine G0 L (thn (T B s Y H _ I h) λu j ⟨x,O,i,k,a,C,t,fs,v,b,J,c,n,l,q⟩=>?_);subst b;obtain rfl:u=Value.ref a:=k;exact yN i J c n l λd m p E=>⟨v,O,p,E,q⟩
theorem lV(A:PE X o ta)(p:PE X value tv)(G:swapsWith value (some (.Attribute o f pos')) pos.line X.env=pure false):PS X (.Assign [.Attribute o f pos'] value pos) (sFld X.K ta tv f):=by
 intro B s Y H D I h;refine plainObj_wpAny_Assign_Attribute (thn (p B s Y H _ I h) λu j ⟨y,O,i,e,q⟩=>thn (A B j Y O _ i q) λg m ⟨x,N,z,k,a,C,t,fs,b,v,c,n,l,d⟩=>?_) G;subst b;obtain rfl:g=Value.ref a:=k;exact yx z v c n l e λL E=>⟨Y,_,E,d⟩
end
section
variable{X:Cx}{pins:List (Addr×Obj)}{σ:St}{H:Hp}{s:Shared}{A:Around}{E:Value->Shared->Prop}{Q:Value->Shared->Prop}{c:Value}{b:Bool}
inductive TyOf(K:Hj)(H:Hp):V->Value->Prop where
 |non:TyOf K H .non (.type "NoneType")
 |bl (x:Bool):TyOf K H (.bl x) (.type "bool")
 |int (i:Int):TyOf K H (.int i) (.type "int")
 |str (x:Str):TyOf K H (.str x) (.type "str")
 |flt (x:UInt64):TyOf K H (.flt x) (.type "float")
 |lst {a:Addr} {xs:List V} (e:H a=some (.lst xs)):TyOf K H (.ref a) (.type "list")
 |frz {a:Addr} {o:Obj} {xs:List V} (e:H a=some (.frz o (.lst xs))):TyOf K H (.ref a) (.type "list")
 |tup {a:Addr} {xs:List V} (e:H a=some (.tup xs)):TyOf K H (.ref a) (.type "tuple")
 |dK {a:Addr} {kvs:List (Key×V)} (e:H a=some (.dK kvs)):TyOf K H (.ref a) (.type "dict")
 |dT {a:Addr} {kvs:List (List Key×V)} (e:H a=some (.dT kvs)):TyOf K H (.ref a) (.type "dict")
 |ins {a C dx:Addr} {fs:List (Str×V)} (e:H a=some (.ins C dx fs)) (cl:Cls K C) (ha:HV K (.ref C) "__class__" = some (some (.builtin "object.__class__")))
   (hn:PySem.W.specialIn K (.builtin "object.__class__") "__get__" = some (some (.builtin "getset_descriptor.__get__"))) (htk:PySem.W.takesIn K (.builtin "object.__class__")=some true)
   (hm:PySem.W.mroIn K C (.type "object")=some true):TyOf K H (.ref a) (.ref C)
theorem Bf{x:V}{t:Value}(I:Inv X pins σ H s)(k:RelV x u)(ty:TyOf X.K H x t)(e:LI X.K t c=some b)(h:∀ tk,Q (.bool b) { s with toks:=tk }) :
  wpAny (model X.prog X.w) A (call (.builtin "isinstance") [u,c]) Q E s:=by
 cases ty with
 |non=>cases (show u=Value.none from k);exact Jf PySem.W.kitx_none I.kIn True.intro e (λz=>nomatch z) h
 |bl y=>cases (show u=Value.bool y from k);exact Jf PySem.W.kitx_bool I.kIn True.intro e (λz=>nomatch z) h
 |int i=>obtain⟨t,q⟩:=(show ∃ t,u=Value.int i t from k);cases q;exact Jf PySem.W.kitx_int I.kIn True.intro e (λz=>nomatch z) h
 |str y=>obtain⟨t,q⟩:=(show ∃ t,u=Value.str y t from k);cases q;exact Jf PySem.W.kitx_str I.kIn True.intro e (λz=>nomatch z) h
 |flt y=>obtain⟨t,q⟩:=(show ∃ t,u=Value.float y t from k);cases q;exact Jf PySem.W.kitx_float I.kIn True.intro e (λz=>nomatch z) h
 | @lst a D v =>
  cases (show u=Value.ref a from k)
  obtain⟨_,_,n,_,M⟩:=(show bG X.prog X.w H s.heap a (.lst D) from I.hok a _ v);exact Jf PySem.W.kitx_list I.kIn ⟨_,M,rfl⟩ e (λz=>nomatch z) h
 | @frz a f D v =>
  cases (show u=Value.ref a from k)
  obtain⟨_,_,_,n,_,M⟩:=(show bG X.prog X.w H s.heap a (.frz f (.lst D)) from I.hok a _ v);exact Jf PySem.W.kitx_list I.kIn ⟨_,M,rfl⟩ e (λz=>nomatch z) h
 | @tup a D v =>
  cases (show u=Value.ref a from k)
  obtain⟨_,_,_,p⟩:=(show bG X.prog X.w H s.heap a (.tup D) from I.hok a _ v);obtain⟨o,M,N,_⟩:=p;exact Jf PySem.W.kitx_tuple I.kIn ⟨o,M,N⟩ e (λz=>nomatch z) h
 | @dK a m v =>
  cases (show u=Value.ref a from k)
  obtain⟨_,_,l,_,p⟩:=(show bG X.prog X.w H s.heap a (.dK m) from I.hok a _ v);obtain⟨o,B,r,M,N,_⟩:=p;exact Jf PySem.W.kitx_dict I.kIn ⟨o,M,N.1⟩ e (λz=>nomatch z) h
 | @dT a m v =>
  cases (show u=Value.ref a from k)
  obtain⟨_,_,D,_,o,B,r,M,N,_⟩:=(show bG X.prog X.w H s.heap a (.dT m) from I.hok a _ v);exact Jf PySem.W.kitx_dict I.kIn ⟨o,M,N.1⟩ e (λz=>nomatch z) h
 | @ins a C j fs v G g T aa d =>
  cases (show u=Value.ref a from k)
  obtain⟨L,O,_⟩:=qM I.hok v;obtain⟨Y,J,_⟩:=O.look;exact Jf (PySem.W.kitx_own (G.get _) G.hd g T aa d) I.kIn J e (λz=>nomatch z) h
end
structure Room(k:Nat)(A:Around):Prop where
 hd:A.handled=none
 dp:A.depth+3*k+5<recursionLimit
 un:A.units+16*k+200<cLine
theorem Room.mono{k:Nat}(r:Room k A)(h:j<=k):Room j A:=⟨r.hd,by have:=r.dp;omega,by have:=r.un;omega⟩
theorem Room.deeper{k:Nat}(r:Room (k+1) A)(env:Env):Room k (A.deeper env) :=
 ⟨r.hd,by have:=r.dp;show A.depth+1+3*k+5<_;omega,by have:=r.un;show A.units+3+16*k+200<_;omega⟩
theorem yI{kw:List (Str×Value)}:(A.under (.builtin "type.__call__" ⟨.ref C::us,kw⟩)).depth=A.depth+1:=by
 first | rfl | simp[Around.under,Code.weight,Code.isCreation,Code.isGuard,Code.isCaller,Code.frames,Code.isFrame,guardIds]
theorem yH{kw:List (Str×Value)}:(A.under (.builtin "type.__call__" ⟨.ref C::us,kw⟩)).units=A.units+1:=by
 first | rfl | simp[Around.under,Code.cUnits,Code.frames,Code.isFrame]
theorem Room.make{k:Nat}(r:Room (k+1) A)(C:Addr)(us:List Value)(kw:List (Str×Value)):Room k (A.under (.builtin "type.__call__" ⟨.ref C::us,kw⟩)) :=
 ⟨r.hd,by have:=r.dp;rw[yI];omega,by have:=r.un;rw[yH];omega⟩
theorem Room.depth{k:Nat}(r:Room k A):A.depth<recursionLimit:=by have:=r.dp;omega
theorem Room.units{k:Nat}(r:Room k A):A.units+64<cLine:=by have:=r.un;omega
def tNil:TA:=λ_ H Q=>Q [] H
def zS(T:TE)(tr:TA):TA:=λY H Q=>T Y H λx O=>tr Y O λD N=>Q (x::D) N
section
variable{X:Cx}{e:Expr}{es:List Expr}{te:TE}{t:TA}{pos:Pos}
theorem aj:PA X [] tNil:=λ_ _ _ _ H Q I h=>Mz ⟨[],H,I,.nil,h⟩
theorem af(A:PE X e te)(G:PA X es t)(l:Me (e::es) X.env=(false,eval e X.env)::Me es X.env:=by rfl):PA X (e::es) (zS te t):=by
 intro pos B s Y H Q I h;rw[l];show wpAny _ _ (spliced ((false,eval e X.env)::backTo pos (Me es X.env))) _ _ s;refine MA (thn (A B s Y H _ I h) λu j ⟨x,O,i,w,C⟩=>?_);exact thn (G pos B j Y O _ i C) λL m ⟨D,N,p,g,n⟩=>⟨x::D,N,p,.cons w g,n⟩
def tTup(t:TA):TE:=λY H Q=>t Y H λD O=>D.length<=LZ/\∀ p,O p=none->Q (.ref p) (upd O p (.tup D))
def tLst(t:TA):TE:=λY H Q=>t Y H λD O=>D.length<=LZ/\∀ p,O p=none->Q (.ref p) (upd O p (.lst D))
theorem bh{x1}(h:PA X es t):PE X (.Tuple es x1 pos) (tTup t):=by
 intro B s Y H Q I n;refine wpAny_Tuple_spliced (thn (h pos B s Y H _ I n) λL j ⟨D,O,i,r,z,q⟩=>⟨by rw[← r.length];exact z,?_⟩)
 have a:O j.heap.objs.size=none:=i.hok.fresh (Hl _);refine⟨.ref j.heap.objs.size,upd O j.heap.objs.size (.tup D),i.laid (t':=j.toks) (λb u e=>Mo _ e) (Hl _) ?_,rfl,q _ a⟩;exact⟨z,L,r,⟨_,Mp _ rfl,rfl,_,rfl⟩⟩
theorem bL(h:PA X es t):PE X (.List es pos) (tLst t):=by
 intro B s Y H Q I n;refine wpAny_List_spliced (thn (h pos B s Y H _ I n) λL j ⟨D,O,i,r,z,q⟩=>⟨by rw[← r.length];exact z,?_⟩)
 have a:O j.heap.objs.size=none:=i.hok.fresh (Hl _);refine⟨.ref j.heap.objs.size,upd O j.heap.objs.size (.lst D),i.laid (t':=j.toks) (λb u e=>Mo _ e) (Hl _) ?_,rfl,q _ a⟩;exact⟨z,L,0,r,Mp _ rfl⟩
end
abbrev Sp:=List V->Hp->VK->XK->Prop
abbrev CXT:=List Env->Hp->Shared->XK->Value->Shared->Prop
structure Env0(P:Program)(w:World)(K:Hj)(mg:Str->Option Value)(base:Heap)(A:Around)(outer:List Env)(s:Shared)(H:Hp):Prop where
 frames:A.frames=some outer
 mod:Mod K mg base
 bs:∀ b o,base.get? b=some o->s.heap.get? b=some o/\H b=none
 bsz:base.objs.size<=s.heap.objs.size
 funs:s.heap.FunFrames base outer
 frf:∀ b∈frs outer,H b=none
 hok:HOk P w H s.heap
 bare:AllBare s.gens
def CE(outer:List Env)(P:Program)(w:World)(H:Hp)(s:Shared)(Q:VK)(u:Value)(s':Shared):Prop :=
 ∃ v C,s'.os=s.os/\AllBare s'.gens/\Un (frs outer) [] H C s.heap s'.heap/\HOk P w C s'.heap/\RelV v u/\Q v C
def CR(CX:CXT)(outer:List Env)(P:Program)(w:World)(H:Hp)(s:Shared)(Q:VK)(E:XK)(r:Result)(s':Shared):Prop :=
 match r with
 |.ok (.ret u)=>CE outer P w H s Q u s'
 |.ok _=>False
 |.error e=>CX outer H s E e s'
structure FnOk(P:Program)(w:World)(K:Hj)(mg:Str->Option Value)(base:Heap)(CX:CXT)(k:Nat)(f:Addr)(fd:FuncData)(ps:List Str)(sp:Sp):Prop where
 len:∀ vs H Q E,sp vs H Q E->vs.length=ps.length
 run:∀(A:Around)(outer:List Env)(s:Shared)(H:Hp)(args:Args)(us:List Value)(vs:List V)(Q:VK)(E:XK),Room k A->Env0 P w K mg base A outer s H->BindsTo s fd args (ps.zip us)->Vals vs us->sp vs H Q E ->
  Mx (model P w) A (.call (.ref f) args) (CR CX outer P w H s Q E) s
theorem Env0.make{outer:List Env}{H:Hp}(e:Env0 P w K mg base A outer s H)(C:Addr)(us:List Value)(kw:List (Str×Value)) :
  Env0 P w K mg base (A.under (.builtin "type.__call__" ⟨.ref C::us,kw⟩)) outer s H:=⟨by first | exact e.frames | (simpa[Around.under,Code.envs,Code.isFrame,pushEnvs] using e.frames),e.mod,e.bs,e.bsz,e.funs,e.frf,e.hok,e.bare⟩
section
variable{X:Cx}{pins:List (Addr×Obj)}{σ:St}{H:Hp}{s s':Shared}
theorem Inv.env0(I:Inv X pins σ H s):Env0 X.prog X.w X.K X.mg X.base X.A X.stack s H :=
 ⟨I.ok.frames,I.ok.mod,I.bs,Io I.ok.bsz I.sz,I.stack,I.stkFree,I.hok,I.bare⟩
theorem Inv.after{Q:VK}(I:Inv X pins σ H s)(h:CE X.stack X.prog X.w H s Q u s'):EP X pins σ Q u s':=by
 obtain⟨v,C,os,a,un,A,r,q⟩:=h;obtain⟨e,g,d,t,c⟩:=s';obtain rfl:c=s.os:=os;exact⟨v,C,I.call (h':=e) (g':=g) (d':=d) (t':=t) (ch:=[]) un A a (λb z=>NC z (by simp)),r,q⟩
end
def CK(sp:Sp)(b:List V)(E:XK)(t:TA):TE:=λY H Q=>t Y H λl O=>sp (l++b) O Q E
def tMeth(C:Addr)(m:Str)(sp:Sp)(b:List V)(E:XK)(T:TE)(t:TA):TE:=λY H Q=>T Y H λx O=>∃ a j fs,x=.ref a/\O a=some (.ins C j fs)/\fs.lookup m=none /\
 t Y O λl N=>sp (x::(l++b)) N Q E
def tMake(C:Addr)(sp:Sp)(b:List V)(E:XK)(t:TA):TE:=λY H Q=>t Y H λl O=>∀ x j,O x=none->O j=none->j≠x ->
 sp (.ref x::(l++b)) (upd (upd O j (.own x)) x (.ins C j [])) (λv N=>v=.non/\Q (.ref x) N) E
def fJ(K:Hj)(fd:FuncData)(ps:List Str)(ds:List Value):Prop :=
 ∀(s:Shared)(L:List Value),K.In s.heap->(L++ds).length=ps.length->BindsTo s fd ⟨L,[]⟩ (ps.zip (L++ds))
theorem fJ.all{ps:List Str}(h:∀ us:List Value,us.length=ps.length->bindArgs fd ⟨us,[]⟩=pure (ps.zip us)):fJ K fd ps []:=λs us _ D=>by
 rw[Kc]at D ⊢;exact .of_eq (h us D)
def l8(CX:CXT)(X:Cx)(E:XK):Prop:=∀(B:List (Addr×Obj))(Y:St)(H:Hp)(s:Shared)(e:Value)(d:Shared),Inv X B Y H s->CX X.stack H s E e d->X.xe e d
section
variable{X:Cx}{CX:CXT}{k:Nat}{f C:Addr}{fd:FuncData}{ps:List Str}{sp:Sp}{dvs:List V}{ds:List Value}{E:XK}{x m:Str}{p pos apos:Pos}{e o:Expr}{es:List Expr}{ta:TE}{t:TA}
theorem xI{σ:St}{H:Hp}{Q:VK}{vs:List V}(F:FnOk X.prog X.w X.K X.mg X.base CX k f fd ps sp)(G:Room k X.A)(L:fJ X.K fd ps ds)(hd:Vals dvs ds)(O:l8 CX X E)
  (I:Inv X Y σ H s) (r:Vals vs us) (h:sp (vs++dvs) H Q E):wpAny (model X.prog X.w) X.A (call (.ref f) us) (EP X Y σ Q) X.xe s:=by
 have g:Vals (vs++dvs) (us++ds):=r.append hd;have D:(us++ds).length=ps.length:=by rw[← g.length];exact F.len _ _ _ _ h
 refine wpAny_call (MB (F.run X.A X.stack s H ⟨us,[]⟩ (us++ds) (vs++dvs) Q E G I.env0 (L s us I.kIn D) g h) λr d n=>?_)
 cases r with
 |error e=>exact O Y σ H s e d I n
 |ok T =>
  cases T with
  |ret u=>exact I.after n
  |next=>exact False.elim n
  |brk=>exact False.elim n
  |cont=>exact False.elim n
theorem vd(F:FnOk X.prog X.w X.K X.mg X.base CX k f fd ps sp)(u:Room k X.A)(m:Gl X x)(N:X.mg x=some (.ref f))(C:Iv X.K (.ref f)=true)(L:fJ X.K fd ps ds)(hd:Vals dvs ds)(O:l8 CX X E)
  (g:PA X (e::es) t) (a:(x == ("__debug__" : Str))=false:=by decide) (T:Me (e::es) X.env=(false,eval e X.env)::Me es X.env:=by rfl) (o:(backTo pos (Me es X.env)).any (·.1)=false:=by rfl) :
  PE X (.Call (.Name x p) (e::es) [] pos) (CK sp dvs E t):=by
 intro B s Y H Q I h;refine MC (qF I m N ?_ a);refine Le (h₀:=X.base) I.ok.mod.kin C (thn (g pos B s Y H _ I h) λz j ⟨l,n,i,r,q⟩=>⟨i.kIn,?_⟩) T o;exact xI F u L hd O i r q
theorem Dc(F:FnOk X.prog X.w X.K X.mg X.base CX k f fd ps sp)(u:Room k X.A)(m:Gl X x)(N:X.mg x=some (.ref f))(C:Iv X.K (.ref f)=true)(L:fJ X.K fd ps ds)(hd:Vals dvs ds)(O:l8 CX X E)
  (a:(x == ("__debug__" : Str))=false:=by decide):PE X (.Call (.Name x p) [] [] pos) (CK sp dvs E tNil):=by
 intro B s Y H Q I h;refine MC (qF I m N ?_ a);exact PySem.W.callWith_K0 I.kIn C (xI (us:=[]) F u L hd O I .nil h)
theorem qw(T:PE X o ta)(c:Cls X.K C)(b:Meth X.K C m f)(F:FnOk X.prog X.w X.K X.mg X.base CX k f fd ps sp)(G:Room k X.A)(L:fJ X.K fd ps ds)(hd:Vals dvs ds)(O:l8 CX X E)(g:PA X (e::es) t)
  (ab:Me (e::es) X.env=(false,eval e X.env)::Me es X.env:=by rfl) (aa:(backTo pos (Me es X.env)).any (·.1)=false:=by rfl)
  (J:eval (.Call (.Attribute o m apos) (e::es) [] pos) X.env=(do
   let ov ← eval o X.env
   standAt apos.atName
   let (f,first) ← holding [ov] (getMethod ov m pl)
   callWith pos f first (backTo pos (Me (e::es) X.env)) (backToKw pos (keywordEach [] X.env))):=by rfl) :
  PE X (.Call (.Attribute o m apos) (e::es) [] pos) (tMeth C m sp dvs E ta t):=by
 intro B s Y H Q I h;refine PySem.W.methodCall_KW (pl:=pl) (thn (T B s Y H _ I h) λu j ⟨x,n,i,z,a,M,fs,p,y,l,q⟩=>?_) J;subst p;obtain rfl:u=Value.ref a:=z;refine pj i y c b l ?_;refine Le (first:=[.ref a]) (h₀:=X.base) I.ok.mod.kin b.kp (thn (g pos B j Y n _ i q) λus v ⟨vs,N,D,r,d⟩=>⟨D.kIn,?_⟩) ab aa;exact xI (us:=.ref a::us) (vs:=.ref a::vs) F G L hd O D (.cons rfl r) d
theorem kD(T:PE X o ta)(c:Cls X.K C)(N:Meth X.K C m f)(F:FnOk X.prog X.w X.K X.mg X.base CX k f fd ps sp)(G:Room k X.A)(L:fJ X.K fd ps ds)(hd:Vals dvs ds)(O:l8 CX X E)
  (J:eval (.Call (.Attribute o m apos) [] [] pos) X.env=(do
   let ov ← eval o X.env
   standAt apos.atName
   let (f,first) ← holding [ov] (getMethod ov m pl)
   callWith pos f first (backTo pos (Me [] X.env)) (backToKw pos (keywordEach [] X.env))):=by rfl) :
  PE X (.Call (.Attribute o m apos) [] [] pos) (tMeth C m sp dvs E ta tNil):=by
 intro B s Y H Q I h;refine PySem.W.methodCall_KW (pl:=pl) (thn (T B s Y H _ I h) λu j ⟨x,n,i,z,a,t,fs,b,v,l,q⟩=>?_) J;subst b;obtain rfl:u=Value.ref a:=z;refine pj i v c N l ?_;exact PySem.W.callWith_K0 (first:=[.ref a]) i.kIn N.kp (xI (us:=[.ref a]) (vs:=[.ref a]) F G L hd O i (.cons rfl .nil) q)
structure Mk(K:Hj)(C f:Addr):Prop where
 makes:Kq K C=true
 init:HV K (.ref C) "__init__" = some (some (.ref f))
 fn:JK K (.ref f)=true
 kp:Iv K (.ref C)=true
theorem C1{σ:St}{H:Hp}{Q:VK}{vs:List V}(M:Mk X.K C f)(F:FnOk X.prog X.w X.K X.mg X.base CX k f fd ps sp)(G:Room (k+1) X.A)(L:fJ X.K fd ps ds)(hd:Vals dvs ds)
  (O:l8 CX X E) (I:Inv X Y σ H s) (r:Vals vs us)
  (h:∀ x j,H x=none->H j=none->j≠x->sp (.ref x::(vs++dvs)) (upd (upd H j (.own x)) x (.ins C j [])) (λv H2=>v=.non/\Q (.ref x) H2) E) :
  wpAny (model X.prog X.w) X.A (call (.ref C) us) (EP X Y σ Q) X.xe s:=by
 have n:=h (s.heap.objs.size+1) s.heap.objs.size (I.hok.fresh (JB _)) (I.hok.fresh (Hl _)) (HN (Ik _));have p:=Inv.made (C:=C) I;have g:Vals (V.ref (s.heap.objs.size+1)::(vs++dvs)) (Value.ref (s.heap.objs.size+1)::(us++ds)):=.cons rfl (r.append hd);have D:(Value.ref (s.heap.objs.size+1)::us++ds).length=ps.length:=by
  have e:=g.length;rw[F.len _ _ _ _ n]at e;exact e.symm
 refine wpAny_call (DD (f:=f) I.kIn M.makes M.init (beq_iff_eq.mp M.fn) (MB (F.run _ X.stack _ _ ⟨Value.ref (s.heap.objs.size+1)::us,[]⟩ (Value.ref (s.heap.objs.size+1)::(us++ds)) _ _ E (G.make C us [])
  (p.env0.make C us []) (L _ (Value.ref (s.heap.objs.size+1)::us) p.kIn D) g n) λr d a=>?_))
 cases r with
 |error e=>exact O Y σ _ _ e d p a
 |ok T =>
  cases T with
  |ret u =>
   obtain⟨v,i,t,rv,o,J⟩:=p.after a;subst o;exact⟨rv,⟨V.ref (s.heap.objs.size+1),i,t,rfl,J⟩⟩
  |next=>exact False.elim a
  |brk=>exact False.elim a
  |cont=>exact False.elim a
theorem uZ(M:Mk X.K C f)(F:FnOk X.prog X.w X.K X.mg X.base CX k f fd ps sp)(u:Room (k+1) X.A)(m:Gl X x)(N:X.mg x=some (.ref C))(L:fJ X.K fd ps ds)(hd:Vals dvs ds)(O:l8 CX X E)
  (g:PA X (e::es) t) (a:(x == ("__debug__" : Str))=false:=by decide) (T:Me (e::es) X.env=(false,eval e X.env)::Me es X.env:=by rfl) (o:(backTo pos (Me es X.env)).any (·.1)=false:=by rfl) :
  PE X (.Call (.Name x p) (e::es) [] pos) (tMake C sp dvs E t):=by
 intro B s Y H Q I h;refine MC (qF I m N ?_ a);refine Le (h₀:=X.base) I.ok.mod.kin M.kp (thn (g pos B s Y H _ I h) λz j ⟨l,n,i,r,q⟩=>⟨i.kIn,?_⟩) T o;exact C1 M F u L hd O i r q
end
section
variable{X:Cx}{CX:CXT}{k:Nat}{f C:Addr}{fd:FuncData}{ps ks:List Str}{sp:Sp}{E:XK}{x m:Str}{p pos apos kpos:Pos}{e o:Expr}{es:List Expr}{kws:List Keyword}{te ta:TE}{t tk:TA}{nm:Option Str}
variable{g:List Value->List Value->List Value}{gV:List V->List V->List V}
end
structure ay(N P:List Str)(sc:Scope):Prop where
 kind:sc.kind=.function
 co:sc.isCoroutine=false
 gen:sc.isGenerator=false
 nd:N.Nodup
 pre:N.take P.length=P
 par:∀ x∈P,sc.names.lookup x=some .local∨sc.names.lookup x=some .cell
 nofree:∀ y∈sc.names,y.2≠.free
theorem ud{MD:Str->Option NameKind}{x:Str}:∀{binds:List (Str×Value)}{m:Str->Option Value},(∀ v,(x,v)∉binds)->bindL MD binds m x=m x
 |[],_,_=>rfl
 | (n,v)::r,m,h=>by
  unfold bindL;rw[ud λw C=>h w (Hq _ C)];split
  .have:x≠n:=by rintro rfl;exact h v Hu
   simp[this]
  .rfl
theorem uf{MD:Str->Option NameKind}{x:Str}:∀{binds:List (Str×Value)}{m:Str->Option Value},(∀ v,(x,v)∉binds)->bindC MD binds m x=m x
 |[],_,_=>rfl
 | (n,v)::r,m,h=>by
  unfold bindC;rw[uf λw C=>h w (Hq _ C)];split
  .rfl
  .have:x≠n:=by rintro rfl;exact h v Hu
   simp[this]
theorem ue{MD:Str->Option NameKind}{x:Str}{v:Value}:∀{P:List Str}{vs:List Value}{i:Nat}{m:Str->Option Value},P.Nodup->P[i]?=some x->vs[i]?=some v->MD x=some .local ->
  bindL MD (P.zip vs) m x=some v
 |[],_,_,_,_,h,_,_=>by simp at h
 |_::_,[],_,_,_,_,h,_=>by simp at h
 |p::P,w::vs,0,m,Q,M,J,C=>by
  simp at M J;subst M;subst J;show bindL MD ((p,w)::P.zip vs) m p=_;unfold bindL;rw[ud λv k=>(Hy.mp Q).1 (KW k).1,NA C];simp
 |p::P,w::vs,i+1,m,Q,M,J,C=>by
  show bindL MD ((p,w)::P.zip vs) m x=_;unfold bindL;exact ue (i:=i) (Hy.mp Q).2 (by simpa using M) (by simpa using J) C
theorem ug{MD:Str->Option NameKind}{x:Str}{v:Value}:∀{P:List Str}{vs:List Value}{i:Nat}{m:Str->Option Value},P.Nodup->P[i]?=some x->vs[i]?=some v->MD x≠some .local ->
  bindC MD (P.zip vs) m x=some v
 |[],_,_,_,_,h,_,_=>by simp at h
 |_::_,[],_,_,_,_,h,_=>by simp at h
 |p::P,w::vs,0,m,Q,M,J,C=>by
  simp at M J;subst M;subst J;show bindC MD ((p,w)::P.zip vs) m p=_;unfold bindC;rw[uf λv k=>(Hy.mp Q).1 (KW k).1,NB C];simp
 |p::P,w::vs,i+1,m,Q,M,J,C=>by
  show bindC MD ((p,w)::P.zip vs) m x=_;unfold bindC;exact ug (i:=i) (Hy.mp Q).2 (by simpa using M) (by simpa using J) C
def pJ(N:List Str)(vs:List V):St:=vs.map some++Hw (N.length-vs.length) none
def cxOf(CX:CXT)(P:Program)(w:World)(K:Hj)(mg:Str->Option Value)(base:Heap)(N:List Str)(j:Str)(scope:Scope)(f:Addr)(L:Value)(A:Around)(outer:List Env)(s:Shared)(H:Hp)(E:XK):Cx where
 prog:=P
 w:=w
 K:=K
 mg:=mg
 base:=base
 A:=A.deeper (envOfC j scope s.heap.objs.size f L)
 N:=N
 s₀:=s
 H₀:=H
 env:=envOfC j scope s.heap.objs.size f L
 outer:=outer
 stack:=envOfC j scope s.heap.objs.size f L::outer
 ex:=[]
 calm:=true
 fn:=λ_=>true
 pn:=[]
 xe:=λe d=>wpAny (model P w) (A.deeper (envOfC j scope s.heap.objs.size f L)) (leaving (envOfC j scope s.heap.objs.size f L) e) (λ_ a=>CX outer H s E e a) (λl a=>CX outer H s E l a) d
theorem yj{a:Scope}(h:a.names.lookup x=some .cell):∃ c,(cellsFrom n a.names []).lookup x=some c:=by
 have q:=PySem.W.cellsFrom_some a.names n [] (.inl h);exact LN.mp q
theorem Bg{CX:CXT}{N ps:List Str}{j:Str}{L:Value}{outer:List Env}{s1:Shared}{H:Hp}{E:XK}{vs:List V}
  (S:ay N ps scope) (hd:A.handled=none) (t:Env0 P w K mg base A outer s H) (hl:vs.length=ps.length) (r:Vals vs us)
  (x:InCallC s s.heap.objs.size (bindL (envOfC j scope s.heap.objs.size f L).kindOf (ps.zip us) λ_=>none) (cellsFrom (s.heap.objs.size+1) scope.names []) (bindC (envOfC j scope s.heap.objs.size f L).kindOf (ps.zip us) λ_=>none) s1) :
  Inv (cxOf CX P w K mg base N j scope f L A outer s H E) [] (pJ N vs) H s1:=by
 have o:ps.length<=N.length:=by have:=congrArg List.length S.pre;rw[HW]at this;omega
 obtain⟨M,l,rfl,C⟩:=x.done;have D:∀ b:Addr,b∉(cxOf CX P w K mg base N j scope f L A outer s H E).ex:=λb z=>NC (show b∈([]:List Addr) from z) (by simp)
 refine⟨⟨t.mod,S.kind,rfl,rfl,Hl _,λy z c M J=>?_,λy G=>?_,λy c _ h=>?_,λ_=>hd,Around.frames_deeper t.frames,.inr ⟨rfl,rfl⟩,λb z=>NC z (D b),t.bs,t.bsz,λb _ _=>D b,λb z=>NC z (D b),t.funs,t.frf⟩,
  rfl,t.bare,Un.kept C,⟨_,x.toInCall.ns,λi y v M J m=>?_⟩,λy c h=>⟨_,x.cell y c h⟩,t.hok.fresh (Hl _),λy c h=>?_,λp B=>NC (show p∈([]:List (Addr×Obj)) from B) (by simp),t.hok.kept C,?_⟩
 .exact name_of_addr x.apart (Ju M) (Ju J)
 .have G:scope.names.lookup y=some .cell∨scope.names.lookup y=some .free:=G
  rcases G with G | G
  .exact yj G
  .exact NC rfl (S.nofree _ (Ju G))
 .exact HJ (x.above y c (Ju h))
 .have d:i<vs.length:=by
   unfold pJ at J;by_cases d:i<vs.length
   .exact d
   .rw[Hm (by simpa using d)]at J
    rw[Jh]at J;split at J<;>cases J
  have g:vs[i]?=some v:=by
   unfold pJ at J;rw[Ho (by simpa using d),Hr]at J
   cases e:vs[i]? with
   |none=>rw[e]at J;cases J
   |some a=>rw[e]at J;cases J;rfl
  obtain⟨u,T,rv⟩:=r.get g;have B:ps[i]?=some y:=by
   rw[← S.pre,List.getElem?_take_of_lt ∅];exact M
  have I:ps.Nodup:=by rw[← S.pre];exact S.nd.sublist (List.take_sublist _ _)
  refine⟨u,rv,?_⟩;rcases S.par y (Hh B)with k | k
  .exact .inl ⟨k,ue I B T k⟩
  .obtain⟨c,e⟩:=yj (n:=s.heap.objs.size+1) k;refine .inr ⟨.inl k,c,e,?_⟩;have q:=x.cell y c e;rw[ug I B T (by show scope.names.lookup y≠_;rw[k];decide)]at q
   exact q
 .exact t.hok.fresh (HJ (x.above y c (Ju h)))
 .unfold pJ;show _=N.length;rw[Hk,Hi,Jr];omega
theorem fn_of{CX:CXT}{k:Nat}{name j:Str}{ae:Arguments}{h:List Stmt}{dV kV B c Y ct oc:Value}{an i:Option Addr}
  {ac:Array (Option Value)} {N ps:List Str} {sp:Sp} (lk:K.lookup f=some ⟨oc,i,.func (IW name j ae h scope dV kV B c an Y ct),ac⟩) (M:Jp K Y j=true) (S:ay N ps scope)
  (len:∀ vs H Q E,sp vs H Q E->vs.length=ps.length)
  (aa:∀(A:Around)(outer:List Env)(s:Shared)(H:Hp)(vs:List V)(Q:VK)(E:XK),Room k (A.deeper (envOfC j scope s.heap.objs.size f Y))->sp vs H Q E ->
   ∃ t,PSs (cxOf CX P w K mg base N j scope f Y A outer s H E) h t/\t { nx:=λ_ H'=>Q .non H',rt:=Q } (pJ N vs) H) :
  FnOk P w K mg base CX (k+1) f (IW name j ae h scope dV kV B c an Y ct) ps sp:=by
 refine⟨len,λA outer s H am z vs Q E G C L r ab=>?_⟩;have D:=len _ _ _ _ ab;have KX:K.In s.heap:=C.mod.kin.keeps λb o e=>(C.bs b o e).1;have al:s.heap.NoLimit:=C.mod.nolimit.keeps λb o e=>(C.bs b o e).1;have ap:∀ y∈ps.zip z,scope.names.lookup y.1=some .local∨(scope.names.lookup y.1=some .cell/\((cellsFrom (s.heap.objs.size+1) scope.names []).lookup y.1).isSome=true):=λ⟨n,v⟩ g=>by
  rcases S.par n (KW g).1 with q | q
  .exact .inl q
  .exact .inr ⟨q,PySem.W.cellsFrom_some _ _ _ (.inl q)⟩
 refine codeAny_call_function G.depth (KX _ _ lk) rfl S.co S.gen rfl (PySem.W.codeRec_of KX M) (L _ _ _ _ ?_);refine wpAny_newFunctionEnv_cells S.kind ap λaA T s1 x=>?_;subst T;refine⟨al.keeps x.toInCall.keep,codeAny_func ?_⟩;obtain⟨t,a,O⟩:=aa A outer s H vs Q E (G.deeper _) ab;have I:Inv (cxOf CX P w K mg base N j scope f Y A outer s H E) [] (pJ N vs) H s1:=Bg S G.hd C D r x;refine Mf (a [] s1 (pJ N vs) H _ I O) (λfl d l=>?_) λe d l=>l;have m:∀{p:St}{H':Hp}{v:V}{u:Value},Inv (cxOf CX P w K mg base N j scope f Y A outer s H E) [] p H' d->RelV v u->Q v H'->CE outer P w H s Q u d :=
  λ{p H' v u} J rv q=>⟨v,H',J.os,J.bare,J.base,J.hok,rv,q⟩
 cases fl with
 |ret u =>
  obtain⟨v,p,H',J,rv,q⟩:=l;exact m J rv q
 |next =>
  obtain⟨p,H',J,q⟩:=l;exact m (v:=V.non) (u:=Value.none) J rfl q
 |brk =>
  obtain⟨_,_,_,q⟩:=l;exact False.elim q
 |cont =>
  obtain⟨_,_,_,q⟩:=l;exact False.elim q
section
variable{X:Cx}{x:Str}{p pos:Pos}{e:Expr}{es:List Expr}{t:TA}{id T:String}{r:List V->Hp->VK->Prop}
def tCB(r:List V->Hp->VK->Prop)(t:TA):TE:=λY H Q=>t Y H λl O=>r l O Q
theorem az(f:fH X (.builtin id) r)(m:Gl X x)(N:X.mg x=none)(k:Mb x=some (.builtin id))(A:PA X (e::es) t) (g:x≠"__name__":=by decide) (a:(x == ("__debug__" : Str))=false:=by decide)
  (T:Me (e::es) X.env=(false,eval e X.env)::Me es X.env:=by rfl) (o:(backTo pos (Me es X.env)).any (·.1)=false:=by rfl):PE X (.Call (.Name x p) (e::es) [] pos) (tCB r t):=by
 intro B s Y H Q I h;refine MC (jt I m N k ?_ g a);exact PyProof.Rows.callWith_builtin1 (thn (A pos B s Y H _ I h) λL j ⟨l,O,i,w,C⟩=>f B j Y O l L Q i w C) T o
theorem cz(f:fH X (.type T) r)(m:Gl X x)(N:X.mg x=none)(k:Mb x=some (.type T))(A:PA X (e::es) t) (g:x≠"__name__":=by decide) (a:(x == ("__debug__" : Str))=false:=by decide)
  (c:Me (e::es) X.env=(false,eval e X.env)::Me es X.env:=by rfl) (o:(backTo pos (Me es X.env)).any (·.1)=false:=by rfl):PE X (.Call (.Name x p) (e::es) [] pos) (tCB r t):=by
 intro B s Y H Q I h;refine MC (jt I m N k ?_ g a);exact Mr (thn (A pos B s Y H _ I h) λL j ⟨l,O,i,w,C⟩=>f B j Y O l L Q i w C) c o
end
end L2
variable{X:L2.Cx}{H H' H1 H2:L2.Hp}{sp:L2.Sp}{σ:L2.St}{v y z:L2.V}{kvs:List (L2.Key×L2.V)}{xs ys zs:List L2.V}{QQ:List L2.V->L2.Hp->Prop}
namespace HT
open PySem PyProof.Rows
section
open PySem.SeqAt
open PySem.AutoSeq1 (wpAny_loadPart')
open PySem.MeetsSeq PySem.MeetsSeq2 PySem.MeetsSeq3
end
section
variable{prog:Program}{w:World}{A:Around}{E:Value->Shared->Prop}{s:Shared}
def sIx(n d:Nat):Option Int->Nat
 |none=>d
 |some v=>if v<0 then(v+(n:Int)).toNat else min v.toNat n
theorem sIx_none(n d:Nat):sIx n d none=d:=rfl
theorem sIx_nat(n d k:Nat):sIx n d (some (k:Int))=min k n:=by
 show(if(k:Int)<0 then((k:Int)+(n:Int)).toNat else min (k:Int).toNat n)=min k n;rw[NB ∅,Hn]
end
end HT
namespace L2
open PySem PySem.Spec PyProof.Rows
abbrev TO:=St->Hp->(Option Int->Hp->Prop)->Prop
def PO(X:Cx)(e:Option Expr)(t:TO):Prop :=
 ∀(B:List (Addr×Obj))(s:Shared)(Y:St)(H:Hp)(Q:Option Int->Hp->Prop),Inv X B Y H s->t Y H Q ->
  wpAny (model X.prog X.w) X.A (evalPart e X.env) (λu d=>∃ o C,Inv X B Y C d/\IsPart u o/\Q o C) X.xe s
def Fs:TO:=λ_ H Q=>Q none H
def tPart(t:TE):TO:=λY H Q=>t Y H λx O=>∃ i,x=.int i/\Q (some i) O
section
variable{X:Cx}{e:Expr}{te:TE}{lo hi:Option Expr}{tl th:TO}{pos p2:Pos}
theorem iq:PO X none Fs:=by
 intro B s Y H Q I h;rw[evalPart_none];exact Mn ⟨none,H,I,.none,h⟩
theorem ik(h:PE X e te):PO X (some e) (tPart te):=by
 intro B s Y H Q I p;rw[evalPart_some];refine thn (h B s Y H _ I p) λu j z=>?_;obtain⟨x,O,J,w,C⟩:=z;obtain⟨i,rfl,q⟩:=C;obtain⟨t,rfl⟩:=w;exact⟨some i,O,J,.int i t,q⟩
def SlR(X:Cx)(r:V->Option Int->Option Int->Hp->VK->Prop):Prop :=
 ∀(B:List (Addr×Obj))(s:Shared)(Y:St)(H:Hp)(x:V)(v y z:Value)(lo hi:Option Int)(j:Addr)(Q:VK),Inv X B Y H s->RelV x v->s.heap.IsSliceOf j y z .none->IsPart y lo->IsPart z hi->r x lo hi H Q ->
  ∃ T id,typeLookup (.type T) "__getitem__" = pure (some (.builtin id))/\s.TypeIs v T/\wpAny (model X.prog X.w) X.A (getItem v (.ref j)) (EP X B Y Q) X.xe s
def tSl(r:V->Option Int->Option Int->Hp->VK->Prop)(te:TE)(tl th:TO):TE:=λY H Q=>te Y H λx O=>tl Y O λl N=>th Y N λu M=>r x l u M Q
theorem e8{r:V->Option Int->Option Int->Hp->VK->Prop}(G:SlR X r)(t:PE X e te)(hl:PO X lo tl)(E:PO X hi th):PE X (.Subscript e (.Slice lo hi none p2) pos) (tSl r te tl th):=by
 intro B s Y H Q I h;refine Subscript_ (thn (t B s Y H _ I h) λv j ⟨x,O,i,p,C⟩=>?_);refine wpAny_Slice (thn (hl B j Y O _ i C) λy m ⟨l,N,D,g,n⟩=>thn (E B m Y N _ D n) λz L ⟨u,M,c,pu,d⟩=>?_);rw[evalPart_none];refine Mn ?_;have k:Inv X B Y M { L with heap:=L.heap.push { cls:=.type "slice",data:=.fields #[y,z,.none] } }:=c.kept (t':=L.toks) λb f q=>Mo _ q;obtain⟨T,id,a,J,o⟩:=G B { L with heap:=L.heap.push { cls:=.type "slice",data:=.fields #[y,z,.none] } } Y M x v y z l u L.heap.objs.size Q k p (Heap.IsSliceOf.new ..) g pu d;show wpAny (model X.prog X.w) X.A (subscriptTail e (.Slice lo hi none p2) v (.ref L.heap.objs.size)) (EP X B Y Q) X.xe { L with heap:=L.heap.push { cls:=.type "slice",data:=.fields #[y,z,.none] } };exact tail_any (ops:=[.ref L.heap.objs.size,v]) J a o (by with_unfolding_all rfl)
def cutV(xs:List V)(lo hi:Option Int):List V:=(xs.drop (HT.sIx xs.length 0 lo)).take (HT.sIx xs.length xs.length hi-HT.sIx xs.length 0 lo)
theorem wW(xs:List V)(lo hi:Option Int):(cutV xs lo hi).length<=xs.length:=by
 unfold cutV;rw[HW,ID];omega
end
def ixN(n:Nat)(i:Int):Option Nat:=if 0<=i then(if i<n then some i.toNat else none) else if -(n:Int)<=i then some (i+n).toNat else none
def atI{α:Type}(xs:List α)(i:Int):Option α:=(ixN xs.length i).bind λj=>xs[j]?
theorem Bc{i:Int}(h:ixN n i=some j):seqIndex? i n=some j/\j<n/\-(n:Int)<=i/\i<n:=by
 unfold ixN at h;by_cases E:0<=i
 .rw[NA E]at h;by_cases M:i<n
  .rw[NA M]at h;have e:i.toNat=j:=HM h;exact⟨by rw[seqIndex_of E M,e],∅,∅,M⟩
  .rw[NB M]at h;cases h
 .rw[NB E]at h;by_cases M : -(n:Int)<=i
  .rw[NA M]at h;have e:(i+n).toNat=j:=HM h;exact⟨by rw[seqIndex_neg ∅ M,e],∅,M,∅⟩
  .rw[NB M]at h;cases h
theorem Cr{xs:List α}{i:Int}{v:α}(h:atI xs i=some v):∃ j,seqIndex? i xs.length=some j/\xs[j]?=some v/\j<xs.length/\-(xs.length:Int)<=i/\i<xs.length:=by
 unfold atI at h
 cases e:ixN xs.length i with
 |none=>rw[e]at h;cases h
 |some j =>
  rw[e]at h;obtain⟨M,J,f,C⟩:=Bc e;exact⟨j,M,h,J,f,C⟩
theorem aC{xs:List α}{v:α}(h:xs[j]?=some v):atI xs (j:Int)=some v:=by
 have c:j<xs.length:=(Hg.mp h).1;have e:ixN xs.length (j:Int)=some j:=by
  unfold ixN;rw[NA ∅,NA ∅];simp
 unfold atI;rw[e];exact h
def oB(b:Expr):Prop:=∀ o i,subscripted b false o i=operate [o,i] (getItem o i)
def IxR(X:Cx)(r:R2):Prop :=
 ∀(L a:Expr)(B:List (Addr×Obj))(s:Shared)(Y:St)(H:Hp)(x y:V)(v u:Value)(Q:VK),Inv X B Y H s->RelV x v->RelV y u->r x y H Q ->
  subscripted a false v u=operate [v,u] (getItem v u)->wpAny (model X.prog X.w) X.A (subscriptTail L a v u) (EP X B Y Q) X.xe s
def MtR(X:Cx)(id:String)(r:V->List V->Hp->VK->Prop):Prop :=
 ∀(B:List (Addr×Obj))(s:Shared)(Y:St)(H:Hp)(x:V)(D:List V)(v:Value)(L:List Value)(Q:VK),Inv X B Y H s->RelV x v->Vals D L->r x D H Q ->
  wpAny (model X.prog X.w) X.A (call (.builtin id) (v::L)) (EP X B Y Q) X.xe s
section
variable{X:Cx}{a b:Expr}{ta tb:TE}{pos:Pos}
theorem C6{r:R2}(G:IxR X r)(A:PE X a ta)(L:PE X b tb)(l:oB b):PE X (.Subscript a b pos) (tOp r ta tb):=by
 intro B s Y H Q I h;exact Subscript_ (binT A L I h λv u m x y N p k c q=>G a b B m Y N x y v u Q p k c q (l _ _))
inductive rIxL(K:Hj)(x:L2.V)(y:L2.V)(H:L2.Hp)(Q:L2.VK):Prop
 |mk (p xs i v:_) (h0_:x=.ref p)(h1_:y=.int i)(h2_:SqL K H p xs)(h3_:atI xs i=some v)(h4_:Q v H)
inductive rIxT(K:Hj)(x:L2.V)(y:L2.V)(H:L2.Hp)(Q:L2.VK):Prop
 |mk (p xs i v:_) (h0_:x=.ref p)(h1_:y=.int i)(h2_:SqT K H p xs)(h3_:atI xs i=some v)(h4_:Q v H)
theorem Bb:IxR X (rIxL X.K):=by
 intro L a B s Y H x y v u Q I k e h l;obtain⟨p,N,i,z,rfl,rfl,n,T,q⟩:=h
 cases k
 obtain⟨t,rfl⟩:=e;obtain⟨O,r,m,A⟩:=I.list n;obtain⟨j,M,J,f,C,o⟩:=Cr T;obtain⟨w,ew,b⟩:=r.get J;have D:=r.length;have g:=o8;have G:EP X B Y Q w s:=⟨z,H,I,b,q⟩;by_cases E:0<=i
 .have c:i.toNat=j:=by
   rw[seqIndex_of E o]at M;exact HM M
  exact item_listR m.isList E ∅ (by rw[c];simpa using ew) G l
 .have c:(i+(O.toArray.size:Int)).toNat=j:=by
   rw[seqIndex_neg ∅ C]at M
   rw[HE,← D];exact HM M
  exact subscriptTail_builtinR (x:=w) m.isList.typeIs slot_list_getitem.lookup
   (wpAny_getItem_list_neg (Q:=λr d=>r=w/\EP X B Y Q r d) m.isList ∅ (by rw[HE]<;>omega) ∅ (by rw[c];simpa using ew) ⟨rfl,G⟩) l
theorem EX:IxR X (rIxT X.K):=by
 intro L a B s Y H x y v u Q I k c h l;obtain⟨p,N,i,z,rfl,rfl,n,T,q⟩:=h
 cases k
 obtain⟨t,rfl⟩:=c;obtain⟨O,r,m,A⟩:=I.tuple n;obtain⟨j,M,J,f,C,o⟩:=Cr T;obtain⟨w,e,b⟩:=r.get J;have D:=r.length;have g:=o8;have G:EP X B Y Q w s:=⟨z,H,I,b,q⟩;exact subscriptTail_builtinR (x:=w) m.typeIs slot_tuple_getitem.lookup
  (getItem_tuple (j:=j) (Q:=λr d=>r=w/\EP X B Y Q r d) m ∅ ∅ (by rw[HE,← D];exact M) (by simpa using e) ⟨rfl,G⟩) l
theorem yG(its:List Value)(n j:Nat)(u:Value):ME (·.setIfInBounds j u) { cls:=.type "list",data:=.seq its.toArray n }={ cls:=.type "list",data:=.seq (its.set j u).toArray n }:=by
 simp[ME]
theorem Inv.lst{B:List (Addr×Obj)}{σ:St}{H:Hp}{s:Shared}{p:Addr}{xs:List V}(I:Inv X B σ H s)(h:H p=some (.lst xs)) :
  ∃(its:List Value)(n:Nat),Vals xs its/\s.heap.get? p=some { cls:=.type "list",data:=.seq its.toArray n }/\xs.length<=LZ:=by
 obtain⟨z,its,n,r,e⟩:=I.hok p _ h;exact⟨its,n,r,e,z⟩
theorem Inv.lstUpd{its':List Value}{f:Obj->Obj}(I:Inv X Y σ H s)(h:H p=some (.lst xs))
  (T:s.heap.get? p=some { cls:=.type "list",data:=.seq its.toArray n }) (a:f { cls:=.type "list",data:=.seq its.toArray n }={ cls:=.type "list",data:=.seq its'.toArray N }) (r:Vals ys its') (hz:ys.length<=LZ) (t:Nat) :
  Inv X Y σ (upd H p (.lst ys)) { s with heap:=s.heap.update p f,toks:=t }:=by
 have e:(s.heap.update p f).get? p=some { cls:=.type "list",data:=.seq its'.toArray N }:=by
  rw[MF f T (by rw[a]<;>rfl),a]
 refine I.write (x:=p) (e:=p) (by rw[h];trivial) (.inl rfl) (λb u L q=>(MG _ _ (Ne.symm L)).trans q) ⟨_,e⟩ ?_
 exact⟨hz,its',N,r,e⟩
inductive rSetL(o:L2.V)(i:L2.V)(v:L2.V)(H:L2.Hp)(Q:(Hp->Prop)):Prop
 |mk (p xs k j:_) (h0_:o=.ref p)(h1_:i=.int k)(h2_:H p=some (.lst xs))(h3_:ixN xs.length k=some j)(h4_:Q (upd H p (.lst (xs.set j v))))
theorem j9:PSet X rSetL:=by
 intro B s Y H o i v L e u Q I b d rv h;obtain⟨p,N,k,j,rfl,rfl,l,c,q⟩:=h
 cases b
 obtain⟨t,rfl⟩:=d;obtain⟨O,n,r,T,A⟩:=I.lst l;obtain⟨M,J,f,a⟩:=Bc c;have D:=r.length;have g:=o8;have m:Inv X B Y (upd H p (.lst (N.set j v))) { s with heap:=s.heap.update p (ME (·.setIfInBounds j u)) } :=
  I.lstUpd l T (yG O n j u) (r.set rv j) (by rw[Il];exact A) s.toks
 by_cases E:0<=k
 .have C:k.toNat=j:=by
   rw[seqIndex_of E a]at M;exact HM M
  exact PySem.W.ki_setAt T E ∅ (by rw[HE,← D];exact a) (by rw[C];exact⟨_,m,q⟩)
 .have C:(k+(O.toArray.size:Int)).toNat=j:=by
   rw[seqIndex_neg ∅ f]at M
   rw[HE,← D];exact HM M
  exact PySem.W.ki_setBack T ∅ (by rw[HE,← D];exact f) ∅ (by rw[C];exact⟨_,m,q⟩)
theorem rQ(lo hi:Option Int)(n:Nat):(sliceBounds lo hi none n).1=((HT.sIx n 0 lo:Nat):Int)/\(sliceBounds lo hi none n).2.1=((HT.sIx n n hi:Nat):Int)/\(sliceBounds lo hi none n).2.2=1:=by
 refine⟨?_,?_,rfl⟩
 .cases lo with
  |none=>simp[sliceBounds,HT.sIx]
  |some i =>
   simp only[sliceBounds,HT.sIx,Option.getD_none,show(1:Int) > 0 by decide,if_true]
   by_cases h:i<0
   .simp only[h,if_true]<;>omega
   .simp only[h,if_false]<;>omega
 .cases hi with
  |none=>simp[sliceBounds,HT.sIx]
  |some i =>
   simp only[sliceBounds,HT.sIx,Option.getD_none,show(1:Int) > 0 by decide,if_true]
   by_cases h:i<0
   .simp only[h,if_true]<;>omega
   .simp only[h,if_false]<;>omega
theorem pP(its:List Value)(lo hi:Option Int):slicePick its.toArray lo hi none=((its.drop (HT.sIx its.length 0 lo)).take (HT.sIx its.length its.length hi-HT.sIx its.length 0 lo)).toArray:=by
 obtain⟨M,J,f⟩:=rQ lo hi its.toArray.size;unfold slicePick;rw[M,J,f];simp only[sliceRange_one,pick_run,HE]<;>rfl
inductive rSlL(K:Hj)(x:L2.V)(lo:Option Int)(hi:Option Int)(H:L2.Hp)(Q:L2.VK):Prop
 |mk (a xs:_) (h0_:x=.ref a)(h1_:SqL K H a xs)(h2_:∀ p,H p=none->Q (.ref p) (upd H p (.lst (cutV xs lo hi))))
theorem hO:SlR X (rSlL X.K):=by
 intro B s Y H x v y z lo d c Q I k l m e h;obtain⟨a,D,rfl,O,q⟩:=h
 cases k
 obtain⟨g,r,J,A⟩:=I.list O;have j:=r.length;refine⟨"list",_,slot_list_getitem.lookup,J.isList.typeIs,?_⟩;refine wpAny_getItem_list_slice J.isList l m e .none (by simp) ?_ (by rw[HE]<;>omega)
 rw[pP,← j];refine⟨.ref s.heap.objs.size,_,I.laid (t':=s.toks) (o:=.lst (cutV D lo d)) (λb N q=>Mo _ q) (Hl _) ?_,rfl,q _ (I.hok.fresh (Hl _))⟩;exact⟨Io (wW D lo d) A,_,0,(r.drop (HT.sIx D.length 0 lo)).take (HT.sIx D.length D.length d-HT.sIx D.length 0 lo),Mp _ rfl⟩
theorem ax:fH X (.builtin "len") (λxs H Q=>∃ p ys,xs = [.ref p]/\(SqL X.K H p ys∨SqT X.K H p ys)/\Q (.int ys.length) H):=by
 intro B s Y H xs L Q I r h;obtain⟨p,ys,rfl,n,q⟩:=h;obtain⟨u,rfl,k⟩:=g9 r
 cases k
 have g:=o8;rcases n with n | n
 .obtain⟨O,D,m,A⟩:=I.list n;have j:=D.length;exact Calls.call_len_list m.isList (by simp only[HE]<;>omega) ⟨.int ys.length,H,I.tok _,⟨s.toks+1,by rw[HE,j]⟩,q⟩
 .obtain⟨O,D,m,A⟩:=I.tuple n;have j:=D.length;exact len_tuple m (by simp only[HE]<;>omega) ⟨.int ys.length,H,I.tok _,⟨s.toks+1,by rw[HE,j]⟩,q⟩
theorem cQ:fH X (.type "list") (λxs H Q=>∃ p ys,xs = [.ref p]/\(SqL X.K H p ys∨SqT X.K H p ys)/\∀ l,H l=none->Q (.ref l) (upd H l (.lst ys))):=by
 intro B s Y H xs L Q I r h;obtain⟨p,ys,rfl,y,q⟩:=h;obtain⟨u,rfl,k⟩:=g9 r
 cases k
 have G:∀(O:List Value),Vals ys O->ys.length<=LZ->∀(M:Heap)(C:Nat),(∀ b a,s.heap.get? b=some a->M.get? b=some a) ->
   M.get? s.heap.objs.size=some { cls:=.type "list",dict:=none,data:=.seq O.toArray C,slots:=#[] }->EP X B Y Q (.ref s.heap.objs.size) { s with heap:=M }:=λO D A M C d e =>
  ⟨.ref s.heap.objs.size,_,I.laid (t':=s.toks) d (Hl _) (show bG X.prog X.w _ M _ (.lst ys) from⟨A,O,C,D,e⟩),rfl,q _ (I.hok.fresh (Hl _))⟩
 rcases y with y | y
 .obtain⟨O,D,m,A⟩:=I.list y;have j:=D.length;obtain⟨o,T,f,n,hd⟩:=m.isList;exact call_list_seq p (.inl rfl) T f hd (λM C d e=>G O D A M C d e) (by simp only[HE]<;>omega)
 .obtain⟨O,D,m,A⟩:=I.tuple y;have j:=D.length;obtain⟨o,T,f,n,hd⟩:=m;exact call_list_seq p (.inr rfl) T f hd (λM C d e=>G O D A M C d e) (by simp only[HE]<;>omega)
def tyV(K:Hj)(T:String)(x:V)(H:Hp):Prop:=match x with
 |.str _=>T = "str"
 |.int _=>T = "int"
 |.ref p=>(T = "list"/\∃ D,SqL K H p D)∨(T = "tuple"/\∃ o,K.lookup p=some o/\o.cls=.type "tuple"/\o.dict=none) ∨
   (T = "dict"/\((∃ m,H p=some (.dK m))∨∃ m,H p=some (.dT m)))∨(T = "set"/\∃ S n,H p=some (.set S n))
 |_=>False
theorem Ex{T:String}{x:V}{v:Value}(I:Inv X Y σ H s)(r:RelV x v)(ty:tyV X.K T x H) :
  s.TypeIs v T/\∀ a,v=.ref a->∃ ob,s.heap.get? a=some ob/\ob.dict=none:=by
 cases x with
 |str z =>
  obtain⟨t,rfl⟩:=r
  cases (show T = "str" from ty)
  exact⟨typeIs_str s z t,λ_ e=>nomatch e⟩
 |int i =>
  obtain⟨t,rfl⟩:=r
  cases (show T = "int" from ty)
  exact⟨typeIs_int s i t,λ_ e=>nomatch e⟩
 |ref p =>
  cases r
  rcases ty with⟨rfl,D,y⟩ | ⟨rfl,o,C,f,hd⟩ | ⟨rfl,C⟩ | ⟨rfl,S,n,C⟩
  .obtain⟨O,_,g,_⟩:=I.list y;refine⟨g.isList.typeIs,λa e=>?_⟩
   cases e
   obtain⟨o,n,e,c,hd,_⟩:=g;exact⟨o,e,hd⟩
  .refine⟨⟨o,I.kIn p o C,f⟩,λa e=>?_⟩
   cases e
   exact⟨o,I.kIn _ o C,hd⟩
  .have z:∃ o,s.heap.get? p=some o/\o.ExactDict:=by
    rcases C with⟨m,C⟩ | ⟨m,C⟩
    .obtain⟨_,_,_,_,o,_,_,e,b,_⟩:=I.hok p _ C;exact⟨o,e,b⟩
    .obtain⟨_,_,_,_,o,_,_,e,b,_⟩:=I.hok p _ C;exact⟨o,e,b⟩
   obtain⟨o,e,b⟩:=z;refine⟨⟨o,e,b.1⟩,λa E=>?_⟩
   cases E
   exact⟨o,e,b.2.1⟩
  .obtain⟨o,_,_,_,e,b,_⟩:=I.hok p _ C;refine⟨⟨o,e,b.1⟩,λa E=>?_⟩
   cases E
   exact⟨o,e,b.2.1⟩
 |_=>exact False.elim ty
def tBM0(K:Hj)(T:String)(r:V->List V->Hp->VK->Prop)(a:TE):TE:=λY H Q=>a Y H λx O=>tyV K T x O/\r x [] O Q
def tBM(K:Hj)(T:String)(r:V->List V->Hp->VK->Prop)(a:TE)(t:TA):TE:=λY H Q=>a Y H λx O=>tyV K T x O/\t Y O λD N=>r x D N Q
variable{o e:Expr}{es:List Expr}{to:TE}{t:TA}{name:Str}{apos cpos:Pos}{T id:String}{r:V->List V->Hp->VK->Prop}
theorem EN(c:PlainAttrs T)(slot:Slot T name id) (k:typeOf (.builtin id)=pure (.type "method_descriptor")) (N:MtR X id r) (D:PE X o to)
  (a:attributeBase o name X.env (eval o X.env)=eval o X.env:=by rfl) (b:(apos.endLine == cpos.line)=true:=by rfl):PE X (.Call (.Attribute o name apos) [] [] cpos) (tBM0 X.K T r to):=by
 intro B s Y H Q I h;refine wpAny_Call_method0_late a b (thn (D B s Y H _ I h) λv j ⟨x,O,i,w,ty,C⟩=>?_);obtain⟨M,J⟩:=Ex i w ty;exact⟨T,id,c,slot,k,M,J,MH rfl (PySem.evalArgs_none (N B j Y O x [] v [] Q i w .nil C))⟩
theorem dB(c:PlainAttrs T)(slot:Slot T name id) (k:typeOf (.builtin id)=pure (.type "method_descriptor")) (E:MtR X id r) (D:PE X o to) (A:PA X (e::es) t)
  (a:attributeBase o name X.env (eval o X.env)=eval o X.env:=by rfl)
  (q:((backTo cpos (Me (e::es) X.env)).all (λx=>!x.1)&&(backToKw cpos (keywordEach [] X.env)).all (λx=>x.1.isSome)
   && decide ((e::es).length+([]:List Keyword).length+(if([]:List Keyword).isEmpty then 0 else 1)<30))=true:=by rfl)
  (b:(apos.endLine == cpos.line)=true:=by rfl) (l:Me (e::es) X.env=(false,eval e X.env)::Me es X.env:=by rfl) (f:(backTo cpos (Me es X.env)).any (·.1)=false:=by rfl) :
  PE X (.Call (.Attribute o name apos) (e::es) [] cpos) (tBM X.K T r to t):=by
 intro B s Y H Q I h;refine wpAny_Call_method_late a q b rfl (thn (D B s Y H _ I h) λv j ⟨x,O,i,w,ty,C⟩=>?_);obtain⟨M,J⟩:=Ex i w ty;refine⟨T,id,c,slot,k,M,J,?_⟩;have y:=A cpos B j Y O _ i C;rw[l]at y ⊢;refine MH (by show(false||(backTo cpos (Me es X.env)).any (·.1))=false;rw[f]<;>rfl) (Calls.evalArgs_plain ?_)
 exact thn y λL m ⟨d,N,p,g,n⟩=>E B m Y N x d v L Q p w g n
end
def MtM(X:Cx)(id:String)(r:V->List V->Hp->VK->Prop):Prop :=
 ∀(B:List (Addr×Obj))(s:Shared)(Y:St)(H:Hp)(x:V)(D:List V)(v:Value)(L:List Value)(Q:VK),Inv X B Y H s->RelV x v->Vals D L->r x D H Q ->
  wpAny (model X.prog X.w) X.A (call (.builtin id) (v::L)) (EP X B Y Q) X.xe s
theorem Vals.one:∀{x:V}{us:List Value},Vals [x] us->∃ u,us = [u]/\RelV x u
 |_,_,.cons r .nil=>⟨_,rfl,r⟩
theorem Vals.unc{x:V}(h:Vals (x::xs) us):∃ u w,us=u::w/\RelV x u/\Vals xs w:=by
 cases h with
 |cons r t=>exact⟨_,_,rfl,r,t⟩
theorem Vals.two{x:V}(h:Vals [x,y] us):∃ u v,us = [u,v]/\RelV x u/\RelV y v:=by
 obtain⟨u,w,rfl,r,c⟩:=Vals.unc h;obtain⟨v,z,rfl,q,d⟩:=Vals.unc c;cases d;exact⟨_,_,rfl,r,q⟩
theorem Vals.zero:∀{us:List Value},Vals [] us->us = []
 |_,.nil=>rfl
theorem Vals.dropLast(h:Vals xs us):Vals xs.dropLast us.dropLast:=by
 induction h with
 |nil=>exact .nil
 |cons r t Y =>
  cases t with
  |nil=>exact .nil
  |cons q m=>exact .cons r Y
theorem Vals.reverse(h:Vals xs us):Vals xs.reverse us.reverse:=by
 induction h with
 |nil=>exact .nil
 |cons r t Y=>rw[List.reverse_cons,List.reverse_cons];exact Vals.append Y (.cons r .nil)
theorem yZ(l:List α):l.eraseIdx (l.length-1)=l.dropLast:=by
 induction l with
 |nil=>rfl
 |cons a r Y =>
  cases r with
  |nil=>rfl
  |cons b r =>
   have e:(a::b::r).length-1=((b::r).length-1)+1:=by
    have M:(a::b::r).length=r.length+2:=rfl;have J:(b::r).length=r.length+1:=rfl;omega
   rw[e,List.eraseIdx_cons_succ,Y]
   all_goals rfl
section
variable{X:Cx}{pins:List (Addr×Obj)}{σ:St}{H:Hp}{s:Shared}{l b:Addr}{xs ys zs:List V}
theorem Inv.lset{its':List Value}{f:Array Value->Array Value}(I:Inv X pins σ H s)(M:H l=some (.lst xs))
  (e:s.heap.get? l=some { cls:=.type "list",data:=.seq its.toArray n }) (a:f its.toArray=its'.toArray) (p:Vals ys its') (hz:ys.length<=LZ) :
  Inv X pins σ (upd H l (.lst ys)) { s with heap:=s.heap.update l (ME f),toks:=t' }:=by
 have q:=PySem.IsL.update e f;rw[a]at q;refine I.write (x:=l) (e:=l) (by rw[M];exact trivial) (.inl rfl) (λb u L T=>(MG s.heap (ME f) (Ne.symm L)).trans T) ⟨_,q⟩ ?_
 exact⟨hz,its',_,p,q⟩
theorem Inv.lnew(I:Inv X pins σ H s)(p:Vals ys its)(hz:ys.length<=LZ) :
  Inv X pins σ (upd H s.heap.objs.size (.lst ys)) { s with heap:=s.heap.push { cls:=.type "list",data:=.seq its.toArray },toks:=t' } :=
 I.laid (λ_ _ q=>Mo _ q) (Hl _) ⟨hz,its,0,p,Mp _ rfl⟩
theorem Inv.fresh(I:Inv X pins σ H s):H s.heap.objs.size=none:=I.hok.fresh (Hl _)
theorem Inv.lstM(I:Inv X pins σ H s)(M:H l=some (.lst xs)):xs.length<=LZ/\∃(its:List Value)(n:Nat),Vals xs its/\xs.length=its.length/\s.heap.get? l=some { cls:=.type "list",data:=.seq its.toArray n }:=by
 obtain⟨z,its,n,r,e⟩:=I.hok l _ M;exact⟨z,its,n,r,r.length,e⟩
theorem Dy(h:n<=LZ):Builtin.List.listTooLong n=false:=by
 unfold Builtin.List.listTooLong;exact LY ∅
end
inductive FJ(x:L2.V)(vs:List V)(H:L2.Hp)(Q:L2.VK):Prop
 |mk (l xs y:_) (h0_:x=.ref l)(h1_:vs = [y])(h2_:H l=some (.lst xs))(h3_:xs.length<LZ)(h4_:Q .non (upd H l (.lst (xs++[y]))))
theorem aZ:MtM X "list.append" FJ:=by
 intro B s Y H x d v L Q I k rv h;obtain⟨l,N,y,rfl,rfl,M,A,q⟩:=h
 cases k
 obtain⟨u,rfl,E⟩:=rv.one;obtain⟨z,O,n,r,D,e⟩:=I.lstM M;refine call_meets F.slot_list_append ⟨_,e,rfl⟩ F.entry_list_append (F.args_list_append_2 _ _) (PySem.list_append l O.toArray n u (by rw[HE];omega)) ⟨e,?_⟩
 refine⟨.non,_,I.lset (its':=O++[u]) M e (by simp) (r.append (.cons E .nil)) ?_,rfl,q⟩
 rw[Hk,Ht];omega
inductive FG(x:L2.V)(vs:List V)(H:L2.Hp)(Q:L2.VK):Prop
 |mk (l b xs zs:_) (h0_:x=.ref l)(h1_:vs = [.ref b])(h2_:H l=some (.lst xs))(h3_:H b=some (.lst zs))(h4_:xs.length+zs.length<=LZ)(h5_:Q .non (upd H l (.lst (xs++zs))))
theorem AV:MtM X "list.extend" FG:=by
 intro B s Y H x d v L Q I k rv h;obtain⟨l,b,N,o,rfl,rfl,M,p,A,q⟩:=h
 cases k
 obtain⟨u,rfl,J⟩:=rv.one
 cases J
 obtain⟨z,its,n,r,D,e⟩:=I.lstM M;obtain⟨i,a,C,g,f,E⟩:=I.lstM p;have j:its.toArray.size+a.toArray.size<=LZ:=by rw[HE,HE];omega
 have c:¬ (!its.toArray.isEmpty&&Builtin.List.listTooLong (its.toArray.size+a.toArray.size))=true:=by
  rw[Dy j,I8];exact HG
 refine call_meets F.slot_list_extend ⟨_,e,rfl⟩ F.entry_list_extend (F.args_list_extend_2 _ _)
  (AutoSeq1.list_extend_list_list_0 l its.toArray n b a.toArray C c (by rw[HE];omega) ∅) ⟨e,E,?_⟩
 refine⟨.non,_,I.lset (its':=its++a) M e (by simp) (r.append g) ?_,rfl,q⟩
 rw[Hk];omega
inductive rPop(x:L2.V)(vs:List V)(H:L2.Hp)(Q:L2.VK):Prop
 |mk (l xs y:_) (h0_:x=.ref l)(h1_:vs = [])(h2_:H l=some (.lst xs))(h3_:xs[xs.length-1]?=some y)(h4_:Q y (upd H l (.lst xs.dropLast)))
theorem mt_pop:MtM X "list.pop" rPop:=by
 intro B s Y H x d v L Q I k rv h;obtain⟨l,N,y,rfl,rfl,M,G,q⟩:=h
 cases k
 have a:=rv.zero;subst a;obtain⟨z,O,n,r,D,e⟩:=I.lstM M;obtain⟨u,T,E⟩:=r.get G;have j:O.toArray[O.toArray.size-1]?=some u:=by
  show O.toArray[O.length-1]?=some u;rw[← Iy,← D];exact T
 refine call_meets F.slot_list_pop ⟨_,e,rfl⟩ F.entry_list_pop (F.args_list_pop_1 _) (MeetsSeq.list_pop_last l O.toArray n u j (by rw[HE];omega)) ⟨e,?_⟩
 refine⟨y,_,I.lset (its':=O.dropLast) M e ?_ r.dropLast ?_,E,q⟩
 .show O.toArray.eraseIdxIfInBounds (O.toArray.size-1)=O.dropLast.toArray;rw[HE,List.eraseIdxIfInBounds_toArray,yZ]
 .rw[List.length_dropLast];omega
inductive rCat(x:L2.V)(y:L2.V)(H:L2.Hp)(Q:L2.VK):Prop
 |mk (l b xs zs:_) (h0_:x=.ref l)(h1_:y=.ref b)(h2_:H l=some (.lst xs))(h3_:H b=some (.lst zs))(h4_:xs.length+zs.length<=LZ)(h5_:∀ p,H p=none->Q (.ref p) (upd H p (.lst (xs++zs))))
theorem op_cat:OpR X (Mt .Add) rCat:=by
 intro B s Y H x y v u Q I k c h;obtain⟨l,b,N,o,rfl,rfl,M,p,A,q⟩:=h
 cases k
 cases c
 obtain⟨z,O,n,r,D,e⟩:=I.lstM M;obtain⟨i,a,C,g,f,E⟩:=I.lstM p;refine PySem.P.add_list e E ?_ (by rw[HE,HE];omega)
 have J:O.toArray++a.toArray=(O++a).toArray:=by simp
 rw[J];exact⟨.ref _,_,I.lnew (t':=s.toks) (r.append g) (by rw[Hk];omega),rfl,q _ I.fresh⟩
section
variable{prog:Program}{w:World}{A:Around}{E:Value->Shared->Prop}{s:Shared}
end
end L2
namespace Att
open PySem PySem.W PySem.Calls PyProof.Rows
theorem n8{P:Params}:∀(ns:List Int)(vs:List Value),WellAll P h vs (ns.map WData.int)->MI vs ns:=by
 intro ns;induction ns with
 |nil =>
  intro vs w;rw[List.map_nil]at w
  cases w
  exact .nil
 |cons n ns Y =>
  intro vs w;rw[HR]at w
  cases w with
  |cons a b =>
   cases a
   exact .cons _ _ (Y _ b)
theorem Al{l:OpenLaw}(g:l.most=some n){P:Params}{args:List WData}{t:List Value}
  (c:l.row.toRowW.claim.pre args=true) (s:WellAll P h t args) :
  ∃ a vs ns,t = [Value.ref a]/\args = [WData.list (ns.map WData.int)]/\h.get? a=some { cls:=.type "list",data:=.seq vs.toArray }/\MI vs ns/\ns.length<=n:=by
 have p:WShape.hasAll [] args [.list .int]=true:=(pre_splitW c).1;have f:l.pre.holds [] { args:=args }=true:=(pre_splitW c).2;obtain⟨d,r,rfl,M,J⟩:=hasAllW_cons p;obtain rfl:=hasAllW_nil J;obtain⟨D,rfl,i⟩:=hasW_list M;obtain⟨ns,rfl⟩:=items_int i;have j:ns.length<=n:=by
  unfold OpenLaw.pre at f;have C:(WTm.not (.lt (.lit (.int (n:Int))) (.len (.arg 0)))).holds [] { args:=[.list (ns.map .int)] }=true:=by
   have C:=(holds_andW f).1;rw[g]at C;exact C
  have o:=condW_of C (w_not (w_lt w_lit (w_len_list (w_arg rfl))));rw[Hi]at o;refine Kk λq=>?_;have b:(n:Int)<((ns.length:Nat):Int):=by omega
  first
   | (rw[MJ b]at o;exact NC o (by decide))
   | (simp at o;omega)
 cases s with
 |cons m e =>
  cases e
  cases m with
  |list T k=>exact⟨_,_,ns,rfl,rfl,T,n8 ns _ k,j⟩
theorem Aw(l:OpenLaw)(args:List WData):l.row.toRowW.claim.post args (.bool true) args=true :=
 postW_of (r:=l.row.toRowW) (X:=(true == true))
  (show WShape.has [] (.bool true) .bool=true by first | rfl | decide | simp[WShape.has,WShape.arms,WShape.armsAll])
  (show(WTm.eq .res (.lit (.bool true))).value [] { args:=args,res:=some (.bool true),after:=args }=some (.bool (true == true)) from w_eq_bool (w_res rfl) w_lit) rfl
theorem attach_call{l:OpenLaw}{q:Program}{E:List Str}{Q:(Str->Option Value)->Heap->Prop}{I:World->Heap->Prop}{d:DefRec}
  (g:l.most=some n) (H:d.params.defaults = [])
  (call:∀(w:World)(s₀ s₁:Shared)(mg k:Str->Option Value)(p:Addr)(o:Obj)(O L B:Value)(a:Addr)(vs:List Value)(ns:List Int),
   Ground q E [] Q w s₀ mg k s₁.heap->I w s₁.heap ->
   s₁.heap.get? p=some o->o.data=.func (docDef d.name d.params d.body d.scope O L B)->s₁.heap.CodeRec L d.name->mg d.name=some (.ref p) ->
   s₁.heap.get? a=some { cls:=.type "list",data:=.seq vs.toArray }->MI vs ns->ns.length<=n->s₁.gens=#[] ->
   Mx (model l.prog w) callerA (.call (.ref p) ⟨[.ref a],[]⟩) (λr s'=>r=.ok (.ret (.bool true))/\OldK s₁.heap s'.heap/\s'.os=s₁.os/\AllBare s'.gens) s₁) :
  WalkO q E Q I l.row.toRowW d [] (λf vs=>PySem.call f vs):=by
 intro w s₀ s₁ mg k G Y p o O L B v kV T hd M e u m x t as c z A s D;obtain rfl:v=.none:=Dflts.none e H;obtain rfl:kV=.none:=Dflts.noKw e;obtain⟨a,vs,ns,rfl,rfl,h,b,j⟩:=Al g c s;refine enter_call (MB (call w s₀ s₁ mg k p o O L B a vs ns G Y T (fd_plain hd) M u h b j m) λr s' y=>?_);obtain⟨rfl,J,i,C⟩:=y;exact⟨.inl ⟨.bool true,.bool true,[],rfl,λ_=>rfl,.bool true,Aw l _,λ_=>⟨Ki,λ_ N=>(nomatch N)⟩⟩,J,i,C⟩
section
variable{prog:Program}{w:World}{A:Around}{E:Value->Shared->Prop}{s:Shared}{K:Frag}
end
end Att
namespace L2
open PySem PySem.Spec PyProof.Rows
theorem rK:∀{vs:List Value}{ns:List Int},MI vs ns->Vals (ns.map V.int) vs
 |_,_,.nil=>.nil
 |_,_,.cons n t h=>.cons ⟨t,rfl⟩ (rK h)
def lM(s:Stmt)(j:Nat):Stmt:=match s with
 |.ClassDef _ _ _ h _ _ _ _ _ _ _=>h.getD j (.Pass ⟨0,0,0,0⟩)
 |_=>.Pass ⟨0,0,0,0⟩
def c8(s:Stmt):Arguments:=match s with
 |.FunctionDef _ a _ _ _ _ _ _ _ _=>a
 |_=>{ posonlyargs:=[],args:=[],vararg:=none,kwonlyargs:=[],kw_defaults:=[],kwarg:=none,defaults:=[] }
def cy(s:Stmt):List Stmt:=match s with
 |.FunctionDef _ _ b _ _ _ _ _ _ _=>b
 |_=>[]
def ar(s:Stmt):Scope:=match s with
 |.FunctionDef _ _ _ _ _ _ a _ _ _=>a
 |_=>{ kind:=.function,names:=[],isGenerator:=false,isCoroutine:=false }
abbrev CX0:CXT:=λ_ _ _ _ _ _=>False
abbrev E0:XK:=λ_ _ _=>False
theorem ji:l8 CX0 X E0:=λ_ _ _ _ _ _ _ h=>h.elim
structure Fun(K:Hj)(x qual:Str)(st:Stmt)(f:Addr)(fd:FuncData):Prop where
 ex:∃(oc:Value)(od:Option Addr)(kV doc pm:Value)(an:Option Addr)(cdv ct:Value)(osl:Array (Option Value)),
  fd=IW x qual (c8 st) (cy st) (ar st) .none kV doc pm an cdv ct/\K.lookup f=some ⟨oc,od,.func fd,osl⟩/\Jp K cdv qual=true
 kp:Iv K (.ref f)=true
theorem Fun.ok{j:Str}{st:Stmt}{N ps:List Str}{k:Nat}(F:Fun K x j st f fd)(S:ay N ps (ar st))(len:∀ vs H Q E,sp vs H Q E->vs.length=ps.length)
  (a:∀(Y:Value)(A:Around)(outer:List Env)(s:Shared)(H:Hp)(vs:List V)(Q:VK)(E:XK),Room k (A.deeper (envOfC j (ar st) s.heap.objs.size f Y))->sp vs H Q E ->
   ∃ t,PSs (cxOf CX0 P w K mg base N j (ar st) f Y A outer s H E).nox (cy st) t/\t { nx:=λ_ H'=>Q .non H',rt:=Q } (pJ N vs) H):FnOk P w K mg base CX0 (k+1) f fd ps sp:=by
 obtain⟨m,i,kV,B,O,d,Y,l,b,rfl,r,M⟩:=F.ex;refine fn_of r M S len λA outer s H vs Q E u I=>?_;obtain⟨t,h,q⟩:=a Y A outer s H vs Q E u I;exact⟨t,h.nox,q⟩
theorem Fun.binds{j:Str}{st:Stmt}{ps:List Str}(F:Fun K x j st f fd)
  (h:∀(kV B O:Value)(d:Option Addr)(Y ct:Value)(us:List Value),us.length=ps.length->bindArgs (IW x j (c8 st) (cy st) (ar st) .none kV B O d Y ct) ⟨us,[]⟩=pure (ps.zip us)):fJ K fd ps []:=by
 obtain⟨m,i,kV,B,O,d,Y,ct,b,rfl,r,M⟩:=F.ex;exact .all (h kV B O d Y ct)
theorem fun_mk{j:Str}{st:Stmt}{i d:Option Addr}{b:Array (Option Value)}{kV B O Y ct:Value}(l:K.lookup f=some ⟨u,i,.func (IW x j (c8 st) (cy st) (ar st) .none kV B O d Y ct),b⟩)
  (c:Jp K Y j=true) (k:Iv K (.ref f)=true):Fun K x j st f (IW x j (c8 st) (cy st) (ar st) .none kV B O d Y ct):=⟨⟨u,i,kV,B,O,d,Y,ct,b,rfl,l,c⟩,k⟩
theorem qN{k:Nat}(u:Room k A):A.units+1<cLine:=Lf (Nat.add_le_add_left (by decide:1<=64) _) u.units
theorem aw(h:n<=1000):n<LZ:=Lf h (by decide)
theorem pv(i:Nat)(o:X.N[i]?=some x:=by rfl)(p:Vis X.env.scope x:=by first | exact Or.inl rfl | exact Or.inr (Or.inl rfl) | exact Or.inr (Or.inr rfl)) (hd:(x == ("__debug__" : Str))=false:=by decide)
  (M:(x == ("__classdict__" : Str))=false:=by decide):PE X (.Name x pos) (tVar i):=pe_var o p hd M
theorem iteF{A:Prop}(h:B):if false=true then A else B:=by
 rw[NB HG];exact h
theorem iteT{A:Prop}(h:A):if true=true then A else B:=by
 rw[NA rfl];exact h
theorem ite2{c A:Prop} [Decidable c] (M:c->A) (h2:¬ c->B):if c then A else B:=by
 by_cases h:c
 .rw[NA h];exact M h
 .rw[NB h];exact h2 h
theorem tD{c A:Prop} [Decidable c] (f:c) (h:B):if(!decide c)=true then A else B:=by
 rw[MJ f];exact iteF h
def Same(H H':Hp):Prop:=∀ b o,H b=some o->H' b=some o
theorem Same.trans(a:Same H H1)(b:Same H1 H2):Same H H2:=λc o h=>b c o (a c o h)
theorem Same.seq(e:Same H H')(h:SqL K H a xs):SqL K H' a xs:=by
 rcases h with(h | ⟨o,h⟩) | h
 .exact .inl (.inl (e _ _ h))
 .exact .inl (.inr ⟨o,e _ _ h⟩)
 .exact .inr h
end L2
set_option maxRecDepth 100000
set_option maxHeartbeats 4000000
namespace L2
open PySem PySem.Spec PyProof.Rows
section
variable{κ:Type} [DecidableEq κ]
def valV(kvs:List (κ×V))(k:κ):Option V:=(kvs.find? λo=>decide (o.1=k)).map (·.2)
def putK(kvs:List (κ×V))(k:κ)(v:V):List (κ×V) :=
 if(kvs.any λo=>decide (o.1=k))=true then kvs.map (λo=>if o.1=k then(o.1,v) else o) else kvs++[(k,v)]
def mD(kvs:List (κ×V))(k:κ):List (κ×V):=kvs.filter λo=>decide (o.1≠k)
theorem br{p:κ×V}{r:List (κ×V)}{k:κ}(e:p.1=k):valV (p::r) k=some p.2:=by simp[valV,Kb,e]
theorem bu{p:κ×V}{r:List (κ×V)}{k:κ}(e:¬ p.1=k):valV (p::r) k=valV r k:=by simp[valV,Kb,e]
theorem fQ(k:κ):∀ kvs:List (κ×V),(kvs.any λo=>decide (o.1=k))=(valV kvs k).isSome
 |[]=>rfl
 |p::r=>by
  rw[LV];by_cases e:p.1=k
  .simp only[br e,MJ e,Bool.true_or,Option.isSome_some]
  .rw[bu e,LY e,Bool.false_or];exact fQ k r
theorem xr(k j:κ)(y:V):∀ kvs:List (κ×V),valV (kvs.map λo=>if o.1=k then(o.1,y) else o) j=(valV kvs j).map λx=>if j=k then y else x
 |[]=>rfl
 |p::r=>by
  have Y:=xr k j y r;rw[HR];by_cases h:p.1=k
  .rw[NA h];by_cases e:p.1=j
   .rw[br (p:=(p.1,y)) e,br e,KS,NA (e.symm.trans h)]
   .rw[bu (p:=(p.1,y)) e,bu e,Y]
  .rw[NB h];by_cases e:p.1=j
   .rw[br (p:=p) e,br e,KS,NB (λz=>h (e.trans z))]
   .rw[bu (p:=p) e,bu e,Y]
theorem rL(k j:κ)(y:V):∀ kvs:List (κ×V),valV kvs k=none->valV (kvs++[(k,y)]) j=if j=k then some y else valV kvs j
 |[],_=>by
  by_cases e:k=j
  .rw[NA e.symm];exact br (p:=(k,y)) e
  .rw[NB (λz=>e z.symm)];exact bu (p:=(k,y)) e
 |p::r,g=>by
  rw[Lv];have C:¬ p.1=k:=λz=>by rw[br z]at g;cases g
  rw[bu C]at g;have Y:=rL k j y r g;by_cases e:p.1=j
  .rw[br e,br e,NB (λz=>C (e.trans z))]
  .rw[bu e,bu e,Y]
theorem eX(kvs:List (κ×V))(k j:κ)(y:V):valV (putK kvs k y) j=if j=k then some y else valV kvs j:=by
 unfold putK;by_cases a:(kvs.any λo=>decide (o.1=k))=true
 .rw[NA a,xr];rw[fQ]at a;by_cases e:j=k
  .obtain⟨x,O⟩:=LN.mp a;rw[NA e,e,O,KS,NA rfl]
  .rw[NB e]
   cases valV kvs j with
   |none=>rfl
   |some x=>rw[KS,NB e]
 .rw[NB a];refine rL k j y kvs ?_;rw[fQ]at a
  cases q:valV kvs k with
  |none=>rfl
  |some x=>rw[q]at a;exact(a rfl).elim
theorem cF(kvs:List (κ×V))(k:κ)(v:V):(putK kvs k v).length<=kvs.length+1:=by
 unfold putK;split
 .rw[Hi];omega
 .rw[Hk,HD,Js];omega
theorem qk{kvs:List (κ×V)}{k:κ}(v:V)(h:valV kvs k=none):putK kvs k v=kvs++[(k,v)]:=by
 unfold putK;rw[fQ,h];exact NB (by decide)
theorem RelO.isSome_eq{o:Option V}{u:Option Value}(r:RelO o u):o.isSome=u.isSome:=by
 cases o with
 |none=>cases u with
  |none=>rfl
  |some _=>exact(show False from r).elim
 |some _=>cases u with
  |none=>exact(show False from r).elim
  |some _=>rfl
theorem RelO.getD{o:Option V}{u:Option Value}{d:V}{d':Value}(r:RelO o u)(f:RelV d d'):RelV (o.getD d) (u.getD d'):=by
 cases o with
 |none=>cases u with
  |none=>exact f
  |some _=>exact(show False from r).elim
 |some _=>cases u with
  |none=>exact(show False from r).elim
  |some _=>exact r
theorem KV.val{kvs:List (κ×V)}{vs:List (κ×Value)}(r:KV kvs vs)(k:κ):RelO (valV kvs k) (valueAt vs k):=by
 unfold KV at r;induction r with
 |nil=>exact True.intro
 | @cons p q G d h t Y =>
  obtain⟨M,J⟩:=h;by_cases e:p.1=k
  .have l:q.1=k:=M.symm.trans e
   have b:valueAt (q::d) k=some q.2:=by simp[valueAt,Kb,l]
   rw[br e,b];exact J
  .have l:¬ q.1=k:=λz=>e (M.trans z)
   have b:valueAt (q::d) k=valueAt d k:=by simp[valueAt,Kb,l]
   rw[bu e,b];exact Y
theorem KV.any{kvs:List (κ×V)}{vs:List (κ×Value)}(r:KV kvs vs)(k:κ):(kvs.any λo=>decide (o.1=k))=vs.any λo=>decide (o.1=k):=by
 unfold KV at r;induction r with
 |nil=>rfl
 |cons h t Y=>rw[LV,LV,Y,h.1]
theorem KV.repl{kvs:List (κ×V)}{vs:List (κ×Value)}(r:KV kvs vs)(k:κ)(c:RelV y u) :
  KV (kvs.map λo=>if o.1=k then(o.1,y) else o) (vs.map λo=>if o.1=k then(o.1,u) else o):=by
 unfold KV at r ⊢;induction r with
 |nil=>exact .nil
 | @cons p q G d h t Y =>
  rw[HR,HR];refine .cons ?_ Y;obtain⟨M,J⟩:=h;by_cases e:p.1=k
  .rw[NA e,NA (M.symm.trans e)];exact⟨M,c⟩
  .rw[NB e,NB (λz=>e (M.trans z))];exact⟨M,J⟩
theorem KV.put{kvs:List (κ×V)}{vs:List (κ×Value)}(r:KV kvs vs)(k:κ)(c:RelV y u):KV (putK kvs k y) (stored vs k u):=by
 unfold putK stored;rw[r.any k];by_cases e:(vs.any λo=>decide (o.1=k))=true
 .rw[NA e,NA e];exact r.repl k c
 .rw[NB e,NB e];exact Paired.snoc r ⟨rfl,c⟩
theorem KV.drop{kvs:List (κ×V)}{vs:List (κ×Value)}(r:KV kvs vs)(k:κ):KV (mD kvs k) (without vs k):=by
 unfold KV at r ⊢;unfold mD without;induction r with
 |nil=>exact .nil
 | @cons p q G d h t Y =>
  obtain⟨M,J⟩:=h;rw[KO,KO];by_cases e:p.1=k
  .have a:¬ decide (p.1≠k)=true:=by simp[e]
   have b:¬ decide (q.1≠k)=true:=by simp[M.symm.trans e]
   rw[NB a,NB b];exact Y
  .have l:¬ q.1=k:=λz=>e (M.trans z)
   have a:decide (p.1≠k)=true:=by simp[e]
   have b:decide (q.1≠k)=true:=by simp[l]
   rw[NA a,NA b];exact .cons ⟨M,J⟩ Y
theorem KV.length{kvs:List (κ×V)}{vs:List (κ×Value)}(r:KV kvs vs):kvs.length=vs.length:=Paired.length r
theorem D3(kvs:List (κ×V))(k:κ):(mD kvs k).length<=kvs.length:=Jc _ _
end
theorem vC{k:Key}(r:RelV (kV k) u):(bK P w).is k u=true:=by
 cases k with
 |inl i=>obtain⟨t,e⟩:=(show ∃ t,u=Value.int i t from r);subst e;exact vt P w i t
 |inr x=>obtain⟨t,e⟩:=(show ∃ t,u=Value.str x t from r);subst e;exact vq P w x t
theorem tq{P:Program}{w:World}:∀{ks:List Key}{us:List Value},Vals (ks.map kV) us->ItemsAre (bK P w) ks us
 |[],_,r=>by rw[List.map_nil]at r;cases r;exact .nil
 |k::ks,_,r=>by
  rw[HR]at r
  cases r with
  |cons h t=>exact .cons (vC h) (tq t)
abbrev KT(H:Hp):List (List Key×V)->List (List Key×Addr×Value)->Prop:=Paired λp q=>p.1=q.1/\H q.2.1=some (.tup (p.1.map kV))/\RelV p.2 q.2.2
theorem KT.val{kvs:List (List Key×V)}{xs:List (List Key×Addr×Value)}(r:KT H kvs xs)(k:List Key):RelO (valV kvs k) ((atKey xs k).map (·.2)):=by
 induction r with
 |nil=>exact True.intro
 | @cons p q G d h t Y =>
  obtain⟨M,_,J⟩:=h;by_cases e:p.1=k
  .have l:q.1=k:=M.symm.trans e
   have b:atKey (q::d) k=some q.2:=by simp[atKey,Kb,l]
   rw[br e,b];exact J
  .have l:¬ q.1=k:=λz=>e (M.trans z)
   have b:atKey (q::d) k=atKey d k:=by simp[atKey,Kb,l]
   rw[bu e,b];exact Y
theorem KT.repl{kvs:List (List Key×V)}{xs:List (List Key×Addr×Value)}(r:KT H kvs xs)(k:List Key)(c:RelV y u) :
  KT H (kvs.map λo=>if o.1=k then(o.1,y) else o) (xs.map (putAt k u)):=by
 induction r with
 |nil=>exact .nil
 | @cons p q G d h t Y =>
  rw[HR,HR];refine .cons ?_ Y;obtain⟨M,J,f⟩:=h;unfold putAt;by_cases e:p.1=k
  .rw[NA e,NA (M.symm.trans e)];exact⟨M,J,c⟩
  .rw[NB e,NB (λz=>e (M.trans z))];exact⟨M,J,f⟩
theorem KT.put{kvs:List (List Key×V)}{xs:List (List Key×Addr×Value)}(r:KT H kvs xs)(k:List Key){b:Addr}(L:H b=some (.tup (k.map kV)))(c:RelV y u) :
  KT H (putK kvs k y) (storedH xs k b u):=by
 have e:(kvs.any λo=>decide (o.1=k))=(atKey xs k).isSome:=by
  rw[fQ,(r.val k).isSome_eq,Option.isSome_map]
 unfold putK storedH;rw[e];by_cases q:(atKey xs k).isSome=true
 .rw[NA q,NA q];exact r.repl k c
 .rw[NB q,NB q];exact Paired.snoc r ⟨rfl,L,c⟩
theorem KT.keeps{kvs:List (List Key×V)}{xs:List (List Key×Addr×Value)}(r:KT H kvs xs)(J:∀ b ys,H b=some (.tup ys)->H' b=some (.tup ys)):KT H' kvs xs :=
 Paired.mapP r λ_ _ z=>⟨z.1,J _ _ z.2.1,z.2.2⟩
theorem rd_of{u:HO}(ok:HOk P w H h)(e:Rd H a u):bG P w H h a u:=e.ok ok
theorem y9(ok:HOk P w H h)(e:Rd H a (.dK kvs)):kvs.length<=LZ/\(a == sysModules)=false/\∃ vs,KV kvs vs/\h.DictOf (bK P w) a vs :=
 show bG P w H h a (.dK kvs) from rd_of ok e
theorem za(ok:HOk P w H h)(e:H a=some (.dK kvs)):kvs.length<=LZ/\(a == sysModules)=false/\∃ vs,KV kvs vs/\h.DictOf (bK P w) a vs:=y9 ok (.inl e)
theorem sY{ks:List Key}(ok:HOk P w H h)(e:H a=some (.tup (ks.map kV))):(tupleKind (bK P w)).is h ks a:=by
 obtain⟨_,O,r,o,M,J,n,f⟩:=(show bG P w H h a (.tup (ks.map kV)) from ok a _ e);exact⟨o,O.toArray,n,M,J,f,by simpa using tq r⟩
theorem y8{kvs:List (List Key×V)}(ok:HOk P w H h)(e:Rd H a (.dT kvs)):kvs.length<=LZ/\(a == sysModules)=false /\
  ∃ xs,KT H kvs xs/\h.DictOfH (tupleKind (bK P w)) a xs:=by
 obtain⟨z,y,xs,r,o,B,D,M,J,f,C,s⟩:=(show bG P w H h a (.dT kvs) from rd_of ok e);refine⟨z,y,xs,r,o,B,D,M,J,f,C,λx O=>?_,s⟩;have all:∀{l:List (List Key×V)}{m:List (List Key×Addr×Value)},KT H l m->∀ x∈m,(tupleKind (bK P w)).is h x.1 x.2.1:=by
  intro l m q;induction q with
  |nil=>intro x O;exact nomatch O
  | @cons p q G d n t Y =>
   intro x O;rcases Hs.mp O with e | O
   .subst e;exact sY ok (by rw[← n.1];exact n.2.1)
   .exact Y x O
 exact all r x O
theorem dt_of{kvs:List (List Key×V)}(ok:HOk P w H h)(e:H a=some (.dT kvs)):kvs.length<=LZ/\(a == sysModules)=false /\
  ∃ xs,KT H kvs xs/\h.DictOfH (tupleKind (bK P w)) a xs:=y8 ok (.inl e)
def DGet(H:Hp)(a:Addr)(y:V)(r:Option V):Prop :=
 (∃ m k,Rd H a (.dK m)/\y=kV k/\r=valV m k)∨∃ m k b,Rd H a (.dT m)/\y=.ref b/\H b=some (.tup (k.map kV))/\r=valV m k
def DPut(H:Hp)(a:Addr)(y v:V)(H':Hp):Prop :=
 (∃ m k,H a=some (.dK m)/\y=kV k/\m.length<LZ/\H'=upd H a (.dK (putK m k v))) ∨
 ∃ m k b,H a=some (.dT m)/\y=.ref b/\H b=some (.tup (k.map kV))/\m.length<LZ/\H'=upd H a (.dT (putK m k v))
theorem DGet.k{H:Hp}{a:Addr}{kvs:List (Key×V)}{k:Key}(e:H a=some (.dK kvs)):DGet H a (kV k) (valV kvs k):=.inl ⟨kvs,k,.inl e,rfl,rfl⟩
theorem DPut.k{H:Hp}{a:Addr}{kvs:List (Key×V)}{k:Key}{v:V}(e:H a=some (.dK kvs))(hl:kvs.length<LZ):DPut H a (kV k) v (upd H a (.dK (putK kvs k v))):=.inl ⟨kvs,k,e,rfl,hl,rfl⟩
section
variable{X:Cx}{pins:List (Addr×Obj)}{σ:St}{H:Hp}{s:Shared}{a:Addr}{y v:V}{u r:Value}{o:Option V}{A:Around}{E:Value->Shared->Prop}
theorem Inv.big(I:Inv X pins σ H s):sysModules<s.heap.objs.size:=by
 have h:Ma<s.heap.objs.size:=(I.mod.glob.keeps I.bk).lt;exact Jy (by decide) h
theorem B0(T:A.units+1<cLine)(I:Inv X pins σ H s)(g:DGet H a y (some v))(c:RelV y u)(h:∀ w' s',Inv X pins σ H s'->RelV v w'->Q w' s') :
  wpAny (model X.prog X.w) A (getItem (.ref a) u) Q E s:=by
 rcases g with⟨m,k,e,M,l⟩ | ⟨m,k,b,e,M,O,l⟩
 .subst M;obtain⟨z,hd,d,rel,L⟩:=y9 I.hok e;obtain⟨w',C,G⟩:=RelO.some_of (v:=v) (o:=valueAt d k) (by rw[l];exact rel.val k)
  exact wpAny_getItem_of (vC c) L.mapOf C (h w' _ (I.tok _) G)
 .subst M
  cases (show u=Value.ref b from c)
  obtain⟨z,hd,D,rel,L⟩:=y8 I.hok e;obtain⟨w',C,G⟩:=RelO.some_of (v:=v) (o:=(atKey D k).map (·.2)) (by rw[l];exact rel.val k)
  obtain⟨p,B,f⟩:=HF.mp C;refine wpAny_getItem_heap (tupleKind_room_in1 T) (sY I.hok O) L B ?_;rw[f];exact h w' _ (I.tok _) G
theorem GN(T:A.units+1<cLine)(I:Inv X pins σ H s)(g:DGet H a y o)(c:RelV y u)(h:∀ s',Inv X pins σ H s'->Q (.bool (!o.isSome)) s') :
  wpAny (model X.prog X.w) A (Mg .NotIn u (.ref a)) Q E s:=by
 rcases g with⟨m,k,e,M,l⟩ | ⟨m,k,b,e,M,O,l⟩
 .subst M;obtain⟨z,hd,d,rel,L⟩:=y9 I.hok e;refine wpAny_notIn_of (vC c) hd L.mapOf ?_;rw[← (rel.val k).isSome_eq,← l];exact h _ (I.tok _)
 .subst M
  cases (show u=Value.ref b from c)
  obtain⟨z,hd,D,rel,L⟩:=y8 I.hok e;refine wpAny_notIn_heap (tupleKind_room_in1 T) (sY I.hok O) hd L ?_;have q:=(rel.val k).isSome_eq;rw[Option.isSome_map]at q;rw[← q,← l];exact h _ (I.tok _)
theorem qZ{ob:HO}(I:Inv X pins σ H s)(d:Mut (H a))(l:Md a s.heap h')(T:∃ q,h'.get? a=some q)(new:bG X.prog X.w (upd H a ob) h' a ob) :
  Inv X pins σ (upd H a ob) { s with heap:=h',toks:=t' } :=
 I.write (x:=a) (e:=a) d (.inl rfl) (λb q L z=>(l.2 b L).trans z) T new
theorem BN{vs:List (Key×Value)}(z:kvs.length<=LZ)(hd:(a == sysModules)=false)(rel:KV kvs vs)(L:h'.DictOf (bK P w) a vs) :
  bG P w H' h' a (.dK kvs):=⟨z,hd,vs,rel,L⟩
theorem BR{Q:Unit->Shared->Prop}(t:A.units+1<cLine)(I:Inv X pins σ H s)(g:DPut H a y v H')(i:RelV y u)(rv:RelV v r)(h:∀ s',Inv X pins σ H' s'->Q () s') :
  wpAny (model X.prog X.w) A (setItem (.ref a) u r) Q E s:=by
 rcases g with⟨m,k,e,p,l,eH⟩ | ⟨m,k,b,e,p,O,l,eH⟩
 .subst p eH;obtain⟨z,hd,d,rel,L⟩:=za I.hok e;have Y:d.length<=LZ:=by rw[← rel.length];exact z
  have D:(putK m k v).length<=LZ:=by have:=cF m k v;omega
  refine wpAny_setItem_pairs (hsz:=Y) (vC i) L λj aa G=>h _ ?_;have T:∃ q,j.get? a=some q:=let ⟨q,_,_,n,_⟩:=aa;⟨q,n⟩;exact qZ I (by rw[e];exact True.intro) G T (BN D hd (rel.put k rv) aa)
 .subst p eH
  cases (show u=Value.ref b from i)
  obtain⟨z,hd,N,rel,L⟩:=dt_of I.hok e;have Y:N.length<=LZ:=by rw[← Paired.length rel];exact z
  have D:(putK m k v).length<=LZ:=by have:=cF m k v;omega
  refine wpAny_setItem_heap (hsz:=Y) (tupleKind_room_in1 t) (sY I.hok O) L λj aa G=>h _ ?_;obtain⟨q,B,x,n,J,f,C,_,o⟩:=aa;refine qZ I (by rw[e];exact True.intro) G ⟨q,n⟩ ⟨D,hd,_,(rel.put k O rv).keeps λc M ec=>?_,q,B,x,n,J,f,C,o⟩
  rw[aq (yE ec e (λz=>nomatch z))];exact ec
end
section
variable{X:Cx}{pins:List (Addr×Obj)}{σ:St}{H:Hp}{s:Shared}{a:Addr}{kvs:List (Key×V)}{k:Key}{u:Value}{A:Around}{E:Value->Shared->Prop}
theorem d_pop{more:List Value}(I:Inv X pins σ H s)(e:H a=some (.dK kvs))(c:RelV (kV k) u)(l:valV kvs k=some v)(N:more = []∨∃ x,more = [x])
  (h:∀ w' s',Inv X pins σ (upd H a (.dK (mD kvs k))) s'->RelV v w'->Q w' s'):wpAny (model X.prog X.w) A (call (.builtin "dict.pop") (.ref a::u::more)) Q E s:=by
 obtain⟨z,hd,d,rel,L⟩:=za I.hok e;obtain⟨w',C,G⟩:=RelO.some_of (v:=v) (o:=valueAt d k) (by rw[← l];exact rel.val k)
 have B:(keyPart u).isSome=true:=by
  cases k with
  |inl i=>obtain⟨t,q⟩:=(show ∃ t,u=Value.int i t from c);subst q;rfl
  |inr x=>obtain⟨t,q⟩:=(show ∃ t,u=Value.str x t from c);subst q;rfl
 have g:argsOk "dict.pop" ⟨.ref a::u::more,[]⟩:=by
  rcases N with q | ⟨x,q⟩
  .subst q;exact PySem.F.args_dict_pop_2 _ _
  .subst q;exact PySem.F.args_dict_pop_3 _ _ _
 refine call_meetsIn PySem.F.slot_dict_pop L.typeIs PySem.F.entry_dict_pop g (meets_dict_pop_there (bK X.prog X.w) a (vC c) more N B)
  ⟨d,w',L,by rw[← rel.length];exact z,C,λM O y=>h w' _ ?_ G⟩
 have T:∃ q,M.get? a=some q:=let ⟨q,_,_,n,_⟩:=O;⟨q,n⟩;exact qZ I (by rw[e];exact True.intro) y T (BN (Io (D3 kvs k) z) hd (rel.drop k) O)
end
def NoSl(i:Expr):Prop:=∀ L e,subscripted i false L e=operate [L,e] (getItem L e)
theorem Fu{prog:Program}{L a:Expr}{T id:String}
  (hl:typeLookup (.type T) "__getitem__" = pure (some (.builtin id))) (l:NoSl a)
  (h:wpAny (model prog w) A (eval L env) (λo s₁=>wpAny (model prog w) A (eval a env) (λi s₂=>s₂.TypeIs o T/\wpAny (model prog w) A (getItem o i) Q E s₂) E s₁) E s) :
  wpAny (model prog w) A (eval (.Subscript L a pos) env) Q E s:=by
 refine Subscript_ (Mf h (λo s₁ k=>Mf k (λi s₂ f=>?_) λ_ _ x=>x) λ_ _ x=>x);obtain⟨O,f⟩:=f;unfold subscriptTail;refine Mj ?_;rw[getitemInPython_of_ne O.not_modules];refine Mj (MN O hl ?_);have G:wpAny (model prog w) A (subscripted a false o i) (λr b=>wpAny (model prog w) A (letTemporaryGo L o r >>= λ_=>pure r) Q E b) E s₂:=by
  rw[l o i];exact wpAny_operating (Mf f (λr b g=>Mj (wpAny_letTemporaryGo (Mn g))) λ_ _ x=>x)
 first
  |exact Mn (Mj G)
  |exact Mj (Mn (Mj G))
  |exact Mj G
theorem wx{o:Option V}(I:Inv X Y σ H s)(g:DGet H a y o):s.TypeIs (.ref a) "dict":=by
 rcases g with⟨m,k,e,_,_⟩ | ⟨m,k,b,e,_,_,_⟩
 .obtain⟨_,_,l,_,L⟩:=y9 I.hok e;exact L.typeIs
 .obtain⟨_,_,D,_,L⟩:=y8 I.hok e;exact L.typeIs
def tDGet(b ty:TE):TE:=λY H Q=>b Y H λx O=>ty Y O λy N=>∃ a v,x=.ref a/\DGet N a y (some v)/\Q v N
def Ft(ty b:TE):TE:=λY H Q=>ty Y H λy O=>b Y O λx N=>∃ a o,x=.ref a/\DGet N a y o/\Q (.bl (!o.isSome)) N
def sDPut(b ty g:TE):TS:=λD Y H=>g Y H λv O=>b Y O λx N=>ty Y N λy M=>∃ a f,x=.ref a/\DPut M a y v f/\D.nx Y f
section
variable{X:Cx}{o i e value:Expr}{pos pos' tpos:Pos}{td ty tv:TE}
theorem gn(E:X.A.units+1<cLine)(T:PE X o td)(hi:PE X i ty)(l:NoSl i):PE X (.Subscript o i pos) (tDGet td ty):=by
 intro B s Y H Q I h;refine Fu PySem.F.slot_dict_getitem.lookup l (thn (T B s Y H _ I h) λu j ⟨x,O,J,k,C⟩=>thn (hi B j Y O _ J C) λe m ⟨y,N,p,c,a,v,b,g,n⟩=>?_);subst b;obtain rfl:u=Value.ref a:=k;exact⟨wx p g,B0 E p g c λw L t G=>⟨v,N,t,G,n⟩⟩
theorem kG(E:X.A.units+1<cLine)(hi:PE X i ty)(T:PE X o td):PC X .NotIn i o (Ft ty td):=by
 intro B s Y H Q I h;refine thn (hi B s Y H _ I h) λe j ⟨y,O,J,c,C⟩=>thn (T B j Y O _ J C) λu m z=>?_;obtain⟨x,N,p,k,a,ov,b,g,n⟩:=z;subst b;obtain rfl:u=Value.ref a:=k;exact GN E p g c λL t=>⟨.bl (!ov.isSome),N,t,rfl,n⟩
theorem jO(E:X.A.units+1<cLine)(T:PE X o td)(hi:PE X i ty)(p:PE X value tv)(l:swapsWith value (some (.Subscript o i pos')) pos.line X.env=pure false) :
  PS X (.Assign [.Subscript o i pos'] value pos) (sDPut td ty tv):=by
 intro B s Y H D I h;refine wpAny_Assign_Subscript (thn (p B s Y H _ I h) λr j ⟨v,O,J,rv,C⟩=>thn (T B j Y O _ J C) λu m ⟨x,N,z,k,n⟩=>thn (hi B m Y N _ z n) λe L ⟨y,M,t,c,a,f,b,g,G⟩=>?_) l;subst b;obtain rfl:u=Value.ref a:=k;exact BR E t g c rv λd q=>⟨Y,f,q,G⟩
end
theorem yf(h:Heap)(L:sysModules<h.objs.size):bG P w H (h.push { cls:=.type "dict",data:=.dict #[] }) h.objs.size (.dK []) :=
 ⟨Ia _,beq_eq_false_iff_ne.mpr (Ne.symm (HN L)),[],.nil,Heap.DictOf.new h⟩
def tDNewK:TE:=λ_ H Q=>∀ p,H p=none->Q (.ref p) (upd H p (.dK []))
theorem kE:PE X (.Dict [] [] pos) tDNewK:=λB s Y H Q I h =>
 wpAny_Dict_empty ⟨.ref s.heap.objs.size,_,I.laid (a:=s.heap.objs.size) (o:=.dK []) (t':=s.toks) (λ_ _ q=>Mo _ q) (Hl _) (yf s.heap I.big),rfl,h _ (I.hok.fresh (Hl _))⟩
def zR:List (TE×TE)->St->Hp->(List (V×V)->Hp->Prop)->Prop
 |[],_,H,Q=>Q [] H
 | (l,g)::r,Y,H,Q=>l Y H λx O=>g Y O λy N=>zR r Y N λG M=>Q ((x,y)::G) M
abbrev VV:List (V×V)->List (Value×Value)->Prop:=Paired λp q=>RelV p.1 q.1/\RelV p.2 q.2
def PPs(X:Cx)(pos:Pos)(j:List (Option Expr))(f:List Expr)(a:List (TE×TE)):Prop :=
 ∀(B:List (Addr×Obj))(s:Shared)(Y:St)(H:Hp)(Q:List (V×V)->Hp->Prop),Inv X B Y H s->zR a Y H Q ->
  wpAny (model X.prog X.w) X.A (evalPairs (pairTrees j f X.env pos)) (λl d=>∃ G C,Inv X B Y C d/\VV G l/\Q G C) X.xe s
theorem uQ:PPs X pos [] [] []:=λB s Y H Q I h=>pairTrees_nil_walk ⟨[],H,I,.nil,h⟩
theorem qp{k v:Expr}{ks:List (Option Expr)}{vs:List Expr}{tk g:TE}{a:List (TE×TE)}(C:PE X k tk)(p:PE X v g)(G:PPs X pos ks vs a) :
  PPs X pos (some k::ks) (v::vs) ((tk,g)::a):=λB s Y H Q I h =>
 pairTrees_cons_walk (thn (C B s Y H _ I h) λu j ⟨x,O,i,z,r⟩=>thn (p B j Y O _ i r) λe m ⟨y,N,D,c,n⟩ =>
  thn (G B m Y N _ D n) λJ L ⟨o,M,t,rel,d⟩=>⟨(x,y)::o,M,t,.cons ⟨z,c⟩ rel,d⟩)
def fL(kvs more:List (Key×V)):List (Key×V):=more.foldl (λu o=>putK u o.1 o.2) kvs
theorem KV.merge:∀{more:List (Key×V)}{rs:List (Key×Value)}{kvs:List (Key×V)}{vs:List (Key×Value)},KV more rs->KV kvs vs->KV (fL kvs more) (merged vs rs):=by
 intro more rs kvs vs r;unfold KV at r;induction r generalizing kvs vs with
 |nil=>intro q;exact q
 | @cons p q G d h t Y =>
  intro u;have e:KV (putK kvs p.1 p.2) (stored vs q.1 q.2):=by
   have:=u.put p.1 h.2;rw[← h.1];exact this
  exact Y e
theorem kK:∀(more kvs:List (Key×V)),(fL kvs more).length<=kvs.length+more.length
 |[],kvs=>by show kvs.length<=kvs.length+0;omega
 |p::r,kvs=>by
  have M:=kK r (putK kvs p.1 p.2);have J:=cF kvs p.1 p.2;show(fL (putK kvs p.1 p.2) r).length<=_;rw[HD];omega
theorem pA{P:Program}{w:World}:∀{kvs:List (Key×V)}{J:List (Value×Value)},VV (kvs.map λo=>(kV o.1,o.2)) J->∃ rs,Carries (bK P w) J rs/\KV kvs rs
 |[],_,r=>by rw[List.map_nil]at r;cases r;exact⟨[],True.intro,.nil⟩
 |p::kvs,_,r=>by
  rw[HR]at r
  cases r with
  | @cons a b as bs h t =>
   obtain⟨rs,c,q⟩:=pA (P:=P) (w:=w) t;obtain⟨b1,b2⟩:=b;exact⟨(p.1,b2)::rs,⟨vC h.1,rfl,c⟩,.cons ⟨rfl,h.2⟩ q⟩
def tDisp(a:List (TE×TE)):TE:=λY H Q=>∀ p,H p=none->zR a Y (upd H p (.dK [])) λG N=>N p=some (.dK [])/\∃ m:List (Key×V),G=m.map (λo=>(kV o.1,o.2))/\m.length<=15/\Q (.ref p) (upd N p (.dK (fL [] m)))
theorem vc{j:List (Option Expr)}{f:List Expr}{t:List (TE×TE)}(h:PPs X pos j f t)(k:j.all (·.isSome)=true)(hl:j.length=f.length)(E:j≠[])
  (x:j.length<=15):PE X (.Dict j f pos) (tDisp t):=by
 intro B s Y H Q I q;have g:=I.hok.fresh (Hl s.heap.objs.size);have i:=I.laid (a:=s.heap.objs.size) (o:=.dK []) (h':=s.heap.push { cls:=.type "dict",data:=.dict #[] }) (t':=s.toks) (λ_ _ q=>Mo _ q) (Hl _) (yf s.heap I.big);refine wpAny_Dict_walk (knd:=bK X.prog X.w) k hl E x (thn (h B _ Y _ _ i (q _ g)) λJ v ⟨G,N,p,rel,e,m,D,r,d⟩=>?_);subst D;obtain⟨b,c,y⟩:=pA (P:=X.prog) (w:=X.w) rel;obtain⟨z,hd,C,u,L⟩:=za p.hok e
 cases u
 refine⟨b,c,L,λh' O l=>⟨.ref s.heap.objs.size,_,?_,rfl,d⟩⟩;have A:(fL [] m).length<=LZ:=by
  have M:=kK m [];rw[Js]at M;rw[sizeLine_eq];omega
 have T:∃ q,h'.get? s.heap.objs.size=some q:=let ⟨q,_,_,n,_⟩:=O;⟨q,n⟩;exact qZ p (by rw[e];exact True.intro) l T (BN A hd (y.merge .nil) O)
structure M1(X:Cx)(o:Expr)(m:Str)(apos:Pos)(e:Expr)(cpos:Pos):Prop where
 base:attributeBase o m X.env (eval o X.env)=eval o X.env
 few:((backTo cpos (Me [e] X.env)).all (λx=>!x.1)&&(backToKw cpos (keywordEach [] X.env)).all (λx=>x.1.isSome)
  && decide (([e]:List Expr).length+([]:List Keyword).length+(if([]:List Keyword).isEmpty then 0 else 1)<30))=true
 line:(apos.endLine == cpos.line)=true
 trees:backTo cpos (Me [e] X.env) = [(false,eval e X.env)]
structure M2(X:Cx)(o:Expr)(m:Str)(apos:Pos)(e f:Expr)(cpos:Pos):Prop where
 base:attributeBase o m X.env (eval o X.env)=eval o X.env
 few:((backTo cpos (Me [e,f] X.env)).all (λx=>!x.1)&&(backToKw cpos (keywordEach [] X.env)).all (λx=>x.1.isSome)
  && decide (([e,f]:List Expr).length+([]:List Keyword).length+(if([]:List Keyword).isEmpty then 0 else 1)<30))=true
 line:(apos.endLine == cpos.line)=true
 trees:backTo cpos (Me [e,f] X.env) = [(false,eval e X.env),(false,eval f X.env)]
def IsD(H:Hp)(a:Addr):Prop:=(∃ m,Rd H a (.dK m))∨∃ m,Rd H a (.dT m)
theorem EY(I:Inv X Y σ H s)(d:IsD H a) :
  s.TypeIs (.ref a) "dict"/\(∀ b,Value.ref a=.ref b->∃ ob,s.heap.get? b=some ob/\ob.dict=none)/\(a == sysModules)=false:=by
 rcases d with⟨m,e⟩ | ⟨m,e⟩
 .obtain⟨_,hd,l,_,L⟩:=y9 I.hok e;refine⟨L.typeIs,λb q=>?_,hd⟩
  cases q
  obtain⟨ob,_,_,M,J,_⟩:=L;exact⟨ob,M,J.2.1⟩
 .obtain⟨_,hd,D,_,L⟩:=y8 I.hok e;refine⟨L.typeIs,λb q=>?_,hd⟩
  cases q
  obtain⟨ob,_,_,M,J,_⟩:=L;exact⟨ob,M,J.2.1⟩
section
variable{X:Cx}{pins:List (Addr×Obj)}{σ:St}{H:Hp}{s:Shared}{a:Addr}{y d:V}{u r:Value}{o:Option V}{A:Around}{E:Value->Shared->Prop}
theorem d_get2(T:A.units+1<cLine)(I:Inv X pins σ H s)(g:DGet H a y o)(c:RelV y u)(f:RelV d r)(h:∀ w' s',Inv X pins σ H s'->RelV (o.getD d) w'->Q w' s') :
  wpAny (model X.prog X.w) A (call (.builtin "dict.get") [.ref a,u,r]) Q E s:=by
 rcases g with⟨m,k,e,M,l⟩ | ⟨m,k,b,e,M,O,l⟩
 .subst M;obtain⟨z,hd,t,rel,L⟩:=y9 I.hok e;refine call_meetsIn KR L.typeIs PySem.F.entry_dict_get (LR _ _ _) (meets_dict_get_default (bK X.prog X.w) a (vC c) hd r) ⟨_,L.mapOf,h _ _ (I.tok _) ?_⟩;rw[l];exact(rel.val k).getD f
 .subst M
  cases (show u=Value.ref b from c)
  obtain⟨z,hd,D,rel,L⟩:=y8 I.hok e;refine call_meetsIn KR L.typeIs PySem.F.entry_dict_get (LR _ _ _) (meetsH_dict_get_default (tupleKind (bK X.prog X.w)) a b hd r) ⟨tupleKind_room_in1 T,k,D,sY I.hok O,L,h _ _ (I.tok _) ?_⟩;rw[l];exact(rel.val k).getD f
end
def tDGet2(b ty d:TE):TE:=λY H Q=>b Y H λx O=>∃ a,x=.ref a/\IsD O a/\ty Y O λy N=>d Y N λz M=>∃ o,DGet M a y o/\Q (o.getD z) M
def tDPop1(b ty:TE):TE:=λY H Q=>b Y H λx O=>∃ a,x=.ref a/\IsD O a/\ty Y O λy N=>∃ m k v,N a=some (.dK m)/\y=kV k/\valV m k=some v/\Q v (upd N a (.dK (mD m k)))
section
variable{X:Cx}{o e f:Expr}{apos cpos:Pos}{td ty tx:TE}
theorem C8(E:X.A.units+1<cLine)(D:PE X o td)(T:PE X e ty)(r:PE X f tx) (m:M2 X o "get" apos e f cpos):PE X (.Call (.Attribute o "get" apos) [e,f] [] cpos) (tDGet2 td ty tx):=by
 intro B s Y H Q I h;refine wpAny_Call_method m.base m.few m.line KL KR PySem.F.type_dict_get (thn (D B s Y H _ I h) λu j ⟨x,O,i,k,a,b,d,C⟩=>?_);subst b;obtain rfl:u=Value.ref a:=k;obtain⟨q,l,_⟩:=EY i d;refine⟨q,l,?_⟩;rw[m.trees]
 refine MH rfl (Calls.evalArgs_plain (MA (thn (T B j Y O _ i C) λiv v ⟨y,N,p,c,n⟩ =>
  MA (thn (r B v Y N _ p n) λfv L ⟨z,M,I3,rz,ov,g,J⟩=>Mz ?_))))
 exact d_get2 E I3 g c rz λw G I4 t=>⟨_,M,I4,t,J⟩
theorem C7(D:PE X o td)(T:PE X e ty) (m:M1 X o "pop" apos e cpos):PE X (.Call (.Attribute o "pop" apos) [e] [] cpos) (tDPop1 td ty):=by
 intro B s Y H Q I h;refine wpAny_Call_method m.base m.few m.line KL PySem.F.slot_dict_pop PySem.F.type_dict_pop (thn (D B s Y H _ I h) λu j ⟨x,O,i,z,a,b,d,C⟩=>?_);subst b;obtain rfl:u=Value.ref a:=z;obtain⟨g,t,_⟩:=EY i d;refine⟨g,t,?_⟩;rw[m.trees];refine MH rfl (Calls.evalArgs_plain (MA (thn (T B j Y O _ i C) λr q ⟨y,N,p,c,f,k,v,J,M,l,n⟩=>Mz ?_)));subst M;exact d_pop p J c l (.inl rfl) λw L E G=>⟨v,_,E,G,n⟩
end
section
variable{X:Cx}{pins:List (Addr×Obj)}{σ:St}{H:Hp}{s:Shared}{a:Addr}{kvs:List (Key×V)}{A:Around}{E:Value->Shared->Prop}
end
section
variable{X:Cx}{pins:List (Addr×Obj)}{σ:St}{H:Hp}{s:Shared}{a:Addr}{y:V}{u:Value}{A:Around}{E:Value->Shared->Prop}
end
section
variable{κ:Type} [DecidableEq κ]
theorem xq{kvs:List (κ×V)}{k:κ}(h:valV kvs k=none):¬ k∈kvs.map (·.1):=by
 intro m;obtain⟨p,B,e⟩:=Ie.mp m;have q:(kvs.any λo=>decide (o.1=k))=true:=List.any_eq_true.mpr ⟨p,B,MJ e⟩;rw[fQ,h]at q;exact NC q (by simp)
theorem vm:∀{l:List κ}{k:κ},l.Nodup->¬ k∈l->(l++[k]).Nodup
 |[],k,_,_=>by simp
 |a::r,k,h,C=>by
  obtain⟨M,J⟩:=Hy.mp h;show(a::(r++[k])).Nodup;refine Hy.mpr ⟨λm=>?_,vm J λm=>C (Hs.mpr (Or.inr m))⟩;rcases Hx.mp m with q | q
  .exact M q
  .exact C (Hs.mpr (Or.inl (HB.mp q).symm))
theorem F8{kvs:List (κ×V)}{k:κ}(v:V)(g:(kvs.map (·.1)).Nodup)(h:valV kvs k=none):((putK kvs k v).map (·.1)).Nodup:=by
 rw[qk v h,Hv];exact vm g (xq h)
theorem BL{p:κ×V}{r:List (κ×V)}{k:κ}(e:p.1=k):mD (p::r) k=mD r k:=by
 unfold mD;rw[KO,NB (by simp[e])]
theorem BM{p:κ×V}{r:List (κ×V)}{k:κ}(e:¬ p.1=k):mD (p::r) k=p::mD r k:=by
 unfold mD;rw[KO,NA (by simp[e])]
end
def clOf(env:Env)(fr:List (Str×Nat)):List (Str×Addr):=fr.map λp=>(p.1,(env.cells.lookup p.1).getD 0)
def frOf(fr:List (Str×Nat))(σ:St):St:=fr.map λp=>(σ[p.2]?).join
theorem jr{env:Env}:∀{fr:List (Str×Nat)}{y:Str}{c:Addr},(clOf env fr).lookup y=some c->y∈fr.map (·.1)/\c=(env.cells.lookup y).getD 0
 |[],_,_,h=>by cases h
 |p::r,y,c,h=>by
  unfold clOf at h;rw[HR,List.lookup_cons]at h
  cases e:y == p.1 with
  |true =>
   rw[e]at h;have M:y=p.1:=eq_of_beq e
   cases h
   exact⟨by rw[M];exact Hu,by rw[M]⟩
  |false =>
   rw[e]at h;obtain⟨a,b⟩:=jr (env:=env) (fr:=r) h;exact⟨Hq _ a,b⟩
theorem eG{env:Env}:∀{fr:List (Str×Nat)}{y:Str},y∈fr.map (·.1)->(clOf env fr).lookup y=some ((env.cells.lookup y).getD 0)
 |[],_,h=>by cases h
 |p::r,y,h=>by
  unfold clOf;rw[HR,List.lookup_cons]
  cases e:y == p.1 with
  |true =>
   have M:y=p.1:=eq_of_beq e;rw[M]
  |false =>
   have a:y≠p.1:=λz=>by rw[z]at e;simp at e
   rcases Hs.mp h with z | z
   .exact NC z a
   .exact eG (env:=env) (fr:=r) z
section
variable{X:Cx}{pins:List (Addr×Obj)}{σ:St}{H:Hp}{s:Shared}{scope:Scope}{fr:List (Str×Nat)}{x:Str}
end
def rM(A:TE)(a:St)(J:It)(H1:Hp)(QQ:List V->Hp->Prop):Prop :=
 ∃ W:Nat->Nat->List V->Hp->Prop,(∃ m,W 0 m [] H1)/\∀ i m M H,W i m M H->M.length<=LZ /\
  ((J.stop i H/\QQ M H)∨(J.go i H/\∃ N:V->Hp->Prop,(∀ y r,N y r->∃ G,G<m/\W (i+1) G (M++[y]) r)/\∀ x C,J.yld i H x C->A (some x::a) C N))
section
variable{X:Cx}{scope:Scope}{fr:List (Str×Nat)}{x:Str}{elt iter:Expr}{px pos:Pos}{te:TE}{wi:TI}
end
theorem Cb{A:TE}(Pv:Nat->List V->Hp->Prop)(hz:xs.length<=LZ)(E:Pv 0 [] H1)(hl:∀ i ys H,i<=xs.length->Pv i ys H->SqL K H a xs)
  (l:∀ i x ys H,xs[i]?=some x->Pv i ys H->A (some x::σ) H λy H2=>Pv (i+1) (ys++[y]) H2) (hd:∀ ys H,ys.length=xs.length->Pv xs.length ys H->QQ ys H)
  : rM A σ (Itl K a) H1 QQ:=by
 refine⟨λi m ys H=>m=xs.length-i/\i<=xs.length/\ys.length=i/\Pv i ys H,⟨xs.length,by simp,Ia _,rfl,E⟩,?_⟩
 rintro i m ys H ⟨rfl,d,G,p⟩;have q:=hl i ys H d p;refine⟨∅,?_⟩
 by_cases L:i<xs.length
 .refine .inr ⟨⟨xs,xs[i],q,by simp[L]⟩,λy H2=>Pv (i+1) (ys++[y]) H2,λy H2 I=>⟨xs.length-(i+1),∅,rfl,L,by rw[Hk,G];rfl,I⟩,λx C y=>?_⟩
  obtain⟨e,y⟩:=y;subst e;exact l i x ys _ (y xs q) p
 .have e:i=xs.length:=by omega
  subst e;exact .inl ⟨⟨xs,q,Hl _⟩,hd ys H G p⟩
theorem zt{lo:Int}{A:TE}(Pv:Nat->List V->Hp->Prop)(hz:n<=LZ)(E:Pv 0 [] H1)
  (l:∀ i ys H,i<n->Pv i ys H->A (some (.int (lo+i))::σ) H λy H2=>Pv (i+1) (ys++[y]) H2) (hd:∀ ys H,ys.length=n->Pv n ys H->QQ ys H)
  : rM A σ (Itr lo n) H1 QQ:=by
 refine⟨λi m ys H=>m=n-i/\i<=n/\ys.length=i/\Pv i ys H,⟨n,by simp,Ia _,rfl,E⟩,?_⟩
 rintro i m ys H ⟨rfl,d,G,p⟩;refine⟨∅,?_⟩
 by_cases L:i<n
 .refine .inr ⟨L,λy H2=>Pv (i+1) (ys++[y]) H2,λy H2 I=>⟨n-(i+1),∅,rfl,L,by rw[Hk,G];rfl,I⟩,λx C y=>?_⟩
  obtain⟨e,y⟩:=y;subst e y;exact l i ys _ L p
 .have e:i=n:=by omega
  subst e;exact .inl ⟨Hl _,hd ys H G p⟩
theorem yk:Mb "int" = some (.type "int"):=by decide
theorem GY:Mb "bool" = some (.type "bool"):=by decide
theorem gQ:Mb "list" = some (.type "list"):=by decide
theorem aX:Mb "len" = some (.builtin "len"):=by decide
theorem Eo:Mb "range" = some (.type "range"):=by decide
theorem rC:Mb "isinstance" = some (.builtin "isinstance"):=by decide
theorem oy:Mb "sorted" = some (.builtin "sorted"):=by decide
theorem xc:Mb "reversed" = some (.type "reversed"):=by decide
theorem uc:Mb "enumerate" = some (.type "enumerate"):=by decide
structure Cal(P:Program)(w:World)(K:Hj)(mg:Str->Option Value)(base:Heap)(k:Nat)(x:Str)(ps:List Str)(sp:Sp)(f:Addr)(fd:FuncData):Prop where
 ok:FnOk P w K mg base CX0 k f fd ps sp
 bn:fJ K fd ps []
 mg:mg x=some (.ref f)
 kp:Iv K (.ref f)=true
structure Mak(P:Program)(w:World)(K:Hj)(mg:Str->Option Value)(base:Heap)(k:Nat)(x:Str)(ps:List Str)(sp:Sp)(C f:Addr)(fd:FuncData):Prop where
 mkc:Mk K C f
 ok:FnOk P w K mg base CX0 k f fd ps sp
 bn:fJ K fd ps []
 mg:mg x=some (.ref C)
structure Met(P:Program)(w:World)(K:Hj)(mg:Str->Option Value)(base:Heap)(k:Nat)(C:Addr)(m:Str)(ps:List Str)(sp:Sp)(f:Addr)(fd:FuncData):Prop where
 me:Meth K C m f
 ok:FnOk P w K mg base CX0 k f fd ps sp
 bn:fJ K fd ps []
theorem gk{a:List Stmt}{t t2:TS}(h:PSs X a t)(i:∀ D σ H,t2 D σ H->t D σ H):PSs X a t2:=λB s σ H D I q=>h B s σ H D I (i D σ H q)
inductive rIsi(K:Hj)(xs:List V)(H:L2.Hp)(Q:L2.VK):Prop
 |mk (x c t b u:_) (h0_:xs = [x,c])(h1_:TyOf K H x t)(h2_:((∃ n,c=.ty n/\u=Value.type n)∨∃ a,c=.ref a/\u=Value.ref a))(h3_:LI K t u=some b)(h4_:Q (.bl b) H)
theorem Em:fH X (.builtin "isinstance") (rIsi X.K):=by
 intro B s Y H D L Q I r h;obtain⟨x,c,t,b,u,rfl,ty,T,e,q⟩:=h;obtain⟨N,v,rfl,w,g⟩:=CD r;have E:v=u:=by
  rcases T with⟨n,rfl,rfl⟩ | ⟨a,rfl,rfl⟩
  .exact g
  .exact g
 subst E;exact Bf I w ty e λl=>⟨.bl b,H,I.tok l,rfl,q⟩
inductive RdD(K:Hj)(H:Hp):V->PyData->Prop where
 |non:RdD K H .non .none
 |bl (b:Bool):RdD K H (.bl b) (.bool b)
 |int (i:Int):RdD K H (.int i) (.int i)
 |lst {a:Addr} {xs:List V} {ds:List PyData} (h:SqL K H a xs) (hl:xs.length=ds.length) (r:∀(i:Nat)(x:V)(d:PyData),xs[i]?=some x->ds[i]?=some d->RdD K H x d):RdD K H (.ref a) (.list ds)
 |tup {a:Addr} {xs:List V} {ds:List PyData} (h:SqT K H a xs) (hl:xs.length=ds.length) (r:∀(i:Nat)(x:V)(d:PyData),xs[i]?=some x->ds[i]?=some d->RdD K H x d):RdD K H (.ref a) (.tuple ds)
theorem jN{h:Heap}:∀{xs:List V}{us:List Value}{ds:List PyData},Vals xs us->xs.length=ds.length->(∀(i:Nat) x d,xs[i]?=some x->ds[i]?=some d->∀ u,RelV x u->∃ as,Reads h u d as)->∃ as,ReadsAll h us ds as
 |_,_,[],.nil,_,_=>⟨_,.nil⟩
 |_,_,_::_,.nil,e,_=>by cases e
 |_,_,[],.cons _ _,e,_=>by cases e
 |_,_,d::ds,.cons r y,e,k=>by
  obtain⟨I,C⟩:=k 0 _ d rfl rfl _ r;obtain⟨s,n⟩:=jN y (Nat.succ.inj e) λi x B G E=>k (i+1) x B G E;exact⟨_,.cons C n⟩
theorem RdD.reads(I:Inv X Y σ H s){x:V}{d:PyData}(r:RdD X.K H x d):∀ u,RelV x u->∃ as,Reads s.heap u d as:=by
 induction r with
 |non=>intro u T;cases T;exact⟨_,.none⟩
 |bl b=>intro u T;cases T;exact⟨_,.bool b⟩
 |int i=>intro u T;obtain⟨t,rfl⟩:=T;exact⟨_,.int i t⟩
 |lst h D r A =>
  intro u T
  cases T
  obtain⟨O,rv,p,_⟩:=I.list h;obtain⟨as,q⟩:=jN (h:=s.heap) rv D A;obtain⟨o,n,e,c,_,d⟩:=p;exact⟨_,.list e c d (by simpa using q)⟩
 |tup h D r A =>
  intro u T
  cases T
  obtain⟨O,rv,p,_⟩:=I.tuple h;obtain⟨as,q⟩:=jN (h:=s.heap) rv D A;obtain⟨o,e,c,n,d⟩:=p;exact⟨_,.tuple e c d (by simpa using q)⟩
inductive rSame(b:Bool)(K:Hj)(x:L2.V)(y:L2.V)(H:L2.Hp)(Q:L2.VK):Prop
 |mk (d:_) (h0_:RdD K H x d)(h1_:RdD K H y d)(h2_:SeqAt.shaped d=true)(h3_:Q (.bl b) H)
theorem AI(T:X.A.units+64<cLine):OpR X (Mg .NotEq) (rSame false X.K):=by
 intro B s Y H x y v u Q I k c h;obtain⟨d,w,g,l,q⟩:=h;obtain⟨as,C⟩:=w.reads I v k;obtain⟨bs,n⟩:=g.reads I u c;refine ne_dataH C n l l T ?_;rw[SeqAt.eqv_refl d (SeqAt.canLay_of_shaped l)];exact⟨.bl false,H,I,rfl,q⟩
def Itr3(lo c:Int)(n:Nat):It:=⟨λi _=>i<n,λi H x C=>C=H/\x=.int (lo+i*c),λi _=>n<=i⟩
theorem uw{N:Expr}(it:Addr)(lo c:Int)(n:Nat):Turn P w K N (Itr3 lo c n) [it] it (λi h=>IsRangeIter h it (lo+(i:Nat)*c) ((n:Int)-(i:Nat)) c) where
 mem:=by simp
 obj:=λi h st b L=>by
  have e:b=it:=by simpa using L
  subst e
  exact⟨_,st,λv z=>by
   have g:Data.fields _=Data.cell v:=z
   cases g⟩
 keep:=λi h M st k=>k it (by simp) _ st
 item:=by
  intro X T C y f i B s Y H E I a st m;subst T C y;obtain⟨r,u,A,x,d,Q⟩:=a it (by simp)
  have W:=Walks.range (prog:=X.prog) (w:=X.w) (I.ok.hd f) it lo c n;refine W.item i s _ _ m st λv M l p q j=>?_;obtain⟨t,rfl⟩:=p;have J:Inv X B Y H { s with heap:=M,toks:=l }:=I.turned (λb o L e=>j b o (by simpa using L) e) r u x d Q
  exact⟨_,rfl,DN (s:={ s with heap:=M,toks:=l }) (n:="range_iterator") q rfl rfl (by decide) ⟨.int (lo+i*c),H,J,⟨t,rfl⟩,⟨rfl,rfl⟩,q,λb L=>(a b L).1⟩⟩
 done:=by
  intro X T C y f i B s Y H E I a st m;subst T C y;obtain⟨r,u,A,x,d,Q⟩:=a it (by simp)
  exact wpAny_pyNext_range_end (I.ok.hd f) st (by have:n<=i:=m;omega) λM O=>⟨rfl,I.turned (t':=s.toks) (λb o L e=>O b o L e) r u x d Q⟩
 self:=λ_ _ _ _ _ st h=>wpAny_pyIter_rangeiter st h
section
variable{X:Cx}{tg:Expr}
end
section
variable{P:Program}{w:World}{H:Hp}{h:Heap}{a:Addr}{o:HO}
theorem bG.get(x:bG P w H h a o):∃ ob,h.get? a=some ob:=by
 cases o with
 |lst D=>obtain⟨_,_,_,_,e⟩:=x;exact⟨_,e⟩
 |tup D=>obtain⟨_,_,_,ob,e,_⟩:=x;exact⟨_,e⟩
 |dK m=>obtain⟨_,_,_,_,o,_,_,e,_⟩:=x;exact⟨_,e⟩
 |dT m=>obtain⟨_,_,_,_,o,_,_,e,_⟩:=x;exact⟨_,e⟩
 |set S n=>obtain⟨o,_,_,_,e,_⟩:=x;exact⟨_,e⟩
 |ins C j fs=>obtain⟨_,_,_,e,_⟩:=x;exact⟨_,e⟩
 |own y=>exact x
 |xd fs=>obtain⟨_,⟨_,_,_,e,_⟩,_⟩:=x;exact⟨_,e⟩
 |rng lo d=>obtain⟨_,_,_,e⟩:=x;exact⟨_,e⟩
 |frz ob u=>exact⟨_,x.1⟩
 |tbl G=>exact⟨_,(show h.get? a=some _ from x)⟩
 |met f y=>exact⟨_,(show h.get? a=some _ from x)⟩
 |ext s=>exact x.2.1
theorem HOk.none_of(x:HOk P w H h)(e:h.get? a=none):H a=none:=by
 cases q:H a with
 |none=>rfl
 |some u =>
  obtain⟨N,z⟩:=(x a u q).get;rw[e]at z
  cases z
end
structure XOk(X:Cx)(pins:List (Addr×Obj))(H:Hp)(b:Addr):Prop where
 old:X.s₀.heap.get? b=none
 trk:H b=none
 nl:b≠X.env.locals
 nc:∀ x c,X.env.cells.lookup x=some c->c≠b
 np:∀ p∈X.pn++pins,p.1≠b
section
variable{X:Cx}{pins:List (Addr×Obj)}{σ:St}{H H':Hp}{s s':Shared}{b:Addr}
theorem Inv.xok(I:Inv X pins σ H s)(O:X.ex = [])(e:s.heap.get? b=none)(n:H' b=none):XOk X pins H' b:=by
 refine⟨?_,n,λz=>?_,λx c q z=>?_,λp B z=>?_⟩
 .cases q:X.s₀.heap.get? b with
  |none=>rfl
  |some o =>
   obtain⟨C,l⟩:=I.base.there b o q (by rw[O];simp)
   rw[e]at l
   cases l
 .obtain⟨m,⟨o,_,_,T,_⟩,_⟩:=I.loc;rw[z,T]at e
  cases e
 .obtain⟨v,o,T,_⟩:=I.cell x c q;rw[z,e]at T
  cases T
 .have:=(I.pin p B).1
  rw[z,e]at this
  cases this
theorem Inv.xtrack{o:HO}(I:Inv X pins σ H s)(f:XOk X pins H a)(new:bG X.prog X.w (upd H a o) s.heap a o):Inv X pins σ (upd H a o) s:=by
 have ne:∀ b u,H b=some u->b≠a:=λb u e=>aH e f.trk;have l:∀ b u,s.heap.get? b=some u->b≠a->H b=none->upd H a o b=none:=λb u _ n q=>by rw[aq n];exact q
 refine⟨I.ok,I.os,I.bare,⟨I.base.keep,I.base.slot,λb N e n O=>?_,I.base.there,λb D e=>?_,λb N D e=>?_,λb G e=>?_⟩,I.loc,I.cell,?_,λx c e=>?_,λp B=>?_,λb u e=>?_,I.len⟩
 .rw[aq (λz=>by rw[z,f.old]at e;cases e)]
  exact I.base.free b N e n O
 .have:=I.base.tups b D e
  rw[aq (ne _ _ this)];exact this
 .have:=I.base.frzs b N D e
  rw[aq (ne _ _ this)];exact this
 .obtain⟨m,q⟩:=I.base.tbls b G e;exact⟨m,by rw[aq (ne _ _ q)];exact q⟩
 .rw[aq (Ne.symm f.nl)];exact I.free
 .rw[aq (f.nc x c e)];exact I.freeC x c e
 .obtain⟨e,n,r⟩:=I.pin p B;exact⟨e,by rw[aq (f.np p B)];exact n,r⟩
 .by_cases L:b=a
  .rw[L,ag]at e
   cases e
   rw[L];exact new
  .rw[aq L]at e;exact(I.hok b u e).stay (λc v _ q=>q) (λc q=>by rw[aq (ne c _ q)];exact q) λc D q=>by rw[aq (ne c _ q)];exact q
end
section
variable{X:Cx}{pins:List (Addr×Obj)}{σ:St}{H:Hp}{s:Shared}{x:Addr}{C:Value}{E:Value->Shared->Prop}
end
section
variable{X:Cx}{k:Nat}{f C:Addr}{fd:FuncData}{ps:List Str}{sp:Sp}{dvs:List V}{ds:List Value}{W:WK}{x m:Str}{p pos apos:Pos}{e o:Expr}{es:List Expr}{ta:TE}{t:TA}
end
section
variable{prog:Program}{w:World}{A:Around}{E:Value->Shared->Prop}{s:Shared}
theorem AZ:typeLookup (.type "list_reverseiterator") "__len__" = pure none:=by rw[typeLookup_type,builtinLookup_eq_fast];kernel_rfl
theorem DE:typeLookup (.type "list_reverseiterator") "__length_hint__" = pure (some (.builtin "list_reverseiterator.__length_hint__")):=by rw[typeLookup_type,builtinLookup_eq_fast];kernel_rfl
theorem DM{r:Addr}{Q:Bool->Shared->Prop} (O:s.TypeIs (.ref r) "list_reverseiterator") (h:Q false s):wpAny (model prog w) A (MO (.ref r)) Q E s:=by
 unfold MO;refine Mj (MN O AZ ?_);wp_delta;refine MP (λm=>NC m (by decide)) (λ_=>?_)
 refine MP (λm=>NC m (by decide)) (λ_=>?_)
 refine Mj (MN O DE ?_);generalize a:("list_reverseiterator.__length_hint__" : String)=c;wp_delta;rw[show splitId c=some ("list_reverseiterator","__length_hint__") from by subst a;decide]
 subst a;refine Mj (MQ (T:="list_reverseiterator") (b:=true) O (by rw[isSubtype_type];kernel_rfl) ?_)
 refine MP (λm=>NC m (by decide)) (λ_=>?_)
 refine MP (λ_=>?_) (λm=>NC (by decide) m)
 refine MP (λm=>NC m (by decide)) (λ_=>?_)
 exact Mn h
end
theorem Inv.track{o:HO}(I:Inv X Y σ H s)(f:FpOk X Y H a)(new:bG X.prog X.w (upd H a o) s.heap a o):Inv X Y σ (upd H a o) s:=by
 obtain⟨r,t,A,x,d,Q⟩:=f;have ne:∀ b u,H b=some u->b≠a:=λb u e=>aH e r;refine I.step (g':=s.gens) (t':=s.toks) (d':=s.drawn) (h':=s.heap) (ch:=[a]) (λb L=>?_) (λb o _ _ _ e _=>e) (λb o _ _ _ e _=>⟨o.slots,e⟩) (λb o y e n=>?_) (λb o _ e=>⟨o,e⟩) (λb D e=>by rw[aq (ne b _ e)];exact e) (λb o u e=>by rw[aq (ne b _ e)];exact e)
  (λb G e=>⟨#[],by rw[aq (ne b _ e),e];simp⟩) (λm N=>N) (λb u e=>?_) I.bare
 .have O:b=a:=by simpa using L
  rw[O];exact⟨x,t,d,Q⟩
 .rw[aq (λz=>y (by simp[z]))]
  exact n
 .by_cases L:b=a
  .rw[L,ag]at e
   cases e
   rw[L];exact new
  .rw[aq L]at e;exact(I.hok b u e).stay (λc v _ q=>q) (λc q=>by rw[aq (ne c _ q)];exact q) λc D q=>by rw[aq (ne c _ q)];exact q
theorem Inv.turnedL(I:Inv X Y σ H s)(k:∀ b o,b∉fp->s.heap.get? b=some o->h'.get? b=some o)(a:∀ b∈fp,FpOk X Y H b):Inv X Y σ H { s with heap:=h',toks:=t' }:=by
 have j:∀ b u,H b=some u->b∉fp:=λb u e z=>by rw[(a b z).1]at e;cases e
 refine I.step (g':=s.gens) (d':=s.drawn) (ch:=fp) (λb L=>?_) (λb o _ _ f e _=>k b o f e) (λb o _ _ f e _=>⟨o.slots,k b o f e⟩) (λ_ _ _ _ n=>n)
  (λb o f e=>⟨o,k b o f e⟩) (λ_ _ e=>e) (λ_ _ _ e=>e) (λb G e=>⟨#[],by rw[e];simp⟩) (λm N=>?_) (λb u e=>?_) I.bare
 .obtain⟨h,t,A,x,d,Q⟩:=a b L;exact⟨x,t,d,Q⟩
 .obtain⟨o,B,D,T,r⟩:=N;exact⟨o,B,D,k _ o (λz=>(a _ z).2.1 rfl) T,r⟩
 .refine(I.hok b u e).stay (λc v f q=>k c v ?_ q) (λ_ q=>q) λ_ _ q=>q;rcases f with z | z
  .rw[z];exact j b u e
  .exact j c _ z
def Ite(K:Hj)(a:Addr):It :=
 ⟨λi H=>∃ D x,SqL K H a D/\D[i]?=some x,λi H v C=>∃ T x,H T=none/\v=.ref T/\C=upd H T (.tup [.int (i:Int),x])/\∀ D,SqL K H a D->D[i]?=some x,λi H=>∃ D,SqL K H a D/\D.length<=i⟩
theorem zP{es:List Expr}{k:Nat}(a e it:Addr)(aA:e≠it):Turn P w K (.Tuple es k pos) (Ite K a) [e,it] e (λi h=>(∃ ab,IsEnum h e it ((i:Nat):Int) ab)/\h.IsListIter it a i) where
 mem:=by simp
 obj:=λi h st b L=>by
  obtain⟨⟨ab,T⟩,o,t,c,d⟩:=st;rcases Hs.mp L with rfl | L
  .exact⟨_,T,λv z=>by
    have z':Data.fields _=Data.cell v:=z
    cases z'⟩
  .have e3:b=it:=by simpa using L
   subst e3;exact⟨o,t,λv z=>by rw[d]at z;cases z⟩
 keep:=λi h h' st j=>by
  obtain⟨⟨ab,T⟩,aa⟩:=st;exact⟨⟨ab,j e (by simp) _ T⟩,aa.at λo q=>j it (by simp) o q⟩
 item:=by
  intro X hP hw hK f i B s Y H E I r st m;subst hP hw hK;obtain⟨N,x,n,O⟩:=m;obtain⟨g,rv,p,hz⟩:=I.list n;obtain⟨u,l,ru⟩:=rv.get O;obtain⟨⟨ab,T⟩,aa⟩:=st;refine wpAny_pyNext_enum_item T aa p.isList (x:=u) (by simpa using l) aA λh' A aI hT ac C=>?_
  refine⟨_,rfl,?_⟩;refine wpAny_letOwnedTupleGo_enum A λJ aS al=>?_;have ae:Md e h' J:=al;have aL:e<s.heap.objs.size:=L9 T;have an:it<s.heap.objs.size:=by obtain⟨_,q,_⟩:=aa;exact L9 q
  have am:H s.heap.objs.size=none:=I.hok.fresh (Hl _);have I0:Inv X B Y (upd H s.heap.objs.size (.tup [.int (i:Int),x])) { s with heap:=s.heap.push { cls:=.type "tuple",data:=.seq #[.int (i:Int) s.toks,u] },toks:=s.toks+1 } :=
   I.laid (t':=s.toks+1) (λb u e=>Mo _ e) (Hl _) ⟨by show 2<=LZ;decide,[.int (i:Int) s.toks,u],.cons ⟨_,rfl⟩ (.cons ru .nil),⟨_,Mp _ rfl,rfl,_,rfl⟩⟩
  have ap:∀ b∈[e,it],b<s.heap.objs.size:=λb L=>by
   rcases Hs.mp L with rfl | L
   .exact aL
   .have e3:b=it:=by simpa using L
    rw[e3];exact an
  have y:∀ b∈[e,it],upd H s.heap.objs.size (.tup [.int (i:Int),x]) b=none:=λb L=>by
   rw[aq (HN (ap b L))];exact(r b L).1
  have I2:Inv X B Y (upd H s.heap.objs.size (.tup [.int (i:Int),x])) { s with heap:=J,toks:=s.toks+1 }:=Inv.turnedL (s:={ s with heap:=s.heap.push { cls:=.type "tuple",data:=.seq #[.int (i:Int) s.toks,u] },toks:=s.toks+1 }) (h':=J) I0 (t':=s.toks+1) (fp:=[e,it]) (λb o L q=>by
   have nb:b≠e:=λz=>L (by simp[z])
   have aT:b≠it:=λz=>L (by simp[z])
   refine(ae.2 b nb).trans ?_;rcases Heap.get?_push_cases q with⟨z1,Q⟩ | q
   .rw[z1,Q];exact hT
   .exact C b o nb aT q) λb L=>⟨y b L,(r b L).2⟩
  refine⟨.ref s.heap.objs.size,_,I2,rfl,⟨s.heap.objs.size,x,am,rfl,rfl,λM G=>by rw[I.list_inj G n];exact O⟩,?_,y⟩
  refine⟨⟨u,?_⟩,aI.at λo q=>(ae.2 it (Ne.symm aA)).trans q⟩;have e4:(((i+1:Nat):Nat):Int)=(i:Int)+1:=by omega
  rw[e4];exact aS
 done:=by
  intro X hP hw hK f i B s Y H E I r st m;subst hP hw hK;obtain⟨N,n,O⟩:=m;obtain⟨g,rv,p,hz⟩:=I.list n;obtain⟨⟨ab,T⟩,aa⟩:=st;have D:=rv.length;obtain⟨f0,f1,f2,f3,f4,f5⟩:=r it (by simp)
  exact wpAny_pyNext_enum_end (I.ok.hd f) T aa p.isList (by simp;omega) λh' eb=>⟨rfl,I.turned (t':=s.toks) (λb o L e=>eb b o L e) f0 f1 f3 f4 f5⟩
 self:=λ_ _ _ _ _ st h=>by
  obtain⟨⟨ab,T⟩,_⟩:=st;exact wpAny_pyIter_enum T h
def iEnum(K:Hj)(T:TA):TI:=λY H R=>T Y H λl O=>∃ a,l = [.ref a]/\(∃ D,SqL K O a D)/\R (Ite K a) O
theorem gm{l:Expr}{c:TA}{es:List Expr}{k:Nat}{tp p:Pos} (m:Gl X "enumerate") (N:X.mg "enumerate" = none) (A:PA X [l] c) (y:Me [l] X.env = [(false,eval l X.env)]:=by rfl) :
  PI X (.Tuple es k tp) (.Call (.Name "enumerate" p) [l] [] pos) (iEnum X.K c):=by
 intro B s Y H R I h;refine Call_ (jt I m N uc (Mr (thn (A pos B s Y H _ I h) λz j ⟨d,O,i,w,r⟩=>?_) y rfl));obtain⟨a,e,⟨D,n⟩,q⟩:=r;subst e;obtain⟨u,rfl,J⟩:=g9 w
 cases J
 obtain⟨g,rv,p,t⟩:=i.list n;refine call_enumerate_list p.isList λM T o E C=>?_;refine wpAny_pyIter_enum T ?_;refine⟨j.heap.objs.size+1,[j.heap.objs.size+1,j.heap.objs.size],_,_,O,rfl,i.kept (t':=j.toks) C,zP a _ _ (Nat.succ_ne_self _),⟨⟨_,T⟩,o⟩,λb L=>?_,q⟩;have v:j.heap.objs.size<=b:=by
  rcases Hs.mp L with rfl | L
  .exact JB _
  .have f:b=j.heap.objs.size:=by simpa using L
   rw[f];exact Hl _
 exact i.fpOk v (i.hok.fresh v)
theorem m9{g:TG}{tb:TS}{D:Ends}(Pv:Nat->St->Hp->Prop)(E:Pv 0 σ H)(hl:∀ i σ H,i<=xs.length->Pv i σ H->SqL K H a xs)
  (l:∀ i x σ H T,xs[i]?=some x->Pv i σ H->H T=none->g (.ref T) σ (upd H T (.tup [.int (i:Int),x])) λc H2=>tb { D with nx:=Pv (i+1),ct:=Pv (i+1),bk:=D.nx } c H2) (hd:∀ σ H,Pv xs.length σ H->D.nx σ H) :
  ∃ W:Nat->Nat->St->Hp->Prop,(∃ m,W 0 m σ H)/\∀ i m σ H,W i m σ H ->
   ((Ite K a).stop i H/\D.nx σ H)∨((Ite K a).go i H/\∃ N:St->Hp->Prop,(∀ σ' H',N σ' H'->∃ G,G<m/\W (i+1) G σ' H')/\∀ x H',(Ite K a).yld i H x H'->g x σ H' λc H2=>tb { D with nx:=N,ct:=N,bk:=D.nx } c H2):=by
 refine⟨λi m σ H=>m=xs.length-i/\i<=xs.length/\Pv i σ H,⟨xs.length,by simp,Ia _,E⟩,?_⟩
 rintro i m σ H ⟨rfl,d,p⟩;have q:=hl i σ H d p;by_cases L:i<xs.length
 .refine .inr ⟨⟨xs,xs[i],q,by simp[L]⟩,Pv (i+1),λσ' H' o=>⟨xs.length-(i+1),∅,rfl,L,o⟩,λv H' y=>?_⟩
  obtain⟨T,x,O,rfl,rfl,y⟩:=y;exact l i x σ _ T (y xs q) p O
 .have e:i=xs.length:=by omega
  subst e;exact .inl ⟨⟨xs,q,Hl _⟩,hd σ H p⟩
theorem nX(h:j<n):ixN n (j:Int)=some j:=by
 unfold ixN;rw[NA ∅,NA ∅]
 rfl
theorem iK:∀{ds:List PyData},(∀ d∈ds,d.canLay0=true)->PyData.canLayAll0 ds=true
 |[],_=>by simp[PyData.canLayAll0]
 |d::ds,h=>by
  rw[PyData.canLayAll0,h d (by simp),iK λx O=>h x (by simp[O])]
  rfl
theorem jY{n:Nat}:∀{ds:List PyData},(∀ d∈ds,d.depth<=n)->PyData.depthAll ds<=n
 |[],_=>by simp[PyData.depthAll]
 |d::ds,h=>by
  have M:=h d (by simp)
  have J:=jY (ds:=ds) λx O=>h x (Hq _ O);rw[PyData.depthAll];omega
theorem jy{ds:List PyData}(h:∀ d∈ds,d.canLay0=true/\d.depth<=10):SeqAt.shaped (.list ds)=true:=by
 have M:=iK λd hd=>(h d hd).1;have J:=jY λd hd=>(h d hd).2;have f:MR (.list ds)<=64:=by simp only[MR];omega
 show(MT (.list ds)&&decide (MR (.list ds)<=64))=true;rw[JH];exact⟨by simp only[MT];exact M,MJ f⟩
theorem flat2(i j:Int):(PyData.tuple [.int i,.int j]).canLay0=true/\(PyData.tuple [.int i,.int j]).depth<=10:=by
 constructor
 .simp[MT,PyData.canLayAll0]
 .simp[MR,PyData.depthAll]
def cxG(X:Cx)(scope:Scope)(fr:List (Str×Nat))(xs:List Str)(C:Addr)(ex:List Addr)(s:Shared)(H:Hp):Cx where
 prog:=X.prog
 w:=X.w
 K:=X.K
 mg:=X.mg
 base:=X.base
 A:=X.A
 N:=xs++fr.map (·.1)
 s₀:=s
 H₀:=H
 env:=compEnvC scope (clOf X.env fr) C X.env
 outer:=X.stack
 stack:=X.stack
 ex:=ex
 fn:=λ_=>false
 calm:=X.calm
 pn:=[]
 xe:=λ_ _=>False
structure mI(X:Cx)(scope:Scope)(fr:List (Str×Nat))(xs:List Str):Prop where
 clos:closureFor scope X.env=pure (clOf X.env fr)
 cell:∀ y∈scope.names,y.2≠.cell
 kind:scope.kind=.function
 names:∀ y∈scope.names,y.2=.local->scope.names.lookup y.1=some .local
 slot:∀ p∈fr,X.N[p.2]?=some p.1/\X.env.kindOf p.1=some .cell
 has:∀ y∈(relabel scope X.env).names,(y.2=.cell∨y.2=.free)->y.1∈fr.map (·.1)
 frk:∀ p∈fr,(relabel scope X.env).names.lookup p.1=some .cell
theorem mI.of{xs:List Str}(clos:closureFor scope X.env=pure (clOf X.env fr))(cell:∀ y∈scope.names,y.2≠.cell)(kind:scope.kind=.function)(names:∀ y∈scope.names,y.2=.local->scope.names.lookup y.1=some .local)
  (slot:∀ p∈fr,X.N[p.2]?=some p.1/\X.env.kindOf p.1=some .cell) (T:∀ z∈scope.names,z.2=.free->z.1∈fr.map (·.1)) (frk:∀ p∈fr,(relabel scope X.env).names.lookup p.1=some .cell):mI X scope fr xs where
 clos:=clos
 cell:=cell
 kind:=kind
 names:=names
 slot:=slot
 has:=λz A C=>by
  obtain⟨⟨n,k⟩,E,e⟩:=Ie.mp (show z∈scope.names.map _ from A);have J:=cell _ E;dsimp only at e J;have g:z.1=n:=by rw[← e];split<;>rfl
  have a:k=.free:=by
   by_cases q:k=.free
   .exact q
   .have L:(k == NameKind.free)=false:=by simpa using q
    rw[L]at e;simp only[Iw,II,if_false]at e;subst e;exact(C.elim J q).elim
  have:=T _ E a;rw[g];exact this
 frk:=frk
abbrev nons(xs:List Str):St:=Hw xs.length none
section
variable{X:Cx}{pins:List (Addr×Obj)}{σ:St}{H:Hp}{s:Shared}{scope:Scope}{fr:List (Str×Nat)}{xs:List Str}
theorem mI.cells(O:mI X scope fr xs)(I:Inv X pins σ H s){y:Str}{c:Addr}(h:(clOf X.env fr).lookup y=some c):X.env.cells.lookup y=some c:=by
 obtain⟨N,e⟩:=jr h;obtain⟨p,B,D⟩:=Ie.mp N;have k:=(O.slot p B).2;rw[D]at k;obtain⟨C,l⟩:=I.ok.has y (.inl k);rw[l]at e;rw[l,e];rfl
theorem Bh(O:mI X scope fr xs)(I:Inv X pins σ H s)(a:∀ b∈fp,FpOk X pins H b)(am:∀ b∈fp,b<s.heap.objs.size){g:Heap}{tk:Nat}(t:g=s.heap.push (MU []))
  (C:∀ b o,g.get? b=some o->h'.get? b=some o) (hC:h'.Ns g.objs.size λ_=>none) :
  Inv (cxG X scope fr xs g.objs.size (s.heap.objs.size::fp) { s with heap:=g } H) (X.pn++pins++[(s.heap.objs.size,MU [])]) (nons xs++frOf fr σ) H { s with heap:=h',toks:=tk }:=by
 have aa:g.objs.size=s.heap.objs.size+1:=by rw[t,My]
 have kp:∀ b o,s.heap.get? b=some o->g.get? b=some o:=λb o e=>by rw[t];exact Mo _ e
 have an:∀ b o,s.heap.get? b=some o->h'.get? b=some o:=λb o e=>C b o (kp b o e);have aT:h'.get? s.heap.objs.size=some (MU []):=C _ _ (by rw[t];exact Mp _ rfl)
 have al:∀ b,b<s.heap.objs.size->b≠g.objs.size:=λb e=>by rw[aa];exact HN (IU e)
 have ap:s.heap.objs.size≠g.objs.size:=by rw[aa];exact HN (Ik _)
 have ae:H g.objs.size=none:=I.hok.fresh (by rw[aa];exact JB _)
 have aV:H s.heap.objs.size=none:=I.hok.fresh (Hl _);have cne:∀ y c,X.env.cells.lookup y=some c->c<s.heap.objs.size:=λy c e=>by
  obtain⟨v,q⟩:=I.cell y c e;exact q.lt
 have aI:∀ b,b≠X.env.locals->b∉X.fs->b∉frs X.stack:=λb M J z=>(Hs.mp (I.stkSub b z)).elim M J;have aA:s.heap.objs.size∉frs X.stack:=aI _ (IQ I.lt) (I.nofs (Hl _));refine⟨⟨I.ok.mod,O.kind,I.ok.glob,I.ok.blt,Hl _,?_,?_,λ_ _ z _=>(by cases z),I.ok.hd,I.ok.frames,.inl rfl,?_,?_,?_,?_,?_,?_,I.stkFree⟩,rfl,I.bare,Un.kept C,?_,?_,ae,?_,?_,I.hok.kept an,?_⟩
 .intro y z c M J;exact I.ok.inj y z c (O.cells I M) (O.cells I J)
 .intro y Q;have N:y∈fr.map (·.1):=by
   rcases Q with Q | Q
   .exact O.has (y,_) (Ju Q) (.inl rfl)
   .exact O.has (y,_) (Ju Q) (.inr rfl)
  exact⟨_,eG N⟩
 .intro b L;rcases Hs.mp L with rfl | L
  .exact⟨ap,λy c e=>HN (cne y c (O.cells I e))⟩
  .exact⟨al b (am b L),λy c e=>(a b L).2.2.2.2.1 y c (O.cells I e)⟩
 .intro b o e;exact⟨kp b o (I.bs b o e).1,(I.bs b o e).2⟩
 .show X.base.objs.size<=g.objs.size;rw[aa];exact Ln (Io I.ok.bsz I.sz)
 .intro b o e L;rcases Hs.mp L with z | L
  .have:=L9 (I.bs b o e).1
   rw[z]at this;exact Iz _ this
  .rcases(a b L).2.2.2.1 with z | z
   .exact I.ok.noex b o e z
   .exact NC (HY (L9 (I.ok.bs b o e).1) z) (Iz _)
 .intro b L;rcases Hs.mp L with z | L
  .rw[z];exact aA
  .exact aI b (a b L).2.1 (a b L).2.2.1
 .exact(I.kept (h':=g) (t':=s.toks) kp).stack
 .refine⟨_,hC,λi y v G E h=>?_⟩;have aL:(xs++fr.map (·.1))[i]?=some y:=G;by_cases f:i<xs.length
  .rw[Ho (by simpa using f)]at E
   rw[Jh,NA f]at E
   cases E
  .have ab:(fr.map (·.1))[i-xs.length]?=some y:=by
    rw[Hm ∅]at aL
    exact aL
   have ac:(frOf fr σ)[i-xs.length]?=some (some v):=by
    rw[Hm (by simp;omega)]at E
    simpa using E
   generalize i-xs.length=k at ab ac;unfold frOf at ac;rw[Hr]at ab ac
   cases q:fr[k]? with
   |none=>rw[q]at ab;cases ab
   |some p =>
    rw[q]at ab ac;have ey:p.1=y:=HM ab;have ev:(σ[p.2]?).join=some v:=HM ac;have B:p∈fr:=Hh q;obtain⟨hN,hK⟩:=O.slot p B;have aS:=O.frk p B;rw[ey]at hN hK aS;have a0:σ[p.2]?=some (some v):=by
     cases Y:σ[p.2]? with
     |none=>rw[Y]at ev;cases ev
     |some w=>rw[Y]at ev;exact congrArg some ev
    obtain⟨m,T,D⟩:=I.loc;obtain⟨u,r,l⟩:=D p.2 y v hN a0 (.inr (.inl hK));refine⟨u,r,?_⟩;rcases l with⟨j,_⟩ | ⟨_,c,ec,z⟩
    .rw[hK]at j;cases j
    .have N:y∈fr.map (·.1):=by rw[← ey];exact Ie.mpr ⟨p,B,rfl⟩
     have el:=eG (env:=X.env) N;rw[ec]at el;exact .inr ⟨.inl aS,c,el,by obtain⟨o,A,hd⟩:=z;exact⟨o,an _ _ A,hd⟩⟩
 .intro y c e;obtain⟨v,o,A,hd⟩:=I.cell y c (O.cells I e);exact⟨v,o,an _ _ A,hd⟩
 .intro y c e;exact I.freeC y c (O.cells I e)
 .intro p B;rcases Hx.mp B with B | B
  .cases B
  .rcases Hx.mp B with B | B
   .obtain⟨e,n,ne,nf,d⟩:=I.pin p B;exact⟨an _ _ e,n,al _ (L9 e),aI _ ne nf,d⟩
   .have x:p=(s.heap.objs.size,MU []):=by simpa using B
    subst x;exact⟨aT,aV,ap,aA,λv z=>by cases z⟩
 .show(nons xs++frOf fr σ).length=(xs++fr.map (·.1)).length;unfold frOf;simp
theorem qL{g:Heap}{s':Shared}{σ':St}(I:Inv X pins σ H s)(a:∀ b∈fp,FpOk X pins H b)(t:g=s.heap.push (MU []))
  (J:Inv (cxG X scope fr xs g.objs.size (s.heap.objs.size::fp) { s with heap:=g } H) (X.pn++pins++[(s.heap.objs.size,MU us)]) σ' H' s') (p:Vals ys us) (hl:ys.length<=LZ) :
  Inv X pins σ (upd H' s.heap.objs.size (.lst ys)) s'/\H' s.heap.objs.size=none/\FpOk X pins (upd H' s.heap.objs.size (.lst ys)) g.objs.size/\∃ m,s'.heap.Ns g.objs.size m:=by
 have j:g.objs.size=s.heap.objs.size+1:=by rw[t,My]
 have d:∀ b o,s.heap.get? b=some o->g.get? b=some o:=λb o e=>by rw[t];exact Mo _ e
 obtain⟨r,h,_,_,_⟩:=J.pin (s.heap.objs.size,MU us) (by simp)
 have k:g.objs.size≠s.heap.objs.size:=by rw[j];exact IQ (Ik _)
 have i:∀ b u,H' b=some u->b≠s.heap.objs.size:=λb u e z=>by rw[z]at e;rw[e]at h;cases h
 have O:∀ b o,s.heap.get? b=some o->b∉fp->b∉s.heap.objs.size::fp:=λb o e L z=>by
  rcases Hs.mp z with z | z
  .have:=L9 e
   rw[z]at this;exact Iz _ this
  .exact L z
 have l:Un (frs X.stack) (s.heap.objs.size::fp) H H' g s'.heap:=J.base;have x:∀ b o,s.heap.get? b=some o->b≠s.heap.objs.size:=λb o e=>HN (L9 e);have un:Un (frs X.stack) fp H (upd H' s.heap.objs.size (.lst ys)) s.heap s'.heap:=by
  refine⟨λb o e n L T=>l.keep b o (d b o e) n L (O b o e T),λb o e n L T=>l.slot b o (d b o e) n L (O b o e T),λb o e n T=>?_,λb o e T=>l.there b o (d b o e) (O b o e T),λb xs e=>?_,λb o u e=>?_,λb G e=>?_⟩
  .rw[aq (x b o e)];exact l.free b o (d b o e) n (O b o e T)
  .have q:=l.tups b xs e
   rw[aq (i b _ q)];exact q
  .have q:=l.frzs b o u e
   rw[aq (i b _ q)];exact q
  .obtain⟨f,q⟩:=l.tbls b G e;exact⟨f,by rw[aq (i b _ q)];exact q⟩
 have A:HOk X.prog X.w (upd H' s.heap.objs.size (.lst ys)) s'.heap:=λb u e=>by
  by_cases L:b=s.heap.objs.size
  .rw[L,ag]at e
   cases e
   rw[L];exact⟨hl,us,us.length,p,r⟩
  .rw[aq L]at e;exact(J.hok b u e).stay (λc v _ q=>q) (λc q=>by rw[aq (i c _ q)];exact q) λc xs q=>by rw[aq (i c _ q)];exact q
 have os:s'.os=s.os:=J.os;refine⟨I.call' os un A J.bare λb L=>⟨(a b L).2.2.2.1,(a b L).2.1,(a b L).2.2.2.2⟩,h,?_,?_⟩
 .refine I.fpOk (H':=upd H' s.heap.objs.size (.lst ys)) (b:=g.objs.size) (by rw[j];exact JB _) ?_
  rw[aq k];exact J.free
 .obtain⟨m,y,_⟩:=J.loc;exact⟨m,y⟩
end
def PTs(X:Cx)(j:List Expr)(t:TT):Prop :=
 ∀(B:List (Addr×Obj))(s:Shared)(Y:St)(H:Hp)(Q:Bool->Hp->Prop),Inv X B Y H s->t Y H Q ->
  wpAny (model X.prog X.w) X.A (forIn j true λc r=>if r=true then do let ok ← isTrue c X.env (eval c X.env);pure (ForInStep.yield ok) else pure (ForInStep.yield r)) (λb d=>∃ C,Inv X B Y C d/\Q b C) X.xe s
def tYes:TT:=λ_ H Q=>Q true H
theorem FL:PTs X [] tYes:=λ_ _ _ H _ I h=>wpAny_tests_nil ⟨H,I,h⟩
theorem ij{c:Expr}{t:TT}(h:PT X c t):PTs X [c] t:=λB s Y H Q I q=>wpAny_tests_one (h B s Y H Q I q)
section
variable{prog:Program}{w:World}{A:Around}{s:Shared}
theorem Cc{o a d:Expr}{j:List Expr}{it:Value}(I:Nat->Shared->Prop)
  (turn:∀ n s,I n s->wpAny (model prog w) A (pyNext it) (λr s₁=>match r with
   |none=>R (.ok .next) s₁
   |some v=>wpAny (model prog w) A (letOwnedTupleGo a it v) (λ_ s₀=>wpAny (model prog w) A (assign a env v) (λ_ s₂ =>
     wpAny (model prog w) A (forIn j true λc r=>if r=true then do let ok ← isTrue c env (eval c env);pure (ForInStep.yield ok) else pure (ForInStep.yield r)) (λok b=>if ok=true then wpAny (model prog w) A (eval o env) (λx i =>
      wpAny (model prog w) A (call (.builtin "list.append") [u,x]) (λ_ l=>∃ m,m<n/\I m l) (notedBy (model prog w) A env λe s'=>R (.error e) s') i) (notedBy (model prog w) A env λe s'=>R (.error e) s') b
      else ∃ m,m<n/\I m b) (notedBy (model prog w) A env λe s'=>R (.error e) s') s₂)
     (notedBy (model prog w) A env λe s'=>R (.error e) s') s₀) (notedBy (model prog w) A env λe s'=>R (.error e) s') s₁) (notedBy (model prog w) A env λe s'=>R (.error e) s') s)
  (n:Nat) (h:I n s):Mx (model prog w) A (.compLoop (.ListComp o [⟨a,d,j,0⟩] scope pos) 0 it u env) R s:=by
 refine codeAny_loop rfl I (λn s z=>?_) n h;show wpAny _ A ((compTurn (.ListComp o [⟨a,d,j,0⟩] scope pos) 0 it u env).onRaise (λx=>do noteFrame x env;theTreesLotGoes x)) _ _ s
 refine wpAny_noted ?_;rw[compTurn_list];refine Mj (wpAny_standAt (Mj (Mf (turn n s z) (λr s₁ k=>?_) λ_ _ M=>M)))
 cases r with
 |none=>exact Mn k
 |some v =>
  refine Mj (Mf k (λ_ s₀ p=>?_) λ_ _ M=>M);refine Mj (Mf p (λ_ s₂ f=>?_) λ_ _ M=>M);refine Mj (Mf f (λy b g=>?_) λ_ _ M=>M)
  cases y with
  |false=>exact Mn ⟨rfl,g⟩
  |true=>exact Mj (Mj (Mf g (λx i q=>Mj (Mf q (λ_ l t=>Mn (Mn ⟨rfl,t⟩)) λ_ _ M=>M)) λ_ _ M=>M))
end
def gU(g:TG)(h:TT)(A:TE)(n:Nat)(a:St)(J:It)(H1:Hp)(QQ:List V->Hp->Prop):Prop :=
 ∃ W:Nat->Nat->List V->Hp->Prop,(∃ m,W 0 m [] H1)/\∀ i m M H,W i m M H->M.length<=LZ /\
  ((J.stop i H/\QQ M H)∨(J.go i H/\∃ N:List V->Hp->Prop,(∀ o r,N o r->∃ G,G<m/\W (i+1) G o r) /\
   ∀ x C,J.yld i H x C->g x (Hw n none++a) C λc r=>c.drop n=a/\h c r λb q=>if b=true then A c q (λy f=>N (M++[y]) f) else N M q))
section
variable{X:Cx}{scope:Scope}{fr:List (Str×Nat)}{xs:List Str}{elt iter tg:Expr}{ifs:List Expr}{pos:Pos}{te:TE}{tt:TT}{tgt:TG}{wi:TI}
theorem pz{tn:Nat->Heap->Prop}{J:It}{RR:Value->Addr->Result->Shared->Prop}(f:X.calm=true)(O:mI X scope fr xs)
  (an:∀ C ex s H,PG (cxG X scope fr xs C ex s H) tg tgt) (k:∀ C ex s H,PTs (cxG X scope fr xs C ex s H) ifs tt) (l:∀ C ex s H,PE (cxG X scope fr xs C ex s H) elt te) (I:Inv X Y σ H s) (T:Turn X.prog X.w X.K tg J fp it tn) (st:tn 0 s.heap) (hf:∀ b∈fp,FpOk X Y H b) (a:gU tgt tt te xs.length (frOf fr σ) J H QQ)
  (ac:∀ D C H4 ys s4 m,Inv X Y σ (upd H4 D (.lst ys)) s4->H4 D=none->FpOk X Y (upd H4 D (.lst ys)) C->s4.heap.Ns C m->QQ ys H4->RR (.ref D) C (.ok .next) s4) :
  wpAny (model X.prog X.w) X.A (newList []) (λab al=>wpAny (model X.prog X.w) X.A (newFunctionEnv scope X.env.globals (clOf X.env fr) [] X.env.qual none .none (some X.env)) (λa6 aT =>
   Mx (model X.prog X.w) X.A (.compStart (.ListComp elt [⟨tg,iter,ifs,0⟩] scope pos) 0 (.ref it) ab { a6 with scope:=relabel scope X.env }) (RR ab a6.locals) aT) E al) E s:=by
 obtain⟨W,⟨m0,w0⟩,turn⟩:=a;have aV:∀ b∈fp,b<s.heap.objs.size:=λb L=>by
  obtain⟨o,e,_⟩:=T.obj 0 s.heap st b L;exact L9 e
 refine MV (wpAny_newFunctionEnv O.cell (by intro y x;simp at x) (λae aI aL=>?_) O.kind)
 dsimp only at aI aL ⊢;generalize bn:s.heap.push { cls:=.type "list",dict:=none,data:=.seq ([]:List Value).toArray }=g at aI aL ⊢;have hg:g=s.heap.push (MU []):=bn.symm;have hsz:g.objs.size=s.heap.objs.size+1:=by rw[hg,My]
 have j:∀ b o,g.get? b=some o->ae.get? b=some o:=λb o e=>aL.extBut b o (HN (L9 e)) (Mo _ e);have kp:∀ b o,s.heap.get? b=some o->ae.get? b=some o:=λb o e=>j b o (by rw[hg];exact Mo _ e)
 have J0:=Bh (h':=ae) (tk:=s.toks+([]:List (Str×Value)).length) O I hf aV hg j aI;have am:∀{H':Hp}{us:List Value},(∀ b∈fp,H' b=none)->∀ b∈fp,FpOk (cxG X scope fr xs g.objs.size (s.heap.objs.size::fp) { s with heap:=g } H) (X.pn++Y++[(s.heap.objs.size,MU us)]) H' b:=λ{H' us} hn b L=>by
  obtain⟨_,f1,f2,f3,f4,f5⟩:=hf b L;refine⟨hn b L,?_,λz=>(Hs.mp (I.stkSub b z)).elim f1 f2,.inl (Hq _ L),λy c e=>f4 y c (O.cells I e),λp B=>?_⟩
  .show b≠g.objs.size;rw[hsz];exact HN (IU (aV b L))
  .rcases Hx.mp B with B | B
   .cases B
   .rcases Hx.mp B with B | B
    .exact f5 p B
    .have ep:p=(s.heap.objs.size,MU us):=by simpa using B
     rw[ep];exact IQ (aV b L)
 have a7:Mx (model X.prog X.w) X.A (.compLoop (.ListComp elt [⟨tg,iter,ifs,0⟩] scope pos) 0 (.ref it) (.ref s.heap.objs.size) (compEnvC scope (clOf X.env fr) g.objs.size X.env))
   (RR (.ref s.heap.objs.size) g.objs.size) { s with heap:=ae,toks:=s.toks+([]:List (Str×Value)).length }:=by
  refine Cc (λn s'=>∃ i ys us H',Inv (cxG X scope fr xs g.objs.size (s.heap.objs.size::fp) { s with heap:=g } H) (X.pn++Y++[(s.heap.objs.size,MU us)]) (nons xs++frOf fr σ) H' s'/\Vals ys us/\tn i s'.heap/\(∀ b∈fp,H' b=none)/\W i n ys H') ?_ m0
   ⟨0,[],[],H,J0,.nil,T.keep 0 s.heap ae st λb _ o e=>kp b o e,λb L=>(hf b L).1,w0⟩
  rintro n s3 ⟨i,ys,us,H3,J3,hv,a0,a1,w3⟩;obtain⟨aa,hh⟩:=turn i n ys H3 w3;have none_err:∀{α:Type}{t:Sem α}{Q:α->Shared->Prop}{E':Value->Shared->Prop}{s:Shared},wpAny (model X.prog X.w) X.A t Q (λ_ _=>False) s->wpAny (model X.prog X.w) X.A t Q E' s:=λh=>Mf h (λ_ _ q=>q) λ_ _ z=>z.elim;have a2:∀{aA:St},aA.length=(nons xs++frOf fr σ).length->aA.drop xs.length=frOf fr σ->∀(i:Nat) v,(nons xs++frOf fr σ)[i]?=some (some v)->aA[i]?=some (some v):=λ{aA} a3 e6 i v e=>by
   by_cases d:i<xs.length
   .rw[Ho (by simpa using d),Jh,NA d]at e
    cases e
   .rw[Hm (by simp;omega),← e6,Li]at e
    have:xs.length+(i-(nons xs).length)=i:=by simp;omega
    rw[this]at e;exact e
  rcases hh with⟨stop,qn⟩ | ⟨go,N,hN,step⟩
  .refine none_err (thn (T.done (cxG X scope fr xs g.objs.size (s.heap.objs.size::fp) { s with heap:=g } H) rfl rfl rfl f i _ s3 _ H3 _ J3 (am a1) a0 stop) λr s4 ⟨G,J4⟩=>?_);subst G;obtain⟨I4,nD,fC,m,hn⟩:=qL I hf hg J4 hv aa;exact ac _ _ H3 ys s4 m I4 nD fC hn qn
  .refine none_err (thn (T.item (cxG X scope fr xs g.objs.size (s.heap.objs.size::fp) { s with heap:=g } H) rfl rfl rfl f i _ s3 _ H3 _ J3 (am a1) a0 go) λr s4 ⟨u,G,h4⟩=>?_);subst G;refine none_err (thn h4 λ_ s5 ⟨v,H5,J5,r5,y5,ap,ba⟩=>?_);have bp:=J5.pinned (am ba) (T.obj _ _ ap);refine none_err (thn (an _ _ _ _ _ s5 _ H5 v u _ bp r5 (step v H5 y5)) λ_ s6 ⟨aA,H6,J6,e6,q6⟩=>?_);refine none_err (thn (k _ _ _ _ _ s6 aA H6 _ J6 q6) λb bd ⟨a4,bb,a5⟩=>?_);have a3:aA.length=(nons xs++frOf fr σ).length:=J6.len.trans J3.len.symm
   cases b with
   |false =>
    rw[NB HG]at a5 ⊢;obtain⟨m',hm,w7⟩:=hN ys a4 a5;have aS:∀ b∈fp,∀ o,s5.heap.get? b=some o->bd.heap.get? b=some o/\a4 b=none:=λb L o e=>by
     obtain⟨M,q2,_⟩:=bb.pin (b,o) (HZ _ (HZ _ (i3 L e)));exact⟨M,q2⟩
    refine⟨m',hm,i+1,ys,us,a4,bb.unpinned.weak (σ':=nons xs++frOf fr σ) a3.symm (a2 a3 e6),hv,T.keep _ _ _ ap λb L o e=>(aS b L o e).1,λb L=>?_,w7⟩;obtain⟨o,e,_⟩:=T.obj _ _ ap b L;exact(aS b L o e).2
   |true =>
    rw[NA rfl]at a5 ⊢;refine none_err (thn (l _ _ _ _ _ bd _ a4 _ bb a5) λu7 s7 ⟨v7,H7,J7,r7,q7⟩=>?_);obtain⟨m',hm,w7⟩:=hN _ H7 q7;obtain⟨eD,nD,dC,dF,dd⟩:=J7.pin (s.heap.objs.size,MU us) (HZ _ (Iu _ (HZ _ (by simp))))
    have be:=hv.length;refine append_at (hsz:=by show us.toArray.size<=LZ;rw[HE,← be];exact aa) eD λh8 bi bq=>?_
    have bm:∀ p∈X.pn++Y,p.1≠s.heap.objs.size:=λp B z=>by
     have:=L9 (I.pin p B).1;rw[z]at this;exact Iz _ this
    have bv:Inv (cxG X scope fr xs g.objs.size (s.heap.objs.size::fp) { s with heap:=g } H) (X.pn++Y) _ H7 s7:=J7.pins_of λp B=>J7.pin p (HZ _ (Iu _ (Iu _ B)))
    have J8:Inv (cxG X scope fr xs g.objs.size (s.heap.objs.size::fp) { s with heap:=g } H) (X.pn++Y) _ H7 { s7 with heap:=h8 }:=bv.turned (t':=s7.toks) (λb o L e=>(bi.2 b L).trans e) nD dC (.inl Hu) (λy c e z=>by
     obtain⟨w',q⟩:=I.cell y c (O.cells I e);have:=q.lt;rw[z]at this
     exact Iz _ this) (λp B=>(Hx.mp B).elim (λz=>by cases z) (bm p))
    have J9:Inv (cxG X scope fr xs g.objs.size (s.heap.objs.size::fp) { s with heap:=g } H) (X.pn++Y++[(s.heap.objs.size,MU (us++[u7]))]) _ H7 { s7 with heap:=h8 }:=J8.pins_of λp B=>by
     rcases Hx.mp B with B | B
     .exact J8.pin p (HZ _ B)
     .have ep:p=(s.heap.objs.size,MU (us++[u7])):=by simpa using B
      subst ep;exact⟨bq.trans (congrArg some (LCg.lst_snoc us u7)),nD,dC,dF,λv z=>by cases z⟩
    have bB:=J9.weak (σ':=nons xs++frOf fr σ) a3.symm (a2 a3 e6);have aS:∀ b∈fp,∀ o,s5.heap.get? b=some o->s7.heap.get? b=some o/\H7 b=none:=λb L o e=>by
     obtain⟨M,q2,_⟩:=J7.pin (b,o) (HZ _ (HZ _ (i3 L e)));exact⟨M,q2⟩
    refine⟨m',hm,i+1,ys++[v7],us++[u7],H7,bB,hv.append (.cons r7 .nil),T.keep _ _ _ ap λb L o e=>(bi.2 b (HN (aV b L))).trans (aS b L o e).1,λb L=>?_,w7⟩;obtain⟨o,e,_⟩:=T.obj _ _ ap b L;exact(aS b L o e).2
 exact codeAny_compStart_list a7 (T.self X.A 0 _ _ _ (T.keep 0 s.heap ae st λb _ o e=>kp b o e) a7)
def EA(wi:TI)(g:TG)(tt:TT)(te:TE)(n:Nat)(fr:List (Str×Nat)):TE:=λY H Q=>wi Y H λJ O=>gU g tt te n (frOf fr Y) J O λM N=>∀ D,N D=none->Q (.ref D) (upd N D (.lst M))
theorem C9(f:X.calm=true)(O:mI X scope fr xs)(hi:PI X tg iter wi)(aa:∀ C ex s H,PG (cxG X scope fr xs C ex s H) tg tgt)(k:∀ C ex s H,PTs (cxG X scope fr xs C ex s H) ifs tt)(t:∀ C ex s H,PE (cxG X scope fr xs C ex s H) elt te)(l:∀ x,Ms iter X.env x=pure x:=by intro _;rfl) :
  PE X (.ListComp elt [⟨tg,iter,ifs,0⟩] scope pos) (EA wi tgt tt te xs.length fr):=by
 intro B s Y H Q I h;rw[eval_ListComp];refine wpAny_comprehension_free (use:=none) rfl l O.clos O.kind O.names (thn (hi B s Y H _ I h) λxv j M=>thn M λab v N=>?_);obtain⟨it,fp,tn,J,r,e,p,T,z,y,n⟩:=N;subst e;refine pz (RR:=λu C=>compPost (model X.prog X.w) X.A X.xe none (EP X B Y Q) u C) f O aa k t p T z y n ?_;intro D C a d G m I4 nD fC g q4;refine⟨m,g,λc ac=>?_⟩;obtain⟨g0,q,E,i,g4,g5⟩:=fC;exact⟨.ref D,_,I4.turned (t':=G.toks) (λb o L e=>(ac.2 b L).trans e) g0 q i g4 g5,rfl,q4 D nD⟩
def rN(i:Nat)(wi:TI)(g:TG)(tt:TT)(te:TE)(n:Nat)(fr:List (Str×Nat)):TS:=λD Y H=>wi Y H λJ O=>gU g tt te n (frOf fr Y) J O λM N=>∀ a,N a=none->D.nx (Y.set i (some (.ref a))) (upd N a (.lst M))
theorem uP{y:Str}{py al:Pos}(f:X.calm=true)(hN:X.N.Nodup)(ab:X.N[i]?=some y)(g:X.env.scope.names.lookup y=some .local)(O:mI X scope fr xs)(hi:PI X tg iter wi)(ae:∀ C ex s H,PG (cxG X scope fr xs C ex s H) tg tgt)(k:∀ C ex s H,PTs (cxG X scope fr xs C ex s H) ifs tt)(t:∀ C ex s H,PE (cxG X scope fr xs C ex s H) elt te)
  (ap:swapsWith (.ListComp elt [⟨tg,iter,ifs,0⟩] scope pos) (some (.Name y py)) al.line X.env=pure true:=by rfl) (G:∀ x,Ms iter X.env x=pure x:=by intro _;rfl) :
  PS X (.Assign [.Name y py] (.ListComp elt [⟨tg,iter,ifs,0⟩] scope pos) al) (rN i wi tgt tt te xs.length fr):=by
 intro B s Y H D I h;rw[exec_Assign_Name_used _ _ _ _ ap];refine Mj (wpAny_standAt (Mj ?_));show wpAny _ X.A (do let _ ← comprehension (.ListComp elt [⟨tg,iter,ifs,0⟩] scope pos) scope X.env _ (newList []) false (eval iter X.env) (some (assign (.Name y py) X.env))) _ _ s
 refine Mj (thn (wpAny_comprehension_free (use:=some (assign (.Name y py) X.env)) (Q:=λ_ s'=>SP X B D .next s') rfl G O.clos O.kind O.names (thn (hi B s Y H _ I h) λxv j M=>thn M λam q c=>?_)) λ_ s' n=>Mn (Mn n));obtain⟨it,fp,tn,J,r,e,I2,T,ac,f2,q2⟩:=c;subst e;refine pz (RR:=λaa C=>compPost (model X.prog X.w) X.A X.xe (some (assign (.Name y py) X.env)) (λ_ s'=>SP X B D .next s') aa C) f O ae k t I2 T ac f2 q2 ?_;intro a C H4 d s4 m I4 nD fC u q4;obtain⟨g0,g1,g2,g3,g4,g5⟩:=fC;obtain⟨oC,eC,aA⟩:=LCg.ns_obj u;have I5:Inv X (B++[(C,oC)]) Y (upd H4 a (.lst d)) s4:=I4.pins_of λp l=>by
  rcases Hx.mp l with l | l
  .exact I4.pin p (HZ _ l)
  .have ep:p=(C,oC):=by simpa using l
   subst ep;obtain⟨E,aI,hd,_⟩:=aA;exact⟨eC,g0,g1,g2,λv z=>by rw[hd]at z;cases z⟩
 show wpAny _ X.A (assign (.Name y py) X.env (.ref a)) _ _ _;refine wpAny_assign_Name (mK I5 hN ab (.inl g) (v:=.ref a) rfl (λs6 I6=>?_) (.inr g));obtain⟨e6,_⟩:=I6.pin (C,oC) (HZ _ (HZ _ (by simp)))
 refine⟨m,aA.ns e6,λh' an=>?_⟩;exact⟨_,_,I6.unpinned.turned (t':=s6.toks) (λb o L e=>(an.2 b L).trans e) g0 g1 g3 g4 g5,q4 a nD⟩
end
theorem cx{g:TG}{h:TT}{A:TE}(Pv:Nat->List V->Hp->Prop)(hz:xs.length<=LZ)(E:Pv 0 [] H1)(hl:∀ i ys H,i<=xs.length->Pv i ys H->SqL K H a xs)
  (l:∀ i x ys H,xs[i]?=some x->Pv i ys H->g x (Hw n none++σ) H λc H2=>c.drop n=σ/\h c H2 λb H3=>if b=true then A c H3 (λy f=>Pv (i+1) (ys++[y]) f) else Pv (i+1) ys H3) (hd:∀ ys H,Pv xs.length ys H->QQ ys H) (G:∀ i ys H,Pv i ys H->ys.length<=i)
  : gU g h A n σ (Itl K a) H1 QQ:=by
 refine⟨λi m ys H=>m=xs.length-i/\i<=xs.length/\Pv i ys H,⟨xs.length,by simp,Ia _,E⟩,?_⟩
 rintro i m ys H ⟨rfl,d,p⟩;have q:=hl i ys H d p;have j:=G i ys H p;refine⟨∅,?_⟩
 by_cases L:i<xs.length
 .refine .inr ⟨⟨xs,xs[i],q,by simp[L]⟩,λo H2=>Pv (i+1) o H2,λo H2 I=>⟨xs.length-(i+1),∅,rfl,L,I⟩,λx C y=>?_⟩
  obtain⟨e,y⟩:=y;subst e;exact l i x ys _ (y xs q) p
 .have e:i=xs.length:=by omega
  subst e;exact .inl ⟨⟨xs,q,Hl _⟩,hd ys H p⟩
theorem jZ{lo:Int}{k:Nat}{g:TG}{h:TT}{A:TE}(Pv:Nat->List V->Hp->Prop)(hz:k<=LZ)(E:Pv 0 [] H1)
  (l:∀ i ys H,i<k->Pv i ys H->g (.int (lo+i)) (Hw n none++σ) H λc H2=>c.drop n=σ/\h c H2 λb H3=>if b=true then A c H3 (λy f=>Pv (i+1) (ys++[y]) f) else Pv (i+1) ys H3) (hd:∀ ys H,Pv k ys H->QQ ys H) (G:∀ i ys H,Pv i ys H->ys.length<=i)
  : gU g h A n σ (Itr lo k) H1 QQ:=by
 refine⟨λi m ys H=>m=k-i/\i<=k/\Pv i ys H,⟨k,by simp,Ia _,E⟩,?_⟩
 rintro i m ys H ⟨rfl,d,p⟩;have j:=G i ys H p;refine⟨∅,?_⟩
 by_cases L:i<k
 .refine .inr ⟨L,λo H2=>Pv (i+1) o H2,λo H2 I=>⟨k-(i+1),∅,rfl,L,I⟩,λx C y=>?_⟩
  obtain⟨e,y⟩:=y;subst e y;exact l i ys _ L p
 .have e:i=k:=by omega
  subst e;exact .inl ⟨Hl _,hd ys H p⟩
theorem fO{g:TG}{h:TT}{A:TE}(Pv:Nat->List V->Hp->Prop)(hz:xs.length<=LZ)(E:Pv 0 [] H1)(hl:∀ i ys H,i<=xs.length->Pv i ys H->SqL K H a xs)
  (l:∀ i x ys H T,xs[i]?=some x->Pv i ys H->H T=none->g (.ref T) (Hw n none++σ) (upd H T (.tup [.int (i:Int),x])) λc H2=>c.drop n=σ/\h c H2 λb H3=>if b=true then A c H3 (λy f=>Pv (i+1) (ys++[y]) f) else Pv (i+1) ys H3) (hd:∀ ys H,Pv xs.length ys H->QQ ys H) (G:∀ i ys H,Pv i ys H->ys.length<=i)
  : gU g h A n σ (Ite K a) H1 QQ:=by
 refine⟨λi m ys H=>m=xs.length-i/\i<=xs.length/\Pv i ys H,⟨xs.length,by simp,Ia _,E⟩,?_⟩
 rintro i m ys H ⟨rfl,d,p⟩;have q:=hl i ys H d p;have j:=G i ys H p;refine⟨∅,?_⟩
 by_cases L:i<xs.length
 .refine .inr ⟨⟨xs,xs[i],q,by simp[L]⟩,λo H2=>Pv (i+1) o H2,λo H2 I=>⟨xs.length-(i+1),∅,rfl,L,I⟩,λv C y=>?_⟩
  obtain⟨T,x,O,rfl,rfl,y⟩:=y;exact l i x ys _ T (y xs q) p O
 .have e:i=xs.length:=by omega
  subst e;exact .inl ⟨⟨xs,q,Hl _⟩,hd ys H p⟩
theorem DI(h:X.K=K):IxR X (rIxL K):=h▸Bb
theorem Gv(h:X.K=K):IxR X (rIxT K):=h▸EX
theorem dH{es:List Expr}{k:Nat}{t:TGs}(y:X.K=K)(f:X.calm=true)(h:PGs X es t)(g:(Mi es X.env).length=n:=by rfl)(c:(Mi es X.env).findIdx? (·.1)=none:=by rfl):PG X (.Tuple es k pos) (gTup K n t):=y▸nL f h g c
theorem pB(h:X.K=K):fH X (.type "list") (λxs H Q=>∃ p ys,xs = [.ref p]/\(SqL K H p ys∨SqT K H p ys)/\∀ l,H l=none->Q (.ref l) (upd H l (.lst ys))):=h▸cQ
theorem u9{e:Expr}{f:Str}{c:TE}(h:X.K=K)(T:PE X e c)(L:attributeBase e f X.env (eval e X.env)=eval e X.env):PE X (.Attribute e f pos) (tFld K c f):=h▸bM T L
inductive FF(x:L2.V)(vs:List V)(H:L2.Hp)(Q:L2.VK):Prop
 |mk (l xs k y:_) (h0_:x=.ref l)(h1_:vs = [.int k,y])(h2_:H l=some (.lst xs))(h3_:0<=k)(h4_:k<=xs.length)(h5_:xs.length<LZ)(h6_:Q .non (upd H l (.lst (xs.take k.toNat++y::xs.drop k.toNat))))
theorem nP:MtM X "list.insert" FF:=by
 intro B s Y H x d v L Q I a rv h;obtain⟨l,N,k,y,rfl,rfl,M,E,C,A,q⟩:=h
 cases a
 obtain⟨T,b,rfl,w,c⟩:=rv.two;obtain⟨t,rfl⟩:=w;obtain⟨z,O,n,r,D,e⟩:=I.lstM M;have g:=o8;have f:¬ (!Builtin.List.listFitsIndex k)=true:=by
  rw[fitsIndex_both ∅ ∅]
  exact HG
 refine call_meets F.slot_list_insert ⟨_,e,rfl⟩ F.entry_list_insert (F.args_list_insert_3 _ _ _) (AutoListH.list_insert_list_int_val_1 l O.toArray n k t b f (by rw[HE];omega)) ⟨e,?_⟩
 refine⟨.non,_,I.lset (its':=O.take k.toNat++b::O.drop k.toNat) M e ?_ ((r.take _).append (.cons c (r.drop _))) ?_,rfl,q⟩
 .dsimp only;rw[NB ∅,HE,J1 ∅]
  simp;exact IX (by rw[ID];omega)
 .rw[Hk,HD,HW,ID];omega
theorem kL:∀{ns:List Int}{us:List Value},Vals (ns.map V.int) us->MI us ns
 |[],_,.nil=>.nil
 |n::ns,_,.cons r y=>by
  obtain⟨t,rfl⟩:=r;exact .cons n t (kL y)
theorem fx(f:X.calm=true):fH X (.builtin "sum") (λxs H Q=>∃(p:Addr)(ns:List Int),xs = [.ref p]/\SqL X.K H p (ns.map V.int)/\Q (.int ns.sum) H):=by
 intro B s Y H xs L Q I r h;obtain⟨p,ns,rfl,n,q⟩:=h;obtain⟨u,rfl,E⟩:=g9 r
 cases E
 obtain⟨O,rv,m,A⟩:=I.list n;have d:=kL rv;obtain⟨o,e⟩:=d.allInts.items;have G:(numsOf O)=ns:=d.numsOf;have D:s.heap.IsList p (intItems o):=by rw[← e];exact m.isList
 refine sum_intListG (I.ok.hd f) D λM l t' C=>⟨.int ns.sum,H,I.kept (t':=l) C,⟨t',?_⟩,q⟩;have J:numsOf (intItems o).toList=ns:=by rw[← e];exact G
 rw[nums_intItems]at J;rw[preSum_eq,IX (by simp),← J]
theorem nj:∀{ps:List Nat},(∀ p∈ps,p<1000)->PyData.weightAll ((ps.map λ(p:Nat)=>((p:Nat):Int)).map PyData.int)<=12*ps.length
 |[],_=>by simp[PyData.weightAll]
 |p::ps,h=>by
  have Y:=nj (ps:=ps) λx O=>h x (Hq _ O);have B:=h p (by simp)
  have C:PyData.weight (.int (p:Int))<=11:=by
   rw[PyData.weight];split
   .exact Ia _
   .rename_i z;have c:p≠0:=λe=>z (by rw[e];rfl)
    have e:((p:Int)).natAbs=p:=rfl;rw[e];have:=(Nat.log2_lt c).mpr (show p<2^10 by omega)
    omega
  rw[HR,HR,PyData.weightAll,HD];omega
theorem DG(h:∀ p∈ps,p<1000)(hl:ps.length<=1000):PyData.layable0 (.list ((ps.map λ(p:Nat)=>((p:Nat):Int)).map PyData.int))=true:=by
 have M:=PySem.W.shaped_ints (ps.map λ(p:Nat)=>((p:Nat):Int));have J:=nj h;have f:PyData.weight (.list ((ps.map λ(p:Nat)=>((p:Nat):Int)).map PyData.int))<=2^20:=by
  rw[PyData.weight];ac_rfl
 unfold PyData.layable0;unfold SeqAt.shaped at M;rw[M,MJ f];rfl
inductive rIndex(K:Hj)(x:L2.V)(vs:List V)(H:L2.Hp)(Q:L2.VK):Prop
 |mk (l:Addr)(ps:List Nat)(k:Nat) (h0_:x=.ref l)(h1_:vs = [.int (k:Int)])(h2_:SqL K H l (ps.map λ(p:Nat)=>V.int (p:Int)))(h3_:(∀ p∈ps,p<1000))(h4_:ps.length<=1000)(h5_:k∈ps)(h6_:Q (.int ((ps.idxOf k:Nat):Int)) H)
theorem DK{k:Nat}:(ps.map λ(p:Nat)=>((p:Nat):Int)).idxOf (k:Int)=ps.idxOf k:=by
 induction ps with
 |nil=>rfl
 |cons p ps Y =>
  rw[HR,List.idxOf_cons,List.idxOf_cons,Y];have e:(((p:Nat):Int) == (k:Int))=(p == k):=by
   by_cases h:p=k
   .subst h;simp
   .have J:¬ (p:Int)=(k:Int):=λz=>h ∅
    rw[beq_eq_false_iff_ne.mpr h,beq_eq_false_iff_ne.mpr J]
  rw[e]
theorem mS:MtM X "list.index" (rIndex X.K):=by
 intro B s Y H x d v L Q I z rv h;obtain⟨l,G,k,rfl,rfl,n,y,D,C,q⟩:=h
 cases z
 obtain⟨u,rfl,E⟩:=rv.one;obtain⟨t,rfl⟩:=E;have e:(G.map λ(p:Nat)=>V.int (p:Int))=(G.map λ(p:Nat)=>((p:Nat):Int)).map V.int:=by rw[JN];rfl
 rw[e]at n;obtain⟨O,r,m,A⟩:=I.list n;refine index_list_ints m.isList (kL r) (DG y D) (Ie.mpr ⟨k,C,rfl⟩) ?_;rw[DK];exact⟨.int _,H,I.tok _,⟨_,rfl⟩,q⟩
theorem op_eqG(T:X.A.units+64<cLine):OpR X (Mg .Eq) (λx y H Q=>∃ E O,RdD X.K H x E/\RdD X.K H y O/\SeqAt.shaped E=true/\SeqAt.shaped O=true/\Q (.bl (PyData.eqv E O)) H):=by
 intro B s Y H x y v u Q I k c h;obtain⟨E,O,w,g,M,J,q⟩:=h;obtain⟨as,C⟩:=w.reads I v k;obtain⟨bs,n⟩:=g.reads I u c;exact eq_dataH C n M J T ⟨.bl _,H,I,rfl,q⟩
theorem uv:∀{us:List Value}{ns:List Int},MI us ns->Vals (ns.map V.int) us
 |_,_,.nil=>.nil
 |_,_,.cons _ t r=>.cons ⟨t,rfl⟩ (uv r)
inductive Av(K:Hj)(xs:List V)(H:L2.Hp)(Q:L2.VK):Prop
 |mk (p:Addr)(ns:List Int) (h0_:xs = [.ref p])(h1_:SqL K H p (ns.map V.int))(h2_:ns.length<64)(h3_:∀(l:Addr)(out:List Int),H l=none->out.Perm ns->out.Pairwise (·<=·)->Q (.ref l) (upd H l (.lst (out.map V.int))))
theorem w6:fH X (.builtin "sorted") (Av X.K):=by
 intro B s Y H N L Q I r h;obtain⟨p,b,rfl,n,c,q⟩:=h;obtain⟨u,rfl,E⟩:=g9 r
 cases E
 obtain⟨O,rv,m,A⟩:=I.list n;have d:=kL rv;have D:=rv.length;rw[Hi]at D;refine sorted_ints m.isList d ∅ λa g J f x=>?_
 obtain⟨e,T⟩:=sortedAll_at s.heap O a;refine⟨.ref (s.heap.objs.size+1),_,I.laid (t':=s.toks) (λ_ _=>sortedAll_old) (JB _) (show bG X.prog X.w _ _ _ (.lst (g.map V.int)) from⟨?_,a.toList,e,uv J,?_⟩),rfl,q _ g (I.hok.fresh (JB _)) f x⟩
 .rw[Hi,f.length_eq];exact HJ (aw ∅)
 .exact T
theorem ua(h:X.K=K):fH X (.builtin "sorted") (Av K):=h▸w6
theorem wY{lo c:Int}{A:TE}(Pv:Nat->List V->Hp->Prop)(hz:n<=LZ)(E:Pv 0 [] H1)
  (l:∀ i ys H,i<n->Pv i ys H->A (some (.int (lo+i*c))::σ) H λy H2=>Pv (i+1) (ys++[y]) H2) (hd:∀ ys H,ys.length=n->Pv n ys H->QQ ys H)
  : rM A σ (Itr3 lo c n) H1 QQ:=by
 refine⟨λi m ys H=>m=n-i/\i<=n/\ys.length=i/\Pv i ys H,⟨n,by simp,Ia _,rfl,E⟩,?_⟩
 rintro i m ys H ⟨rfl,d,G,p⟩;refine⟨∅,?_⟩
 by_cases L:i<n
 .refine .inr ⟨L,λy H2=>Pv (i+1) (ys++[y]) H2,λy H2 I=>⟨n-(i+1),∅,rfl,L,by rw[Hk,G];rfl,I⟩,λx C y=>?_⟩
  obtain⟨e,y⟩:=y;subst e y;exact l i ys _ L p
 .have e:i=n:=by omega
  subst e;exact .inl ⟨Hl _,hd ys H G p⟩
section
variable{X:Cx}{tg:Expr}
def iRngL(T:TA):TI:=λY H R=>T Y H λl O=>∃(lo m c:Int)(n:Nat),l = [.int lo,.int m,.int c]/\0<=lo/\lo<1000/\-1000<m/\m<2^61/\(0<c/\c<1000)/\Mq lo m c=(n:Int)/\R (Itr3 lo c n) O
theorem CN{lo m c:Int}(E:0<=lo)(b:lo<1000)(M : -1000<m)(h2:m<2^61)(f:0<c/\c<1000):Builtin.Range.small lo m c=true:=by
 obtain⟨f,a⟩:=f;have l:0<=Mq lo m c/\Mq lo m c<=2^61:=by
  unfold Mq;rw[NA f];by_cases h:lo<m
  .rw[NA h];have C:0<=(m-lo-1)/c:=Int.ediv_nonneg ∅ ∅
   have n:(m-lo-1)/c<=(m-lo-1):=Int.ediv_le_self _ ∅
   omega
  .rw[NB h];omega
 unfold Builtin.Range.small Builtin.Range.rangeFitsLong;simp only[gt_iff_lt,f,if_true];simp;omega
theorem AA{a b c:Expr}{T:TA}{p:Pos} (v:Gl X "range") (N:X.mg "range" = none) (A:PA X [a,b,c] T) (l:Me [a,b,c] X.env=(false,eval a X.env)::Me [b,c] X.env:=by rfl) (k:(backTo pos (Me [b,c] X.env)).any (·.1)=false:=by rfl) :
  PI X tg (.Call (.Name "range" p) [a,b,c] [] pos) (iRngL T):=by
 intro B s Y H R I h;refine Call_ (jt I v N Eo (Mr (thn (A pos B s Y H _ I h) λz j ⟨d,O,i,w,C⟩=>?_) l k));obtain⟨lo,m,c,n,e,x,aa,M,J,f,g,q⟩:=C;subst e
 cases w with
 |cons r y =>
  cases y with
  |cons Q y =>
   cases y with
   |cons ab y =>
    cases y
    obtain⟨t,rfl⟩:=r;obtain⟨t',rfl⟩:=Q;obtain⟨u,rfl⟩:=ab;refine call_range_3 (by have:=f.1;omega) ?_ (Or.inl (PyProof.noPylong_small (by have:=f.1;have:=f.2;omega)))
    refine wpAny_pyIter_range (IsRange.new ..) (CN x aa M J f) ?_;have D:Inv X B Y O { j with heap:=j.heap.push { cls:=.type "range",data:=.fields #[.int lo t,.int m t',.int c u] },toks:=j.toks }:=i.kept λb o e=>Mo _ e
    refine⟨(j.heap.push { cls:=.type "range",data:=.fields #[.int lo t,.int m t',.int c u] }).objs.size,[(j.heap.push { cls:=.type "range",data:=.fields #[.int lo t,.int m t',.int c u] }).objs.size],_,_,O,rfl,
     D.kept (t':=j.toks) λb o e=>Mo _ e,uw _ lo c n,?_,λb L=>?_,q⟩
    .have G:lo+((0:Nat):Int)*c=lo:=by simp
     have E:((n:Nat):Int)-((0:Nat):Int)=Mq lo m c:=by rw[g];simp
     show IsRangeIter _ _ (lo+((0:Nat):Int)*c) ((n:Int)-((0:Nat):Int)) c;rw[G,E];exact Mp _ rfl
    .have e:b=(j.heap.push { cls:=.type "range",data:=.fields #[.int lo t,.int m t',.int c u] }).objs.size:=by simpa using L
     subst e;exact D.fpOk (Hl _) (D.hok.fresh (Hl _))
end
theorem ub:Mb "min" = some (.builtin "min"):=by decide
theorem E5:Mb "max" = some (.builtin "max"):=by decide
inductive rCatS(K:Hj)(x:L2.V)(y:L2.V)(H:L2.Hp)(Q:L2.VK):Prop
 |mk (l b xs zs:_) (h0_:x=.ref l)(h1_:y=.ref b)(h2_:SqL K H l xs)(h3_:SqL K H b zs)(h4_:xs.length+zs.length<=LZ)(h5_:∀ p,H p=none->Q (.ref p) (upd H p (.lst (xs++zs))))
theorem nN:OpR X (Mt .Add) (rCatS X.K):=by
 intro B s Y H x y v u Q I k c h;obtain⟨l,b,D,o,rfl,rfl,M,p,A,q⟩:=h
 cases k
 cases c
 obtain⟨O,r,m,_⟩:=I.list M;obtain⟨a,g,e,_⟩:=I.list p;obtain⟨⟨cls,L,N,j⟩,T,f,n,hd⟩:=m.isList;obtain⟨⟨aa,t,data2,w⟩,i,d,C,z⟩:=e.isList;simp only at f hd d z;subst f hd d z;have J:O.toArray++a.toArray=(O++a).toArray:=by simp
 have G:=r.length;have E:=g.length;refine concat_meets ⟨_,T,rfl⟩ ⟨_,i,rfl⟩ noFill_list_add seq_list_add PySem.F.slot_list_add PySem.F.entry_list_add (PySem.F.args_list_add_2 _ _) (list_addW l b O.toArray a.toArray n C L t j w (by rw[HE,HE];omega)) ⟨T,i,?_⟩
 rw[J];exact⟨.ref _,_,I.lnew (t':=s.toks) (r.append g) (by rw[Hk];omega),rfl,q _ I.fresh⟩
theorem mR:∀{ns:List Int}{us:List Value},Vals (ns.map V.int) us->MI us ns
 |[],_,.nil=>.nil
 |n::ns,_,.cons r y=>by
  obtain⟨t,rfl⟩:=r;exact .cons n t (mR y)
theorem lx:Mb "sum" = some (.builtin "sum"):=by decide
theorem yesT{A B:Hp->Prop}(h:A H):tYes σ H λb H3=>if b=true then A H3 else B H3 :=
 show(if true=true then A H else B H) from iteT (B:=B H) h
theorem bt_zip:Mb "zip" = some (.type "zip"):=by decide
def Itz(K:Hj)(a b:Addr):It :=
 ⟨λi H=>∃ D M x y,SqL K H a D/\SqL K H b M/\D[i]?=some x/\M[i]?=some y,
  λi H v C=>∃ T x y,H T=none/\v=.ref T/\C=upd H T (.tup [x,y])/\(∀ D,SqL K H a D->D[i]?=some x)/\∀ M,SqL K H b M->M[i]?=some y,
  λi H=>∃ D M,SqL K H a D/\SqL K H b M/\(D.length<=i∨M.length<=i)⟩
theorem CH{es:List Expr}{k:Nat}(a b z TI TO i1 i2:Addr)(D:ZipApart z TI TO i1 i2 a b):Turn P w K (.Tuple es k pos) (Itz K a b) [z,TI,TO,i1,i2] z
  (λi h=>IsZip h z TI TO .none/\IsPair h TI (.ref i1) (.ref i2)/\(∃ u v,IsPair h TO u v)/\h.IsListIter i1 a i/\h.IsListIter i2 b i) where
 mem:=by simp
 obj:=λi h st c f=>by
  obtain⟨kz,kI,⟨u,v,kO⟩,⟨o1,r,c1,d1⟩,⟨o2,A,c2,d2⟩⟩:=st;simp only[Hs,Jl,or_false]at f;rcases f with rfl | rfl | rfl | rfl | rfl
  .exact⟨_,kz,λv z=>by have z':Data.fields _=Data.cell v:=z;cases z'⟩
  .exact⟨_,kI,λv z=>by have z':Data.seq _ _=Data.cell v:=z;cases z'⟩
  .exact⟨_,kO,λv z=>by have z':Data.seq _ _=Data.cell v:=z;cases z'⟩
  .exact⟨o1,r,λv z=>by rw[d1]at z;cases z⟩
  .exact⟨o2,A,λv z=>by rw[d2]at z;cases z⟩
 keep:=λi h h' st j=>by
  obtain⟨kz,kI,⟨u,v,kO⟩,k1,k2⟩:=st;exact⟨j _ (by simp) _ kz,j _ (by simp) _ kI,⟨u,v,j _ (by simp) _ kO⟩,k1.at λo q=>j i1 (by simp) o q,k2.at λo q=>j i2 (by simp) o q⟩
 item:=by
  intro X hP hw hK f i B s Y H E I hf st m;subst hP hw hK;obtain⟨N,M,x,y,n,G,O,Q⟩:=m;obtain⟨g,rv,p,hz⟩:=I.list n;obtain⟨aa,am,p2,an⟩:=I.list G;obtain⟨u,t,ru⟩:=rv.get O;obtain⟨u2,aI,aA⟩:=am.get Q;obtain⟨kz,kI,⟨o1,o2,kO⟩,k1,k2⟩:=st;refine wpAny_pyNext_zip_item D kz kI kO k1 k2 p.isList p2.isList (x:=u) (y:=u2) (by simpa using t) (by simpa using aI) λh' d a2 a3 a4 a5 a6 C=>?_
  refine⟨_,rfl,?_⟩;refine wpAny_letOwnedTupleGo_zip d λJ g1 ac=>?_;have ab:Md z h' J:=ac;have lz:z<s.heap.objs.size:=L9 kz;have lI:TI<s.heap.objs.size:=L9 kI;have lO:TO<s.heap.objs.size:=L9 kO;have l1:i1<s.heap.objs.size:=by obtain⟨_,q,_⟩:=k1;exact L9 q
  have l2:i2<s.heap.objs.size:=by obtain⟨_,q,_⟩:=k2;exact L9 q
  have al:H s.heap.objs.size=none:=I.hok.fresh (Hl _);have I0:Inv X B Y (upd H s.heap.objs.size (.tup [x,y])) { s with heap:=s.heap.push { cls:=.type "tuple",data:=.seq #[u,u2] },toks:=s.toks } :=
   I.laid (t':=s.toks) (λb u e=>Mo _ e) (Hl _) ⟨by show 2<=LZ;decide,[u,u2],.cons ru (.cons aA .nil),⟨_,Mp _ rfl,rfl,_,rfl⟩⟩
  have ap:∀ c∈[z,TI,TO,i1,i2],c<s.heap.objs.size:=λc f=>by
   simp only[Hs,Jl,or_false]at f;rcases f with rfl | rfl | rfl | rfl | rfl<;>assumption
  have T:∀ c∈[z,TI,TO,i1,i2],upd H s.heap.objs.size (.tup [x,y]) c=none:=λc f=>by
   rw[aq (HN (ap c f))];exact(hf c f).1
  have I2:Inv X B Y (upd H s.heap.objs.size (.tup [x,y])) { s with heap:=J,toks:=s.toks }:=Inv.turnedL (s:={ s with heap:=s.heap.push { cls:=.type "tuple",data:=.seq #[u,u2] },toks:=s.toks }) (h':=J) I0 (t':=s.toks) (fp:=[z,TI,TO,i1,i2]) (λc o f q=>by
   have n1:c≠z:=λe=>f (by simp[e])
   have n3:c≠TO:=λe=>f (by simp[e])
   have n4:c≠i1:=λe=>f (by simp[e])
   have n5:c≠i2:=λe=>f (by simp[e])
   refine(ab.2 c n1).trans ?_;rcases Heap.get?_push_cases q with⟨z1,z2⟩ | q
   .rw[z1,z2];exact a5
   .exact C c o n1 n3 n4 n5 q) λc f=>⟨T c f,(hf c f).2⟩
  refine⟨.ref s.heap.objs.size,_,I2,rfl,⟨s.heap.objs.size,x,y,al,rfl,rfl,λl h=>by rw[I.list_inj h n];exact O,λl h=>by rw[I.list_inj h G];exact Q⟩,?_,T⟩
  refine⟨g1,(ab.2 TI D.TIz).trans (C _ _ D.TIz D.TITO D.TIi1 D.TIi2 kI),⟨_,_,(ab.2 TO D.TOz).trans a2⟩,a3.at λo q=>(ab.2 i1 D.i1z).trans q,a4.at λo q=>(ab.2 i2 D.i2z).trans q⟩
 done:=by
  intro X hP hw hK f i B s Y H E I hf st m;subst hP hw hK;obtain⟨N,M,n,G,O⟩:=m;obtain⟨g,rv,p,hz⟩:=I.list n;obtain⟨aa,am,p2,an⟩:=I.list G;obtain⟨kz,kI,⟨o1,o2,kO⟩,k1,k2⟩:=st;have L:=rv.length;have ae:=am.length;refine wpAny_pyNext_zip_end (I.ok.hd f) D kz kI kO k1 k2 p.isList p2.isList ?_ λh' eb=>⟨rfl,Inv.turnedL I (t':=s.toks) (λc o f e=>eb c o (λe=>f (by simp[e])) (λe=>f (by simp[e])) (λe=>f (by simp[e])) (λe=>f (by simp[e])) e) hf⟩
  rcases O with O | O
  .exact .inl (by simp;omega)
  .exact .inr (by simp;omega)
 self:=λ_ _ _ _ _ st h=>wpAny_pyIter_zip st.1 h
theorem de(x y:Nat)(h:¬ x=y):@Ne Addr x y:=h
theorem zI(n a b:Nat)(A:a<n)(L:b<n):ZipApart (n+4) (n+2) (n+3) n (n+1) a b :=
 ⟨de _ _ ∅,de _ _ ∅,de _ _ ∅,de _ _ ∅,de _ _ ∅,de _ _ ∅,de _ _ ∅,de _ _ ∅,de _ _ ∅,
  de _ _ ∅,de _ _ ∅,de _ _ ∅,de _ _ ∅,de _ _ ∅,de _ _ ∅,de _ _ ∅,de _ _ ∅,de _ _ ∅⟩
def iZip(K:Hj)(T:TA):TI:=λY H R=>T Y H λl O=>∃ a b,l = [.ref a,.ref b]/\(∃ D,SqL K O a D)/\(∃ M,SqL K O b M)/\R (Itz K a b) O
theorem Az{l1 Q:Expr}{T:TA}{es:List Expr}{k:Nat}{tp p:Pos} (m:Gl X "zip") (N:X.mg "zip" = none) (A:PA X [l1,Q] T) (l:Me [l1,Q] X.env=(false,eval l1 X.env)::Me [Q] X.env:=by rfl) (aa:(backTo pos (Me [Q] X.env)).any (·.1)=false:=by rfl) :
  PI X (.Tuple es k tp) (.Call (.Name "zip" p) [l1,Q] [] pos) (iZip X.K T):=by
 intro B s Y H R I h;refine Call_ (jt I m N bt_zip (Mr (thn (A pos B s Y H _ I h) λL j ⟨d,O,i,w,r⟩=>?_) l aa));obtain⟨a,b,e,⟨D,n⟩,⟨M,G⟩,q⟩:=r;subst e;obtain⟨u,u2,rfl,J,al⟩:=CD w
 cases J
 cases al
 obtain⟨g,rv,p,t⟩:=i.list n;obtain⟨z,ac,o,ae⟩:=i.list G;have la:a<j.heap.objs.size:=by obtain⟨_,_,q,_⟩:=p;exact L9 q
 have lb:b<j.heap.objs.size:=by obtain⟨_,_,q,_⟩:=o;exact L9 q
 refine call_zip_2 p.isList o.isList λx kz kI kO y v E C=>?_;refine wpAny_pyIter_zip kz ?_
 refine⟨j.heap.objs.size+4,[j.heap.objs.size+4,j.heap.objs.size+2,j.heap.objs.size+3,j.heap.objs.size,j.heap.objs.size+1],_,_,O,rfl,i.kept (t':=j.toks) C,
  CH a b (j.heap.objs.size+4) (j.heap.objs.size+2) (j.heap.objs.size+3) j.heap.objs.size (j.heap.objs.size+1) (zI _ a b la lb),⟨kz,kI,⟨_,_,kO⟩,y,v⟩,λc f=>?_,q⟩
 have ab:j.heap.objs.size<=c:=by
  simp only[Hs,Jl,or_false]at f;rcases f with rfl | rfl | rfl | rfl | rfl
  .exact Kl _ _
  .exact Kl _ _
  .exact Kl _ _
  .exact Hl _
  .exact Kl _ _
 exact i.fpOk ab (i.hok.fresh ab)
theorem tW{b:Addr}{g:TG}{h:TT}{A:TE}(Pv:Nat->List V->Hp->Prop)(hz:xs.length<=LZ)(t:zs.length=xs.length)(E:Pv 0 [] H1)(hl:∀ i ys H,i<=xs.length->Pv i ys H->SqL K H a xs/\SqL K H b zs)
  (l:∀ i x z ys H T,xs[i]?=some x->zs[i]?=some z->Pv i ys H->H T=none->g (.ref T) (Hw n none++σ) (upd H T (.tup [x,z])) λc H2=>c.drop n=σ/\h c H2 λb H3=>if b=true then A c H3 (λy f=>Pv (i+1) (ys++[y]) f) else Pv (i+1) ys H3) (hd:∀ ys H,Pv xs.length ys H->QQ ys H) (G:∀ i ys H,Pv i ys H->ys.length<=i)
  : gU g h A n σ (Itz K a b) H1 QQ:=by
 refine⟨λi m ys H=>m=xs.length-i/\i<=xs.length/\Pv i ys H,⟨xs.length,by simp,Ia _,E⟩,?_⟩
 rintro i m ys H ⟨rfl,d,p⟩;have q:=hl i ys H d p;have j:=G i ys H p;refine⟨∅,?_⟩
 by_cases L:i<xs.length
 .have k:i<zs.length:=by omega
  refine .inr ⟨⟨xs,zs,xs[i],zs[i],q.1,q.2,by simp[L],by simp[k]⟩,λzs H2=>Pv (i+1) zs H2,λzs H2 I=>⟨xs.length-(i+1),∅,rfl,L,I⟩,λv C y=>?_⟩
  obtain⟨T,x,z,O,rfl,rfl,u,N⟩:=y;exact l i x z ys _ T (u xs q.1) (N zs q.2) p O
 .have e:i=xs.length:=by omega
  subst e;exact .inl ⟨⟨xs,zs,q.1,q.2,.inl (Hl _)⟩,hd ys H p⟩
inductive rMinL(K:Hj)(xs:List V)(H:L2.Hp)(Q:L2.VK):Prop
 |mk (p:Addr)(ns:List Int) (h0_:xs = [.ref p])(h1_:SqL K H p (ns.map V.int))(h2_:0<ns.length)(h3_:∀ m:Int,m∈ns->(∀ x∈ns,m<=x)->Q (.int m) H)
theorem Cf(f:X.calm=true):fH X (.builtin "min") (rMinL X.K):=by
 intro B s Y H N L Q I r h;obtain⟨p,b,rfl,n,w,q⟩:=h;obtain⟨u,rfl,E⟩:=g9 r
 cases E
 obtain⟨O,rv,g,m⟩:=I.list n;have d:=mR rv;obtain⟨o,e⟩:=d.allInts.items;have D:s.heap.IsList p (intItems o):=by rw[← e];exact g.isList
 have G:b=o.toList.map (·.1):=by
  rw[← nums_intItems,← e];exact(show numsOf O.toArray.toList=b from d.numsOf).symm
 subst G;rw[Hi,HK]at w;refine min_intList (I.ok.hd f) D w λv x l k C=>?_;obtain⟨t,rfl⟩:=intItems_at k;obtain⟨M,J⟩:=argBest_lt (numAt o) (o.size-1);refine⟨.int _,H,I.kept (t':=l) C,⟨t,rfl⟩,q _ ?_ λa A=>?_⟩
 .rw[numAt_eq];exact LG (by rw[Hi,HK];omega)
 .obtain⟨j,c,rfl⟩:=LF A;rw[Hi,HK]at c;rw[← numAt_eq];exact J j ∅
def LsAt{α:Type}(R:Hp->V->α->Prop)(H:Hp)(ys:List V)(xs:List α):Prop:=ys.length=xs.length/\∀(i:Nat)(x:α),xs[i]?=some x->∃ y,ys[i]?=some y/\R H y x
theorem LsAt.nil{R:Hp->V->α->Prop}:LsAt R H [] []:=⟨rfl,λi x e=>by simp at e⟩
theorem LsAt.imp{R k:Hp->V->α->Prop}{xs:List α}(h:LsAt R H ys xs)(m:∀ y x,R H y x->k H' y x):LsAt k H' ys xs:=⟨h.1,λi x e=>by
 obtain⟨y,a,b⟩:=h.2 i x e
 exact⟨y,a,m y x b⟩⟩
theorem LsAt.snoc{R:Hp->V->α->Prop}{xs:List α}{x:α}(h:LsAt R H ys xs)(r:R H y x):LsAt R H (ys++[y]) (xs++[x]):=by
 refine⟨by rw[Hk,Hk,h.1];rfl,λj k e=>?_⟩
 by_cases c:j<xs.length
 .rw[Ho c]at e;obtain⟨p,I,s⟩:=h.2 j k e;exact⟨p,by rw[Ho (by rw[h.1];exact c)];exact I,s⟩
 .rw[Hm ∅]at e
  have a:j=xs.length:=by
   have:=(Hg.mp e).1;rw[Ht]at this;omega
  subst a;rw[HQ]at e
  cases e
  exact⟨y,by rw[← h.1,Hm (Hl _),HQ];rfl,r⟩
theorem LsAt.get{R:Hp->V->α->Prop}{xs:List α}(h:LsAt R H ys xs)(e:ys[i]?=some y):∃ x,xs[i]?=some x/\R H y x:=by
 have d:i<xs.length:=by rw[← h.1];exact(Hg.mp e).1
 obtain⟨z,a,b⟩:=h.2 i _ (Hf d);rw[e]at a
 cases a
 exact⟨_,Hf d,b⟩
theorem op_neG(T:X.A.units+64<cLine):OpR X (Mg .NotEq) (λx y H Q=>∃ E O,RdD X.K H x E/\RdD X.K H y O/\SeqAt.shaped E=true/\SeqAt.shaped O=true/\Q (.bl (!PyData.eqv E O)) H):=by
 intro B s Y H x y v u Q I k c h;obtain⟨E,O,w,g,M,J,q⟩:=h;obtain⟨as,C⟩:=w.reads I v k;obtain⟨bs,n⟩:=g.reads I u c;exact ne_dataH C n M J T ⟨.bl _,H,I,rfl,q⟩
theorem oh:∀(a b:List Int),PyData.eqvAll (a.map PyData.int) (b.map PyData.int)=decide (a=b)
 |[],[]=>by simp[PyData.eqvAll]
 |[],y::b=>by simp[PyData.eqvAll]
 |x::a,[]=>by simp[PyData.eqvAll]
 |x::a,y::b=>by
  rw[HR,HR];simp only[PyData.eqvAll,PyData.eqv,oh a b];by_cases h:x=y
  .by_cases J:a=b
   .simp[h,J]
   .simp[h,J]
  .simp[h]
theorem DZ(a b:List Int):PyData.eqv (.list (a.map PyData.int)) (.list (b.map PyData.int))=decide (a=b):=by
 rw[← oh];simp only[PyData.eqv]
section
variable{X:Cx}{tg:Expr}
end
theorem E7:Mb "all" = some (.builtin "all"):=by decide
inductive rMaxL(K:Hj)(xs:List V)(H:L2.Hp)(Q:L2.VK):Prop
 |mk (p:Addr)(ns:List Int) (h0_:xs = [.ref p])(h1_:SqL K H p (ns.map V.int))(h2_:0<ns.length)(h3_:∀ m:Int,m∈ns->(∀ x∈ns,x<=m)->Q (.int m) H)
theorem Ck(f:X.calm=true):fH X (.builtin "max") (rMaxL X.K):=by
 intro B s Y H N L Q I r h;obtain⟨p,b,rfl,n,w,q⟩:=h;obtain⟨u,rfl,E⟩:=g9 r
 cases E
 obtain⟨O,rv,g,m⟩:=I.list n;have d:=mR rv;obtain⟨o,e⟩:=d.allInts.items;have D:s.heap.IsList p (intItems o):=by rw[← e];exact g.isList
 have G:b=o.toList.map (·.1):=by
  rw[← nums_intItems,← e];exact(show numsOf O.toArray.toList=b from d.numsOf).symm
 subst G;rw[Hi,HK]at w;refine max_intList (I.ok.hd f) D w λv x l k C=>?_;obtain⟨t,rfl⟩:=intItems_at k;obtain⟨M,J⟩:=argBest_gt (numAt o) (o.size-1);refine⟨.int _,H,I.kept (t':=l) C,⟨t,rfl⟩,q _ ?_ λa A=>?_⟩
 .rw[numAt_eq];exact LG (by rw[Hi,HK];omega)
 .obtain⟨j,c,rfl⟩:=LF A;rw[Hi,HK]at c;rw[← numAt_eq];exact J j ∅
section
variable{prog:Program}{w:World}{A:Around}{E:Value->Shared->Prop}{s:Shared}{d:Addr}
def Ent(h:Heap)(d:Addr)(es:Array DictEntry)(ep:Nat):Prop:=∃ o,h.get? d=some o/\o.ExactDict/\o.data=.dict es ep
theorem Ent.ty{es:Array DictEntry}(x:Ent s.heap d es ep):s.TypeIs (.ref d) "dict":=by
 obtain⟨o,M,J,_⟩:=x;exact⟨o,M,J.1⟩
theorem D1(hd:(d == sysModules)=false):MeetsIn prog w (Builtin.«dict.items» ⟨[.ref d],[]⟩) (λ_ R s=>(∃ es ep,Ent s.heap d es ep)/\R (.ok (.ret (.ref s.heap.objs.size))) { s with heap:=s.heap.push { cls:=.type "dict_items",data:=.fields #[.ref d] } }) :=
 .of_wp λA R s ⟨⟨es,ep,N⟩,h⟩=>by
  unfold Builtin.«dict.items» Builtin.Dict.noArgs;refine Mj (Mj (wpAny_notOrdered_dict N.ty ?_));show wpAny _ _ (pure d) _ _ s;refine Mn ?_;show wpAny _ _ (Builtin.Dict.showsAll d >>= _) _ _ s;unfold Builtin.Dict.showsAll;rw[NB (by simp[hd])]
  exact Mj (Mn (Mj (MV (Mn ⟨_,rfl,h⟩))))
theorem D2{v:Addr}{es:Array DictEntry}(k:s.heap.IsItemsView v d)(N:Ent s.heap d es ep)
  (y:Q (.ref s.heap.objs.size) { s with heap:=s.heap.push { cls:=.type "dict_itemiterator",data:=.fields #[.none,.bool false,.ref d,.int 0 0,.int es.size 0,.int ep 0,.none,.none] } }) :
  wpAny (model prog w) A (pyIter (.ref v)) Q E s:=by
 obtain⟨L,M,J,f⟩:=id k;obtain⟨o,G,p,B⟩:=N;refine wpAny_pyIter_slot k.typeIs F.slot_dict_items_iter (MX F.slot_dict_items_iter k.typeIs F.entry_dict_items_iter ?_ (F.args_dict_items_iter_1 _));show wpAny _ _ (Builtin.«dict_items.__iter__» _) _ _ s;unfold Builtin.«dict_items.__iter__» Builtin.Dict_items.dictOf Builtin.Dict_items.newIterator;refine Mj (Mn (Mj (Mj (wpAny_field M f (x:=.ref d) rfl (Mn (Mj (Mj (wpAny_dictEntries G B (Mj (wpAny_dictEpoch G B ?_))))))))));simp only[show MY "dict_itemiterator" = true by decide,if_true]
 refine MV (Mn ⟨_,rfl,"dict_itemiterator",_,⟨_,Mp _ rfl,rfl⟩,F.slot_dict_itemiterator_next.lookup,?_⟩)
  (by simp only[sizeOk,Builtin.Dict_items.ownedTupleFields,HE,Hk,HD,Js,sizeLine_eq];omega)
 simpa[rawInt,Builtin.Dict_items.ownedTupleFields] using y
theorem BJ{es:Array DictEntry}{ok ov:Value}{Q:Option Value->Shared->Prop}(g:IsItemIter s.heap it d i es.size ep ok ov)(N:Ent s.heap d es ep)(H:A.handled=none)
  (hI:∀ e,es[i]?=some e->∀ h',IsItemIterOut h' it d (i+1) es.size ep e.key e.val s.heap.objs.size->h'.get? s.heap.objs.size=some { cls:=.type "tuple",data:=.seq #[e.key,e.val] }->(∀ b o,b≠it->s.heap.get? b=some o->h'.get? b=some o)->Q (some (.ref s.heap.objs.size)) { s with heap:=h' })
  (z:es[i]?=none->∀ h',Heap.ExtBut it s.heap h'->Q none { s with heap:=h' }):wpAny (model prog w) A (pyNext (.ref it)) Q E s:=by
 obtain⟨o,G,p,f⟩:=N;have O:s.TypeIs (.ref it) "dict_itemiterator":=⟨_,g,rfl⟩;have own:MY "dict_itemiterator" = true:=by decide
 unfold pyNext;refine Mj (wpAny_attempt (MZ (name:=Str.ofString "__next__") O F.slot_dict_itemiterator_next (MX F.slot_dict_itemiterator_next O F.entry_dict_itemiterator_next ?_ (F.args_dict_itemiterator_next_1 _))));refine Mj (Mn (Mj (Mj (Mj (M0 O (Mn ?_))))));refine Mj (wpAny_fieldsOf g rfl ?_);simp only[own,if_true];show wpAny _ _ (if(Value.ref d == Value.none)=true then _ else _) _ _ _;rw[NB (show ¬ ((Value.ref d == Value.none)=true) from HG)];refine Mj (Mn (Mj (wpAny_dictEntries G f ?_)));rw[NB (by simp)]
 refine Mj (Mn (Mj (wpAny_dictEpoch G f ?_)));rw[NB (by simp)]
 refine Mn ?_;have n0:¬ ((i:Int)<0):=by omega
 simp only[n0,if_false,Hn]
 cases t:es[i]? with
 |none =>
  refine Mj (Mj (M0 O (Mn ?_)));show wpAny _ _ (setField (.ref it) 2 .none >>= _) _ _ s;refine Mj (wpAny_setField g rfl (by simp) ?_)
  show wpAny _ _ (newExc (.type "StopIteration") [] >>= _) _ _ _;refine Mj ?_;simp only[newExc,newTuple];refine Mj (MV (Mj (m:=firstArgMember _ _) (wpAny_of_eq (a:=Value.none) (by first | rfl | (simp only[firstArgMember];rfl)) (MV ?_ (by size_fits)))) (by size_fits))
  simp only[raiseNew];refine Mj (wpAny_handled ?_);rw[show A.in1.handled=none from H];refine Mj (Mn (wpAny_throw ?_));refine Mj (MQ (T:="StopIteration") (b:=true) ⟨_,Mp _ rfl,rfl⟩ isSubtype_stop (Mn ?_));exact z t _ (((M6 ..).extBut.push _).push _)
 |some e =>
  refine Mj (Mj (M0 O (Mn ?_)));refine Mj (M7 O ?_);show wpAny _ _ (setField (.ref it) 3 (rawInt ((i:Int)+1)) >>= _) _ _ s;refine Mj (M8 g (by simp) λv C y=>?_)
  have c1:((i+1:Nat):Int)=(i:Int)+1:=by omega
  have aa:IsItemIter v it d (i+1) es.size ep ok ov:=by
   unfold IsItemIter;rw[c1];simpa[rawInt] using C
  have lt:it<s.heap.objs.size:=L9 g;have B:v.objs.size=s.heap.objs.size:=y.1;have ab:Shared.TypeIs { s with heap:=v } (.ref it) "dict_itemiterator":=⟨_,aa,rfl⟩;refine Mj (Ml (Mj (M7 ab (Mj (M7 ab ?_)))));show wpAny _ _ (M9 (.ref it) 6 e.key e.val) _ _ { s with heap:=v };unfold M9 Builtin.Dict_items.ownedTupleIsFree;refine Mj (wpAny_newTuple ?_);have n:IsItemIter (v.push { cls:=.type "tuple",data:=.seq #[e.key,e.val] }) it d (i+1) es.size ep ok ov:=Mo _ aa;have l:(v.push { cls:=.type "tuple",data:=.seq #[e.key,e.val] }).get? s.heap.objs.size=some { cls:=.type "tuple",data:=.seq #[e.key,e.val] }:=by rw[← B];exact Mp _ rfl
  have I:∀ b o,b≠it->s.heap.get? b=some o->(v.push { cls:=.type "tuple",data:=.seq #[e.key,e.val] }).get? b=some o:=λb o L q=>Mo _ (y.extBut b o L q);rw[B];generalize v.push { cls:=.type "tuple",data:=.seq #[e.key,e.val] }=k at n l I;show wpAny _ _ (_ >>= _) _ _ { s with heap:=k };refine Mj (Mj (wpAny_field n rfl (x:=.none) rfl (Mn ?_)));simp only[if_true];refine Mj (wpAny_field n rfl (x:=ok) rfl (Mj (wpAny_field n rfl (x:=ov) rfl ?_)));refine Mj (M8 n (by simp) λD J j=>?_)
  replace J:IsItemIter D it d (i+1) es.size ep e.key ov:=J;refine Mj (M8 J (by simp) λg4 Y k4=>?_)
  replace Y:IsItemIter g4 it d (i+1) es.size ep e.key e.val:=Y;refine Mj (M8 Y (by simp) λr u M=>?_)
  replace u:IsItemIterOut r it d (i+1) es.size ep e.key e.val s.heap.objs.size:=u;refine Mj (M8 u (by simp) λg6 h c=>?_)
  replace h:IsItemIterOut g6 it d (i+1) es.size ep e.key e.val s.heap.objs.size:=h;have up:∀ b o,b≠it->k.get? b=some o->g6.get? b=some o:=λb o L q=>c.extBut b o L (M.extBut b o L (k4.extBut b o L (j.extBut b o L q)));exact Mj (Na (Mn (Mn ⟨_,rfl,Mn (hI e t g6 h (up _ _ (IQ lt) l) λb o L q=>up b o L (I b o L q))⟩)))
end
def xZ(v d:Addr):HO:=.ext λh=>h.IsItemsView v d
def KvA(H:Hp)(u:HO)(i:Nat)(x y:V):Prop:=(∃ m k,u=.dK m/\m[i]?=some (k,y)/\x=kV k)∨∃ m k t,u=.dT m/\m[i]?=some (k,y)/\x=.ref t/\H t=some (.tup (k.map kV))
def dlen:HO->Nat
 |.dK m=>m.length
 |.dT m=>m.length
 |_=>0
def yL:HO->Prop
 |.dK _=>True
 |.dT _=>True
 |_=>False
theorem mQ{α c:Type}{F:α->c->Prop}:∀{d:List α}{g:List c},Paired F d g->∀{i:Nat}{b:c},g[i]?=some b->∃ a,d[i]?=some a/\F a b
 |_,_,.nil,i,b,e=>by simp at e
 |_,_,.cons r t,0,b,e=>⟨_,rfl,by cases e;exact r⟩
 |_,_,.cons r t,i+1,b,e=>mQ t (i:=i) e
theorem BK{d:Addr}{u:HO}(hd:yL u)(x:bG P w H h d u):(d == sysModules)=false/\∃ es ep,Ent h d es ep/\es.size=dlen u/\∀ i e,es[i]?=some e->∃ x y,KvA H u i x y/\RelV x e.key/\RelV y e.val:=by
 cases u with
 |dK m =>
  obtain⟨A,lo,l,L,o,es,ep,M,J,f,a,s,I⟩:=x;have b:m.length=l.length:=Paired.length L;have sz:es.size=l.length:=by rw[← s.length,HK]
  refine⟨lo,es,ep,⟨o,M,J,f⟩,by rw[sz];exact b.symm,λi e T=>?_⟩
  have g:i<l.length:=by
   have:i<es.size:=(Ku.mp T).1;omega
  obtain⟨⟨k,v⟩,p⟩:∃ q,l[i]?=some q:=⟨_,Hf g⟩;obtain⟨C,aa⟩:=s.get? (e:=e) (by rw[Iy];exact T) p
  obtain⟨⟨n,y⟩,Q,B,c⟩:=mQ L p;have Y:n=k:=B;subst Y;refine⟨kV n,y,.inl ⟨m,n,rfl,Q,rfl⟩,?_,by rw[aa];exact c⟩
  rcases a9 (show oG n e.key=true from C) with⟨j,t,G,E⟩ | ⟨z,t,G,E⟩
  .rw[G,E];exact⟨t,rfl⟩
  .rw[G,E];exact⟨t,rfl⟩
 |dT m =>
  obtain⟨A,lo,D,r,o,es,ep,M,J,f,a,s⟩:=x;have sz:es.size=D.length:=by rw[← HK,a,Hi]
  refine⟨lo,es,ep,⟨o,M,J,f⟩,by rw[sz];exact r.length.symm,λi e T=>?_⟩
  have G:es.toList[i]?=some e:=by rw[Iy];exact T
  rw[a,Hr]at G
  cases O:D[i]? with
  |none=>rw[O]at G;cases G
  |some q =>
   rw[O]at G
   cases G
   obtain⟨⟨k,y⟩,Q,B,N,c⟩:=mQ r O;exact⟨.ref q.2.1,y,.inr ⟨m,k,q.2.1,rfl,Q,rfl,N⟩,rfl,c⟩
 |_=>exact hd.elim
section
variable{X:Cx}{pins:List (Addr×Obj)}{σ:St}{H:Hp}{s:Shared}{d:Addr}{u:HO}{o:Obj}
theorem yL.notT(h:yL u):(∀ xs,u≠.tup xs)/\(∀ o v,u≠.frz o v)/\(∀ ps,u≠.tbl ps)/\∀ a,u≠.own a:=by
 cases u<;>first | exact h.elim | exact⟨λ_=>by simp,λ_ _=>by simp,λ_=>by simp,λ_=>by simp⟩
theorem HOk.frz{P:Program}{w:World}{h:Heap}(x:HOk P w H h)(hd:H d=some u)(T:yL u)(e:h.get? d=some o):HOk P w (upd H d (.frz o u)) h:=λb v q=>by
 obtain⟨E,C,a,i⟩:=T.notT;have g:∀ c y,H c=some (.own y)->upd H d (.frz o u) c=some (.own y):=λc y r=>by rw[aq (yE r hd λz=>i y z.symm)];exact r
 have f:∀ c D,H c=some (.tup D)->upd H d (.frz o u) c=some (.tup D):=λc D r=>by rw[aq (yE r hd λz=>E D z.symm)];exact r
 by_cases L:b=d
 .subst L;rw[ag]at q
  cases q
  exact⟨e,(x b u hd).stay (λ_ _ _ r=>r) (λc r=>g c b r) f⟩
 .rw[aq L]at q;exact(x b v q).stay (λ_ _ _ r=>r) (λc r=>g c b r) f
theorem Inv.freeze(I:Inv X pins σ H s)(hd:H d=some u)(T:yL u)(e:s.heap.get? d=some o):Inv X pins σ (upd H d (.frz o u)) s:=by
 obtain⟨E,C,a,i⟩:=T.notT;exact I.step (H':=upd H d (.frz o u)) (h':=s.heap) (g':=s.gens) (d':=s.drawn) (t':=s.toks) (ch:=[]) (λ_ z=>nomatch z) (λb _ _ _ _ q _=>q) (λb N _ _ _ q _=>⟨N.slots,q⟩)
  (λb _ _ _ n=>by rw[aq (aH hd n).symm];exact n) (λb N _ q=>⟨N,q⟩) (λb D r=>by rw[aq (yE r hd λz=>E D z.symm)];exact r)
  (λb N v r=>by rw[aq (yE r hd λz=>C N v z.symm)];exact r) (λb G r=>⟨#[],by rw[aq (yE r hd λz=>a G z.symm),r];simp⟩) (λ_ q=>q) (I.hok.frz hd T e) I.bare
theorem Dz:MtR X "dict.items" (λx xs H Q=>∃ d u,x=.ref d/\xs = []/\H d=some u/\yL u/\∀ v,H v=none->Q (.ref v) (upd H v (xZ v d))):=by
 intro pins s σ H x xs v L Q I z rv h;obtain⟨d,u,rfl,rfl,hd,E,q⟩:=h
 cases z
 have a:=rv.zero;subst a;obtain⟨lo,B,D,N,_⟩:=BK E (I.hok d _ hd);refine call_meetsIn LP N.ty PySem.F.entry_dict_items (PySem.F.args_dict_items_1 _) (D1 lo) ⟨⟨B,D,N⟩,?_⟩;have p:(s.heap.push { cls:=.type "dict_items",data:=.fields #[.ref d] }).IsItemsView s.heap.objs.size d:=⟨_,Mp _ rfl,rfl,rfl⟩;refine⟨.ref s.heap.objs.size,_,I.laid (t':=s.toks) (λb o e=>Mo _ e) (Hl _) ?_,rfl,q _ (I.hok.fresh (Hl _))⟩;exact⟨p,⟨_,Mp _ rfl⟩,λM J x k=>let ⟨o,T,r⟩:=x;⟨o,k _ T,r⟩⟩
end
section
open PySem.W
def KOk{α:Type}(n:Nat):KasT α->(α->Prop)->Prop
 |.ret a,P=>P a
 |.ask i j k,P=>i<n/\j<n/\∀ b,KOk n (k b) P
theorem KOk.bind{α c:Type}{n:Nat}{f:α->KasT c}{P:c->Prop}:∀{t:KasT α},KOk n t (λa=>KOk n (f a) P)->KOk n (t.bind f) P
 |.ret _,h=>h
 |.ask _ _ _,h=>⟨h.1,h.2.1,λb=>KOk.bind (h.2.2 b)⟩
theorem KOk.imp{α:Type}{n:Nat}{P c:α->Prop}(B:∀ a,P a->c a):∀{t:KasT α},KOk n t P->KOk n t c
 |.ret _,h=>B _ h
 |.ask _ _ _,h=>⟨h.1,h.2.1,λb=>KOk.imp B (h.2.2 b)⟩
theorem KOk.wp{α:Type}{n:Nat}{P:α->Prop}{s:Shared}{Y:Nat->Nat->(Bool->Shared->Prop)->Shared->Prop}{Q:α->Shared->Prop}(f:∀ i j C,i<n->j<n->(∀ b,C b s)->Y i j C s)(y:∀ a,P a->Q a s):∀{t:KasT α},KOk n t P->t.kasWp Y Q s
 |.ret _,h=>y _ h
 |.ask i j k,h=>f i j _ h.1 h.2.1 λb=>KOk.wp f y (h.2.2 b)
def Ltn(n:Nat)(p:Array Nat):Prop:=p.size=n/\∀ x∈p.toList,x<n
theorem Ltn.at{p:Array Nat}(g:0<n)(h:Ltn n p)(i:Nat):p.getD i 0<n:=by
 by_cases d:i<p.size
 .have:p.getD i 0=p[i]:=by simp[Ko,d]
  rw[this];exact h.2 _ (Array.getElem_mem_toList d)
 .have:p.getD i 0=0:=by simp[Ko,d]
  rw[this];exact g
theorem Ltn.perm{p q:Array Nat}(h:Ltn n p)(B:q.Perm p):Ltn n q:=by
 have b:=Array.perm_iff_toList_perm.mp B;exact⟨by rw[← h.1];exact B.size_eq,λx O=>h.2 x (b.mem_iff.mp O)⟩
theorem Ltn.rev{p:Array Nat}(h:Ltn n p)(i j:Nat):Ltn n (kas_rev p i j):=h.perm (mirror_perm _ _ _ _)
theorem Gu{n:Nat}{p:Array Nat}(g:0<n)(h:Ltn n p):∀ f m,KOk n (kas_asc p f m) λ_=>True
 |0,_=>trivial
 |f+1,m=>⟨h.at g _,h.at g _,λb=>by
  cases b with
  |true=>exact trivial
  |false=>exact Gu g h f (m+1)⟩
theorem xY{n:Nat}(g:0<n):∀ f p m q,Ltn n p->KOk n (kas_desc f p m q) λr=>Ltn n r.1
 |0,_,_,_,h=>h
 |f+1,p,m,q,h=>⟨h.at g _,h.at g _,λb=>by
  cases b with
  |true =>
   show KOk n (if q > 0 then _ else _) _;split
   .exact xY g f _ _ _ (h.rev _ _)
   .exact xY g f _ _ _ h
  |false=>exact⟨h.at g _,h.at g _,λd=>by
    cases d with
    |true=>exact h
    |false=>exact xY g f _ _ _ h⟩⟩
theorem EU{p:Array Nat}(g:0<n)(h:Ltn n p)(a b:Nat):KOk n (kas_tail3 a b p) λr=>Ltn n r.2 :=
 KOk.bind ((Gu g (h.rev 0 a) _ _).imp λ_ _=>h.rev 0 a)
theorem EV{p:Array Nat}(g:0<n)(h:Ltn n p)(a b:Nat):KOk n (kas_descPart a b p) λr=>Ltn n r.2 :=
 KOk.bind ((xY g _ _ _ _ h).imp λr u=>by
  show KOk n (if r.2.2 > 0 then _ else _) _;split
  .exact EU g (u.rev _ _) _ _
  .exact EU g u _ _)
theorem Gs{p:Array Nat}(g:0<n)(h:Ltn n p)(a:Nat):KOk n (kas_count a p) λr=>Ltn n r.2 :=
 KOk.bind ((Gu g h _ _).imp λm _=>by
  show KOk n (if(m == a)=true then _ else if m > 1 then _ else _) _;split
  .exact h
  .split
   .exact⟨h.at g _,h.at g _,λb=>by
     cases b with
     |true=>exact h
     |false=>exact EV g (h.rev _ _) _ _⟩
   .exact EV g h _ _)
theorem vB{n:Nat}{p:Array Nat}(g:0<n)(h:Ltn n p)(k:Nat):∀ f l r,KOk n (kas_place p k f l r) λ_=>True
 |0,_,_=>trivial
 |f+1,l,r=>by
  show KOk n (if l ≥ r then _ else _) _;split
  .exact trivial
  .exact⟨h.at g _,h.at g _,λb=>by
    cases b with
    |true=>exact vB g h k f _ _
    |false=>exact vB g h k f _ _⟩
theorem k_bin{n:Nat}(g:0<n):∀ f p k,Ltn n p->KOk n (kas_bin f p k) λr=>Ltn n r
 |0,_,_,h=>h
 |f+1,p,k,h=>KOk.bind ((vB g h k _ _ _).imp λl _=>k_bin g f _ _ (h.perm (bubble_perm _ _ _)))
theorem k_sort(g:0<n):KOk n (kas_sort n) (Ltn n):=by
 have h:Ltn n (List.toArray (IC n)):=⟨by simp,λx O=>by simpa using O⟩
 exact KOk.bind ((Gs g h n).imp λr u=>by
  show KOk n (if r.1<n then _ else _) _;split
  .exact k_bin g _ _ _ u
  .exact u)
end
section
open PySem.W
variable{prog:Program}{w:World}{A:Around}{E:Value->Shared->Prop}{s:Shared}
def PrV(h:Heap)(v:Value):Prop:=∃ a o n x y d ty,v=.ref a/\h.get? a=some o/\o.cls=.type "tuple"/\o.data=.seq #[.int x d,.int y ty] n
theorem PrV.keep{v:Value}(p:PrV h v)(k:∀ b o,v=.ref b->h.get? b=some o->h'.get? b=some o):PrV h' v:=by
 obtain⟨a,o,n,x,y,d,ty,rfl,M,r⟩:=p;exact⟨a,o,n,x,y,d,ty,rfl,k _ _ rfl M,r⟩
theorem prv_lt{v:Value}{b:Bool}{Q:Bool->Shared->Prop}(T:PrV s.heap u)(p:PrV s.heap v)(L:b=true)(h:∀ c,Q c s):wpAny (model prog w) A (keyLt' (tuples' b) u v) Q E s:=by
 obtain⟨a,o,n,x,y,d,ty,rfl,M,J,f⟩:=T;obtain⟨g,C,i,e,z,k,l,rfl,N,I,j⟩:=p;subst L;refine kat_lt M f N j ?_;refine kat_cons (wpAny_eqBool_int ?_);refine kat_go (λ_=>kat_yes (kat_cons (wpAny_eqBool_int (kat_go (λ_=>kat_yes (kat_nil (h _))) λ_=>kat_no ?_)))) λ_=>kat_no (oneLt_int (h _));exact kat_one _ _ (PyProof.Rows.lt_int (show PySem.W.BoolBack Q (.bool _) s from h _))
theorem xM{M:Model}:∀{vs:List Value},(∀ v∈vs,PrV s.heap v)->∃ fs,KatTups s.heap vs fs/\fs.length=vs.length/\∀ v∈fs,Looks M s.heap (typeOf v) (.type "int")
 |[],_=>⟨[],trivial,rfl,λv p=>nomatch p⟩
 |v::vs,h=>by
  obtain⟨fs,g,J,f⟩:=xM (M:=M) (vs:=vs) λu T=>h u (Hq _ T);obtain⟨a,o,n,x,y,d,ty,rfl,N,I,j⟩:=h v (Hu ..);refine⟨.int x d::fs,KatTups.cons N I j rfl g,by rw[HD,HD,J],λu T=>?_⟩
  rcases Hs.mp T with rfl | T
  .exact .now
  .exact f u T
theorem yw{P:PySem.Fin->Shared->Prop} (T:s.heap.get? a=some (Nb "list" vs.toArray n)) (B:∀ v∈vs,PrV s.heap v) (ac:vs.length<64)
  (h:∀ out:List Value,out.length=vs.length->(∀ v∈out,v∈vs)->P (.done (.ret .none)) { s with heap:=sortedHeap s.heap a vs out.toArray }):wpAny (model prog w) A (Builtin.«list.sort» ⟨[.ref a],[]⟩) P E s:=by
 have O:a<s.heap.objs.size:=L9 T;have line:vs.length<=LZ:=by rw[sizeLine_eq];omega
 obtain⟨Y,am⟩:∃ Y,(s.heap.update a (ME λ_=>(#[]:Array Value))).get? a=some (Nb "list" #[] Y):=⟨_,Nc T λ_=>#[]⟩;have al:(((s.heap.update a (ME λ_=>(#[]:Array Value))).push (Nb "tuple" vs.toArray 0)).push (Nb "list" #[] 0)).get? a=some (Nb "list" #[] Y):=Mo _ (Mo _ am);have ae:∀ v∈vs,PrV (((s.heap.update a (ME λ_=>(#[]:Array Value))).push (Nb "tuple" vs.toArray 0)).push (Nb "list" #[] 0)) v:=λv k=>by
  have pv:=B v k;refine pv.keep λb o eb e=>Mo _ (Mo _ ?_);have nb:b≠a:=λz=>by
   obtain⟨a',o',n',x,y,tx,ty,rfl,N,q,_⟩:=pv
   cases eb
   rw[z,T]at N
   cases N
   exact NC q (by intro L;have:=Value.type.inj L;exact NC this (by decide))
  rw[Heap.get?_update_ne _ _ _ _ nb];exact e
 rw[list_sort_plain];refine Mj (listItems_at T rfl (Mj (listUpdate_at T rfl (Mj (seqEpoch_at am rfl (Mj (wpAny_newTuple (Mj (Nd (Ml ?_) (Ia _))) line)))) (by rw[HE];exact line) (Ia _))))
 show wpAny (model prog w) A _ P E { s with heap:=((s.heap.update a (ME λ_=>(#[]:Array Value))).push (Nb "tuple" vs.toArray 0)).push (Nb "list" #[] 0) };have m:∀ out:List Value,sortedHeap s.heap a vs out.toArray=(((s.heap.update a (ME λ_=>(#[]:Array Value))).push (Nb "tuple" vs.toArray 0)).push (Nb "list" #[] 0)).update a (ME λ_=>out.toArray):=λ_=>rfl;generalize ((s.heap.update a (ME λ_=>(#[]:Array Value))).push (Nb "tuple" vs.toArray 0)).push (Nb "list" #[] 0)=h6 at al ae m;dsimp only;by_cases J:vs.toArray.size<2
 .rw[NA J,NA J];refine Mj (Mn ?_);rw[StateT.run_pure];refine Mj (Mn (Mj (seqEpoch_at al rfl ?_)));dsimp only;have eo:(arrOf (SortSt.mk' general' (vs.toArray.zip vs.toArray) #[] 7 none)).map (·.2)=vs.toArray:=by
   show(vs.toArray.zip vs.toArray).map (·.2)=vs.toArray;apply Array.ext
   .simp
   .intro i g J;simp
  rw[eo];refine Mj (listUpdate_at al rfl ?_ (Ia _) (by rw[HE];exact Ln line))
  simp only[bne_self_eq_false,II,if_false];refine Mn ?_;have:=h vs rfl λv k=>k;rw[m]at this;exact this
 .rw[NB J,NB J];rw[HE]at J;obtain⟨fs,u,l,f3⟩:=xM (s:={ s with heap:=h6 }) (M:=model prog w) ae;refine Mj (kat_kind u ∅ f3 (by decide) ?_)
  have an:(Value.type "int" != Value.type "tuple")=true:=by decide
  refine Mj (Mf (kat_run (ks:=vs) (vs:=vs) (Q:=λab t=>t={ s with heap:=h6 }/\failedOf ab=none/\∃ p:Array Nat,Ltn vs.length p/\arrOf ab=p.map (kas_item (vs.toArray.zip vs.toArray))) (G:=λp t=>t={ s with heap:=h6 }/\Ltn vs.length p) rfl ∅ ac (λp ab t I f a3 a4=>⟨a4.1,a3,p,a4.2,f⟩) (KOk.wp (λi j C d H hC=>?_) (λp c=>⟨rfl,c⟩) (k_sort ∅))) ?_ λ_ _ e=>e)
  .have gi:vs.getD i Value.none∈vs:=by rw[Hz,Hf d];exact IT d
   have gj:vs.getD j Value.none∈vs:=by rw[Hz,Hf H];exact IT H
   exact prv_lt (ae _ gi) (ae _ gj) an hC
  .rintro⟨⟨⟩,ab⟩ t ⟨rfl,r,p,aa,aA⟩;dsimp only;have ap:=kat_snds (ks:=vs) (vs:=vs) rfl aA;rw[ap];have D:(p.toList.map λi=>vs.getD i Value.none).length=vs.length:=by rw[Hi,HK,aa.1]
   refine Mj (seqEpoch_at al rfl (Mj (listUpdate_at al rfl ?_ (Ia _) (by rw[HE,D];exact Ln line))))
   rw[r];simp only[bne_self_eq_false,II,if_false];refine Mn ?_;have:=h _ D λv k=>by
    obtain⟨i,d,rfl⟩:=Ie.mp k;have lt:=aa.2 i d;rw[Hz,Hf lt];exact IT lt
   rw[m]at this;exact this
theorem rP{l:Addr}(hl:s.heap.IsList l vs.toArray)(B:∀ v∈vs,PrV s.heap v)(c:vs.length<64)
  (h:∀ out:List Value,out.length=vs.length->(∀ v∈out,v∈vs)->Q (.ref (s.heap.objs.size+1)) { s with heap:=sortedAll s.heap vs out.toArray }):wpAny (model prog w) A (call (.builtin "sorted") [.ref l]) Q E s:=by
 refine Calls.call_function_entry kind_sorted plain_sorted entry_sorted (args_sorted1 _) ?_;unfold Builtin.«sorted»;refine Mj (m:=checkCount "sorted" 1 1 _) (Mn ?_);refine Mj (collect_list hl ?_ (by rw[sizeLine_eq];omega))
 refine Mj (Nd ?_ (by rw[sizeLine_eq];omega))
 have j:((s.heap.push (Nb "list" #[] 0)).update s.heap.objs.size (ME (·++vs.toArray))).objs.size=s.heap.objs.size+1:=by rw[Nf,size_push']
 have a:(((s.heap.push (Nb "list" #[] 0)).update s.heap.objs.size (ME (·++vs.toArray))).push (Nb "list" vs.toArray 0)).get? (s.heap.objs.size+1)=some (Nb "list" vs.toArray 0):=by rw[← j];exact Mp _ rfl
 show wpAny _ _ _ _ _ { s with heap:=((s.heap.push (Nb "list" #[] 0)).update s.heap.objs.size (ME (·++vs.toArray))).push (Nb "list" vs.toArray 0) };rw[j];refine Mj (Ml (MX slot_list_sort ⟨_,a,rfl⟩ entry_list_sort (yw a (λv p=>(B v p).keep λb o _ q=>?_) c λout I f=>⟨_,rfl,?_⟩) (args_list_sort _)))
 .have L:b<s.heap.objs.size:=L9 q
  rw[Heap.get?_push_ne _ _ _ (by rw[j];exact HN (IU L)),Heap.get?_update_ne _ _ _ _ (HN L),Heap.get?_push_ne _ _ _ (HN L)]
  exact q
 .exact Mn ⟨_,rfl,h out I f⟩
end
inductive rSortP(K:Hj)(xs:List V)(H:L2.Hp)(Q:L2.VK):Prop
 |mk (p:Addr)(ys:List V) (h0_:xs = [.ref p])(h1_:SqL K H p ys)(h2_:(∀ y∈ys,∃ t i j,y=.ref t/\H t=some (.tup [.int i,.int j])))(h3_:ys.length<64)(h4_:∀(l:Addr)(out:List V),H l=none->out.length=ys.length->(∀ y∈out,y∈ys)->Q (.ref l) (upd H l (.lst out)))
theorem pG:∀{ys:List V}{us:List Value},Vals ys us->∀ u∈us,∃ y∈ys,RelV y u
 |_,_,.nil,u,h=>nomatch h
 |_,_,.cons (a:=y) r t,u,h=>by
  rcases Hs.mp h with rfl | h
  .exact⟨y,Hu ..,r⟩
  .obtain⟨z,A,b⟩:=pG t u h;exact⟨z,Hq _ A,b⟩
theorem rJ{ys:List V}{us:List Value}(r:Vals ys us):∀{out:List Value},(∀ u∈out,u∈us)->∃ zs,Vals zs out/\zs.length=out.length/\∀ z∈zs,z∈ys
 |[],_=>⟨[],.nil,rfl,λz h=>nomatch h⟩
 |u::out,h=>by
  obtain⟨zs,w,j,s⟩:=rJ r (out:=out) λx O=>h x (Hq _ O);obtain⟨y,G,c⟩:=pG r u (h u (Hu ..))
  exact⟨y::zs,.cons c w,by rw[HD,HD,j],λz A=>by
   rcases Hs.mp A with rfl | A
   .exact G
   .exact s z A⟩
theorem zy:fH X (.builtin "sorted") (rSortP X.K):=by
 intro B s Y H N L Q I r h;obtain⟨p,M,rfl,n,G,ab,q⟩:=h;obtain⟨u,rfl,E⟩:=g9 r
 cases E
 obtain⟨O,rv,m,A⟩:=I.list n;have D:=rv.length;refine rP m.isList (λv k=>?_) ∅ λaa d b=>?_
 .obtain⟨y,ac,c⟩:=pG rv v k;obtain⟨t,i,j,rfl,J⟩:=G y ac
  cases c
  obtain⟨_,a,g,f,b1,b2,nb,b3⟩:=(show bG X.prog X.w H s.heap t (.tup [.int i,.int j]) from I.hok t _ J);obtain⟨z,u2,rfl,⟨C,rfl⟩,⟨l,rfl⟩⟩:=CD g;exact⟨t,f,nb,i,j,C,l,rfl,b1,b2,b3⟩
 .obtain⟨o,x,l3,m3⟩:=rJ rv b;obtain⟨e,T⟩:=sortedAll_at s.heap O aa.toArray;refine⟨.ref (s.heap.objs.size+1),_,I.laid (t':=s.toks) (λ_ _=>sortedAll_old) (JB _) (show bG X.prog X.w _ _ _ (.lst o) from⟨?_,aa,e,x,T⟩),rfl,q _ o (I.hok.fresh (JB _)) ∅ m3⟩
  exact HJ (aw ∅)
inductive rAllB(K:Hj)(xs:List V)(H:L2.Hp)(Q:L2.VK):Prop
 |mk (p:Addr)(bs:List Bool) (h0_:xs = [.ref p])(h1_:SqL K H p (bs.map V.bl))(h2_:Q (.bl (bs.all id)) H)
theorem t8(f:X.calm=true):fH X (.builtin "all") (rAllB X.K):=by
 intro B s Y H D z Q I r h;obtain⟨p,bs,rfl,n,q⟩:=h;obtain⟨u,rfl,E⟩:=g9 r
 cases E
 obtain⟨O,rv,m,t⟩:=I.list n;have aa:=rv.length;rw[Hi]at aa;have a:p<s.heap.objs.size:=by obtain⟨_,_,q,_⟩:=m;exact L9 q
 refine call_all_walk (wpAny_pyIter_list m.isList ?_);refine⟨s.heap.objs.size,[s.heap.objs.size,p],[s.heap.objs.size],O.toArray.size,_,_,λi=>bs.getD i true,rfl,Walks.list (A:=X.A.in1) (I.ok.hd f) _ p (HN a) O.toArray,⟨⟨_,Mp _ rfl,rfl,rfl⟩,m.isList.push _⟩,λi v g Q' E' T y=>?_,λM l C=>?_⟩
 .have k:O[i]?=some v:=by simpa using T
  have d:i<bs.length:=by have:=(Hg.mp k).1;omega
  obtain⟨w,c,G⟩:=rv.get (i:=i) (x:=.bl bs[i]) (by rw[Hr,Hf d];rfl)
  rw[k]at c
  cases c
  cases G
  replace y:Q' (bs.getD i true) g:=y;rw[show bs.getD i true=bs[i] by rw[Hz,Hf d];rfl]at y
  exact Mh y
 .have J:((IC O.toArray.size).all λi=>bs.getD i true)=bs.all id:=by
   rw[HE,← aa,Ks,Km,Km];constructor
   .intro h b L;obtain⟨i,d,rfl⟩:=IK L;have:=h i (Je.mpr d);rw[Hz,Hf d]at this;exact this
   .intro h i d;have j:=Je.mp d;rw[Hz,Hf j];exact h _ (IT j)
  rw[J];refine⟨.bl _,H,I.kept (t':=l) (λb o e=>C b o (λN=>?_) (Mo _ e)),rfl,q⟩;rw[HB.mp N]at e;exact Iz _ (L9 e)
section
variable{prog:Program}{w:World}{K:Type} [DecidableEq K] {knd:KeyKind prog w K} {A:Around} {E:Value->Shared->Prop} {s:Shared}
end
section
variable{X:Cx}{o e f:Expr}{apos cpos:Pos}{td ty tx:TE}
end
def Itk(o:Obj)(kvs:List (Key×V))(d:Addr):It :=
 ⟨λi H=>H d=some (.frz o (.dK kvs))/\i<kvs.length,λi H v C=>∃ k y,kvs[i]?=some (k,y)/\v=kV k/\C=H,λi H=>H d=some (.frz o (.dK kvs))/\kvs.length<=i⟩
theorem Bw{d:Addr}{es:Array DictEntry}(x:bG P w H h d (.frz o (.dK kvs)))(T:o.data=.dict es ep):(d == sysModules)=false/\∃ vs,KV kvs vs/\h.DictAt (bK P w) d vs ep:=by
 obtain⟨v,A,lo,vs,y,C,es',g,M,J,f,r⟩:=x;rw[v]at M
 cases M
 rw[T]at f
 cases f
 exact⟨lo,vs,y,o,es,v,J,T,r⟩
theorem zO{tg:Expr}(o:Obj)(kvs:List (Key×V))(d it:Addr)(es:Array DictEntry)(ep:Nat)(T:o.data=.dict es ep):Turn P w K tg (Itk o kvs d) [it] it (λi h=>h.IsKeyIter it d i kvs.length ep) where
 mem:=by simp
 obj:=λi h st b L=>by
  have e:b=it:=by simpa using L
  subst e;obtain⟨o,e,c,d⟩:=st;exact⟨o,e,λv z=>by rw[d]at z;cases z⟩
 keep:=λi h M st k=>by
  obtain⟨o,e,r⟩:=st;exact⟨o,k it (by simp) o e,r⟩
 item:=by
  intro X hP u hK f i B s Y H E I a st m;subst hP u hK;obtain⟨hd,g⟩:=m;obtain⟨lo,l,rk,ab⟩:=Bw (I.hok d _ hd) T;have D:kvs.length=l.length:=Paired.length rk;obtain⟨f0,x,A,f3,f4,f5⟩:=a it (by simp)
  obtain⟨⟨k,v⟩,p⟩:∃ q,l[i]?=some q:=⟨_,Hf ∅⟩
  obtain⟨⟨k',y⟩,G,ek,n⟩:=mQ rk p;have ac:k'=k:=ek;subst ac;refine wpAny_pyNext_dict_item (D▸st) ab p λN M C aa sb=>?_;have J:Inv X B Y H { s with heap:=M }:=I.turned (t':=s.toks) (λb o L e=>(sb.2 b L).trans e) f0 x f3 f4 f5;obtain⟨o2,e,c,dd⟩:=id aa;refine⟨N,rfl,DN (s:={ s with heap:=M }) e c dd (by decide) ⟨kV k',H,J,?_,⟨k',y,G,rfl,rfl⟩,D.symm▸aa,λb L=>(a b L).1⟩⟩
  rcases a9 (show oG k' N=true from C) with⟨j,t,rfl,rfl⟩ | ⟨z,t,rfl,rfl⟩
  .exact⟨t,rfl⟩
  .exact⟨t,rfl⟩
 done:=by
  intro X hP u hK f i B s Y H E I a st m;subst hP u hK;obtain⟨hd,g⟩:=m;obtain⟨lo,l,rk,ab⟩:=Bw (I.hok d _ hd) T;have D:kvs.length=l.length:=Paired.length rk;obtain⟨f0,x,A,f3,f4,f5⟩:=a it (by simp)
  exact wpAny_pyNext_dict_end (I.ok.hd f) (D▸st) ab (Jz ∅) λM eb=>⟨rfl,I.turned (t':=s.toks) (λb o L e=>eb b o L e) f0 x f3 f4 f5⟩
 self:=λ_ _ s Q _ st h=>by
  have O:s.TypeIs (.ref it) "dict_keyiterator":=st.typeIs;refine wpAny_pyIter_slot O F.slot_dict_keyiterator_iter (MX F.slot_dict_keyiterator_iter O F.entry_dict_keyiterator_iter ?_ (F.args_dict_keyiterator_iter_1 _));show wpAny _ _ (ret (.ref it)) _ _ s;exact Mn ⟨_,rfl,"dict_keyiterator",_,O,F.slot_dict_keyiterator_next.lookup,h⟩
def iKeys(A:TE):TI:=λY H R=>A Y H λx O=>∃ d m,x=.ref d/\O d=some (.dK m)/\∀ o,R (Itk o m d) (upd O d (.frz o (.dK m)))
theorem FN{e:Expr}{A:TE}{Q:Expr}(T:PE X e A):PI X Q e (iKeys A):=by
 intro B s Y H R I h;refine thn (T B s Y H _ I h) λv j z=>?_;obtain⟨x,O,i,w,C⟩:=z;obtain⟨d,m,rfl,hd,q⟩:=C
 cases w
 obtain⟨_,a,r,N,sz,_⟩:=BK (u:=.dK m) True.intro (i.hok d _ hd);obtain⟨o,C,n,J⟩:=id N;have p:=i.freeze hd True.intro C;obtain⟨lo,l,y,t⟩:=Bw (p.hok d _ ag) J;have D:m.length=l.length:=Paired.length y;refine wpAny_pyIter_dict lo t ?_;refine⟨j.heap.objs.size,[j.heap.objs.size],_,_,upd O d (.frz o (.dK m)),rfl,p.kept (t':=j.toks) λb u e=>Mo _ e,zO o m d _ a r J,⟨_,Mp _ rfl,rfl,by rw[D];rfl⟩,λb L=>?_,q o⟩
 rw[HB.mp L];exact p.fpOk (Hl _) (p.hok.fresh (Hl _))
section
variable{prog:Program}{w:World}{A:Around}{E:Value->Shared->Prop}{s:Shared}{T:String}{r d:Addr}{n:Nat}{P:Nat->Value->Prop}{OK:Heap->Prop}
end
section
variable{prog:Program}{w:World}{A:Around}{E:Value->Shared->Prop}{s:Shared}
end
abbrev o9(p:Pos):Arguments:={ posonlyargs:=[],args:=[{ arg:="each",annotation:=none,pos:=p }],vararg:=none,kwonlyargs:=[],kw_defaults:=[],kwarg:=none,defaults:=[] }
abbrev vy:Scope:={ kind:=.function,names:=[("each",.local),("told",.free)],isGenerator:=false,isCoroutine:=false,more:=[] }
abbrev yK(p1 p2 p:Pos):Expr:=.Subscript (.Name "told" p1) (.Name "each" p2) p
section
variable{prog:Program}{w:World}{A:Around}{E:Value->Shared->Prop}{s:Shared}
theorem Gi{c' ct t:Addr}{j:Str}{l p1 p:Pos}{i v:Value}{its:Array Value}{k:Int}{tk:Tok}
  (r:A.depth<recursionLimit) (a:s.heap.get? f=some (KQ "<lambda>" j (o9 l) (yK p1 p2 p) vy [("told",ct)] u c' i)) (m:s.heap.CodeRec (.ref c') j) (n:s.heap.NoLimit)
  (y:s.heap.IsCell ct (some (.ref t))) (hl:s.heap.IsList t its) (q:0<=k) (C:k<2^63) (g:its[k.toNat]?=some v)
  (h:∀ h' B,(∀ b o,s.heap.get? b=some o->h'.get? b=some o)->Q v { s with heap:=h',toks:=B }) :
  wpAny (model prog w) A (call (.ref f) [.int k tk]) Q E s:=by
 refine wpAny_call (PySem.W.kla_callFunE r a rfl rfl rfl rfl m ?_);have L:bindArgs (PySem.W.kla_fn "<lambda>" j (o9 l) (yK p1 p2 p) vy [("told",ct)] u (.ref c') i) ⟨[.int k tk],[]⟩=(pure [(("each" : Str),Value.int k tk)]:Sem (List (Str×Value))):=rfl;rw[L];refine Mn (wpAny_newFunctionEnv (λx O=>?_) (λx O=>?_) (λM G D=>?_) rfl)
 .have H:x=(("each" : Str),NameKind.local)∨x=(("told" : Str),NameKind.free):=by simpa using O
  rcases H with rfl | rfl<;>exact λz=>by cases z
 .rw[HB.mp O];rfl
 have d:∀ b o,s.heap.get? b=some o->M.get? b=some o:=λb o e=>D.extBut b o (HN (L9 e)) (Mo _ e);refine⟨n.keeps d,PySem.W.kla_codeExpr ?_⟩;refine Subscript_ (wpAny_Name (wpAny_loadName_free (c:=ct) rfl rfl rfl (y.keeps d) ?_));refine wpAny_Name (wpAny_loadName_local rfl rfl G rfl ?_);exact item_listR (hl.at λo e=>d _ _ e) q C g (h _ _ d)
abbrev Kp(h h':Heap):Prop:=∀ b o,h.get? b=some o->h'.get? b=some o
theorem Kp.but{g:Heap}(k:Kp g h)(n:g.get? I=none)(m:∀ b o,b∉[I]->h.get? b=some o->h'.get? b=some o):Kp g h':=λb o e=>m b o (λz=>by rw[HB.mp z,n]at e;cases e) (k b o e)
theorem Kp.same{g:Heap}{S:Addr}(k:Kp g h)(n:g.get? S=none)(m:Md S h h'):Kp g h':=λb o e=>(m.2 b (λz=>by rw[z,n]at e;cases e)).trans (k b o e)
theorem DA{S:Addr}{P:Nat->Value->Prop}{St:Nat->Heap->Prop}{g:Heap}(W:Walks prog w A.in1 a fp [a] n P St)(gJ:g.get? a=none)(gS:g.get? S=none)(an:S≠a)(al:S∉fp)
  (turn:∀ i v,i<n->P i v->∀(h:Heap)(tk:Nat)(Q:Value->Shared->Prop)(E:Value->Shared->Prop),Kp g h->(∀ O t h' B,Kp h h'->Q (.int O t) { s with heap:=h',toks:=B })->wpAny (model prog w) A.in1 (call (.ref q) [v]) Q E { s with heap:=h,toks:=tk })
  (G:∀ i v h' B,i<n->P i v->Kp g h'->R (.ok (.ret v)) { s with heap:=h',toks:=B }) :
  ∀(r j i:Nat)(h:Heap)(tk:Nat)(vb:Value)(l:Int)(tb:Tok)(c:Nat),n-(j+1)=r->j+1<=n->Kp g h->h.get? S=some (Nb "list" #[vb,.int l tb] c)->St (j+1) h->i<n->P i vb ->
   Mx (model prog w) A (.builtin "min.loop" ⟨[.ref a,.ref q,.ref S],[]⟩) R { s with heap:=h,toks:=tk }:=by
 have nm:(toString "min"++toString ".loop" : String) = "min.loop":=by decide
 intro r;induction r with
 |zero =>
  intro j i h tk vb l tb c er H kg D st d T;have C:j+1=n:=by omega
  refine Ng Jw ?_;rw[Nh Ii _];refine Mj (m:=seqItems? (.ref S)) (Ni D rfl ?_);show wpAny _ A.in1 (tryCatch (pyNext (.ref a)) _ >>= _) _ _ _;refine Mj (Nj (W.done _ _ _ (by rw[← C];exact st) λh' B k=>?_))
  have aA:=kg.but gJ k;have f:=k S _ (by simpa using an) D
  have su:=M6 h' S (ME λ_=>(#[]:Array Value));refine Mj (m:=Nk S λ_=>#[]) (Nl f rfl (Mj (Na (Mn ?_))));exact G i vb _ _ d T (aA.same gS su)
 |succ r Y =>
  intro j i h tk vb l tb c er H kg D st d T;have lt:j+1<n:=by omega
  refine Ng Jw ?_;rw[Nh Ii _];refine Mj (m:=seqItems? (.ref S)) (Ni D rfl ?_);show wpAny _ A.in1 (tryCatch (pyNext (.ref a)) _ >>= _) _ _ _;refine Mj (Nj (W.item (j+1) _ _ _ lt st λv M am p ae y=>?_));have aa:=kg.but gJ y;have u:=y S _ (by simpa using an) D
  show wpAny _ A.in1 (tryCatch (holding [v] (call (.ref q) [v])) _ >>= _) _ _ _;refine Mj (Nj (Ml (turn (j+1) v lt p M am _ _ aa λO t N aI I=>?_)));have ap:Kp g N:=λb o e=>I b o (aa b o e);have ab:=I _ _ u;have x:=W.frame _ _ N ae λb _ o e=>I b o e;show wpAny _ A.in1 (tryCatch (holding [v,.int O t] (richCompare .Lt (.int O t) (.int l tb) >>= _)) _ >>= _) _ _ _;refine Mj (Nj (Ml (Mj (CmpOf.ints_lt (prog:=prog) (w:=w) (A:=A.in1) (P:=λ(i:Nat) v=>∃ t,v=.int (if i=0 then O else l) t) (λi=>if i=0 then O else l) (λi v h=>h) 0 1 _ _ _ _ _ ⟨t,rfl⟩ ⟨tb,rfl⟩ ?_))));refine Mj (Ml (Mh (Mj (Na (Mn ?_)))));by_cases cc:O<l
  .have su:=M6 N S (ME λ_=>#[v,.int O t])
   obtain⟨c2,ac⟩:∃ c2,(N.update S (ME λ_=>#[v,.int O t])).get? S=some (Nb "list" #[v,.int O t] c2):=⟨_,Nc ab λ_=>#[v,.int O t]⟩;simp[cc];refine Mj (Nl ab rfl (Mj (Na ?_)));refine Mn ⟨Nm Ii _,Y (j+1) (j+1) _ _ v O t c2 ∅ lt (ap.same gS su) ac (W.frame _ _ _ x λb L o e=>(su.2 b (λz=>al (z▸L))).trans e) lt p⟩
  .simp[cc];refine Mj (Na (Mn ?_));refine⟨Nm Ii _,Y (j+1) i _ _ vb l tb c ∅ lt ap ab x d T⟩
theorem F9{d:Addr}{KK:Type} [DecidableEq KK] {knd:PySem.KeyKind prog w KK} {kvs:List (KK×Value)}   (H:A.handled=none) (hd:Heap.DictAt knd s.heap d kvs ep) (ds:(d == sysModules)=false) (r:0<kvs.length)
  (turn:∀(i:Nat)(v:Value)(k:KK)(x:Value),kvs[i]?=some (k,x)->knd.is k v=true->∀(h:Heap)(tk:Nat)(Q:Value->Shared->Prop)(E:Value->Shared->Prop),Kp s.heap h->(∀ l t h' B,Kp h h'->Q (.int l t) { s with heap:=h',toks:=B })->wpAny (model prog w) A.in1 (call (.ref q) [v]) Q E { s with heap:=h,toks:=tk })
  (a:∀(i:Nat)(v:Value)(k:KK)(x:Value)(h':Heap)(B:Nat),kvs[i]?=some (k,x)->knd.is k v=true->Kp s.heap h'->Q v { s with heap:=h',toks:=B }) :
  wpAny (model prog w) A (call (.builtin "min") [.ref d] [(Str.ofString "key",.ref q)]) Q E s:=by
 have nm:(toString "min"++toString ".loop" : String) = "min.loop":=by decide
 obtain⟨Y,_,ap,_⟩:=id hd;have dl:d<s.heap.objs.size:=L9 ap;refine kmk_tree PySem.F.kind_min PySem.F.plain_min PySem.F.entry_min (kmk_min_key _ _) ?_;show wpAny _ A.in1 (Nn "min" ["key","default"] 0 ⟨[],[(Str.ofString "key",.ref q)]⟩ >>= _) _ _ s;refine Mj (wpAny_of_eq (show Nn "min" ["key","default"] 0 ⟨[],[(Str.ofString "key",.ref q)]⟩=pure [some (.ref q),none] from rfl) (Mj (Mn (Mj (wpAny_pyIter_dict ds hd ?_)))));refine Mj (Nd ?_ (Ia _));rw[nm];obtain⟨N,ac⟩:∃ N:Obj,N={ cls:=Value.type "dict_keyiterator",data:=Data.fields #[Value.ref d,Value.int 0 0,Value.int (kvs.length:Int) 0,Value.int (ep:Int) 0] }:=⟨_,rfl⟩;rw[← ac];have sz:(s.heap.push N).objs.size=s.heap.objs.size+1:=by rw[My]
 have al:(s.heap.push N).objs.size≠s.heap.objs.size:=by omega
 have aI:d≠s.heap.objs.size:=HN dl;have fr:∀ b,s.heap.objs.size<=b->s.heap.get? b=none:=λb L=>Mc L;have f:Kp s.heap ((s.heap.push N).push (Nb "list" #[] 0)):=λb o e=>Mo _ (Mo _ e);have D:((s.heap.push N).push (Nb "list" #[] 0)).get? (s.heap.push N).objs.size=some (Nb "list" #[] 0):=Mp _ rfl;have hJ:((s.heap.push N).push (Nb "list" #[] 0)).get? s.heap.objs.size=some N:=Mo _ (Mp _ (by rw[ac];rfl))
 have W:=Walks.dictKeys (prog:=prog) (w:=w) (knd:=knd) (A:=A.in1) H s.heap.objs.size d aI kvs ep;have am:∀(i:Nat)(v:Value),i<kvs.length->(∃ k x,kvs[i]?=some (k,x)/\knd.is k v=true)->∀(h:Heap)(tk:Nat)(Q:Value->Shared->Prop)(E:Value->Shared->Prop),Kp s.heap h->(∀ l t h' B,Kp h h'->Q (.int l t) { s with heap:=h',toks:=B })->wpAny (model prog w) A.in1 (call (.ref q) [v]) Q E { s with heap:=h,toks:=tk }:=λi v _ ⟨k,x,G,p⟩=>turn i v k x G p;refine Mn ⟨Nm Ii _,Ng Jw ?_⟩;rw[Nh Ii _];refine Mj (m:=seqItems? (.ref (s.heap.push N).objs.size)) (Ni D rfl ?_);show wpAny _ A.in1 (tryCatch (pyNext (.ref s.heap.objs.size)) _ >>= _) _ _ _;refine Mj (Nj (W.item 0 _ _ _ r ⟨⟨N,hJ,by rw[ac],by rw[ac];rfl⟩,hd.at' λo e=>f _ _ e⟩ λv M ae O ab y=>?_))
 have n:=f.but (fr _ (Hl _)) y;have u:=y _ _ (by simpa using al) D
 show wpAny _ A.in1 (tryCatch (holding [v] (call (.ref q) [v])) _ >>= _) _ _ _;refine Mj (Nj (Ml (am 0 v r O M ae _ _ n λl t J aA I=>?_)));have an:Kp s.heap J:=λb o e=>I b o (n b o e);have C:=I _ _ u;have g:=W.frame _ _ J ab λb _ o e=>I b o e;have su:=M6 J (s.heap.push N).objs.size (ME λ_=>#[v,.int l t]);obtain⟨c2,aa⟩:∃ c2,(J.update (s.heap.push N).objs.size (ME λ_=>#[v,.int l t])).get? (s.heap.push N).objs.size=some (Nb "list" #[v,.int l t] c2):=⟨_,Nc C λ_=>#[v,.int l t]⟩;have T:(s.heap.push N).objs.size∉[s.heap.objs.size,d]:=λz=>by
  rcases Hs.mp z with z | z
  .exact al z
  .have c:=HB.mp z
   exact NC dl (by rw[← c,sz];exact JV (JB _))
 refine Mj (m:=Nk _ λ_=>#[v,.int l t]) (Nl C rfl ?_);rw[nm];refine Mn ⟨Nm Ii _,DA W (fr _ (Hl _)) (fr _ ∅) al T am (λi v h' B _ ⟨k,x,G,p⟩ j=>a i v k x h' B G p j) _ 0 0 _ _ v l t c2 rfl r (an.same (fr _ ∅) su) aa (W.frame _ _ _ g λb L o e=>(su.2 b (λz=>T (z▸L))).trans e) r O⟩
end
section
variable{X:Cx}{pins:List (Addr×Obj)}{σ:St}{H:Hp}{s:Shared}{h':Heap}{T:Addr}{ps more:Array Value}{t':Nat}
theorem Inv.tab(I:Inv X pins σ H s)(e:H T=some (.tbl ps))(O:∀ b o,b≠T->s.heap.get? b=some o->h'.get? b=some o)(a:h'.get? T=some { cls:=.none,data:=.fields (ps++more) }) :
  Inv X pins σ (upd H T (.tbl (ps++more))) { s with heap:=h',toks:=t' }:=by
 have ne:∀{b:Addr}{o:Option HO},H b=o->o≠some (.tbl ps)->b≠T:=λq n z=>n (by rw[← q,z,e])
 refine I.un ⟨λb o g n _ _=>O b o (ne n (by simp)) g,λb o g n _ _=>⟨o.slots,O b o (ne n (by simp)) g⟩,λb o g n _=>?_,λb o g _=>?_,λb D q=>?_,λb o u q=>?_,λb p q=>?_⟩ λb u q=>?_
 .rw[aq (ne n (by simp))]
  exact n
 .by_cases z:b=T
  .rw[z];exact⟨_,a⟩
  .exact⟨o,O b o z g⟩
 .rw[aq (ne q (by simp))]
  exact q
 .rw[aq (ne q (by simp))]
  exact q
 .by_cases z:b=T
  .subst z;rw[e]at q
   cases q
   exact⟨more,ag⟩
  .exact⟨#[],by rw[aq z,q];simp⟩
 .by_cases z:b=T
  .subst z;rw[ag]at q
   cases q
   exact a
  .rw[aq z]at q;refine(I.hok b u q).stay (λc o f g=>O c o (λy=>?_) g) (λc g=>?_) λc o g=>?_
   .rcases f with N | N
    .exact z (N▸y)
    .rw[y,e]at N;cases N
   .rw[aq (ne g (by simp))];exact g
   .rw[aq (ne g (by simp))];exact g
end
def codO(c:Addr)(q:Str):HO:=.ext λh=>h.CodeRec (.ref c) q
def Tb(q:Str)(f:Pos)(T:Addr)(H:Hp):Prop:=H T=some (.tbl #[])∨∃ c,H T=some (.tbl #[rawInt f.line,rawInt f.col,.ref c])/\H c=some (codO c q)
def TbS(T:Addr)(H H':Hp):Prop:=∀ b o,b≠T->H b=some o->H' b=some o
structure Lam(X:Cx)(c T ct:Addr)(lq:Str):Prop where
 code:X.env.code=.ref c
 hd:JI X.base c T
 bm:∃ bm o,X.mg "__builtins__" = some (.ref bm)/\bm≠builtinsNs/\X.base.get? bm=some o/\o.cls=.type "module"/\o.dict=some builtinsNs/\o.data=.plain
 kind:X.env.kindOf "told" = some .cell
 cl:closureFor vy X.env=pure [(("told" : Str),ct)]
 cell:X.env.cells.lookup ("told" : Str)=some ct
 q:X.env.qual++"<lambda>" = lq
theorem Gk{a:Type}:∀{kvs:List (a×V)}{vs:List (a×Value)},KV kvs vs->∀{i:Nat}{k:a}{y:Value},vs[i]?=some (k,y)->∃ o,o∈kvs/\k=o.1
 |_,_,.nil,i,k,y,e=>by simp at e
 |p::_,q::_,.cons h r,0,k,y,e=>by
  cases e
  exact⟨p,Hu ..,h.1.symm⟩
 |p::_,_::_,.cons _ r,i+1,k,y,e=>by
  obtain⟨o,m,B⟩:=Gk r (show _=some (k,y) from e);exact⟨o,Hq _ m,B⟩
def tMinK(b:Str)(f:Pos)(T:Addr)(it:Nat)(t:TA):TE:=λY H Q=>t Y H λl O=>∃ d m a D,l = [.ref d]/\O d=some (.dK m)/\m≠[]/\Y[it]?=some (some (.ref a))/\O a=some (.lst D)/\Tb b f T O /\
 (∀ o∈m,∃(k:Nat)(n:Int),o.1=.inl (k:Int)/\D[k]?=some (.int n))/\∀ o∈m,∀ C,TbS T O C->Tb b f T C->Q (kV o.1) C
theorem FO{c T ct:Addr}{lq:Str}{it:Nat}{t:TA}{np xp p0 p1 p3 lp kp:Pos}(L:Lam X c T ct lq)(O:X.ex = [])(hc:X.calm=true)(G:Room 0 X.A) (hN:X.N[it]?=some ("told" : Str)) (hv:Vis X.env.scope "told") (hg:Gl X "min") (hm:X.mg "min" = none) (ha:PA X [.Name x xp] t) :
  PE X (.Call (.Name "min" np) [.Name x xp] [⟨some "key",.Lambda (o9 p0) (yK p1 p2 p3) vy lp,kp⟩] pos) (tMinK lq lp T it t):=by
 intro B s Y H Q I h;refine MC (jt I hg hm ub ?_);refine callWith_kw (thn (ha pos B s Y H _ I h) λus l ⟨vs,p,I1,r1,q1⟩=>?_);obtain⟨d,kvs,a,xs,rfl,hd,ab,bb,D,tb,C,q⟩:=q1;obtain⟨u,rfl,ru⟩:=g9 r1
 cases ru
 refine kws_cons (PySem.W.kla_eval rfl ?_);rw[L.q];have bB:0<kvs.length:=List.length_pos_iff.mpr ab;have go:∀(r:Hp)(s2:Shared)(f c':Addr)(pm aI:Value),Inv X B Y r s2->s2.heap.get? f=some (KQ "<lambda>" lq (o9 p0) (yK p1 p2 p3) vy [("told",ct)] pm c' aI)->s2.heap.CodeRec (.ref c') lq->r d=some (.dK kvs)->r a=some (.lst xs)->(∀ kv∈kvs,Q (kV kv.1) r) ->
   wpAny (model X.prog X.w) X.A (call (.builtin "min") [.ref d] [(Str.ofString "key",.ref f)]) (EP X B Y Q) X.xe s2:=by
  intro r s2 f c' pm aI I2 hf aL al aA q2;obtain⟨_,ds,vs,aV,od,E,ep,a4⟩:=za I2.hok al;have vl:=aV.length;refine F9 (knd:=bK X.prog X.w) (kvs:=vs) (ep:=ep) (I2.ok.hd hc) ⟨od,E,a4⟩ ds ∅ ?_ ?_
  .intro i v k y g e2 h' tk Q' E' kk bd;obtain⟨⟨k1,w1⟩,m1,ek⟩:=Gk aV g;obtain⟨j,n,ej,hn⟩:=C _ m1;have a0:k=.inl (j:Int):=ek.trans ej;subst a0;have sh:∃ t,v=Value.int (j:Int) t:=by
    rcases a9 (show oG (.inl (j:Int)) v=true from e2) with⟨i',t',z1,z2⟩ | ⟨_,_,z1,_⟩
    .cases z1;exact⟨t',z2⟩
    .cases z1
   obtain⟨tv,rfl⟩:=sh;obtain⟨hz,its,bv,rv,be⟩:=I2.hok a _ aA;obtain⟨wv,bi,bn⟩:=rv.get hn;obtain⟨tn,rfl⟩:=bn;have jl:j<xs.length:=(Hg.mp hn).1;have bN:=o8;obtain⟨m,a1,a5⟩:=I2.loc;obtain⟨u,ru,lk⟩:=a5 it "told" (.ref a) hN bb hv
   cases ru
   have ap:s2.heap.IsCell ct (some (.ref a)):=by
    rcases lk with⟨kl,_⟩ | ⟨_,c2,ec,z⟩
    .exact NC kl (by rw[L.kind];intro z;cases z)
    .rw[L.cell]at ec;cases ec;exact z
   refine Gi (A:=X.A.in1) (f:=f) (c':=c') (t:=a) (its:=its.toArray) (k:=(j:Int)) ?_ (kk _ _ hf) (aL.keeps kk) (I2.nolimit.keeps kk) (ap.keeps kk) ⟨_,kk _ _ be,rfl,_,rfl⟩ ∅ ∅ (by rw[Hn];simpa using bi) λh3 bR k3=>bd _ _ _ _ k3
   have:=G.dp;show X.A.depth<recursionLimit;omega
  .intro i v k y h' tk g e2 kk;obtain⟨kv,m1,ek⟩:=Gk aV g;refine⟨kV k,r,I2.kept kk,?_,by rw[ek];exact q2 kv m1⟩
   rcases a9 (show oG k v=true from e2) with⟨i',t',rfl,rfl⟩ | ⟨y',t',rfl,rfl⟩
   .exact⟨t',rfl⟩
   .exact⟨t',rfl⟩
 have a6:l.heap.BuiltinsAt X.mg T:=by
  obtain⟨bm,o,b1,b2,b3,b4,b5,b6⟩:=L.bm;obtain⟨o1,ae,bp,g1,g2,_⟩:=id I1.mod.glob;have hT:p T≠none:=by
   rcases tb with z | ⟨_,z,_⟩<;>rw[z]<;>simp
  refine⟨bm,o,b1,b2,λz=>?_,λz=>?_,I1.bk _ _ b3,b4,b5,b6⟩
  .rw[z,g1]at b3;cases b3;rw[g2]at b6;cases b6
  .rw[z]at b3;exact hT (I1.bs _ _ b3).2
 have neT:Ma≠T:=λz=>by
  obtain⟨o1,ae,bp,g1,g2,_⟩:=id I1.mod.glob;have:=(I1.bs _ _ g1).2;rw[z]at this;rcases tb with y | ⟨_,y,_⟩<;>rw[y]at this<;>cases this
 have a7:=I1.mod.glob.keeps I1.bk;rcases tb with hT | ⟨c',hT,ba⟩
 .have gT:l.heap.get? T=some (LH #[]):=I1.hok T _ hT
  refine PySem.W.kla_makeFunction (mg:=X.mg) L.cl I1.ok.glob a7 L.code (L.hd.keeps I1.bk) gT trivial rfl neT a6 λc' aI h' tk bq a2 aa an am=>kws_nil ?_;have cT:c'≠T:=λz=>by
   have:=L9 gT;rw[← z]at this;exact NC this (JV a2)
  have I2:=I1.tab (more:=#[rawInt lp.line,rawInt lp.col,.ref c']) (t':=tk) hT (λb o n e=>bq b o n e) (by simpa using am)
  have e0:(#[]:Array Value)++#[rawInt lp.line,rawInt lp.col,.ref c']=#[rawInt lp.line,rawInt lp.col,.ref c']:=by simp
  rw[e0]at I2;have fr:l.heap.get? c'=none:=Mc a2;have a3:p c'=none:=I1.hok.none_of fr;obtain⟨c3,oc,bU,t3,ec,g1,g2,g3⟩:=id an
  cases ec
  have I3:=I2.xtrack (a:=c') (o:=codO c' lq) (I1.xok O fr (by rw[aq cT];exact a3)) ⟨an,⟨oc,g1⟩,λM J ⟨c4,o4,v4,t4,z1,z2,z3,z4⟩ kk=>by cases z1;exact⟨_,o4,v4,t4,rfl,kk o4 z2,z3,z4⟩⟩
  have aS:Kp h' (h'.push (KQ "<lambda>" lq (o9 p0) (yK p1 p2 p3) vy [("told",ct)] ((X.mg "__name__").getD .none) c' aI)):=λb o e=>Mo _ e;have I4:=I3.kept (t':=tk) aS;have dT:d≠T:=λz=>by rw[z,hT]at hd;cases hd
  have aT:a≠T:=λz=>by rw[z,hT]at D;cases D
  have dc:d≠c':=λz=>by rw[z,a3]at hd;cases hd
  have ac:a≠c':=λz=>by rw[z,a3]at D;cases D
  have sm:TbS T p (upd (upd p T (.tbl #[rawInt lp.line,rawInt lp.col,.ref c'])) c' (codO c' lq)):=λb o n e=>by
   rw[aq (λz=>by rw[z,a3]at e;cases e),aq n]
   exact e
  refine go _ _ h'.objs.size c' _ _ I4 (Mp _ rfl) (an.keeps aS) (sm _ _ dT hd) (sm _ _ aT D) λkv m=>q kv m _ sm (.inr ⟨c',by rw[aq (Ne.symm cT)];exact ag,ag⟩)
 .have gT:l.heap.get? T=some (LH #[rawInt lp.line,rawInt lp.col,.ref c']):=I1.hok T _ hT
  obtain⟨an,_,_⟩:=(show bG X.prog X.w p l.heap c' (codO c' lq) from I1.hok c' _ ba);refine PySem.W.kla_makeFunctionHit (mg:=X.mg) (cv:=.ref c') L.cl I1.ok.glob a7 L.code (L.hd.keeps I1.bk) gT trivial (by simp[codeAmong,rawInt]) a6 λaI h' tk kk sz=>kws_nil ?_
  have aS:Kp l.heap (h'.push (KQ "<lambda>" lq (o9 p0) (yK p1 p2 p3) vy [("told",ct)] ((X.mg "__name__").getD .none) c' aI)):=λb o e=>Mo _ (kk b o e);have I4:=I1.kept (t':=tk) aS;exact go _ _ h'.objs.size c' _ _ I4 (Mp _ rfl) (an.keeps aS) hd D λkv m=>q kv m _ (λb o _ e=>e) (.inr ⟨c',hT,ba⟩)
abbrev Bm(mg:Str->Option Value)(h:Heap):Prop:=∃ a o,mg "__builtins__" = some (.ref a)/\a≠builtinsNs/\h.get? a=some o/\o.cls=.type "module"/\o.dict=some builtinsNs/\o.data=.plain
theorem A5{mb:Str->Option Value}{CX:CXT}{k:Nat}{c T:Addr}
  (KX:K.In s.heap) (t:s.heap.Ns Ma mg) (L:s.heap.Ns builtinsNs mb) (aV:∀ x:Str,x≠"__name__"->mb x=Mb x) (al:s.heap.NoLimit) (gens:s.gens=#[])
  (f:JI s.heap c T) (O:s.heap.get? T=some (LH #[])) (nT:K.lookup T=none) (am:Bm mg s.heap)
  (A:s.heap.get? a=some { cls:=.type "list",data:=.seq vs.toArray }) (hi:MI vs ns) (hl:ns.length<=LZ) (G:Room k callerA)
  (F:∀ base:Heap,K.In base->base.Ns Ma mg->JI base c T->Bm mg base->FnOk P w K mg base CX k p fd [x] sp) (bind:∀(s:Shared)(u:Value),BindsTo s fd ⟨[u],[]⟩ [(x,u)])
  (ac:∀ H:Hp,H T=some (.tbl #[])->SqL K H a (ns.map V.int)->sp [.ref a] H (λv _=>v=.bl true) λ_ _ _=>False)
  (aA:∀ H e s',CX [] H s (λ_ _ _=>False) e s'->False) :
  Mx (model P w) callerA (.call (.ref p) ⟨[.ref a],[]⟩) (λr s'=>r=.ok (.ret (.bool true))/\OldK s.heap s'.heap/\s'.os=s.os/\AllBare s'.gens) s:=by
 have rv:=rK hi;have aT:a≠T:=λz=>by rw[z,O]at A;cases A
 obtain⟨H,eT,eS,aa,only,frz⟩:∃ H:Hp,H T=some (.tbl #[])/\SqL K H a (ns.map V.int)/\HOk P w H s.heap/\(∀ b,H b≠none->(b=T∨b=a)/\K.lookup b=none)/\(∀ b u,H b=some u->b≠T->∃ o I,u=.frz o (.lst I)):=by
  cases C:K.lookup a with
  |some o =>
   have e:=KX a o C;rw[A]at e
   cases e
   refine⟨upd (λ_=>none) T (.tbl #[]),ag,.inr ⟨_,vs.toArray,_,C,rfl,rfl,rfl,by rw[HE,hi.length];exact hl,by simpa using rv⟩,λb u z=>?_,λb z=>?_,λb u z n=>?_⟩
   .by_cases y:b=T
    .subst y;rw[ag]at z;cases z;exact O
    .rw[aq y]at z;cases z
   .by_cases y:b=T
    .exact⟨.inl y,y▸nT⟩
    .rw[aq y]at z;exact NC rfl z
   .rw[aq n]at z;cases z
  |none =>
   refine⟨upd (upd (λ_=>none) a (.frz { cls:=.type "list",data:=.seq vs.toArray } (.lst (ns.map V.int)))) T (.tbl #[]),ag,.inl (.inr ⟨{ cls:=.type "list",data:=.seq vs.toArray },by rw[aq aT];exact ag⟩),λb u z=>?_,λb z=>?_,λb u z n=>?_⟩
   .by_cases y:b=T
    .subst y;rw[ag]at z;cases z;exact O
    .rw[aq y]at z;by_cases N:b=a
     .subst N;rw[ag]at z;cases z;exact⟨A,by rw[Hi];exact hl,vs,_,rv,A⟩
     .rw[aq N]at z;cases z
   .by_cases y:b=T
    .exact⟨.inl y,y▸nT⟩
    .rw[aq y]at z;by_cases N:b=a
     .exact⟨.inr N,N▸C⟩
     .rw[aq N]at z;exact NC rfl z
   .rw[aq n]at z;by_cases N:b=a
    .subst N;rw[ag]at z;cases z;exact⟨_,_,rfl⟩
    .rw[aq N]at z;cases z
 have aL:∀{b:Addr}{o:Obj},s.heap.get? b=some o->o.cls≠.none->o.cls≠.type "list"->H b=none:=λ{b o} e n1 n2=>by
  cases q:H b with
  |none=>rfl
  |some u =>
   rcases(only b (by rw[q];simp)).1 with z | z
   .rw[z,O]at e;cases e;exact NC rfl n1
   .rw[z,A]at e;cases e;exact NC rfl n2
 have a0:∀{b:Addr}{o:Obj}{B:Array DictEntry}{l:Nat},s.heap.get? b=some o->o.data=.dict B l->H b=none:=λ{b o B l} e d=>by
  cases q:H b with
  |none=>rfl
  |some u =>
   rcases(only b (by rw[q];simp)).1 with z | z
   .rw[z,O]at e;cases e;cases d
   .rw[z,A]at e;cases e;cases d
 have an:∀{b:Addr}{m:Str->Option Value},s.heap.Ns b m->(hidT s.heap H).Ns b m:=λ{b m} ⟨o,B,l,e,d,r⟩=>⟨o,B,l,mU e (a0 e d),d,r⟩
 have kB:K.In (hidT s.heap H):=λb o e=>mU (KX b o e) (by
  cases q:H b with
  |none=>rfl
  |some u=>rw[(only b (by rw[q];simp)).2]at e;cases e)
 have cB:JI (hidT s.heap H) c T:=by
  obtain⟨o,v2,aS,tf,aI,tg,a1,text,tt,Y,E,r⟩:=f;exact⟨o,v2,aS,tf,aI,tg,a1,text,tt,mU Y (aL Y (by rw[E];simp) (by rw[E];simp)),E,r⟩
 have bB:Bm mg (hidT s.heap H):=by
  obtain⟨bm,o,b1,b2,b3,b4,r⟩:=am;exact⟨bm,o,b1,b2,mU b3 (aL b3 (by rw[b4];simp) (by rw[b4];simp)),b4,r⟩
 have md:Mod K mg (hidT s.heap H):=⟨kB,an t,⟨mb,an L,aV⟩,let ⟨mc,M,J⟩:=al;⟨mc,an M,J⟩⟩;have e0:Env0 P w K mg (hidT s.heap H) callerA [] s H:=⟨rfl,md,λb o e=>F4 e,Nat.le_of_eq (Bq _ _),trivial,λb z=>NC (show b∈([]:List Addr) from z) (by simp),aa,.of_eq gens⟩
 refine MB ((F _ kB (an t) cB bB).run callerA [] s H ⟨[.ref a],[]⟩ [.ref a] [.ref a] _ _ G e0 (bind s (.ref a)) (.cons rfl .nil) (ac H eT eS)) λr s' h=>?_
 cases r with
 |error e=>exact(aA H e s' h).elim
 |ok fl =>
  cases fl with
  |next=>exact False.elim h
  |brk=>exact False.elim h
  |cont=>exact False.elim h
  |ret u =>
   obtain⟨v,i,os,ae,un,ap,D,q⟩:=h;have q':v=.bl true:=q;subst q';obtain rfl:u=Value.bool true:=D;have nil:∀ b:Addr,b∉frs []:=λb z=>NC (show b∈([]:List Addr) from z) (by simp)
   have gT:∃ ab,s'.heap.get? T=some { cls:=.none,data:=.fields (#[]++ab) }:=by
    obtain⟨ab,e⟩:=un.tbls T _ eT;exact⟨ab,ap T _ e⟩
   have kp:∀ b o,b≠T->s.heap.get? b=some o->s'.heap.get? b=some o:=λb o n e=>by
    cases q:H b with
    |none=>exact un.keep b o e q (nil b) (by simp)
    |some u =>
     obtain⟨ob,I,rfl⟩:=frz b u q n;have Q:=un.frzs b ob _ q;obtain⟨j,_⟩:=aa b _ q;obtain⟨g2,_⟩:=ap b _ Q;rw[e]at j;cases j;exact g2
   refine⟨rfl,⟨λb o e=>?_,λb o e=>?_⟩,os,ae⟩
   .by_cases z:b=T
    .subst z;rw[O]at e
     cases e
     obtain⟨ab,g⟩:=gT;exact .inr (.inl ⟨(f.tab O).isCodeTable,rfl,#[],ab,rfl,g⟩)
    .exact .inl (kp b o z e)
   .by_cases z:b=T
    .subst z;obtain⟨ab,g⟩:=gT;exact⟨_,g⟩
    .exact⟨o,kp b o z e⟩
theorem walk_ofT{l:Lz}{k:Nat}{q:Program}{E:List Str}{XP:(Str->Option Value)->Heap->Prop}{YP:World->Heap->Prop}{d df:DefRec}{K:Params->Hj}{CX:CXT}{sp:Hj->Addr->Sp}{fn:Str}
  (y:l.most=some n) (ae:n<=LZ) (ab:d.params.defaults = []) (B:Room k callerA) (hY:∀(w:World)(h:Heap),YP w h->(K w.params).In h)
  (A:(recsOf q).find? (λe=>e.name == fn)=some df)
  (F:∀(w:World)(mg:Str->Option Value)(p:Addr)(h:Heap),(K w.params).In h->h.Ns Ma mg->mg d.name=some (.ref p)->∃ fd:FuncData,(∀(s:Shared)(u:Value),BindsTo s fd ⟨[u],[]⟩ [(x,u)]) /\
   ∃ c T,JP (K w.params) fn=some (c,T)/\(K w.params).lookup T=none/\∀ base:Heap,(K w.params).In base->base.Ns Ma mg->JI base c T->Bm mg base->FnOk l.prog w (K w.params) mg base CX k p fd [x] (sp (K w.params) T))
  (I:∀(K:Hj)(T:Addr)(H:Hp)(a:Addr)(ns:List Int),ns.length<=n->H T=some (.tbl #[])->SqL K H a (ns.map V.int)->sp K T [.ref a] H (λv _=>v=.bl true) λ_ _ _=>False)
  (am:∀(H:Hp)(s:Shared)(e:Value)(s':Shared),CX [] H s (λ_ _ _=>False) e s'->False) :
  PySem.W.WalkO q E XP YP l.row.toRowW d [] (λf vs=>PySem.call f vs):=by
 refine Att.attach_call y ab λw an i mg mb p o O Q r a vs ns G Y D hd z al ac aa j m=>?_;have KX:=hY w _ Y;obtain⟨fd,L,c,T,N,nT,hF⟩:=F w mg p _ KX G.T.g al;obtain⟨C,t⟩:=PySem.W.tab_of G.T KX A N;exact A5 KX G.T.g G.T.b G.T.builtins G.T.nolimit m C t nT G.T.bmain ac aa (Io j ae) B hF L (λH M J=>I _ T H a ns j M J) λH e s'=>am H i e s'
theorem op_neE(T:X.A.units+64<cLine):OpR X (Mg .NotEq) (λx y H Q=>∃ a b kvs,x=.ref a/\y=.ref b/\H a=some (.dK kvs)/\H b=some (.dK [])/\Q (.bl (!kvs.isEmpty)) H):=by
 intro B s Y H x y v u Q I k c h;obtain⟨a,b,kvs,rfl,rfl,g,L,q⟩:=h
 cases k
 cases c
 obtain⟨_,C,l,o,f⟩:=za I.hok g;obtain⟨_,O,m,i,t⟩:=za I.hok L;have j:=o.length;have d:=i.length;have E:m = []:=JG d.symm;subst E;refine PySem.W.keq_ne (r:=true) C O f t ∅ (λe=>?_) ⟨.bl (!(l.length == 0&&true)),H,I,rfl,?_⟩
 .have G:l = []:=JG e
  subst G;exact .nil
 .cases kvs with
  |nil =>
   cases l with
   |nil=>exact q
   |cons p r=>cases j
  |cons p r =>
   cases l with
   |nil=>cases j
   |cons p r=>exact q
def lexB:List (Int×Int)->Bool
 |[]=>false
 | (x,y)::r=>if x=y then lexB r else decide (x<y)
section
variable{prog:Program}{w:World}{A:Around}{E:Value->Shared->Prop}{s:Shared}
def Ps:List (Value×Value)->List (Int×Int)->Prop
 |[],[]=>True
 | (u,v)::r,(x,y)::q=>(∃ t,u=.int x t)/\(∃ t,v=.int y t)/\Ps r q
 |_,_=>False
theorem Fo{b:Addr}{oa:Obj}{us vs:Array Value}{ps:List (Int×Int)}{P:PySem.Fin->Shared->Prop}(l:s.heap.get? a=some oa)(C:oa.data=.seq us N)(H:s.heap.get? b=some ob) (D:ob.cls=.type "tuple") (O:ob.data=.seq vs j)
  (B:Ps (us.toList.zip vs.toList) ps) (hl:us.size=vs.size) (h:P (.done (.ret (.bool (lexB ps)))) s):wpAny (model prog w) A (Builtin.«tuple.__lt__» ⟨[.ref a,.ref b],[]⟩) P E s:=by
 show wpAny _ _ (isInstance (.ref b) (.type "tuple") >>= _) _ _ s;refine Mj (MQ (T:="tuple") ⟨ob,H,D⟩ isSubtype_tuple_tuple ?_);simp only[KN,II,if_false];refine Mj (wpAny_tupleItemsOf l C (Mj (wpAny_tupleItemsOf H O (Mj ?_))));refine wpAny_forIn_list _ (λrest r d=>r.1=none/\d=s/\∃ q,Ps rest q/\lexB q=lexB ps) _ ?_ ?_ _ _ ⟨rfl,rfl,ps,B,rfl⟩
 .rintro⟨u,v⟩ rest r d ⟨G,rfl,q,n,e⟩;match q,n with
  | (x,y)::q,⟨⟨t,M⟩,⟨m,J⟩,k⟩ =>
   subst M;subst J;refine Mj (wpAny_eqBool_int ?_);by_cases c:x=y
   .have:(x == y)=true:=by simp[c]
    rw[this];simp only[KN,II,if_false];refine Mn ⟨rfl,rfl,q,k,?_⟩;rw[← e];show lexB q=if x=y then lexB q else decide (x<y);rw[NA c]
   .have:(x == y)=false:=by simp[c]
    rw[this];simp only[Bool.not_false,if_true];have p:lexB ps=decide (x<y):=by
     rw[← e];show(if x=y then lexB q else decide (x<y))=_;rw[NB c]
    rw[p]at h;refine Mj (wpAny_rule (Mj (CmpOf.ints_lt (prog:=prog) (w:=w) (A:=A) (P:=λ(i:Nat) v=>∃ t,v=.int (if i=0 then x else y) t) (λi=>if i=0 then x else y) (λi v h=>h) 0 1 _ _ _ _ _ ⟨t,rfl⟩ ⟨m,rfl⟩ ?_)));exact Mj (Mn (Mn (Mn h)))
 .rintro⟨o,g⟩ d ⟨G,rfl,q,n,e⟩;simp only at G;subst G;have I:q = []:=by
   cases q with
   |nil=>rfl
   |cons z q=>exact n.elim
  subst I;have f:Builtin.Tuple.tupleCompareSizes CmpOp.Lt us.size vs.size=Value.bool (lexB ps):=by
   rw[← e,hl];show Value.bool (decide (vs.size<vs.size))=Value.bool false;rw[LY (Iz _)]
  show wpAny _ _ (ret (Builtin.Tuple.tupleCompareSizes CmpOp.Lt us.size vs.size)) _ _ _;rw[f];exact Mn h
theorem tup_lt{b:Addr}{oa:Obj}{us vs:Array Value}{ps:List (Int×Int)}(l:s.heap.get? a=some oa) (k:oa.cls=.type "tuple") (C:oa.data=.seq us N) (H:s.heap.get? b=some ob) (D:ob.cls=.type "tuple") (O:ob.data=.seq vs i)
  (B:Ps (us.toList.zip vs.toList) ps) (hl:us.size=vs.size) (t:A.units<cLine) (h:Q (.bool (lexB ps)) s):wpAny (model prog w) A (richCompare .Lt (.ref a) (.ref b)) Q E s:=by
 refine wpAny_richCompare_same_room (op:=.Lt) (T:="tuple") ⟨oa,l,k⟩ ⟨ob,H,D⟩ PySem.F.slot_tuple_lt (MX PySem.F.slot_tuple_lt ⟨oa,l,k⟩ PySem.F.entry_tuple_lt ?_ (PySem.F.args_tuple_lt_2 _ _)) t;exact Fo l C H D O B hl ⟨_,rfl,(λz=>by cases z),h⟩
theorem AX{S:Addr}{P:Nat->Value->Prop}{St:Nat->Heap->Prop}{g:Heap}(W:Walks prog w A.in1 a fp [a] n P St)(bt:Nat->Nat->Bool)(gJ:g.get? a=none)(gS:g.get? S=none)(ab:S≠a)(l:S∉fp)
  (aa:∀ i j u v,i<n->j<n->P i u->P j v->∀(h:Heap)(tk:Nat)(Q:Value->Shared->Prop)(E:Value->Shared->Prop),Kp g h->Q (.bool (bt i j)) { s with heap:=h,toks:=tk }->wpAny (model prog w) A.in1 (richCompare .Lt u v) Q E { s with heap:=h,toks:=tk })
  (G:∀ v h' B,P (argBest bt (n-1)) v->Kp g h'->R (.ok (.ret v)) { s with heap:=h',toks:=B }) :
  ∀(r j:Nat)(h:Heap)(tk:Nat)(I:Value)(c:Nat),n-(j+1)=r->j+1<=n->Kp g h->h.get? S=some (Nb "list" #[I,I] c)->St (j+1) h->P (argBest bt j) I->argBest bt j<n ->
   Mx (model prog w) A (.builtin "min.loop" ⟨[.ref a,.none,.ref S],[]⟩) R { s with heap:=h,toks:=tk }:=by
 intro r;induction r with
 |zero =>
  intro j h tk I c er H kg D st T L;have C:j+1=n:=by omega
  refine Ng Jw ?_;rw[Nh Ii _];refine Mj (m:=seqItems? (.ref S)) (Ni D rfl ?_);show wpAny _ A.in1 (tryCatch (pyNext (.ref a)) _ >>= _) _ _ _;refine Mj (Nj (W.done _ _ _ (by rw[← C];exact st) λh' B k=>?_))
  have ac:=kg.but gJ k;have f:=k S _ (by simpa using ab) D
  have O:=M6 h' S (ME λ_=>(#[]:Array Value));refine Mj (m:=Nk S λ_=>#[]) (Nl f rfl (Mj (Na (Mn ?_))));exact G I _ _ (by rw[← C];exact T) (ac.same gS O)
 |succ r Y =>
  intro j h tk I c er H kg D st T L;have lt:j+1<n:=by omega
  refine Ng Jw ?_;rw[Nh Ii _];refine Mj (m:=seqItems? (.ref S)) (Ni D rfl ?_);show wpAny _ A.in1 (tryCatch (pyNext (.ref a)) _ >>= _) _ _ _;refine Mj (Nj (W.item (j+1) _ _ _ lt st λv M N p x y=>?_));have q:=kg.but gJ y;have t:=y S _ (by simpa using ab) D
  show wpAny _ A.in1 (tryCatch (holding [v,v] (richCompare .Lt v I >>= _)) _ >>= _) _ _ _;refine Mj (Nj (Ml (Mj (aa (j+1) (argBest bt j) v I lt L p T M N _ _ q ?_))));refine Mj (Ml (Mh (Mj (Na (Mn ?_)))));have eA:argBest bt (j+1)=if bt (j+1) (argBest bt j)=true then j+1 else argBest bt j:=rfl
  cases cc:bt (j+1) (argBest bt j) with
  |true =>
   have O:=M6 M S (ME λ_=>#[v,v]);obtain⟨c2,d⟩:∃ c2,(M.update S (ME λ_=>#[v,v])).get? S=some (Nb "list" #[v,v] c2):=⟨_,Nc t λ_=>#[v,v]⟩;simp;refine Mj (Nl t rfl (Mj (Na ?_)));rw[NA cc]at eA;refine Mn ⟨Nm Ii _,Y (j+1) _ _ v c2 ∅ lt (q.same gS O) d (W.frame _ _ _ x λb L o e=>(O.2 b (λz=>l (z▸L))).trans e) (by rw[eA];exact p) (by rw[eA];exact lt)⟩
  |false =>
   simp;rw[NB (by rw[cc];simp)]at eA
   refine Mj (Na (Mn ?_));refine⟨Nm Ii _,Y (j+1) _ _ I c ∅ lt q t x (by rw[eA];exact T) (by rw[eA];exact L)⟩
theorem DB{l:Addr}(bt:Nat->Nat->Bool)(H:A.handled=none)(hl:s.heap.IsList l vs.toArray)(r:0<vs.length)
  (Y:∀(i j:Nat)(u v:Value),vs[i]?=some u->vs[j]?=some v->∀(h:Heap)(tk:Nat)(Q:Value->Shared->Prop)(E:Value->Shared->Prop),Kp s.heap h->Q (.bool (bt i j)) { s with heap:=h,toks:=tk }->wpAny (model prog w) A.in1 (richCompare .Lt u v) Q E { s with heap:=h,toks:=tk })
  (G:∀ v h' B,vs[argBest bt (vs.length-1)]?=some v->Kp s.heap h'->Q v { s with heap:=h',toks:=B }) :
  wpAny (model prog w) A (call (.builtin "min") [.ref l]) Q E s:=by
 have I:(toString "min"++toString ".loop" : String) = "min.loop":=by decide
 obtain⟨ol,ac,_⟩:=id hl;have ll:l<s.heap.objs.size:=L9 ac;refine kmk_tree PySem.F.kind_min PySem.F.plain_min PySem.F.entry_min (PySem.F.args_min1 _) ?_;show wpAny _ A.in1 (Nn "min" ["key","default"] 0 ⟨[],[]⟩ >>= _) _ _ s;refine Mj (wpAny_of_eq (show Nn "min" ["key","default"] 0 ⟨[],[]⟩=pure [none,none] from rfl) (Mj (Mn (Mj (wpAny_pyIter_list hl ?_)))));refine Mj (Nd ?_ (Ia _));rw[I];obtain⟨N,f⟩:∃ N:Obj,N={ cls:=Value.type "list_iterator",data:=Data.fields #[Value.ref l,Value.int 0 0] }:=⟨_,rfl⟩;rw[← f];have sz:(s.heap.push N).objs.size=s.heap.objs.size+1:=by rw[My]
 have n:(s.heap.push N).objs.size≠s.heap.objs.size:=by omega
 have aa:l≠s.heap.objs.size:=HN ll;have C:∀ b,s.heap.objs.size<=b->s.heap.get? b=none:=λb L=>Mc L;have d:Kp s.heap ((s.heap.push N).push (Nb "list" #[] 0)):=λb o e=>Mo _ (Mo _ e);have D:((s.heap.push N).push (Nb "list" #[] 0)).get? (s.heap.push N).objs.size=some (Nb "list" #[] 0):=Mp _ rfl;have hJ:((s.heap.push N).push (Nb "list" #[] 0)).get? s.heap.objs.size=some N:=Mo _ (Mp _ (by rw[f];rfl))
 have W:=Walks.list (prog:=prog) (w:=w) (A:=A.in1) H s.heap.objs.size l aa vs.toArray;have ae:vs.toArray.size=vs.length:=HE ..;rw[ae]at W;have ab:∀ i j u v,i<vs.length->j<vs.length->vs.toArray[i]?=some u->vs.toArray[j]?=some v->∀(h:Heap)(tk:Nat)(Q:Value->Shared->Prop)(E:Value->Shared->Prop),Kp s.heap h->Q (.bool (bt i j)) { s with heap:=h,toks:=tk }->wpAny (model prog w) A.in1 (richCompare .Lt u v) Q E { s with heap:=h,toks:=tk }:=λi j u v _ _ M J=>Y i j u v (by simpa using M) (by simpa using J)
 refine Mn ⟨Nm Ii _,Ng Jw ?_⟩;rw[Nh Ii _];refine Mj (m:=seqItems? (.ref (s.heap.push N).objs.size)) (Ni D rfl ?_);show wpAny _ A.in1 (tryCatch (pyNext (.ref s.heap.objs.size)) _ >>= _) _ _ _;refine Mj (Nj (W.item 0 _ _ _ r ⟨⟨N,hJ,by rw[f],by rw[f];rfl⟩,hl.at λo e=>d _ _ e⟩ λv M g p x y=>?_))
 have q:=d.but (C _ (Hl _)) y;have t:=y _ _ (by simpa using n) D
 have O:=M6 M (s.heap.push N).objs.size (ME λ_=>#[v,v]);obtain⟨c2,a⟩:∃ c2,(M.update (s.heap.push N).objs.size (ME λ_=>#[v,v])).get? (s.heap.push N).objs.size=some (Nb "list" #[v,v] c2):=⟨_,Nc t λ_=>#[v,v]⟩;have T:(s.heap.push N).objs.size∉[s.heap.objs.size,l]:=λz=>by
  rcases Hs.mp z with z | z
  .exact n z
  .have c:=HB.mp z
   exact NC ll (by rw[← c,sz];exact JV (JB _))
 refine Mj (m:=Nk _ λ_=>#[v,v]) (Nl t rfl ?_);rw[I];refine Mn ⟨Nm Ii _,AX W bt (C _ (Hl _)) (C _ ∅) n T ab (λv h' B e k=>G v h' B (by simpa using e) k) _ 0 _ _ v c2 rfl r (q.same (C _ ∅) O) a (W.frame _ _ _ x λb L o e=>(O.2 b (λz=>T (z▸L))).trans e) p r⟩
end
abbrev T3:=Int×Int×Int
def TrA(H:Hp)(v:V)(t:T3):Prop:=∃ a,v=.ref a/\H a=some (.tup [.int t.1,.int t.2.1,.int t.2.2])
def lt3(a b:T3):Bool:=lexB [(a.1,b.1),(a.2.1,b.2.1),(a.2.2,b.2.2)]
theorem lt3_le{a b:T3}(h:lt3 a b=true):a.1<=b.1:=by
 unfold lt3 lexB at h;by_cases c:a.1=b.1
 .omega
 .rw[NB c]at h;have:=Np h;omega
theorem lt3_ge{a b:T3}(h:lt3 a b=false):b.1<=a.1:=by
 unfold lt3 lexB at h;by_cases c:a.1=b.1
 .omega
 .rw[NB c]at h;have:=of_decide_eq_false h;omega
theorem best3(W:Nat->T3):∀ k,argBest (λi j=>lt3 (W i) (W j)) k<=k/\∀ j,j<=k->(W (argBest (λi j=>lt3 (W i) (W j)) k)).1<=(W j).1
 |0=>by
  refine⟨Hl _,λj H=>?_⟩;have e:j=0:=by omega
  rw[e];exact Jo _
 |k+1=>by
  obtain⟨M,J⟩:=best3 W k;have e:argBest (λi j=>lt3 (W i) (W j)) (k+1)=if lt3 (W (k+1)) (W (argBest (λi j=>lt3 (W i) (W j)) k))=true then k+1 else argBest (λi j=>lt3 (W i) (W j)) k:=rfl;rw[e]
  cases c:lt3 (W (k+1)) (W (argBest (λi j=>lt3 (W i) (W j)) k)) with
  |true =>
   rw[NA rfl];have f:=lt3_le c;refine⟨Hl _,λj H=>?_⟩;by_cases z:j=k+1
   .subst z;exact Jo _
   .have:=J j ∅;omega
  |false =>
   rw[NB HG];have f:=lt3_ge c;refine⟨∅,λj H=>?_⟩
   by_cases z:j=k+1
   .subst z;exact f
   .exact J j ∅
inductive rMin3(K:Hj)(xs:List V)(H:L2.Hp)(Q:L2.VK):Prop
 |mk (p ys ws:_) (h0_:xs = [.ref p])(h1_:SqL K H p ys)(h2_:LsAt TrA H ys ws)(h3_:ws≠[])(h4_:∀(i:Nat)(y:V)(t:T3),ys[i]?=some y->ws[i]?=some t->(∀ t'∈ws,t.1<=t'.1)->Q y H)
theorem Cg(f:X.calm=true)(E:X.A.units+64<cLine):fH X (.builtin "min") (rMin3 X.K):=by
 intro B s Y H D N Q I r h;obtain⟨p,M,x,rfl,hS,hL,aa,q⟩:=h;obtain⟨u,rfl,z⟩:=g9 r
 cases z
 obtain⟨O,rv,pl,_⟩:=I.list hS;have yl:=hL.1;have il:=rv.length;have wp:0<x.length:=List.length_pos_iff.mpr aa;let W:Nat->T3:=λi=>x.getD i (0,0,0);have Wi:∀ i t,x[i]?=some t->W i=t:=λi t e=>by show x.getD i (0,0,0)=t;rw[Hz,e];rfl
 have look:∀(i:Nat)(v:Value),O[i]?=some v->∃ a o y1 y2 y3 n,v=.ref a/\s.heap.get? a=some o/\o.cls=.type "tuple"/\o.data=.seq #[y1,y2,y3] n/\(∃ t,y1=.int (W i).1 t)/\(∃ t,y2=.int (W i).2.1 t)/\(∃ t,y3=.int (W i).2.2 t):=λi v e=>by
  have d:i<M.length:=by rw[il];exact(Hg.mp e).1
  obtain⟨t,J,a,ea,g⟩:=hL.get (Hf d);obtain⟨v',ev,al⟩:=rv.get (Hf d);rw[e]at ev
  cases ev
  rw[ea]at al;obtain rfl:v=.ref a:=al;obtain⟨_,ap,rt,o,T,ae,n,hd⟩:=I.hok a _ g;rw[Wi i t J];obtain⟨y1,u1,rfl,w,c1⟩:=Vals.unc rt;obtain⟨y2,u2,rfl,r2,c2⟩:=Vals.unc c1;obtain⟨y3,u3,rfl,r3,c3⟩:=Vals.unc c2;cases c3
  exact⟨a,o,y1,y2,y3,n,rfl,T,ae,hd,w,r2,r3⟩
 refine DB (vs:=O) (λi j=>lt3 (W i) (W j)) (I.ok.hd f) pl.isList ∅ ?_ ?_
 .intro i j u v an ac h tk Q' E' k hQ;have am:X.A.in1.units<cLine:=by
   have e:X.A.in1.units<=X.A.units+64:=by simp[Around.in1]
   omega
  obtain⟨a,oa,y1,y2,y3,n,rfl,ga,ca,da,w,r2,r3⟩:=look i u an;obtain⟨b,ob,y,L,z3,m,rfl,gb,cb,db,C,l,q3⟩:=look j v ac;exact tup_lt (k _ _ ga) ca da (k _ _ gb) cb db (ps:=[((W i).1,(W j).1),((W i).2.1,(W j).2.1),((W i).2.2,(W j).2.2)]) ⟨w,C,r2,l,r3,q3,trivial⟩ rfl am hQ
 .intro v G tk e k;obtain⟨b1,b2⟩:=best3 W (O.length-1);have d:argBest (λi j=>lt3 (W i) (W j)) (O.length-1)<M.length:=by omega
  obtain⟨t,J,_⟩:=hL.get (Hf d);obtain⟨v',ev,al⟩:=rv.get (Hf d);rw[e]at ev
  cases ev
  refine⟨_,H,I.kept k,al,q _ _ t (Hf d) J λt' ab=>?_⟩;obtain⟨j,c,ej⟩:=IK ab;have:=b2 j ∅
  rw[Wi _ t J,Wi j t' (by rw[Hf c,ej])]at this
  exact this
theorem Ep{xs:Array Nat}(l:xs.toList.Pairwise (· < ·)):∀(g lo hi:Nat),hi-lo<=g->lo<=hi->hi<=xs.size->(∀ i,i<lo->xs.getD i j<j)->(∀ i,hi<=i->i<xs.size->j<=xs.getD i j) ->
  (∀ i,i<SetTable.below.go xs j g lo hi->xs.getD i j<j)/\(∀ i,SetTable.below.go xs j g lo hi<=i->i<xs.size->j<=xs.getD i j)/\SetTable.below.go xs j g lo hi<=xs.size:=by
 have up:∀ a b,a<b->b<xs.size->xs.getD a j<xs.getD b j:=λa b m L=>by
  have A:a<xs.size:=Jy m L;have:=JT.mp l a b (by simpa using A) (by simpa using L) m
  simpa[Ko,A,L] using this
 intro g;induction g with
 |zero =>
  intro lo hi M J f C o;have:lo=hi:=by omega
  subst this;exact⟨C,o,f⟩
 |succ g Y =>
  intro lo hi M J f C o;unfold SetTable.below.go;by_cases c:lo<hi
  .rw[NA c];have s:lo<=(lo+hi)/2:=by omega
   have I:(lo+hi)/2<hi:=by omega
   dsimp only;by_cases d:xs.getD ((lo+hi)/2) j<j
   .rw[NA d];refine Y _ _ ∅ ∅ f (λi h=>?_) o
    by_cases e:i=(lo+hi)/2
    .rw[e];exact d
    .exact Jy (up i _ ∅ ∅) d
   .rw[NB d];refine Y _ _ ∅ ∅ ∅ C λi h D=>?_
    by_cases e:i=(lo+hi)/2
    .rw[e];omega
    .have:=up _ i (show(lo+hi)/2<i by omega) D
     omega
  .rw[NB c];have:lo=hi:=by omega
   subst this;exact⟨C,o,f⟩
theorem yo{xs:Array Nat}(l:xs.toList.Pairwise (· < ·))(j:Nat):(∀ i,i<Nq xs j->xs.getD i j<j)/\(∀ i,Nq xs j<=i->i<xs.size->j<=xs.getD i j)/\Nq xs j<=xs.size :=
 Ep l xs.size 0 xs.size ∅ (Ia _) (Hl _) (λi h=>NC h (IY _)) λi M J=>NC J ∅
def SetT(t:SetTable):Prop:=t.place.toList.Pairwise (· < ·)/\t.dummies=#[]
theorem SetT.fresh(a b:Nat)(k:Bool):SetT (.fresh a b k):=⟨Ki,rfl⟩
theorem SetT.standIn(t:SetTable)(n:Nat):SetT (t.standIn n):=⟨by
 show(Array.range n).toList.Pairwise (· < ·);rw[Array.toList_range]
 exact List.pairwise_lt_range,rfl⟩
theorem Bs(j:Nat):SetTable.has #[] j=false:=by
 unfold SetTable.has;simp
theorem SetT.put{t:SetTable}(h:SetT t)(c:t.slot j=.empty):SetT (t.put j).1:=by
 obtain⟨l,hd⟩:=h;obtain⟨b1,b2,b3⟩:=yo l j;have ne:t.place[Nq t.place j]?≠some j:=λz=>by
  unfold SetTable.slot at c;dsimp only at c;rw[z]at c;simp at c
 refine⟨?_,?_⟩
 .show(SetTable.insertAt t.place (Nq t.place j) j).toList.Pairwise (· < ·);rw[SetTable.toList_insertAt];have k:∀ a∈t.place.toList.take (Nq t.place j),a<j:=λa A=>by
   obtain⟨i,d⟩:=Ih.mp A;have N:i<Nq t.place j:=by
    have:=(Hg.mp d).1;rw[HW]at this;omega
   rw[Kx,NA N]at d;have:=b1 i N;rw[Iy]at d;rw[Kt,d]at this;exact this
  have f:∀ b∈t.place.toList.drop (Nq t.place j),j<b:=λb L=>by
   obtain⟨i,d⟩:=Ih.mp L;rw[Li,Iy]at d;have N:Nq t.place j+i<t.place.size:=by
    obtain⟨z,_⟩:=Ku.mp d;exact z
   have M:=b2 _ (Kl _ i) N;rw[Kt,d]at M;have g:j<=b:=M;rcases Nat.lt_or_ge j b with z | z
   .exact z
   .have e:b=j:=by omega
    subst e;by_cases m:i=0
    .subst m;exact NC d ne
    .have E:=b2 (Nq t.place b) (Hl _) ∅
     have:=JT.mp l (Nq t.place b) (Nq t.place b+i) (by simp;omega) (by simpa using N) ∅
     obtain⟨B,Q⟩:=Ku.mp d;have C:t.place.getD (Nq t.place b) b=t.place[Nq t.place b]'∅:=by rw[Kt,IL];rfl
     rw[C]at E;simp only[Array.getElem_toList]at this;rw[Q]at this;omega
  refine List.pairwise_append.mpr ⟨l.sublist (List.take_sublist _ _),Lh.mpr ⟨f,l.sublist (List.drop_sublist _ _)⟩,λa A b L=>?_⟩;rcases Hs.mp L with z | z
  .rw[z];exact k a A
  .exact Jy (k a A) (f b z)
 .show(if SetTable.has t.dummies j=true then SetTable.eraseAt t.dummies (Nq t.dummies j) else t.dummies)=#[];rw[hd,Bs,NB HG]
theorem C4{t:SetTable}{f:Nat->Int}{h:Int}(hd:t.dummies=#[]):∀(g:Nat)(p:SetTable.Probe),p.dummy=none->∀ j d,SetTable.probe.go t f h g p=some (.empty j d)->t.slot j=.empty/\d=none:=by
 intro g;have Q:∀ j,t.slot j≠.dummy:=λj z=>by
  unfold SetTable.slot at z;rw[hd,Bs]at z;simp only[II,if_false]at z;split at z<;>cases z
 induction g with
 |zero=>intro p _ j d e;cases e
 |succ g Y =>
  intro p B j d e;have a:(t.advance p).dummy=none:=by
   unfold SetTable.advance;split<;>exact B
  unfold SetTable.probe.go at e;split at e
  .rename_i l
   cases e
   exact⟨l,B⟩
  .rename_i l;exact NC l (Q _)
  .split at e
   .cases e
   .exact Y _ a j d e
theorem SetT.layNew{t:SetTable}(h:SetT t)(es:Array (Int×Value))(H:Int)(x:Value):SetT (layNew t es H x).2.1/\(layNew t es H x).2.1.led=t.led:=by
 unfold PySem.layNew;split
 .rename_i a b e;unfold SetTable.freeSlot at e;split at e
  .rename_i j m E;obtain⟨B,Q⟩:=C4 h.2 _ _ rfl j m E;subst Q;have f:(j,false)=(a,b):=HM e
   cases f
   dsimp only;unfold SetTable.orStandIn;split
   .exact⟨h.put B,rfl⟩
   .exact⟨SetT.standIn _ _,rfl⟩
  .cases e
 .exact⟨SetT.standIn _ _,rfl⟩
theorem vL(n:Nat)(g:Nat->Option Nat):(((IC n).filterMap λj=>(g j).map (j,·)).map (·.1)).Pairwise (· < ·):=by
 have:((IC n).filterMap λj=>(g j).map (j,·)).map (·.1)=(IC n).filter λj=>(g j).isSome:=by
  induction (IC n) with
  |nil=>rfl
  |cons a l Y =>
   cases e:g a with
   |none=>simp[e,Y]
   |some b=>simp[e,Y]
 rw[this];exact List.pairwise_lt_range.filter _
theorem SetT.relayAll(t:SetTable)(es:Array (Int×Value))(a:Nat):SetT (relayAll t es a).2.1/\(relayAll t es a).2.1.led=t.led:=by
 unfold PySem.relayAll;split
 .rename_i m b e;dsimp only;split
  .unfold SetTable.relaid SetTable.laid at e
   cases T:SetTable.layClean (SetTable.sizeAbove a-1) (es.map (·.1)) with
   |none=>rw[T]at e;cases e
   |some c =>
    rw[T]at e
    cases e
    refine⟨⟨?_,rfl⟩,rfl⟩;show(List.toArray _).toList.Pairwise (· < ·);rw[List.toList_toArray];exact vL _ _
  .exact⟨SetT.standIn _ _,rfl⟩
 .exact⟨SetT.standIn _ _,rfl⟩
theorem nZ(p:us.Perm vs):∀{ns:List Int},MI vs ns->∃ ms,MI us ms/\ms.Perm ns:=by
 have go:∀{us vs:List Value},us.Perm vs->∀{ns:List Int},MI us ns->∃ ms,MI vs ms/\ms.Perm ns:=by
  intro us vs p;induction p with
  |nil=>exact λh=>⟨_,h,.rfl⟩
  |cons x _ Y =>
   intro ns h
   cases h with
   |cons n t h =>
    obtain⟨ms,M,J⟩:=Y h;exact⟨n::ms,.cons n t M,J.cons n⟩
  |swap x y l =>
   intro ns h
   cases h with
   |cons n t h =>
    cases h with
    |cons i m h=>exact⟨i::n::_,.cons i m (.cons n t h),List.Perm.swap _ _ _⟩
  |trans _ _ a b =>
   intro ns h;obtain⟨ms,M,J⟩:=a h;obtain⟨r,f,C⟩:=b M;exact⟨r,f,C.trans J⟩
 exact λ{ns} h=>go p.symm h
theorem Bi(h:MI vs ns)(k:Int)(t:Tok):MI (vs++[.int k t]) (ns++[k]):=by
 induction h with
 |nil=>exact .cons k t .nil
 |cons n m _ Y=>exact .cons n m Y
theorem x5(h:MI vs ns):(∀ v∈vs,∃ n t,v=.int n t/\n∈ns)/\∀ n∈ns,∃ t,Value.int n t∈vs:=by
 induction h with
 |nil=>exact⟨λv p=>(nomatch p),λn g=>(nomatch g)⟩
 |cons n t _ Y =>
  refine⟨λv p=>?_,λm N=>?_⟩
  .rcases Hs.mp p with z | z
   .exact⟨n,t,z,Hu ..⟩
   .obtain⟨a,b,c,d⟩:=Y.1 v z;exact⟨a,b,c,Hq _ d⟩
  .rcases Hs.mp N with z | z
   .subst z;exact⟨t,Hu ..⟩
   .obtain⟨b,c⟩:=Y.2 m z;exact⟨b,Hq _ c⟩
def byT(w:World):Bool:=w.params.followText "set-order"
def SetG(P:Program)(w:World)(h:Heap)(a:Addr)(l:List Int):Prop:=∃ o B D t,h.get? a=some o/\o.ExactSet/\o.data=.set B D t/\ElemsOf (intKind P w) B.toList/\(∃ b,MI (B.toList.map (·.2)) b/\b.Perm l)/\l.Nodup/\B.size<scanBound/\t.fits B.size=true/\SetT t/\t.led = !byT w
theorem SetG.keeps{l:List Int}(g:SetG P w h a l)(k:∀ o,h.get? a=some o->h'.get? a=some o):SetG P w h' a l:=by
 obtain⟨o,B,D,t,v,r⟩:=g;exact⟨o,B,D,t,k o v,r⟩
def addN(l:List Int)(k:Int):List Int:=if k∈l then l else l++[k]
theorem xE{es es':Array (Int×Value)}{t t':SetTable}{l:List Int}(go:h.get? a=some o)(n:o.ExactSet)(Y:o.data=.set es ep t)(x:ElemsOf (intKind P w) es'.toList)(r:∃ ns,MI (es'.toList.map (·.2)) ns/\ns.Perm l)(nd:l.Nodup)(sz:es'.size<scanBound)(u:t'.fits es'.size=true)(N:SetT t')(ld:t'.led = !byT w) :
  SetG P w (h.update a (Obj.putSet es' t')) a l/\∃ b,(h.update a (Obj.putSet es' t')).get? a=some b/\b.ExactSet/\b.data=.set es' (ep+1) t':=by
 have m:=MF (Obj.putSet es' t') go (by rw[putSet_of es' t' Y];rfl)
 rw[putSet_of es' t' Y]at m;exact⟨⟨_,es',ep+1,t',m,n,rfl,x,r,nd,sz,u,N,ld⟩,_,m,n,rfl⟩
section
variable{prog:Program}{w:World}{A:Around}{E:Value->Shared->Prop}{s:Shared}
theorem putInS{l:List Int}{k:Int}{tk:Tok}{Q:Bool->Shared->Prop}(g:SetG prog w s.heap a l)(room:l.length+1<scanBound)
  (q:∀(b:Bool)(h':Heap),Md a s.heap h'->SetG prog w h' a (addN l k)->Q b { s with heap:=h' }):wpAny (model prog w) A (setAddHashed a (.int k tk) ((intKind prog w).hash k)) Q E s:=by
 obtain⟨o,B,ep,t,go,gx,gd,el,⟨H,ia,pm⟩,nd,sz,ft,tg,ld⟩:=id g;have aS:(intKind prog w).is k (.int k tk)=true:=intKind_is _ _ _ _;have len:B.size=l.length:=by
  have M:∀{d:List Value}{H:List Int},MI d H->d.length=H.length:=λh=>by
   induction h with
   |nil=>rfl
   |cons _ _ _ c=>rw[HD,HD,c]
  have:=M ia;rw[Hi,HK,pm.length_eq]at this;exact this
 have gw:∀(b:Bool){aa:Shared}{Q':Unit->Shared->Prop},Q' () aa->wpAny (model prog w) A (match b with | true=>rule "set.scan.the-table-gave-way" | false=>pure ()) Q' E aa:=λb=>by
  intro Y Q' y
  cases b
  .exact Mn y
  .exact wpAny_rule y
 unfold setAddHashed setAddHashedIn;refine Ml (Mj (Nr go gd ft ?_));dsimp only;rw[byScan_of (knd:=intKind prog w) rfl sz el];simp only[↓reduceIte];unfold setAddByScan;refine Mj (Mj (wpAny_rule (Mj (wpAny_setScan_of (knd:=intKind prog w) aS go gd ft el ?_))))
 cases fr:List.findIdx? (λe=>(intKind prog w).is k e.2) B.toList with
 |some j =>
  obtain⟨jl,jp,_⟩:=List.findIdx?_eq_some_iff_getElem.mp fr;have am:k∈l:=by
   obtain⟨n,t',G,p⟩:=(x5 ia).1 _ (List.mem_map_of_mem (f:=(·.2)) (IT jl));have e3:(B.toList[j]).2=.int n t':=G;rw[e3]at jp;have:k=n:=(intKind prog w).inj _ k n jp (intKind_is _ _ _ _);rw[this];exact pm.mem_iff.mp p
  refine Mn (Mn ?_);have e:addN l k=l:=NA am;have:=q false s.heap (Heap.SameBut.refl a s.heap) (by rw[e];exact g)
  exact this
 |none =>
  have an:k∉l:=λz=>by
   obtain⟨t',m⟩:=(x5 ia).2 k (pm.mem_iff.mpr z);obtain⟨e,T,p⟩:=Ie.mp m;have:=List.findIdx?_eq_none_iff.mp fr e T;rw[p,intKind_is]at this
   cases this
  have ea:addN l k=l++[k]:=NB an;have aT:(l++[k]).Nodup:=HP.mpr ⟨nd,Hy.mpr ⟨Jl,Jd⟩,λa O b L e=>an (by rw[HB.mp L]at e;exact e▸O)⟩
  have v:=layNew_perm t B ((intKind prog w).hash k) (.int k tk);have u:=layNew_fits t B ((intKind prog w).hash k) (.int k tk);obtain⟨I,D⟩:=tg.layNew B ((intKind prog w).hash k) (.int k tk);dsimp only;generalize layNew t B ((intKind prog w).hash k) (.int k tk)=N at v u I D ⊢;obtain⟨ab,t1,wd,gv⟩:=N;dsimp only at v u I D ⊢;rw[Lp]at v;have aV:ElemsOf (intKind prog w) ab.toList:=(el.push aS rfl).perm v;have a0:∃ ms,MI (ab.toList.map (·.2)) ms/\ms.Perm (l++[k]):=by
   have C:=v.map (·.2);rw[Hv]at C;obtain⟨ms,M,J⟩:=nZ C (Bi ia k tk);exact⟨ms,M,J.trans (pm.append_right _)⟩
  have ap:ab.size<scanBound:=by rw[← HK,v.length_eq,Hk,HK,len];exact room
  have a6:t1.led = !byT w:=D.trans ld;refine Mj (gw _ ?_)
  have ae:∀ t2:SetTable,t2.fits ab.size=true->SetT t2->t2.led = !byT w->wpAny (model prog w) A (do
    storeSet a ab t2
    if(!wd&&t2.tooFull)=true then do
      (match(relayAll t2 ab (Nt ab.size)).2.2 with | true=>rule "set.scan.the-table-gave-way" | false=>pure ())
      storeSet a (relayAll t2 ab (Nt ab.size)).1 (relayAll t2 ab (Nt ab.size)).2.1
      pure (some true)
     else pure (some true)) (λr s'=>∃ b:Bool,r=some b/\Q b s') E s:=by
   intro t2 f2 g2 l2;obtain⟨G1,o2,a1,a7,a2⟩:=xE (P:=prog) (w:=w) go gx gd aV a0 aT ap f2 g2 l2;have a3:=M6 s.heap a (Obj.putSet ab t2);refine Mj (wpAny_storeSet_of go gd ?_ (fits_of_scanBound ap));split
   .have ac:=relayAll_perm t2 ab (Nt ab.size)
    have aA:=relayAll_fits t2 ab (Nt ab.size);obtain⟨aI,al⟩:=SetT.relayAll t2 ab (Nt ab.size);generalize relayAll t2 ab (Nt ab.size)=N2 at ac aA aI al ⊢;obtain⟨a4,t3,bb⟩:=N2;dsimp only at ac aA aI al ⊢;have ba:∃ ms,MI (a4.toList.map (·.2)) ms/\ms.Perm (l++[k]):=by
     obtain⟨m1,M,J⟩:=a0;obtain⟨ms,i,h4⟩:=nZ (ac.map (·.2)) M;exact⟨ms,i,h4.trans J⟩
    have a5:a4.size<scanBound:=by rw[← HK,ac.length_eq,HK];exact ap
    refine Mj (gw _ (Mj (wpAny_storeSet_of a1 a2 ?_ (fits_of_scanBound a5))));obtain⟨G2,_⟩:=xE (P:=prog) (w:=w) a1 a7 a2 (aV.perm ac) ba aT a5 aA aI (al.trans l2);refine Mn ⟨true,rfl,?_⟩;exact q true _ (a3.trans (M6 _ a _)) (by rw[ea];exact G2)
   .refine Mn ⟨true,rfl,?_⟩;exact q true _ a3 (by rw[ea];exact G1)
  have all:=ae t1 u I a6
  have step:∀(r:Option Bool)(s':Shared),(∃ b:Bool,r=some b/\Q b s')->wpAny (model prog w) A (match r with
    |some aL=>pure aL
    |none=>setAddHashedIn a (Value.int k tk) ((intKind prog w).hash k) 99999) Q E s':=λr s' ⟨b,e,z⟩=>by
   subst e;exact Mn z
  split
  .refine Mj ?_;rw[hashByValue_scannable 8 (x:=Value.int k tk) rfl];refine Mn ?_;exact Mf all step λ_ _ z=>z
  .refine Mj (Mn ?_);exact Mf all step λ_ _ z=>z
theorem yr(l:List Int)(k:Int):(addN l k).length<=l.length+1:=by
 unfold addN;split
 .omega
 .rw[Hk];exact Hl _
theorem CF{S:Addr}{wr:List Addr}{P:Nat->Value->Prop}{St:Nat->Heap->Prop}(W:Walks prog w A.in1 I fp wr n P St)(D:S∉fp)(ns:List Int)(O:ns.length=n)(p:∀ i v,P i v->∃ t,v=.int (ns.getD i 0) t)(L:n+1<scanBound) :
  ∀(r i:Nat)(h:Heap)(tk:Nat)(l:List Int),n-i=r->i<=n->St i h->SetG prog w h S l->l.length<=i ->
   (∀ h' B,(∀ b o,b≠S->b∉wr->h.get? b=some o->h'.get? b=some o)->SetG prog w h' S ((ns.drop i).foldl addN l)->R (.ok (.ret .none)) { s with heap:=h',toks:=B }) ->
   Mx (model prog w) A (.builtin "set.update.loop" ⟨[.ref S,.ref I],[]⟩) R { s with heap:=h,toks:=tk }:=by
 have Q:S∉wr:=λz=>D (W.sub _ z);intro r;induction r with
 |zero =>
  intro i h tk l f d st g m G;have ei:i=n:=by omega
  subst ei;refine Ng PyProof.Rows.F.entry_set_update_loop ?_;rw[Nh Nu _];show wpAny _ A.in1 (pyNext (.ref I) >>= _) _ _ _;refine Mj (W.done _ _ _ st λh' B j=>?_);show wpAny _ A.in1 (ret Value.none) _ _ _;refine Mn (G h' B (λb o _ C e=>j b o C e) ?_);rw[List.drop_of_length_le ∅]
  exact g.keeps λo e=>j _ _ Q e
 |succ r Y =>
  intro i h tk l f d st g m G;have N:i<n:=by omega
  refine Ng PyProof.Rows.F.entry_set_update_loop ?_;rw[Nh Nu _];show wpAny _ A.in1 (pyNext (.ref I) >>= _) _ _ _;refine Mj (W.item i _ _ _ N st λv M c pv x y=>?_);obtain⟨t,rfl⟩:=p i v pv;have q:=g.keeps λo e=>y _ _ Q e;show wpAny _ A.in1 (holding [Value.int (ns.getD i 0) t] (setAdd S (.int (ns.getD i 0) t)) >>= _) _ _ _;refine Mj (Ml ?_);unfold setAdd;refine Ml (Mj ((intKind prog w).pyHash (k:=ns.getD i 0) (intKind_is _ _ _ _) ?_));refine putInS (l:=l) q ∅ λb J a E=>?_
  have H:∀ b o,b≠S->M.get? b=some o->J.get? b=some o:=λb o n e=>(a.2 b n).trans e;have u:ns.drop i=ns.getD i 0::ns.drop (i+1):=by
   rw[LK ∅,Hz,Hf ∅]
   rfl
  refine Mn ⟨Nm Nu _,Y (i+1) _ _ (addN l (ns.getD i 0)) ∅ N (W.frame _ _ _ x λb L o e=>H b o (λz=>D (z▸L)) e) E (by have:=yr l (ns.getD i 0);omega) λh' B j T=>?_⟩
  refine G h' B (λb o n C e=>j b o n C (H b o n (y b o C e))) ?_;rw[u,KY];exact T
theorem vk(a:Value){Q₁:Value->Shared->Prop}
  (h:Q₁ (.ref s.heap.objs.size) { s with heap:=s.heap.push { cls:=.type "set",dict:=none,data:=.set #[] 0 (.fresh 0 0 (!byT w)) } }) :
  Mx (model prog w) A (.call (.builtin "set.__new__") ⟨[.type "set",a],[]⟩) (wants Q₁ E) s:=by
 refine codeAny_of_tree ?_;show wpAny _ A.in1 (do checkBuiltinCall "set.__new__" ⟨[.type "set",a],[]⟩;again (.builtin "set.__new__" ⟨[.type "set",a],[]⟩)) _ _ s
 refine Mj (wpAny_of_eq (PySem.F.newCall_set_1 a) (Mn ⟨Nm PySem.F.plain_set_new _,Ng PySem.F.entry_set_new ?_⟩));rw[Nh PySem.F.plain_set_new _];unfold Builtin.«set.__new__» Builtin.Frozenset.newClass;have b:=PySem.sub_set_self;obtain⟨B,T,L,l,os⟩:=s;dsimp only;wp_walk;refine Nv (Mn ?_);dsimp only;simp only[newObj];exact Mj (wpAny_alloc (Mn (Mn h)))
theorem eJ:∀{vs:List Value}{ns:List Int},MI vs ns->vs.length=ns.length/\∀(i:Nat)(v:Value),vs[i]?=some v->∃ t,v=.int (ns.getD i 0) t
 |_,_,.nil=>⟨rfl,λi v e=>by simp at e⟩
 |_,_,.cons n t r=>by
  obtain⟨M,J⟩:=eJ r;refine⟨by rw[HD,HD,M],λi v e=>?_⟩
  match i,e with
  |0,e=>cases e;exact⟨t,rfl⟩
  |i+1,e=>exact J i v e
abbrev newO(w:World):Obj:={ cls:=.type "set",dict:=none,data:=.set #[] 0 (.fresh 0 0 (!byT w)) }
theorem newG(e:h.get? a=some (newO w)):SetG P w h a [] :=
 ⟨_,#[],0,_,e,⟨rfl,rfl,rfl⟩,rfl,λx O=>by simp at O,⟨[],.nil,.rfl⟩,Jd,by decide,rfl,SetT.fresh _ _ _,rfl⟩
theorem uF{lst:Addr}{its:Array Value}(H:A.handled=none)(hl:s.heap.IsList lst its)(g:MI its.toList ns)(L:its.size+1<scanBound)
  (q:∀(h':Heap)(tk:Nat),SetG prog w h' s.heap.objs.size (ns.foldl addN [])->(∀ b o,s.heap.get? b=some o->h'.get? b=some o)->Q (.ref s.heap.objs.size) { s with heap:=h',toks:=tk }) :
  wpAny (model prog w) A (call (.type "set") [.ref lst]) Q E s:=by
 obtain⟨C,tl,am⟩:=PySem.F.called_set.mro;have ac:=PySem.F.called_set.made;have aa:=PySem.F.called_set.sub;obtain⟨N,l⟩:=eJ g;have J:ns.length=its.size:=by rw[← N,HK]
 refine wpAny_call (codeAny_of_tree ?_);show wpAny _ _ (callAny (.type "set") _) _ _ _;refine Mn ⟨Code.quiet_builtin _ (by decide),Ng PySem.F.entry_type_call ?_⟩
 rw[Around.under_plain (weight_type_call_type "set" [.ref lst] []) rfl];have t:=PySem.F.called_set.notType;have y:=PySem.F.called_set.canCreate;have x:=PySem.F.typeCall_set_1 (.ref lst);repeat (any_goals (first | assumption | wp_step))
 refine MB (vk (.ref lst) (E:=E) (Q₁:=λm f=>m=.ref s.heap.objs.size/\f={ s with heap:=s.heap.push (newO w) }) ⟨rfl,rfl⟩) λr f u=>?_
 cases r with
 |error e=>exact u
 |ok T =>
  cases T with
  |next=>exact u.elim
  |brk=>exact u.elim
  |cont=>exact u.elim
  |ret m =>
   obtain⟨rfl,rfl⟩:=u;have I:(s.heap.push (newO w)).get? s.heap.objs.size=some (newO w):=Mp _ rfl;have G:Shared.TypeIs { s with heap:=s.heap.push (newO w) } (.ref s.heap.objs.size) "set":=⟨_,I,rfl⟩;have d:=PySem.F.called_set.init.lookup;have a:=PySem.F.called_set.init.bind (.ref s.heap.objs.size);repeat (any_goals (first | assumption | wp_step))
   refine MB (codeAny_call_builtin (R:=wants (λr c=>r=.none/\∃ h' tk,c={ s with heap:=h',toks:=tk }/\SetG prog w h' s.heap.objs.size (ns.foldl addN [])/\∀ b o,s.heap.get? b=some o->h'.get? b=some o) E) PySem.F.called_set.init.plain PySem.F.entry_set_init (check_set_init_1 G ?_)) λab c h=>?_
   .obtain⟨p,go,gc,O,Y⟩:=hl;obtain⟨c0,d0,an,j⟩:=p;simp only at gc Y;subst gc;subst Y;have ae:(s.heap.push (newO w)).get? lst=some { cls:=.type "list",dict:=d0,data:=.seq its O,slots:=j }:=Mo _ go;have f6:=PySem.F.sub_list_set;have f7:=PySem.F.sub_list_frozenset;have f8:(Value.type "list" == Value.type "dict")=false:=by decide
    have D:(s.heap.push (newO w)).IsList lst its:=⟨_,ae,rfl,O,rfl⟩;unfold Builtin.«set.__init__» noKeywords Builtin.Frozenset.updateFrom;generalize eP:pyIter=PI;wp_walk;subst eP;refine wpAny_pyIter_list D (Mj (wpAny_runValue ?_));have lS:lst<s.heap.objs.size:=L9 go;have nI:lst≠(s.heap.push (newO w)).objs.size:=by rw[My];exact HN (IU lS)
    have nS:s.heap.objs.size∉[(s.heap.push (newO w)).objs.size,lst]:=by
     rw[My];intro z;rcases Hs.mp z with z | z
     .exact NC z (HN (Ik _))
     .rw[HB]at z;exact NC z.symm (HN lS)
    have al:A.in1.in1.in1.handled=none:=by simp[H]
    refine CF (s:=s) (Walks.list al _ lst nI its) nS ns J (λi v pv=>l i v (by rw[Iy];exact pv)) L its.size 0 _ s.toks [] ∅ (Ia _) ⟨⟨_,Mp _ rfl,rfl,rfl⟩,D.push _⟩ (newG (Mo _ I)) (Hl _) λh' B k gg=>?_
    refine Mn ?_;show wpAny _ _ (ret Value.none) _ _ _;refine Mn ⟨rfl,h',B,rfl,gg,λb o e=>?_⟩;have bl:=L9 e;refine k b o (HN bl) (λz=>?_) (Mo _ (Mo _ e));rw[HB,My]at z;exact NC z (HN (IU bl))
   .cases ab with
    |error e=>exact h
    |ok M =>
     cases M with
     |next=>exact h.elim
     |brk=>exact h.elim
     |cont=>exact h.elim
     |ret r =>
      obtain⟨rfl,h',tk,rfl,g',n⟩:=h;repeat (any_goals (first | assumption | wp_step))
      exact q _ _ g' n
end
theorem bt_set:Mb "set" = some (.type "set"):=by decide
theorem wq:entryFor table "set.__iter__" = some Builtin.«frozenset.__iter__»:=entryFor_alias (id':="frozenset.__iter__") (by kernel_rfl) rfl (by decide) (by kernel_rfl)
theorem di:Slot "set_iterator" "__next__" "set_iterator.__next__" :=
 Slot.of (owner:="set_iterator") (n:="__next__") (by rw[typeLookup_type,builtinLookup_eq_fast];kernel_rfl) (by decide) (by decide) (by decide) (by first | exact .inl (by decide) | exact .inr (by decide)) (by rw[isSubtype_type];kernel_rfl)
theorem pq:entryFor table "set_iterator.__next__" = some Builtin.«set_iterator.__next__»:=entryFor_of_tree (by kernel_rfl)
theorem ow_si:Manifest.owners.lookup (String.ofList ['r','o','t','a','r','e','t','i','_','t','e','s'].reverse)=some Manifest.sig_set_iterator:=by kernel_rfl
theorem pC(a:Value):argsOk "set_iterator.__next__" ⟨[a],[]⟩:=by
 unfold argsOk;rw[signature?_of (id:="set_iterator.__next__") (n:=['_','_','t','x','e','n','_','_']) (o:=['r','o','t','a','r','e','t','i','_','t','e','s']) (by kernel_rfl) ow_si]
 kernel_rfl
theorem oU:Slot "set_iterator" "__iter__" "set_iterator.__iter__" :=
 Slot.of (owner:="set_iterator") (n:="__iter__") (by rw[typeLookup_type,builtinLookup_eq_fast];kernel_rfl) (by decide) (by decide) (by decide) (by first | exact .inl (by decide) | exact .inr (by decide)) (by rw[isSubtype_type];kernel_rfl)
theorem y7:entryFor table "set_iterator.__iter__" = some Builtin.«dict_keyiterator.__iter__»:=entryFor_alias (id':="dict_keyiterator.__iter__") (by kernel_rfl) rfl (by decide) (by kernel_rfl)
theorem zE(a:Value):argsOk "set_iterator.__iter__" ⟨[a],[]⟩:=by
 unfold argsOk;rw[signature?_of (id:="set_iterator.__iter__") (n:=['_','_','r','e','t','i','_','_']) (o:=['r','o','t','a','r','e','t','i','_','t','e','s']) (by kernel_rfl) ow_si]
 kernel_rfl
theorem wm{α:Type}:∀{l:List α}{i:Nat}(h:i<l.length),(l[i]::l.eraseIdx i).Perm l
 |x::l,0,_=>List.Perm.refl _
 |x::l,i+1,h=>by
  have Y:=wm (l:=l) (i:=i) (by simpa using h)
  show(l[i]'(by simpa using h)::x::l.eraseIdx i).Perm (x::l)
  exact(List.Perm.swap x _ _).trans (Y.cons x)
theorem Ay{α:Type}(next:Nat->Nat):∀(g k:Nat)(left:List α)(out:Array α),left.length=g->(pickOrder.go next g k left out).toList.Perm (out.toList++left)
 |0,k,left,out,h=>by
  have:left = []:=JE.mp h;subst this;unfold pickOrder.go;rw[Kc]
 |g+1,k,left,out,h=>by
  have D:next k%left.length<left.length:=JX _ ∅
  unfold pickOrder.go;rw[Hf D];dsimp only;refine(Ay next g (k+1) _ _ (by rw[LC D];omega)).trans ?_
  rw[Lp,Kh];refine List.Perm.append_left _ ?_;exact wm D
theorem sf(next:Nat->Nat)(xs:Array α):(pickOrder next xs).toList.Perm xs.toList:=by
 have:=Ay next xs.size 0 xs.toList #[] (by simp)
 simpa[pickOrder] using this
section
variable{prog:Program}{w:World}{A:Around}{E:Value->Shared->Prop}{s:Shared}
theorem zw{a:Source}{Q:Nat->Shared->Prop}(g:n≠0)(h:∀ i d,i<n->Q i { s with drawn:=d }):wpAny (model prog w) A (choose a n) Q E s:=λ_ _ _=>⟨g,h _ _ (JX _ (Nat.pos_of_ne_zero g))⟩
theorem ye{α:Type}:∀(n:Nat)(xs:List α)(s:Shared)(Q:List α->Shared->Prop),xs.length=n->(∀ ys d,ys.Perm xs->Q ys { s with drawn:=d })->wpAny (model prog w) A (drawOrder n xs) Q E s
 |0,xs,s,Q,h,q=>by
  have:xs = []:=JE.mp h;subst this;unfold drawOrder;exact Mn (q [] s.drawn .rfl)
 |n+1,[],s,Q,h,q=>by cases h
 |n+1,x::xs,s,Q,h,q=>by
  unfold drawOrder;refine Mj (zw (by simp) λi d o=>?_)
  rw[Hf o];dsimp only;refine Mj (ye n _ _ _ (by rw[LC o];simp at h ⊢;omega) λys O p=>Mn ?_)
  exact q _ O ((p.cons _).trans (wm o))
end
def slA(t:SetTable)(i:Nat):Nat:=if i=0 then 0 else t.place.getD (i-1) 0+1
def ItAt(P:Program)(w:World)(h:Heap)(I a tp:Addr)(ord:List Int)(i:Nat):Prop:=∃ o B D t first l,h.get? a=some o/\o.ExactSet/\o.data=.set B D t/\t.fits B.size=true/\SetT t/\t.led = !byT w /\
 h.get? I=some { cls:=.type "set_iterator",data:=.fields #[first,rawInt (i:Int),.ref a,rawInt (B.size:Int),rawInt (D:Int)] }/\MI l ord/\l.length=B.size /\
 ((byT w=true/\(∃ z:Nat,first=rawInt (z:Int))/\l=(pickOrder (w.params.setOrder a D) B).toList.map (·.2)) ∨
  (byT w=false/\(!t.plain&&decide (B.size > 1))=false/\first=rawInt (slA t i:Int)/\l=B.toList.map (·.2)) ∨
  (byT w=false/\∃(m:List Nat)(d:Obj)(c:Nat),first=.ref tp/\tp≠I/\tp≠a/\h.get? tp=some d/\d.data=.seq (m.map λp:Nat=>rawInt (p:Int)).toArray c/\m.length=B.size/\∀(j p:Nat),m[j]?=some p->∃ x,B[p]?=some x/\l[j]?=some x.2))
section
variable{prog:Program}{w:World}{A:Around}{E:Value->Shared->Prop}{s:Shared}
theorem tE{es:Array (Int×Value)}{l:List Int}(r:MI (es.toList.map (·.2)) ns)(O:ns.Perm l){ys:List (Int×Value)}(p:ys.Perm es.toList):∃ ms,MI (ys.map (·.2)) ms/\ms.Perm l:=by
 obtain⟨ms,M,J⟩:=nZ (p.map (·.2)) r;exact⟨ms,M,J.trans O⟩
theorem CU{l:List Int}(g:SetG prog w s.heap a l)
  (q:∀(I tp:Addr)(h':Heap)(d:_)(ord:List Int),(∀ b o,s.heap.get? b=some o->h'.get? b=some o)->s.heap.objs.size<=I->I<h'.objs.size->s.heap.objs.size<=tp->tp<h'.objs.size->ord.Perm l->ItAt prog w h' I a tp ord 0->Q (.ref I) { s with heap:=h',drawn:=d }) :
  wpAny (model prog w) A (pyIter (.ref a)) Q E s:=by
 obtain⟨o,B,D,t,go,n,Y,x,⟨H,r,O⟩,k,sz,u,N,ld⟩:=id g;have G:s.TypeIs (.ref a) "set":=⟨o,go,n.1⟩;have al:a<s.heap.objs.size:=L9 go;have aa:=(eJ r).1;have h:B.size<=LZ:=HJ (Jy sz (by decide))
 refine wpAny_pyIter_slot G PySem.F.slot_set_iter (MX PySem.F.slot_set_iter G wq ?_ (PySem.F.args_set_iter_1 _));unfold Builtin.«frozenset.__iter__» Builtin.Frozenset.slot0 slotArgs;simp only[Lu,KN,II,↓reduceIte,bind_assoc,Js,bne_self_eq_false];unfold Builtin.Frozenset.addrOf Builtin.Frozenset.sizeOf;refine Mj (Mn ?_);try dsimp only
 refine Mj (Mn (Mj (Mj (wpAny_setEntries_of go Y u (Mn ?_)))));unfold setDrawn setsByText;refine Mj (Mj (Nr go Y u ?_));dsimp only;refine Mj (Mj (Nv (Mn (Mn ?_))));have n0:∀ I:Addr,s.heap.objs.size<=I->a≠I:=λI hI z=>NC al (by rw[z];exact JV hI)
 split
 .rename_i ab;have C:(!byT w&&(!t.plain&&decide (B.size > 1)))=true:=ab;have bt:byT w=false:=by
   cases y:byT w with
   |false=>rfl
   |true=>rw[y]at C;cases C
  refine Mj (ye B.size (IC B.size) _ _ Jb λL d p=>?_);have T:L.length=B.size:=by rw[p.length_eq,Jb]
  refine Mj (wpAny_newTuple ?_ (by rw[Hi,T];exact h))
  unfold setEpoch;have v:(s.heap.push { cls:=.type "tuple",data:=.seq (L.map λi:Nat=>rawInt (i:Int)).toArray }).get? a=some o:=Mo _ go;refine Mj (Mj (Nr v Y u (Mn ?_)));unfold newFields;refine Mj (MV ?_ (by size_fits))
  have em:(IC B.size).map (λj=>B.getD j (0,Value.none))=B.toList:=by
   refine List.ext_getElem (by simp) λj M J=>?_
   have c:j<B.size:=by simpa using J
   simp[Ko,c]
  have pv:(L.map λj=>B.getD j (0,Value.none)).Perm B.toList:=by
   rw[← em];exact p.map _
  obtain⟨ms,i1,i2⟩:=tE r O pv;refine Mn ⟨_,rfl,"set_iterator",_,⟨_,Mp _ rfl,rfl⟩,di.lookup,?_⟩;refine q _ s.heap.objs.size _ d ms (λb o e=>Mo _ (Mo _ e)) (by rw[My];exact JB _) (L9 (Mp _ rfl)) (Hl _) (by rw[My,My];exact IU (Ik _)) i2 ?_
  refine⟨o,B,D,t,_,(L.map λj=>B.getD j (0,Value.none)).map (·.2),Mo _ v,n,Y,u,N,ld,Mp _ rfl,i1,by rw[Hi,Hi,T],.inr (.inr ⟨bt,L,_,_,rfl,?_,IQ al,Mo _ (Mp _ rfl),rfl,T,λj f c=>?_⟩)⟩
  .rw[My];exact HN (Ik _)
  .have m:f<B.size:=Je.mp (p.mem_iff.mp (Hh c))
   refine⟨B[f],IL m,?_⟩;rw[Hr,Hr,c];show some (B.getD f (0,Value.none)).2=_;simp[Ko,m]
 .rename_i ab;have C:¬ (!byT w&&(!t.plain&&decide (B.size > 1)))=true:=ab;refine Mj (Mn ?_);unfold setEpoch;refine Mj (Mj (Nr go Y u (Mn ?_)));unfold newFields;refine Mj (MV ?_ (by size_fits))
  refine Mn ⟨_,rfl,"set_iterator",_,⟨_,Mp _ rfl,rfl⟩,di.lookup,?_⟩
  cases bt:byT w with
  |true =>
   obtain⟨ms,i1,i2⟩:=tE r O (sf (w.params.setOrder a D) B);refine q _ s.heap.objs.size _ s.drawn ms (λb o e=>Mo _ e) (Hl _) (by rw[My];exact Ik _) (Hl _) (by rw[My];exact Ik _) i2 ?_
   exact⟨o,B,D,t,_,_,Mo _ go,n,Y,u,N,ld,Mp _ rfl,i1,by rw[Hi,(sf _ _).length_eq,HK],.inl ⟨bt,⟨0,rfl⟩,rfl⟩⟩
  |false =>
   rw[bt]at C;have c2:(!t.plain&&decide (B.size > 1))=false:=by
    cases y:(!t.plain&&decide (B.size > 1)) with
    |false=>rfl
    |true=>exact NC (by rw[y];rfl) C
   refine q _ s.heap.objs.size _ s.drawn H (λb o e=>Mo _ e) (Hl _) (by rw[My];exact Ik _) (Hl _) (by rw[My];exact Ik _) O ?_
   exact⟨o,B,D,t,_,_,Mo _ go,n,Y,u,N,ld,Mp _ rfl,r,by rw[Hi,HK],.inr (.inl ⟨bt,c2,rfl,rfl⟩)⟩
theorem tJ{t:SetTable}(h:t.fits n=true):t.place.size=n:=by
 unfold SetTable.fits at h;rw[JH]at h;exact eq_of_beq h.1
theorem uh{t:SetTable}(N:SetT t)(hi:i<=t.place.size):Nq t.place (slA t i)=i:=by
 obtain⟨b1,b2,b3⟩:=yo N.1 (slA t i);have up:∀ a b,a<b->b<t.place.size->t.place.getD a (slA t i)<t.place.getD b (slA t i):=λa b m L=>by
  have A:a<t.place.size:=Jy m L;have:=JT.mp N.1 a b (by simpa using A) (by simpa using L) m
  simpa[Ko,A,L] using this
 have j:∀ k,i=k+1->slA t i=t.place.getD k (slA t i)+1:=λk e=>by
  have C:k<t.place.size:=by omega
  have G:slA t i=t.place.getD k 0+1:=by
   unfold slA;rw[NB ∅,e,Lg]
  have E:t.place.getD k 0=t.place.getD k (slA t i):=by simp[Ko,C]
  rw[← E];exact G
 generalize L:Nq t.place (slA t i)=b at b1 b2 b3;rcases Nat.lt_trichotomy b i with z | z | z
 .obtain⟨k,rfl⟩:∃ k,i=k+1:=⟨i-1,∅⟩
  have M:=b2 b (Hl _) ∅
  have J:=j k rfl;by_cases e:b=k
  .subst e;omega
  .have:=up b k ∅ ∅
   omega
 .exact z
 .have M:=b1 i z
  cases i with
  |zero=>have e:slA t 0=0:=rfl;rw[e]at M;omega
  |succ k =>
   have J:=j k rfl;have:=up k (k+1) ∅ ∅
   omega
theorem xF{M h2:Heap}(x:Md I h M)(y:Md I M h2):Md I h h2:=⟨y.1.trans x.1,λb L=>(y.2 b L).trans (x.2 b L)⟩
theorem Gw{n:Int}{Q:Option Value->Shared->Prop}(h:ItAt prog w s.heap I a tp ord i)(g:ord[i]?=some n)(aI:a≠I)
  (q:∀(t:Tok)(h':Heap),ItAt prog w h' I a tp ord (i+1)->Md I s.heap h'->Q (some (.int n t)) { s with heap:=h' }):wpAny (model prog w) A (pyNext (.ref I)) Q E s:=by
 obtain⟨o,es,D,t,first,l,go,C,Y,u,N,ld,gI,r,y,md⟩:=h;have G:s.TypeIs (.ref I) "set_iterator":=⟨_,gI,rfl⟩;unfold pyNext;refine Mj (wpAny_attempt (MZ (name:=Str.ofString "__next__") G di (MX di G pq ?_ (pC _))));unfold Builtin.«set_iterator.__next__» slotArgs;simp only[Lu,KN,II,↓reduceIte,bind_assoc,Js,bne_self_eq_false];refine Mj (Mn ?_);try dsimp only
 refine Mj (wpAny_fieldsOf gI rfl ?_);dsimp only[rawInt];refine Mj (wpAny_setEntries_of go Y u ?_);rw[NB (by simp)]
 have L:i<ord.length:=(Hg.mp g).1;have ol:=(eJ r).1;have ab:i<l.length:=by omega
 obtain⟨d,p⟩:∃ d,l[i]?=some (.int n d):=by
  obtain⟨d,e⟩:=(eJ r).2 i _ (Hf ab);refine⟨d,?_⟩;rw[Hf ab,e,Hz,g];rfl
 have an:=tJ u;have ci:((i:Int)+1)=((i+1:Nat):Int):=by omega
 rcases md with⟨bt,⟨z,rfl⟩,rfl⟩ | ⟨bt,dr,rfl,rfl⟩ | ⟨bt,f,ot,c,rfl,tI,T,gt,ac,am,ae⟩
 .dsimp only[rawInt];unfold setNext setsByText setWalk setsByText;refine Mj (Mj (Nr go Y u ?_));dsimp only;refine Mj (Mj (Nv (Mn ?_)));have H:w.params.followText "set-order" = true:=bt;rw[show(Setting.params ⟨(model prog w).prog,(model prog w).w.params⟩).followText "set-order" = true from H,NA rfl,NB (by simp)]
  refine Mj (Mj (Nr go Y u ?_));dsimp only;refine Mj (Mj (Nv (Mn ?_)));rw[show(Setting.params ⟨(model prog w).prog,(model prog w).w.params⟩).followText "set-order" = true from H,NA rfl];refine Mj (Nv (Mn (Mn ?_)));have B:(pickOrder (w.params.setOrder a D) es)[i]?.map (·.2)=some (.int n d):=by rw[← Iy,← Hr];exact p
  obtain⟨x,O,b⟩:=HF.mp B;rw[Hn,Hn,show(pickOrder ((Setting.params ⟨(model prog w).prog,(model prog w).w.params⟩).setOrder a D) es)[i]?=some x from O];dsimp only[Option.map];refine Mj (M8 gI (by simp) λM v j=>?_)
  refine Mj (M8 (s:={ s with heap:=M }) v (by simp) λJ k m=>?_)
  have sb:=xF j m;rw[b];refine Mn ⟨_,rfl,Mn (q d J ?_ sb)⟩;refine⟨o,es,D,t,_,_,(sb.2 a aI).trans go,C,Y,u,N,ld,k.trans ?_,r,y,.inl ⟨bt,⟨z,rfl⟩,rfl⟩⟩;rw[ci];rfl
 .dsimp only[rawInt];unfold setNext setsByText;refine Mj (Mj (Nr go Y u ?_));dsimp only;refine Mj (Mj (Nv (Mn ?_)));have H:w.params.followText "set-order" = false:=bt;rw[show(Setting.params ⟨(model prog w).prog,(model prog w).w.params⟩).followText "set-order" = false from H,NB (by simp)]
  refine MP (λc=>NC (show(!t.plain&&decide (es.size > 1))=true from c) (by rw[dr];simp)) λ_=>?_
  have aa:t.led=true:=by rw[ld,bt];rfl
  refine Mj ?_;show wpAny _ _ (if(!t.led&&!es.isEmpty)=true then _ else _) _ _ _;rw[aa];refine Mn (Mn ?_);rw[Hn,uh N ∅]
  have ie:i<es.size:=by omega
  have ip:i<t.place.size:=by omega
  have b:es[i].2=.int n d:=by
   rw[Hr,Iy,IL ie]at p;exact HM p
  rw[IL ie,IL ip];dsimp only;refine Mj (M8 gI (by simp) λM v j=>?_)
  refine Mj (M8 (s:={ s with heap:=M }) v (by simp) λJ k m=>?_)
  have sb:=xF j m;rw[b];refine Mn ⟨_,rfl,Mn (q d J ?_ sb)⟩;refine⟨o,es,D,t,_,_,(sb.2 a aI).trans go,C,Y,u,N,ld,k.trans ?_,r,y,.inr (.inl ⟨bt,dr,rfl,rfl⟩)⟩;have es:slA t (i+1)=t.place[i]+1:=by
   unfold slA;rw[NB ∅,Lg]
   simp[Ko,ip]
  rw[ci,es];rfl
 .dsimp only[rawInt];refine Mj (Ni gt ac ?_);dsimp only;have ip:i<f.length:=by omega
  obtain⟨x,O,al⟩:=ae i _ (Hf ip);have b:x.2=.int n d:=HM (al.symm.trans p);rw[Hn,List.getElem?_toArray,Hr,Hf ip];dsimp only[Option.map,rawInt];unfold setNextDrawn;refine Mj (Mj (Nr go Y u ?_));dsimp only;rw[Hn,Hn,NB (by simp),O]
  refine Mn ?_;refine Mj (M8 gI (by simp) λM v j=>?_)
  rw[b];refine Mn ⟨_,rfl,Mn (q d M ?_ j)⟩;refine⟨o,es,D,t,_,l,(j.2 a aI).trans go,C,Y,u,N,ld,v.trans ?_,r,y,.inr (.inr ⟨bt,f,ot,c,rfl,tI,T,(j.2 tp tI).trans gt,ac,am,ae⟩)⟩;rw[ci];rfl
theorem uy{k:Nat}{Q:Option Value->Shared->Prop}{vs:Array Value}(H:A.handled=none) (f:s.heap.get? I=some { cls:=.type "set_iterator",data:=.fields vs }) (C:k<vs.size)
  (q:∀(h':Heap),Heap.ExtBut I s.heap h'->Q none { s with heap:=h' }) :
  wpAny (model prog w) A.in1 (setField (.ref I) k .none >>= λ_=>newExc (.type "StopIteration") [] >>= λe=>raiseNew e) (λ(G:Fin) s'=>∃ v,G=Fin.done (Flow.ret v)/\wpAny (model prog w) A (pure (some v)) Q E s')
  (λe s'=>wpAny (model prog w) A (do if ← isInstance e (.type "StopIteration") then pure none else throw e) Q E s') s:=by
 refine Mj (wpAny_setField f rfl C ?_);refine Mj ?_;simp only[newExc,newTuple];refine Mj (MV ?_ (by size_fits))
 refine Mj (m:=firstArgMember _ _) (wpAny_of_eq (a:=Value.none) (by first | rfl | (simp only[firstArgMember];rfl)) ?_)
 refine MV ?_ (by size_fits)
 simp only[raiseNew];refine Mj (wpAny_handled ?_);rw[show A.in1.handled=none from H];refine Mj (Mn (wpAny_throw ?_));refine Mj (MQ (T:="StopIteration") (b:=true) ⟨_,Mp _ rfl,rfl⟩ isSubtype_stop ?_);exact Mn (q _ (((M6 ..).extBut.push _).push _))
theorem Gx{Q:Option Value->Shared->Prop}(H:A.handled=none)(h:ItAt prog w s.heap I a tp ord i)(g:i=ord.length)(J:a≠I)
  (q:∀(h':Heap),Heap.ExtBut I s.heap h'->Q none { s with heap:=h' }):wpAny (model prog w) A (pyNext (.ref I)) Q E s:=by
 obtain⟨o,es,D,t,first,l,go,n,Y,u,N,ld,f,r,y,md⟩:=h;have G:s.TypeIs (.ref I) "set_iterator":=⟨_,f,rfl⟩;unfold pyNext;refine Mj (wpAny_attempt (MZ (name:=Str.ofString "__next__") G di (MX di G pq ?_ (pC _))));unfold Builtin.«set_iterator.__next__» slotArgs;simp only[Lu,KN,II,↓reduceIte,bind_assoc,Js,bne_self_eq_false];refine Mj (Mn ?_);try dsimp only
 refine Mj (wpAny_fieldsOf f rfl ?_);dsimp only[rawInt];refine Mj (wpAny_setEntries_of go Y u ?_);rw[NB (by simp)]
 have p:=(eJ r).1;have B:i=l.length:=by omega
 have ac:=tJ u;rcases md with⟨bt,⟨z,rfl⟩,rfl⟩ | ⟨bt,dr,rfl,rfl⟩ | ⟨bt,m,ot,c,rfl,tI,T,gt,C,ab,aa⟩
 .dsimp only[rawInt];unfold setNext setsByText setWalk setsByText;refine Mj (Mj (Nr go Y u ?_));dsimp only;refine Mj (Mj (Nv (Mn ?_)));have d:w.params.followText "set-order" = true:=bt;rw[show(Setting.params ⟨(model prog w).prog,(model prog w).w.params⟩).followText "set-order" = true from d,NA rfl,NB (by simp)]
  refine Mj (Mj (Nr go Y u ?_));dsimp only;refine Mj (Mj (Nv (Mn ?_)));rw[show(Setting.params ⟨(model prog w).prog,(model prog w).w.params⟩).followText "set-order" = true from d,NA rfl];refine Mj (Nv (Mn (Mn ?_)));have O:(pickOrder (w.params.setOrder a D) es)[i]?=none:=by
   rw[Kf];rw[B,Hi,HK];exact Hl _
  rw[Hn,Hn,show(pickOrder ((Setting.params ⟨(model prog w).prog,(model prog w).w.params⟩).setOrder a D) es)[i]?=none from O];exact uy H f (by simp) q
 .dsimp only[rawInt];unfold setNext setsByText;refine Mj (Mj (Nr go Y u ?_));dsimp only;refine Mj (Mj (Nv (Mn ?_)));have d:w.params.followText "set-order" = false:=bt;rw[show(Setting.params ⟨(model prog w).prog,(model prog w).w.params⟩).followText "set-order" = false from d,NB (by simp)]
  refine MP (λc=>NC (show(!t.plain&&decide (es.size > 1))=true from c) (by rw[dr];simp)) λ_=>?_
  have k:t.led=true:=by rw[ld,bt];rfl
  refine Mj ?_;show wpAny _ _ (if(!t.led&&!es.isEmpty)=true then _ else _) _ _ _;rw[k];refine Mn (Mn ?_);have ie:i=es.size:=by omega
  rw[Hn,uh N ∅]
  rw[Kf (by omega:es.size<=i),Kf (by omega:t.place.size<=i)]
  exact uy H f (by simp) q
 .dsimp only[rawInt];refine Mj (Ni gt C ?_);dsimp only;have ip:m.length<=i:=by omega
  rw[Hn,List.getElem?_toArray,Hr,Jz ip];dsimp only[Option.map];refine Mj (M8 f (by simp) λM v j=>?_)
  exact uy (s:={ s with heap:=M }) H v (by simp) λh' x=>q h' λb o L e=>x b o L ((j.2 b L).trans e)
theorem Be(x:ItAt prog w h I a tp ord i)(k:∀ b∈[I,a,tp],∀ o,h.get? b=some o->h'.get? b=some o):ItAt prog w h' I a tp ord i:=by
 obtain⟨o,B,D,t,first,l,go,n,Y,u,N,ld,f,g,y,p⟩:=x;refine⟨o,B,D,t,first,l,k a (by simp) _ go,n,Y,u,N,ld,k I (by simp) _ f,g,y,?_⟩
 rcases p with z | z | ⟨bt,m,d,c,e,q,T,j,r⟩
 .exact .inl z
 .exact .inr (.inl z)
 .exact .inr (.inr ⟨bt,m,d,c,e,q,T,k tp (by simp) _ j,r⟩)
theorem DJ(H:A.handled=none)(I a tp:Addr)(J:a≠I)(ord:List Int):Walks prog w A I [I,a,tp] [I] ord.length (λi v=>∃ t n,ord[i]?=some n/\v=.int n t) (λi h=>ItAt prog w h I a tp ord i) where
 sub:=λb L=>by simp at L;simp[L]
 frame:=λ_ _ _ st C=>Be st C
 item:=λi s Q E d st y=>by
  refine Gw st (Hf d) J λt M g j=>?_;exact y _ M s.toks ⟨t,_,Hf d,rfl⟩ g λb o L e=>j.extBut b o (λh=>L (by simp[h])) e
 done:=λs Q E st y=>Gx H st rfl J λM G=>y M s.toks λb o L e=>G b o (λh=>L (by simp[h])) e
 self:=λ_ s Q _ st h=>by
  obtain⟨o,B,D,t,first,l,go,c,Y,u,N,ld,f,r,m,p⟩:=st;have O:s.TypeIs (.ref I) "set_iterator":=⟨_,f,rfl⟩;refine wpAny_pyIter_slot O oU (MX oU O y7 ?_ (zE _));show wpAny _ _ (ret (.ref I)) _ _ s;exact Mn ⟨_,rfl,"set_iterator",_,O,di.lookup,h⟩
theorem DL{r:Addr}{Q:Bool->Shared->Prop} (O:s.TypeIs (.ref r) "set") (h:Q false s):wpAny (model prog w) A (MO (.ref r)) Q E s:=by
 unfold MO;refine Mj (MN O PySem.F.slot_set_len.lookup ?_);generalize a:("set.__len__" : String)=c;wp_delta;rw[show splitId c=some ("set","__len__") from by subst a;decide]
 subst a;refine Mj (MQ (T:="set") (b:=true) O (by rw[isSubtype_type];kernel_rfl) ?_)
 refine MP (λm=>NC m (by decide)) (λ_=>?_)
 refine MP (λ_=>?_) (λm=>NC (by decide) m)
 refine Mj (wpAny_typeOf O ?_);exact Mn h
theorem SetG.len{l:List Int}(g:SetG prog w h a l):l.length<scanBound:=by
 obtain⟨o,B,D,t,go,n,Y,x,⟨b,r,O⟩,Q,sz,u,N,ld⟩:=g;have:=(eJ r).1;rw[Hi,HK,O.length_eq]at this;omega
theorem SetG.typ{l:List Int}(g:SetG prog w s.heap a l):s.TypeIs (.ref a) "set":=by
 obtain⟨o,B,D,t,go,n,r⟩:=g;exact⟨o,go,n.1⟩
theorem SetG.lt{l:List Int}(g:SetG prog w h a l):a<h.objs.size:=by
 obtain⟨o,B,D,t,go,n,r⟩:=g;exact L9 go
theorem wZ{l:List Int}{Q:List Value->Shared->Prop}(hh:A.handled=none)(g:SetG prog w s.heap a l)
  (h:∀(h':Heap)(tk:Nat)(d:Drawn)(u:Array Value)(ord:List Int),(∀ b o,s.heap.get? b=some o->h'.get? b=some o)->s.heap.objs.size<h'.objs.size->ord.Perm l->ItemsOf (λi v=>∃ t n,ord[i]?=some n/\v=.int n t) u ord.length->Q u.toList { s with heap:=h',toks:=tk,drawn:=d }):wpAny (model prog w) A (collect (.ref a)) Q E s:=by
 unfold collect;refine Mj (wpAny_runValue (Ng entry_proto_collect' ?_));show wpAny _ _ (do again (.builtin "list.__iadd__" ⟨[← newList [],.ref a],[]⟩)) _ _ s
 refine Mj (Nd (Mn ⟨Code.quiet_builtin _ (by decide),Ng entry_list_iadd' ?_⟩))
 rw[Nh PySem.F.plain_list_iadd _];show wpAny _ A.in1 (Nw (.ref s.heap.objs.size) (.ref a) (.ref s.heap.objs.size)) _ _ { s with heap:=s.heap.push (Nb "list" #[] 0) };have q:SetG prog w (s.heap.push (Nb "list" #[] 0)) a l:=g.keeps λo e=>Mo _ e;have aS:s.heap.objs.size≠a:=IQ g.lt;have x:(s.heap.push (Nb "list" #[] 0)).get? s.heap.objs.size=some { cls:=.type "list",data:=.seq #[] 0 }:=Mp _ rfl;unfold Nw;refine Mj (wpAny_typeOf (T:="set") q.typ ?_);have M:Nx (.ref s.heap.objs.size) (.ref a)=false:=by simp[Nx,aS]
 simp only[M,show(Value.type "set" == Value.type "list")=false by decide,show(Value.type "set" == Value.type "tuple")=false by decide,LX,II,if_false]
 refine Mj (CU q λI tp J d ord H lI sI lt st pm it=>?_);have B:(s.heap.push (Nb "list" #[] 0)).objs.size=s.heap.objs.size+1:=My ..;rw[B]at lI lt;have SI:s.heap.objs.size≠I:=HN lI;have ST:s.heap.objs.size≠tp:=HN lt;have aI:a≠I:=HN (Jy g.lt lI);have an:s.heap.objs.size∉[I,a,tp]:=by simp only[Hs,Jl,or_false,not_or];exact⟨SI,aS,ST⟩
 have y:ord.length<=LZ:=by
  rw[pm.length_eq];exact HJ (Jy g.len (by decide))
 have Y:∀(f:Heap)(al tk:Nat),ItAt prog w f I a tp ord 0->(∀ b o,b≠s.heap.objs.size->J.get? b=some o->f.get? b=some o) ->
   f.get? s.heap.objs.size=some { cls:=.type "list",data:=.seq #[] al }->Mx (model prog w) A (.builtin "list.extend.loop" ⟨[.ref s.heap.objs.size,.ref I,.ref s.heap.objs.size],[]⟩) (λr k=>∃ h' tk d O j,r=.ok (.ret (.ref s.heap.objs.size))/\k={ s with heap:=h',toks:=tk,drawn:=d }/\(∀ b o,s.heap.get? b=some o->h'.get? b=some o)/\h'.get? s.heap.objs.size=some { cls:=.type "list",dict:=none,data:=.seq O j,slots:=#[] }/\ItemsOf (λi v=>∃ t n,ord[i]?=some n/\v=.int n t) O ord.length) { s with heap:=f,toks:=tk,drawn:=d }:=by
  intro f al tk ac C aa;refine codeAny_extend_loopS (DJ (A:=A.in1) hh I a tp aI ord).toS y _ an _ ord.length 0 _ #[] al rfl (Ia _) ac aa (ItemsOf.nil _) λk O j N ae c=>?_;rw[Moved.eq_with N];refine⟨k.heap,k.toks,d,O,j,rfl,rfl,λb o e=>N.heap b o (λam=>?_) (C b o (HN (L9 e)) (H b o (Mo _ e))),ae,c⟩;rcases Hs.mp am with e' | am
  .exact NC (L9 e) (by rw[e'];exact Iz _)
  .exact NC (L9 e) (by rw[HB.mp am];exact JV (HJ lI))
 have m:∀(r:Result)(k:Shared),(∃ h' tk d O j,r=.ok (.ret (.ref s.heap.objs.size))/\k={ s with heap:=h',toks:=tk,drawn:=d }/\(∀ b o,s.heap.get? b=some o->h'.get? b=some o)/\h'.get? s.heap.objs.size=some { cls:=.type "list",dict:=none,data:=.seq O j,slots:=#[] }/\ItemsOf (λi v=>∃ t n,ord[i]?=some n/\v=.int n t) O ord.length)->∃ v,r=.ok (.ret v)/\v=.ref s.heap.objs.size/\wpAny (model prog w) A (do
   let o ← load s.heap.objs.size
   match o.data with
   |.seq D _=>pure D.toList
   |_=>unsupported "internal:collect") Q E k:=λr k ⟨h',tk,d,O,j,G,p,C,x,c⟩=>⟨_,G,rfl,by
  subst p;refine Mj (wpAny_load x ?_)
  exact Mn (h h' tk d O ord C (L9 x) pm c)⟩
 have aa:=H _ _ x;have g2:SetG prog w J a l:=q.keeps λo e=>H _ _ e;refine Mj (Ml (DL (s:={ s with heap:=J,drawn:=d }) g2.typ ?_));refine MP (λ_=>?_) (λ_=>Mn ⟨Nm Jq _,MB (Y _ 0 _ it (λb o _ e=>e) aa) λr aA q'=>?_⟩);rotate_left
 .obtain⟨v,G,p,z⟩:=m _ _ q'
  cases G
  cases p
  exact z
 refine Mj (wpAny_rule ?_);refine Mj ?_;show wpAny _ _ (Nk s.heap.objs.size (·.push .none) >>= λ_=>Nk s.heap.objs.size (·.pop)) _ _ _;refine Mj (Nl aa rfl ?_);have ab:=MF (ME (·.push Value.none)) aa rfl;refine Nl (hz:=by seq_fits) ab rfl ?_
 have ap:=MF (ME (·.pop)) ab rfl;have oth:∀ b o,b≠s.heap.objs.size->J.get? b=some o->((J.update s.heap.objs.size (ME (·.push Value.none))).update s.heap.objs.size (ME (·.pop))).get? b=some o:=λb o L e=>(MG _ _ (Ne.symm L)).trans ((MG _ _ (Ne.symm L)).trans e);refine Mn ⟨Nm Jq _,MB (Y _ _ _ (Be it λb L o e=>oth b o (λz=>an (z▸L)) e) oth ap) λr aA q'=>?_⟩;obtain⟨v,G,p,z⟩:=m _ _ q'
 cases G
 cases p
 exact z
end
section
variable{X:Cx}{pins:List (Addr×Obj)}{σ:List (Option V)}{H:Hp}{s:Shared}
theorem Inv.drew{d:Drawn}(I:Inv X pins σ H s):Inv X pins σ H { s with drawn:=d }:=⟨I.ok,I.os,I.bare,I.base,I.loc,I.cell,I.free,I.freeC,I.pin,I.hok,I.len⟩
def setO(P:Program)(w:World)(a:Addr)(l:List Int):HO:=.ext λh=>SetG P w h a l
inductive rSetI(P:Program)(w:World)(K:Hj)(xs:List V)(H:L2.Hp)(Q:L2.VK):Prop
 |mk (p:Addr)(ns:List Int) (h0_:xs = [.ref p])(h1_:SqL K H p (ns.map V.int))(h2_:ns.length+1<4096)(h3_:∀ a:Addr,H a=none->Q (.ref a) (upd H a (setO P w a (ns.foldl addN []))))
theorem Ce(f:X.calm=true)(a:X.prog=P)(c:X.w=w)(e:X.K=K):fH X (.type "set") (rSetI P w K):=by
 subst a c e;intro pins s σ H N L Q I r h;obtain⟨p,b,rfl,n,y,q⟩:=h;obtain⟨u,rfl,E⟩:=g9 r
 cases E
 obtain⟨O,rv,m,A⟩:=I.list n;have d:=kL rv;have D:=rv.length;rw[Hi]at D;refine uF (I.ok.hd f) m.isList d (by rw[HE,← D];exact y) λj l g k=>?_
 refine⟨.ref s.heap.objs.size,_,I.laid (t':=l) k (Hl _) (show bG X.prog X.w _ _ _ (setO X.prog X.w s.heap.objs.size (b.foldl addN [])) from⟨g,?_,λM J v z=>v.keeps z⟩),rfl,q _ (I.hok.fresh (Hl _))⟩;obtain⟨o,B,x,t,v,r⟩:=g;exact⟨o,v⟩
theorem yq(ns:List Int):∀(l:List Int)(x:Int),x∈ns.foldl addN l↔x∈l∨x∈ns:=by
 induction ns with
 |nil=>intro l x;simp
 |cons n ns Y =>
  intro l x;rw[KY,Y,Hs];unfold addN;split
  .rename_i c;exact⟨λz=>z.elim .inl λy=>.inr (.inr y),λz=>z.elim .inl λy=>y.elim (λe=>.inl (e▸c)) .inr⟩
  .rw[Hx,HB];exact⟨λz=>z.elim (λy=>y.elim .inl λe=>.inr (.inl e)) λy=>.inr (.inr y),λz=>z.elim (λy=>.inl (.inl y)) λy=>y.elim (λe=>.inl (.inr e)) .inr⟩
end
inductive rSortT(P:Program)(w:World)(xs:List V)(H:L2.Hp)(Q:L2.VK):Prop
 |mk (a:Addr)(ms:List Int) (h0_:xs = [.ref a])(h1_:H a=some (setO P w a ms))(h2_:ms.length<64)(h3_:∀(l:Addr)(out:List Int),H l=none->(∀ x,x∈out↔x∈ms)->out.Pairwise (· < ·)->Q (.ref l) (upd H l (.lst (out.map V.int))))
theorem zx(L:X.calm=true)(eP:X.prog=P)(eW:X.w=w):fH X (.builtin "sorted") (rSortT P w):=by
 subst eP eW;intro B s Y H D N Q I r h;obtain⟨a,ms,rfl,A,al,q⟩:=h;obtain⟨u,rfl,ru⟩:=g9 r
 cases ru
 obtain⟨g,_,_⟩:=(show bG X.prog X.w H s.heap a (setO X.prog X.w a ms) from I.hok a _ A);have g:SetG X.prog X.w s.heap a ms:=g;have nd:ms.Nodup:=let ⟨_,_,_,_,_,_,_,_,_,nd,_⟩:=g;nd;refine Calls.call_function_entry kind_sorted plain_sorted entry_sorted (args_sorted1 _) ?_;unfold Builtin.«sorted»;refine Mj (m:=checkCount "sorted" 1 1 _) (Mn ?_);refine Mj (wZ (I.ok.hd L) g λh' tk d O aA C i pm aa=>?_);have f:MI O.toList aA:=by
  have all:∀(l:List Value)(ns:List Int),l.length=ns.length->(∀(j:Nat) v,l[j]?=some v->∃ t n,ns[j]?=some n/\v=.int n t)->MI l ns:=λl=>by
   induction l with
   |nil=>intro ns e _;rw[JG e.symm];exact .nil
   |cons v l c =>
    intro ns e k
    cases ns with
    |nil=>cases e
    |cons n ns =>
     obtain⟨t,m,G,E⟩:=k 0 v rfl
     cases G
     rw[E];exact .cons _ _ (c ns (Nat.succ.inj e) λj v e=>k (j+1) v e)
  exact all _ _ (by rw[HK];exact aa.1) λj v e=>aa.2 j v (by rw[← Iy];exact e)
 have z:O.toList.length<=LZ:=by
  rw[HK,aa.1,pm.length_eq];exact HJ (Jy g.len (by decide))
 refine Mj (Nd ?_ z);have ac:(h'.push (Nb "list" O.toList.toArray 0)).get? h'.objs.size=some (Nb "list" O.toList.toArray 0):=Mp _ rfl;show wpAny _ _ _ _ _ { s with heap:=h'.push (Nb "list" O.toList.toArray 0),toks:=tk,drawn:=d };have an:∀(out:Array Value)(b:Addr)(o:Obj),s.heap.get? b=some o->(sortedHeap (h'.push (Nb "list" O.toList.toArray 0)) h'.objs.size O.toList out).get? b=some o:=λout b o e=>by
  have E:=C b o e;rw[sortedHeap_old (HN (L9 E)) (by rw[My];exact IU (L9 E))]
  exact Mo _ E
 have ab:s.heap.objs.size<=h'.objs.size:=HJ i;refine Mj (Ml (MX slot_list_sort ⟨_,ac,rfl⟩ entry_list_sort (list_sort_tree ac f (by rw[HK,aa.1,pm.length_eq];exact al) λout am p a2 a3=>⟨_,rfl,?_⟩) (args_list_sort _)))
 obtain⟨e,T⟩:=sortedHeap_at (out:=out) ac;have ap:=a2.trans pm;refine Mn ⟨_,rfl,?_⟩;refine⟨.ref h'.objs.size,_,(I.laid (t':=tk) (an out) ab (show bG X.prog X.w _ _ _ (.lst (am.map V.int)) from⟨?_,out.toList,e,uv p,?_⟩)).drew,rfl,q _ am (I.hok.fresh ab) (λx=>ap.mem_iff) ?_⟩
 .rw[Hi,ap.length_eq];exact HJ (Jy g.len (by decide))
 .exact T
 .exact(List.Pairwise.and a3 (ap.nodup_iff.mpr nd)).imp λ{x y} ⟨M,J⟩=>by
   have ae:x<=y:=M;omega
end L2
namespace L2.C2
open PySem PySem.Spec PyProof.Rows
section
variable{prog:Program}{w:World}{A:Around}{E:Value->Shared->Prop}{s:Shared}{d:Addr}
theorem uu{Q:Option Obj->Shared->Prop}(h:Q (s.heap.get? a) s):wpAny (model prog w) A (loadIfAlive a) Q E s:=λc p b=>by
 show Sem.wp _ _ (.loadIfAlive a _) _ _ _ _;rw[Sem.wp_loadIfAlive];exact(Mn (M:=model prog w) (A:=A) (E:=E) h) c p b
def ItAt(h:Heap)(it d:Addr)(i n ep:Nat):Prop:=∃ r u j f,h.get? it=some { cls:=.type "dict_itemiterator",dict:=none,data:=.fields #[r,u,.ref d,.int i 0,.int n 0,.int ep 0,j,f],slots:=#[] }/\((r=.none/\u=.bool false)∨∃(a:Addr)(o:Obj),r=rawInt a/\h.get? a=some o/\a≠it)
theorem ItAt.keep(x:ItAt h it d i n ep)(g:∀ o,h.get? it=some o->h'.get? it=some o)(k:∀ b o,b≠it->h.get? b=some o->∃ C,h'.get? b=some C):ItAt h' it d i n ep:=by
 obtain⟨r,u,j,f,e,c⟩:=x;refine⟨r,u,j,f,g _ e,?_⟩;rcases c with c | ⟨a,o,c1,c2,c3⟩
 .exact .inl c
 .obtain⟨C,q⟩:=k a o c3 c2;exact .inr ⟨a,C,c1,q,c3⟩
theorem Bd{es:Array DictEntry}{Q:Option Value->Shared->Prop}(g:ItAt s.heap it d i es.size ep)(N:Ent s.heap d es ep)(H:A.handled=none)
  (hI:∀ e,es[i]?=some e->∀ h',ItAt h' it d (i+1) es.size ep->h'.get? s.heap.objs.size=some { cls:=.type "tuple",data:=.seq #[e.key,e.val] }->(∀ b o,b≠it->s.heap.get? b=some o->h'.get? b=some o)->Q (some (.ref s.heap.objs.size)) { s with heap:=h' })
  (z:es[i]?=none->∀ h',Heap.ExtBut it s.heap h'->Q none { s with heap:=h' }):wpAny (model prog w) A (pyNext (.ref it)) Q E s:=by
 obtain⟨h,u,ok,ov,g,c⟩:=g;rcases c with⟨rfl,rfl⟩ | ⟨a,oa,rfl,ae,ab⟩
 .refine BJ (ok:=ok) (ov:=ov) g N H (λe t h' C n J=>hI e t h' ⟨_,_,_,_,C,.inr ⟨s.heap.objs.size,_,rfl,n,?_⟩⟩ n J) z;exact IQ (L9 g)
 obtain⟨o,G,p,f⟩:=N;have O:s.TypeIs (.ref it) "dict_itemiterator":=⟨_,g,rfl⟩;have own:MY "dict_itemiterator" = true:=by decide
 unfold pyNext;refine Mj (wpAny_attempt (MZ (name:=Str.ofString "__next__") O F.slot_dict_itemiterator_next (MX F.slot_dict_itemiterator_next O F.entry_dict_itemiterator_next ?_ (F.args_dict_itemiterator_next_1 _))));refine Mj (Mn (Mj (Mj (Mj (M0 O (Mn ?_))))));refine Mj (wpAny_fieldsOf g rfl ?_);simp only[own,if_true];show wpAny _ _ (if(Value.ref d == Value.none)=true then _ else _) _ _ _;rw[NB (show ¬ ((Value.ref d == Value.none)=true) from HG)];refine Mj (Mn (Mj (wpAny_dictEntries G f ?_)));rw[NB (by simp)]
 refine Mj (Mn (Mj (wpAny_dictEpoch G f ?_)));rw[NB (by simp)]
 refine Mn ?_;have n0:¬ ((i:Int)<0):=by omega
 simp only[n0,if_false,Hn]
 cases t:es[i]? with
 |none =>
  refine Mj (Mj (M0 O (Mn ?_)));show wpAny _ _ (setField (.ref it) 2 .none >>= _) _ _ s;refine Mj (wpAny_setField g rfl (by simp) ?_)
  show wpAny _ _ (newExc (.type "StopIteration") [] >>= _) _ _ _;refine Mj ?_;simp only[newExc,newTuple];refine Mj (MV (Mj (m:=firstArgMember _ _) (wpAny_of_eq (a:=Value.none) (by first | rfl | (simp only[firstArgMember];rfl)) (MV ?_ (by size_fits)))) (by size_fits))
  simp only[raiseNew];refine Mj (wpAny_handled ?_);rw[show A.in1.handled=none from H];refine Mj (Mn (wpAny_throw ?_));refine Mj (MQ (T:="StopIteration") (b:=true) ⟨_,Mp _ rfl,rfl⟩ isSubtype_stop (Mn ?_));exact z t _ (((M6 ..).extBut.push _).push _)
 |some e =>
  refine Mj (Mj (M0 O (Mn ?_)));refine Mj (M7 O ?_);show wpAny _ _ (setField (.ref it) 3 (rawInt ((i:Int)+1)) >>= _) _ _ s;refine Mj (M8 g (by simp) λv C y=>?_)
  have c1:((i+1:Nat):Int)=(i:Int)+1:=by omega
  have Y:v.get? it=some { cls:=.type "dict_itemiterator",dict:=none,data:=.fields #[rawInt a,u,.ref d,.int ((i+1:Nat):Int) 0,.int es.size 0,.int ep 0,ok,ov],slots:=#[] }:=by
   rw[c1];simpa[rawInt] using C
  have lt:it<s.heap.objs.size:=L9 g;have B:v.objs.size=s.heap.objs.size:=y.1;have aa:Shared.TypeIs { s with heap:=v } (.ref it) "dict_itemiterator":=⟨_,Y,rfl⟩;refine Mj (Ml (Mj (M7 aa (Mj (M7 aa ?_)))));show wpAny _ _ (M9 (.ref it) 6 e.key e.val) _ _ { s with heap:=v };unfold M9 Builtin.Dict_items.ownedTupleIsFree;refine Mj (wpAny_newTuple ?_);have n:(v.push { cls:=.type "tuple",data:=.seq #[e.key,e.val] }).get? it=some { cls:=.type "dict_itemiterator",dict:=none,data:=.fields #[rawInt a,u,.ref d,.int ((i+1:Nat):Int) 0,.int es.size 0,.int ep 0,ok,ov],slots:=#[] }:=Mo _ Y;have l:(v.push { cls:=.type "tuple",data:=.seq #[e.key,e.val] }).get? s.heap.objs.size=some { cls:=.type "tuple",data:=.seq #[e.key,e.val] }:=by rw[← B];exact Mp _ rfl
  have I:∀ b o,b≠it->s.heap.get? b=some o->(v.push { cls:=.type "tuple",data:=.seq #[e.key,e.val] }).get? b=some o:=λb o L q=>Mo _ (y.extBut b o L q);rw[B];generalize v.push { cls:=.type "tuple",data:=.seq #[e.key,e.val] }=k at n l I;show wpAny _ _ (_ >>= _) _ _ { s with heap:=k };have M:k.get? ((a:Int).toNat)=some oa:=by rw[Hn];exact I a oa ab ae
  refine Mj (Mj (wpAny_field n rfl (x:=rawInt a) rfl ?_));show wpAny _ _ (loadIfAlive ((a:Int).toNat) >>= _) _ _ { s with heap:=k };refine Mj (uu ?_);show wpAny _ _ (if((k.get? ((a:Int).toNat)).isNone)=true then _ else _) _ _ _;rw[M,NB (show ¬ (some oa).isNone=true from HG)];have ac:∀ D,D.get? it=some { cls:=.type "dict_itemiterator",dict:=none,data:=.fields #[rawInt a,.bool true,.ref d,.int ((i+1:Nat):Int) 0,.int es.size 0,.int ep 0,ok,ov],slots:=#[] }->(∀ b o,b≠it->k.get? b=some o->D.get? b=some o)->Q (some (.ref s.heap.objs.size)) { s with heap:=D }:=λD J j =>
   hI e t D ⟨_,_,_,_,J,.inr ⟨a,oa,rfl,j a oa ab (I a oa ab ae),ab⟩⟩ (j _ _ (IQ lt) l) λb o L q=>j b o L (I b o L q)
  refine Mj (wpAny_field n rfl (x:=u) rfl ?_);by_cases r:u=.bool true
  .rw[NB (by rw[r];decide)]
   refine Mn ?_;subst r;exact Mn (Mn ⟨_,rfl,Mn (ac k n λb o _ q=>q)⟩)
  .rw[NA (by simpa using r)]
   refine Mj (M8 n (by simp) λD J j=>?_)
   exact Mn (Mn (Mn ⟨_,rfl,Mn (ac D J λb o L q=>j.extBut b o L q)⟩))
def Et(h₀ h:Heap)(es:Array DictEntry)(u:Array Value)(i:Nat):Prop:=u.size=i/\∀(j:Nat)(v:Value),u[j]?=some v->∃(t:Addr)(e:DictEntry),v=.ref t/\es[j]?=some e/\h₀.objs.size<=t/\h.get? t=some { cls:=.type "tuple",data:=.seq #[e.key,e.val] }
def zH(u:Array Value):Prop:=u.toList.Nodup
theorem BH{S:Addr}{es:Array DictEntry}{res:Value}{h₀:Heap}(p:A.handled=none)(y:es.size<=LZ)(aI:S≠it)(an:S≠d)(aS:d≠it) :
  ∀(k i:Nat)(s:Shared)(u:Array Value)(c:Nat),es.size-i=k->i<=es.size->ItAt s.heap it d i es.size ep->Ent s.heap d es ep->s.heap.get? S=some { cls:=.type "list",dict:=none,data:=.seq u c,slots:=#[] }->Et h₀ s.heap es u i->zH u->h₀.objs.size<=s.heap.objs.size ->
  (∀ h' E c',(∀ b o,b≠S->b≠it->s.heap.get? b=some o->h'.get? b=some o)->h'.get? S=some { cls:=.type "list",dict:=none,data:=.seq E c',slots:=#[] }->Et h₀ h' es E es.size->zH E->R (.ok (.ret res)) { s with heap:=h' }) ->
  Mx (model prog w) A (.builtin "list.extend.loop" ⟨[.ref S,.ref it,res],[]⟩) R s:=by
 intro k;induction k with
 |zero =>
  intro i s u c C g ae N D m am aa B;have ab:i=es.size:=by omega
  subst ab;refine Ng F.entry_extend_loop ?_;rw[Nh F.plain_extend_loop _];show wpAny _ A.in1 (pyNext (.ref it) >>= _) _ _ s;refine Mj (Bd ae N p (λe T=>?_) λ_ h' q=>?_)
  .rw[Kf (Hl _)]at T
   cases T
  .refine Mn (B h' u c (λb o _ L e=>q b o L e) (q S _ aI D) ⟨m.1,λj v H=>?_⟩ am);obtain⟨t,e,I,f,x,a4⟩:=m.2 j v H;refine⟨t,e,I,f,x,q t _ (λz=>?_) a4⟩;obtain⟨_,_,_,_,Q,_⟩:=ae;rw[z,Q]at a4;exact NC (congrArg Obj.cls (HM a4)) (by intro z;exact NC (Value.type.inj z) (by decide))
 |succ k Y =>
  intro i s u c C g ae N D m am aa B;refine Ng F.entry_extend_loop ?_;rw[Nh F.plain_extend_loop _];show wpAny _ A.in1 (pyNext (.ref it) >>= _) _ _ s;refine Mj (Bd ae N p (λe T h' r n G=>?_) λT=>NC T (by rw[IL (show i<es.size by omega)];intro z;cases z))
  have al:=G S _ aI D;have lt:it<s.heap.objs.size:=by obtain⟨_,_,_,_,z,_⟩:=ae;exact L9 z
  have aL:=L9 D;show wpAny _ A.in1 (Nk S (·.push (.ref s.heap.objs.size)) >>= _) _ _ _;refine Mj ?_;have aA:∀ b,b≠S->∀ o,h'.get? b=some o->(h'.update S (ME (·.push (.ref s.heap.objs.size)))).get? b=some o:=λb L o e=>(MG _ _ (Ne.symm L)).trans e;have l:∀(J:Heap),(∀ b o,b≠S->h'.get? b=some o->J.get? b=some o)->Et h₀ J es (u.push (.ref s.heap.objs.size)) (i+1):=λJ h=>by
   refine⟨by rw[Array.size_push,m.1],λj v H=>?_⟩
   rw[Array.getElem?_push]at H;split at H
   .rename_i M
    cases H
    rw[m.1]at M;subst M;refine⟨s.heap.objs.size,e,rfl,T,aa,h _ _ (IQ aL) n⟩
   .obtain⟨t,e',I,f,x,a4⟩:=m.2 j v H;have ti:t≠it:=λz=>by
     obtain⟨_,_,_,_,Q,_⟩:=ae;rw[z,Q]at a4;exact NC (congrArg Obj.cls (HM a4)) (by intro z;exact NC (Value.type.inj z) (by decide))
    refine⟨t,e',I,f,x,h t _ (λz=>?_) (G t _ ti a4)⟩;rw[z,D]at a4;exact NC (congrArg Obj.cls (HM a4)) (by intro z;exact NC (Value.type.inj z) (by decide))
  have ap:zH (u.push (.ref s.heap.objs.size)):=by
   unfold zH;rw[Lp];refine HP.mpr ⟨am,by simp,λa O b L e=>?_⟩
   rw[HB.mp L]at e;subst e;obtain⟨j,H⟩:=IV O;obtain⟨t,e',I,_,_,a4⟩:=m.2 j _ (by rw[← Iy];exact H)
   cases I
   exact Iz _ (L9 a4)
  refine Nl al rfl (Mn ⟨Nm F.plain_extend_loop _,Y (i+1) _ (u.push (.ref s.heap.objs.size)) _ ∅ ∅ ?_ ?_ (MF _ al rfl) (l _ λb o L e=>aA b L o e) ap ?_ λaT E c' m1 m2 m3 m4=>?_⟩)
   (by rw[m.1];omega) (by show(u.push _).size<=LZ+1;rw[Array.size_push,m.1];omega)
  .exact r.keep (λo e=>aA it (Ne.symm aI) o e) λb o _ e=>by
    by_cases z:b=S
    .rw[z];exact⟨_,MF _ al rfl⟩
    .exact⟨o,aA b z o e⟩
  .obtain⟨o,I,f,x⟩:=N;exact⟨o,aA d (Ne.symm an) o (G d o aS I),f,x⟩
  .show h₀.objs.size<=(h'.update _ _).objs.size;rw[Nf];exact Io aa (HJ (L9 n))
  .exact B aT E c' (λb o L ac e=>m1 b o L ac (aA b L o (G b o ac e))) m2 m3 m4
theorem yM{r:Addr}{Q:Bool->Shared->Prop} (O:s.TypeIs (.ref r) "dict_items") (h:Q false s):wpAny (model prog w) A (MO (.ref r)) Q E s:=by
 unfold MO;refine Mj (MN O PySem.F.slot_dict_items_len.lookup ?_);generalize a:("dict_items.__len__" : String)=c;wp_delta;rw[show splitId c=some ("dict_items","__len__") from by subst a;decide]
 subst a;refine Mj (MQ (T:="dict_items") (b:=true) O (by rw[isSubtype_type];kernel_rfl) ?_)
 refine MP (λm=>NC m (by decide)) (λ_=>?_)
 refine MP (λ_=>?_) (λm=>NC (by decide) m)
 refine Mj (wpAny_typeOf O ?_);exact Mn h
theorem yY{S r:Addr}{es:Array DictEntry}{res:Value}(H:A.handled=none)(p:s.heap.IsItemsView r d)(E:Ent s.heap d es ep)(y:es.size<=LZ)(al:S≠r)(aa:S≠d)
  (D:s.heap.get? S=some { cls:=.type "list",dict:=none,data:=.seq #[] N,slots:=#[] })
  (B:∀ h' O c',(∀ b o,b≠S->s.heap.get? b=some o->h'.get? b=some o)->h'.get? S=some { cls:=.type "list",dict:=none,data:=.seq O c',slots:=#[] }->Et s.heap h' es O es.size->zH O->R (.ok (.ret res)) { s with heap:=h' }) :
  wpAny (model prog w) A.in1 (Nw (.ref S) (.ref r) res)
   (λG s'=>match G with | .done f=>R (.ok f) s' | .again c'=>c'.quiet=true/\Mx (model prog w) A c' R s') (λe s'=>R (.error e) s') s:=by
 obtain⟨t,ac,am,ae⟩:=id p;obtain⟨i,x,h,ab⟩:=id E;have dl:d<s.heap.objs.size:=L9 x;have ap:S≠s.heap.objs.size:=HN (L9 D);have Y:∀(g:Heap)(k l:Nat),ItAt g s.heap.objs.size d 0 es.size ep->(∀ b o,b≠S->s.heap.get? b=some o->g.get? b=some o)->s.heap.objs.size<=g.objs.size ->
   g.get? S=some { cls:=.type "list",dict:=none,data:=.seq #[] k,slots:=#[] }->l=s.toks->Mx (model prog w) A (.builtin "list.extend.loop" ⟨[.ref S,.ref s.heap.objs.size,res],[]⟩) R { s with heap:=g,toks:=l }:=λg k l C n J q4 c=>by
  subst c;refine BH (h₀:=s.heap) H y ap aa (HN dl) es.size 0 _ #[] k (Nat.sub_zero _) (Ia _) C ⟨i,n d i (Ne.symm aa) x,h,ab⟩ q4 ⟨rfl,λj v e=>by simp at e⟩ (by unfold zH;simp) J λh' O c' Q I m3 m4=>?_
  exact B h' O c' (λb o L e=>Q b o L (HN (L9 e)) (n b o L e)) I m3 m4
 unfold Nw;refine Mj (wpAny_typeOf (T:="dict_items") p.typeIs ?_);have M:Nx (.ref S) (.ref r)=false:=by simp[Nx,al]
 have nl:(Value.type "dict_items" == Value.type "list")=false:=by decide
 have nt:(Value.type "dict_items" == Value.type "tuple")=false:=by decide
 simp only[M,nl,nt,LX,II,if_false];refine Mj (D2 p E ?_);have a:=Mo { cls:=.type "dict_itemiterator",data:=.fields #[.none,.bool false,.ref d,.int 0 0,.int es.size 0,.int ep 0,.none,.none] } D;have an:ItAt (s.heap.push { cls:=.type "dict_itemiterator",data:=.fields #[.none,.bool false,.ref d,.int 0 0,.int es.size 0,.int ep 0,.none,.none] }) s.heap.objs.size d 0 es.size ep :=
  ⟨_,_,_,_,Mp _ rfl,.inl ⟨rfl,rfl⟩⟩
 have u:∀ b o,s.heap.get? b=some o->(s.heap.push { cls:=.type "dict_itemiterator",data:=.fields #[.none,.bool false,.ref d,.int 0 0,.int es.size 0,.int ep 0,.none,.none] }).get? b=some o:=λb o e=>Mo _ e;have big:s.heap.objs.size<=(s.heap.push { cls:=.type "dict_itemiterator",data:=.fields #[.none,.bool false,.ref d,.int 0 0,.int es.size 0,.int ep 0,.none,.none] }).objs.size:=by rw[My];exact JB _
 have aA:(⟨s.heap.push { cls:=.type "dict_itemiterator",data:=.fields #[.none,.bool false,.ref d,.int 0 0,.int es.size 0,.int ep 0,.none,.none] },s.gens,s.drawn,s.toks,s.os⟩:Shared).TypeIs (.ref r) "dict_items":=⟨t,u _ _ ac,am⟩;generalize s.heap.push { cls:=.type "dict_itemiterator",data:=.fields #[.none,.bool false,.ref d,.int 0 0,.int es.size 0,.int ep 0,.none,.none] }=g0 at a an u big aA;refine Mj (Ml (yM aA ?_));refine MP (λ_=>?_) (λ_=>Mn ⟨Nm Jq _,Y g0 _ s.toks an (λb o _ e=>u b o e) big a rfl⟩);refine Mj (wpAny_rule ?_);refine Mj ?_;show wpAny _ _ (Nk S (·.push .none) >>= λ_=>Nk S (·.pop)) _ _ _;refine Mj (Nl a rfl ?_);have m:=MF (ME (·.push Value.none)) a rfl;refine Nl (hz:=by seq_fits) m rfl ?_
 have q:=MF (ME (·.pop)) m rfl;have ne:∀ b,b≠S->∀ o,g0.get? b=some o->((g0.update S (ME (·.push Value.none))).update S (ME (·.pop))).get? b=some o:=λb L o e=>(MG _ _ (Ne.symm L)).trans ((MG _ _ (Ne.symm L)).trans e);refine Mn ⟨Nm Jq _,Y _ _ s.toks (an.keep (λo e=>ne _ (Ne.symm ap) o e) λb o _ e=>?_) (λb o L e=>ne b L o (u b o e)) (by rw[Nf,Nf];exact big) q rfl⟩
 by_cases z:b=S
 .rw[z];exact⟨_,q⟩
 .exact⟨o,ne b z o e⟩
theorem list_itemsT{r:Addr}{es:Array DictEntry}(H:A.handled=none)(p:s.heap.IsItemsView r d)(N:Ent s.heap d es ep)(T:es.size<=LZ)
  (h:∀ h' O c',(∀ b o,s.heap.get? b=some o->h'.get? b=some o)->h'.get? s.heap.objs.size=some { cls:=.type "list",dict:=none,data:=.seq O c',slots:=#[] }->(O.size=es.size/\∀(j:Nat)(v:Value),O[j]?=some v->∃(t:Addr)(e:DictEntry),v=.ref t/\es[j]?=some e/\s.heap.objs.size<t/\h'.get? t=some { cls:=.type "tuple",data:=.seq #[e.key,e.val] })->O.toList.Nodup->Q (.ref s.heap.objs.size) { s with heap:=h' }) :
  wpAny (model prog w) A (call (.type "list") [.ref r]) Q E s:=by
 obtain⟨L,n,Y,I⟩:=id p;obtain⟨i,x,z,l⟩:=id N;refine callType_codes (Q₁:=λG f=>G=.ref s.heap.objs.size/\f={ s with heap:=s.heap.push { cls:=.type "list",data:=.seq #[] } }) PySem.F.called_list (LO _) LQ
  (code_list_new _ ⟨rfl,rfl⟩) λG f k=>?_
 obtain⟨rfl,rfl⟩:=k;have D:(s.heap.push { cls:=.type "list",data:=.seq #[] }).get? s.heap.objs.size=some { cls:=.type "list",data:=.seq #[] }:=Mp _ rfl;have M:s.heap.objs.size≠r:=IQ (L9 n);have a:s.heap.objs.size≠d:=IQ (L9 x);refine⟨⟨_,D,rfl⟩,LL _ _,?_⟩;show wpAny _ _ (do let u ← Ny (.ref s.heap.objs.size);Builtin.List.listUpdate (.ref s.heap.objs.size) (λ_=>#[]);letGo u.toList.reverse;Nw (.ref s.heap.objs.size) (.ref r) .none) _ _ _
 refine Mj ?_;unfold Ny;refine Mj (Ni D rfl (Mn ?_));show wpAny _ _ (Nk s.heap.objs.size (λ_=>#[]) >>= λ_=>letGo (#[]:Array Value).toList.reverse >>= λ_=>Nw (.ref s.heap.objs.size) (.ref r) .none) _ _ _;refine Mj (Nl D rfl ?_);have m:=MF (ME (λ_=>(#[]:Array Value))) D rfl;have oth:∀ b o,s.heap.get? b=some o->((s.heap.push { cls:=.type "list",data:=.seq #[] }).update s.heap.objs.size (ME (λ_=>(#[]:Array Value)))).get? b=some o :=
  λb o e=>(MG _ _ (IQ (L9 e))).trans (Mo _ e)
 refine Mj (Na ?_);refine yY (A:=A.in1) H ⟨L,oth _ _ n,Y,I⟩ ⟨i,oth _ _ x,z,l⟩ T M a m λh' O c' C B J g=>?_
 exact⟨rfl,h h' O c' (λb o e=>C b o (HN (L9 e)) (oth b o e)) B ⟨J.1,λj v p=>by
  obtain⟨t,e,c,q,y,x4⟩:=J.2 j v p;refine⟨t,e,c,q,?_,x4⟩;rw[Nf,size_push']at y
  exact y⟩ g⟩
end
end L2.C2
namespace L2.AT
open PySem PySem.Spec PyProof.Rows
section
variable{X:Cx}{pins:List (Addr×Obj)}{σ:St}{H H':Hp}{s:Shared}{h':Heap}
theorem Inv.many(I:Inv X pins σ H s)(k:∀ b o,s.heap.get? b=some o->h'.get? b=some o)(g:∀ b,b<s.heap.objs.size->H' b=H b)(new:∀ b u,s.heap.objs.size<=b->H' b=some u->bG X.prog X.w H' h' b u):Inv X pins σ H' { s with heap:=h',toks:=t' }:=by
 have up:∀ b u,H b=some u->H' b=some u:=λb u e=>by rw[g b (I.hok.lt e)];exact e
 refine I.un ⟨λb o e n _ _=>k b o e,λb o e n _ _=>⟨o.slots,k b o e⟩,λb o e n _=>by rw[g b (L9 e)];exact n,λb o e _=>⟨o,k b o e⟩,λb D e=>up b _ e,λb o u e=>up b _ e,λb G e=>⟨#[],by rw[up b _ e];simp⟩⟩ λb u e=>?_
 by_cases z:b<s.heap.objs.size
 .rw[g b z]at e;exact(I.hok b u e).stay (λc v _ q=>k c v q) (λc q=>up c _ q) λc D q=>up c _ q
 .exact new b u (Kk z) e
theorem DF{l:List (Addr×α)}{x:α}(nd:(l.map (·.1)).Nodup)(h:(a,x)∈l):l.lookup a=some x:=by
 induction l with
 |nil=>cases h
 |cons p r Y =>
  rw[HR,Hy]at nd;rcases Hs.mp h with e | h
  .subst e;simp[JO]
  .have ne:(a == p.1)=false:=beq_eq_false_iff_ne.mpr λz=>nd.1 (z▸Ie.mpr ⟨_,h,rfl⟩)
   simp only[JO,ne];exact Y nd.2 h
theorem A0{l:List (Addr×α)}{x:α}(h:l.lookup a=some x):(a,x)∈l:=by
 induction l with
 |nil=>cases h
 |cons p r Y =>
  simp only[JO]at h;split at h
  .rename_i e
   cases h
   have:=beq_iff_eq.mp e;rw[this];exact Hu
  .exact Hq _ (Y h)
def adr:Value->Addr
 |.ref a=>a
 |_=>0
end
end L2.AT
namespace L2
open PySem PySem.Spec PyProof.Rows AT
inductive rListT(xs:List V)(H:L2.Hp)(Q:L2.VK):Prop
 |mk (v d:Addr)(kvs:List (Key×V))(ps:List (Int×Int)) (h0_:xs = [.ref v])(h1_:H v=some (xZ v d))(h2_:H d=some (.dK kvs))(h3_:kvs=ps.map (λe=>(Sum.inl e.1,V.int e.2)))(h4_:∀(l:Addr)(out:List V)(H':Hp),(∀ b u,H b=some u->H' b=some u)->H l=none->H' l=some (.lst out)->out.length=ps.length->(∀(i:Nat)(e:Int×Int),ps[i]?=some e->∃ t,out[i]?=some (.ref t)/\H' t=some (.tup [.int e.1,.int e.2]))->Q (.ref l) H')
theorem zz(y:X.calm=true):fH X (.type "list") rListT:=by
 intro B s Y H D us Q I r h;obtain⟨v,d,f,ps,rfl,N,hd,ek,q⟩:=h;obtain⟨u,rfl,ru⟩:=g9 r
 cases ru
 obtain⟨vw,_,_⟩:=(show bG X.prog X.w H s.heap v (xZ v d) from I.hok v _ N);obtain⟨_,E,ep,aA,aI,aT⟩:=BK (P:=X.prog) (w:=X.w) (H:=H) (h:=s.heap) (d:=d) (u:=.dK f) True.intro (I.hok d _ hd);obtain⟨hz,_⟩:=(show bG X.prog X.w H s.heap d (.dK f) from I.hok d _ hd);have aL:E.size=ps.length:=by
  rw[aI];show f.length=_;rw[ek,Hi]
 have kl:f.length=ps.length:=by rw[ek,Hi]
 have aV:∀(j:Nat)(e:DictEntry),E[j]?=some e->∃ x tx ty,ps[j]?=some x/\e.key=.int x.1 tx/\e.val=.int x.2 ty:=λj e T=>by
  obtain⟨a,b,c1,c2,c3⟩:=aT j e T;rcases c1 with⟨aa,k,G,p,e3⟩ | ⟨_,_,_,G,_⟩
  .cases G;rw[ek,Hr]at p;obtain⟨x,O,e4⟩:=HF.mp p
   cases e4
   subst e3;obtain⟨tx,e5⟩:=(show ∃ t,e.key=Value.int x.1 t from c2);obtain⟨ty,e6⟩:=(show ∃ t,e.val=Value.int x.2 t from c3);exact⟨x,tx,ty,O,e5,e6⟩
  .cases G
 refine C2.list_itemsT (I.ok.hd y) vw aA (by rw[aI];exact hz) λg ab c C hS an ac=>?_
 have tk:∀ w∈ab.toList,∃(j:Nat)(t:Addr)(x:Int×Int)(tx ty:Tok),ab.toList[j]?=some w/\w=.ref t/\ps[j]?=some x/\s.heap.objs.size<t/\g.get? t=some { cls:=.type "tuple",data:=.seq #[.int x.1 tx,.int x.2 ty] }:=λw hw=>by
  obtain⟨j,hj⟩:=IV hw;obtain⟨t,e,a1,a2,a3,a4⟩:=an.2 j w (by rw[← Iy];exact hj)
  obtain⟨x,tx,ty,b1,b2,b3⟩:=aV j e a2;rw[b2,b3]at a4;exact⟨j,t,x,tx,ty,hj,a1,b1,a3,a4⟩
 have al:ab.toList.length=ps.length:=by rw[HK,an.1,aL]
 have ap:(ab.toList.map adr).map Value.ref=ab.toList:=by
  rw[JN];refine(JW (g:=id) λw hw=>?_).trans (List.map_id _);obtain⟨_,t,_,_,_,_,a2,_⟩:=tk w hw;rw[a2];rfl
 have a0:(ab.toList.map adr).Nodup:=by
  rw[← ap]at ac;exact(List.pairwise_map.mp ac).imp λh e=>h (by rw[e])
 have zk:((ab.toList.map adr).zip ps).map (·.1)=ab.toList.map adr:=List.map_fst_zip (by rw[Hi,al];exact Hl _)
 obtain⟨n,am⟩:∃ n:Hp,n=λb=>if b=s.heap.objs.size then some (.lst ((ab.toList.map adr).map V.ref)) else match((ab.toList.map adr).zip ps).lookup b with | some e=>some (.tup [.int e.1,.int e.2]) | none=>H b:=⟨_,rfl⟩
 have ae:∀ b,b<s.heap.objs.size->n b=H b:=λb L=>by
  rw[am];show(if b=s.heap.objs.size then _ else _)=_;rw[NB (HN L)]
  cases z:((ab.toList.map adr).zip ps).lookup b with
  |none=>rfl
  |some e =>
   have m:=A0 z;obtain⟨w,hw,ew⟩:=Ie.mp (KW m).1;obtain⟨_,t,_,_,_,_,a2,_,a4,_⟩:=tk w hw;subst a2;have:t=b:=ew;subst this;exact NC L (JV (HJ a4))
 have aS:∀(i:Nat)(e:Int×Int),ps[i]?=some e->∃ t tx ty,ab.toList[i]?=some (.ref t)/\s.heap.objs.size<t/\n t=some (.tup [.int e.1,.int e.2])/\g.get? t=some { cls:=.type "tuple",data:=.seq #[.int e.1 tx,.int e.2 ty] }:=λi e T=>by
  have o:i<ab.toList.length:=by rw[al];exact(Hg.mp T).1
  obtain⟨j,t,x,tx,ty,a1,a2,a3,a4,a5⟩:=tk _ (IT o);have ej:i=j:=(List.getElem?_inj o ac).mp ((Hf o).trans a1.symm);subst ej;rw[T]at a3
  cases a3
  rw[a2]at a1;refine⟨t,tx,ty,a1,a4,?_,a5⟩;rw[am];show(if t=s.heap.objs.size then _ else _)=_;rw[NB (IQ a4),DF (by rw[zk];exact a0) (x:=e) (Hh (i:=i) (by rw[KA];exact⟨by rw[Hr,a1];rfl,T⟩))]
 have I2:Inv X B Y n { s with heap:=g }:=by
  refine Inv.many (t':=s.toks) I C ae λb u L hu=>?_;by_cases zb:b=s.heap.objs.size
  .subst zb;have p:n s.heap.objs.size=some (.lst ((ab.toList.map adr).map V.ref)):=by rw[am];exact NA rfl
   rw[p]at hu
   cases hu
   refine⟨by rw[Hi,Hi,al,← kl];exact hz,ab.toList,c,?_,?_⟩
   .have:∀ l:List Addr,Vals (l.map V.ref) (l.map Value.ref):=λl=>by
     induction l with
     |nil=>exact .nil
     |cons a l A=>exact .cons rfl A
    have z:=this (ab.toList.map adr);rw[ap]at z;exact z
   .exact hS
  .have p:n b=(match((ab.toList.map adr).zip ps).lookup b with | some e=>some (.tup [.int e.1,.int e.2]) | none=>H b):=by rw[am];exact NB zb
   rw[p]at hu
   cases z:((ab.toList.map adr).zip ps).lookup b with
   |none =>
    rw[z]at hu;have:=I.hok.lt (show H b=some u from hu);exact NC L (Nat.not_le_of_lt this)
   |some e =>
    rw[z]at hu
    cases hu
    have m:=A0 z;obtain⟨i,o⟩:=IV m;obtain⟨M,J⟩:=KA.mp o;rw[Hr]at M;obtain⟨t,tx,ty,b1,b2,b3,b4⟩:=aS i e J;rw[b1]at M
    cases M
    exact⟨(by decide:(2:Nat)<=LZ),[.int e.1 tx,.int e.2 ty],.cons ⟨tx,rfl⟩ (.cons ⟨ty,rfl⟩ .nil),_,b4,rfl,_,rfl⟩
 refine⟨.ref s.heap.objs.size,n,I2,rfl,q s.heap.objs.size _ n (λb u e=>by rw[ae b (I.hok.lt e)];exact e) (I.hok.fresh (Hl _)) (by rw[am];exact NA rfl) (by rw[Hi,Hi,al]) λi e T=>?_⟩
 obtain⟨t,_,_,b1,_,b2,_⟩:=aS i e T;exact⟨t,by rw[Hr,Hr,b1];rfl,b2⟩
end L2
namespace L2
open PySem PySem.Spec PyProof.Rows
inductive rMaxT(K:Hj)(xs:List V)(H:L2.Hp)(Q:L2.VK):Prop
 |mk (p:Addr)(ns:List Int) (h0_:xs = [.ref p])(h1_:SqT K H p (ns.map V.int))(h2_:0<ns.length)(h3_:∀ m:Int,m∈ns->(∀ x∈ns,x<=m)->Q (.int m) H)
theorem Cj(f:X.calm=true):fH X (.builtin "max") (rMaxT X.K):=by
 intro B s Y H D z Q I r h;obtain⟨p,ns,rfl,y,w,q⟩:=h;obtain⟨u,rfl,ru⟩:=g9 r
 cases ru
 obtain⟨O,rv,pl,m⟩:=I.tuple y;have d:=mR rv;obtain⟨l,e⟩:=d.allInts.items;obtain⟨o,T,aa,n,hd⟩:=pl;rw[e]at hd;have N:s.heap.IsTuple p (intItems l):=⟨o,T,aa,n,hd⟩;have G:ns=l.toList.map (·.1):=by
  rw[← nums_intItems,← e];exact(show numsOf O.toArray.toList=ns from d.numsOf).symm
 subst G;rw[Hi,HK]at w;have lt:p<s.heap.objs.size:=L9 T;refine call_max_walk (wpAny_pyIter_tuple N ?_);refine⟨_,_,_,_,_,_,_,rfl,Walks.tuple (A:=X.A.in1) (I.ok.hd f) _ p (HN lt) (intItems l),⟨⟨_,Mp _ rfl,rfl,rfl⟩,⟨o,Mo _ T,aa,n,hd⟩⟩,λb L=>?_,by simpa[intItems] using w,CmpOf.ints_gt (numAt l) (λ_ _=>intItems_at),λv x tk hP C=>?_⟩
 .show b<(s.heap.push _).objs.size;rw[My];simp only[Hs,Jl,or_false]at L;rcases L with rfl | rfl
  .exact Ik _
  .exact IU lt
 .have k:(intItems l)[argBest (λi j=>decide (numAt l i > numAt l j)) (l.size-1)]?=some v:=by simpa[intItems] using hP
  obtain⟨t,rfl⟩:=intItems_at k;obtain⟨M,J⟩:=argBest_gt (numAt l) (l.size-1);refine⟨.int _,H,I.kept (t':=tk) λb o e=>C b o (λE=>?_) (Mo _ e),⟨t,rfl⟩,q _ ?_ λa g=>?_⟩
  .simp only[Hs,Jl,or_false]at E;exact NC (E▸L9 e) (Iz _)
  .rw[numAt_eq];exact LG (by rw[Hi,HK];omega)
  .obtain⟨j,c,rfl⟩:=LF g;rw[Hi,HK]at c;rw[← numAt_eq];exact J j ∅
theorem zC(h:X.K=K)(f:X.calm=true):fH X (.builtin "max") (rMaxT K):=h▸Cj f
theorem rM.g{A:TE}{J:It}(h:rM A σ J H1 QQ):gU (gO 0) tYes A 1 σ J H1 QQ:=by
 obtain⟨W,Q,st⟩:=h;refine⟨W,Q,λi m M H w=>?_⟩;obtain⟨l,h⟩:=st i m M H w;refine⟨l,h.imp id λ⟨go,N,a,h⟩=>⟨go,λo r=>∃ y,o=M++[y]/\N y r,λo r ⟨y,e,n⟩=>e▸a y r n,λx C T=>⟨rfl,yesT ?_⟩⟩⟩
 have e:(λy f=>∃ z,M++[y]=M++[z]/\N z f)=N:=funext λy=>funext λf=>propext ⟨λ⟨z,e,n⟩=>by
  have:y=z:=by simpa using e
  rw[this];exact n,λn=>⟨y,rfl,n⟩⟩
 rw[e];exact h x C T
theorem bg{A:TE}(Pv:Nat->List V->Hp->Prop)(hz:xs.length<=LZ)(E:Pv 0 [] H1)(hl:∀ i ys H,i<=xs.length->Pv i ys H->SqL K H a xs)
  (l:∀ i x ys H,xs[i]?=some x->Pv i ys H->A (some x::σ) H λy H2=>Pv (i+1) (ys++[y]) H2) (hd:∀ ys H,ys.length=xs.length->Pv xs.length ys H->QQ ys H):gU (gO 0) tYes A 1 σ (Itl K a) H1 QQ:=(Cb Pv hz E hl l hd).g
theorem cj{lo:Int}{A:TE}(Pv:Nat->List V->Hp->Prop)(hz:n<=LZ)(E:Pv 0 [] H1)
  (l:∀ i ys H,i<n->Pv i ys H->A (some (.int (lo+i))::σ) H λy H2=>Pv (i+1) (ys++[y]) H2) (hd:∀ ys H,ys.length=n->Pv n ys H->QQ ys H):gU (gO 0) tYes A 1 σ (Itr lo n) H1 QQ:=(zt Pv hz E l hd).g
theorem tV{lo c:Int}{A:TE}(Pv:Nat->List V->Hp->Prop)(hz:n<=LZ)(E:Pv 0 [] H1)
  (l:∀ i ys H,i<n->Pv i ys H->A (some (.int (lo+i*c))::σ) H λy H2=>Pv (i+1) (ys++[y]) H2) (hd:∀ ys H,ys.length=n->Pv n ys H->QQ ys H):gU (gO 0) tYes A 1 σ (Itr3 lo c n) H1 QQ:=(wY Pv hz E l hd).g
section
variable{X:Cx}{scope:Scope}{fr:List (Str×Nat)}{xs:List Str}{elt iter tg:Expr}{ifs:List Expr}{pos:Pos}{tt:TT}{tgt:TG}{wi:TI}{te:TE}
end
section
variable{prog:Program}{w:World}{A:Around}{E:Value->Shared->Prop}{s:Shared}
theorem A4{Pv:Nat->Value->Prop}{Sq:Nat->Heap->Prop}{T:String}(W:Walks prog w A.in1.in1 I fp [I] n Pv Sq)(g:n<=LZ)(st:Sq 0 s.heap)(z:I∈fp)(ab:∀ b∈fp,b<s.heap.objs.size)
  (a:∀ h,Sq 0 h->∃ o,h.get? I=some o/\o.cls=.type T) (q:(Value.type T == Value.type "list")=false) (t2:(Value.type T == Value.type "tuple")=false)
  (hint:∀(h:Heap)(v:Bool->Shared->Prop)(H:Value->Shared->Prop),Sq 0 h->(∀ tk,v false { s with heap:=h,toks:=tk })->wpAny (model prog w) A.in1.in1 (MO (.ref I)) v H { s with heap:=h })
  (y:∀ h' tk O c',(∀ b o,b≠I->s.heap.get? b=some o->h'.get? b=some o)->h'.get? s.heap.objs.size=some { cls:=.type "list",dict:=none,data:=.seq O c',slots:=#[] }->ItemsOf Pv O n->Q (.ref s.heap.objs.size) { s with heap:=h',toks:=tk }) :
  wpAny (model prog w) A (call (.type "list") [.ref I]) Q E s:=by
 refine callType_codes (Q₁:=λG f=>G=.ref s.heap.objs.size/\f={ s with heap:=s.heap.push { cls:=.type "list",data:=.seq #[] } }) PySem.F.called_list (LO _) LQ
  (code_list_new _ ⟨rfl,rfl⟩) λG f k=>?_
 obtain⟨rfl,rfl⟩:=k;have D:(s.heap.push { cls:=.type "list",data:=.seq #[] }).get? s.heap.objs.size=some { cls:=.type "list",data:=.seq #[] }:=Mp _ rfl;have p:s.heap.objs.size∉fp:=λN=>Iz _ (ab _ N);refine⟨⟨_,D,rfl⟩,LL _ _,?_⟩;show wpAny _ _ (Ny (.ref s.heap.objs.size) >>= λu=>Builtin.List.listUpdate (.ref s.heap.objs.size) (λ_=>#[]) >>= λ_=>letGo u.toList.reverse >>= λ_=>Nw (.ref s.heap.objs.size) (.ref I) .none) _ _ _;refine Mj ?_;unfold Ny;refine Mj (Ni D rfl (Mn ?_));show wpAny _ _ (Nk s.heap.objs.size (λ_=>#[]) >>= λ_=>letGo (#[]:Array Value).toList.reverse >>= λ_=>Nw (.ref s.heap.objs.size) (.ref I) .none) _ _ _;refine Mj (Nl D rfl ?_);have i:=MF (ME (λ_=>(#[]:Array Value))) D rfl;have oth:∀ b o,s.heap.get? b=some o->((s.heap.push { cls:=.type "list",data:=.seq #[] }).update s.heap.objs.size (ME (λ_=>(#[]:Array Value)))).get? b=some o:=λb o e=>(MG _ _ (IQ (L9 e))).trans (Mo _ e);refine Mj (Na ?_);generalize ((s.heap.push { cls:=.type "list",data:=.seq #[] }).update s.heap.objs.size (ME (λ_=>(#[]:Array Value))))=J at i oth;have x:=W.frame 0 s.heap J st λb _ o e=>oth b o e;have Y:∀(h:Heap)(c1 tk:Nat),(∀ b o,s.heap.get? b=some o->h.get? b=some o)->h.get? s.heap.objs.size=some { cls:=.type "list",data:=.seq #[] c1 }->Mx (model prog w) A.in1 (.builtin "list.extend.loop" ⟨[.ref s.heap.objs.size,.ref I,.none],[]⟩) (wants (λr c=>r=Value.none/\Q (.ref s.heap.objs.size) c) E) { s with heap:=h,toks:=tk }:=by
  intro h c1 tk C t;refine codeAny_extend_loopS W.toS g s.heap.objs.size p .none n 0 _ #[] c1 rfl (Ia _) (W.frame 0 s.heap h st λb _ o e=>C b o e) t (ItemsOf.nil _) λd O c' N B m=>?_;rw[Moved.eq_with N];refine⟨rfl,y d.heap d.toks O c' (λb o L e=>N.heap b o (λj=>?_) (C b o e)) B m⟩;rcases Hs.mp j with l | j
  .exact HN (L9 e) l
  .exact L (HB.mp j)
 unfold Nw;refine Mj (wpAny_typeOf (T:=T) (a _ x) ?_);have M:Nx (.ref s.heap.objs.size) (.ref I)=false:=by
  have:s.heap.objs.size≠I:=λe=>p (e▸z);simp[Nx,this]
 simp only[M,q,t2,LX,II,if_false];refine Mj (W.self 0 _ _ _ x (Mj (Ml (hint _ _ _ x λtk=>?_))));refine MP (λ_=>?_) (λ_=>Mn ⟨Nm Jq _,Y _ _ _ oth i⟩);refine Mj (wpAny_rule (Mj ?_));show wpAny _ _ (Nk s.heap.objs.size (·.push .none) >>= λ_=>Nk s.heap.objs.size (·.pop)) _ _ _;refine Mj (Nl i rfl ?_);have aa:=MF (ME (·.push Value.none)) i rfl;refine Nl (hz:=by seq_fits) aa rfl ?_
 have ac:=MF (ME (·.pop)) aa rfl;exact Mn ⟨Nm Jq _,Y _ _ _ (λb o e=>(MG _ _ (IQ (L9 e))).trans ((MG _ _ (IQ (L9 e))).trans (oth b o e))) ac⟩
end
theorem Fn{u:Array Value}(rv:Vals ys its)(h:ItemsOf (λi v=>its.toArray[its.toArray.size-1-i]?=some v) u its.toArray.size):Vals ys.reverse u.toList:=by
 have e:u.toList=its.reverse:=by
  apply List.ext_getElem?;intro i;by_cases d:i<its.length
  .have m:i<u.size:=by rw[h.1];simpa using d
   have q:=h.2 i u[i] (IL m);rw[Iy,IL m,List.getElem?_reverse d,← q];simp
  .rw[Jz (by rw[HK,h.1];simpa using d),Jz (by rw[Lb];omega)]
 rw[e];exact rv.reverse
theorem so{e:Expr}{te:TE}{p ac:Pos}(f:X.calm=true) (m:Gl X "list") (N:X.mg "list" = none) (ae:Gl X "reversed") (al:X.mg "reversed" = none) (t:PE X e te)
  (M:Me [.Call (.Name "reversed" p2) [e] [] ac] X.env = [(false,eval (.Call (.Name "reversed" p2) [e] [] ac) X.env)]:=by rfl) (h2:Me [e] X.env=(false,eval e X.env)::Me [] X.env:=by rfl) :
  PE X (.Call (.Name "list" p) [.Call (.Name "reversed" p2) [e] [] ac] [] pos) (λσ H Q=>te σ H λx H1=>∃ l ys,x=.ref l/\SqL X.K H1 l ys/\∀ q,H1 q=none->Q (.ref q) (upd H1 q (.lst ys.reverse))):=by
 intro B s σ H Q I h;refine MC (jt I m N gQ ?_);refine Mr ?_ M rfl;rw[M];refine MA ?_;refine MC (jt I ae al xc ?_);refine Mr ?_ h2 rfl;rw[h2];refine MA (thn (t B s σ H _ I h) λu j ⟨x,H1,i,w,r⟩=>?_);obtain⟨l,ys,rfl,y,q⟩:=r
 cases w
 refine Mz ?_;obtain⟨O,rv,pl,Y⟩:=i.list y;have g:O.toArray.size=ys.length:=by rw[HE,rv.length]
 refine call_reversed_list pl.isList ?_;refine Mz ?_;have a:l<j.heap.objs.size:=by
  obtain⟨o,n,G,_⟩:=pl;exact L9 G
 have I2:Inv X B σ H1 { j with heap:=j.heap.push (revObj l ((O.toArray.size:Int)-1)) }:=i.kept (t':=j.toks) λb o e=>Mo _ e;have ab:(j.heap.push (revObj l ((O.toArray.size:Int)-1))).IsRevIter j.heap.objs.size l ((O.toArray.size:Int)-1):=⟨_,Mp _ rfl,rfl,rfl⟩;refine A4 (T:="list_reverseiterator") (Walks.listRev (A:=X.A.in1.in1) (I.ok.hd f) j.heap.objs.size l (HN a) O.toArray) (by rw[g];exact Y) ⟨Ia _,by simpa using ab,pl.isList.push _⟩ (by simp) (λb L=>?fp) (λh z=>let ⟨o,D,f,_⟩:=z.2.1;⟨o,D,f⟩) (by decide) (by decide) (λh Q' E' z k=>DM z.2.1.typeIs (k j.toks)) λc d E J C v aa=>?_
 case fp =>
  rw[My];rcases Hs.mp L with e | e
  .rw[e];exact Ik _
  .rw[HB.mp e];exact IU a
 obtain⟨f0,f1,f2,f3,f4,f5⟩:=i.fpOk (H':=H1) (Hl _) (i.hok.fresh (Hl _));have I3:Inv X B σ H1 { j with heap:=c,toks:=d }:=I2.turned (t':=d) (λb o L e=>C b o L e) f0 f1 f3 f4 f5;have fS:=I2.fpOk (H':=H1) (Hl _) (I2.hok.fresh (Hl _));have I4:=I3.track (o:=.lst ys.reverse) fS ⟨by rw[Lb];exact Y,E.toList,J,Fn rv aa,by rw[Array.toArray_toList];exact v⟩
 exact⟨.ref _,_,I4,rfl,q _ fS.1⟩
section
variable{X:Cx}{k n:Nat}{f:Addr}{fd:FuncData}{ps:List Str}{sp:Sp}{x:Str}{p pos:Pos}{e:Expr}{es:List Expr}{t:TA}
theorem Cal.c(G:Cal X.prog X.w X.K X.mg X.base k x ps sp f fd)(u:Room n X.A)(g:PA X (e::es) t)(m:Gl X x:=by rfl)(hl:k<=n:=by first | decide | omega) (a:(x == ("__debug__" : Str))=false:=by decide)
  (T:Me (e::es) X.env=(false,eval e X.env)::Me es X.env:=by rfl) (o:(backTo pos (Me es X.env)).any (·.1)=false:=by rfl):PE X (.Call (.Name x p) (e::es) [] pos) (CK sp [] E0 t) :=
 vd G.ok (u.mono hl) m G.mg G.kp G.bn .nil ji g a T o
theorem Cal.d(G:Cal X.prog X.w X.K X.mg X.base k x ps sp f fd)(u:Room n X.A)(m:Gl X x:=by rfl)(hl:k<=n:=by first | decide | omega) (a:(x == ("__debug__" : Str))=false:=by decide):PE X (.Call (.Name x p) [] [] pos) (CK sp [] E0 tNil) :=
 Dc G.ok (u.mono hl) m G.mg G.kp G.bn .nil ji a
end
section
variable{X:Cx}{a b:Expr}{ta tb:TE}{pos:Pos}
theorem aR(A:PE X a ta)(L:PE X b tb)(l:oB b:=by exact λ_ _=>rfl):PE X (.Subscript a b pos) (tOp (rIxL X.K) ta tb):=C6 Bb A L l
theorem aM(A:PE X a ta)(L:PE X b tb)(l:oB b:=by exact λ_ _=>rfl):PE X (.Subscript a b pos) (tOp (rIxT X.K) ta tb):=C6 EX A L l
theorem sr(K:Hj)(A:PE X a ta)(L:PE X b tb)(l:oB b:=by exact λ_ _=>rfl)(h:X.K=K:=by rfl):PE X (.Subscript a b pos) (tOp (rIxL K) ta tb):=C6 (DI h) A L l
theorem gZ(K:Hj)(A:PE X a ta)(L:PE X b tb)(l:oB b:=by exact λ_ _=>rfl)(h:X.K=K:=by rfl):PE X (.Subscript a b pos) (tOp (rIxT K) ta tb):=C6 (Gv h) A L l
theorem aB(i:Nat){e:Expr}{A:TE}{b:Pos}(o:X.N.Nodup)(T:PE X e A)(hi:X.N[i]?=some x:=by rfl)(O:Loc X.env.scope x:=by first | exact .inl rfl | exact .inr rfl)(l:swapsWith e (some (.Name x b)) pos.line X.env=pure false:=by rfl)(a:X.fn x=true∨X.env.scope.names.lookup x=some .local:=by first | exact .inl rfl | exact .inr rfl | assumption) :
  PS X (.Assign [.Name x b] e pos) (tAsg A (gO i)):=ps_set o hi O T l a
theorem bY(i:Nat)(o:X.N.Nodup)(hi:X.N[i]?=some x:=by rfl)(O:Loc X.env.scope x:=by first | exact .inl rfl | exact .inr rfl)(a:X.fn x=true∨X.env.scope.names.lookup x=some .local:=by first | exact .inl rfl | exact .inr rfl | assumption):PG X (.Name x pos) (gO i):=a8 o hi O a
end
def AllL{α:Type}(Q:α->Prop):List α->Prop
 |[]=>True
 |x::r=>Q x/\AllL Q r
theorem AllL.mem{α:Type}{Q:α->Prop}:∀{l:List α},AllL Q l->∀ x∈l,Q x
 |_::_,h,_,.head _=>h.1
 |_::_,h,_,.tail _ m=>AllL.mem h.2 _ m
section
variable{X:Cx}{scope:Scope}{elt iter tg:Expr}{ifs:List Expr}{pos:Pos}{tt:TT}{tgt:TG}{wi:TI}{te:TE}
theorem mI.au{xs:List Str}(clos:closureFor scope X.env=pure (clOf X.env fr):=by rfl)(cell:∀ y∈scope.names,y.2≠.cell:=by decide)(kind:scope.kind=.function:=by rfl)(names:∀ y∈scope.names,y.2=.local->scope.names.lookup y.1=some .local:=by decide)
  (slot:AllL (λp=>X.N[p.2]?=some p.1/\X.env.kindOf p.1=some .cell) fr:=by repeat (first | exact True.intro | refine⟨⟨rfl,rfl⟩,?_⟩)) (T:∀ z∈scope.names,z.2=.free->z.1∈fr.map (·.1):=by decide) (frk:AllL (λp=>(relabel scope X.env).names.lookup p.1=some .cell) fr:=by repeat (first | exact True.intro | refine⟨rfl,?_⟩)):mI X scope fr xs :=
 .of clos cell kind names slot.mem T frk.mem
theorem cR(fr:List (Str×Nat))(xs:List Str)(hi:PI X tg iter wi)(a:∀ C ex s H,PG (cxG X scope fr xs C ex s H) tg tgt)(J:∀ C ex s H,PTs (cxG X scope fr xs C ex s H) ifs tt)(T:∀ C ex s H,PE (cxG X scope fr xs C ex s H) elt te)(f:X.calm=true:=by rfl)(O:mI X scope fr xs:=by exact .au)(l:∀ x,Ms iter X.env x=pure x:=by intro _;rfl):PE X (.ListComp elt [⟨tg,iter,ifs,0⟩] scope pos) (EA wi tgt tt te xs.length fr) :=
 C9 f O hi a J T l
theorem mr(i:Nat)(fr:List (Str×Nat))(xs:List Str){y:Str}{c b:Pos}(o:X.N.Nodup)(hi:PI X tg iter wi)(a:∀ C ex s H,PG (cxG X scope fr xs C ex s H) tg tgt)(J:∀ C ex s H,PTs (cxG X scope fr xs C ex s H) ifs tt)(T:∀ C ex s H,PE (cxG X scope fr xs C ex s H) elt te)
  (f:X.calm=true:=by rfl) (j:X.N[i]?=some y:=by rfl) (G:X.env.scope.names.lookup y=some .local:=by rfl) (O:mI X scope fr xs:=by exact .au) (d:swapsWith (.ListComp elt [⟨tg,iter,ifs,0⟩] scope pos) (some (.Name y c)) b.line X.env=pure true:=by rfl) (l:∀ x,Ms iter X.env x=pure x:=by intro _;rfl) :
  PS X (.Assign [.Name y c] (.ListComp elt [⟨tg,iter,ifs,0⟩] scope pos) b) (rN i wi tgt tt te xs.length fr) :=
 uP f o j G O hi a J T d l
theorem pg_c{xs:List Str}(o:(xs++fr.map (·.1)).Nodup:=by decide)(E:(xs++fr.map (·.1))[0]?=some x:=by rfl)(O:∀ C ex s H,Loc (cxG X scope fr xs C ex s H).env.scope x:=by exact λ_ _ _ _=>.inl rfl)(a:∀ C ex s H,(cxG X scope fr xs C ex s H).fn x=true∨(cxG X scope fr xs C ex s H).env.scope.names.lookup x=some .local:=by exact λ_ _ _ _=>.inr rfl) :
  ∀ C ex s H,PG (cxG X scope fr xs C ex s H) (.Name x pos) (gO 0):=λC ex s H=>a8 (X:=cxG X scope fr xs C ex s H) o E (O C ex s H) (a C ex s H)
theorem pt_c{xs:List Str}:∀ C ex s H,PTs (cxG X scope fr xs C ex s H) [] tYes:=λ_ _ _ _=>FL
end
end L2
namespace K1
def go(n:Nat):Nat:=if h:n=0 then 0 else n%2+go (n/2)
termination_by n
decreasing_by omega
theorem go_zero:go 0=0:=by rw[go];simp
theorem go_eq(n:Nat):go n=n%2+go (n/2):=by
 by_cases h:n=0
 .subst h;rw[go_zero]
 .rw[go,dif_neg h]
end K1
namespace K2
def S:List Nat->Nat
 |[]=>0
 |p::r=>2^p+S r
theorem G9{p:Nat}(h:n.testBit p=false)(i:Nat):(n+2^p).testBit i=(n.testBit i||decide (i=p)):=by
 have e:n+2^p=n|||2^p:=by
  have A:n&&&2^p=0:=by
   apply IB;intro j;rw[JL,Ib,IS];by_cases c:p=j
   .subst c;simp[h]
   .simp[c]
  have q:∀ m k:Nat,(m|||k)+(m&&&k)=m+k:=by
   intro m;induction m using LA with
   |ind m Y =>
    intro n;by_cases E:m=0
    .subst E;simp
    .have a:=Y (m/2) ∅ (n/2)
     rw[← Nat.or_div_two,← Nat.and_div_two]at a;have d:=@Nat.or_mod_two_eq_one m n;have I:=@Nat.and_mod_two_eq_one m n;omega
  have:=q n (2^p);rw[A]at this;omega
 rw[e,JJ,Ib];congr 1;exact decide_eq_decide.mpr ⟨λh=>h.symm,λh=>h.symm⟩
theorem S_bit:∀{D:List Nat},D.Nodup->∀ i,(S D).testBit i=decide (i∈D)
 |[],_,i=>by simp[S]
 |p::r,Q,i=>by
  have ⟨M,J⟩:=Hy.mp Q;have B:(S r).testBit p=false:=by rw[S_bit J];exact LY M
  have e:S (p::r)=S r+2^p:=Nat.add_comm _ _;rw[e,G9 B,S_bit J];by_cases a:i=p<;>by_cases b:i∈r<;>simp[a,b]
def bitsF(k n:Nat):List Nat:=if h:n=0 then[] else(if n%2=1 then[k] else[])++bitsF (k+1) (n/2)
termination_by n
decreasing_by omega
theorem bitsF_zero(k:Nat):bitsF k 0 = []:=by rw[bitsF];simp
theorem bitsF_odd{k:Nat}(h:n%2=1):bitsF k n=k::bitsF (k+1) (n/2):=by
 rw[bitsF,dif_neg ∅,NA h];rfl
theorem bitsF_even{k:Nat}(E:n≠0)(h:¬ n%2=1):bitsF k n=bitsF (k+1) (n/2):=by
 rw[bitsF,dif_neg E,NB h];rfl
theorem rD:∀(f n k:Nat),n<=f->∀ p∈bitsF k n,k<=p
 |0,n,k,h=>by
  have z:n=0:=by omega
  subst z;rw[bitsF_zero];intro p B;cases B
 |f+1,n,k,h=>by
  intro p B;by_cases z:n=0
  .subst z;rw[bitsF_zero]at B;cases B
  .by_cases o:n%2=1
   .rw[bitsF_odd o]at B;rcases Hs.mp B with e | B
    .omega
    .have:=rD f (n/2) (k+1) ∅ p B;omega
   .rw[bitsF_even z o]at B;have:=rD f (n/2) (k+1) ∅ p B;omega
theorem bitsF_sorted:∀(f n k:Nat),n<=f->(bitsF k n).Pairwise (· < ·)
 |0,n,k,h=>by
  have z:n=0:=by omega
  subst z;rw[bitsF_zero];exact Ki
 |f+1,n,k,h=>by
  by_cases z:n=0
  .subst z;rw[bitsF_zero];exact Ki
  .by_cases o:n%2=1
   .rw[bitsF_odd o];exact List.Pairwise.cons (λp B=>rD f (n/2) (k+1) ∅ p B) (bitsF_sorted f (n/2) (k+1) ∅)
   .rw[bitsF_even z o];exact bitsF_sorted f (n/2) (k+1) ∅
theorem bitsF_sum:∀(f n k:Nat),n<=f->S (bitsF k n)=n*2^k
 |0,n,k,h=>by
  have z:n=0:=by omega
  subst z;rw[bitsF_zero];simp[S]
 |f+1,n,k,h=>by
  by_cases z:n=0
  .subst z;rw[bitsF_zero];simp[S]
  .have Y:=bitsF_sum f (n/2) (k+1) ∅
   have e:n/2*2^(k+1)=(2*(n/2))*2^k:=by rw[Nat.pow_succ,Nat.mul_comm (2^k) 2,← Nat.mul_assoc,Nat.mul_comm (n/2) 2]
   by_cases o:n%2=1
   .rw[bitsF_odd o];show 2^k+S (bitsF (k+1) (n/2))=_;rw[Y,e];have:n=2*(n/2)+1:=by omega
    have E:n*2^k=(2*(n/2)+1)*2^k:=by rw[← this]
    rw[E,Nat.add_mul,Nat.one_mul];omega
   .rw[bitsF_even z o,Y,e];have:n=2*(n/2):=by omega
    have E:n*2^k=(2*(n/2))*2^k:=by rw[← this]
    rw[E]
theorem bitsF_lt:∀(m n k:Nat),n<2^m->∀ p∈bitsF k n,p<k+m
 |0,n,k,h=>by
  have z:n=0:=by omega
  subst z;rw[bitsF_zero];intro p B;cases B
 |m+1,n,k,h=>by
  intro p B;have J:n/2<2^m:=by rw[Nat.pow_succ]at h;omega
  by_cases z:n=0
  .subst z;rw[bitsF_zero]at B;cases B
  .by_cases o:n%2=1
   .rw[bitsF_odd o]at B;rcases Hs.mp B with e | B
    .omega
    .have:=bitsF_lt m (n/2) (k+1) J p B;omega
   .rw[bitsF_even z o]at B;have:=bitsF_lt m (n/2) (k+1) J p B;omega
theorem bitsF_len:∀(m n k:Nat),n<2^m->(bitsF k n).length<=m
 |0,n,k,h=>by
  have z:n=0:=by omega
  subst z;rw[bitsF_zero];exact Hl _
 |m+1,n,k,h=>by
  have J:n/2<2^m:=by rw[Nat.pow_succ]at h;omega
  by_cases z:n=0
  .subst z;rw[bitsF_zero];exact Ia _
  .by_cases o:n%2=1
   .rw[bitsF_odd o];have:=bitsF_len m (n/2) (k+1) J;show _+1<=_;omega
   .rw[bitsF_even z o];have:=bitsF_len m (n/2) (k+1) J;omega
theorem nodup_of_lt(h:l.Pairwise (· < ·)):l.Nodup:=h.imp λh=>HN h
end K2
namespace KF
open PySem L2
def top(i:Nat):Stmt:=PySem.Challenge.pw_spinfloor_k32_papers_for_layings.main.body.getD i (.Pass ⟨0,0,0,0⟩)
abbrev ko:Stmt:=top 16
abbrev mP:Stmt:=top 18
abbrev iW:Stmt:=top 19
abbrev ig:Stmt:=top 20
abbrev mL:Stmt:=top 21
abbrev pW:Stmt:=top 22
abbrev xH:Stmt:=top 11
abbrev xG:Stmt:=top 12
abbrev C0:Stmt:=top 13
abbrev ku:Stmt:=top 14
abbrev dv:Stmt:=top 26
abbrev gf:Stmt:=top 27
abbrev b7:Stmt:=top 28
abbrev fZ:Stmt:=top 29
abbrev mM:Stmt:=top 30
abbrev kj:Stmt:=top 31
abbrev kx:Stmt:=top 32
abbrev kA:Stmt:=top 40
abbrev mN:Stmt:=top 41
abbrev qf:Stmt:=top 42
abbrev iU:Stmt:=top 25
abbrev qc:Stmt:=top 34
abbrev mO:Stmt:=top 35
abbrev fY:Stmt:=top 36
abbrev kC:Stmt:=top 37
abbrev iX:Stmt:=top 38
abbrev Lk:=Nat×Nat×Int
def bey(l:Lk)(r:Nat):Nat:=if r=l.1 then l.2.1 else l.1
def mB(l:Lk)(r:Nat):Prop:=r=l.1∨r=l.2.1
theorem rE{l:Lk}{r:Nat}(h:mB l r):mB l (bey l r):=by
 unfold bey;split
 .exact .inr rfl
 .exact .inl rfl
theorem oz{l:Lk}{r:Nat}(h:mB l r):bey l (bey l r)=r:=by
 unfold bey;by_cases c:r=l.1
 .rw[NA c];by_cases d:l.2.1=l.1
  .rw[NA d];omega
  .rw[NB d];exact c.symm
 .rw[NB c,NA rfl];rcases h with h | h
  .exact NC h c
  .exact h.symm
theorem bey_lt{l:Lk}{r:Nat}(M:l.1<n)(h2:l.2.1<n):bey l r<n:=by
 unfold bey;split<;>assumption
inductive Up(ls:List Lk)(vv:List (Option Nat))(s:Nat):Nat->Nat->Prop where
 |root:Up ls vv s 0 s
 |step {j r k:Nat} {l:Lk} (hv:vv[r]?=some (some k)) (hl:ls[k]?=some l) (h:Up ls vv s j (bey l r)):Up ls vv s (j+1) r
theorem Up.uniq{ls:List Lk}{b:List (Option Nat)}{s:Nat}(E:b[s]?=some none):∀{j i r:Nat},Up ls b s j r->Up ls b s i r->j=i
 |_,_,_,.root,.root=>rfl
 |_,_,_,.root,.step p _ _=>by rw[E]at p;cases p
 |_,_,_,.step p _ _,.root=>by rw[E]at p;cases p
 |_,_,_,.step p D h,.step a C M=>by
  rw[p]at a;cases a;rw[D]at C;cases C;rw[Up.uniq E h M]
theorem Up.lt{ls:List Lk}{s r:Nat}(E:O[s]?=some none)(h:Up ls O s j r):r<O.length:=by
 cases h with
 |root=>exact(Hg.mp E).1
 |step p _ _=>exact(Hg.mp p).1
theorem Up.chain{ls:List Lk}{b:List (Option Nat)}{s:Nat}(E:b[s]?=some none):∀{j r:Nat},Up ls b s j r->∃ c:List Nat,c.length=j+1/\c.Nodup/\∀ x∈c,x<b.length/\∃ i,i<=j/\Up ls b s i x
 |_,_,.root=>⟨[s],rfl,Hy.mpr ⟨(by simp),Jd⟩,λx O=>by rw[HB.mp O];exact⟨Up.lt (ls:=ls) E .root,0,Hl _,.root⟩⟩
 |j+1,r,.step p D h=>by
  obtain⟨c,G,Q,f⟩:=Up.chain E h;have e:Up ls b s (j+1) r:=.step p D h;refine⟨r::c,by rw[HD,G],Hy.mpr ⟨λu=>?_,Q⟩,λx O=>?_⟩
  .obtain⟨_,i,d,T⟩:=f r u;have:=Up.uniq E e T;omega
  .rcases Hs.mp O with rfl | O
   .exact⟨Up.lt E e,j+1,Hl _,e⟩
   .obtain⟨a,i,d,T⟩:=f x O;exact⟨a,i,∅,T⟩
theorem kH:∀(n:Nat)(c:List Nat),c.Nodup->(∀ x∈c,x<n)->c.length<=n
 |0,c,_,h=>by
  cases c with
  |nil=>exact Hl _
  |cons x r=>exact NC (h x (Hu ..)) (IY _)
 |n+1,c,Q,h=>by
  have M:=kH n (c.erase n) (Q.erase _) λx O=>by
   have N:=List.mem_of_mem_erase O;have:=h x N;have:x≠n:=λe=>by rw[e]at O;exact NC O (List.Nodup.not_mem_erase Q)
   omega
  have J:c.length<=(c.erase n).length+1:=by rw[Lo];split<;>omega
  omega
theorem Up.short{ls:List Lk}{s r:Nat}(E:O[s]?=some none)(h:Up ls O s j r):j+1<=O.length:=by
 obtain⟨c,G,Q,f⟩:=Up.chain E h;rw[← G];exact kH _ c Q λx v=>(f x v).1
def cOf(o:Option Int):Nat:=if o.isSome then 1 else 0
def cnt(T:List (Option Int)):Nat:=(T.map cOf).sum
def vOf(B:Nat)(o:Option Int):Nat:=match o with | none=>B | some x=>x.toNat
def wgt(B:Nat)(T:List (Option Int)):Nat:=(T.map (vOf B)).sum
theorem pI{α:Type}(f:α->Nat):∀(l:List α)(i:Nat)(x y:α),l[i]?=some x->((l.set i y).map f).sum+f x=(l.map f).sum+f y
 |a::l,0,x,y,e=>by
  cases e
  rw[List.set_cons_zero,HR,HR,Ja,Ja];omega
 |a::l,i+1,x,y,e=>by
  have:=pI f l i x y e;rw[List.set_cons_succ,HR,HR,Ja,Ja];omega
 |[],i,x,y,e=>by cases i<;>cases e
theorem E4:∀(T:List (Option Int)){i:Nat},T[i]?=some none->cnt T+1<=T.length
 |[],i,e=>by cases i<;>cases e
 |a::T,0,e=>by
  cases e
  have:∀ T:List (Option Int),cnt T<=T.length:=λT=>by
   induction T with
   |nil=>exact Hl _
   |cons b T Y =>
    have G:cnt (b::T)=cOf b+cnt T:=by unfold cnt;rw[HR,Ja]
    have E:cOf b<=1:=by unfold cOf;split<;>omega
    rw[G,HD];omega
  have G:cnt (none::T)=cOf none+cnt T:=by unfold cnt;rw[HR,Ja]
  have E:cOf none=0:=rfl;have:=this T;rw[G,HD];omega
 |a::T,i+1,e=>by
  have Y:=E4 T (i:=i) e;have G:cnt (a::T)=cOf a+cnt T:=by unfold cnt;rw[HR,Ja]
  have E:cOf a<=1:=by unfold cOf;split<;>omega
  rw[G,HD];omega
structure FI(n:Nat)(ls:List Lk)(s:Nat)(M:Nat)(T:List (Option Int))(vv:List (Option Nat))(W:List Nat)(ex:Nat->Nat->Prop):Prop where
 w0:∀ l∈ls,0<=l.2.2/\l.2.2<=(M:Int)
 tl:T.length=n
 vl:vv.length=n
 st:T[s]?=some (some 0)
 vs:vv[s]?=some none
 nn:∀(r:Nat)(x:Int),T[r]?=some (some x)->0<=x
 bd:∀(r:Nat)(x:Int),T[r]?=some (some x)->x+(M:Int)<=(cnt T:Int)*(M:Int)
 pr:∀(r k:Nat),vv[r]?=some (some k)->∃(l:Lk)(x y:Int),ls[k]?=some l/\mB l r/\T[r]?=some (some x)/\T[bey l r]?=some (some y)/\y+l.2.2<=x
 up:∀(r:Nat)(x:Int),T[r]?=some (some x)->∃ j,Up ls vv s j r
 rl:∀(r:Nat)(x:Int)(i:Nat)(l:Lk),T[r]?=some (some x)->r∉W->ls[i]?=some l->mB l r->ex r i∨∃ y:Int,T[bey l r]?=some (some y)/\y<=x+l.2.2
 wk:∀ r∈W,∃ x:Int,T[r]?=some (some x)
theorem rS{l:List α}{x:α}(hi:i<l.length):(l.set i x)[j]?=if i=j then some x else l[j]?:=by
 rw[Ip];by_cases c:i=j
 .rw[NA c,NA c,NA hi]
 .rw[NB c,NB c]
theorem FI.mend{ls:List Lk}{s:Nat}{W':List Nat}(I:FI n ls s M T O W ex){k:Nat}{l:Lk}{x:Int}{o:Option Int}
  (hl:ls[k]?=some l) (N:mB l m) (v:T[m]?=some (some x)) (D:T[bey l m]?=some o) (L:∀ y,o=some y->x+l.2.2<y)
  (hW:∀ r,r∈W'↔r∈W∨r=bey l m) (ac:∀ r i,ex r i->ex' r i∨(r=m/\i=k)) :
  FI n ls s M (T.set (bey l m) (some (x+l.2.2))) (O.set (bey l m) (some k)) W' ex':=by
 obtain⟨a,hM⟩:=I.w0 l (Hh hl);have tt:bey l m<T.length:=(Hg.mp D).1;have tl:=I.tl;have vl:=I.vl;have x0:=I.nn m x v;have b:bey l m≠s:=λe=>by
  rw[e,I.st]at D
  cases D
  have:=L 0 rfl;omega
 have nm:bey l m≠m:=λe=>by
  rw[e,v]at D
  cases D
  have:=L x rfl;omega
 have gT:∀ r:Nat,(T.set (bey l m) (some (x+l.2.2)))[r]?=if bey l m=r then some (some (x+l.2.2)) else T[r]?:=λr=>rS tt;have gV:∀ r:Nat,(O.set (bey l m) (some k))[r]?=if bey l m=r then some (some k) else O[r]?:=λr=>rS ∅
 have ab:∀(r:Nat)(y:Int),T[r]?=some (some y)->∃ z:Int,(T.set (bey l m) (some (x+l.2.2)))[r]?=some (some z)/\z<=y:=λr y e=>by
  rw[gT];by_cases c:bey l m=r
  .rw[NA c];rw[← c,D]at e
   cases e
   exact⟨_,rfl,Int.le_of_lt (L y rfl)⟩
  .rw[NB c];exact⟨y,e,Jo _⟩
 have keep:∀{j r:Nat},Up ls O s j r->∀ y,T[r]?=some (some y)->(∀ z,o=some z->y<z)->Up ls (O.set (bey l m) (some k)) s j r:=by
  intro j r h;induction h with
  |root=>intro _ _ _;exact .root
  | @step j r k' l' p C h A =>
   intro y Q t;have ne:bey l m≠r:=λe=>by
    rw[e,Q]at D
    cases D
    exact NC (t y rfl) (Int.lt_irrefl _)
   obtain⟨l2,q,H,Y,E,B,e4,e5⟩:=I.pr r k' p;rw[C]at Y;cases Y;rw[Q]at B;cases B;have w0:=(I.w0 l' (Hh C)).1;refine .step (by rw[gV,NB ne];exact p) C (A H e4 λz al=>?_)
   have:=t z al;omega
 obtain⟨jm,um⟩:=I.up m x v;have am:=keep um x v λz t=>by have:=L z t;omega
 have ut:Up ls (O.set (bey l m) (some k)) s (jm+1) (bey l m):=.step (by rw[gV,NA rfl]) hl (by rw[oz N];exact am)
 have all:∀{j r:Nat},Up ls O s j r->∃ i,Up ls (O.set (bey l m) (some k)) s i r:=by
  intro j r h;induction h with
  |root=>exact⟨0,.root⟩
  | @step j r k' l' p C h A =>
   by_cases c:bey l m=r
   .rw[← c];exact⟨_,ut⟩
   .obtain⟨i,d⟩:=A;exact⟨i+1,.step (by rw[gV,NB c];exact p) C d⟩
 have cs:=pI cOf T (bey l m) o (some (x+l.2.2)) D;have c1:cOf (some (x+l.2.2))=1:=rfl;have cc:cnt (T.set (bey l m) (some (x+l.2.2)))+cOf o=cnt T+1:=by unfold cnt;rw[c1]at cs;exact cs
 have ae:cnt T<=cnt (T.set (bey l m) (some (x+l.2.2))):=by
  have:cOf o<=1:=by unfold cOf;split<;>omega
  omega
 have mul_le:(cnt T:Int)*(M:Int)<=(cnt (T.set (bey l m) (some (x+l.2.2))):Int)*(M:Int):=Int.mul_le_mul_of_nonneg_right ∅ ∅
 have bm:=I.bd m x v;refine⟨I.w0,by rw[Il];exact tl,by rw[Il];exact vl,by rw[gT,NB b];exact I.st,by rw[gV,NB b];exact I.vs,λr y e=>?_,λr y e=>?_,λr k' e=>?_,λr y e=>?_,λr y i l' e G C aa=>?_,λr G=>?_⟩
 .rw[gT]at e;by_cases c:bey l m=r
  .rw[NA c]at e;cases e;omega
  .rw[NB c]at e;exact I.nn r y e
 .rw[gT]at e;by_cases c:bey l m=r
  .rw[NA c]at e;cases e
   cases o with
   |none =>
    have Y:cnt (T.set (bey l m) (some (x+l.2.2)))=cnt T+1:=by have:cOf none=0:=rfl;omega
    rw[Y];have:((cnt T+1:Nat):Int)*(M:Int)=(cnt T:Int)*(M:Int)+(M:Int):=by push_cast;rw[Int.add_mul,Int.one_mul]
    omega
   |some z =>
    have:=L z rfl;have:=I.bd (bey l m) z D;omega
  .rw[NB c]at e;have:=I.bd r y e;omega
 .rw[gV]at e;by_cases c:bey l m=r
  .rw[NA c]at e;cases e;refine⟨l,x+l.2.2,x,hl,c▸rE N,by rw[gT,NA c],?_,Jo _⟩
   rw[← c,oz N,gT,NB nm];exact v
  .rw[NB c]at e;obtain⟨l2,q,H,Y,E,B,e4,e5⟩:=I.pr r k' e;obtain⟨z,e6,e7⟩:=ab _ _ e4;exact⟨l2,q,z,Y,E,by rw[gT,NB c];exact B,e6,∅⟩
 .rw[gT]at e;by_cases c:bey l m=r
  .rw[← c];exact⟨_,ut⟩
  .rw[NB c]at e;obtain⟨j,u⟩:=I.up r y e;exact all u
 .have nr:r∉W/\r≠bey l m:=⟨λz=>G ((hW r).mpr (.inl z)),λz=>G ((hW r).mpr (.inr z))⟩
  rw[gT,NB (Ne.symm nr.2)]at e;rcases I.rl r y i l' e nr.1 C aa with h | ⟨z,g,J⟩
  .rcases ac r i h with h | ⟨g,J⟩
   .exact .inl h
   .subst g;subst J;rw[hl]at C;cases C;rw[v]at e;cases e;exact .inr ⟨x+l.2.2,by rw[gT,NA rfl],Jo _⟩
  .obtain⟨z',f,w⟩:=ab _ _ g;exact .inr ⟨z',f,∅⟩
 .rcases(hW r).mp G with h | h
  .obtain⟨y,e⟩:=I.wk r h;obtain⟨z,f,_⟩:=ab _ _ e;exact⟨z,f⟩
  .rw[h];exact⟨_,by rw[gT,NA rfl]⟩
theorem FI.leave{ls:List Lk}{s:Nat}(I:FI n ls s M T O W ex){k:Nat}{l:Lk}{x y:Int}
  (hl:ls[k]?=some l) (v:T[m]?=some (some x)) (G:T[bey l m]?=some (some y)) (b:y<=x+l.2.2) (d:∀ r i,ex r i->ex' r i∨(r=m/\i=k)):FI n ls s M T O W ex' :=
 ⟨I.w0,I.tl,I.vl,I.st,I.vs,I.nn,I.bd,I.pr,I.up,λr z i c e u C a=>by
  rcases I.rl r z i c e u C a with h | h
  .rcases d r i h with h | ⟨g,J⟩
   .exact .inl h
   .subst g;subst J;rw[hl]at C;cases C;rw[v]at e;cases e;exact .inr ⟨y,G,b⟩
  .exact .inr h,I.wk⟩
theorem CC{ls:List Lk}{s:Nat}(I:FI n ls s M T O W ex){t:Nat}{x w:Int}{o:Option Int}(Q:0<=w)(c:w<=(M:Int))(v:T[m]?=some (some x))(D:T[t]?=some o)(L:∀ y,o=some y->x+w<y) :
  wgt (n*M+1) (T.set t (some (x+w)))+1<=wgt (n*M+1) T:=by
 have e:=pI (vOf (n*M+1)) T t o (some (x+w)) D;have j:=I.nn m x v;have b:=I.bd m x v;have G:vOf (n*M+1) (some (x+w))=(x+w).toNat:=rfl;unfold wgt;rw[G]at e
 cases o with
 |none =>
  have a:=E4 T D;have E:vOf (n*M+1) none=n*M+1:=rfl;rw[E]at e;have g:cnt T*M<=n*M:=K3 M (by rw[I.tl]at a;omega)
  have J:x+(M:Int)<=((n*M:Nat):Int):=by
   have:((cnt T*M:Nat):Int)<=((n*M:Nat):Int):=by exact_mod_cast g
   have f:((cnt T*M:Nat):Int)=(cnt T:Int)*(M:Int):=by push_cast;rfl
   omega
  omega
 |some z =>
  have:=L z rfl;have E:vOf (n*M+1) (some z)=z.toNat:=rfl;rw[E]at e;omega
theorem FI.first{ls:List Lk}{s:Nat}(Q:∀ l∈ls,0<=l.2.2/\l.2.2<=(M:Int))(y:s<n):FI n ls s M ((Hw n none).set s (some 0)) (Hw n none) [s] (λ_ _=>False):=by
 have G:∀ r:Nat,((Hw n (none:Option Int)).set s (some 0))[r]?=if s=r then some (some 0) else(Hw n none)[r]?:=λr=>rS (by rw[Jr];exact y)
 have d:∀{b:Type}(r:Nat)(x:b),(Hw n (none:Option b))[r]?≠some (some x):=λr x e=>by
  have:=Hh e;have:=(Kw.mp this).2
  cases this
 have one:∀(r:Nat)(x:Int),((Hw n (none:Option Int)).set s (some 0))[r]?=some (some x)->r=s/\x=0:=λr x e=>by
  rw[G]at e;by_cases c:s=r
  .rw[NA c]at e;cases e;exact⟨c.symm,rfl⟩
  .rw[NB c]at e;exact NC e (d r x)
 refine⟨Q,by rw[Il,Jr],Jr,by rw[G,NA rfl],by rw[Jh,NA y],λr x e=>?_,λr x e=>?_,λr k e=>NC e (d r k),λr x e=>?_,λr x i l e u=>?_,λr u=>?_⟩
 .rw[(one r x e).2];exact Jo _
 .rw[(one r x e).2];have a:=pI cOf (Hw n (none:Option Int)) s none (some 0) (by rw[Jh,NA y])
  have c1:cOf (some 0)=1:=rfl;have c0:cOf none=0:=rfl;have:1<=cnt ((Hw n (none:Option Int)).set s (some 0)):=by unfold cnt;omega
  have J:1*M<=cnt ((Hw n (none:Option Int)).set s (some 0))*M:=K3 M this;have f:((1*M:Nat):Int)<=((cnt ((Hw n (none:Option Int)).set s (some 0))*M:Nat):Int):=by exact_mod_cast J
  push_cast at f;omega
 .rw[(one r x e).1];exact⟨0,.root⟩
 .rw[(one r x e).1]at u;exact NC (HB.mpr rfl) u
 .rw[HB.mp u];exact⟨0,by rw[G,NA rfl]⟩
theorem FI.take{ls:List Lk}{s:Nat}{W':List Nat}(I:FI n ls s M T O W (λ_ _=>False))(b:∀ r,r∈W'↔r∈W/\r≠m):FI n ls s M T O W' (λr _=>r=m) :=
 ⟨I.w0,I.tl,I.vl,I.st,I.vs,I.nn,I.bd,I.pr,I.up,λr x i l e u D a=>by
  by_cases c:r=m
  .exact .inl c
  .rcases I.rl r x i l e (λz=>u ((b r).mpr ⟨z,c⟩)) D a with h | h
   .exact h.elim
   .exact .inr h,λr u=>I.wk r ((b r).mp u).1⟩
theorem FI.exw{ls:List Lk}{s:Nat}(I:FI n ls s M T O W ex)(h:∀ r i l,ls[i]?=some l->mB l r->ex r i->ex' r i):FI n ls s M T O W ex' :=
 ⟨I.w0,I.tl,I.vl,I.st,I.vs,I.nn,I.bd,I.pr,I.up,λr x i l e u D a=>by
  rcases I.rl r x i l e u D a with z | z
  .exact .inl (h r i l D a z)
  .exact .inr z,I.wk⟩
theorem ak(h:H p=none)(o:HO):Same H (upd H p o):=λb u q=>by rw[aq (aH q h)];exact q
theorem aK{l:Addr}(h:Same H H2)(hl:H l=none)(o:HO):Same H (upd H2 l o):=λb u q=>by rw[aq (aH q hl)];exact h b u q
theorem eu(s:Same H H')(h:H' p=none):H p=none:=by
 cases y:H p with
 |none=>rfl
 |some o=>rw[s _ _ y]at h;cases h
def iV(p:Nat):V:=.int (p:Int)
theorem at0{x:V}:atI [x,y] 0=some x:=rfl
theorem at1{x:V}:atI [x,y] 1=some y:=rfl
theorem a30{x:V}:atI [x,y,z] 0=some x:=rfl
theorem a31{x:V}:atI [x,y,z] 1=some y:=rfl
theorem a32{x:V}:atI [x,y,z] 2=some z:=rfl
def LkAt(H:Hp)(v:V)(l:Lk):Prop:=∃ t,v=.ref t/\H t=some (.tup [.int (l.1:Int),.int (l.2.1:Int),.int l.2.2])
def LnAt(H:Hp)(v:V)(ls:List Lk):Prop:=∃ a M,v=.ref a/\H a=some (.lst M)/\LsAt LkAt H M ls
theorem LkAt.mono{p:Lk}(h:LkAt H v p)(s:Same H H'):LkAt H' v p:=by
 obtain⟨t,e,z⟩:=h;exact⟨t,e,s _ _ z⟩
theorem LnAt.mono{H H':Hp}{v:V}{r:List Lk}(h:LnAt H v r)(s:Same H H'):LnAt H' v r:=by
 obtain⟨a,M,e,z,l⟩:=h;exact⟨a,M,e,s _ _ z,l.imp λ_ _ q=>q.mono s⟩
def MM:Nat:=10^31
structure Lok(n:Nat)(ls:List Lk):Prop where
 n1:n<=40
 l9:ls.length<=60
 sm:∀ l∈ls,l.1<n/\l.2.1<n
 w0:∀ l∈ls,0<=l.2.2/\l.2.2<=(MM:Int)
def bD(S:Addr->Prop)(H:Hp)(xs:List V)(ts:List (List Nat)):Prop:=xs.length=ts.length/\∀(i:Nat)(l:List Nat),ts[i]?=some l->∃ p,xs[i]?=some (.ref p)/\¬ S p/\H p=some (.lst (l.map iV))
theorem bD.mono{S:Addr->Prop}(h:bD S H xs ts)(s:∀ b u,¬ S b->H b=some u->H' b=some u):bD S H' xs ts:=⟨h.1,λi e q=>by
 obtain⟨p,a,n,b⟩:=h.2 i e q
 exact⟨p,a,n,s _ _ n b⟩⟩
theorem bD.snoc{S:Addr->Prop}(h:bD S H xs ts)(n:¬ S q)(e:H q=some (.lst (l.map iV))):bD S H (xs++[.ref q]) (ts++[l]):=by
 refine⟨by rw[Hk,Hk,h.1];rfl,λj k C=>?_⟩
 by_cases c:j<ts.length
 .rw[Ho c]at C;obtain⟨p,I,s⟩:=h.2 j k C;exact⟨p,by rw[Ho (by rw[h.1];exact c)];exact I,s⟩
 .rw[Hm (Kk c)]at C;have a:j=ts.length:=by
   have:=(Hg.mp C).1;rw[Ht]at this;omega
  subst a;rw[HQ]at C
  cases C
  exact⟨q,by rw[← h.1,Hm (Hl _),HQ];rfl,n,e⟩
def Dist(xs:List V):Prop:=∀(i j:Nat)(p:Addr),xs[i]?=some (.ref p)->xs[j]?=some (.ref p)->i=j
theorem bD.set{S:Addr->Prop}(h:bD S H xs ts)(D:Dist xs)(e:xs[i]?=some (.ref p)):bD S (upd H p (.lst (l'.map iV))) xs (ts.set i l'):=by
 refine⟨by rw[Il];exact h.1,λj l z=>?_⟩
 have d:i<ts.length:=by rw[← h.1];exact(Hg.mp e).1
 rw[Ip]at z;by_cases c:i=j
 .subst c;rw[NA rfl,NA d]at z
  cases z
  obtain⟨o,I,s,x⟩:=h.2 i _ (Hf d);rw[e]at I
  cases I
  exact⟨p,e,s,ag⟩
 .rw[NB c]at z;obtain⟨o,I,s,x⟩:=h.2 j l z;exact⟨o,I,s,by rw[aq (λy=>by rw[y]at I;exact c (D i j p e I))];exact x⟩
theorem kZ{S:Addr->Prop}(h:bD S H xs ts)(D:Dist xs)(n:H q=none):Dist (xs++[.ref q]):=by
 have u:∀ i p,xs[i]?=some (V.ref p)->p≠q:=λi p e z=>by
  have d:i<ts.length:=by rw[← h.1];exact(Hg.mp e).1
  obtain⟨o,I,_,x⟩:=h.2 i _ (Hf d);rw[e]at I;cases I;rw[z,n]at x;cases x
 have b:∀ i p,(xs++[V.ref q])[i]?=some (V.ref p)->(xs[i]?=some (V.ref p))∨(i=xs.length/\p=q):=λi p e=>by
  by_cases c:i<xs.length
  .rw[Ho c]at e;exact .inl e
  .rw[Hm (Kk c)]at e;have J:=(Hg.mp e).1;rw[Ht]at J;have f:i-xs.length=0:=by omega
   rw[f]at e
   cases e
   exact .inr ⟨∅,rfl⟩
 intro i j p G E;rcases b i p G with M | ⟨M,g⟩
 .rcases b j p E with J | ⟨J,a⟩
  .exact D i j p M J
  .exact NC a (u i p M)
 .rcases b j p E with J | ⟨J,a⟩
  .exact NC g (u j p J)
  .omega
structure AtM(n c:Nat)(rows:List (List Nat))(mem:Nat->Nat->Prop):Prop where
 len:rows.length=n
 mm:∀(r:Nat)(row:List Nat),rows[r]?=some row->∀ j,j∈row↔mem r j
 few:∀ row∈rows,row.length<=c
theorem AtM.put{c:Nat}{rows:List (List Nat)}{mem:Nat->Nat->Prop}(h:AtM n c rows mem){a:Nat}(hl:rows[a]?=some l):AtM n (c+1) (rows.set a (l++[i])) (λr j=>mem r j∨(r=a/\j=i)):=by
 have A:=(Hg.mp hl).1;refine⟨by rw[Il];exact h.len,λr b e j=>?_,λb u=>?_⟩
 .rw[rS A]at e;by_cases z:a=r
  .rw[NA z]at e
   cases e
   subst z;rw[Hx,HB,h.mm a l hl j];exact⟨λy=>y.imp id λy=>⟨rfl,y⟩,λy=>y.imp id λy=>y.2⟩
  .rw[NB z]at e;rw[h.mm r b e j];exact⟨.inl,λy=>y.elim id λy=>NC y.1.symm z⟩
 .rcases Kz u with y | y
  .have:=h.few b y;omega
  .have:=h.few l (Hh hl)
   rw[y,Hk,Ht];omega
def memL(ls:List Lk)(r j:Nat):Prop:=∃ l,ls[j]?=some l/\mB l r
structure Txt(mg:Str->Option Value):Prop where
 n_len:mg "len" = none
 n_int:mg "int" = none
 n_bool:mg "bool" = none
 n_list:mg "list" = none
 n_tuple:mg "tuple" = none
 n_range:mg "range" = none
 n_min:mg "min" = none
 n_abs:mg "abs" = none
 n_enumerate:mg "enumerate" = none
 n_isinstance:mg "isinstance" = none
inductive Fz(vs:List L2.V)(H:L2.Hp)(Q:L2.VK)(x3_:L2.XK):Prop
 |mk (v:V)(l:Lk)(r:Nat) (h0_:vs = [v,.int (r:Int)])(h1_:LkAt H v l)(h2_:Q (.int ((bey l r:Nat):Int)) H)
inductive spAt(vs:List L2.V)(H:L2.Hp)(Q:L2.VK)(x3_:L2.XK):Prop
 |mk (v:V)(n:Nat)(ls:List Lk) (h0_:vs = [.int (n:Int),v])(h1_:LnAt H v ls)(h2_:Lok n ls)(h3_:∀(p:Addr)(ys:List V)(rows:List (List Nat)) H',Same H H'->H p=none->H' p=some (.lst ys)->bD (λq=>q=p∨H q≠none) H' ys rows->AtM n 120 rows (memL ls)->Q (.ref p) H')
theorem Aq:ay ["link","room"] ["link","room"] (ar mP):=by ac_nf
theorem ok_bey (F:Fun K "beyond" "beyond" mP f fd):FnOk P w K mg base CX0 1 f fd ["link","room"] Fz:=by
 refine F.ok Aq (by walk_at "l") λY A g s H d Q E u h=>?_
 obtain⟨v,l,r,rfl,⟨t,rfl,J⟩,q⟩:=h;refine⟨_,(ao (aF (iZ (aD cq (pv 1) (aM (pv 0) ai) (aE _)) (aM (pv 0) ai) (aM (pv 0) ai)))),?_⟩;refine⟨_,rfl,_,rfl,t,_,0,_,rfl,rfl,SqT.of J,a30,rfl,_,rfl,?_⟩;refine ite2 (λc=>?_) (λc=>?_)
 .have C:r=l.1:=by have:=V.int.inj (Np c);omega
  have e:bey l r=l.2.1:=by unfold bey;rw[NA C]
  rw[e]at q;exact⟨_,rfl,t,_,1,_,rfl,rfl,SqT.of J,a31,q⟩
 .have C:¬ r=l.1:=λz=>c (MJ (congrArg V.int ∅))
  have e:bey l r=l.1:=by unfold bey;rw[NB C]
  rw[e]at q;exact⟨_,rfl,t,_,0,_,rfl,rfl,SqT.of J,a30,q⟩
theorem fT:ay ["many","links","at","number","link"] ["many","links"] (ar iW):=by ac_nf
theorem ok_at (F:Fun K "links_at" "links_at" iW f fd) (T:Txt mg):FnOk P w K mg base CX0 1 f fd ["many","links"] spAt:=by
 refine F.ok fT (by walk_at "l") λk A g s H t Q E G h=>?_
 obtain⟨v,n,ls,rfl,⟨a,xs,rfl,hA,hL⟩,ok,kk⟩:=h;have n1:=ok.n1;have l9:=ok.l9;have xl:=hL.1
 refine⟨_,(ah (mr 2 [] ["room"] fT.nd (aO rfl T.n_range (af (pv 0) aj)) pg_c pt_c (λC ex s H=>(bL aj)))
   (ah (bw PassesOwn.never rfl (gm rfl T.n_enumerate (af (pv 1) aj)) (nL rfl (aJ (bY 3 fT.nd) (aJ (bY 4 fT.nd) bT))) (ah (aU (dB HC HU HS aZ (aR (pv 2) (aM (pv 4) ai)) (af (pv 3) aj)))
   (ao (aU (dB HC HU HS aZ (aR (pv 2) (aM (pv 4) ai)) (af (pv 3) aj))))))
   (ao (aF (pv 2))))),?_⟩
 refine⟨_,rfl,_,rfl,∅,∅,cj (n:=(n:Int).toNat) (λi L N=>Same H N/\bD (λp=>H p≠none) N L (Hw i [])/\Dist L) (by rw[Hn];exact HJ (aw ∅)) ⟨λ_ _ e=>e,⟨rfl,λi l e=>by simp at e⟩,λi j p e=>by simp at e⟩ ?_ ?_⟩
 .rintro i L N d ⟨m,rx,D⟩;refine⟨(by show 0<=LZ;decide),λl I=>?_⟩
  have q:=ak I (.lst []);refine⟨m.trans q,?_,kZ rx D I⟩;rw[JR];exact(rx.mono λb u _ z=>q _ _ z).snoc (λz=>z (eu m I)) ag
 rintro L N aA ⟨m,rx,D⟩ pn ac;rw[Hn]at rx;have q:=ak ac (.lst L);have bb:H pn=none:=eu m ac
 have bi:bD (λp=>p=pn∨H p≠none) (upd N pn (.lst L)) L (Hw n []):=⟨rx.1,λi l z=>by
  obtain⟨p,a1,a2,a3⟩:=rx.2 i l z;have n2:p≠pn:=aH a3 ac
  exact⟨p,a1,by rintro(y | y);exact n2 y;exact a2 y,q _ _ a3⟩⟩
 have m0:AtM n 0 (Hw n []) (memL (ls.take 0)):=⟨Jr,λr aI e j=>by
  have:=(Kw.mp (Hh e)).2;subst this
  exact⟨(λz=>nomatch z),λ⟨l,z,_⟩=>by rw[K6]at z;cases z⟩,λaI G=>by rw[(Kw.mp G).2];exact Hl _⟩
 refine⟨_,rfl,a,rfl,⟨_,SqL.of ((m.trans q) _ _ hA)⟩,m9 (K:=K) (xs:=xs) (λi Y H5=>∃ v4 v5 rows,Y = [some (.int (n:Int)),some (.ref a),some (.ref pn),v4,v5]/\Same H H5/\H5 pn=some (.lst L)/\bD (λp=>p=pn∨H p≠none) H5 L rows/\AtM n (2*i) rows (memL (ls.take i)))
  ⟨_,_,_,rfl,m.trans q,ag,bi,m0⟩ (λi Y H5 _ ab=>by obtain⟨_,_,_,_,z,_⟩:=ab;exact SqL.of (z _ _ hA)) ?_ ?_⟩
 .rintro i x Y H5 T2 O ⟨v4,v5,rows,rfl,s5,aV,an,am⟩ aa;obtain⟨l,I,p,rfl,B⟩:=hL.get O;obtain⟨b1,b2⟩:=ok.sm l (Hh I);have sT:=ak aa (.tup [.int (i:Int),.ref p]);have s6:=s5.trans sT;have be:=s6 _ _ B;have bd:=am.len;have bB:i<ls.length:=(Hg.mp I).1;obtain⟨r1,al⟩:∃ r,rows[l.1]?=some r:=⟨_,Hf ∅⟩
  have a0:bD (λp=>p=pn∨H p≠none) (upd H5 T2 (.tup [.int (i:Int),.ref p])) L rows:=an.mono λb u _ z=>sT _ _ z;obtain⟨p1,y1,y2,y3⟩:=a0.2 _ _ al;have aS:∀{p:Addr},¬ (p=pn∨H p≠none)->H p=none/\p≠pn:=λ{p} n=>by
   refine⟨?_,λz=>n (.inl z)⟩
   cases y:H p with
   |none=>rfl
   |some o=>exact NC (.inr (by rw[y];exact λz=>nomatch z)) n
  obtain⟨ae,bm⟩:=aS y2;have f1:=am.few r1 (Hh al);have a5:=sT _ _ aV;refine⟨T2,_,rfl,SqT.of ag,rfl,_,_,rfl,_,_,rfl,rfl,?_⟩;refine⟨_,rfl,_,rfl,p,_,0,_,rfl,rfl,SqT.of be,a30,pn,L,_,_,rfl,rfl,SqL.of a5,aC y1,.inl ⟨rfl,_,SqL.of y3⟩,_,rfl,p1,_,_,rfl,rfl,y3,aw (by rw[Hi];omega),?_⟩
  have aT:(r1.map iV)++[V.int (i:Int)]=(r1++[i]).map iV:=by rw[Hv];rfl
  rw[aT];have a7:=a0.set D y1 (l':=r1++[i]);have bq:=am.put (i:=i) al;have s7:Same H (upd (upd H5 T2 (.tup [.int (i:Int),.ref p])) p1 (.lst ((r1++[i]).map iV))):=aK s6 ae _;have bv:=s7 _ _ B;have a6:(upd (upd H5 T2 (.tup [.int (i:Int),.ref p])) p1 (.lst ((r1++[i]).map iV))) pn=some (.lst L):=by rw[aq bm.symm];exact a5
  obtain⟨r2,aL⟩:∃ r,(rows.set l.1 (r1++[i]))[l.2.1]?=some r:=⟨_,Hf (by rw[Il];omega)⟩
  obtain⟨p2,z1,z2,z3⟩:=a7.2 _ _ aL;obtain⟨ap,bn⟩:=aS z2;have f2:=bq.few r2 (Hh aL);refine⟨_,rfl,_,rfl,p,_,1,_,rfl,rfl,SqT.of bv,a31,pn,L,_,_,rfl,rfl,SqL.of a6,aC z1,.inl ⟨rfl,_,SqL.of z3⟩,_,rfl,p2,_,_,rfl,rfl,z3,aw (by rw[Hi];omega),?_⟩
  have a4:(r2.map iV)++[V.int (i:Int)]=(r2++[i]).map iV:=by rw[Hv];rfl
  rw[a4];have bp:=bq.put (i:=i) aL;refine⟨_,_,(rows.set l.1 (r1++[i])).set l.2.1 (r2++[i]),rfl,aK s7 ap _,by rw[aq bn.symm];exact a6,a7.set D z1,bp.len,λr aI e j=>?_,λaI G=>?_⟩
  .rw[bp.mm r aI e j];unfold memL;rw[HH,I];have ba:(ls.take i).length=i:=by rw[HW];omega
   constructor
   .rintro((⟨l',M,J⟩ | ⟨M,J⟩) | ⟨M,J⟩)
    .exact⟨l',by rw[Ho (Hg.mp M).1];exact M,J⟩
    .subst J;exact⟨l,by rw[Hm ∅,ba,HQ];rfl,.inl M⟩
    .subst J;exact⟨l,by rw[Hm ∅,ba,HQ];rfl,.inr M⟩
   .rintro⟨l',M,J⟩;by_cases c:j<i
    .rw[Ho ∅]at M
     exact .inl (.inl ⟨l',M,J⟩)
    .rw[Hm ∅]at M
     have h3:=(Hg.mp M).1;have h4:j=i:=by
      have:(Option.toList (some l)).length=1:=rfl;omega
     subst h4;rw[ba,HQ]at M
     cases M
     rcases J with J | J
     .exact .inl (.inr ⟨J,rfl⟩)
     .exact .inr ⟨J,rfl⟩
  .have:=bp.few aI G;omega
 .rintro Y H5 ⟨v4,v5,rows,rfl,s5,aV,an,am⟩;rw[xl,HL]at am;exact⟨_,rfl,kk pn L rows H5 s5 bb aV an ⟨am.len,am.mm,λaI G=>by have:=am.few aI G;omega⟩⟩
inductive lT(vs:List L2.V)(H:L2.Hp)(Q:L2.VK)(x3_:L2.XK):Prop
 |mk (n:Int) (h0_:vs = [.int n])(h1_:0<=n)(h2_:n<1208925819614629174706176)(h3_:∀ r H',Same H H'->H r=none->H' r=some (.lst ((K2.bitsF 0 n.toNat).map iV))->Q (.ref r) H')
theorem lC:ay ["mask","numbers","number","rest"] ["mask"] (ar xH):=by ac_nf
theorem ok_bits (F:Fun K "bits" "bits" xH f fd):FnOk P w K mg base CX0 1 f fd ["mask"] lT:=by
 refine F.ok lC (by walk_at "l") λI A g s H t Q E u h=>?_
 obtain⟨n,rfl,x,M,k⟩:=h
 refine⟨_,(ah (aB 1 lC.nd (bL aj))
   (ah (aB 2 lC.nd ai)
   (ah (aB 3 lC.nd (pv 0))
   (ah (dU PassesOwn.never (aD vf (pv 3) ai (aE _)) (ah (bF (aD cq (av aY (pv 3) ai) ai (aE _)) (ao (aU (dB HC HU HS aZ (pv 1) (af (pv 2) aj)))) aN)
   (ah (aB 3 lC.nd (av bj (pv 3) ai))
   (ao (aB 2 lC.nd (av bE (pv 2) ai))))))
   (ao (aF (pv 1))))))),?_⟩
 refine⟨(by show 0<=LZ;decide),λl D=>?_⟩
 have aa:(2:Nat)^80=1208925819614629174706176:=by decide
 have m:(K2.bitsF 0 n.toNat).length<=80:=K2.bitsF_len 80 n.toNat 0 ∅
 refine⟨_,rfl,eQ (λY N=>∃(kn rn:Nat)(J:List Nat),Y = [some (.int n),some (.ref l),some (.int (kn:Int)),some (.int (rn:Int))]/\N l=some (.lst (J.map iV))/\J++K2.bitsF kn rn=K2.bitsF 0 n.toNat/\Same H N)
  (λY _=>match Y with | [_,_,_,some (.int r)]=>r.toNat | _=>0) ⟨0,n.toNat,[],?_,ag,rfl,ak D _⟩ ?_ ?_⟩
 .have e:((n.toNat:Nat):Int)=n:=by omega
  rw[e];rfl
 .rintro Y N ⟨kn,rn,J,rfl,B,L,y⟩;refine⟨_,rfl,_,_,rfl,rfl,_,rfl,?_⟩;refine ite2 (λc=>?_) (λc=>?_)
  .have C:(0:Int)<(rn:Int):=Np c
   have O:((rn:Int)/2)=((rn/2:Nat):Int):=by omega
   have ab:J.length<=80:=by
    have:=congrArg List.length L;rw[Hk]at this;omega
   walk_at "rd";refine ite2 (λo=>?_) (λo=>?_)
   .have T:(rn:Int)%2=1:=V.int.inj (Np o)
    refine⟨_,rfl,.inl ⟨rfl,_,SqL.of B⟩,_,rfl,l,_,_,rfl,rfl,B,aw (by rw[Hi];omega),?_⟩
    walk_at "rd";refine⟨⟨kn+1,rn/2,J++[kn],?_,?_,?_,?_⟩,?_⟩
    .show[some (V.int n),some (V.ref l),some (V.int ((kn:Int)+1)),some (V.int ((rn:Int)/2))]=_;rw[O];rfl
    .rw[ag,Hv];rfl
    .rw[Kh,← L];have z:=K2.bitsF_odd (k:=kn) (n:=rn) ∅
     rw[z];rfl
    .exact aK y D _
    .show((rn:Int)/2).toNat<((rn:Nat):Int).toNat;omega
   .have T:¬ (rn:Int)%2=1:=λz=>o (MJ (congrArg V.int z))
    walk_at "rd";refine⟨⟨kn+1,rn/2,J,?_,B,?_,y⟩,?_⟩
    .show[some (V.int n),some (V.ref l),some (V.int ((kn:Int)+1)),some (V.int ((rn:Int)/2))]=_;rw[O];rfl
    .rw[← L,K2.bitsF_even (k:=kn) (n:=rn) ∅ ∅]
    .show((rn:Int)/2).toNat<((rn:Nat):Int).toNat;omega
  .have C:¬ (0:Int)<(rn:Int):=λz=>c (MJ z)
   have z:rn=0:=by omega
   subst z;rw[K2.bitsF_zero,Kc]at L;refine⟨_,rfl,?_⟩;exact k l N y D (by rw[B,L])
 .rintro Y N Q1 Q2 d ⟨v,e,i,j,a,b,G,p,q⟩;exact⟨v,e,i,j,a,b,G,p,d _ _ q⟩
def flat(PL:List (Nat×Nat)):List Nat:=PL.flatMap λp=>[p.1,p.2]
def cst(d:Nat->Nat->Int)(PL:List (Nat×Nat)):Int:=(PL.map λp=>d p.1 p.2).sum
def Cs(d:Nat->Nat->Int)(S:List Nat)(c:Int):Prop:=∃ j,(flat j).Perm S/\cst d j=c
structure Met(n:Nat)(d:Nat->Nat->Int):Prop where
 sy:∀ a b,d a b=d b a
 nn:∀ a b,0<=d a b
 tr:∀ a b c,a<n->b<n->c<n->d a c<=d a b+d b c
theorem flat_cons(p:Nat×Nat)(PL:List (Nat×Nat)):flat (p::PL)=p.1::p.2::flat PL:=rfl
theorem k8(d:Nat->Nat->Int)(p:Nat×Nat)(PL:List (Nat×Nat)):cst d (p::PL)=d p.1 p.2+cst d PL:=by unfold cst;rw[HR,Ja]
theorem Cs.perm{d:Nat->Nat->Int}{S:List Nat}{c:Int}(h:Cs d S c)(p:S.Perm l):Cs d l c:=by
 obtain⟨j,M,J⟩:=h;exact⟨j,M.trans p,J⟩
theorem part0{d:Nat->Nat->Int}(sy:∀ a b,d a b=d b a){a:Nat}:∀{PL:List (Nat×Nat)},a∈flat PL->∃ e f,(flat PL).Perm (a::e::flat f)/\cst d PL=d a e+cst d f
 |[],h=>nomatch h
 | (x,y)::PL,h=>by
  rw[flat_cons]at h;by_cases c1:a=x
  .subst c1;exact⟨y,PL,.refl _,k8 ..⟩
  by_cases c2:a=y
  .subst c2;exact⟨x,PL,.swap _ _ _,by rw[k8];show d x a+_=_;rw[sy x a]⟩
  have M:a∈flat PL:=by
   rcases Hs.mp h with h | h
   .exact NC h c1
   .rcases Hs.mp h with h | h
    .exact NC h c2
    .exact h
  obtain⟨e,f,p,i⟩:=part0 sy M;refine⟨e,(x,y)::f,?_,by rw[k8,k8,i];omega⟩
  rw[flat_cons,flat_cons];have N:(x::y::flat PL).Perm (x::y::a::e::flat f):=(p.cons y).cons x;refine N.trans ?_;have C:([x,y]++([a,e]++flat f)).Perm ([a,e]++([x,y]++flat f)):=by
   rw[← Kh,← Kh];exact(List.perm_append_comm).append_right _
  exact C
theorem Cs.part{d:Nat->Nat->Int}(sy:∀ a b,d a b=d b a){S:List Nat}{c:Int}{a:Nat}(h:Cs d S c)(A:a∈S):∃ e R c0,S.Perm (a::e::R)/\Cs d R c0/\c=d a e+c0:=by
 obtain⟨j,p,i⟩:=h;obtain⟨e,f,o,g⟩:=part0 sy (p.mem_iff.mpr A);exact⟨e,flat f,cst d f,p.symm.trans o,⟨f,.refl _,rfl⟩,by rw[← i,g]⟩
theorem Cs.add{d:Nat->Nat->Int}{R:List Nat}{c0:Int}(a e:Nat)(h:Cs d R c0):Cs d (a::e::R) (d a e+c0):=by
 obtain⟨j,p,i⟩:=h;exact⟨(a,e)::j,by rw[flat_cons];exact(p.cons e).cons a,by rw[k8,i]⟩
def tog(S:List Nat)(a:Nat):List Nat:=if a∈S then S.erase a else a::S
theorem tog_nd{S:List Nat}(h:S.Nodup)(a:Nat):(tog S a).Nodup:=by
 unfold tog;split
 .exact h.erase _
 .exact Hy.mpr ⟨by assumption,h⟩
theorem xt{S:List Nat}(p:S.Perm l)(a:Nat):(tog S a).Perm (tog l a):=by
 unfold tog;by_cases c:a∈S
 .rw[NA c,NA (p.mem_iff.mp c)];exact p.erase a
 .rw[NB c,NB (λz=>c (p.mem_iff.mpr z))];exact p.cons a
theorem Fp{S:List Nat}(h:S.Nodup)(a:Nat):(tog (tog S a) a).Perm S:=by
 by_cases c:a∈S
 .have e:tog S a=S.erase a:=by unfold tog;rw[NA c]
  have n:a∉S.erase a:=h.not_mem_erase;have E:tog (S.erase a) a=a::S.erase a:=by unfold tog;rw[NB n]
  rw[e,E];exact(List.perm_cons_erase c).symm
 .have e:tog S a=a::S:=by unfold tog;rw[NB c]
  have E:tog (a::S) a=S:=by unfold tog;rw[NA (Hu ..),JS]
  rw[e,E]
theorem Ga{S:List Nat}(h:S.Nodup){a x:Nat}:x∈tog S a↔(x∈S/\x≠a)∨(x=a/\a∉S):=by
 unfold tog;by_cases c:a∈S
 .rw[NA c,h.mem_erase_iff];exact⟨λz=>.inl ⟨z.2,z.1⟩,λz=>z.elim (λy=>⟨y.2,y.1⟩) λy=>NC c y.2⟩
 .rw[NB c,Hs];constructor
  .rintro(z | z)
   .exact .inr ⟨z,c⟩
   .exact .inl ⟨z,λy=>c (y▸z)⟩
  .rintro(z | z)
   .exact .inr z.1
   .exact .inl z.1
theorem Cs.two{d:Nat->Nat->Int}(M:Met n d){S:List Nat}{c:Int}(nd:S.Nodup)(lt:∀ x∈S,x<n)(h:Cs d S c){a b:Nat}(A:a<n)(L:b<n):∃ c',Cs d (tog (tog S a) b) c'/\c'<=c+d a b:=by
 have u:=M.nn a b;by_cases r:a=b
 .subst r;exact⟨c,h.perm (Fp nd a).symm,∅⟩
 by_cases k:a∈S
 .obtain⟨e,R,c0,p,E,i⟩:=h.part M.sy k;have v:tog S a=S.erase a:=by unfold tog;rw[NA k]
  have N:(S.erase a).Perm (e::R):=by
   have:=p.erase a;rw[JS]at this;exact this
  have o:e<n:=lt e (p.mem_iff.mpr (Hq _ (Hu ..)));rw[v];by_cases D:b∈S.erase a
  .have O:tog (S.erase a) b=(S.erase a).erase b:=by unfold tog;rw[NA D]
   rw[O];by_cases m:e=b
   .subst m;have I:=N.erase e;rw[JS]at I;refine⟨c0,E.perm I.symm,?_⟩;have:=M.nn a e;omega
   .have s:b∈R:=by
     rcases Hs.mp (N.mem_iff.mp D)with z | z
     .exact NC z.symm m
     .exact z
    obtain⟨f,R2,c1,q,g,t⟩:=E.part M.sy s;have flt:f<n:=lt f (p.mem_iff.mpr (Hq _ (Hq _ (q.mem_iff.mpr (Hq _ (Hu ..))))));have I:((S.erase a).erase b).Perm (e::f::R2):=by
     have B:(S.erase a).Perm (b::e::f::R2):=N.trans ((q.cons e).trans (.swap _ _ _));have Q:=B.erase b;rw[JS]at Q;exact Q
    refine⟨d e f+c1,(g.add e f).perm I.symm,?_⟩;have C:=M.tr e a f o A flt;have l:=M.tr a b f A L flt;have j:=M.sy e a;omega
  .have O:tog (S.erase a) b=b::S.erase a:=by unfold tog;rw[NB D]
   rw[O];refine⟨d b e+c0,(E.add b e).perm (N.symm.cons b),?_⟩;have C:=M.tr b a e L A o;have j:=M.sy b a;omega
 .have v:tog S a=a::S:=by unfold tog;rw[NB k]
  rw[v];by_cases D:b∈S
  .have O:tog (a::S) b=a::S.erase b:=by
    unfold tog;rw[NA (Hq _ D),List.erase_cons_tail (by simpa using r)]
   rw[O];obtain⟨e,R,c0,p,E,i⟩:=h.part M.sy D;have N:(S.erase b).Perm (e::R):=by
    have:=p.erase b;rw[JS]at this;exact this
   have o:e<n:=lt e (p.mem_iff.mpr (Hq _ (Hu ..)));refine⟨d a e+c0,(E.add a e).perm (N.symm.cons a),?_⟩;have C:=M.tr a b e A L o;omega
  .have O:tog (a::S) b=b::a::S:=by
    unfold tog;rw[NB (λz=>by rcases Hs.mp z with z | z;exact r z.symm;exact D z)]
   rw[O];refine⟨d b a+c,h.add b a,?_⟩;have:=M.sy b a;omega
end KF
variable{ls:List KF.Lk}
namespace KF
open PySem L2
def lpF:Pos:=⟨70,32,70,55⟩
theorem Fun.okT{j:Str}{st:Stmt}{c TT:Addr}{N ps:List Str}{k:Nat}(F:Fun K x j st f fd)(S:ay N ps (ar st))(J:JP K x=some (c,TT))(g:Ic K Ma x=some (some (.ref f)))
  (len:∀ vs H Q E,sp vs H Q E->vs.length=ps.length)
  (a:∀(A:Around)(outer:List Env)(s:Shared)(H:Hp)(vs:List V)(Q:VK)(E:XK),Room k (A.deeper (PyProof.Rows.envOfC j (ar st) s.heap.objs.size f (.ref c)))->sp vs H Q E ->
   ∃ t,PSs (cxOf CX0 P w K mg base N j (ar st) f (.ref c) A outer s H E).nox (cy st) t/\t { nx:=λ_ H'=>Q .non H',rt:=Q } (pJ N vs) H):FnOk P w K mg base CX0 (k+1) f fd ps sp:=by
 obtain⟨m,i,kV,B,O,d,Y,l,b,rfl,r,M⟩:=F.ex;have e:Y=.ref c:=by
  unfold JP at J;rw[g]at J;simp only[r]at J
  cases Y<;>first | (cases J;done) | skip
  simp only at J;split at J
  .split at J
   .cases J;rfl
   .cases J
  .cases J
 subst e;refine fn_of r M S len λA outer s H vs Q E u I=>?_;obtain⟨t,h,q⟩:=a A outer s H vs Q E u I;exact⟨t,h.nox,q⟩
def oV:Option Int->V | none=>.non | some x=>.int x
def oN:Option Nat->V | none=>.non | some k=>.int (k:Int)
def kw(r:Nat):Key×V:=(Sum.inl (r:Int),.bl true)
def lqF:Str:=("fares" : Str)++".<locals>."++"<lambda>"
def sF(T va wd TT p:Addr):Prop:=p=TT∨p=T∨p=va∨p=wd
def KpS(S:Addr->Prop)(H H':Hp):Prop:=∀ b o,¬ S b->H b=some o->H' b=some o
theorem KpS.upd{S:Addr->Prop}(a:KpS S H H1)(B:S p)(o:HO):KpS S H (L2.upd H1 p o):=λc u n h=>by
 rw[aq (λz=>n (by rw[z];exact B))]
 exact a c u n h
inductive spFares(TT:Addr)(vs:List L2.V)(H:L2.Hp)(Q:L2.VK)(x3_:L2.XK):Prop
 |mk (v:V)(n s:Nat)(ls:List Lk) (h0_:vs = [.int (n:Int),v,.int (s:Int)])(h1_:LnAt H v ls)(h2_:Lok n ls)(h3_:s<n)(h4_:Tb lqF lpF TT H)(h5_:∀(t ta va:Addr)(TL:List (Option Int))(VL:List (Option Nat)) H',TbS TT H H'->Tb lqF lpF TT H'->H ta=none->H va=none->H' t=some (.tup [.ref ta,.ref va])->H' ta=some (.lst (TL.map oV))->H' va=some (.lst (VL.map oN))->FI n ls s MM TL VL [] (λ_ _=>False)->Q (.ref t) H')
structure FH(ta va wd TT:Addr)(n s:Nat)(ls:List Lk)(H1:Hp)(TL:List (Option Int))(VL:List (Option Nat))(W:List Nat)(ex:Nat->Nat->Prop)(H:Hp):Prop where
 kp:KpS (sF ta va wd TT) H1 H
 ht:H ta=some (.lst (TL.map oV))
 hv:H va=some (.lst (VL.map oN))
 hw:H wd=some (.dK (W.map kw))
 tb:Tb lqF lpF TT H
 fi:FI n ls s MM TL VL W ex
 nd:W.Nodup
def vW(n:Nat)(v:V):Nat:=match v with | .int x=>x.toNat | _=>n*MM+1
def mesH(n:Nat)(T wd:Addr)(H:Hp):Nat:=match H T,H wd with
 |some (.lst D),some (.dK m)=>(D.map (vW n)).sum*(n+1)+m.length
 |_,_=>0
theorem FH.mes{TT:Addr}{s:Nat}(h:FH a va wd TT n s ls H1 T O W ex H):mesH n a wd H=wgt (n*MM+1) T*(n+1)+W.length:=by
 unfold mesH wgt;rw[h.ht,h.hw];have e:(T.map oV).map (vW n)=T.map (vOf (n*MM+1)):=by
  rw[JN];refine JW λo _=>?_
  cases o<;>rfl
 show((T.map oV).map (vW n)).sum*(n+1)+(W.map kw).length=_;rw[e,Hi]
theorem FH.wlen{TT:Addr}{s:Nat}(h:FH a va wd TT n s ls H1 T O W ex H):W.length<=n :=
 kH n W h.nd λx v=>by
  obtain⟨y,G⟩:=h.fi.wk x v;have:=(Hg.mp G).1;rw[h.fi.tl]at this;exact this
theorem ET{r s:Nat}(h:(kw r).1=(kw s).1):r=s:=by
 have:(r:Int)=(s:Int):=by injection h
 omega
theorem zM{r:Nat}:∀{W:List Nat},r∈W->valV (W.map kw) (.inl (r:Int))=some (.bl true)
 |w::W,h=>by
  rw[HR];by_cases c:(kw w).1=Sum.inl (r:Int)
  .rw[br c];rfl
  .rw[bu c];refine zM ?_;rcases Hs.mp h with h | h
   .exact NC (by rw[h];rfl) c
   .exact h
theorem no_kw{r:Nat}:∀{W:List Nat},r∉W->valV (W.map kw) (.inl (r:Int))=none
 |[],_=>rfl
 |w::W,h=>by
  rw[HR,bu (λc=>h (by rw[ET (r:=w) (s:=r) c];exact Hu ..))]
  exact no_kw λz=>h (Hq _ z)
theorem wu(r:Nat):∀ W:List Nat,mD (W.map kw) (.inl (r:Int))=(W.filter (λx=>decide (x≠r))).map kw
 |[]=>rfl
 |w::W=>by
  rw[HR];by_cases c:w=r
  .rw[BL (by rw[c];rfl),wu r W,Jj (by simpa using c)]
  .rw[BM (k:=Sum.inl (r:Int)) (λz=>c (ET (r:=w) (s:=r) z)),wu r W,Ji (by simpa using c),HR]
theorem put_kw{t:Nat}(nd:W.Nodup):∃ W':List Nat,putK (W.map kw) (.inl (t:Int)) (.bl true)=W'.map kw/\W'.Nodup/\∀ r,r∈W'↔r∈W∨r=t:=by
 by_cases c:t∈W
 .refine⟨W,?_,nd,λr=>⟨.inl,λz=>z.elim id λz=>z▸c⟩⟩;unfold putK;rw[fQ,zM c,Option.isSome_some,NA rfl];rw[JN];refine JW λx _=>?_;show(if(kw x).1=Sum.inl (t:Int) then((kw x).1,V.bl true) else kw x)=kw x;split<;>rfl
 .refine⟨W++[t],by rw[qk _ (no_kw c),Hv];rfl,vm nd c,λr=>by rw[Hx,HB]⟩
structure Sg(la aa ta va wd TT:Addr)(n s:Nat)(ls:List Lk)(xs ys:List V)(rows:List (List Nat))(H1:Hp):Prop where
 hA:H1 la=some (.lst xs)
 hL:LsAt LkAt H1 xs ls
 ok:Lok n ls
 hR:H1 aa=some (.lst ys)
 rx:bD (sF ta va wd TT) H1 ys rows
 am:AtM n 120 rows (memL ls)
 nla:¬ sF ta va wd TT la
 naa:¬ sF ta va wd TT aa
 tt:∀ t o,H1 t=some (.tup o)->¬ sF ta va wd TT t
 ntv:ta≠va
 ntw:ta≠wd
 nvw:va≠wd
 nTt:ta≠TT
 nTv:va≠TT
 nTw:wd≠TT
theorem nu{q:Str}{f:Pos}{TT:Addr}(h:Tb q f TT H)(k:∀ b,(b=TT∨∃ c,H b=some (codO c q))->H' b=H b):Tb q f TT H':=by
 rcases h with h | ⟨c,M,J⟩
 .exact .inl ((k TT (.inl rfl)).trans h)
 .exact .inr ⟨c,(k TT (.inl rfl)).trans M,(k c (.inr ⟨c,J⟩)).trans J⟩
theorem FH.new{TT:Addr}{s:Nat}(h:FH a va wd TT n s ls H1 T O W ex H)(B:H p=none)(o:HO):FH a va wd TT n s ls H1 T O W ex (upd H p o):=by
 have sm:=ak B o;refine⟨λb u l e=>sm _ _ (h.kp b u l e),sm _ _ h.ht,sm _ _ h.hv,sm _ _ h.hw,nu h.tb λb L=>aq λz=>?_,h.fi,h.nd⟩;subst z;rcases L with L | ⟨c,L⟩
 .subst L;rcases h.tb with y | ⟨_,y,_⟩<;>rw[B]at y<;>cases y
 .rw[B]at L;cases L
theorem FH.tab{TT:Addr}{s:Nat}(h:FH a va wd TT n s ls H1 T O W ex H)(d:a≠TT)(f:va≠TT)(c:wd≠TT)(sm:TbS TT H H')(tb:Tb lqF lpF TT H'):FH a va wd TT n s ls H1 T O W ex H' :=
 ⟨λb u l e=>sm _ _ (λz=>l (.inl z)) (h.kp b u l e),sm _ _ d h.ht,sm _ _ f h.hv,sm _ _ c h.hw,tb,h.fi,h.nd⟩
def FrI(e f T va wd TT:Addr)(n s:Nat)(ls:List Lk)(H1:Hp)(σ:St)(H:Hp):Prop:=∃(d h k b:Option V)(u:List (Option Int))(a:List (Option Nat))(W:List Nat),
 σ = [some (.int (n:Int)),some (.ref e),some (.int (s:Int)),some (.ref f),some (.ref T),some (.ref va),some (.ref wd),d,h,k,b]/\FH T va wd TT n s ls H1 u a W (λ_ _=>False) H
def InI(e f T va wd TT:Addr)(n s:Nat)(ls:List Lk)(row:List Nat)(m Q c:Nat)(H1:Hp)(i:Nat)(σ:St)(H:Hp):Prop:=∃(h k b:Option V)(u:List (Option Int))(a:List (Option Nat))(W:List Nat),
 σ = [some (.int (n:Int)),some (.ref e),some (.int (s:Int)),some (.ref f),some (.ref T),some (.ref va),some (.ref wd),some (.int (m:Int)),h,k,b]/\FH T va wd TT n s ls H1 u a W (λr j=>r=m/\j∉row.take i) H/\(∃ x,u[m]?=some (some x)) /\
 ((wgt (n*MM+1) u=Q/\W.length<c)∨wgt (n*MM+1) u<Q)
inductive restF(la TT:Addr)(n s:Nat)(ls:List Lk)(D:L2.Ends)(σ:L2.St)(H:L2.Hp):Prop
 |mk (aa ta va wd:Addr)(xs ys:List V)(rows:List (List Nat))(H1:Hp)(v8 v9 v10:Option V)(TL:List (Option Int))(VL:List (Option Nat))(W:List Nat)(m l0:Nat) (h0_:Sg la aa ta va wd TT n s ls xs ys rows H1)(h1_:σ = [some (.int (n:Int)),some (.ref la),some (.int (s:Int)),some (.ref aa),some (.ref ta),some (.ref va),some (.ref wd),some (.int (m:Int)),v8,v9,v10])(h2_:FH ta va wd TT n s ls H1 TL VL W (λr _=>r=m) H)(h3_:(∃ x,TL[m]?=some (some x)))(h4_:W.length<l0)(h5_:∀ σ' H',FrI la aa ta va wd TT n s ls H1 σ' H'->mesH n ta wd H'<wgt (n*MM+1) TL*(n+1)+l0->D.nx σ' H')
inductive restM(la TT:Addr)(n s:Nat)(ls:List Lk)(D:L2.Ends)(σ:L2.St)(H:L2.Hp):Prop
 |mk (aa ta va wd:Addr)(xs ys:List V)(rows:List (List Nat))(H1:Hp)(TL:List (Option Int))(VL:List (Option Nat))(W:List Nat)(m w0 l0 i k:Nat)(row:List Nat)(l:Lk)(x:Int)(o:Option Int) (h0_:Sg la aa ta va wd TT n s ls xs ys rows H1)(h1_:σ = [some (.int (n:Int)),some (.ref la),some (.int (s:Int)),some (.ref aa),some (.ref ta),some (.ref va),some (.ref wd),some (.int (m:Int)),some (.int (k:Int)),some (.int ((bey l m:Nat):Int)),some (.int (x+l.2.2))])(h2_:FH ta va wd TT n s ls H1 TL VL W (λr j=>r=m/\j∉row.take i) H)(h3_:ls[k]?=some l)(h4_:mB l m)(h5_:TL[m]?=some (some x))(h6_:TL[bey l m]?=some o)(h7_:(∀ y,o=some y->x+l.2.2<y))(h8_:row[i]?=some k)(h9_:((wgt (n*MM+1) TL=w0/\W.length<l0)∨wgt (n*MM+1) TL<w0))(h10_:∀ σ' H',InI la aa ta va wd TT n s ls row m w0 l0 H1 (i+1) σ' H'->D.nx σ' H')
theorem BI{row:List Nat}{k:Nat}(C:row[i]?=some k):∀ r j,(r=m/\j∉row.take i)->(r=m/\j∉row.take (i+1))∨(r=m/\j=k):=λr j ⟨M,J⟩=>by
 by_cases c:j=k
 .exact .inr ⟨M,c⟩
 .refine .inl ⟨M,λz=>?_⟩;rw[HH,C]at z;rcases Hx.mp z with z | z
  .exact J z
  .exact c (HB.mp z)
theorem vj{r:Nat}{o:Option Int}(h:T[r]?=some o):(T.map oV)[r]?=some (oV o):=by rw[Hr,h];rfl
theorem dS:ay ["many","links","start","at","told","via","waiting","room","number","there","fare"] ["many","links","start"] (ar ig):=by ac_nf
theorem ok_fares{f2 c TT:Addr} (F:Fun K "fares" "fares" ig f fd) (T:Txt mg) (ht:JP K "fares" = some (c,TT)) (hn:Ic K Ma "fares" = some (some (.ref f))) (a1:JI base c TT) (bX:Bm mg base)
  (bb:Cal P w K mg base 1 "links_at" ["many","links"] spAt I G) (a4:Cal P w K mg base 1 "beyond" ["link","room"] Fz f2 J):FnOk P w K mg base CX0 2 f fd ["many","links","start"] (spFares TT):=by
 refine Fun.okT F dS ht hn (λvs H Q E h=>?_) (λA ab s H vs Q E u h=>?_)
 .obtain⟨v,n,aL,ls,rfl,_⟩:=h;rfl
 obtain⟨v,n,aL,ls,rfl,⟨la,xs,rfl,hA,hL⟩,ok,hs,a6,kk⟩:=h;have hu:=qN u;have aV:=u.units;have n1:=ok.n1;have l9:=ok.l9;have LM:∀ N,Lam (cxOf CX0 P w K mg base N "fares" (ar ig) f (.ref c) A ab s H E).nox c TT (s.heap.objs.size+1) lqF:=λN=>⟨rfl,a1,bX,rfl,rfl,rfl,rfl⟩
 refine⟨_,(ah (aB 3 dS.nd (bb.c u (af (pv 0) (af (pv 1) aj))))
   (ah (aB 4 dS.nd (cR [] ["room"] (aO rfl T.n_range (af (pv 0) aj)) pg_c pt_c (λC ex s H=>oZ)))
   (ah (mr 5 [] ["room"] dS.nd (aO rfl T.n_range (af (pv 0) aj)) pg_c pt_c (λC ex s H=>oZ))
   (ah (r9 ai (sk (pv 4) (pv 2) j9))
   (ah (aB 6 dS.nd (vc (qp (pv 2) nM uQ) rfl rfl (λz=>by cases z) (by decide)))
   (ah (dU PassesOwn.never (aD (op_neE aV) (pv 6) kE (aE _)) (ah (aB 7 dS.nd (FO (it:=4) (LM _) rfl rfl (u.mono (by decide)) rfl (Or.inr (Or.inl rfl)) rfl T.n_min (af (pv 6) aj)))
   (ah (aU (C7 (pv 6) (pv 7) ⟨rfl,rfl,rfl,rfl⟩))
   (gk (t2:=restF la TT n aL ls) (ao (bw PassesOwn.never rfl (aP (aR (pv 3) (pv 7))) (bY 8 dS.nd) (ah (aB 9 dS.nd (a4.c u (af (aR (pv 1) (pv 8)) (af (pv 7) aj))))
   (ah (aB 10 dS.nd (av bE (aR (pv 4) (pv 7)) (aM (aR (pv 1) (pv 8)) ai)))
   (ao (bF (PW.pt (oF (aD op_isN (aR (pv 4) (pv 9)) oZ (aE _)) (nK (aD sJ (pv 10) (aR (pv 4) (pv 9)) (aE _))))) (gk (t2:=restM la TT n aL ls) (ah (r9 (pv 10) (sk (pv 4) (pv 9) j9))
   (ah (r9 (pv 8) (sk (pv 5) (pv 9) j9))
   (ao (jO hu (pv 6) (pv 9) nM rfl)))) (λD0 S0 H0 h0=>?restm)) aN)))))) (λD0 S0 H0 h0=>?restf)))))
   (ao (aF (bh (af (pv 4) (af (pv 5) aj))))))))))),?_⟩
 case restm =>
  obtain⟨aa,ta,va,wd,xs,ys,rows,H1,TL,VL,W,m,w0,l0,i,k,row,l,x,o,sg,rfl,fh,D,hm,O,ho,ae,j,bp,kn⟩:=h0;have tl:=fh.fi.tl;have vl:=fh.fi.vl;have tt:bey l m<n:=by rw[← tl];exact(Hg.mp ho).1
  have ck:=(fh.fi.w0 l (Hh D));have bU:=sg.ntv;have bd:=sg.ntw;have bq:=sg.nvw;have bN:=sg.nTt;have bR:=sg.nTv;have bn:=sg.nTw;refine⟨_,rfl,_,rfl,_,rfl,ta,_,_,bey l m,rfl,rfl,fh.ht,nX (by rw[Hi];omega),?_⟩
  refine⟨_,rfl,_,rfl,_,rfl,va,_,_,bey l m,rfl,rfl,by rw[aq (Ne.symm bU)];exact fh.hv,nX (by rw[Hi];omega),?_⟩
  have cp:(upd (upd H0 ta (.lst ((TL.map oV).set (bey l m) (.int (x+l.2.2))))) va (.lst ((VL.map oN).set (bey l m) (.int (k:Int))))) wd=some (.dK (W.map kw)):=by rw[aq (Ne.symm bq),aq (Ne.symm bd)];exact fh.hw
  have wl:=fh.wlen;refine⟨_,rfl,_,rfl,wd,_,rfl,DPut.k (k:=.inl ((bey l m:Nat):Int)) (v:=.bl true) cp (by rw[Hi];exact aw ∅),?_⟩
  obtain⟨W',eW,cf,mW⟩:=put_kw (t:=bey l m) fh.nd;rw[eW];have e1:(TL.map oV).set (bey l m) (.int (x+l.2.2))=(TL.set (bey l m) (some (x+l.2.2))).map oV:=by rw[List.map_set];rfl
  have e2:(VL.map oN).set (bey l m) (.int (k:Int))=(VL.set (bey l m) (some k)).map oN:=by rw[List.map_set];rfl
  rw[e1,e2];have cs:=fh.fi.mend (W':=W') D hm O ho ae mW (BI j);have cv:=CC fh.fi ck.1 ck.2 O ho ae;have nm:bey l m≠m:=λe=>by
   rw[e,O]at ho
   cases ho
   have:=ae x rfl;omega
  refine kn _ _ ⟨_,_,_,_,_,W',rfl,⟨((fh.kp.upd (.inr (.inl rfl)) _).upd (.inr (.inr (.inl rfl))) _).upd (.inr (.inr (.inr rfl))) _,?_,?_,ag,?_,cs,cf⟩,⟨x,by rw[rS ∅,NB nm];exact O⟩,.inr (by rcases bp with d | d<;>omega)⟩
  .rw[aq bd,aq bU];exact ag
  .rw[aq bq];exact ag
  .refine nu fh.tb λb L=>?_;rw[aq (λz=>?_),aq (λz=>?_),aq (λz=>?_)]
   .rcases L with L | ⟨c',L⟩
    .exact bN (z▸L)
    .rw[z,fh.ht]at L;cases L
   .rcases L with L | ⟨c',L⟩
    .exact bR (z▸L)
    .rw[z,fh.hv]at L;cases L
   .rcases L with L | ⟨c',L⟩
    .exact bn (z▸L)
    .rw[z,fh.hw]at L;cases L
 case restf =>
  obtain⟨aa,ta,va,wd,xs,ys,rows,H1,v8,v9,aA,TL,VL,W,m,l0,sg,rfl,fh,⟨x,O⟩,b0,kn⟩:=h0;have mn:m<n:=by rw[← fh.fi.tl];exact(Hg.mp O).1
  have rl:=sg.am.len;obtain⟨row,a2⟩:∃ row,rows[m]?=some row:=⟨_,Hf ∅⟩
  obtain⟨pr,r1,r2,r3⟩:=sg.rx.2 _ _ a2;have hR:=fh.kp _ _ sg.naa sg.hR;have ct:=fh.kp _ _ r2 r3;have al:=sg.am.few row (Hh a2);refine⟨_,rfl,_,rfl,aa,_,_,_,rfl,rfl,SqL.of hR,aC r1,pr,rfl,⟨_,SqL.of ct⟩,cu (K:=K) (xs:=row.map iV) (InI la aa ta va wd TT n aL ls row m (wgt (n*MM+1) TL) l0 H1) ⟨_,_,_,TL,VL,W,rfl,⟨fh.kp,fh.ht,fh.hv,fh.hw,fh.tb,fh.fi.exw λr i l _ _ z=>⟨z,by rw[K6];exact λy=>nomatch y⟩,fh.nd⟩,⟨x,O⟩,.inl ⟨rfl,b0⟩⟩ (λi Y H2 _ z=>?_) ?_ ?_⟩
  .obtain⟨_,_,_,_,_,_,_,f2,_⟩:=z;exact SqL.of (f2.kp _ _ r2 r3)
  .rintro i y Y H2 hy ⟨v8,v9,aA,be,bW,W2,rfl,f2,⟨x2,bi⟩,bp⟩;rw[Hr]at hy;obtain⟨k,j,rfl⟩:=HF.mp hy;obtain⟨l,D,aS⟩:=(sg.am.mm m row a2 k).mp (Hh j);obtain⟨lv,cb,a7⟩:=sg.hL.2 k l D;obtain⟨lt,rfl,cd⟩:=a7;have ce:=f2.kp _ _ (sg.tt _ _ cd) cd;have cl:=f2.kp _ _ sg.nla sg.hA;obtain⟨b1,b2⟩:=sg.ok.sm l (Hh D);have tt:bey l m<n:=bey_lt b1 b2;have cw:=f2.fi.tl;obtain⟨o,ho⟩:∃ o,be[bey l m]?=some o:=⟨_,Hf ∅⟩
   refine⟨_,rfl,_,rfl,la,_,_,_,rfl,rfl,SqL.of cl,aC cb,_,rfl,.ref lt,l,m,rfl,⟨lt,rfl,ce⟩,?_⟩;refine⟨_,rfl,_,rfl,ta,_,_,_,rfl,rfl,SqL.of f2.ht,aC (vj bi),_,rfl,_,rfl,la,_,_,_,rfl,rfl,SqL.of cl,aC cb,lt,_,2,_,rfl,rfl,SqT.of ce,a32,_,_,rfl,rfl,?_⟩;refine⟨_,rfl,_,rfl,ta,_,_,_,rfl,rfl,SqL.of f2.ht,aC (vj ho),rfl,_,rfl,?_⟩
   cases o with
   |none =>
    refine iteT (iteT ?_);exact⟨aa,ta,va,wd,xs,ys,rows,H1,be,bW,W2,m,wgt (n*MM+1) TL,l0,i,k,row,l,x2,none,sg,rfl,f2,D,aS,bi,ho,(λy e=>nomatch e),j,bp,λap H' z=>z⟩
   |some y0 =>
    refine iteF ?_;refine⟨_,rfl,_,rfl,_,rfl,ta,_,_,_,rfl,rfl,SqL.of f2.ht,aC (vj ho),_,_,rfl,rfl,_,rfl,?_⟩;refine ite2 (λc=>?_) (λc=>?_)
    .have c':x2+l.2.2<y0:=Np c
     exact⟨aa,ta,va,wd,xs,ys,rows,H1,be,bW,W2,m,wgt (n*MM+1) TL,l0,i,k,row,l,x2,some y0,sg,rfl,f2,D,aS,bi,ho,(λy e=>by cases e;exact c'),j,bp,λap H' z=>z⟩
    .have c':¬ x2+l.2.2<y0:=λz=>c (MJ z)
     exact⟨_,_,_,be,bW,W2,rfl,⟨f2.kp,f2.ht,f2.hv,f2.hw,f2.tb,f2.fi.leave D bi ho ∅ (BI j),f2.nd⟩,⟨x2,bi⟩,bp⟩
  .rintro Y H2 ⟨v8,v9,aA,be,bW,W2,rfl,f2,_,bp⟩
   have an:FH ta va wd TT n aL ls H1 be bW W2 (λ_ _=>False) H2:=⟨f2.kp,f2.ht,f2.hv,f2.hw,f2.tb,f2.fi.exw λr i l D aS ⟨z1,z2⟩=>by
    subst z1;rw[Hi,HL]at z2
    exact z2 ((sg.am.mm r row a2 i).mpr ⟨l,D,aS⟩),f2.nd⟩
   refine kn _ _ ⟨_,_,_,_,be,bW,W2,rfl,an⟩ ?_;rw[an.mes];have wl:=an.wlen;rcases bp with⟨d1,d2⟩ | d
   .rw[d1];omega
   .have M:(wgt (n*MM+1) be+1)*(n+1)<=wgt (n*MM+1) TL*(n+1):=K3 _ d
    rw[Nat.add_mul,Nat.one_mul]at M;omega
 refine⟨_,rfl,_,rfl,.ref la,n,ls,rfl,⟨la,xs,rfl,hA,hL⟩,ok,λaa ys rows Ha sa cn co rx am=>?_⟩;refine⟨_,rfl,_,rfl,∅,∅,cj (n:=(n:Int).toNat) (λi zs H2=>H2=Ha/\zs=Hw i V.non) (by rw[Hn];exact HJ (aw ∅)) ⟨rfl,rfl⟩ ?_ ?_⟩
 .rintro i zs H2 g ⟨rfl,rfl⟩;exact⟨rfl,by rw[JR]⟩
 rintro zs H2 _ ⟨rfl,rfl⟩ ta aT;rw[Hn];have z1:=ak aT (.lst (Hw n V.non));refine⟨_,rfl,_,rfl,∅,∅,cj (n:=(n:Int).toNat) (λi zs H3=>H3=upd H2 ta (.lst (Hw n V.non))/\zs=Hw i V.non) (by rw[Hn];exact HJ (aw ∅)) ⟨rfl,rfl⟩ ?_ ?_⟩
 .rintro i zs H3 g ⟨rfl,rfl⟩;exact⟨rfl,by rw[JR]⟩
 rintro zs H3 _ ⟨rfl,rfl⟩ va a0;rw[Hn];have bU:ta≠va:=λz=>by rw[← z,ag]at a0;cases a0
 have z2:=ak a0 (.lst (Hw n V.non));refine⟨_,rfl,_,rfl,ta,_,_,aL,rfl,rfl,by rw[aq bU];exact ag,nX (by rw[Jr];exact hs),?_⟩
 intro wd cc;refine⟨_,rfl,ag,[kw aL],rfl,(by show 1<=15;decide),?_⟩
 have bd:ta≠wd:=λz=>by rw[← z,ag]at cc;cases cc
 have b6:H2 va=none:=eu z1 a0;have ca:(upd (upd H2 ta (.lst (Hw n V.non))) va (.lst (Hw n V.non))) wd=none:=by rw[aq (Ne.symm bd)]at cc;exact cc
 have bq:va≠wd:=λz=>by rw[← z,ag]at ca;cases ca
 have bB:H2 wd=none:=eu (z1.trans z2) ca;have cg:H TT≠none:=by rcases a6 with y | ⟨_,y,_⟩<;>rw[y]<;>simp
 have aI:H2 TT≠none:=by
  cases y:H TT with
  |none=>exact NC y cg
  |some o=>rw[sa _ _ y];simp
 have bN:ta≠TT:=λz=>aI (z▸aT);have bR:va≠TT:=λz=>aI (z▸b6);have bn:wd≠TT:=λz=>aI (z▸bB);have ba:Same H2 (upd (upd (upd (upd (upd H2 ta (.lst (Hw n V.non))) va (.lst (Hw n V.non))) ta (.lst ((Hw n V.non).set aL (.int 0)))) wd (.dK [])) wd (.dK (fL [] [kw aL]))):=aK (aK (aK (z1.trans z2) aT _) bB _) bB _;have eT:((Hw n V.non).set aL (.int 0))=((Hw n (none:Option Int)).set aL (some 0)).map oV:=by rw[List.map_set,List.map_replicate];rfl
 have eV:(Hw n V.non)=(Hw n (none:Option Nat)).map oN:=by rw[List.map_replicate];rfl
 have g1:(upd (upd (upd (upd (upd H2 ta (.lst (Hw n V.non))) va (.lst (Hw n V.non))) ta (.lst ((Hw n V.non).set aL (.int 0)))) wd (.dK [])) wd (.dK (fL [] [kw aL]))) ta=some (.lst (((Hw n (none:Option Int)).set aL (some 0)).map oV)):=by
  rw[aq bd,aq bd,← eT];exact ag
 have g2:(upd (upd (upd (upd (upd H2 ta (.lst (Hw n V.non))) va (.lst (Hw n V.non))) ta (.lst ((Hw n V.non).set aL (.int 0)))) wd (.dK [])) wd (.dK (fL [] [kw aL]))) va=some (.lst ((Hw n (none:Option Nat)).map oN)):=by
  rw[aq bq,aq bq,aq (Ne.symm bU),← eV];exact ag
 have g3:(upd (upd (upd (upd (upd H2 ta (.lst (Hw n V.non))) va (.lst (Hw n V.non))) ta (.lst ((Hw n V.non).set aL (.int 0)))) wd (.dK [])) wd (.dK (fL [] [kw aL]))) wd=some (.dK ([aL].map kw)):=ag;generalize (upd (upd (upd (upd (upd H2 ta (.lst (Hw n V.non))) va (.lst (Hw n V.non))) ta (.lst ((Hw n V.non).set aL (.int 0)))) wd (.dK [])) wd (.dK (fL [] [kw aL])))=H1 at ba g1 g2 g3;have sH:Same H H1:=sa.trans ba;have nS:∀ b,H2 b≠none->b≠TT->¬ sF ta va wd TT b:=λb L nT z=>by
  rcases z with z | z | z | z
  .exact nT z
  .exact L (z▸aT)
  .exact L (z▸b6)
  .exact L (z▸bB)
 have sg:Sg la aa ta va wd TT n aL ls xs ys rows H1:=⟨sH _ _ hA,hL.imp λ_ _ q=>q.mono sH,ok,ba _ _ co,⟨rx.1,λi l e=>by
   obtain⟨p,p1,p2,p3⟩:=rx.2 i l e;exact⟨p,p1,nS p (by rw[p3];simp) (λz=>p2 (.inr (z▸cg))),ba _ _ p3⟩⟩,am,nS la (by rw[sa _ _ hA];simp) (λz=>by rcases a6 with y | ⟨_,y,_⟩<;>rw[← z,hA]at y<;>cases y),nS aa (by rw[co];simp) (λz=>cg (z▸cn)),(λt o e z=>by
   rcases z with z | z | z | z
   .rw[z]at e;rcases a6 with y | ⟨_,y,_⟩<;>rw[sH _ _ y]at e<;>cases e
   .rw[z,g1]at e;cases e
   .rw[z,g2]at e;cases e
   .rw[z,g3]at e;cases e),bU,bd,bq,bN,bR,bn⟩
 have ch:Tb lqF lpF TT H1:=by
  rcases a6 with y | ⟨c',y1,y2⟩
  .exact .inl (sH _ _ y)
  .exact .inr ⟨c',sH _ _ y1,sH _ _ y2⟩
 refine eQ (FrI la aa ta va wd TT n aL ls H1) (λ_ H'=>mesH n ta wd H') ⟨_,_,_,_,_,_,[aL],rfl,⟨λ_ _ _ e=>e,g1,g2,g3,ch,FI.first ok.w0 hs,Hy.mpr ⟨(by simp),Jd⟩⟩⟩ ?_ ?_
 .rintro Y H3 ⟨v7,v8,v9,aA,TL,VL,W,rfl,fh⟩;refine⟨_,rfl,λp B=>?_⟩;have bv:=fh.new B (.dK []);refine⟨wd,p,W.map kw,rfl,rfl,bv.hw,ag,_,rfl,?_⟩;refine ite2 (λc=>?_) (λc=>?_)
  .have ne:W.map kw≠[]:=λz=>by rw[z]at c;cases c
   refine⟨_,rfl,wd,W.map kw,ta,_,rfl,bv.hw,ne,rfl,bv.ht,bv.tb,λkv ci=>?_,λkv ci H4 bm a5=>?_⟩
   .obtain⟨r,u,rfl⟩:=Ie.mp ci;obtain⟨x,O⟩:=bv.fi.wk r u;exact⟨r,x,rfl,vj O⟩
   obtain⟨r,u,rfl⟩:=Ie.mp ci;have a3:=bv.tab bN bR bn bm a5;obtain⟨x,O⟩:=a3.fi.wk r u;refine⟨_,rfl,wd,rfl,.inl ⟨_,.inl a3.hw⟩,_,rfl,W.map kw,.inl (r:Int),.bl true,a3.hw,rfl,zM u,?_⟩;rw[wu];have mW:∀ y,y∈W.filter (λx=>decide (x≠r))↔y∈W/\y≠r:=λy=>by rw[Jv];simp
   have lW:(W.filter (λx=>decide (x≠r))).length<W.length:=by
    refine Nat.lt_of_le_of_ne (Jc _ _) λz=>?_;have:=List.filter_eq_self.mp (List.Sublist.eq_of_length (List.filter_sublist ..) z) r u;simp at this
   refine⟨aa,ta,va,wd,xs,ys,rows,H1,_,_,_,TL,VL,_,r,W.length,sg,rfl,⟨a3.kp.upd (.inr (.inr (.inr rfl))) _,by rw[aq bd];exact a3.ht,by rw[aq bq];exact a3.hv,ag,nu a3.tb λb L=>aq λz=>?_,a3.fi.take mW,a3.nd.filter _⟩,⟨x,O⟩,lW,λap H' y1 y2=>⟨y1,by rw[fh.mes];exact y2⟩⟩
   rcases L with L | ⟨c',L⟩
   .exact bn (z▸L)
   .rw[z,a3.hw]at L;cases L
  .have e0:W = []:=by
    cases W with
    |nil=>rfl
    |cons a b=>exact NC rfl c
   subst e0;refine⟨_,rfl,_,rfl,(by show 2<=LZ;decide),λt ht=>?_⟩
   have a3:=bv.new ht (.tup [.ref ta,.ref va]);refine kk t ta va TL VL _ (λb o nb e=>?_) a3.tb (eu sa aT) (eu sa b6) ag a3.ht a3.hv a3.fi;exact a3.kp _ _ (nS b (by rw[sa _ _ e];simp) nb) (sH _ _ e)
 .rintro Y H4 Q1 Q2 g ⟨v1,e1,h⟩;refine⟨v1,e1,λp B=>?_⟩;obtain⟨a,b,ac,q1,q2,q3,q4,c',q5,q6⟩:=h p B;exact⟨a,b,ac,q1,q2,q3,q4,c',q5,g _ _ q6⟩
theorem andN(a b:Nat):Mu (a:Int) (b:Int)=((a&&&b:Nat):Int):=by
 rw[Nz (IH _) (IH _),Hn,Hn]
theorem shlN(p:Nat):(1:Int)*2^((p:Nat):Int).toNat=((2^p:Nat):Int):=by
 rw[Int.one_mul,Hn,Int.natCast_pow];rfl
theorem xa(m n:Nat):(m^^^n)+2*(m&&&n)=m+n:=by
 have h:=PyProof.Rows.nat_or_add_and m n;have J:(m|||n)=(m^^^n)+(m&&&n):=by
  have e:(m^^^n)+(m&&&n)=(m^^^n)|||(m&&&n):=by
   have q:=PyProof.Rows.nat_or_add_and (m^^^n) (m&&&n);have z:(m^^^n)&&&(m&&&n)=0:=by
    apply IB;intro i;simp only[JL,IP,IS]
    cases m.testBit i<;>cases n.testBit i<;>rfl
   omega
  rw[e];apply IB;intro i;simp only[JL,IP,JJ]
  cases m.testBit i<;>cases n.testBit i<;>rfl
 omega
theorem xorN(a b:Nat):Mw (a:Int) (b:Int)=((a^^^b:Nat):Int):=by
 rw[PyProof.Rows.bitXor_and,andN];have q:=xa a b;omega
def bl(c:Nat):List Nat:=K2.bitsF 0 c
theorem Cp(c:Nat):(bl c).Pairwise (· < ·):=K2.bitsF_sorted c c 0 (Hl _)
theorem bl_nd(c:Nat):(bl c).Nodup:=K2.nodup_of_lt (Cp c)
theorem mem_bl{c x:Nat}:x∈bl c↔c.testBit x=true:=by
 have e:K2.S (K2.bitsF 0 c)=c:=by
  have:=K2.bitsF_sum c c 0 (Hl _);rw[this,Nat.pow_zero,Nat.mul_one]
 have b:=K2.S_bit (bl_nd c) x;unfold bl at b ⊢;rw[e]at b;rw[b,decide_eq_true_iff]
theorem oP{c x:Nat}(h:c<2^m)(O:x∈bl c):x<m:=by
 have:=K2.bitsF_lt m c 0 h x O;omega
theorem Co:bl 0 = []:=K2.bitsF_zero 0
def cut2(c f t:Nat):Nat:=c^^^2^f^^^2^t
theorem nh{c f t:Nat}(a:f∈bl c)(J:t∈bl c)(n:f≠t)(x:Nat):x∈bl (cut2 c f t)↔x∈bl c/\x≠f/\x≠t:=by
 rw[mem_bl]at a J;rw[mem_bl,mem_bl];unfold cut2;rw[IP,IP,Ib,Ib];by_cases c1:x=f
 .subst c1;rw[a];simp[Ne.symm n]
 .by_cases c2:x=t
  .subst c2;rw[J];simp[n]
  .have b:¬ f=x:=λz=>c1 z.symm
   have d:¬ t=x:=λz=>c2 z.symm;simp[c1,c2,b,d]
theorem B6{c f t:Nat}{rest:List Nat}(e:bl c=f::rest)(N:t∈rest):(bl (cut2 c f t)).Perm (rest.erase t):=by
 have Q:=bl_nd c;rw[e]at Q;obtain⟨E,C⟩:=Hy.mp Q;have T:f≠t:=λz=>E (z▸N);refine(Jx (bl_nd _) (C.erase _)).mpr λx=>?_;rw[nh (by rw[e];exact Hu ..) (by rw[e];exact Hq _ N) T,e,C.mem_erase_iff,Hs]
 constructor
 .rintro⟨M | M,J,i⟩
  .exact NC M J
  .exact⟨i,M⟩
 .rintro⟨M,J⟩;exact⟨.inr J,λz=>E (z▸J),M⟩
theorem GU{c f t:Nat}(h:c<2^m)(a:f<m)(J:t<m):cut2 c f t<2^m :=
 Jg (Jg h (Ir (by decide) a)) (Ir (by decide) J)
def Opt(D:Nat->Nat->Int)(l:List Nat)(t:Int):Prop:=Cs D l t/\∀ c,Cs D l c->t<=c
theorem Opt.nil{D:Nat->Nat->Int}:Opt D [] 0:=by
 refine⟨⟨[],.refl _,rfl⟩,λc h=>?_⟩;obtain⟨j,p,e⟩:=h
 cases j with
 |nil=>rw[← e];exact Jo _
 |cons q r=>have:=p.length_eq;cases this
def BtAt(H:Hp)(v:V)(D:Nat->Nat->Int)(m:Nat):Prop:=∃ a M,v=.ref a/\H a=some (.lst M)/\∀ i,i<m->∃ p N,M[i]?=some (.ref p)/\H p=some (.lst N)/\∀ k,k<m->N[k]?=some (.int (D i k))
def zG(H:Hp)(v:V)(t:Int):Prop:=∃ a y z,v=.ref a/\H a=some (.tup [.int t,y,z])
def Ent(H:Hp)(D:Nat->Nat->Int)(m:Nat)(kvs:List (Key×V))(c:Nat)(v:V):Prop:=c<2^m/\((c=0/\zG H v 0)∨∃(t:Int)(f g:Nat)(a:Addr)(n:V),v=.ref a/\H a=some (.tup [.int t,.int (f:Int),.int (g:Int)])/\f∈bl c/\g∈bl c/\f≠g/\valV kvs (.inl ((cut2 c f g:Nat):Int))=some n)
structure TI(H:Hp)(D:Nat->Nat->Int)(m:Nat)(kvs:List (Key×V)):Prop where
 en:∀ k v,valV kvs k=some v->∃ c:Nat,k=.inl (c:Int)/\Ent H D m kvs c v
 z:∃ v,valV kvs (.inl ((0:Nat):Int))=some v
 nd:(kvs.map (·.1)).Nodup
def Grw(kvs b:List (Key×V))(n:Nat):Prop:=(∀ k v,valV kvs k=some v->valV b k=some v)/\∀ c:Nat,valV kvs (.inl (c:Int))=none->valV b (.inl (c:Int))≠none->(bl c).length<=n
def Tps(H H':Hp):Prop:=∀ a D,H a=some (.tup D)->H' a=some (.tup D)
theorem zG.mono{t:Int}(h:zG H v t)(s:Tps H H'):zG H' v t:=by
 obtain⟨a,y,z,e,q⟩:=h;exact⟨a,y,z,e,s _ _ q⟩
theorem Ent.cost{c:Nat}(h:Ent H D m kvs c v):∃ t,zG H v t:=by
 obtain⟨_,⟨rfl,h⟩ | ⟨t,f,g,a,n,G,E,_⟩⟩:=h
 .exact⟨0,h⟩
 .exact⟨t,a,_,_,G,E⟩
theorem Ent.mono{H H':Hp}{D:Nat->Nat->Int}{m c:Nat}{kvs b:List (Key×V)}{v:V}(h:Ent H D m kvs c v)(s:Tps H H')(g:∀ k v,valV kvs k=some v->valV b k=some v):Ent H' D m b c v:=by
 obtain⟨x,⟨e,h⟩ | ⟨t,f,j,a,n,G,E,B,L,d,i⟩⟩:=h
 .exact⟨x,.inl ⟨e,h.mono s⟩⟩
 .exact⟨x,.inr ⟨t,f,j,a,n,G,s _ _ E,B,L,d,g _ _ i⟩⟩
theorem TI.mono{H H':Hp}{D:Nat->Nat->Int}{m:Nat}{kvs:List (Key×V)}(h:TI H D m kvs)(s:Tps H H'):TI H' D m kvs:=⟨λk v e=>by
 obtain⟨C,G,E⟩:=h.en k v e
 exact⟨C,G,E.mono s λ_ _ z=>z⟩,h.z,h.nd⟩
theorem TrA.mono{t:T3}(h:TrA H v t)(s:Tps H H'):TrA H' v t:=by
 obtain⟨a,e,q⟩:=h;exact⟨a,e,s _ _ q⟩
theorem TbS.tps(s:TbS tb H H')(J:H tb=some (.dK kvs)):Tps H H':=λa D q=>s _ _ (λw=>by rw[w,J]at q;cases q) q
theorem BtAt.mono(h:BtAt H v D m)(J:H tb=some (.dK kvs))(s:TbS tb H H'):BtAt H' v D m:=by
 obtain⟨a,M,e,q,r⟩:=h;refine⟨a,M,e,s _ _ (λw=>by rw[w,J]at q;cases q) q,λi d=>?_⟩
 obtain⟨p,N,o,g,f⟩:=r i d;exact⟨p,N,o,s _ _ (λw=>by rw[w,J]at g;cases g) g,f⟩
theorem sQ{α c:Type}{f:α->c}:∀{l:List α},l.Nodup->(∀ a∈l,∀ b∈l,f a=f b->a=b)->(l.map f).Nodup
 |[],_,_=>Jd
 |x::l,Q,h=>by
  obtain⟨E,C⟩:=Hy.mp Q;rw[HR];refine Hy.mpr ⟨λz=>?_,sQ C λa A b L=>h a (Hq _ A) b (Hq _ L)⟩;obtain⟨y,G,e⟩:=Ie.mp z;exact E (h x (Hu ..) y (Hq _ G) e.symm▸G)
theorem TI.len(h:TI H D m kvs)(N:m<=14):kvs.length<LZ:=by
 have Y:∀ k∈kvs.map (·.1),∃ c:Nat,k=Sum.inl (c:Int)/\c<2^m:=λk C=>by
  cases p:valV kvs k with
  |none=>exact NC C (xq p)
  |some v =>
   obtain⟨c,e,q⟩:=h.en k v p;exact⟨c,e,q.1⟩
 have j:((kvs.map (·.1)).map λk:Key=>match k with | .inl i=>i.toNat | .inr _=>0).Nodup:=by
  refine sQ h.nd λa A b L e=>?_;obtain⟨c1,rfl,_⟩:=Y a A;obtain⟨c2,rfl,_⟩:=Y b L;have l:c1=c2:=by simpa using e
  rw[l]
 have Q:=kH (2^m) _ j λx O=>by
  obtain⟨k,C,rfl⟩:=Ie.mp O;obtain⟨c,rfl,f⟩:=Y k C;simpa using f
 rw[Hi,Hi]at Q;have:2^m<=2^14:=Im (by decide) N
 have d:(2:Nat)^14=16384:=by decide
 have:=PySem.sizeLine_eq;omega
inductive restR(tb:Addr)(bv:V)(c m:Nat)(D:Nat->Nat->Int)(kvs:List (Key×V))(H0:Hp)(Q:VK)(D0:L2.Ends)(σ:L2.St)(H:L2.Hp):Prop
 |mk (v4 v5 v6 v7 v8:Option V)(kvs':List (Key×V))(v:V) (h0_:σ = [some bv,some (.int (c:Int)),some (.ref tb),v4,v5,v6,v7,v8])(h1_:TbS tb H0 H)(h2_:H tb=some (.dK kvs'))(h3_:TI H D m kvs')(h4_:Grw kvs kvs' (bl c).length)(h5_:valV kvs' (.inl (c:Int))=some v)(h6_:∀ x H',Q x H'->D0.rt x H')
def LpI(k:V)(tb r wa:Addr)(c f m:Nat)(D:Nat->Nat->Int)(kvs:List (Key×V))(rest:List Nat)(Hb:Hp)(i:Nat)(σ:St)(H:Hp):Prop:=∃(d h:Option V)(a:List (Key×V))(J:List T3)(M:List V),σ = [some k,some (.int (c:Int)),some (.ref tb),some (.ref r),some (.int (f:Int)),some (.ref wa),d,h]/\(∀ b o,b≠tb->b≠wa->Hb b=some o->H b=some o)/\H tb=some (.dK a)/\TI H D m a/\Grw kvs a (rest.length-1)/\H wa=some (.lst M)/\LsAt TrA H M J/\J.length=i /\
 ∀(e t:Nat),(rest.take i)[e]?=some t->∃(g:Int)(n:V),J[e]?=some (D f t+g,(f:Int),(t:Int))/\valV a (.inl ((cut2 c f t:Nat):Int))=some n
inductive spLaid(D:Nat->Nat->Int)(m j:Nat)(vs:List L2.V)(H:L2.Hp)(Q:L2.VK)(x3_:L2.XK):Prop
 |mk (bv:V)(tb:Addr)(c:Nat)(kvs:List (Key×V)) (h0_:vs = [bv,.int (c:Int),.ref tb])(h1_:BtAt H bv D m)(h2_:H tb=some (.dK kvs))(h3_:TI H D m kvs)(h4_:c<2^m)(h5_:m<=14)(h6_:(bl c).length<2*j)(h7_:(bl c).length%2=0)(h8_:∀ v t kvs' H',TbS tb H H'->H' tb=some (.dK kvs')->TI H' D m kvs'->Grw kvs kvs' (bl c).length->valV kvs' (.inl (c:Int))=some v->zG H' v t->Q v H')
theorem bz:ay ["between","chosen","table","numbers","first","ways","mate","rest"] ["between","chosen","table"] (ar b7):=by ac_nf
theorem Dt (F:Fun K "laid_in_pairs" "laid_in_pairs" b7 f fd) (T:Txt mg) (ae:Cal P w K mg base 1 "bits" ["mask"] lT C G) (ac:Cal P w K mg base (j+2) "laid_in_pairs" ["between","chosen","table"] (spLaid D m j) f fd):FnOk P w K mg base CX0 (j+3) f fd ["between","chosen","table"] (spLaid D m (j+1)):=by
 refine F.ok bz (by walk_at "l") λaa A g s H vs Q E u h=>?_
 obtain⟨bv,tb,c,kvs,rfl,hB,hT,ti,d,bR,len,ev,kk⟩:=h;have hu:=qN u;have aA:=u.units
 refine⟨_,(ah (bF (xK (kG hu (pv 1) (pv 2))) (ah (aB 3 bz.nd (ae.c u (af (pv 1) aj)))
   (ah (aB 4 bz.nd (aR (pv 3) ai))
   (ah (aB 5 bz.nd (bL aj))
   (ah (bw PassesOwn.never rfl (aP (e8 hO (pv 3) (ik ai) iq)) (bY 6 bz.nd) (ah (aB 7 bz.nd (av b8 (av b8 (pv 1) (av bJ ai (pv 4))) (av bJ ai (pv 6))))
   (ao (aU (dB HC HU HS aZ (pv 5) (af (bh (af (av bE (aR (aR (pv 0) (pv 4)) (pv 6)) (aM (ac.c u (af (pv 0) (af (pv 7) (af (pv 2) aj)))) ai)) (af (pv 4) (af (pv 6) aj)))) aj))))))
   (ao (jO hu (pv 2) (pv 1) (az (Cg rfl aA) (by rfl) T.n_min ub (af (pv 5) aj)) rfl)))))) aN)
   (gk (t2:=restR tb bv c m D kvs H Q) (ao (aF (gn hu (pv 2) (pv 1) (λ_ _=>rfl)))) (λD0 S0 H0 h0=>?restr))),?_⟩
 case restr =>
  obtain⟨v4,v5,v6,v7,v8,ab,v,rfl,sT,a6,a7,gr,hv,kq⟩:=h0;obtain⟨c',e,en⟩:=a7.en _ v hv;have ec:c'=c:=by
   have:((c:Nat):Int)=(c':Int):=by injection e
   omega
  subst ec;obtain⟨t,M⟩:=en.cost;refine⟨_,rfl,_,rfl,tb,v,rfl,by have:=DGet.k (k:=.inl ((c':Nat):Int)) a6;rw[hv]at this;exact this,?_⟩
  exact kq _ _ (kk v t ab H0 sT a6 a7 gr hv M)
 refine⟨_,rfl,_,rfl,tb,_,rfl,DGet.k (k:=.inl ((c:Nat):Int)) hT,_,rfl,?_⟩
 cases hv:valV kvs (.inl ((c:Nat):Int)) with
 |some v =>
  exact iteF ⟨_,_,_,_,_,kvs,v,rfl,(λ_ _ _ e=>e),hT,ti,⟨λ_ _ z=>z,λc' z1 z2=>NC z1 z2⟩,hv,λ_ _ z=>z⟩
 |none =>
  refine iteT ?_;have c0:c≠0:=λz=>by
   subst z;obtain⟨v0,bn⟩:=ti.z;rw[hv]at bn;cases bn
  obtain⟨f,rest,a0⟩:∃ f rest,bl c=f::rest:=by
   cases q:bl c with
   |cons f rest=>exact⟨f,rest,rfl⟩
   |nil =>
    refine NC (IB λi=>?_) c0;rw[IS]
    cases z:c.testBit i with
    |false=>rfl
    |true =>
     have:=mem_bl.mpr z;rw[q]at this;cases this
  have nd:=bl_nd c;rw[a0]at nd;obtain⟨nf,bb⟩:=Hy.mp nd;have a3:(bl c).length=rest.length+1:=by rw[a0,HD]
  have flt:f<m:=oP d (by rw[a0];exact Hu ..)
  have cv:∀ t∈rest,t<m:=λt I=>oP d (by rw[a0];exact Hq _ I)
  have rm:rest.length+1<=m:=by
   rw[← a3];exact kH m _ (bl_nd c) λx O=>oP d O
  have dc:c<16384:=by
   have:2^m<=2^14:=Im (by decide) bR
   have ct:(2:Nat)^14=16384:=by decide
   omega
  refine⟨_,rfl,(c:Int),rfl,∅,∅,λr n l a2 aI=>?_⟩
  have cw:(K2.bitsF 0 ((c:Nat):Int).toNat).map iV=iV f::rest.map iV:=by
   rw[Hn];show(bl c).map iV=_;rw[a0,HR]
  rw[cw]at aI;refine⟨_,rfl,r,_,0,_,rfl,rfl,SqL.of aI,(show atI (iV f::rest.map iV) ((0:Nat):Int)=some (iV f) from aC rfl),?_⟩;refine⟨(by show 0<=LZ;decide),λwa b0=>?_⟩
  have s2:=ak b0 (.lst []);refine⟨_,rfl,_,rfl,r,_,rfl,SqL.of (s2 _ _ aI),λsl bp=>?_⟩;have b6:cutV (iV f::rest.map iV) (some 1) none=rest.map iV:=by
   have J:HT.sIx (iV f::rest.map iV).length 0 (some ((1:Nat):Int))=1:=by rw[HT.sIx_nat,HD,Hi];omega
   unfold cutV;rw[show(some (1:Int))=some ((1:Nat):Int) from rfl,J,HT.sIx_none,List.drop_succ_cons,LJ,HD];exact IX ∅
  rw[b6];have s3:=ak bp (.lst (rest.map iV));have an:Same H (upd (upd n wa (.lst [])) sl (.lst (rest.map iV))):=l.trans (s2.trans s3);have ca:wa≠sl:=λz=>by rw[← z,ag]at bp;cases bp
  have g1:(upd (upd n wa (.lst [])) sl (.lst (rest.map iV))) wa=some (.lst []):=by rw[aq ca];exact ag
  have g2:=ag (H:=upd n wa (.lst [])) (a:=sl) (o:=.lst (rest.map iV));have bq:H wa=none:=eu l b0;generalize (upd (upd n wa (.lst [])) sl (.lst (rest.map iV)))=Hb at an g1 g2;have cb:=an _ _ hT;have cd:wa≠tb:=λz=>by rw[z,hT]at bq;cases bq
  have ce:sl≠tb:=λz=>by rw[z,cb]at g2;cases g2
  have cD:TbS tb H Hb:=λb o _ e=>an _ _ e;have cO:TI Hb D m kvs:=ti.mono λa xs q=>an _ _ q;have dd:BtAt Hb bv D m:=hB.mono hT cD;refine⟨sl,rfl,⟨_,SqL.of g2⟩,cu (K:=K) (xs:=rest.map iV) (LpI bv tb r wa c f m D kvs rest Hb) ⟨_,_,kvs,[],[],rfl,λ_ _ _ _ e=>e,cb,cO,⟨λ_ _ z=>z,λc' z1 z2=>NC z1 z2⟩,g1,LsAt.nil,rfl,λaT t e=>by simp at e⟩ (λi Y N _ ap=>by obtain⟨_,_,_,_,_,_,z,_⟩:=ap;exact SqL.of (z _ _ ce (Ne.symm ca) g2)) ?_ ?_⟩
  .rintro i x Y N O ⟨v7,v8,al,ws,L,rfl,k2,am,bd,be,a4,hL,wl,done⟩;rw[Hr]at O;obtain⟨t,I,rfl⟩:=HF.mp O;have tm:=Hh I;have tl:=cv t tm;have bU:f≠t:=λz=>nf (z▸tm);have cp:=B6 a0 tm;have cl:(bl (cut2 c f t)).length+1=rest.length:=by
    rw[cp.length_eq,KH tm];have:=IM tm;omega
   refine⟨_,rfl,_,rfl,_,_,rfl,rfl,⟨by show(0:Int)<=(f:Int);omega,by show(f:Int)<=1000000;omega,by decide⟩,_,_,rfl,rfl,_,rfl,_,_,rfl,rfl,⟨by show(0:Int)<=(t:Int);omega,by show(t:Int)<=1000000;omega,by decide⟩,_,_,rfl,rfl,?_⟩
   have ec:Mw (Mw (c:Int) (1*2^((f:Nat):Int).toNat)) (1*2^((t:Nat):Int).toNat)=((cut2 c f t:Nat):Int):=by rw[shlN,shlN,xorN,xorN];rfl
   simp only[ec];have yl:=hL.1;have upL:∀ b zs,H b=some (.lst zs)->N b=some (.lst zs):=λb zs q=>k2 b _ (λz=>by rw[z,hT]at q;cases q) (λz=>by rw[z,bq]at q;cases q) (an _ _ q)
   obtain⟨ba,zs,rfl,cf,rr⟩:=id hB
   have cT:BtAt N (.ref ba) D m:=⟨ba,zs,rfl,upL _ _ cf,λi' aS=>by
    obtain⟨p,xs,r1,r2,r3⟩:=rr i' aS
    exact⟨p,xs,r1,upL _ _ r2,r3⟩⟩
   obtain⟨p,xs,r1,r2,r3⟩:=rr f flt;refine⟨_,rfl,.inl ⟨rfl,_,SqL.of a4⟩,_,rfl,_,rfl,ba,_,_,_,rfl,rfl,SqL.of (upL _ _ cf),aC r1,_,rfl,p,_,_,_,rfl,rfl,SqL.of (upL _ _ r2),aC (r3 t tl),_,rfl,_,rfl,_,rfl,.ref ba,tb,cut2 c f t,al,rfl,cT,am,bd,GU d flt tl,bR,∅,∅,λv tr cg H3 bW cX cY bX bm cZ=>?_⟩
   obtain⟨va,y,z,rfl,aL⟩:=id cZ;refine⟨va,_,0,_,rfl,rfl,SqT.of aL,a30,_,_,rfl,rfl,_,rfl,_,rfl,(by show 3<=LZ;decide),λt3 aV=>?_⟩
   have s4:=ak aV (.tup [.int (D f t+tr),.int (f:Int),.int (t:Int)]);have bi:H3 wa=some (.lst L):=bW _ _ cd a4;have df:i<rest.length:=(Hg.mp I).1;refine⟨wa,L,_,rfl,rfl,s4 _ _ bi,aw ∅,?_⟩
   have ch:Tps N H3:=TbS.tps bW am;have bB:Tps H3 (upd (upd H3 t3 (.tup [.int (D f t+tr),.int (f:Int),.int (t:Int)])) wa (.lst (L++[.ref t3]))):=λa xs q=>by
    rw[aq (λz=>by rw[z,bi]at q;cases q)]
    exact s4 _ _ q
   have cn:Tps N (upd (upd H3 t3 (.tup [.int (D f t+tr),.int (f:Int),.int (t:Int)])) wa (.lst (L++[.ref t3]))):=λa xs q=>bB _ _ (ch _ _ q);have c6:t3≠wa:=λz=>by rw[z,bi]at aV;cases aV
   refine⟨_,_,cg,ws++[(D f t+tr,(f:Int),(t:Int))],L++[.ref t3],rfl,λb o n1 n2 e=>?_,?_,cY.mono bB,⟨λk v z=>bX.1 _ _ (be.1 _ _ z),λc' y1 y2=>?_⟩,ag,?_,by rw[Hk,wl];rfl,λaT t' e=>?_⟩
   .rw[aq n2];exact s4 _ _ (bW _ _ n1 (k2 b o n1 n2 e))
   .rw[aq (Ne.symm cd)];exact s4 _ _ cX
   .cases q2:valV al (.inl (c':Int)) with
    |none=>have:=bX.2 c' q2 y2;omega
    |some v'=>exact be.2 c' y1 (by rw[q2];simp)
   .exact(hL.imp λ_ _ q=>TrA.mono q cn).snoc ⟨t3,rfl,by rw[aq c6];exact ag⟩
   .have a1:(rest.take i).length=i:=by rw[HW];omega
    rw[HH,I]at e;by_cases ci:aT<i
    .rw[Ho ∅]at e
     obtain⟨c7,vr,d1,d3⟩:=done aT t' e;exact⟨c7,vr,by rw[Ho ∅];exact d1,bX.1 _ _ d3⟩
    .rw[Hm ∅]at e
     have h5:=(Hg.mp e).1;have h6:aT=i:=by
      have:(Option.toList (some t)).length=1:=rfl;omega
     subst h6;rw[a1,HQ]at e
     cases e
     exact⟨tr,.ref va,by rw[Hm ∅,wl,HQ];rfl,bm⟩
  .rintro Y N ⟨v7,v8,al,ws,L,rfl,k2,am,bd,be,a4,hL,wl,done⟩;rw[Hi]at wl done;rw[HL]at done;have rp:1<=rest.length:=by omega
   have da:ws≠[]:=λz=>by rw[z]at wl;simp at wl;omega
   refine⟨_,rfl,wa,L,ws,rfl,SqL.of a4,hL,da,λaT y t3 hy aV db=>?_⟩;have il:aT<rest.length:=by rw[← wl];exact(Hg.mp aV).1
   obtain⟨t,et⟩:∃ t,rest[aT]?=some t:=⟨_,Hf il⟩;have tm:=Hh et;obtain⟨tr,vr,d1,d3⟩:=done aT t et;rw[aV]at d1
   cases d1
   obtain⟨w',co,a,rfl,ha⟩:=hL.get hy;rw[aV]at co
   cases co
   have bU:f≠t:=λz=>nf (z▸tm);have fb:f∈bl c:=by rw[a0];exact Hu ..
   have cs:t∈bl c:=by rw[a0];exact Hq _ tm
   have bN:valV al (.inl ((c:Nat):Int))=none:=by
    cases q2:valV al (.inl ((c:Nat):Int)) with
    |none=>rfl
    |some v'=>have:=be.2 c hv (by rw[q2];simp);omega
   have cne:((cut2 c f t:Nat):Int)≠(c:Int):=λz=>by
    have z':cut2 c f t=c:=by omega
    have:=(nh fb cs bU f).mp (by rw[z'];exact fb)
    exact this.2.1 rfl
   have a5:∀ k v,valV al k=some v->valV (putK al (.inl ((c:Nat):Int)) (.ref a)) k=some v:=λk v e=>by
    rw[eX,NB (λz=>by rw[z,bN]at e;cases e)]
    exact e
   refine⟨_,rfl,_,rfl,tb,_,rfl,DPut.k (k:=.inl ((c:Nat):Int)) (v:=.ref a) am (bd.len bR),?_⟩;have tp:Tps N (upd N tb (.dK (putK al (.inl ((c:Nat):Int)) (.ref a)))):=λb xs q=>by
    rw[aq (λz=>by rw[z,am]at q;cases q)]
    exact q
   refine⟨_,_,_,_,_,putK al (.inl ((c:Nat):Int)) (.ref a),.ref a,rfl,λb o n1 e=>?_,ag,⟨λk v e=>?_,?_,F8 _ bd.nd bN⟩,⟨λk v e=>a5 _ _ (be.1 _ _ e),λc' y1 y2=>?_⟩,by rw[eX,NA rfl],λ_ _ z=>z⟩
   .rw[aq n1];exact k2 b o n1 (λz=>by rw[z,bq]at e;cases e) (an _ _ e)
   .rw[eX]at e;by_cases ck:k=.inl ((c:Nat):Int)
    .rw[NA ck]at e
     cases e
     exact⟨c,ck,d,.inr ⟨D f t+tr,f,t,a,vr,rfl,tp _ _ ha,fb,cs,bU,a5 _ _ d3⟩⟩
    .rw[NB ck]at e;obtain⟨c',J,B⟩:=bd.en k v e;exact⟨c',J,B.mono tp a5⟩
   .obtain⟨v0,bn⟩:=bd.z;exact⟨v0,a5 _ _ bn⟩
   .by_cases cc:c'=c
    .rw[cc];exact Hl _
    .rw[eX,NB (λz=>cc (by have:(c':Int)=(c:Int):=(by injection z);omega))]at y2
     have:=be.2 c' y1 y2;omega
theorem ok_laid{f u:Addr}{fd e:FuncData}{D:Nat->Nat->Int}{m:Nat} (F:Fun K "laid_in_pairs" "laid_in_pairs" b7 f fd) (T:Txt mg) (b:Cal P w K mg base 1 "bits" ["mask"] lT u e) (i:fJ K fd ["between","chosen","table"] []) (N:mg "laid_in_pairs" = some (.ref f)) (d:Iv K (.ref f)=true):∀ j,FnOk P w K mg base CX0 (j+2) f fd ["between","chosen","table"] (spLaid D m j)
 |0=>⟨λl H Q E h=>by
   obtain⟨k,a,c,v,_,_,_,_,_,_,z,_⟩:=h;omega,λA g s H x L l Q E _ _ _ _ h=>by
   obtain⟨k,a,c,v,_,_,_,_,_,_,z,_⟩:=h
   omega⟩
 |j+1=>Dt F T b ⟨ok_laid F T b i N d j,i,N,d⟩
theorem Dx{r:Nat}{o:Option Nat}(h:O[r]?=some o):(O.map oN)[r]?=some (oN o):=by rw[Hr,h];rfl
theorem FI.even{s:Nat}(I:FI n ls s M T O [] (λ_ _=>False)){r k:Nat}(h:O[r]?=some (some k)):∃(l:Lk)(x y:Int),ls[k]?=some l/\mB l r/\T[r]?=some (some x)/\T[bey l r]?=some (some y)/\y+l.2.2=x:=by
 obtain⟨l,x,y,G,E,B,L,d⟩:=I.pr r k h;rcases I.rl (bey l r) y k l L (by simp) G (rE E)with j | ⟨Q,j,v⟩
 .exact j.elim
 .rw[oz E,B]at j;cases j;exact⟨l,x,y,G,E,B,L,∅⟩
inductive Pth(ls:List Lk)(vv:List (Option Nat))(s:Nat):Nat->List Nat->Prop where
 |root:Pth ls vv s s []
 |step {r k:Nat} {l:Lk} {ks:List Nat} (hv:vv[r]?=some (some k)) (hl:ls[k]?=some l) (h:Pth ls vv s (bey l r) ks):Pth ls vv s r (k::ks)
theorem Up.path{s r:Nat}(h:Up ls O s j r):∃ ks,Pth ls O s r ks/\ks.length=j:=by
 induction h with
 |root=>exact⟨[],.root,rfl⟩
 |step k D _ Y =>
  obtain⟨ks,p,e⟩:=Y;exact⟨_::ks,.step k D p,by rw[HD,e]⟩
theorem Pth.up{s r:Nat}{ks:List Nat}(h:Pth ls O s r ks):Up ls O s ks.length r:=by
 induction h with
 |root=>exact .root
 |step p D _ Y=>exact .step p D Y
def lkA(ls:List Lk)(k:Nat):Lk:=ls.getD k (0,0,0)
theorem lkA_is{k:Nat}{l:Lk}(h:ls[k]?=some l):lkA ls k=l:=by unfold lkA;rw[Hz,h];rfl
def endX(l:Lk):Nat:=2^l.1^^^2^l.2.1
def oddE(ls:List Lk)(u:Nat):Nat->Nat
 |0=>0
 |i+1=>if u.testBit i=true then oddE ls u i^^^endX (lkA ls i) else oddE ls u i
def cstU(ls:List Lk)(u:Nat):Nat->Int
 |0=>0
 |i+1=>if u.testBit i=true then cstU ls u i+(lkA ls i).2.2 else cstU ls u i
theorem pF(x a:Nat):(bl (x^^^2^a)).Perm (tog (bl x) a):=by
 refine(Jx (bl_nd _) (tog_nd (bl_nd x) a)).mpr λy=>?_;rw[Ga (bl_nd x),mem_bl,IP,Ib,mem_bl,mem_bl];by_cases c:y=a
 .subst c
  cases x.testBit y<;>simp
 .have C:¬ a=y:=λz=>c z.symm
  cases x.testBit y<;>simp[c,C]
theorem low_join{n:Nat}{d:Nat->Nat->Int}(M:Met n d){ls:List Lk}(u:Nat)(hl:∀ l∈ls,l.1<n/\l.2.1<n/\d l.1 l.2.1<=l.2.2):∀ i,i<=ls.length->oddE ls u i<2^n/\∃ c,Cs d (bl (oddE ls u i)) c/\c<=cstU ls u i
 |0,_=>⟨IG n,0,by show Cs d (bl 0) 0;rw[Co];exact Opt.nil.1,Jo _⟩
 |i+1,h=>by
  obtain⟨g,c,J,f⟩:=low_join M u hl i ∅
  unfold oddE cstU;by_cases b:u.testBit i=true
  .rw[NA b,NA b];obtain⟨l,e⟩:∃ l,ls[i]?=some l:=⟨_,Hf ∅⟩
   obtain⟨j,Q,q⟩:=hl l (Hh e);rw[lkA_is e];have o:oddE ls u i^^^endX l=oddE ls u i^^^2^l.1^^^2^l.2.1:=by unfold endX;rw[IJ]
   rw[o];refine⟨Jg (Jg g (Ir (by decide) j)) (Ir (by decide) Q),?_⟩
   obtain⟨C,v,k⟩:=J.two M (bl_nd _) (λx O=>oP g O) j Q;refine⟨C,v.perm ?_,∅⟩
   exact((pF _ _).trans (xt (pF _ _) _)).symm
  .rw[NB b,NB b];exact⟨g,c,J,f⟩
theorem qy(ls:List Lk)(u v:Nat):∀ i,oddE ls (u^^^v) i=oddE ls u i^^^oddE ls v i
 |0=>(Kj 0).symm
 |i+1=>by
  unfold oddE;rw[qy ls u v i,IP];have c:∀ a b e:Nat,(a^^^e)^^^(b^^^e)=a^^^b:=λa b e=>by rw[Kv b e,← IJ,IJ a e e,Kj,Lq]
  cases u.testBit i<;>cases v.testBit i<;>simp
  .rw[IJ]
  .rw[IJ,IJ,Kv (oddE ls v i)]
  .exact(c _ _ _).symm
inductive Wk(ls:List Lk):Nat->Nat->Int->Prop where
 |nil (a:Nat):Wk ls a a 0
 |step {a b i:Nat} {x:Int} {l:Lk} (h:Wk ls a b x) (hl:ls[i]?=some l) (he:mB l b):Wk ls a (bey l b) (x+l.2.2)
theorem Wk.trans{a b c:Nat}{x y:Int}(h:Wk ls a b x)(g:Wk ls b c y):Wk ls a c (x+y):=by
 induction g with
 |nil=>rw[Int.add_zero];exact h
 |step _ D T Y =>
  rw[← Int.add_assoc];exact .step Y D T
theorem Wk.link{a:Nat}{l:Lk}(hl:ls[i]?=some l)(T:mB l a):Wk ls a (bey l a) l.2.2:=by
 have:=Wk.step (.nil a) hl T;rw[IF]at this;exact this
theorem Wk.rev{a b:Nat}{x:Int}(h:Wk ls a b x):Wk ls b a x:=by
 induction h with
 |nil=>exact .nil _
 | @step b i x l h D T Y =>
  have g:=Wk.link D (rE T);rw[oz T]at g;rw[Int.add_comm];exact g.trans Y
theorem Wk.nn(hw:∀ l∈ls,0<=l.2.2){a b:Nat}{x:Int}(h:Wk ls a b x):0<=x:=by
 induction h with
 |nil=>exact Jo _
 |step _ D _ Y=>have:=hw _ (Hh D);omega
theorem Wk.rel{s:Nat}(I:FI n ls s M T O [] (λ_ _=>False)){a b:Nat}{x:Int}(h:Wk ls a b x):∀ y,T[a]?=some (some y)->∃ z,T[b]?=some (some z)/\z<=y+x:=by
 induction h with
 |nil=>intro y G;exact⟨y,G,∅⟩
 | @step b i x l h D t Y =>
  intro y G;obtain⟨z,g,J⟩:=Y y G;rcases I.rl b z i l g (by simp) D t with q | ⟨c,f,C⟩
  .exact q.elim
  .exact⟨c,f,∅⟩
theorem Up.wk{s:Nat}(I:FI n ls s M T O [] (λ_ _=>False)){r:Nat}(h:Up ls O s j r):∀ x,T[r]?=some (some x)->Wk ls s r x:=by
 induction h with
 |root=>intro x v;rw[I.st]at v;cases v;exact .nil _
 | @step j r k l p D h Y =>
  intro x v;obtain⟨c,Q,y,G,E,B,L,d⟩:=I.even p;rw[D]at G;cases G;rw[v]at B;cases B;have g:=Wk.step (Y y L) D (rE E);rw[oz E,d]at g;exact g
theorem vx{P:Nat->Prop}(h:∃ n,P n):∃ n,P n/\∀ m,P m->n<=m:=by
 obtain⟨n,g⟩:=h;induction n using LA with
 |ind n Y =>
  by_cases c:∃ m,m<n/\P m
  .obtain⟨m,M,J⟩:=c;exact Y m M J
  .exact⟨n,g,λm N=>Kk λz=>c ⟨m,z,N⟩⟩
open Classical in
noncomputable def farD (ls:List Lk) (a b:Nat):Int:=if h:∃ x:Nat,Wk ls a b (x:Int) then((Classical.choose (vx h):Nat):Int) else 0
theorem kY(hw:∀ l∈ls,0<=l.2.2){a b:Nat}{x:Int}(h:Wk ls a b x):Wk ls a b (farD ls a b)/\∀ y,Wk ls a b y->farD ls a b<=y:=by
 have j:=h.nn hw;have o:∃ x:Nat,Wk ls a b (x:Int):=⟨x.toNat,by rw[Jn j];exact h⟩
 have e:farD ls a b=((Classical.choose (vx o):Nat):Int):=by unfold farD;rw[dif_pos o]
 obtain⟨c1,c2⟩:=K0 (vx o);rw[e];refine⟨c1,λy G=>?_⟩;have c:=G.nn hw;have:=c2 y.toNat (by rw[Jn c];exact G)
 omega
theorem far_sy(ls:List Lk)(a b:Nat):farD ls a b=farD ls b a:=by
 have e:∀ x:Nat,Wk ls a b (x:Int)=Wk ls b a (x:Int):=λx=>propext ⟨Wk.rev,Wk.rev⟩;have E:(λx:Nat=>Wk ls a b (x:Int))=λx:Nat=>Wk ls b a (x:Int):=funext e;unfold farD;by_cases h:∃ x:Nat,Wk ls a b (x:Int)
 .have M:∃ x:Nat,Wk ls b a (x:Int):=h.imp λx z=>z.rev
  rw[dif_pos h,dif_pos M];have c1:=K0 (vx h);have c2:=K0 (vx M);have j:=c1.2 _ c2.1.rev;have Q:=c2.2 _ c1.1.rev;omega
 .have M:¬ ∃ x:Nat,Wk ls b a (x:Int):=λz=>h (z.imp λx y=>y.rev)
  rw[dif_neg h,dif_neg M]
def Conn(n:Nat)(ls:List Lk):Prop:=∀ b,b<n->∃ x,Wk ls 0 b x
theorem Conn.two(h:Conn n ls){a b:Nat}(A:a<n)(L:b<n):∃ x,Wk ls a b x:=by
 obtain⟨x,O⟩:=h a A;obtain⟨y,G⟩:=h b L;exact⟨_,O.rev.trans G⟩
theorem far_met(hw:∀ l∈ls,0<=l.2.2)(f:Conn n ls):Met n (farD ls) where
 sy:=far_sy ls
 nn:=λa b=>by
  unfold farD;split
  .omega
  .exact Jo _
 tr:=λa b c A L d=>by
  obtain⟨x,O⟩:=f.two A L;obtain⟨y,G⟩:=f.two L d;exact(kY hw (O.trans G)).2 _ ((kY hw O).1.trans (kY hw G).1)
theorem far_link(hw:∀ l∈ls,0<=l.2.2){l:Lk}(hl:l∈ls):farD ls l.1 l.2.1<=l.2.2:=by
 obtain⟨i,d,e⟩:=IK hl;have g:=Wk.link (ls:=ls) (i:=i) (l:=l) (a:=l.1) (by rw[Hf d,e]) (.inl rfl)
 have b1:bey l l.1=l.2.1:=by unfold bey;rw[NA rfl]
 rw[b1]at g;exact(kY hw g).2 _ g
theorem FI.is{s:Nat}(I:FI n ls s M T O [] (λ_ _=>False))(f:Conn n ls)(y:s<n){r:Nat}(G:r<n):T[r]?=some (some (farD ls s r)):=by
 have C:∀ l∈ls,0<=l.2.2:=λl D=>(I.w0 l D).1;obtain⟨x,v⟩:=f.two y G;obtain⟨z,g,J⟩:=v.rel I 0 I.st;obtain⟨j,u⟩:=I.up r z g;have b:=u.wk I z g;obtain⟨t,A⟩:=kY C v;obtain⟨c,i,a⟩:=t.rel I 0 I.st;rw[g]at i;cases i;have:=A z b;have e:z=farD ls s r:=by omega
 rw[← e];exact g
def jn(ks:List Nat):Nat:=ks.foldl (λm k=>m|||2^k) 0
theorem iC(ks:List Nat)(i:Nat):(jn ks).testBit i=decide (i∈ks):=by
 have d:∀(ks:List Nat)(m:Nat),(ks.foldl (λm k=>m|||2^k) m).testBit i=(m.testBit i||decide (i∈ks)):=by
  intro ks;induction ks with
  |nil=>intro m;simp
  |cons k ks Y =>
   intro m;rw[KY,Y,JJ,Ib];by_cases c:k=i
   .subst c;simp
   .have C:¬ i=k:=λz=>c z.symm
    simp[c,C]
 unfold jn;rw[d];simp
theorem xU(ls:List Lk)(k:Nat):∀ i,oddE ls (2^k) i=if k<i then endX (lkA ls k) else 0
 |0=>by rw[NB (IY _)];rfl
 |i+1=>by
  unfold oddE;rw[xU ls k i,Ib];by_cases c:k=i
  .subst c;rw[NA (by simp),NB (Iz _),NA (Ik _),Nat.zero_xor]
  .rw[NB (by simpa using c)]
   by_cases d:k<i
   .rw[NA d,NA ∅]
   .rw[NB d,NB ∅]
theorem nO(ls:List Lk):∀ i,oddE ls 0 i=0
 |0=>rfl
 |i+1=>by unfold oddE;rw[IS,NB HG];exact nO ls i
theorem Pth.node{s r:Nat}{ks:List Nat}(h:Pth ls O s r ks):∀ k∈ks,∃ q j,O[q]?=some (some k)/\Up ls O s j q/\j<=ks.length:=by
 induction h with
 |root=>intro k C;cases C
 | @step r k l ks p D h Y =>
  intro n C;rcases Hs.mp C with rfl | C
  .exact⟨r,_,p,.step p D h.up,Hl _⟩
  .obtain⟨q,j,M,J,f⟩:=Y n C;exact⟨q,j,M,J,by rw[HD];omega⟩
theorem Pth.join{s:Nat}(I:FI n ls s M T O [] (λ_ _=>False)){r:Nat}{ks:List Nat}(h:Pth ls O s r ks) :
  (∀ k∈ks,k<ls.length)/\oddE ls (jn ks) ls.length=2^s^^^2^r:=by
 induction h with
 |root =>
  refine⟨(λk C=>nomatch C),?_⟩;show oddE ls 0 ls.length=_;rw[nO,Kj]
 | @step r k l ks p D h Y =>
  obtain⟨a,g⟩:=Y;obtain⟨N,x,y,G,E,f,L,e5⟩:=I.even p;rw[D]at G;cases G;have o:k<ls.length:=(Hg.mp D).1;have me:Up ls O s (ks.length+1) r:=.step p D h.up;have nk:k∉ks:=λz=>by
   obtain⟨q,j,v,b,t⟩:=h.node k z;obtain⟨d,_,_,u,A,_⟩:=I.pr q k v;rw[D]at u;cases u;have H:q≠r:=λw=>by
    subst w;have:=Up.uniq I.vs me b;omega
   have e:bey l q=r:=by
    unfold bey;rcases A with B | B<;>rcases E with Q | Q
    .exact NC (B.trans Q.symm) H
    .rw[NA B];exact Q.symm
    .rw[NB (λw=>H (w.trans Q.symm))];exact Q.symm
    .exact NC (B.trans Q.symm) H
   have:Up ls O s (ks.length+1+1) q:=.step v D (by rw[e];exact me)
   have:=Up.uniq I.vs this b;omega
  have em:jn (k::ks)=jn ks^^^2^k:=IB λi=>by
   rw[iC,IP,iC,Ib];by_cases c:i=k
   .subst c;simp[nk]
   .have J:¬ k=i:=λz=>c z.symm
    simp[c,J]
  rw[em];refine⟨λm C=>?_,?_⟩
  .rcases Hs.mp C with rfl | C
   .exact o
   .exact a m C
  .rw[qy,g,xU,NA o,lkA_is D];have ee:endX l=2^bey l r^^^2^r:=by
    unfold endX bey;rcases E with z | z
    .rw[NA z,z,Kv]
    .by_cases w:r=l.1
     .rw[NA w,w,Kv]
     .rw[NB w,z]
   rw[ee,← IJ,IJ (2^s),Kj,Lq]
def wo(l:Lk):Nat:=2^l.1|||2^l.2.1
def one1(m:Nat)(l:Lk):Nat:=if m&&&wo l=0 then m else m|||wo l
def cS(ls:List Lk)(m:Nat):Nat:=ls.foldl one1 m
inductive Run(ls:List Lk):Nat->Nat->Nat->Prop where
 |stop {m:Nat}:Run ls m m m
 |go {m a r:Nat} (h:m≠a) (n:Run ls (cS ls m) m r):Run ls m a r
theorem AL(m:Nat)(l:Lk):m<=one1 m l:=by
 unfold one1;split
 .exact Hl _
 .exact Nat.left_le_or
theorem AK{l:Lk}(h:m<2^n)(M:l.1<n)(h2:l.2.1<n):one1 m l<2^n:=by
 unfold one1 wo;split
 .exact h
 .exact KG h (KG (Ir (by decide) M) (Ir (by decide) h2))
theorem sG{l:Lk}(h:ls[i]?=some l):cS (ls.take (i+1)) m=one1 (cS (ls.take i) m) l:=by
 unfold cS;rw[HH,h,KJ];rfl
theorem orN(a b:Nat):Mv (a:Int) (b:Int)=((a|||b:Nat):Int):=by
 rw[PyProof.Rows.bitOr_and,andN];have q:=PyProof.Rows.nat_or_add_and a b;omega
theorem endsV(l:Lk):Mv (1*2^((l.1:Nat):Int).toNat) (1*2^((l.2.1:Nat):Int).toNat)=((wo l:Nat):Int):=by rw[shlN,shlN,orN];rfl
def PaAt(H:Hp)(v:V)(l:Lk):Prop:=∃ t,v=.ref t/\H t=some (.tup [.int (l.1:Int),.int (l.2.1:Int)])
theorem ju(a b:Int):decide (V.int a=V.int b)=decide (a=b):=decide_eq_decide.mpr ⟨V.int.inj,congrArg V.int⟩
inductive spReach(vs:List L2.V)(H:L2.Hp)(Q:L2.VK)(x3_:L2.XK):Prop
 |mk (a:Addr)(ys:List V)(n:Nat)(ls:List Lk) (h0_:vs = [.int 0,.ref a])(h1_:H a=some (.lst ys))(h2_:LsAt PaAt H ys ls)(h3_:Lok n ls)(h4_:1<=n)(h5_:∀ r:Nat,Run ls 1 0 r->Q (.int (r:Int)) H)
inductive spWhl(vs:List L2.V)(H:L2.Hp)(Q:L2.VK)(x3_:L2.XK):Prop
 |mk (v:V)(n:Nat)(ls:List Lk) (h0_:vs = [.int (n:Int),v])(h1_:LnAt H v ls)(h2_:Lok n ls)(h3_:1<=n)(h4_:∀(r:Nat) H',Run ls 1 0 r->Same H H'->Q (.bl (decide ((r:Int)=1*2^((n:Nat):Int).toNat-1))) H')
structure TxtR(mg:Str->Option Value):Prop where
 n_list:mg "list" = none
 n_reversed:mg "reversed" = none
theorem cH:ay ["start","pairs","mask","ahead","one","two","ends"] ["start","pairs"] (ar ko):=by ac_nf
def mRz(n:Nat)(σ:St):Nat:=match σ with | [_,_,some (.int M),some (.int a),_,_,_]=>2*((2^n:Nat)-M).toNat+(if M=a then 0 else 1) | _=>0
theorem ok_reached (F:Fun K "reached" "reached" ko f fd):FnOk P w K mg base CX0 1 f fd ["start","pairs"] spReach:=by
 refine F.ok cH (by walk_at "l") λI A g s H v Q E u h=>?_
 obtain⟨a,L,n,T,rfl,hA,hL,ok,n1,k⟩:=h;have ab:=ok.n1
 refine⟨_,(ah (aB 2 cH.nd (av bJ ai (pv 0)))
   (ah (aB 3 cH.nd ai)
   (ah (dU PassesOwn.never (aD jj (pv 2) (pv 3) (aE _)) (ah (aB 3 cH.nd (pv 2))
   (ao (bw PassesOwn.never rfl (aP (pv 1)) (nL rfl (aJ (bY 4 cH.nd) (aJ (bY 5 cH.nd) bT))) (ah (aB 6 cH.nd (av AH (av bJ ai (pv 4)) (av bJ ai (pv 5))))
   (ao (bF (aD jj (av eF (pv 2) (pv 6)) ai (aE _)) (ao (aB 2 cH.nd (av AH (pv 2) (pv 6)))) aN)))))))
   (ao (aF (pv 2)))))),?_⟩
 refine⟨_,rfl,_,_,rfl,rfl,⟨by decide,by decide,by decide⟩,?_⟩
 refine eQ (λY j=>∃(M Ah:Nat),∃ v4 v5 v6,j=H/\Y = [some (.int 0),some (.ref a),some (.int (M:Int)),some (.int (Ah:Int)),v4,v5,v6]/\M<2^n/\∀ r,Run T M Ah r->Run T 1 0 r)
  (λY _=>mRz n Y) ⟨1,0,_,_,_,rfl,rfl,Nat.one_lt_two_pow ∅,λr z=>z⟩ ?_ ?_
 .rintro Y j ⟨M,Ah,v4,v5,v6,rfl,rfl,hM,run⟩;refine⟨_,rfl,_,rfl,rfl,_,rfl,?_⟩;by_cases C:M=Ah
  .subst C;refine tD rfl ?_;exact⟨_,rfl,k M (run M .stop)⟩
  refine ite2 (λc=>?_) (λc=>NC (by rw[ju,LY (λz=>C ∅)];rfl) c)
  refine⟨_,rfl,?_⟩;refine⟨_,rfl,a,rfl,⟨_,SqL.of hA⟩,cu (K:=K) (xs:=L) (λi Y q=>∃ v4 v5 v6,q=j/\Y = [some (.int 0),some (.ref a),some (.int ((cS (T.take i) M:Nat):Int)),some (.int (M:Int)),v4,v5,v6]/\cS (T.take i) M<2^n/\M<=cS (T.take i) M) ⟨_,_,_,rfl,rfl,hM,Hl _⟩ (λi Y q _ aa=>by obtain⟨_,_,_,z,_⟩:=aa;rw[z];exact SqL.of hA) ?_ ?_⟩
  .rintro i x Y q O ⟨v4,v5,v6,rfl,rfl,ae,al⟩;obtain⟨l,D,p,rfl,B⟩:=hL.get O;obtain⟨b1,b2⟩:=ok.sm l (Hh D);refine⟨p,_,rfl,SqT.of B,rfl,_,_,rfl,_,_,rfl,rfl,?_⟩;refine⟨_,rfl,_,_,rfl,rfl,⟨∅,∅,by decide⟩,_,rfl,_,_,rfl,rfl,⟨∅,∅,by decide⟩,_,_,rfl,rfl,?_⟩
   simp only[endsV];refine⟨_,rfl,_,rfl,_,_,rfl,rfl,rfl,_,rfl,?_⟩;have o:=sG (m:=M) D;have ac:=AK ae b1 b2;have am:=AL (cS (T.take i) M) l;simp only[andN];by_cases z:cS (T.take i) M&&&wo l=0
   .refine tD (by rw[z];rfl) ?_
    have e:one1 (cS (T.take i) M) l=cS (T.take i) M:=by unfold one1;rw[NA z]
    exact⟨_,_,_,rfl,by rw[o,e];rfl,by rw[o];exact ac,by rw[o];omega⟩
   .refine ite2 (λ_=>?_) (λc=>NC (by rw[ju,LY (λy=>z ∅)];rfl) c)
    have e:one1 (cS (T.take i) M) l=cS (T.take i) M|||wo l:=by unfold one1;rw[NB z]
    refine⟨_,rfl,_,rfl,_,_,rfl,rfl,?_⟩;simp only[orN];exact⟨_,_,_,rfl,by rw[o,e];rfl,by rw[o];exact ac,by rw[o];omega⟩
  .rintro Y q ⟨v4,v5,v6,rfl,rfl,ae,al⟩;rw[hL.1,HL]at ae al ⊢;refine⟨⟨_,M,_,_,_,rfl,rfl,ae,λr z=>run r (.go C z)⟩,?_⟩;show 2*(((2^n:Nat):Int)-((cS T M:Nat):Int)).toNat+(if((cS T M:Nat):Int)=(M:Int) then 0 else 1)<2*(((2^n:Nat):Int)-(M:Int)).toNat+(if(M:Int)=(Ah:Int) then 0 else 1);rw[NB (show ¬ (M:Int)=(Ah:Int) from λz=>C ∅)]
   generalize (2^n:Nat)=N at hM ae;split<;>omega
 .rintro Y J Q1 Q2 d ⟨v1,G,v2,t,e3,b,e4,q'⟩;exact⟨v1,G,v2,t,e3,b,e4,d _ _ q'⟩
theorem CV:ay ["many","links"] ["many","links"] (ar pW):=by ac_nf
theorem ok_whl (F:Fun K "whole" "whole" pW f fd) (ab:Cal P w K mg base 1 "reached" ["start","pairs"] spReach q G):FnOk P w K mg base CX0 2 f fd ["many","links"] spWhl:=by
 refine F.ok CV (by walk_at "l") λY A g s H d Q E u h=>?_
 obtain⟨v,n,T,rfl,⟨a,xs,rfl,hA,M⟩,ok,j,k⟩:=h;have ac:=ok.n1;have l9:=ok.l9;have xl:=M.1;refine⟨_,(ao (aF (cE cq (ab.c u (af ai (af (cR [] ["link"] (aP (pv 1)) pg_c pt_c (λC b s H=>(bh (af (gZ K (pv 0) ai) (af (gZ K (pv 0) ai) aj))))) aj))) (av dM (av bJ ai (pv 0)) ai) (aE _)))),?_⟩;refine⟨_,rfl,a,rfl,⟨_,SqL.of hA⟩,bg (K:=K) (xs:=xs) (λi o N=>Same H N/\LsAt PaAt N o (T.take i)) (HJ (aw ∅)) ⟨λ_ _ e=>e,LsAt.nil⟩ (λi o N _ z=>SqL.of (z.1 _ _ hA)) ?_ ?_⟩
 .rintro i x o N O ⟨m,hZ⟩;obtain⟨l,I,p,rfl,B⟩:=M.get O;have aa:=m _ _ B;refine⟨_,rfl,p,_,0,_,rfl,rfl,SqT.of aa,a30,_,rfl,p,_,1,_,rfl,rfl,SqT.of aa,a31,(by show 2<=LZ;decide),λt J=>?_⟩
  have L:=ak J (.tup [.int (l.1:Int),.int (l.2.1:Int)]);refine⟨m.trans L,?_⟩;rw[HH,I];exact(hZ.imp λ_ _ ⟨t,e,z⟩=>⟨t,e,L _ _ z⟩).snoc ⟨t,rfl,ag⟩
 rintro o N _ ⟨m,hZ⟩ D y;rw[xl,HL]at hZ;have L:=ak y (.lst o);refine⟨D,o,n,T,rfl,ag,hZ.imp λ_ _ ⟨t,e,z⟩=>⟨t,e,L _ _ z⟩,ok,j,λr run=>?_⟩;refine⟨_,rfl,_,_,rfl,rfl,⟨∅,∅,by decide⟩,_,_,rfl,rfl,rfl,?_⟩
 rw[ju];exact k r _ run (m.trans L)
structure TxtM(mg:Str->Option Value):Prop where
 most:∃ t,mg "MOST_MARKS" = some (.int 14 t)
theorem CG{p q:Nat}:(M&&&(2^p|||2^q)=0↔M.testBit p=false/\M.testBit q=false)/\(M|||(2^p|||2^q)=M->M.testBit p=true/\M.testBit q=true):=by
 have b1:∀ i,(2^p|||2^q).testBit i=(decide (p=i)||decide (q=i)):=λi=>by rw[JJ,Ib,Ib]
 refine⟨⟨λh=>?_,λ⟨g,J⟩=>?_⟩,λh=>?_⟩
 .have g:=congrArg (λz=>La z p) h
  have J:=congrArg (λz=>La z q) h;simp only[JL,b1,IS]at g J;constructor
  .simpa using g
  .simpa using J
 .refine IB λi=>?_;rw[JL,b1,IS];by_cases B:p=i
  .subst B;rw[g];rfl
  .by_cases Q:q=i
   .subst Q;rw[J];rfl
   .simp[B,Q]
 .have g:=congrArg (λz=>La z p) h
  have J:=congrArg (λz=>La z q) h;simp only[JJ (x:=M),b1]at g J;constructor
  .simpa using g.symm
  .simpa using J.symm
theorem Bv(h:M<2^m)(k:∀ p,p<m->M.testBit p=true):M=2^m-1:=by
 refine IB λi=>?_;rw[Kr];by_cases z:i<m
 .rw[k i z,MJ z]
 .rw[LY z];exact Ke (HY h (Im (by decide) ∅))
theorem qx{n:Int}(m:Gl X x)(N:∃ t,X.mg x=some (.int n t)) (hd:(x == ("__debug__" : Str))=false:=by decide):PE X (.Name x pos) (tC (.int n)):=by
 obtain⟨t,h⟩:=N;exact FP m h ⟨t,rfl⟩ hd
theorem lX:∀ i,m<=cS (ls.take i) m/\cS (ls.take i) m<=cS ls m:=λi=>by
 have A:∀(l:List Lk)(m:Nat),m<=cS l m:=λl=>by
  induction l with
  |nil=>intro m;exact Hl _
  |cons x l Y=>intro m;exact Io (AL m x) (Y _)
 refine⟨A _ _,?_⟩;have e:cS ls m=cS (ls.drop i) (cS (ls.take i) m):=by
  unfold cS;rw[← KJ,JM]
 rw[e];exact A _ _
theorem w4{r:Nat}(h:cS ls r=r){l:Lk}(hl:l∈ls):r.testBit l.1=r.testBit l.2.1:=by
 obtain⟨i,d,e⟩:=IK hl;have j:ls[i]?=some l:=by rw[Hf d,e]
 have C:=lX (ls:=ls) (m:=r) i;have t:=lX (ls:=ls) (m:=r) (i+1);have G:cS (ls.take i) r=r:=by omega
 have E:cS (ls.take (i+1)) r=r:=by omega
 rw[sG j,G]at E;obtain⟨b1,b2⟩:=CG (M:=r) (p:=l.1) (q:=l.2.1);unfold one1 wo at E;split at E
 .rename_i c;obtain⟨B,Q⟩:=b1.mp c;rw[B,Q]
 .obtain⟨B,Q⟩:=b2 E;rw[B,Q]
theorem Run.shut{a r:Nat}(h:Run ls m a r)(hl:∀ l∈ls,l.1<n/\l.2.1<n):(m=a->cS ls m=m)->m<2^n->cS ls r=r/\r<2^n/\(m.testBit 0=true->r.testBit 0=true):=by
 induction h with
 |stop=>intro M J;exact⟨M rfl,J,id⟩
 | @go m a r h c Y =>
  intro _ J;have lt:∀(k:List Lk),(∀ l∈k,l.1<n/\l.2.1<n)->∀ m,m<2^n->cS k m<2^n:=λk=>by
   induction k with
   |nil=>intro _ m N;exact N
   |cons x k d =>
    intro C m N;obtain⟨b1,b2⟩:=C x (Hu ..);exact d (λl hl=>C l (Hq _ hl)) _ (AK N b1 b2)
  have bit:∀(k:List Lk)(m:Nat),m.testBit 0=true->(cS k m).testBit 0=true:=λk=>by
   induction k with
   |nil=>intro m N;exact N
   |cons x k d =>
    intro m N;refine d _ ?_;unfold one1;split
    .exact N
    .rw[JJ,N];rfl
  obtain⟨v,b,D⟩:=Y (λe=>by rw[e];exact e) (lt ls hl m J)
  exact⟨v,b,λz=>D (bit ls m z)⟩
theorem run_full{r:Nat}(h:Run ls 1 0 r)(hl:∀ l∈ls,l.1<n/\l.2.1<n)(n1:1<=n)(f:Conn n ls):r=2^n-1:=by
 obtain⟨v,k,D⟩:=h.shut hl (λz=>by cases z) (Nat.one_lt_two_pow ∅)
 refine Bv k λp B=>?_;obtain⟨x,O⟩:=f p B;have d:∀{a b:Nat}{x:Int},Wk ls a b x->r.testBit a=r.testBit b:=λh=>by
  induction h with
  |nil=>rfl
  | @step b i x l M C T Y =>
   rw[Y];have G:=w4 v (Hh C);unfold bey;rcases T with z | z
   .rw[NA z,z];exact G
   .by_cases w:b=l.1
    .rw[NA w,w];exact G
    .rw[NB w,z];exact G.symm
 rw[← d O];exact D (by decide)
inductive spOnes(vs:List L2.V)(H:L2.Hp)(Q:L2.VK)(x3_:L2.XK):Prop
 |mk (n:Nat) (h0_:vs = [.int (n:Int)])(h1_:n<2^40)(h2_:∀ H',Same H H'->Q (.int (((bl n).length:Nat):Int)) H')
inductive Fx(vs:List L2.V)(H:L2.Hp)(Q:L2.VK)(x3_:L2.XK):Prop
 |mk (n:Nat) (h0_:vs = [.int (n:Int)])(h1_:n<2^40)(h2_:∀ H',Same H H'->Q (.int (((bl n).length:Nat)%2:Int)) H')
def lR(K:Hj):Sp:=λl H Q _=>∃(a:Addr)(r:List Nat),l = [.ref a]/\SqL K H a (r.map iV)/\(∀ k∈r,k<80)/\Q (.int ((jn r:Nat):Int)) H
inductive Fw(vs:List L2.V)(H:L2.Hp)(Q:L2.VK)(x3_:L2.XK):Prop
 |mk (v:V)(n mk:Nat)(ls:List Lk) (h0_:vs = [.int (n:Int),v,.int (mk:Int)])(h1_:LnAt H v ls)(h2_:Lok n ls)(h3_:1<=n)(h4_:Conn n ls)(h5_:mk<2^n)(h6_:(bl mk).length%2=0)(h7_:(bl mk).length<=14)(h8_:∀ H',Same H H'->Q .non H')
theorem FE:ay ["mask"] ["mask"] (ar xG):=by ac_nf
theorem ok_ones (F:Fun K "ones" "ones" xG f fd) (T:Txt mg) (b:Cal P w K mg base 1 "bits" ["mask"] lT a G):FnOk P w K mg base CX0 2 f fd ["mask"] spOnes:=by
 refine F.ok FE (by walk_at "l") λY A g s H l Q E u h=>?_
 obtain⟨n,rfl,y,k⟩:=h;have e:(2:Nat)^40=1099511627776:=by decide
 refine⟨_,(ao (aF (az ax (by rfl) T.n_len aX (af (b.c u (af (pv 0) aj)) aj)))),?_⟩
 refine⟨_,rfl,_,rfl,∅,∅,λr O j _ d=>?_⟩
 refine⟨r,_,rfl,.inl (SqL.of d),?_⟩;rw[Hi,Hn];exact k _ j
theorem sc_odd:ay ["mask"] ["mask"] (ar C0):=by ac_nf
theorem ok_odd (F:Fun K "odd" "odd" C0 f fd) (x:Cal P w K mg base 2 "ones" ["mask"] spOnes a G):FnOk P w K mg base CX0 3 f fd ["mask"] Fx:=by
 refine F.ok sc_odd (by walk_at "l") λY A g s H l Q E u h=>?_
 obtain⟨n,rfl,T,k⟩:=h;refine⟨_,(ao (aF (av aY (x.c u (af (pv 0) aj)) ai))),?_⟩;exact⟨_,rfl,n,rfl,T,λO j=>⟨_,_,rfl,rfl,(by show(0:Int)<2;decide),k _ j⟩⟩
theorem iR:ay ["places","mask","place"] ["places"] (ar ku):=by ac_nf
theorem ok_mask (F:Fun K "mask_of" "mask_of" ku f fd):FnOk P w K mg base CX0 1 f fd ["places"] (lR K):=by
 refine F.ok iR (by walk_at "l") λI A g s H l Q E u h=>?_
 obtain⟨a,r,rfl,D,b,q⟩:=h
 refine⟨_,(ah (aB 1 iR.nd ai)
   (ah (bw PassesOwn.never rfl (aP (pv 0)) (bY 2 iR.nd) (ao (aB 1 iR.nd (av AH (pv 1) (av bJ ai (pv 2))))))
   (ao (aF (pv 1))))),?_⟩
 refine⟨_,rfl,a,rfl,⟨_,D⟩,cu (K:=K) (xs:=r.map iV) (λi Y N=>∃ v,Y = [some (.ref a),some (.int ((jn (r.take i):Nat):Int)),v]/\N=H) ⟨_,rfl,rfl⟩ (λi Y N _ ⟨_,_,z⟩=>by rw[z];exact D) ?_ ?_⟩
 .rintro i x Y N O ⟨v,rfl,rfl⟩;rw[Hr]at O;obtain⟨k,C,rfl⟩:=HF.mp O;have c:=b k (Hh C);refine⟨_,rfl,_,rfl,_,_,rfl,rfl,⟨by show(0:Int)<=(k:Int);omega,by show(k:Int)<=1000000;omega,by decide⟩,_,_,rfl,rfl,?_⟩
  have e:Mv ((jn (r.take i):Nat):Int) (1*2^((k:Nat):Int).toNat)=((jn (r.take (i+1)):Nat):Int):=by
   rw[shlN,orN];unfold jn;rw[HH,C,KJ];rfl
  simp only[e];exact⟨_,rfl,rfl⟩
 .rintro Y N ⟨v,rfl,rfl⟩;rw[Hi,HL];exact⟨_,rfl,q⟩
theorem nA:ay ["many","links","marks"] ["many","links","marks"] (ar dv):=by ac_nf
theorem ok_ref{I:FuncData} (F:Fun K "refuse_marks" "refuse_marks" dv f fd) (T:TxtM mg) (aa:Cal P w K mg base 3 "odd" ["mask"] Fx a G) (ab:Cal P w K mg base 2 "whole" ["many","links"] spWhl p J) (x:Cal P w K mg base 2 "ones" ["mask"] spOnes C I):FnOk P w K mg base CX0 4 f fd ["many","links","marks"] Fw:=by
 refine F.ok nA (by walk_at "l") λY A g s H l Q E u h=>?_
 obtain⟨v,n,mk,t,rfl,hV,ok,b,y,d,o,q,k⟩:=h;have i:=ok.n1;have D:mk<2^40:=HY d (Im (by decide) i)
 obtain⟨tM,B⟩:=T.most
 refine⟨_,(ah (bF (aD cq (aa.c u (af (pv 2) aj)) ai (aE _)) (ao cC) aN)
   (ah (bF (oY (lU (ab.c u (af (pv 0) (af (pv 1) aj))))) (ao cC) aN)
   (ao (bF (aD vf (x.c u (af (pv 2) aj)) (qx rfl T.most) (aE _)) (ao cC) aN)))),?_⟩
 refine⟨_,rfl,mk,rfl,D,λO j=>?_⟩;refine⟨rfl,_,rfl,ite2 (λz=>NC (V.int.inj (Np z)) ∅) (λ_=>?_)⟩
 refine⟨_,rfl,_,rfl,v,n,t,rfl,hV.mono j,ok,b,λr N run m=>?_⟩;have er:=run_full run ok.sm b y
 have e:decide ((r:Int)=1*2^((n:Nat):Int).toNat-1)=true:=MJ (by
  rw[shlN,er];have:=IG n
  omega)
 rw[e];refine⟨_,rfl,iteF ?_⟩;refine⟨_,rfl,mk,rfl,D,λM L=>?_⟩;refine⟨_,_,rfl,rfl,_,rfl,ite2 (λz=>NC (Np z) (by show ¬ (((bl mk).length:Nat):Int) > 14;omega)) (λ_=>?_)⟩
 exact k _ (j.trans (m.trans L))
inductive spRow(vs:List L2.V)(H:L2.Hp)(Q:L2.VK)(x3_:L2.XK):Prop
 |mk (v:V)(va:Addr)(r s:Nat)(ls:List Lk)(VL:List (Option Nat))(ks:List Nat) (h0_:vs = [v,.ref va,.int (r:Int)])(h1_:LnAt H v ls)(h2_:H va=some (.lst (VL.map oN)))(h3_:VL[s]?=some none)(h4_:Pth ls VL s r ks)(h5_:ks.length<=40)(h6_:∀ q H',Same H H'->H' q=some (.lst (ks.reverse.map iV))->Q (.ref q) H')
theorem ka:ay ["links","via","room","back","here"] ["links","via","room"] (ar mL):=by ac_nf
theorem ok_row (F:Fun K "row_to" "row_to" mL f fd) (T:TxtR mg) (ae:Cal P w K mg base 1 "beyond" ["link","room"] Fz p G):FnOk P w K mg base CX0 2 f fd ["links","via","room"] spRow:=by
 refine F.ok ka (by walk_at "l") λI A g s H t Q E u h=>?_
 obtain⟨v,va,r,s0,ls,VL,J,rfl,⟨a,x,rfl,hA,hL⟩,aa,am,hP,aT,b⟩:=h
 refine⟨_,(ah (aB 3 ka.nd (bL aj))
   (ah (aB 4 ka.nd (pv 2))
   (ah (dU PassesOwn.never (aD FR (aR (pv 1) (pv 4)) oZ (aE _)) (ah (aU (dB HC HU HS aZ (pv 3) (af (aR (pv 1) (pv 4)) aj)))
   (ao (aB 4 ka.nd (ae.c u (af (aR (pv 0) (aR (pv 1) (pv 4))) (af (pv 4) aj)))))))
   (ao (aF (so rfl rfl T.n_list rfl T.n_reversed (pv 3))))))),?_⟩
 refine⟨(by show 0<=LZ;decide),λl D=>?_⟩
 have lv:l≠va:=λz=>by rw[z,aa]at D;cases D
 refine⟨_,rfl,eQ (λY N=>∃(an:Nat)(ab rest:List Nat),Y = [some (.ref a),some (.ref va),some (.int (r:Int)),some (.ref l),some (.int (an:Int))]/\N l=some (.lst (ab.map iV))/\ab++rest=J/\Pth ls VL s0 an rest/\Same H N)
  (λ_ N=>match N l with | some (.lst o)=>100-o.length | _=>0) ⟨r,[],J,rfl,ag,rfl,hP,ak D _⟩ ?_ ?_⟩
 .rintro Y N ⟨an,ab,rest,rfl,B,aL,y,m⟩;have ac:ab.length+rest.length<=40:=by
   have:=congrArg List.length aL;rw[Hk]at this;omega
  have aA:=m _ _ aa
  cases y with
  |root =>
   refine⟨_,rfl,_,rfl,va,_,_,_,rfl,rfl,SqL.of aA,aC (Dx am),rfl,_,rfl,iteF ?_⟩;rw[Kc]at aL;subst aL;refine⟨_,rfl,l,_,rfl,SqL.of B,λq n=>?_⟩;refine b q _ (m.trans (ak n _)) ?_;rw[ag,List.map_reverse]
  | @step _ k lk aS O al ap =>
   obtain⟨aV,aI,lt,rfl,M⟩:=hL.2 k lk al;refine⟨_,rfl,_,rfl,va,_,_,_,rfl,rfl,SqL.of aA,aC (Dx O),rfl,_,rfl,iteT ?_⟩;rw[HD]at ac;refine⟨_,rfl,.inl ⟨rfl,_,SqL.of B⟩,_,rfl,_,rfl,va,_,_,_,rfl,rfl,SqL.of aA,aC (Dx O),l,_,_,rfl,rfl,B,aw (by rw[Hi];omega),?_⟩
   have L:=aK m D (.lst (ab.map iV++[.int (k:Int)]));refine⟨_,rfl,_,rfl,_,rfl,va,_,_,_,rfl,rfl,SqL.of (L _ _ aa),aC (Dx O),a,_,_,_,rfl,rfl,SqL.of (L _ _ hA),aC aI,_,rfl,.ref lt,lk,an,rfl,⟨lt,rfl,L _ _ M⟩,?_⟩;refine⟨⟨bey lk an,ab++[k],aS,rfl,?_,?_,ap,L⟩,?_⟩
   .rw[ag,Hv];rfl
   .rw[Kh];exact aL
   .rw[B];show(match(upd N l (.lst (ab.map iV++[.int (k:Int)]))) l with | some (.lst o)=>100-o.length | _=>0)<100-(ab.map iV).length
    rw[ag];show 100-(ab.map iV++[V.int (k:Int)]).length<100-(ab.map iV).length;rw[Hk,Hi,Ht];omega
 .rintro Y N Q1 Q2 d ⟨v',e,i,j,a',b',C,d',f',g',h',i',j',k',l',q⟩;exact⟨v',e,i,j,a',b',C,d',f',g',h',i',j',k',l',d _ _ q⟩
def RM(f:Nat->Nat)(c:Nat):Nat->Nat
 |0=>0
 |i+1=>if c.testBit i=true then RM f c i^^^2^f i else RM f c i
theorem Cv(f:Nat->Nat)(u v:Nat):∀ i,RM f (u^^^v) i=RM f u i^^^RM f v i
 |0=>(Kj 0).symm
 |i+1=>by
  unfold RM;rw[Cv f u v i,IP];have c:∀ a b e:Nat,(a^^^e)^^^(b^^^e)=a^^^b:=λa b e=>by rw[Kv b e,← IJ,IJ a e e,Kj,Lq]
  cases u.testBit i<;>cases v.testBit i<;>simp
  .rw[IJ]
  .rw[IJ,IJ,Kv (RM f v i)]
  .exact(c _ _ _).symm
theorem Cw(f:Nat->Nat)(k:Nat):∀ i,RM f (2^k) i=if k<i then 2^f k else 0
 |0=>by rw[NB (IY _)];rfl
 |i+1=>by
  unfold RM;rw[Cw f k i,Ib];by_cases c:k=i
  .subst c;rw[NA (by simp),NB (Iz _),NA (Ik _),Nat.zero_xor]
  .rw[NB (by simpa using c)]
   by_cases d:k<i
   .rw[NA d,NA ∅]
   .rw[NB d,NB ∅]
theorem Cu(f:Nat->Nat):∀ i,RM f 0 i=0
 |0=>rfl
 |i+1=>by unfold RM;rw[IS,NB HG];exact Cu f i
theorem Cy{l:List Nat}(nd:l.Nodup)(x:Nat):∀ i,i<=l.length->(RM (λi=>l.getD i 0) (2^l.length-1) i).testBit x=decide (x∈l.take i)
 |0,_=>by rw[K6];show(0:Nat).testBit x=_;rw[IS];simp
 |i+1,h=>by
  unfold RM;rw[NA (by rw[Kr];exact MJ ∅),IP,Cy nd x i ∅,Ib]
  have e:l[i]?=some l[i]:=Hf ∅
  have b:l.getD i 0=l[i]:=by rw[Hz,e];rfl
  rw[b];have I:l[i]∉l.take i:=λz=>by
   obtain⟨k,C,B⟩:=IK z;rw[HW]at C;rw[List.getElem_take]at B;have:=(List.getElem_inj nd).mp B;omega
  have a:x∈l.take (i+1)↔(x∈l.take i∨x=l[i]):=by
   rw[HH,e];exact Hx.trans (or_congr Iff.rfl HB)
  by_cases c:x=l[i]
  .rw[LY (λz=>I (c▸z)),MJ c.symm,MJ (a.mpr (.inr c))];rfl
  .rw[LY (show ¬ l[i]=x from λz=>c z.symm),JU];exact decide_eq_decide.mpr ⟨λh=>a.mpr (.inl h),λh=>(a.mp h).resolve_right c⟩
theorem RM_all(mk:Nat):RM (λi=>(bl mk).getD i 0) (2^(bl mk).length-1) (bl mk).length=mk:=IB λx=>by
 rw[Cy (bl_nd mk) x _ (Hl _),HL]
 cases z:mk.testBit x with
 |true=>exact MJ (mem_bl.mpr z)
 |false=>exact LY λy=>by rw[mem_bl,z]at y;cases y
theorem B7{c f g:Nat}(a:f∈bl c)(m:g∈bl c)(n:f≠g):cut2 c f g<c:=by
 have sub:cut2 c f g&&&c=cut2 c f g:=IB λi=>by
  rw[JL]
  cases z:(cut2 c f g).testBit i with
  |false=>rfl
  |true =>
   have:=(nh a m n i).mp (mem_bl.mpr z);rw[mem_bl.mp this.1];rfl
 have A:cut2 c f g<=c:=by rw[← sub];exact Lr
 have ne:cut2 c f g≠c:=λz=>by
  have:=(nh a m n f).mp (by rw[z];exact a)
  exact this.2.1 rfl
 omega
theorem Cq(m:Nat):(bl (2^m-1)).Perm (IC m):=by
 refine(Jx (bl_nd _) (List.nodup_range)).mpr λx=>?_;rw[mem_bl,Kr,Je,decide_eq_true_iff]
inductive pO(vs:List L2.V)(H:L2.Hp)(Q:L2.VK)(x3_:L2.XK):Prop
 |mk (ta r:Addr)(xs vals:List V)(ks:List Nat) (h0_:vs = [.ref ta,.ref r])(h1_:H ta=some (.lst xs))(h2_:H r=some (.lst (ks.map iV)))(h3_:vals.length=ks.length)(h4_:ks.length<=900)(h5_:(∀(i k:Nat),ks[i]?=some k->∃ y,xs[k]?=some y/\vals[i]?=some y))(h6_:∀ q H',Same H H'->H q=none->H' q=some (.lst vals)->Q (.ref q) H')
def uz:Sp:=λl H Q _=>l = []/\∀ p t C,Same H C->H p=none->C p=some (.dK [(.inl ((0:Nat):Int),.ref t)])->C t=some (.tup [.int 0,.non,.non])->Q (.ref p) C
theorem rZ:ay ["entries","numbers"] ["entries","numbers"] (ar gf):=by ac_nf
theorem ok_chosen (F:Fun K "chosen_of" "chosen_of" gf f fd):FnOk P w K mg base CX0 1 f fd ["entries","numbers"] pO:=by
 refine F.ok rZ (by walk_at "l") λY A g s H l Q E u h=>?_
 obtain⟨T,r,xs,t,e,rfl,c,a,m,d,p,G⟩:=h;refine⟨_,(ao (aF (cR [("entries",0)] ["number"] (aP (pv 1)) pg_c pt_c (λC b s H=>(sr K (pv 1) (pv 0)))))),?_⟩;refine⟨_,rfl,r,rfl,⟨_,SqL.of a⟩,bg (K:=K) (xs:=e.map iV) (λi o N=>N=H/\o=t.take i) (HJ (aw (by rw[Hi];omega))) ⟨rfl,rfl⟩ (λi o N _ z=>by rw[z.1];exact SqL.of a) ?_ ?_⟩
 .rintro i x o N O ⟨rfl,rfl⟩;rw[Hr]at O;obtain⟨k,j,rfl⟩:=HF.mp O;obtain⟨y,M,J⟩:=p i k j;refine⟨_,rfl,_,rfl,T,_,_,_,rfl,rfl,SqL.of c,aC M,rfl,?_⟩;rw[HH,J];rfl
 rintro o N _ ⟨rfl,rfl⟩ q n;rw[Hi,← m,HL];exact G q _ (ak n _) n ag
theorem rW:ay [] [] (ar fZ):=by ac_nf
theorem ok_table (F:Fun K "new_table" "new_table" fZ f fd):FnOk P w K mg base CX0 1 f fd [] uz:=by
 refine F.ok rW (λl H Q E h=>?_) (λY A g s H l Q E u h=>?_)
 .rw[h.1];rfl
 obtain⟨rfl,k⟩:=h;refine⟨_,(ao (aF (vc (qp ai (bh (af ai (af oZ (af oZ aj)))) uQ) rfl rfl (λz=>by cases z) (by decide)))),?_⟩
 intro p B;refine⟨(by show 3<=LZ;decide),λt J=>?_⟩
 have M:=ak B (.dK []);have b:=ak J (.tup [.int 0,.non,.non]);have pt:p≠t:=λz=>by rw[← z,ag]at J;cases J
 refine⟨by rw[aq pt];exact ag,[(.inl ((0:Nat):Int),.ref t)],rfl,(by show 1<=15;decide),?_⟩
 refine k p t _ (aK (M.trans b) B _) B ag ?_;rw[aq (Ne.symm pt)];exact ag
def FdAt(n:Nat)(ls:List Lk)(H:Hp)(v:V)(s:Nat):Prop:=∃ t T b u a,v=.ref t/\H t=some (.tup [.ref T,.ref b])/\H T=some (.lst (u.map oV))/\H b=some (.lst (a.map oN))/\FI n ls s MM u a [] (λ_ _=>False)
theorem tb_same{q:Str}{f:Pos}{TT:Addr}(h:Tb q f TT H)(s:Same H H'):Tb q f TT H':=by
 rcases h with y | ⟨C,u,N⟩
 .exact .inl (s _ _ y)
 .exact .inr ⟨C,s _ _ u,s _ _ N⟩
theorem tb_ne{q:Str}{f:Pos}{TT:Addr}(h:Tb q f TT H){b:Addr}{o:HO}(e:H b=some o)(n:∀ ps,o≠.tbl ps):b≠TT:=λz=>by
 rw[z]at e;rcases h with y | ⟨_,y,_⟩<;>rw[y]at e<;>cases e<;>exact n _ rfl
def SmT(H H':Hp):Prop:=∀ b o,(∀ G,o≠.tbl G)->H b=some o->H' b=some o
theorem SmT.trans(a:SmT H H1)(b:SmT H1 H2):SmT H H2:=λc o n e=>b c o n (a c o n e)
theorem SmT.of(s:Same H H'):SmT H H':=λc o _ e=>s c o e
theorem TbS.smT{q:Str}{f:Pos}{TT:Addr}(s:TbS TT H H')(h:Tb q f TT H):SmT H H':=λb o n e=>s b o (tb_ne h e n) e
theorem SmT.lst{H H':Hp}(s:SmT H H'){b:Addr}{xs:List V}(e:H b=some (.lst xs)):H' b=some (.lst xs):=s _ _ (λG z=>by cases z) e
theorem SmT.tup{H H':Hp}(s:SmT H H'){b:Addr}{xs:List V}(e:H b=some (.tup xs)):H' b=some (.tup xs):=s _ _ (λG z=>by cases z) e
theorem FdAt.mono{s:Nat}(h:FdAt n ls H v s)(sm:SmT H H'):FdAt n ls H' v s:=by
 obtain⟨t,T,b,u,a,e,M,J,f,C⟩:=h;exact⟨t,T,b,u,a,e,sm.tup M,sm.lst J,sm.lst f,C⟩
theorem LnAt.smT{r:List Lk}(h:LnAt H v r)(s:SmT H H'):LnAt H' v r:=by
 obtain⟨a,M,e,z,l⟩:=h;exact⟨a,M,e,s.lst z,l.imp λ_ _ ⟨t,e,q⟩=>⟨t,e,s.tup q⟩⟩
def LT(H H':Hp):Prop:=(∀ b D,H b=some (.lst D)->H' b=some (.lst D))/\∀ b D,H b=some (.tup D)->H' b=some (.tup D)
theorem LT.same(s:Same H H'):LT H H':=⟨λ_ _ e=>s _ _ e,λ_ _ e=>s _ _ e⟩
theorem LT.tbS(s:TbS tb H H')(h:H tb=some (.dK kvs)):LT H H':=⟨λb D e=>s _ _ (λz=>by rw[z,h]at e;cases e) e,λb D e=>s _ _ (λz=>by rw[z,h]at e;cases e) e⟩
theorem FdAt.lt{s:Nat}(h:FdAt n ls H v s)(sm:LT H H'):FdAt n ls H' v s:=by
 obtain⟨t,T,b,u,a,e,M,J,f,C⟩:=h;exact⟨t,T,b,u,a,e,sm.2 _ _ M,sm.1 _ _ J,sm.1 _ _ f,C⟩
theorem DC{ks:List Nat}(h:∀ k∈ks,k<N):jn ks<2^N:=IZ _ λi d=>by
 rw[iC];exact LY λz=>by have:=h i z;omega
theorem AY(ks:List Nat):jn ks.reverse=jn ks:=IB λi=>by
 rw[iC,iC];exact decide_eq_decide.mpr Ls
def PrI(v:V)(n mk m N:Nat)(ls:List Lk)(r p k tb:Addr)(kvs:List (Key×V))(t:Int)(H8:Hp)(σ:St)(H:Hp):Prop:=∃(c u:Nat)(b a:Option V)(w:V),σ = [some (.int (n:Int)),some v,some (.int (mk:Int)),some (.ref r),some (.ref p),some (.ref k),some (.ref tb),some (.int (c:Int)),some (.int t),some (.int (u:Int)),b,a]/\Same H8 H/\valV kvs (.inl (c:Int))=some w/\u<2^N/\oddE ls u N=mk^^^RM (λi=>(bl mk).getD i 0) c m
inductive spPaired(TT:Addr)(vs:List L2.V)(H:L2.Hp)(Q:L2.VK)(x3_:L2.XK):Prop
 |mk (v:V)(n mk:Nat)(ls:List Lk) (h0_:vs = [.int (n:Int),v,.int (mk:Int)])(h1_:LnAt H v ls)(h2_:Lok n ls)(h3_:1<=n)(h4_:Conn n ls)(h5_:mk<2^n)(h6_:(bl mk).length%2=0)(h7_:(bl mk).length<=14)(h8_:Tb lqF lpF TT H)(h9_:∀(t:Addr)(cost:Int)(u:Nat) H',SmT H H'->Tb lqF lpF TT H'->H' t=some (.tup [.int cost,.int (u:Int)])->u<2^ls.length->oddE ls u ls.length=mk->Q (.ref t) H')
def RwA(ls:List Lk)(mk:Nat)(H:Hp)(v:V)(s:Nat):Prop:=∃ p,v=V.ref p/\H p=some (.lst ((bl mk).map λx=>V.int (farD ls s x)))
noncomputable def dR (ls:List Lk) (mk:Nat) (i j:Nat):Int:=farD ls ((bl mk).getD i 0) ((bl mk).getD j 0)
theorem bP:ay ["many","links","marks","rooms","found","between","table","left","cost","used","first","mate"] ["many","links","marks"] (ar mM):=by ac_nf
def mPz(σ:St):Nat:=match σ with | [_,_,_,_,_,_,_,some (.int c),_,_,_,_]=>c.toNat | _=>0
theorem ok_paired{TT f2 f3 f4 f5 f6 f7 f8:Addr}{bB cb cD cO dm cT:FuncData} (F:Fun K "paired" "paired" mM f fd) (T:Txt mg) (aI:Cal P w K mg base 4 "refuse_marks" ["many","links","marks"] Fw I G) (an:Cal P w K mg base 1 "bits" ["mask"] lT f2 J) (bb:Cal P w K mg base 2 "fares" ["many","links","start"] (spFares TT) f3 bB)
  (aT:Cal P w K mg base 1 "chosen_of" ["entries","numbers"] pO f4 cb) (aV:Cal P w K mg base 1 "new_table" [] uz f5 cD) (GL:∀(D:Nat->Nat->Int)(m:Nat),Cal P w K mg base 10 "laid_in_pairs" ["between","chosen","table"] (spLaid D m 8) f6 cO)
  (am:Cal P w K mg base 1 "mask_of" ["places"] (lR K) f7 dm) (cg:Cal P w K mg base 2 "row_to" ["links","via","room"] spRow f8 cT):FnOk P w K mg base CX0 11 f fd ["many","links","marks"] (spPaired TT):=by
 refine F.ok bP (by walk_at "l") λab A aa s H vs Q E B h=>?_
 obtain⟨v,n,mk,ls,rfl,hV,ok,n1,hc,aS,ev,ac,bm,kk⟩:=h;have hu:=qN B;have a3:=ok.n1;have dn:=ok.l9;have al:=GL (dR ls mk) (bl mk).length;have ba:mk<1099511627776:=by
  have M:2^n<=2^40:=Im (by decide) a3
  have cs:(2:Nat)^40=1099511627776:=by decide
  omega
 have bp:∀ x∈bl mk,x<n:=λx O=>oP aS O
 refine⟨_,(ah (aU (aI.c B (af (pv 0) (af (pv 1) (af (pv 2) aj)))))
   (ah (aB 3 bP.nd (an.c B (af (pv 2) aj)))
   (ah (mr 4 [("many",0),("links",1)] ["room"] bP.nd (aP (pv 3)) pg_c pt_c (λC ex s H=>(bb.c B (af (pv 1) (af (pv 2) (af (pv 0) aj))))))
   (ah (mr 5 [("rooms",3)] ["told","via"] bP.nd (aP (pv 4)) (λC ex s H=>(dH (n:=2) (K:=K) rfl rfl (aJ (a8 (i:=0) (show(["told","via","rooms"]:List Str).Nodup from by decide) rfl (Or.inl rfl)) (aJ (a8 (i:=1) (show(["told","via","rooms"]:List Str).Nodup from by decide) rfl (Or.inl rfl)) bT)))) pt_c (λC ex s H=>(aT.c B (af (pv 0) (af (pv 2) aj)))))
   (ah (aB 6 bP.nd (aV.d B))
   (ah (aB 7 bP.nd (av dM (av bJ ai (az ax (by rfl) T.n_len aX (af (pv 3) aj))) ai))
   (ah (aB 8 bP.nd (aM (al.c B (af (pv 5) (af (pv 7) (af (pv 6) aj)))) ai))
   (ah (aB 9 bP.nd ai)
   (ah (dU PassesOwn.never (aD jj (pv 7) ai (aE _)) (ah (aB 10 bP.nd (aM (gn hu (pv 6) (pv 7) (λ_ _=>rfl)) ai))
   (ah (aB 11 bP.nd (aM (gn hu (pv 6) (pv 7) (λ_ _=>rfl)) ai))
   (ah (aB 9 bP.nd (av b8 (pv 9) (am.c B (af (cg.c B (af (pv 1) (af (aM (aR (pv 4) (pv 10)) ai) (af (aR (pv 3) (pv 11)) aj)))) aj))))
   (ao (aB 7 bP.nd (av b8 (av b8 (pv 7) (av bJ ai (pv 10))) (av bJ ai (pv 11)))))))))
   (ao (aF (bh (af (pv 8) (af (pv 9) aj)))))))))))))),?_⟩
 refine⟨_,rfl,_,rfl,_,rfl,v,n,mk,ls,rfl,hV,ok,n1,hc,aS,ev,ac,λH1 s1=>?_⟩;refine⟨_,rfl,(mk:Int),rfl,∅,∅,λr l s2 ca a6=>?_⟩
 rw[Hn]at a6;have aA:=s1.trans s2;have ch:=tb_same bm aA;have bd:l r=some (.lst ((bl mk).map iV)):=a6;have a4:((bl mk).map iV).length=(bl mk).length:=Hi ..;refine⟨_,rfl,r,rfl,⟨_,SqL.of bd⟩,cx (K:=K) (xs:=(bl mk).map iV) (λi zs H3=>SmT l H3/\Tb lqF lpF TT H3/\LsAt (FdAt n ls) H3 zs ((bl mk).take i)) (HJ (aw ∅)) ⟨λ_ _ _ e=>e,ch,LsAt.nil⟩ (λi zs H3 _ z=>SqL.of (z.1.lst bd)) ?_ ?_ ?_⟩
 .rintro i x zs H3 O ⟨bN,bR,hZ⟩;rw[Hr]at O;obtain⟨k,hk,rfl⟩:=HF.mp O;refine⟨rfl,yesT ⟨_,rfl,_,rfl,_,rfl,v,n,k,ls,rfl,LnAt.smT (hV.mono aA) bN,ok,bp k (Hh hk),bR,λt ta va TL VL H4 bW a7 _ _ ht aL a0 fi=>?_⟩⟩;have bX:=TbS.smT bW bR;refine⟨bN.trans bX,a7,?_⟩;rw[HH,hk];exact(hZ.imp λ_ _ q=>q.mono bX).snoc ⟨t,ta,va,TL,VL,rfl,ht,aL,a0,fi⟩
 .rintro zs H3 ⟨bN,bR,hZ⟩ fa b0;rw[a4,HL]at hZ;have z4:=ak b0 (.lst zs);have be:SmT l (upd H3 fa (.lst zs)):=bN.trans (.of z4);have a7:=tb_same bR z4;have bU:LsAt (FdAt n ls) (upd H3 fa (.lst zs)) zs (bl mk):=hZ.imp λ_ _ q=>q.mono (.of z4);have a2:(upd H3 fa (.lst zs)) fa=some (.lst zs):=ag;generalize upd H3 fa (.lst zs)=H4 at be a7 bU a2;have zl:=bU.1;have b6:=be.lst bd;refine⟨_,rfl,fa,rfl,⟨_,SqL.of a2⟩,cx (K:=K) (xs:=zs) (λi ws H5=>Same H4 H5/\LsAt (RwA ls mk) H5 ws ((bl mk).take i)) (HJ (aw ∅)) ⟨λ_ _ e=>e,LsAt.nil⟩ (λi ws H5 _ z=>SqL.of (z.1 _ _ a2)) ?_ ?_ ?_⟩
  .rintro i x ws H5 O ⟨s5,hW⟩;obtain⟨s0,bn,t,ta,va,TL,VL,rfl,ht,aL,a0,fi⟩:=bU.get O;have ci:=bp s0 (Hh bn);refine⟨t,_,rfl,SqT.of (s5 _ _ ht),rfl,_,_,rfl,_,_,rfl,rfl,rfl,yesT ⟨_,rfl,_,rfl,ta,r,_,(bl mk).map λx=>V.int (farD ls s0 x),bl mk,rfl,s5 _ _ aL,s5 _ _ b6,Hi ..,∅,λj k hk=>?_,λq H6 s6 dp hq=>?_⟩⟩
   .refine⟨.int (farD ls s0 k),?_,by rw[Hr,hk];rfl⟩
    exact vj (fi.is hc ci (bp k (Hh hk)))
   .refine⟨s5.trans s6,?_⟩;rw[HH,bn];exact(hW.imp λ_ _ ⟨p,e,z⟩=>⟨p,e,s6 _ _ z⟩).snoc ⟨q,rfl,hq⟩
  .rintro ws H5 ⟨s5,hW⟩ bv cX;rw[zl,HL]at hW;have z6:=ak cX (.lst ws);refine⟨rfl,λtb t0 H7 s7 ck a1 cc=>?_⟩;have bi:Same H4 H7:=s5.trans (z6.trans s7);have cY:LsAt (RwA ls mk) H7 ws (bl mk):=hW.imp λ_ _ ⟨p,e,z⟩=>⟨p,e,s7 _ _ (z6 _ _ z)⟩;have cl:H7 bv=some (.lst ws):=s7 _ _ ag;have a5:∀ i,i<(bl mk).length->(bl mk)[i]?=some ((bl mk).getD i 0):=λi hi=>by rw[Hz,Hf hi];rfl
   have bt:BtAt H7 (.ref bv) (dR ls mk) (bl mk).length:=⟨bv,ws,rfl,cl,λi hi=>by
    obtain⟨y,hy,p,rfl,hp⟩:=cY.2 i _ (a5 i hi)
    exact⟨p,_,hy,hp,λk hk=>by rw[Hr,a5 k hk];rfl⟩⟩
   have ti:TI H7 (dR ls mk) (bl mk).length [(.inl ((0:Nat):Int),.ref t0)]:=⟨(λk w e=>by
    by_cases c:(Sum.inl ((0:Nat):Int):Key)=k
    .rw[br c]at e
     cases e
     exact⟨0,c.symm,IG _,.inl ⟨rfl,t0,_,_,rfl,cc⟩⟩
    .rw[bu c]at e
     cases e),⟨_,br rfl⟩,Hy.mpr ⟨(by simp),Jd⟩⟩
   have cn:=bi _ _ b6;have bq:=tb_same a7 bi;have eL:(1:Int)*2^((((bl mk).map iV).length:Nat):Int).toNat-1=((2^(bl mk).length-1:Nat):Int):=by
    rw[a4,shlN];have:=IG (bl mk).length;omega
   refine⟨_,rfl,r,_,rfl,.inl (SqL.of cn),_,_,rfl,rfl,⟨∅,by rw[a4];omega,by decide⟩,_,_,rfl,rfl,?_⟩
   simp only[eL];have co:(bl (2^(bl mk).length-1)).length=(bl mk).length:=by rw[(Cq _).length_eq,Jb]
   refine⟨_,rfl,_,rfl,_,rfl,.ref bv,tb,2^(bl mk).length-1,_,rfl,bt,a1,ti,by have:=IG (bl mk).length;omega,ac,by rw[co];omega,by rw[co];exact ev,λw t ae H8 sT cd ce gr hv cv=>?_⟩
   have cp:=LT.tbS sT a1;obtain⟨va,y,z,rfl,a0⟩:=id cv;refine⟨va,_,0,_,rfl,rfl,SqT.of a0,a30,?_⟩;have dq:Tb lqF lpF TT H8:=nu bq λb L=>by
    have hs:∃ o,H7 b=some o/\b≠tb:=by
     rcases L with rfl | ⟨c',L⟩
     .rcases bq with q | ⟨_,q,_⟩
      .exact⟨_,q,λz=>by rw[z,a1]at q;cases q⟩
      .exact⟨_,q,λz=>by rw[z,a1]at q;cases q⟩
     .exact⟨_,L,λz=>by rw[z,a1]at L;cases L⟩
    obtain⟨o,M,N⟩:=hs;rw[M];exact sT _ _ N M
   have ct:SmT H H8:=λb o no e=>by
    have e4:=be b o no (aA _ _ e);have e7:=bi _ _ e4;refine sT _ _ (λz=>?_) e7;subst z;have:=eu (s5.trans z6) ck;rw[this]at e4;cases e4
   have dr:LsAt (FdAt n ls) H8 zs (bl mk):=bU.imp λ_ _ q=>(q.lt (LT.same bi)).lt cp;have c7:=cp.1 _ _ (bi _ _ a2);have ds:=cp.1 _ _ cn;have du:LnAt H8 v ls:=(LnAt.smT hV ct);refine eQ (PrI v n mk (bl mk).length ls.length ls r fa bv tb ae t H8) (λY _=>mPz Y) ⟨2^(bl mk).length-1,0,_,_,_,rfl,λ_ _ e=>e,hv,IG _,by rw[nO,RM_all,Kj]⟩ ?_ ?_
   .rintro Y H9 ⟨c,u,ap,cf,w,rfl,s9,hw,da,ou⟩;obtain⟨c',cw,db,en⟩:=ce.en _ _ hw;have dw:c'=c:=by
     have:(c:Int)=(c':Int):=by injection cw
     omega
    subst dw;refine⟨_,rfl,rfl,_,rfl,?_⟩;by_cases c0:c'=0
    .subst c0;refine tD rfl ?_;refine⟨_,rfl,_,rfl,(by show 2<=LZ;decide),λt9 dx=>?_⟩
     have z9:=ak dx (.tup [.int t,.int (u:Int)]);refine kk t9 t u _ (ct.trans (.of (s9.trans z9))) (tb_same dq (s9.trans z9)) ag da ?_;rw[ou,Cu,Lq]
    .refine ite2 (λ_=>?_) (λz=>NC (by rw[LY (λy=>c0 (by have:=V.int.inj y;omega))];rfl) z)
     obtain⟨tt,f,g,a,vr,rfl,ha,hf,hg,fg,dy⟩:∃(t:Int)(f g:Nat)(a:Addr)(vr:V),w=.ref a/\H8 a=some (.tup [.int t,.int (f:Int),.int (g:Int)])/\f∈bl c'/\g∈bl c'/\f≠g/\valV ae (.inl ((cut2 c' f g:Nat):Int))=some vr:=by
      rcases en with⟨q,_⟩ | q
      .exact NC q c0
      .exact q
     have flt:=oP db hf;have cZ:=oP db hg;have c6:=s9 _ _ cd;have dc:=s9 _ _ ha;have dg:DGet H9 tb (.int (c':Int)) (some (.ref a)):=by have:=DGet.k (k:=.inl ((c':Nat):Int)) c6;rw[hw]at this;exact this
     refine⟨_,rfl,_,rfl,tb,_,rfl,dg,a,_,1,_,rfl,rfl,SqT.of dc,a31,?_⟩;refine⟨_,rfl,_,rfl,tb,_,rfl,dg,a,_,2,_,rfl,rfl,SqT.of dc,a32,?_⟩;obtain⟨y,hy,tF,dI,dz,TL,VL,rfl,dC,dF,dd,fi⟩:=dr.2 f _ (a5 f flt);have gl:=bp _ (Hh (a5 g cZ));have fl:=bp _ (Hh (a5 f flt));have xg:=fi.is hc fl gl;obtain⟨j,up⟩:=fi.up _ _ xg;obtain⟨ks,df,kl⟩:=up.path;have sh:=up.short fi.vs;have vl:=fi.vl;obtain⟨j1,j2⟩:=df.join fi;refine⟨_,rfl,_,rfl,_,rfl,_,rfl,fa,_,_,_,rfl,rfl,SqL.of (s9 _ _ c7),aC hy,tF,_,1,_,rfl,rfl,SqT.of (s9 _ _ dC),at1,_,rfl,_,rfl,r,_,_,_,rfl,rfl,SqL.of (s9 _ _ ds),aC (show((bl mk).map iV)[g]?=some (V.int (((bl mk).getD g 0:Nat):Int)) by rw[Hr,a5 g cZ];rfl),v,dz,(bl mk).getD g 0,(bl mk).getD f 0,ls,VL,ks,rfl,du.mono s9,s9 _ _ dd,fi.vs,df,∅,λq dk dD hq=>?_⟩
     refine⟨q,ks.reverse,rfl,SqL.of hq,λk hk=>by have:=j1 k (Ls.mp hk);omega,_,_,rfl,rfl,?_⟩
     have ex:Mw (u:Int) ((jn ks.reverse:Nat):Int)=((u^^^jn ks:Nat):Int):=by rw[AY,xorN]
     simp only[ex];refine⟨_,rfl,_,rfl,_,_,rfl,rfl,⟨∅,∅,by decide⟩,_,_,rfl,rfl,_,rfl,_,_,rfl,rfl,⟨∅,∅,by decide⟩,_,_,rfl,rfl,?_⟩
     have ec:Mw (Mw (c':Int) (1*2^((f:Nat):Int).toNat)) (1*2^((g:Nat):Int).toNat)=((cut2 c' f g:Nat):Int):=by rw[shlN,shlN,xorN,xorN];rfl
     simp only[ec];refine⟨⟨cut2 c' f g,u^^^jn ks,some (.int (f:Int)),some (.int (g:Int)),vr,rfl,s9.trans dD,dy,Jg da (DC j1),?_⟩,?_⟩
     .rw[qy,ou,j2];unfold cut2;rw[Cv,Cv,Cw,Cw,NA flt,NA cZ,IJ,IJ]
     .show((cut2 c' f g:Nat):Int).toNat<((c':Nat):Int).toNat;have:=B7 hf hg fg;omega
   .rintro Y H9 Q1 Q2 hi ⟨v1,e1,e2,b,e3,q⟩;exact⟨v1,e1,e2,b,e3,hi _ _ q⟩
  .rintro i ws H5 ⟨_,hW⟩;rw[hW.1,HW];omega
 .rintro i zs H3 ⟨_,_,hZ⟩;rw[hZ.1,HW];omega
theorem GW{k:Nat}(C:k<m):(bl ((2^m-1)^^^2^k)).length=m-1:=by
 have N:(bl ((2^m-1)^^^2^k)).Perm ((IC m).erase k):=by
  refine(pF _ _).trans ((xt (Cq _) k).trans ?_);unfold tog;rw[NA (Je.mpr C)]
 rw[N.length_eq,Lo,NA (Je.mpr C),Jb]
def XL(l:List Nat):Nat:=l.foldr (λs m=>2^s^^^m) 0
theorem Fc:∀{l:List Nat},l.Nodup->∀ x,(XL l).testBit x=decide (x∈l)
 |[],_,x=>by rw[show XL []=0 from rfl,IS];simp
 |s::l,Q,x=>by
  obtain⟨M,J⟩:=Hy.mp Q;show(2^s^^^XL l).testBit x=_;rw[IP,Ib,Fc J x];by_cases c:s=x
  .subst c;simp[M]
  .have C:¬ x=s:=λz=>c z.symm
   simp[c,C]
theorem XL_bl(m:Nat):XL (bl m)=m:=IB λx=>by
 rw[Fc (bl_nd m)]
 cases h:m.testBit x with
 |true=>exact MJ (mem_bl.mpr h)
 |false=>exact LY λz=>by rw[mem_bl.mp z]at h;cases h
structure TxtZ(mg:Str->Option Value):Prop extends Txt mg where
 n_zip:mg "zip" = none
def c9(mk:Nat):Nat:=(bl mk).getD 0 0
theorem qj{mk:Nat}(h:mk<2^n)(n1:1<=n):c9 mk<n:=by
 unfold c9;rw[Hz]
 cases e:(bl mk)[0]? with
 |none=>exact n1
 |some x=>exact oP h (Hh e)
theorem Au{mk:Nat}(h:mk<2^n)(n1:1<=n)(o:(bl mk).length%2=0)(O:(bl mk).length<=14):(mk^^^2^c9 mk)<2^n/\(bl (mk^^^2^c9 mk)).length<=14/\(bl (mk^^^2^c9 mk)).length%2=1/\1<=(bl (mk^^^2^c9 mk)).length:=by
 have D:=qj h n1;refine⟨Jg h (Ir (by decide) D),?_⟩
 have e:=(pF mk (c9 mk)).length_eq;rw[e];unfold tog;by_cases c:c9 mk∈bl mk
 .rw[NA c,Lo,NA c];have:0<(bl mk).length:=IM c;omega
 .rw[NB c,HD];have t:(bl mk).length=0:=by
   cases z:bl mk with
   |nil=>rfl
   |cons x r =>
    refine NC ?_ c;unfold c9;rw[z];exact Hu ..
  omega
def TdAt(n:Nat)(ls:List Lk)(H:Hp)(v:V)(s:Nat):Prop:=∃ T u a,v=.ref T/\H T=some (.lst (u.map oV))/\FI n ls s MM u a [] (λ_ _=>False)
theorem TdAt.lt{s:Nat}(h:TdAt n ls H v s)(k:∀ b xs,H b=some (.lst xs)->H' b=some (.lst xs)):TdAt n ls H' v s:=by
 obtain⟨T,u,a,e,M,J⟩:=h;exact⟨T,u,a,e,k _ _ M,J⟩
theorem Ey{TT:Addr}(h:Tb lqF lpF TT H)(a:H tb=some (.dK kvs))(d:TbS tb H H'):Tb lqF lpF TT H':=nu h λb L=>by
 have l:∃ o,H b=some o/\b≠tb:=by
  rcases L with rfl | ⟨C,L⟩
  .rcases h with q | ⟨_,q,_⟩
   .exact⟨_,q,λz=>by rw[z,a]at q;cases q⟩
   .exact⟨_,q,λz=>by rw[z,a]at q;cases q⟩
  .exact⟨_,L,λz=>by rw[z,a]at L;cases L⟩
 obtain⟨o,M,J⟩:=l;rw[M];exact d _ _ J M
noncomputable def dO (ls:List Lk) (l:List Nat) (i j:Nat):Int:=farD ls (l.getD i 0) (l.getD j 0)
def RwO(ls:List Lk)(l:List Nat)(H:Hp)(v:V)(s:Nat):Prop:=∃ p,v=V.ref p/\H p=some (.lst (l.map λx=>V.int (farD ls s x)))
inductive zW(vs:List L2.V)(H:L2.Hp)(Q:L2.VK)(x3_:L2.XK):Prop
 |mk (mk:Nat) (h0_:vs = [.int (mk:Int)])(h1_:mk<1099511627776)(h2_:∀ H',Same H H'->Q (.int ((c9 mk:Nat):Int)) H')
inductive spHts(TT:Addr)(vs:List L2.V)(H:L2.Hp)(Q:L2.VK)(x3_:L2.XK):Prop
 |mk (v:V)(n mk:Nat)(ls:List Lk) (h0_:vs = [.int (n:Int),v,.int (mk:Int)])(h1_:LnAt H v ls)(h2_:Lok n ls)(h3_:1<=n)(h4_:Conn n ls)(h5_:mk<2^n)(h6_:(bl mk).length%2=0)(h7_:(bl mk).length<=14)(h8_:Tb lqF lpF TT H)(h9_:∀(p:Addr)(cs:List Int) H',SmT H H'->Tb lqF lpF TT H'->H' p=some (.lst (cs.map λc=>V.int (cs.getD (c9 mk) 0-c)))->cs.length=n->Q (.ref p) H')
theorem yy:ay ["marks"] ["marks"] (ar kj):=by ac_nf
theorem ok_root (F:Fun K "root_of" "root_of" kj f fd) (b:Cal P w K mg base 1 "bits" ["mask"] lT a G):FnOk P w K mg base CX0 2 f fd ["marks"] zW:=by
 refine F.ok yy (by walk_at "l") λY A g s H l Q E u h=>?_
 obtain⟨mk,rfl,D,k⟩:=h;refine⟨_,(ao (aF (iZ (aD jj (pv 0) ai (aE _)) (aR (b.c u (af (pv 0) aj)) ai) ai))),?_⟩;refine⟨_,rfl,rfl,_,rfl,?_⟩;by_cases c0:mk=0
 .subst c0;refine tD rfl ?_;have e:c9 0=0:=by unfold c9;rw[Co];rfl
  have:=k H λ_ _ e=>e;rw[e]at this;exact this
 .refine ite2 (λ_=>?_) (λz=>NC (by rw[LY (λy=>c0 (by have:=V.int.inj y;omega))];rfl) z)
  refine⟨_,rfl,(mk:Int),rfl,∅,∅,λr n o _ d=>?_⟩
  rw[Hn]at d;obtain⟨x,O⟩:∃ x,(bl mk)[0]?=some x:=by
   cases z:(bl mk)[0]? with
   |some x=>exact⟨x,rfl⟩
   |none =>
    have:bl mk = []:=by rw[List.getElem?_eq_none_iff]at z;exact JG ∅
    have J:=XL_bl mk;rw[this]at J;exact NC J.symm c0
  have e:c9 mk=x:=by unfold c9;rw[Hz,O];rfl
  have t:atI ((bl mk).map iV) 0=some (iV x):=aC (j:=0) (by rw[Hr,O];rfl)
  have:=k n o;rw[e]at this;exact⟨r,_,_,_,rfl,rfl,SqL.of d,t,this⟩
theorem bS:ay ["many","links","marks","root","others","found","between","table","everyone","rests","costs","room"] ["many","links","marks"] (ar kx):=by ac_nf
theorem ok_hts{TT f3 f4 f5 f6 f8:Addr}{bN cd cZ c6 c7:FuncData} (F:Fun K "heights" "heights" kx f fd) (T:TxtZ mg) (aA:Cal P w K mg base 4 "refuse_marks" ["many","links","marks"] Fw a G) (am:Cal P w K mg base 1 "bits" ["mask"] lT I J) (bb:Cal P w K mg base 2 "fares" ["many","links","start"] (spFares TT) f3 bN)
  (aS:Cal P w K mg base 1 "chosen_of" ["entries","numbers"] pO f4 cd) (aT:Cal P w K mg base 1 "new_table" [] uz f5 cZ) (GL:∀(D:Nat->Nat->Int)(m:Nat),Cal P w K mg base 10 "laid_in_pairs" ["between","chosen","table"] (spLaid D m 8) f6 c6)
  (a2:Cal P w K mg base 2 "root_of" ["marks"] zW f8 c7):FnOk P w K mg base CX0 11 f fd ["many","links","marks"] (spHts TT):=by
 refine F.ok bS (by walk_at "l") λab A aa s H vs Q E u h=>?_
 obtain⟨v,n,mk,ls,rfl,hV,ok,n1,hc,aL,ev,ac,bm,kk⟩:=h;have hu:=qN u;have a3:=ok.n1;have du:=ok.l9;obtain⟨l,el⟩:∃ l,l=bl (mk^^^2^c9 mk):=⟨_,rfl⟩;obtain⟨ob,df,o2,o1⟩:=Au aL n1 ev ac;rw[← el]at df o2 o1;have nd:l.Nodup:=by rw[el];exact bl_nd _
 have bp:∀ x∈l,x<n:=λx O=>by rw[el]at O;exact oP ob O
 have al:=GL (dO ls l) l.length;have cT:(2:Nat)^40=1099511627776:=by decide
 have M:2^n<=2^40:=Im (by decide) a3
 have ba:mk<1099511627776:=by omega
 have rn:=qj aL n1
 refine⟨_,(ah (aU (aA.c u (af (pv 0) (af (pv 1) (af (pv 2) aj)))))
   (ah (aB 3 bS.nd (a2.c u (af (pv 2) aj)))
   (ah (aB 4 bS.nd (am.c u (af (av b8 (pv 2) (av bJ ai (pv 3))) aj)))
   (ah (mr 5 [("many",0),("links",1)] ["room"] bS.nd (aP (pv 4)) pg_c pt_c (λC ex s H=>(gZ K (bb.c u (af (pv 1) (af (pv 2) (af (pv 0) aj)))) ai)))
   (ah (aB 6 bS.nd (cR [("others",4)] ["told"] (aP (pv 5)) pg_c pt_c (λC ex s H=>(aS.c u (af (pv 0) (af (pv 1) aj))))))
   (ah (aB 7 bS.nd (aT.d u))
   (ah (aB 8 bS.nd (av dM (av bJ ai (az ax (by rfl) T.n_len aX (af (pv 4) aj))) ai))
   (ah (mr 9 [("table",7),("everyone",8),("between",6)] ["number"] bS.nd (aO rfl T.n_range (af (az ax (by rfl) T.n_len aX (af (pv 4) aj)) aj)) pg_c pt_c (λC ex s H=>(gZ K (al.c u (af (pv 3) (af (av b8 (pv 2) (av bJ ai (pv 0))) (af (pv 1) aj)))) ai)))
   (ah (aB 10 bS.nd (bL aj))
   (ah (bw PassesOwn.never rfl (aO rfl T.n_range (af (pv 0) aj)) (bY 11 bS.nd) (ao (aU (dB HC HU HS aZ (pv 10) (af (az (Cf rfl) (by rfl) T.n_min ub (af (cR [("room",11)] ["told","rest"] (Az rfl T.n_zip (af (pv 5) (af (pv 9) aj))) (λC ex s H=>(dH (n:=2) (K:=K) rfl rfl (aJ (a8 (i:=0) (show(["told","rest","room"]:List Str).Nodup from by decide) rfl (Or.inl rfl)) (aJ (a8 (i:=1) (show(["told","rest","room"]:List Str).Nodup from by decide) rfl (Or.inl rfl)) bT)))) pt_c (λC ex s H=>(av bE (sr K (pv 0) (pv 2)) (pv 1)))) aj)) aj)))))
   (ao (aF (cR [("root",3),("costs",10)] ["cost"] (aP (pv 10)) pg_c pt_c (λC ex s H=>(av dM (sr K (pv 2) (pv 1)) (pv 0)))))))))))))))),?_⟩
 refine⟨_,rfl,_,rfl,_,rfl,v,n,mk,ls,rfl,hV,ok,n1,hc,aL,ev,ac,λH1 s1=>?_⟩;refine⟨_,rfl,mk,rfl,ba,λdI dx=>?_⟩;have ex:Mw (mk:Int) (1*2^((c9 mk:Nat):Int).toNat)=((mk^^^2^c9 mk:Nat):Int):=by rw[shlN,xorN]
 refine⟨_,rfl,_,rfl,_,_,rfl,rfl,⟨∅,∅,by decide⟩,_,_,rfl,rfl,?_⟩
 simp only[ex];refine⟨((mk^^^2^c9 mk:Nat):Int),rfl,∅,∅,λr N s2 cc a6=>?_⟩
 rw[Hn]at a6;have bd:N r=some (.lst (l.map iV)):=by rw[el];exact a6
 have ap:=s1.trans (dx.trans s2);have ci:=tb_same bm ap;have a4:(l.map iV).length=l.length:=Hi ..;refine⟨_,rfl,r,rfl,⟨_,SqL.of bd⟩,cx (K:=K) (xs:=l.map iV) (λi zs H3=>SmT N H3/\Tb lqF lpF TT H3/\LsAt (TdAt n ls) H3 zs (l.take i)) (HJ (aw ∅)) ⟨λ_ _ _ e=>e,ci,LsAt.nil⟩ (λi zs H3 _ z=>SqL.of (z.1.lst bd)) ?_ ?_ ?_⟩
 .rintro i x zs H3 O ⟨bR,bU,hZ⟩;rw[Hr]at O;obtain⟨k,L,rfl⟩:=HF.mp O;refine⟨rfl,yesT ⟨_,rfl,_,rfl,_,rfl,v,n,k,ls,rfl,LnAt.smT (hV.mono ap) bR,ok,bp k (Hh L),bU,λt ta va TL VL H4 bX a7 _ _ ht aI aV fi=>?_⟩⟩;have b0:=TbS.smT bX bU;refine⟨t,_,0,_,rfl,rfl,SqT.of ht,at0,bR.trans b0,a7,?_⟩;rw[HH,L];exact(hZ.imp λ_ _ q=>q.lt λ_ _ e=>b0.lst e).snoc ⟨ta,TL,VL,rfl,aI,fi⟩
 .rintro zs H3 ⟨bR,bU,hZ⟩ fa b6;rw[a4,HL]at hZ;have z4:=ak b6 (.lst zs);have be:SmT N (upd H3 fa (.lst zs)):=bR.trans (.of z4);have a7:=tb_same bU z4;have bW:LsAt (TdAt n ls) (upd H3 fa (.lst zs)) zs l:=hZ.imp λ_ _ q=>q.lt λ_ _ e=>z4 _ _ e;have a1:(upd H3 fa (.lst zs)) fa=some (.lst zs):=ag;generalize upd H3 fa (.lst zs)=H4 at be a7 bW a1;have zl:=bW.1;have cb:=be.lst bd;have a5:∀ i,i<l.length->l[i]?=some (l.getD i 0):=λi g=>by rw[Hz,Hf g];rfl
  refine⟨_,rfl,fa,rfl,⟨_,SqL.of a1⟩,bg (K:=K) (xs:=zs) (λi ws H5=>Same H4 H5/\LsAt (RwO ls l) H5 ws (l.take i)) (HJ (aw ∅)) ⟨λ_ _ e=>e,LsAt.nil⟩ (λi ws H5 _ z=>SqL.of (z.1 _ _ a1)) ?_ ?_⟩
  .rintro i x ws H5 O ⟨s5,hW⟩;obtain⟨s0,bn,ta,TL,VL,rfl,aI,fi⟩:=bW.get O;have ck:=bp s0 (Hh bn);refine⟨_,rfl,_,rfl,ta,r,_,l.map λx=>V.int (farD ls s0 x),l,rfl,s5 _ _ aI,s5 _ _ cb,Hi ..,∅,λj k L=>?_,λq H6 s6 dw hq=>?_⟩
   .refine⟨.int (farD ls s0 k),?_,by rw[Hr,L];rfl⟩
    exact vj (fi.is hc ck (bp k (Hh L)))
   .refine⟨s5.trans s6,?_⟩;rw[HH,bn];exact(hW.imp λ_ _ ⟨p,e,z⟩=>⟨p,e,s6 _ _ z⟩).snoc ⟨q,rfl,hq⟩
  .rintro ws H5 _ ⟨s5,hW⟩ bv da;rw[zl,HL]at hW;have z6:=ak da (.lst ws);refine⟨rfl,λtb t0 H7 s7 cn a0 ce=>?_⟩;have bi:Same H4 H7:=s5.trans (z6.trans s7);have db:LsAt (RwO ls l) H7 ws l:=hW.imp λ_ _ ⟨p,e,z⟩=>⟨p,e,s7 _ _ (z6 _ _ z)⟩;have co:H7 bv=some (.lst ws):=s7 _ _ ag
   have bt:BtAt H7 (.ref bv) (dO ls l) l.length:=⟨bv,ws,rfl,co,λi g=>by
    obtain⟨y,hy,p,rfl,B⟩:=db.2 i _ (a5 i g)
    exact⟨p,_,hy,B,λk L=>by rw[Hr,a5 k L];rfl⟩⟩
   have ti:TI H7 (dO ls l) l.length [(.inl ((0:Nat):Int),.ref t0)]:=⟨(λk w e=>by
    by_cases c:(Sum.inl ((0:Nat):Int):Key)=k
    .rw[br c]at e
     cases e
     exact⟨0,c.symm,IG _,.inl ⟨rfl,t0,_,_,rfl,ce⟩⟩
    .rw[bu c]at e
     cases e),⟨_,br rfl⟩,Hy.mpr ⟨(by simp),Jd⟩⟩
   have cp:=bi _ _ cb;have bq:=tb_same a7 bi;have eL:(1:Int)*2^(((l.map iV).length:Nat):Int).toNat-1=((2^l.length-1:Nat):Int):=by
    rw[a4,shlN];have:=IG l.length;omega
   refine⟨_,rfl,r,_,rfl,.inl (SqL.of cp),_,_,rfl,rfl,⟨∅,by rw[a4];omega,by decide⟩,_,_,rfl,rfl,?_⟩
   simp only[eL];refine⟨_,rfl,r,_,rfl,.inl (SqL.of cp),_,rfl,∅,∅,jZ (k:=(l.map iV).length) (λi ys H9=>∃(an:List (Key×V))(js:List Int),TbS tb H7 H9/\H9 tb=some (.dK an)/\TI H9 (dO ls l) l.length an/\ys=js.map V.int/\js.length=i) (HJ (aw ∅)) ⟨_,[],λ_ _ _ e=>e,a0,ti,rfl,rfl⟩ ?_ ?_ ?_⟩
   .rintro i ys H9 g ⟨an,js,sT,cX,dg,rfl,jl⟩;rw[a4]at g;have e0:(0:Int)+(i:Int)=(i:Int):=IF _;rw[e0];have dy:Mw ((2^l.length-1:Nat):Int) (1*2^((i:Nat):Int).toNat)=(((2^l.length-1)^^^2^i:Nat):Int):=by rw[shlN,xorN]
    refine⟨rfl,yesT ⟨_,rfl,_,rfl,_,rfl,_,_,rfl,rfl,⟨∅,∅,by decide⟩,_,_,rfl,rfl,?_⟩⟩
    simp only[dy];have dk:=GW g;have p2:=IG l.length;refine⟨_,rfl,.ref bv,tb,(2^l.length-1)^^^2^i,an,rfl,bt.mono a0 sT,cX,dg,Jg ∅ (Ir (by decide) g),df,by rw[dk];omega,by rw[dk];omega,λw t ae H8 dz cf cg gr hv cv=>?_⟩
    obtain⟨va,y,z,rfl,aV⟩:=id cv;refine⟨va,_,0,_,rfl,rfl,SqT.of aV,a30,ae,js++[t],λb o n e=>dz b o n (sT b o n e),cf,cg,by rw[Hv];rfl,by rw[Hk,jl];rfl⟩
   .rintro ys H9 ⟨an,js,sT,cX,dg,rfl,jl⟩ ra dc;rw[a4]at jl;have cY:=LT.tbS sT a0;have dC:=Ey bq a0 sT;have zA:=ak dc (.lst (js.map V.int));have ct:upd H9 ra (.lst (js.map V.int)) ra=some (.lst (js.map V.int)):=ag
    have cw:SmT H (upd H9 ra (.lst (js.map V.int))):=(show SmT H H9 from λb o no e=>by
     have e4:=be b o no (ap _ _ e);refine sT _ _ (λz=>?_) (bi _ _ e4);subst z
     rw[eu (s5.trans z6) cn]at e4;cases e4).trans (.of zA)
    have dm:=tb_same dC zA;have cD:upd H9 ra (.lst (js.map V.int)) fa=some (.lst zs):=zA _ _ (cY.1 _ _ (bi _ _ a1));have dn:LsAt (TdAt n ls) (upd H9 ra (.lst (js.map V.int))) zs l:=bW.imp λ_ _ q=>q.lt λ_ _ e=>zA _ _ (cY.1 _ _ (bi _ _ e));generalize upd H9 ra (.lst (js.map V.int))=HA at ct cw dm cD dn;refine⟨(by show 0<=LZ;decide),λca dp=>?_⟩
    have zB:=ak dp (.lst []);refine⟨_,rfl,_,rfl,∅,∅,bQ (n:=n) (λi Y H3=>∃(ch:Option V)(cs:List Int),Y = [some (.int (n:Int)),some v,some (.int (mk:Int)),some (.int ((c9 mk:Nat):Int)),some (.ref r),some (.ref fa),some (.ref bv),some (.ref tb),some (.int ((2^l.length-1:Nat):Int)),some (.ref ra),some (.ref ca),ch]/\Same HA H3/\H3 ca=some (.lst (cs.map V.int))/\cs.length=i) ⟨_,[],rfl,zB,ag,rfl⟩ ?_ ?_⟩
    .rintro i Y H3 g ⟨ch,cs,rfl,s3,bB,cl⟩;have e0:(0:Int)+(i:Int)=(i:Int):=IF _;rw[e0];refine⟨_,rfl,.inl ⟨rfl,_,SqL.of bB⟩,_,rfl,_,rfl,fa,ra,rfl,⟨_,SqL.of (s3 _ _ cD)⟩,⟨_,SqL.of (s3 _ _ ct)⟩,tW (K:=K) (xs:=zs) (zs:=js.map V.int) (λj ys H5=>Same H3 H5/\ys=((IC j).map λk=>farD ls (l.getD k 0) i+js.getD k 0).map V.int) (HJ (aw ∅)) (by rw[Hi];omega) ⟨λ_ _ e=>e,rfl⟩ (λj ys H5 _ z=>⟨SqL.of (z.1 _ _ (s3 _ _ cD)),SqL.of (z.1 _ _ (s3 _ _ ct))⟩) ?_ ?_ ?_⟩
     .rintro j x z ys H5 T5 O hz ⟨cO,rfl⟩ dD;obtain⟨s0,bn,ta,TL,VL,rfl,aI,fi⟩:=dn.get O;have ck:=bp s0 (Hh bn);have dq:j<js.length:=by
       have:=(Hg.mp hz).1;rw[Hi]at this;exact this
      have ez:z=.int (js.getD j 0):=by
       rw[Hr,Hf dq]at hz
       cases hz
       rw[Hz,Hf dq];rfl
      subst ez;have dF:s0=l.getD j 0:=by rw[Hz,bn];rfl
      have s6:=ak dD (.tup [.ref ta,.int (js.getD j 0)]);refine⟨T5,_,rfl,SqT.of ag,rfl,_,_,rfl,_,_,rfl,rfl,rfl,yesT ⟨_,rfl,_,rfl,ta,_,_,_,rfl,rfl,SqL.of (s6 _ _ (cO _ _ (s3 _ _ aI))),aC (vj (fi.is hc ck g)),_,rfl,_,_,rfl,rfl,cO.trans s6,?_⟩⟩;rw[Ka,Hv,Hv,dF];rfl
     .rintro ys H5 ⟨cO,rfl⟩ q hq;have zq:=ak hq (.lst (((IC zs.length).map λk=>farD ls (l.getD k 0) i+js.getD k 0).map V.int));refine⟨q,_,rfl,SqL.of ag,by rw[Hi,Jb,zl];omega,λm dJ dd=>?_⟩
      have dr:=zq _ _ (cO _ _ bB);refine⟨ca,_,_,rfl,rfl,dr,aw (by rw[Hi];omega),?_⟩
      refine⟨_,cs++[m],rfl,aK (s3.trans (cO.trans zq)) dp _,by rw[ag,Hv];rfl,by rw[Hk,cl];rfl⟩
     .rintro j ys H5 ⟨_,rfl⟩;rw[Hi,Hi,Jb];exact Hl _
    .rintro Y H3 ⟨ch,cs,rfl,s3,bB,cl⟩;have ds:∀ k,k<n->(cs.map V.int)[k]?=some (.int (cs.getD k 0)):=λk L=>by rw[Hr,Hz,Hf ∅];rfl
     refine⟨_,rfl,ca,rfl,⟨_,SqL.of bB⟩,cx (K:=K) (xs:=cs.map V.int) (λi zs H4=>H4=H3/\zs=(cs.take i).map λc=>V.int (cs.getD (c9 mk) 0-c)) (HJ (aw (by rw[Hi];omega))) ⟨rfl,rfl⟩ (λi zs H4 _ z=>by rw[z.1];exact SqL.of bB) ?_ ?_ ?_⟩
     .rintro i x zs H4 O ⟨rfl,rfl⟩;rw[Hr]at O;obtain⟨k,L,rfl⟩:=HF.mp O;refine⟨rfl,yesT ⟨_,rfl,_,rfl,ca,_,_,_,rfl,rfl,SqL.of bB,aC (ds _ rn),_,rfl,_,_,rfl,rfl,rfl,?_⟩⟩;rw[HH,L,Hv];rfl
     .rintro zs H4 ⟨rfl,rfl⟩ p B;rw[Hi,HL];have zp:=ak B (.lst (cs.map λc=>V.int (cs.getD (c9 mk) 0-c)));refine kk p cs _ (cw.trans (.of (s3.trans zp))) (tb_same dm (s3.trans zp)) ag cl
     .rintro i zs H4 ⟨_,rfl⟩;rw[Hi,HW];omega
   .rintro i ys H9 ⟨an,js,_,_,_,rfl,jl⟩;rw[Hi,jl];exact Hl _
 .rintro i zs H3 ⟨_,_,hZ⟩;rw[hZ.1,HW];omega
structure TxtH(mg:Str->Option Value):Prop extends TxtZ mg where
 n_reversed:mg "reversed" = none
 n_sorted:mg "sorted" = none
 n_set:mg "set" = none
abbrev Pr:=Int×Int
def bt(u:Int)(i:Nat):Bool:=decide (Mu (u/2^((i:Nat):Int).toNat) 1=1)
def stepE(e:Int)(l:Lk):Int:=Mw (Mw e (1*2^((l.1:Nat):Int).toNat)) (1*2^((l.2.1:Nat):Int).toNat)
def qV(u:Int)(ls:List Lk):Nat->Int
 |0=>0
 |i+1=>if bt u i=true then stepE (qV u ls i) (lkA ls i) else qV u ls i
def rA(u:Int)(ls:List Lk):Nat->Int
 |0=>0
 |i+1=>if bt u i=true then rA u ls i+(lkA ls i).2.2 else rA u ls i
def jB(ls:List Lk)(m:Nat)(u:Int):Bool:=decide (u/2^((ls.length:Nat):Int).toNat=0)&&decide (qV u ls ls.length=(m:Int))
def cB(n m:Nat)(p:Pr):Bool:=decide (0<=p.1)&&(decide (p.1/2^((n:Nat):Int).toNat=0)&&(decide ((bl (p.1.toNat&&&m)).length%2=1)&&decide (1<=p.2)))
def pT(a b:Nat)(p:Pr):Bool:=decide (Mu (Mw (p.1/2^((a:Nat):Int).toNat) (p.1/2^((b:Nat):Int).toNat)) 1=1)
def paidF(r:List Pr)(a b:Nat):Int:=((r.filter (pT a b)).map (·.2)).sum
def lB(r:List Pr)(l:Lk):Bool:=decide (paidF r l.1 l.2.1<=2*l.2.2)
def exB(n m:Nat)(ls:List Lk)(u:Int)(r:List Pr):Bool:=jB ls m u&&(r.all (cB n m)&&(ls.all (lB r)&&decide ((r.map (·.2)).sum=2*rA u ls ls.length)))
def PrAt(H:Hp)(v:V)(p:Pr):Prop:=∃ t,v=.ref t/\H t=some (.tup [.int p.1,.int p.2])
def PpAt(H:Hp)(v:V)(r:List Pr):Prop:=∃ a M,v=.ref a/\H a=some (.lst M)/\LsAt PrAt H M r
theorem PrAt.mono{p:Pr}(h:PrAt H v p)(s:Same H H'):PrAt H' v p:=by
 obtain⟨t,e,z⟩:=h;exact⟨t,e,s _ _ z⟩
theorem PpAt.mono{H H':Hp}{v:V}{r:List Pr}(h:PpAt H v r)(s:Same H H'):PpAt H' v r:=by
 obtain⟨a,M,e,z,l⟩:=h;exact⟨a,M,e,s _ _ z,l.imp λ_ _ q=>q.mono s⟩
theorem big3{k:Nat}(h:k<=3000):k<=LZ:=Io h (by decide)
structure TxtE(mg:Str->Option Value):Prop extends TxtH mg where
 n_sum:mg "sum" = none
 n_all:mg "all" = none
 n_max:mg "max" = none
inductive Ad(vs:List L2.V)(H:L2.Hp)(Q:L2.VK)(x3_:L2.XK):Prop
 |mk (v:V)(u:Int)(ls:List Lk)(n:Nat) (h0_:vs = [v,.int u])(h1_:LnAt H v ls)(h2_:Lok n ls)(h3_:∀ H',Same H H'->Q (.int (qV u ls ls.length)) H')
inductive Ab(vs:List L2.V)(H:L2.Hp)(Q:L2.VK)(x3_:L2.XK):Prop
 |mk (v:V)(m:Nat)(u:Int)(ls:List Lk)(n:Nat) (h0_:vs = [v,.int (m:Int),.int u])(h1_:LnAt H v ls)(h2_:Lok n ls)(h3_:∀ H',Same H H'->Q (.bl (jB ls m u)) H')
inductive xC(vs:List L2.V)(H:L2.Hp)(Q:L2.VK)(x3_:L2.XK):Prop
 |mk (n m:Nat)(p:Pr) (h0_:vs = [.int (n:Int),.int (m:Int),.int p.1,.int p.2])(h1_:n<=40)(h2_:∀ H',Same H H'->Q (.bl (cB n m p)) H')
inductive EE(vs:List L2.V)(H:L2.Hp)(Q:L2.VK)(x3_:L2.XK):Prop
 |mk (v pv:V)(l:Lk)(r:List Pr) (h0_:vs = [v,pv])(h1_:LkAt H v l)(h2_:PpAt H pv r)(h3_:r.length<=3000)(h4_:∀ H',Same H H'->Q (.int (paidF r l.1 l.2.1)) H')
inductive Ae(vs:List L2.V)(H:L2.Hp)(Q:L2.VK)(x3_:L2.XK):Prop
 |mk (v:V)(u:Int)(ls:List Lk) (h0_:vs = [v,.int u])(h1_:LnAt H v ls)(h2_:ls.length<=60)(h3_:∀ H',Same H H'->Q (.int (rA u ls ls.length)) H')
inductive spExam(vs:List L2.V)(H:L2.Hp)(Q:L2.VK)(x3_:L2.XK):Prop
 |mk (n m:Nat)(lv pv:V)(u:Int)(ls:List Lk)(r:List Pr) (h0_:vs = [.int (n:Int),lv,.int (m:Int),.int u,pv])(h1_:LnAt H lv ls)(h2_:PpAt H pv r)(h3_:Lok n ls)(h4_:r.length<=3000)(h5_:∀ H',Same H H'->Q (.bl (exB n m ls u r)) H')
theorem ef:ay ["links","used","rooms","number","link"] ["links","used"] (ar iU):=by ac_nf
theorem ok_endsX (F:Fun K "odd_ends" "odd_ends" iU f fd) (T:TxtE mg):FnOk P w K mg base CX0 1 f fd ["links","used"] Ad:=by
 refine F.ok ef (by walk_at "l") λI A g s H d Q E G h=>?_
 obtain⟨v,u,t,n,rfl,⟨a,M,rfl,y,J⟩,ok,k⟩:=h;have j:=ok.n1
 refine⟨_,(ah (aB 2 ef.nd ai)
   (ah (bw PassesOwn.never rfl (gm rfl T.n_enumerate (af (pv 0) aj)) (nL rfl (aJ (bY 3 ef.nd) (aJ (bY 4 ef.nd) bT))) (ao (bF (aD cq (av eF (av cV (pv 1) (pv 3)) ai) ai (aE _)) (ao (aB 2 ef.nd (av b8 (av b8 (pv 2) (av bJ ai (aM (pv 4) ai))) (av bJ ai (aM (pv 4) ai))))) aN)))
   (ao (aF (pv 2))))),?_⟩
 refine⟨_,rfl,a,rfl,⟨_,SqL.of y⟩,m9 (K:=K) (xs:=M) (λi Y N=>∃ q r,Y = [some (.ref a),some (.int u),some (.int (qV u t i)),q,r]/\Same H N) ⟨_,_,rfl,λ_ _ e=>e⟩ (λi Y N _ z=>?_) ?_ ?_⟩
 .obtain⟨_,_,_,m⟩:=z;exact SqL.of (m _ _ y)
 .rintro i x Y N o O ⟨q,r,rfl,m⟩ b;obtain⟨l,D,p,rfl,B⟩:=J.get O;obtain⟨b1,b2⟩:=ok.sm l (Hh D);have L:Same H (upd N o (.tup [.int (i:Int),.ref p])):=m.trans (ak b _);refine⟨o,_,rfl,SqT.of ag,rfl,_,_,rfl,_,_,rfl,rfl,?_⟩;refine⟨_,rfl,_,rfl,_,_,rfl,rfl,(show(0:Int)<=(i:Int) by omega),_,_,rfl,rfl,rfl,_,rfl,?_⟩
  refine ite2 (λc=>?_) (λc=>?_)
  .have C:bt u i=true:=MJ (V.int.inj (Np c))
   refine⟨_,rfl,_,rfl,p,_,0,_,rfl,rfl,SqT.of (L _ _ B),a30,_,_,rfl,rfl,⟨∅,∅,by decide⟩,_,_,rfl,rfl,_,rfl,p,_,1,_,rfl,rfl,SqT.of (L _ _ B),a31,_,_,rfl,rfl,⟨∅,∅,by decide⟩,_,_,rfl,rfl,?_⟩
   refine⟨some (.int (i:Int)),some (.ref p),?_,L⟩;rw[qV,NA C,lkA_is D];rfl
  .have C:¬ bt u i=true:=λz=>c (MJ (congrArg V.int (Np z)))
   refine⟨some (.int (i:Int)),some (.ref p),?_,L⟩;rw[qV,NB C];rfl
 .rintro Y N ⟨q,r,rfl,m⟩;refine⟨_,rfl,?_⟩;rw[J.1];exact k N m
theorem CY:ay ["links","marks","used"] ["links","marks","used"] (ar qc):=by ac_nf
theorem ok_joins (F:Fun K "joins" "joins" qc f fd) (T:TxtE mg) (b:Cal P w K mg base 1 "odd_ends" ["links","used"] Ad p G):FnOk P w K mg base CX0 2 f fd ["links","marks","used"] Ab:=by
 refine F.ok CY (by walk_at "l") λI A g s H l Q E B h=>?_
 obtain⟨v,m,u,t,n,rfl,d,ok,k⟩:=h;obtain⟨a,M,rfl,y,J⟩:=id d;refine⟨_,(ao (aF (xP (cE cq (av cV (pv 2) (az ax (by rfl) T.n_len aX (af (pv 0) aj))) ai (aE _)) (AD (cE cq (b.c B (af (pv 0) (af (pv 2) aj))) (pv 1) (aE _)))))),?_⟩
 have Y:=ju (u/2^((M.length:Nat):Int).toNat) 0;rw[J.1]at Y;refine⟨_,rfl,_,rfl,a,_,rfl,.inl (SqL.of y),_,_,rfl,rfl,(show(0:Int)<=((M.length:Nat):Int) by omega),rfl,_,rfl,?_⟩
 rw[J.1];refine ite2 (λc=>?_) (λc=>?_)
 .have C:=V.int.inj (Np c)
  refine⟨_,rfl,_,rfl,.ref a,u,t,n,rfl,d,ok,λO j=>⟨_,rfl,rfl,?_⟩⟩;have:=k O j;unfold jB at this;rw[MJ C,IA]at this;rw[ju];exact this
 .have C:¬ u/2^((t.length:Nat):Int).toNat=0:=λz=>c (MJ (congrArg V.int z))
  have:=k H (λ_ _ e=>e);unfold jB at this;rw[LY C,Iw]at this;exact this
theorem Ap:ay ["many","marks","rooms","price"] ["many","marks","rooms","price"] (ar mO):=by ac_nf
theorem ok_counts (F:Fun K "counts" "counts" mO f fd) (q:Cal P w K mg base 3 "odd" ["mask"] Fx a G):FnOk P w K mg base CX0 4 f fd ["many","marks","rooms","price"] xC:=by
 refine F.ok Ap (by walk_at "l") λY A g s H l Q E u h=>?_
 obtain⟨n,m,p,rfl,T,k⟩:=h;obtain⟨x,y⟩:=p;refine⟨_,(ao (aF (xP (cE AJ (pv 2) ai (aE _)) (xP (cE cq (av cV (pv 2) (pv 0)) ai (aE _)) (xP (cE cq (q.c u (af (av eF (pv 2) (pv 1)) aj)) ai (aE _)) (AD (cE AJ (pv 3) ai (aE _)))))))),?_⟩;refine⟨_,rfl,_,_,rfl,rfl,_,rfl,?_⟩;refine ite2 (λc=>?_) (λc=>?_)
 .have C:0<=x:=Np c
  refine⟨_,rfl,_,rfl,_,_,rfl,rfl,(show(0:Int)<=(n:Int) by omega),rfl,_,rfl,?_⟩
  refine ite2 (λd=>?_) (λd=>?_)
  .have B:x/2^((n:Nat):Int).toNat=0:=V.int.inj (Np d)
   obtain⟨o,rfl⟩:∃ o:Nat,x=(o:Int):=⟨x.toNat,∅⟩
   have v:Mu (o:Int) (m:Int)=((o&&&m:Nat):Int):=by
    rw[Nz (IH _) (IH _),Hn,Hn]
   have lt:o&&&m<2^40:=by
    have M:o&&&m<=o:=Nat.and_le_left;have J:o<2^n:=by
     rw[Hn]at B;have b:o/2^n=0:=by
      have:((o/2^n:Nat):Int)=0:=by push_cast;exact B
      omega
     have r:0<2^n:=Nat.pow_pos (by decide)
     rcases Nat.div_eq_zero_iff.mp b with h | h
     .omega
     .exact h
    have i:2^n<=2^40:=Im (by decide) T
    omega
   refine⟨_,rfl,_,rfl,_,_,rfl,rfl,o&&&m,by show[V.int (Mu (o:Int) (m:Int))]=_;rw[v],lt,λO j=>⟨rfl,_,rfl,?_⟩⟩
   refine ite2 (λe=>?_) (λe=>?_)
   .have t:(bl (o&&&m)).length%2=1:=by have:=V.int.inj (Np e);omega
    refine⟨_,rfl,_,_,rfl,rfl,?_⟩;have:=k O j;unfold cB at this;rw[MJ C,MJ B,Hn,MJ t,IA,IA,IA]at this;exact this
   .have t:¬ (bl (o&&&m)).length%2=1:=λz=>e (MJ (congrArg V.int ∅))
    have:=k O j;unfold cB at this;rw[MJ C,MJ B,Hn,LY t,IA,IA,Iw]at this;exact this
  .have B:¬ x/2^((n:Nat):Int).toNat=0:=λz=>d (MJ (congrArg V.int z))
   have:=k H (λ_ _ e=>e);unfold cB at this;rw[MJ C,LY B,IA,Iw]at this;exact this
 .have C:¬ 0<=x:=λz=>c (MJ z)
  have:=k H (λ_ _ e=>e);unfold cB at this;rw[LY C,Iw]at this;exact this
theorem rV:ay ["link","paper"] ["link","paper"] (ar fY):=by ac_nf
theorem ok_paid (F:Fun K "paid_over" "paid_over" fY f fd) (T:TxtE mg):FnOk P w K mg base CX0 1 f fd ["link","paper"] EE:=by
 refine F.ok rV (by walk_at "l") λY A g s H d Q E u h=>?_
 obtain⟨v,pv,l,r,rfl,⟨t,rfl,J⟩,⟨a,M,rfl,G,m⟩,aa,k⟩:=h;have I:=m.1;refine⟨_,(ao (aF (az (fx rfl) (by rfl) T.n_sum lx (af (cR [("link",0)] ["rooms","price"] (aP (pv 1)) (λC b s H=>(dH (n:=2) (K:=K) rfl rfl (aJ (a8 (i:=0) (show(["rooms","price","link"]:List Str).Nodup from by decide) rfl (Or.inl rfl)) (aJ (a8 (i:=1) (show(["rooms","price","link"]:List Str).Nodup from by decide) rfl (Or.inl rfl)) bT)))) (λC b s H=>(ij (aD cq (av eF (av b8 (av cV (pv 0) (gZ K (pv 2) ai)) (av cV (pv 0) (gZ K (pv 2) ai))) ai) ai (aE _)))) (λC b s H=>(pv 1))) aj)))),?_⟩
 refine⟨_,rfl,a,rfl,⟨_,SqL.of G⟩,cx (K:=K) (xs:=M) (λi o N=>N=H/\o=(((r.take i).filter (pT l.1 l.2.1)).map (·.2)).map V.int) (big3 ∅) ⟨rfl,rfl⟩ (λi o N _ z=>by rw[z.1];exact SqL.of G) ?_ ?_ ?_⟩
 .rintro i x o N O ⟨rfl,rfl⟩;obtain⟨p,B,q,rfl,y⟩:=m.get O;have L:r.take (i+1)=r.take i++[p]:=by rw[HH,B];rfl
  refine⟨q,_,rfl,SqT.of y,rfl,_,_,rfl,_,_,rfl,rfl,rfl,?_⟩;refine⟨_,rfl,_,rfl,t,_,0,_,rfl,rfl,SqT.of J,a30,_,_,rfl,rfl,(show(0:Int)<=(l.1:Int) by omega),_,rfl,_,rfl,t,_,1,_,rfl,rfl,SqT.of J,a31,_,_,rfl,rfl,(show(0:Int)<=(l.2.1:Int) by omega),_,_,rfl,rfl,_,_,rfl,rfl,rfl,_,rfl,?_⟩
  rw[L,JA];refine ite2 (λc=>?_) (λc=>?_)
  .have j:pT l.1 l.2.1 p=true:=MJ (V.int.inj (Np c))
   refine⟨_,rfl,rfl,?_⟩;rw[Ji j,Hv,Hv];rfl
  .have j:¬ pT l.1 l.2.1 p=true:=λz=>c (MJ (congrArg V.int (Np z)))
   refine⟨rfl,?_⟩;rw[Jj j,KZ,Kc]
 .rintro o N ⟨rfl,rfl⟩ D e;rw[I,HL];exact⟨D,_,rfl,SqL.of ag,k _ (ak e _)⟩
 .rintro i o N ⟨_,rfl⟩;rw[Hi,Hi];exact Io (Jc _ _) (by rw[HW];omega)
theorem yA:ay ["links","used"] ["links","used"] (ar kC):=by ac_nf
theorem ok_costO (F:Fun K "cost_of" "cost_of" kC f fd) (T:TxtE mg):FnOk P w K mg base CX0 1 f fd ["links","used"] Ae:=by
 refine F.ok yA (by walk_at "l") λY A g s H d Q E G h=>?_
 obtain⟨v,u,t,rfl,⟨a,M,rfl,hA,hL⟩,aa,k⟩:=h;have yl:=hL.1;refine⟨_,(ao (aF (az (fx rfl) (by rfl) T.n_sum lx (af (cR [("used",1)] ["number","link"] (gm rfl T.n_enumerate (af (pv 0) aj)) (λC b s H=>(dH (n:=2) (K:=K) rfl rfl (aJ (a8 (i:=0) (show(["number","link","used"]:List Str).Nodup from by decide) rfl (Or.inl rfl)) (aJ (a8 (i:=1) (show(["number","link","used"]:List Str).Nodup from by decide) rfl (Or.inl rfl)) bT)))) (λC b s H=>(ij (aD cq (av eF (av cV (pv 2) (pv 0)) ai) ai (aE _)))) (λC b s H=>(gZ K (pv 1) ai))) aj)))),?_⟩
 refine⟨_,rfl,a,rfl,⟨_,SqL.of hA⟩,fO (K:=K) (xs:=M) (λi o N=>Same H N/\∃ J:List Int,o=J.map V.int/\J.sum=rA u t i/\J.length<=i) (big3 ∅) ⟨λ_ _ e=>e,[],rfl,rfl,Hl _⟩ (λi o N _ z=>SqL.of (z.1 _ _ hA)) ?_ ?_ ?_⟩
 .rintro i x o N T2 O ⟨m,J,rfl,p,I⟩ B;obtain⟨l,ab,q,rfl,y⟩:=hL.get O;have L:=m.trans (ak B (.tup [.int (i:Int),.ref q]));refine⟨T2,_,rfl,SqT.of ag,rfl,_,_,rfl,_,_,rfl,rfl,rfl,?_⟩;refine⟨_,rfl,_,rfl,_,_,rfl,rfl,(show(0:Int)<=(i:Int) by omega),_,_,rfl,rfl,rfl,_,rfl,?_⟩
  refine ite2 (λc=>?_) (λc=>?_)
  .have j:bt u i=true:=MJ (V.int.inj (Np c))
   refine⟨_,rfl,q,_,2,_,rfl,rfl,SqT.of (L _ _ y),a32,L,J++[l.2.2],by rw[Hv];rfl,?_,by rw[Hk,Ht];omega⟩
   rw[J2,p,rA,NA j,lkA_is ab,Ja,List.sum_nil,Int.add_zero]
  .have j:¬ bt u i=true:=λz=>c (MJ (congrArg V.int (Np z)))
   refine⟨L,J,rfl,?_,∅⟩
   rw[p,rA,NB j]
 .rintro o N ⟨m,J,rfl,p,I⟩ D r;rw[yl]at p;refine⟨D,J,rfl,SqL.of ag,?_⟩;rw[p];exact k _ (m.trans (ak r _))
 .rintro i o N ⟨_,J,rfl,_,I⟩;rw[Hi];exact I
theorem uJ:ay ["many","links","marks","used","paper"] ["many","links","marks","used","paper"] (ar iX):=by ac_nf
theorem ok_exam{f2 f3 f4:Addr}{ac al:FuncData} (F:Fun K "examined" "examined" iX f fd) (T:TxtE mg) (aA:Cal P w K mg base 2 "joins" ["links","marks","used"] Ab I G) (ap:Cal P w K mg base 4 "counts" ["many","marks","rooms","price"] xC f2 J) (ae:Cal P w K mg base 1 "paid_over" ["link","paper"] EE f3 ac) (am:Cal P w K mg base 1 "cost_of" ["links","used"] Ae f4 al):FnOk P w K mg base CX0 5 f fd ["many","links","marks","used","paper"] spExam:=by
 refine F.ok uJ (by walk_at "l") λaa A g s H k Q E B h=>?_
 obtain⟨n,m,lv,pv,u,ls,r,rfl,aL,aT,ok,aI,kk⟩:=h;have n1:=ok.n1;have l9:=ok.l9;obtain⟨a,M,rfl,hA,hL⟩:=id aL;obtain⟨b,Y,rfl,hB,hM⟩:=id aT;have yl:=hL.1;have zl:=hM.1
 refine⟨_,(ah (bF (oY (lU (aA.c B (af (pv 1) (af (pv 2) (af (pv 3) aj)))))) (ao (aF nM)) aN)
   (ah (bF (oY (lU (az (t8 rfl) (by rfl) T.n_all E7 (af (cR [("marks",2),("many",0)] ["rooms","price"] (aP (pv 4)) (λC ex s H=>(dH (n:=2) (K:=K) rfl rfl (aJ (a8 (i:=0) (show(["rooms","price","marks","many"]:List Str).Nodup from by decide) rfl (Or.inl rfl)) (aJ (a8 (i:=1) (show(["rooms","price","marks","many"]:List Str).Nodup from by decide) rfl (Or.inl rfl)) bT)))) pt_c (λC ex s H=>(ap.c B (af (pv 3) (af (pv 2) (af (pv 0) (af (pv 1) aj))))))) aj)))) (ao (aF nM)) aN)
   (ah (bF (oY (lU (az (t8 rfl) (by rfl) T.n_all E7 (af (cR [("paper",4)] ["link"] (aP (pv 1)) pg_c pt_c (λC ex s H=>(cE op_le (ae.c B (af (pv 0) (af (pv 1) aj))) (av b9 ai (gZ K (pv 0) ai)) (aE _)))) aj)))) (ao (aF nM)) aN)
   (ao (aF (cE cq (az (fx rfl) (by rfl) T.n_sum lx (af (cR [] ["rooms","price"] (aP (pv 4)) (λC ex s H=>(dH (n:=2) (K:=K) rfl rfl (aJ (a8 (i:=0) (show(["rooms","price"]:List Str).Nodup from by decide) rfl (Or.inl rfl)) (aJ (a8 (i:=1) (show(["rooms","price"]:List Str).Nodup from by decide) rfl (Or.inl rfl)) bT)))) pt_c (λC ex s H=>(pv 1))) aj)) (av b9 ai (am.c B (af (pv 1) (af (pv 3) aj)))) (aE _))))))),?_⟩
 refine⟨_,rfl,_,rfl,_,rfl,.ref a,m,u,ls,n,rfl,aL,ok,λt o=>?_⟩;refine⟨_,rfl,?_⟩
 cases j:jB ls m u with
 |false =>
  refine iteT ?_;have:=kk t o;unfold exB at this;rw[j,Iw]at this;exact this
 |true =>
  refine iteF ?_;refine⟨_,rfl,b,rfl,⟨_,SqL.of (o _ _ hB)⟩,cx (K:=K) (xs:=Y) (λi ws N=>Same H N/\ws=((r.take i).map (cB n m)).map V.bl) (big3 ∅) ⟨o,rfl⟩ (λi ws N _ z=>SqL.of (z.1 _ _ hB)) ?_ ?_ ?_⟩
  .rintro i x ws N O ⟨e,rfl⟩;obtain⟨p,v,q,rfl,y⟩:=hM.get O;refine⟨q,_,rfl,SqT.of (e _ _ y),rfl,_,_,rfl,_,_,rfl,rfl,rfl,yesT ⟨_,rfl,_,rfl,_,rfl,_,rfl,n,m,p,rfl,n1,λH3 s3=>⟨e.trans s3,?_⟩⟩⟩;rw[HH,v,Hv,Hv];rfl
  .rintro ws N ⟨e,rfl⟩ D hD;rw[zl,HL];have sD:=e.trans (ak hD (.lst ((r.map (cB n m)).map V.bl)));refine⟨D,r.map (cB n m),rfl,SqL.of ag,_,rfl,?_⟩;generalize upd N D (.lst ((r.map (cB n m)).map V.bl))=H3 at sD;have ea:(r.map (cB n m)).all id=r.all (cB n m):=by rw[List.all_map];rfl
   rw[ea]
   cases c:r.all (cB n m) with
   |false =>
    refine iteT ?_;have:=kk H3 sD;unfold exB at this;rw[j,c,IA,Iw]at this;exact this
   |true =>
    refine iteF ?_;refine⟨_,rfl,a,rfl,⟨_,SqL.of (sD _ _ hA)⟩,bg (K:=K) (xs:=M) (λi ws H4=>Same H H4/\ws=((ls.take i).map (lB r)).map V.bl) (big3 ∅) ⟨sD,rfl⟩ (λi ws H4 _ z=>SqL.of (z.1 _ _ hA)) ?_ ?_⟩
    .rintro i x ws H4 O ⟨s4,rfl⟩;obtain⟨l,L,ab⟩:=hL.get O;refine⟨_,rfl,_,rfl,x,.ref b,l,r,rfl,ab.mono s4,aT.mono s4,aI,λH5 s5=>?_⟩;obtain⟨q,rfl,y⟩:=ab.mono (s4.trans s5);refine⟨_,rfl,q,_,2,_,rfl,rfl,SqT.of y,a32,_,_,rfl,rfl,.inl ⟨by decide,by decide⟩,_,_,rfl,rfl,s4.trans s5,?_⟩
     rw[HH,L,Hv,Hv];rfl
    rintro ws H4 _ ⟨s4,rfl⟩ D4 aV;rw[yl,HL];have an:=s4.trans (ak aV (.lst ((ls.map (lB r)).map V.bl)));refine⟨D4,ls.map (lB r),rfl,SqL.of ag,_,rfl,?_⟩;generalize upd H4 D4 (.lst ((ls.map (lB r)).map V.bl))=H5 at an;have a0:(ls.map (lB r)).all id=ls.all (lB r):=by rw[List.all_map];rfl
    rw[a0]
    cases d:ls.all (lB r) with
    |false =>
     refine iteT ?_;have:=kk H5 an;unfold exB at this;rw[j,c,d,IA,IA,Iw]at this;exact this
    |true =>
     refine iteF ?_;refine⟨_,rfl,b,rfl,⟨_,SqL.of (an _ _ hB)⟩,cx (K:=K) (xs:=Y) (λi ws H6=>H6=H5/\ws=((r.take i).map (·.2)).map V.int) (big3 ∅) ⟨rfl,rfl⟩ (λi ws H6 _ z=>by rw[z.1];exact SqL.of (an _ _ hB)) ?_ ?_ ?_⟩
     .rintro i x ws H6 O ⟨rfl,rfl⟩;obtain⟨p,v,q,rfl,y⟩:=hM.get O;refine⟨q,_,rfl,SqT.of (an _ _ y),rfl,_,_,rfl,_,_,rfl,rfl,rfl,yesT ⟨_,rfl,rfl,?_⟩⟩;rw[HH,v,Hv,Hv];rfl
     .rintro ws H6 ⟨rfl,rfl⟩ D6 aS;rw[zl,HL];have s6:=ak aS (.lst ((r.map (·.2)).map V.int));refine⟨D6,r.map (·.2),rfl,SqL.of ag,_,rfl,_,rfl,.ref a,u,ls,rfl,aL.mono (an.trans s6),∅,λH7 s7=>⟨_,_,rfl,rfl,.inl ⟨by decide,by decide⟩,rfl,?_⟩⟩
      have:=kk H7 (an.trans (s6.trans s7));unfold exB at this;rw[j,c,d,IA,IA,IA,← ju]at this;exact this
     .rintro i ws H6 ⟨_,rfl⟩;rw[Hi,Hi,HW];omega
  .rintro i ws N ⟨_,rfl⟩;rw[Hi,Hi,HW];omega
theorem uk:∀(ns l:List Int),(ns.foldl addN l).length<=l.length+ns.length
 |[],_=>Hl _
 |k::ns,l=>by
  have:=uk ns (addN l k);have:=yr l k;rw[KY,HD];omega
theorem DR{b:Addr}{g:TG}{tb:TS}{D:Ends}(n:Nat)(Pv:Nat->St->Hp->Prop)(E:Pv 0 σ H)(M:n<=xs.length)(f:zs.length=n)(hl:∀ i σ H,i<=n->Pv i σ H->SqL K H a xs/\SqL K H b zs)
  (l:∀ i x z σ H T,xs[i]?=some x->zs[i]?=some z->Pv i σ H->H T=none->g (.ref T) σ (upd H T (.tup [x,z])) λc H2=>tb { D with nx:=Pv (i+1),ct:=Pv (i+1),bk:=D.nx } c H2) (hd:∀ σ H,Pv n σ H->D.nx σ H) :
  ∃ W:Nat->Nat->St->Hp->Prop,(∃ m,W 0 m σ H)/\∀ i m σ H,W i m σ H ->
   ((Itz K a b).stop i H/\D.nx σ H)∨((Itz K a b).go i H/\∃ N:St->Hp->Prop,(∀ σ' H',N σ' H'->∃ G,G<m/\W (i+1) G σ' H')/\∀ x H',(Itz K a b).yld i H x H'->g x σ H' λc H2=>tb { D with nx:=N,ct:=N,bk:=D.nx } c H2):=by
 refine⟨λi m σ H=>m=n-i/\i<=n/\Pv i σ H,⟨n,by simp,Ia _,E⟩,?_⟩
 rintro i m σ H ⟨rfl,d,p⟩;obtain⟨C,J⟩:=hl i σ H d p;by_cases L:i<n
 .have j:i<xs.length:=by omega
  have q:i<zs.length:=by omega
  refine .inr ⟨⟨xs,zs,xs[i],zs[i],C,J,by simp[j],by simp[q]⟩,Pv (i+1),λσ' H' o=>⟨n-(i+1),∅,rfl,L,o⟩,λv H' y=>?_⟩
  obtain⟨T,x,z,O,rfl,rfl,u,A⟩:=y;exact l i x z σ _ T (u xs C) (A zs J) p O
 .have e:i=n:=by omega
  subst e;exact .inl ⟨⟨xs,zs,C,J,.inr ∅⟩,hd σ H p⟩
theorem Eh(xs:List V):cutV xs (some 1) none=xs.drop 1:=by
 unfold cutV;have q:=HT.sIx_nat xs.length 0 1;rw[show((1:Nat):Int)=(1:Int) from rfl]at q;rw[q,HT.sIx_none];rw[IX (by rw[ID];omega)]
 by_cases h:1<=xs.length
 .rw[J1 h]
 .have e:xs = []:=JE.mp ∅
  subst e;rfl
theorem CZ(s:Same H H2){l:Addr}(hl:H l=none)(o:HO):Same H (upd H2 l o):=λb u e=>by
 rw[aq (λz=>by rw[z,hl]at e;cases e)]
 exact s _ _ e
theorem EO{α:Type} [DecidableEq α]:∀{l ps:List α},l.Nodup->(∀ x∈l,x∈ps)->l.length<=ps.length
 |[],_,_,_=>Ia _
 |x::l,ps,h,k=>by
  obtain⟨M,J⟩:=Hy.mp h;have m:=k x (Hu ..);have:=EO (l:=l) (ps:=ps.erase x) J λy G=>(List.mem_erase_of_ne (λ(e:y=x)=>M (by rw[← e];exact G))).mpr (k y (Hq _ G))
  rw[KH m]at this;have p:=IM m;rw[HD];omega
def PrM(n:Nat)(H:Hp)(v:V):Prop:=∃(t:Addr)(i:Int)(j:Nat),v=.ref t/\H t=some (.tup [.int i,.int (j:Int)])/\j<2^n
theorem PrM.mono(h:PrM n H v)(s:Same H H'):PrM n H' v:=by
 obtain⟨t,i,j,e,q,l⟩:=h;exact⟨t,i,j,e,s _ _ q,l⟩
inductive spDry(vs:List L2.V)(H:L2.Hp)(Q:L2.VK)(x3_:L2.XK):Prop
 |mk (v:V)(ta:Addr)(n:Nat)(ls:List Lk)(tops:List Int) (h0_:vs = [v,.ref ta])(h1_:LnAt H v ls)(h2_:Lok n ls)(h3_:H ta=some (.lst (tops.map V.int)))(h4_:tops.length=n)(h5_:n+ls.length<64)(h6_:∀(q:Addr)(out:List V) H',Same H H'->H' q=some (.lst out)->out.length=n+ls.length->(∀ y∈out,PrM n H' y)->Q (.ref q) H')
inductive EH(vs:List L2.V)(H:L2.Hp)(Q:L2.VK)(x3_:L2.XK):Prop
 |mk (p:Addr)(n rm:Nat)(ps:List Nat) (h0_:vs = [.ref p,.int (rm:Int)])(h1_:H p=some (.lst (ps.map iV)))(h2_:ps.length=n)(h3_:(∀ x∈ps,x<2^n))(h4_:rm<2^n)(h5_:n<=40)(h6_:∀(q:Addr)(qs:List Nat) H',Same H H'->H' q=some (.lst (qs.map iV))->qs.length=n->(∀ x∈qs,x<2^n)->Q (.ref q) H')
inductive spHills(TT:Addr)(vs:List L2.V)(H:L2.Hp)(Q:L2.VK)(x3_:L2.XK):Prop
 |mk (v:V)(n mk:Nat)(ls:List Lk) (h0_:vs = [.int (n:Int),v,.int (mk:Int)])(h1_:LnAt H v ls)(h2_:Lok n ls)(h3_:1<=n)(h4_:Conn n ls)(h5_:mk<2^n)(h6_:(bl mk).length%2=0)(h7_:(bl mk).length<=14)(h8_:n+ls.length<64)(h9_:Tb lqF lpF TT H)(h10_:∀(q:Addr)(r:List Pr) H',SmT H H'->Tb lqF lpF TT H'->PpAt H' (.ref q) r->r.length<=2560->(∀ p∈r,0<=p.1/\p.1<2^n)->Q (.ref q) H')
abbrev toI(o:List (Int×Int)):List (Key×V):=o.map λe=>(Sum.inl e.1,V.int e.2)
theorem Fq{o:List (Int×Int)}{y x:Int}(h:∀ e∈o,0<=e.1/\e.1<2^n)(G:0<=y/\y<2^n):∃ a:List (Int×Int),putK (toI o) (.inl y) (.int x)=toI a/\∀ e∈a,0<=e.1/\e.1<2^n:=by
 unfold putK;split
 .refine⟨o.map λe=>if e.1=y then(e.1,x) else e,?_,λe T=>?_⟩
  .unfold toI;rw[JN,JN];refine JW λe _=>?_;show(if(Sum.inl e.1:Key)=Sum.inl y then((Sum.inl e.1:Key),V.int x) else(Sum.inl e.1,V.int e.2))=_;by_cases z:e.1=y
   .rw[NA (congrArg _ z)];show _=((Sum.inl (if e.1=y then(e.1,x) else e).1:Key),V.int (if e.1=y then(e.1,x) else e).2);rw[NA z]
   .rw[NB (λq=>z (Sum.inl.inj q))];show _=((Sum.inl (if e.1=y then(e.1,x) else e).1:Key),V.int (if e.1=y then(e.1,x) else e).2);rw[NB z]
  .obtain⟨t,E,rfl⟩:=Ie.mp T;have:=h t E;split
   .exact this
   .exact this
 .refine⟨o++[(y,x)],by unfold toI;rw[Hv];rfl,λe T=>?_⟩
  rcases Hx.mp T with z | z
  .exact h e z
  .rw[HB.mp z];exact G
theorem zQ:∀(o:List (Int×Int))(y:Int),∃ x,(valV (toI o) (.inl y)).getD (.int 0)=V.int x
 |[],_=>⟨0,rfl⟩
 |e::r,y=>by
  by_cases z:e.1=y
  .exact⟨e.2,by show(valV ((Sum.inl e.1,V.int e.2)::toI r) (.inl y)).getD (.int 0)=_;rw[br (p:=(Sum.inl e.1,V.int e.2)) (k:=(Sum.inl y:Key)) (congrArg Sum.inl z)];rfl⟩
  .obtain⟨x,O⟩:=zQ r y;exact⟨x,by show(valV ((Sum.inl e.1,V.int e.2)::toI r) (.inl y)).getD (.int 0)=_;rw[bu (p:=(Sum.inl e.1,V.int e.2)) (k:=(Sum.inl y:Key)) (λq=>z (Sum.inl.inj q))];exact O⟩
theorem oW:ay ["links","tops","found"] ["links","tops"] (ar kA):=by ac_nf
theorem ok_dry (F:Fun K "dryings" "dryings" kA f fd) (T:TxtH mg):FnOk P w K mg base CX0 1 f fd ["links","tops"] spDry:=by
 refine F.ok oW (by walk_at "l") λc A g s H Y Q E u h=>?_
 obtain⟨v,ta,n,ls,ap,rfl,hV,ok,ac,tl,aa,p⟩:=h;have am:=ok.n1;have ae:=u.units;obtain⟨la,M,rfl,aV,hL⟩:=id hV
 refine⟨_,(ah (mr 2 [] ["room","top"] oW.nd (gm rfl T.n_enumerate (af (pv 1) aj)) (λC ex s H=>(dH (n:=2) (K:=K) rfl rfl (aJ (a8 (i:=0) (show(["room","top"]:List Str).Nodup from by decide) rfl (Or.inl rfl)) (aJ (a8 (i:=1) (show(["room","top"]:List Str).Nodup from by decide) rfl (Or.inl rfl)) bT)))) pt_c (λC ex s H=>(bh (af (av b9 ai (pv 1)) (af (av bJ ai (pv 0)) aj)))))
   (ah (aU (dB HC PySem.F.slot_list_extend PySem.F.type_list_extend AV (pv 2) (af (cR [("tops",1)] ["one","two","length"] (aP (pv 0)) (λC ex s H=>(dH (n:=3) (K:=K) rfl rfl (aJ (a8 (i:=0) (show(["one","two","length","tops"]:List Str).Nodup from by decide) rfl (Or.inl rfl)) (aJ (a8 (i:=1) (show(["one","two","length","tops"]:List Str).Nodup from by decide) rfl (Or.inl rfl)) (aJ (a8 (i:=2) (show(["one","two","length","tops"]:List Str).Nodup from by decide) rfl (Or.inl rfl)) bT))))) pt_c (λC ex s H=>(bh (af (av dM (av bE (sr K (pv 3) (pv 0)) (sr K (pv 3) (pv 1))) (pv 2)) (af (av AH (av bJ ai (pv 0)) (av bJ ai (pv 1))) aj))))) aj)))
   (ao (aF (so rfl rfl T.n_list rfl T.n_reversed (az zy (by rfl) T.n_sorted oy (af (pv 2) aj))))))),?_⟩
 have a0:(ap.map V.int).length=n:=by rw[Hi,tl]
 refine⟨_,rfl,ta,rfl,⟨_,SqL.of ac⟩,fO (K:=K) (xs:=ap.map V.int) (λi o N=>Same H N/\o.length=i/\∀ y∈o,PrM n N y) (HJ (aw ∅)) ⟨λ_ _ e=>e,rfl,λy G=>nomatch G⟩ (λi o N _ z=>SqL.of (z.1 _ _ ac)) ?_ ?_ (λi o N z=>by omega)⟩
 .rintro i x o N T2 O ⟨m,zl,hZ⟩ ab;have d:i<n:=by rw[← a0];exact(Hg.mp O).1
  have sT:=ak ab (.tup [.int (i:Int),x]);rw[Hr]at O;obtain⟨tp,a6,rfl⟩:=HF.mp O;refine⟨T2,_,rfl,SqT.of ag,rfl,_,_,rfl,_,_,rfl,rfl,rfl,yesT ?_⟩;refine⟨_,rfl,_,_,rfl,rfl,.inl ⟨by decide,by decide⟩,_,rfl,_,_,rfl,rfl,⟨∅,∅,by decide⟩,(by show 2<=LZ;decide),λt7 aT=>?_⟩
  have s7:=sT.trans (ak aT (.tup [.int (2*tp),.int (1*2^((i:Nat):Int).toNat)]));refine⟨m.trans s7,by rw[Hk,zl];rfl,λy G=>?_⟩
  rcases Hx.mp G with G | G
  .exact(hZ y G).mono s7
  .rw[HB.mp G];refine⟨t7,2*tp,2^i,rfl,?_,Ir (by decide) d⟩
   rw[← shlN i];exact ag
 rintro o N ⟨m,zl,hZ⟩ fa aI;rw[a0]at zl;have a5:H fa=none:=eu m aI;have z3:=ak aI (.lst o);have L:=m.trans z3;have a1:∀ y∈o,PrM n (upd N fa (.lst o)) y:=λy G=>(hZ y G).mono z3;have al:(upd N fa (.lst o)) fa=some (.lst o):=ag;generalize upd N fa (.lst o)=r at L a1 al;have a2:LsAt LkAt r M ls:=hL.imp λ_ _ y=>y.mono L;have yl:=a2.1;refine⟨_,rfl,.inl ⟨rfl,_,SqL.of al⟩,_,rfl,la,rfl,⟨_,SqL.of (L _ _ aV)⟩,cx (K:=K) (xs:=M) (λi ws H4=>Same r H4/\ws.length=i/\∀ y∈ws,PrM n H4 y) (HJ (aw ∅)) ⟨λ_ _ e=>e,rfl,λy G=>nomatch G⟩ (λi ws H4 _ z=>SqL.of (z.1 _ _ (L _ _ aV))) ?_ ?_ (λi ws H4 z=>by omega)⟩
 .rintro i x ws H4 O ⟨s4,wl,hW⟩;obtain⟨l,I,t,rfl,J⟩:=a2.get O;obtain⟨l1,l2⟩:=ok.sm l (Hh I);have an:∀ k,k<n->(ap.map V.int)[k]?=some (.int (ap.getD k 0)):=λk b=>by
   rw[Hr,Hz,Hf ∅]
   rfl
  have aS:=s4 _ _ (L _ _ ac);refine⟨t,_,rfl,SqT.of (s4 _ _ J),rfl,_,_,rfl,_,_,rfl,_,_,rfl,rfl,rfl,yesT ?_⟩;refine⟨_,rfl,_,rfl,ta,_,_,_,rfl,rfl,SqL.of aS,aC (an _ l1),_,rfl,_,rfl,ta,_,_,_,rfl,rfl,SqL.of aS,aC (an _ l2),_,_,rfl,rfl,_,rfl,_,_,rfl,rfl,?_⟩;refine⟨_,rfl,_,_,rfl,rfl,⟨∅,∅,by decide⟩,_,rfl,_,_,rfl,rfl,⟨∅,∅,by decide⟩,_,_,rfl,rfl,(by show 2<=LZ;decide),λt7 aT=>?_⟩
  have ex:Mv (1*2^((l.1:Nat):Int).toNat) (1*2^((l.2.1:Nat):Int).toNat)=((2^l.1|||2^l.2.1:Nat):Int):=by rw[shlN,shlN,orN]
  have s7:=ak aT (.tup [.int (ap.getD l.1 0+ap.getD l.2.1 0-l.2.2),.int (Mv (1*2^((l.1:Nat):Int).toNat) (1*2^((l.2.1:Nat):Int).toNat))]);refine⟨s4.trans s7,by rw[Hk,wl];rfl,λy G=>?_⟩
  rcases Hx.mp G with G | G
  .exact(hW y G).mono s7
  .rw[HB.mp G];refine⟨t7,ap.getD l.1 0+ap.getD l.2.1 0-l.2.2,2^l.1|||2^l.2.1,rfl,?_,KG (Ir (by decide) l1) (Ir (by decide) l2)⟩
   rw[← ex];exact ag
 rintro ws H4 ⟨s4,wl,hW⟩ D hD;have sD:=ak hD (.lst ws);have fD:fa≠D:=λz=>by rw[← z,s4 _ _ al]at hD;cases hD
 have aL:=s4.trans sD;refine⟨fa,D,o,ws,rfl,rfl,aL _ _ al,ag,HJ (aw ∅),?_⟩
 have s6:Same H (upd (upd H4 D (.lst ws)) fa (.lst (o++ws))):=CZ (L.trans aL) a5 _;have pk:∀ y,PrM n (upd H4 D (.lst ws)) y->PrM n (upd (upd H4 D (.lst ws)) fa (.lst (o++ws))) y:=λy ⟨t,i,j,e,q,l⟩=>⟨t,i,j,e,by rw[aq (λz=>by rw[z,aL _ _ al]at q;cases q)];exact q,l⟩
 have B:∀ y∈o++ws,PrM n (upd (upd H4 D (.lst ws)) fa (.lst (o++ws))) y:=λy G=>by
  refine pk y ?_;rcases Hx.mp G with G | G
  .exact(a1 y G).mono aL
  .exact(hW y G).mono sD
 have a3:(upd (upd H4 D (.lst ws)) fa (.lst (o++ws))) fa=some (.lst (o++ws)):=ag;generalize upd (upd H4 D (.lst ws)) fa (.lst (o++ws))=H6 at s6 B a3;have a4:(o++ws).length=n+ls.length:=by rw[Hk,zl,wl,yl]
 refine⟨_,rfl,fa,o++ws,rfl,SqL.of a3,λy G=>?_,∅,λl aA I ol om=>?_⟩
 .obtain⟨t,i,j,e,q,_⟩:=B y G;exact⟨t,i,_,e,q⟩
 have s7:=ak I (.lst aA);refine⟨l,aA,rfl,SqL.of ag,λq a=>?_⟩;have s8:=ak a (.lst aA.reverse);exact p q aA.reverse _ (s6.trans (s7.trans s8)) ag (by rw[Lb,ol,a4]) λy G=>(B y (om y (Ls.mp G))).mono (s7.trans s8)
theorem kh:ay ["pieces","rooms","piece","room"] ["pieces","rooms"] (ar mN):=by ac_nf
theorem ok_join (F:Fun K "joined" "joined" mN f fd) (T:Txt mg) (aa:Cal P w K mg base 1 "bits" ["mask"] lT a G):FnOk P w K mg base CX0 2 f fd ["pieces","rooms"] EH:=by
 refine F.ok kh (by walk_at "l") λI A g s H v Q E u h=>?_
 obtain⟨p,n,rm,ps,rfl,B,pl,pb,rb,am,J⟩:=h;have ap:(2:Nat)^40=1099511627776:=by decide
 have M:2^n<=2^40:=Im (by decide) am
 refine⟨_,(ah (aB 2 kh.nd (pv 1))
   (ah (bw PassesOwn.never rfl (aP (aa.c u (af (pv 1) aj))) (bY 3 kh.nd) (ao (aB 2 kh.nd (av AH (pv 2) (aR (pv 0) (pv 3))))))
   (ao (aF (cR [("piece",2)] ["room","before"] (gm rfl T.n_enumerate (af (pv 0) aj)) (λC ex s H=>(dH (n:=2) (K:=K) rfl rfl (aJ (a8 (i:=0) (show(["room","before","piece"]:List Str).Nodup from by decide) rfl (Or.inl rfl)) (aJ (a8 (i:=1) (show(["room","before","piece"]:List Str).Nodup from by decide) rfl (Or.inl rfl)) bT)))) pt_c (λC ex s H=>(iZ (aD cq (av eF (av cV (pv 2) (pv 0)) ai) ai (aE _)) (pv 2) (pv 1)))))))),?_⟩
 refine⟨_,rfl,_,rfl,(rm:Int),rfl,∅,∅,λr t o _ al=>?_⟩
 rw[Hn]at al;have aA:t r=some (.lst ((bl rm).map iV)):=al;have ae:=o _ _ B;have an:∀ k,k<n->(ps.map iV)[k]?=some (iV (ps.getD k 0))/\ps.getD k 0<2^n:=λk j=>by
  rw[Hr,Hz,Hf ∅]
  exact⟨rfl,pb _ (IT _)⟩
 refine⟨r,rfl,⟨_,SqL.of aA⟩,cu (K:=K) (xs:=(bl rm).map iV) (λi Y N=>∃(v3:Option V)(pc:Nat),Y = [some (.ref p),some (.int (rm:Int)),some (.int (pc:Int)),v3]/\N=t/\pc<2^n) ⟨_,rm,rfl,rfl,rb⟩ (λi Y N _ ac=>by obtain⟨_,_,_,z,_⟩:=ac;rw[z];exact SqL.of aA) ?_ ?_⟩
 .rintro i x Y N O ⟨v3,pc,rfl,rfl,aI⟩;rw[Hr]at O;obtain⟨k,j,rfl⟩:=HF.mp O;have kn:=oP rb (Hh j);obtain⟨a1,a2⟩:=an k kn;have ex:Mv (pc:Int) ((ps.getD k 0:Nat):Int)=((pc|||ps.getD k 0:Nat):Int):=orN _ _
  refine⟨_,rfl,_,rfl,_,rfl,p,_,_,_,rfl,rfl,SqL.of ae,aC a1,_,_,rfl,rfl,?_⟩;simp only[ex];exact⟨_,_,rfl,rfl,KG aI a2⟩
 rintro Y N ⟨v3,pc,rfl,rfl,aI⟩;have aS:(ps.map iV).length=n:=by rw[Hi,pl]
 refine⟨_,rfl,p,rfl,⟨_,SqL.of ae⟩,fO (K:=K) (xs:=ps.map iV) (λi l H3=>Same N H3/\∃ qs:List Nat,l=qs.map iV/\qs.length=i/\∀ x∈qs,x<2^n) (HJ (aw ∅)) ⟨λ_ _ e=>e,[],rfl,rfl,λx O=>nomatch O⟩ (λi l H3 _ z=>SqL.of (z.1 _ _ ae)) ?_ ?_ (λi l H3 ac=>by obtain⟨_,qs,e,ql,_⟩:=ac;rw[e,Hi,ql];exact Hl _)⟩
 .rintro i x l H3 T2 O ⟨q,qs,rfl,ql,qb⟩ ab;have d:i<n:=by rw[← aS];exact(Hg.mp O).1
  have sT:=ak ab (.tup [.int (i:Int),x]);rw[Hr]at O;obtain⟨b,L,rfl⟩:=HF.mp O;have bb:=pb b (Hh L)
  have step:∀ y:Nat,y<2^n->∃ aL:List Nat,qs.map iV++[iV y]=aL.map iV/\aL.length=i+1/\∀ x∈aL,x<2^n:=λy m=>⟨qs++[y],by rw[Hv];rfl,by rw[Hk,ql];rfl,λx O=>by
   rcases Hx.mp O with O | O
   .exact qb x O
   .rw[HB.mp O];exact m⟩
  refine⟨T2,_,rfl,SqT.of ag,rfl,_,_,rfl,_,_,rfl,rfl,rfl,yesT ?_⟩;refine⟨_,rfl,_,rfl,_,_,rfl,rfl,(show(0:Int)<=(i:Int) by omega),_,_,rfl,rfl,rfl,_,rfl,ite2 (λc=>?_) (λc=>?_)⟩
  .exact⟨_,rfl,q.trans sT,step pc aI⟩
  .exact⟨_,rfl,q.trans sT,step b bb⟩
 rintro l H3 ⟨q,qs,rfl,ql,qb⟩ D hD;exact J D qs _ (o.trans (q.trans (ak hD _))) ag (by rw[ql,aS]) qb
theorem dt:ay ["many","links","marks","row","root","pieces","prices","drying","lower","levels","piece"] ["many","links","marks"] (ar qf):=by ac_nf
theorem ok_hills{TT f2 f3 f4:Addr}{aT a4:FuncData} (F:Fun K "hills" "hills" qf f fd) (T:TxtH mg) (a5:Cal P w K mg base 11 "heights" ["many","links","marks"] (spHts TT) I G) (a6:Cal P w K mg base 1 "dryings" ["links","tops"] spDry f2 J) (ap:Cal P w K mg base 2 "root_of" ["marks"] zW f3 aT) (a7:Cal P w K mg base 2 "joined" ["pieces","rooms"] EH f4 a4):FnOk P w K mg base CX0 12 f fd ["many","links","marks"] (spHills TT):=by
 refine F.ok dt (by walk_at "l") λaa A m s H vs Q E u h=>?_
 obtain⟨v,n,mk,ls,rfl,hV,ok,n1,hc,am,ev,fw,ab,aI,kk⟩:=h;have hu:=qN u;have aA:=ok.n1;have bp:(2:Nat)^40=1099511627776:=by decide
 have M:2^n<=2^40:=Im (by decide) aA
 refine⟨_,(ah (aB 3 dt.nd (a6.c u (af (pv 1) (af (a5.c u (af (pv 0) (af (pv 1) (af (pv 2) aj)))) aj))))
   (ah (aB 4 dt.nd (ap.c u (af (pv 2) aj)))
   (ah (mr 5 [] ["room"] dt.nd (aO rfl T.n_range (af (pv 0) aj)) pg_c pt_c (λC ex s H=>ai))
   (ah (aB 6 dt.nd kE)
   (ah (bw PassesOwn.never rfl (Az rfl T.n_zip (af (pv 3) (af (e8 hO (pv 3) (ik ai) iq) aj))) (nL rfl (aJ (bY 7 dt.nd) (aJ (bY 8 dt.nd) bT))) (ah (aB 5 dt.nd (a7.c u (af (pv 5) (af (aM (pv 7) ai) aj))))
   (ah (aB 9 dt.nd (av dM (aM (pv 7) ai) (aM (pv 8) ai)))
   (ao (bw PassesOwn.never rfl (aP (az (zx rfl rfl rfl) (by rfl) T.n_sorted oy (af (cz (Ce rfl rfl rfl rfl) (by rfl) T.n_set bt_set (af (pv 5) aj)) aj))) (bY 10 dt.nd) (ao (bF (PW.pt (EK (aD vf (pv 9) ai (aE _)) (EK (aD jj (pv 10) ai (aE _)) (FK (aD cq (av eF (av cV (pv 10) (pv 4)) ai) ai (aE _)))))) (ao (jO hu (pv 6) (pv 10) (av bE (C8 hu (pv 6) (pv 10) ai ⟨rfl,rfl,rfl,rfl⟩) (pv 9)) rfl)) aN)))))))
   (ao (aF (cz (zz rfl) (by rfl) T.n_list gQ (af (EN KL LP PySem.F.type_dict_items Dz (pv 6)) aj))))))))),?_⟩
 refine⟨_,rfl,_,rfl,_,rfl,_,rfl,v,n,mk,ls,rfl,hV,ok,n1,hc,am,ev,fw,aI,λp cs H1 aS bX B cl=>?_⟩;refine⟨v,p,n,ls,cs.map λc=>cs.getD (c9 mk) 0-c,rfl,hV.smT aS,ok,by rw[B,JN];rfl,by rw[Hi,cl],ab,λq out r s2 hq ol op=>?_⟩
 refine⟨_,rfl,mk,rfl,∅,λH3 s3=>?_⟩
 have rn:=qj am n1;refine⟨_,rfl,_,rfl,∅,∅,cj (n:=n) (λi zs H4=>H4=H3/\zs=(Hw i 0).map iV) (HJ (aw ∅)) ⟨rfl,rfl⟩ ?_ ?_⟩
 .rintro i zs H4 g ⟨rfl,rfl⟩;refine⟨rfl,?_⟩;rw[JR,Hv];rfl
 rintro zs H4 _ ⟨rfl,rfl⟩ pp cp;have s5:=ak cp (.lst ((Hw n 0).map iV));refine λd hd=>?_;have sd:=ak hd (.dK []);have bq:Same r (upd (upd H4 pp (.lst ((Hw n 0).map iV))) d (.dK [])):=s3.trans (s5.trans sd);have al:=bq _ _ hq;have bR:=sd _ _ (show upd H4 pp (.lst ((Hw n 0).map iV)) pp=_ from ag);have bd:r d=none:=eu (s3.trans s5) hd;have gd:(upd (upd H4 pp (.lst ((Hw n 0).map iV))) d (.dK [])) d=some (.dK []):=ag;have cd:∀ y∈out,PrM n (upd (upd H4 pp (.lst ((Hw n 0).map iV))) d (.dK [])) y:=λy hy=>(op y hy).mono bq;generalize upd (upd H4 pp (.lst ((Hw n 0).map iV))) d (.dK [])=H6 at bq al bR gd cd;refine⟨_,rfl,_,rfl,_,rfl,q,_,rfl,SqL.of al,λq7 aV=>?_⟩;rw[Eh];have s7:=ak aV (.lst (out.drop 1));have ct:q7≠d:=λz=>by rw[z,gd]at aV;cases aV
 have be:(upd H6 q7 (.lst (out.drop 1))) q7=some (.lst (out.drop 1)):=ag;have bv:=s7 _ _ gd;have ba:=bq.trans s7;have bU:=s7 _ _ bR;have cv:q≠d:=λz=>by rw[z,gd]at al;cases al
 have ce:∀ y∈out,PrM n (upd H6 q7 (.lst (out.drop 1))) y:=λy hy=>(cd y hy).mono s7;have bi:=s7 _ _ al;generalize upd H6 q7 (.lst (out.drop 1))=H7 at s7 be bv ba bU ce bi;have dl:(out.drop 1).length=out.length-1:=ID ..;have b6:∀{i:Nat}{x:V},(out.drop 1)[i]?=some x->x∈out:=λ{i x} e=>K4 (Hh e);have cf:∀{H9:Hp}{x:V},TbS d H7 H9->x∈out->PrM n H9 x:=λ{H9 x} sT O=>by
  obtain⟨t,i,j,e,z,l⟩:=ce x O;exact⟨t,i,j,e,sT _ _ (λy=>by rw[y,bv]at z;cases z) z,l⟩
 refine⟨q,q7,rfl,⟨_,SqL.of bi⟩,⟨_,SqL.of be⟩,DR (K:=K) (xs:=out) (zs:=out.drop 1) (out.length-1) (λi Y H9=>∃(v7 v8 v9 ac:Option V)(pa:Addr)(ps:List Nat)(kv:List (Int×Int)),Y = [some (.int (n:Int)),some v,some (.int (mk:Int)),some (.ref q),some (.int ((c9 mk:Nat):Int)),some (.ref pa),some (.ref d),v7,v8,v9,ac]/\TbS d H7 H9/\H9 d=some (.dK (toI kv))/\(∀ e∈kv,0<=e.1/\e.1<2^n)/\kv.length<=40*i/\H9 pa=some (.lst (ps.map iV))/\ps.length=n/\∀ x∈ps,x<2^n)
  ⟨_,_,_,_,pp,Hw n 0,[],rfl,λ_ _ _ e=>e,bv,(λe he=>by cases he),Hl _,bU,Jr,λx O=>by rw[List.eq_of_mem_replicate O];exact IG n⟩ (Nat.sub_le _ _) dl (λi Y H9 _ ae=>by obtain⟨_,_,_,_,_,_,_,_,sT,_⟩:=ae;exact⟨SqL.of (sT _ _ cv bi),SqL.of (sT _ _ ct be)⟩) ?_ ?_⟩
 .rintro i x z Y H9 T9 O hz ⟨v7,v8,v9,ac,pa,ps,kv,rfl,sT,bm,hint,kl,cw,pl,pb⟩ b0;have g:i<out.length-1:=by rw[← dl];exact(Hg.mp hz).1
  obtain⟨tx,ix,jx,rfl,cg,cD⟩:=cf sT (Hh O);obtain⟨tz,iz,jz,rfl,cO,c6⟩:=cf sT (b6 hz);have s9:=ak b0 (.tup [.ref tx,.ref tz]);refine⟨T9,_,rfl,SqT.of ag,rfl,_,_,rfl,_,_,rfl,rfl,?_⟩;refine⟨_,rfl,_,rfl,tx,_,1,_,rfl,rfl,SqT.of (s9 _ _ cg),at1,pa,n,jx,ps,rfl,s9 _ _ cw,pl,pb,cD,aA,λqa qs HA sA bB ql qb=>?_⟩;have bN:=s9.trans sA;refine⟨_,rfl,tx,_,0,_,rfl,rfl,SqT.of (bN _ _ cg),at0,_,rfl,tz,_,0,_,rfl,rfl,SqT.of (bN _ _ cO),at0,_,_,rfl,rfl,?_⟩;have en:qs.map iV=(qs.map λx:Nat=>(x:Int)).map V.int:=by rw[JN];rfl
  have nl:(qs.map λx:Nat=>(x:Int)).length=n:=by rw[Hi,ql]
  refine⟨_,rfl,qa,qs.map λx:Nat=>(x:Int),rfl,SqL.of (by rw[bB,en]),∅,λa ha=>?_⟩
  have ca:HA d=some (.dK (toI kv)):=bN _ _ bm;have cb:((qs.map λx:Nat=>(x:Int)).foldl addN []).length<64:=by
   have:=uk (qs.map λx:Nat=>(x:Int)) [];rw[Js]at this;omega
  refine⟨a,_,rfl,ag,cb,λl hs D mem pw=>?_⟩;have ld:l≠d:=λy=>by
   subst y;have N:=(ak ha (setO P w a ((qs.map λx:Nat=>(x:Int)).foldl addN []))) _ _ ca
   cases (D.symm.trans N)
  have qd:qa≠d:=λy=>by
   rw[y,ca]at bB;cases bB
  have bn:hs.length<=n:=by
   have h5:=EO (l:=hs) (ps:=qs.map λx:Nat=>(x:Int)) (pw.imp λh e=>by omega) λx O=>by
    have:=(mem x).mp O;rw[yq]at this;rcases this with h | h
    .cases h
    .exact h
   omega
  refine⟨l,rfl,⟨_,SqL.of ag⟩,cu (K:=K) (xs:=hs.map V.int) (λj Y HX=>∃(ac:Option V)(an:List (Int×Int)),Y = [some (.int (n:Int)),some v,some (.int (mk:Int)),some (.ref q),some (.int ((c9 mk:Nat):Int)),some (.ref qa),some (.ref d),some (.ref tx),some (.ref tz),some (.int (ix-iz)),ac]/\TbS d HA HX/\HX l=some (.lst (hs.map V.int))/\HX d=some (.dK (toI an))/\(∀ e∈an,0<=e.1/\e.1<2^n)/\an.length<=40*i+j) ⟨_,kv,rfl,λb o _ e=>((ak ha _).trans (ak D _)) _ _ e,ag,((ak ha _).trans (ak D _)) _ _ ca,hint,kl⟩ (λj Y HX _ ae=>by obtain⟨_,_,_,_,z,_⟩:=ae;exact SqL.of z) ?_ ?_⟩
  .rintro j y Y HX hy ⟨ac,an,rfl,sX,ch,bb,a0,ci⟩;have hj:j<hs.length:=by
    have:=(Hg.mp hy).1;rw[Hi]at this;exact this
   rw[Hr]at hy;obtain⟨yv,cT,rfl⟩:=HF.mp hy;have no:∃(ac:Option V)(an:List (Int×Int)),[some (V.int (n:Int)),some v,some (.int (mk:Int)),some (.ref q),some (.int ((c9 mk:Nat):Int)),some (.ref qa),some (.ref d),some (.ref tx),some (.ref tz),some (.int (ix-iz)),some (.int yv)] = [some (.int (n:Int)),some v,some (.int (mk:Int)),some (.ref q),some (.int ((c9 mk:Nat):Int)),some (.ref qa),some (.ref d),some (.ref tx),some (.ref tz),some (.int (ix-iz)),ac]/\TbS d HA HX/\HX l=some (.lst (hs.map V.int))/\HX d=some (.dK (toI an))/\(∀ e∈an,0<=e.1/\e.1<2^n)/\an.length<=40*i+(j+1):=⟨_,an,rfl,sX,ch,bb,a0,∅⟩
   refine⟨_,rfl,_,_,rfl,rfl,_,rfl,ite2 (λc1=>?_) (λc1=>no)⟩;refine⟨_,rfl,rfl,_,rfl,ite2 (λc2=>?_) (λc2=>no)⟩;refine⟨_,rfl,_,rfl,_,_,rfl,rfl,(show(0:Int)<=((c9 mk:Nat):Int) by omega),_,_,rfl,rfl,rfl,_,rfl,ite2 (λc3=>?_) (λc3=>no)⟩
   obtain⟨xv,bW⟩:=zQ an yv;have big:(toI an).length<LZ:=by
    rw[Hi];have:an.length<3000:=by omega
    exact Jy this (by decide)
   have yb:0<=yv/\yv<2^n:=by
    have:=(mem yv).mp (Hh cT);rw[yq]at this;rcases this with h | h
    .cases h
    .obtain⟨x,O,rfl⟩:=Ie.mp h;have:=qb x O;exact⟨∅,by exact_mod_cast this⟩
   obtain⟨a3,ck,cX⟩:=Fq (x:=xv+(ix-iz)) a0 yb;refine⟨_,rfl,d,rfl,.inl ⟨_,.inl bb⟩,_,rfl,_,DGet.k (k:=.inl yv) bb,_,rfl,_,_,bW,rfl,_,rfl,_,rfl,d,_,rfl,DPut.k (k:=.inl yv) bb big,?_⟩;rw[ck];refine⟨_,a3,rfl,(λb o nb e=>by rw[aq nb];exact sX b o nb e),by rw[aq ld];exact ch,ag,cX,?_⟩
   have:=cF (toI an) (.inl yv) (V.int (xv+(ix-iz)));rw[ck,Hi,Hi]at this;omega
  .rintro Y HX ⟨ac,an,rfl,sX,_,bb,a0,ci⟩;rw[Hi]at ci;exact⟨_,_,_,_,qa,qs,an,rfl,λb o nb e=>sX b o nb (bN _ _ (sT b o nb e)),bb,a0,∅,sX _ _ qd bB,ql,qb⟩
 .rintro Y H9 ⟨v7,v8,v9,ac,pa,ps,kv,rfl,sT,bm,hint,kl,_⟩;refine⟨_,rfl,.inr (.inr (.inl ⟨rfl,.inl ⟨_,bm⟩⟩)),d,_,rfl,rfl,bm,True.intro,λvw cY=>?_⟩;have sv:=ak cY (xZ vw d);refine⟨vw,d,toI kv,kv,rfl,ag,sv _ _ bm,rfl,λl L cc cn D co yl cZ=>?_⟩;have aL:Tb lqF lpF TT H7:=tb_same (tb_same bX s2) ba;refine kk l kv cc (λb o no e=>?_) (tb_same (Ey aL bv sT) (sv.trans cn)) ⟨l,L,rfl,co,yl,λi p B=>?_⟩ ∅ hint
  .have e2:=s2 _ _ (aS b o no e)
   exact cn _ _ (sv _ _ (sT b o (λz=>by rw[z,bd]at e2;cases e2) (ba _ _ e2)))
  .obtain⟨t,a1,a2⟩:=cZ i p B;exact⟨_,a1,t,rfl,a2⟩
end KF
namespace L2
theorem len_0{l:List α}(h:l.length=0):l = []:=JE.mp h
theorem yJ{l:List α}(h:l.length=n+1):∃ x r,l=x::r/\r.length=n:=by
 cases l with
 |nil=>cases h
 |cons x r=>exact⟨x,r,rfl,Nat.succ.inj h⟩
theorem Gg{l:List α}(h:l.length=1):∃ a,l = [a]:=by
 obtain⟨a,r,rfl,e⟩:=yJ h;exact⟨a,by rw[len_0 e]⟩
theorem Ge{l:List α}(h:l.length=2):∃ a b,l = [a,b]:=by
 obtain⟨a,r,rfl,e⟩:=yJ h;obtain⟨b,rfl⟩:=Gg e;exact⟨a,b,rfl⟩
theorem len_3{l:List α}(h:l.length=3):∃ a b c,l = [a,b,c]:=by
 obtain⟨a,r,rfl,e⟩:=yJ h;obtain⟨b,c,rfl⟩:=Ge e;exact⟨a,b,c,rfl⟩
theorem Gd{l:List α}(h:l.length=4):∃ a b c d,l = [a,b,c,d]:=by
 obtain⟨a,r,rfl,e⟩:=yJ h;obtain⟨b,c,d,rfl⟩:=len_3 e;exact⟨a,b,c,d,rfl⟩
theorem len_5{l:List α}(h:l.length=5):∃ a b c d e,l = [a,b,c,d,e]:=by
 obtain⟨a,r,rfl,z⟩:=yJ h;obtain⟨b,c,d,e,rfl⟩:=Gd z;exact⟨a,b,c,d,e,rfl⟩
theorem len_6{l:List α}(h:l.length=6):∃ a b c d e f,l = [a,b,c,d,e,f]:=by
 obtain⟨a,r,rfl,z⟩:=yJ h;obtain⟨b,c,d,e,f,rfl⟩:=len_5 z;exact⟨a,b,c,d,e,f,rfl⟩
end L2
namespace K8
theorem sub_le:∀{a b:List Nat},a.Nodup->(∀ x∈a,x∈b)->a.length<=b.length
 |[],_,_,_=>Ia _
 |x::a,b,Q,h=>by
  obtain⟨E,C⟩:=Hy.mp Q;have O:=h x (by simp)
  have Y:=sub_le (a:=a) (b:=b.erase x) C λy G=>(List.mem_erase_of_ne (λe:y=x=>E (e▸G))).mpr (h y (Hq _ G));rw[KH O]at Y;have:0<b.length:=IM O;rw[HD];omega
theorem dh{a:List Nat}(nd:a.Nodup)(h:∀ x∈a,x<N):a.length<=N:=by
 have:=sub_le (b:=IC N) nd λx O=>Je.mpr (h x O);rwa[Jb]at this
theorem xX(nd:l.Nodup){x:Nat}(hi:l[i]?=some x)(c:l[j]?=some x):i=j:=by
 have p:=JT.mp nd;obtain⟨M,G⟩:=Hg.mp hi;obtain⟨J,E⟩:=Hg.mp c;rcases Nat.lt_trichotomy i j with z | z | z
 .exact NC (G.trans E.symm) (p i j M J z)
 .exact z
 .exact NC (E.trans G.symm) (p j i J M z)
abbrev En:=List (Nat×Nat)
structure bO(m:Nat)(es:En)(ts:List (List Nat)):Prop where
 len:ts.length=m
 ends:∀ e∈es,e.1<m/\e.2<m/\e.1≠e.2
 nd:∀(p:Nat)(l:List Nat),ts[p]?=some l->l.Nodup
 mem:∀(p:Nat)(l:List Nat),ts[p]?=some l->∀ t,t∈l↔∃ e,es[t]?=some e/\(e.1=p∨e.2=p)
theorem CI(m:Nat):bO m [] (Hw m []) where
 len:=by simp
 ends:=λe h=>by cases h
 nd:=λp l h=>by
  rw[Jh]at h;split at h
  .cases h;exact Jd
  .cases h
 mem:=λp l h t=>by
  rw[Jh]at h;split at h
  .cases h;simp
  .cases h
def ins(l:List Nat)(k x:Nat):List Nat:=l.take k++x::l.drop k
theorem vE{k x y:Nat}:y∈ins l k x↔y=x∨y∈l:=by
 unfold ins;rw[Hx,Hs];have:=JM k l;constructor
 .rintro(h | h | h)
  .exact .inr (List.mem_of_mem_take h)
  .exact .inl h
  .exact .inr (K4 h)
 .rintro(h | h)
  .exact .inr (.inl h)
  .rw[← this]at h;rcases Hx.mp h with z | z
   .exact .inl z
   .exact .inr (.inr z)
theorem Bl{k x:Nat}(nd:l.Nodup)(h:x∉l):(ins l k x).Nodup:=by
 unfold ins;have e:=JM k l;rw[← e]at nd;obtain⟨a,b,c⟩:=HP.mp nd;refine HP.mpr ⟨a,Hy.mpr ⟨λz=>h (K4 z),b⟩,λy G z A=>?_⟩;rcases Hs.mp A with q | q
 .intro w;exact h (by rw[← q,← w];exact List.mem_of_mem_take G)
 .exact c y G z q
theorem bO.put{es:En}{one two k:Nat}(w:bO m es ts)(M:one<m)(h2:two<m)(g:one≠two)(e1:ts[one]?=some l)(E:ts[two]?=some l') :
  bO m (es++[(one,two)]) ((ts.set one (ins l k es.length)).set two (ins l' j es.length)):=by
 have u:∀{p l},ts[p]?=some l->es.length∉l:=λ{p l} e z=>by
  obtain⟨x,O,_⟩:=(w.mem p l e es.length).mp z;have:=(Hg.mp O).1;omega
 have get:∀ p q,((ts.set one (ins l k es.length)).set two (ins l' j es.length))[p]?=some q->(p=two/\q=ins l' j es.length)∨(p=one/\p≠two/\q=ins l k es.length)∨(p≠one/\p≠two/\ts[p]?=some q):=λp q e=>by
  have L:two<(ts.set one (ins l k es.length)).length:=by rw[Il,w.len];exact h2
  have c:one<ts.length:=by rw[w.len];exact M
  rw[Ip]at e;by_cases z:two=p
  .rw[NA z,NA L]at e;exact .inl ⟨z.symm,(HM e).symm⟩
  .rw[NB z,Ip]at e;by_cases y:one=p
   .rw[NA y,NA c]at e;exact .inr (.inl ⟨y.symm,Ne.symm z,(HM e).symm⟩)
   .rw[NB y]at e;exact .inr (.inr ⟨Ne.symm y,Ne.symm z,e⟩)
 have a:∀ t x,(es++[(one,two)])[t]?=some x↔(es[t]?=some x)∨(t=es.length/\x=(one,two)):=λt x=>by
  by_cases z:t<es.length
  .rw[Ho z];constructor
   .exact .inl
   .rintro(y | y)
    .exact y
    .omega
  .rw[Hm ∅]
   constructor
   .intro y;have D:=(Hg.mp y).1;rw[Ht]at D;have J:t=es.length:=by omega
    subst J;rw[HQ]at y
    cases y
    exact .inr ⟨rfl,rfl⟩
   .rintro(y | ⟨y,rfl⟩)
    .have:=(Hg.mp y).1;omega
    .rw[y,HQ];rfl
 refine⟨by rw[Il,Il];exact w.len,λe T=>?_,λp q e=>?_,λp q e t=>?_⟩
 .rcases Hx.mp T with z | z
  .exact w.ends e z
  .have:e=(one,two):=by simpa using z
   subst this;exact⟨M,h2,g⟩
 .rcases get p q e with⟨_,rfl⟩ | ⟨_,_,rfl⟩ | ⟨_,_,y⟩
  .exact Bl (w.nd two l' E) (u E)
  .exact Bl (w.nd one l e1) (u e1)
  .exact w.nd p q y
 .rcases get p q e with⟨rfl,rfl⟩ | ⟨rfl,d,rfl⟩ | ⟨b,C,y⟩
  .rw[vE,w.mem p l' E t];constructor
   .rintro(z | ⟨x,O,B⟩)
    .exact⟨(one,p),(a _ _).mpr (.inr ⟨z,rfl⟩),.inr rfl⟩
    .exact⟨x,(a _ _).mpr (.inl O),B⟩
   .rintro⟨x,O,B⟩;rcases(a _ _).mp O with z | ⟨z,_⟩
    .exact .inr ⟨x,z,B⟩
    .exact .inl z
  .rw[vE,w.mem p l e1 t];constructor
   .rintro(z | ⟨x,O,B⟩)
    .exact⟨(p,two),(a _ _).mpr (.inr ⟨z,rfl⟩),.inl rfl⟩
    .exact⟨x,(a _ _).mpr (.inl O),B⟩
   .rintro⟨x,O,B⟩;rcases(a _ _).mp O with z | ⟨z,_⟩
    .exact .inr ⟨x,z,B⟩
    .exact .inl z
  .rw[w.mem p q y t];constructor
   .rintro⟨x,O,B⟩;exact⟨x,(a _ _).mpr (.inl O),B⟩
   .rintro⟨x,O,B⟩;rcases(a _ _).mp O with z | ⟨z,rfl⟩
    .exact⟨x,z,B⟩
    .rcases B with B | B
     .exact NC B.symm b
     .exact NC B.symm C
def hd(es:En)(d:Nat):Nat:=match es[d/2]? with | some e=>if d%2=0 then e.2 else e.1 | none=>0
def tl(es:En)(d:Nat):Nat:=match es[d/2]? with | some e=>if d%2=0 then e.1 else e.2 | none=>0
def leave(es:En)(t p:Nat):Nat:=match es[t]? with | some e=>if e.1=p then 2*t else 2*t+1 | none=>0
def nxt(l:List Nat)(t:Nat):Nat:=(l[(l.idxOf t+1)%l.length]?).getD 0
def fol(es:En)(ts:List (List Nat))(d:Nat):Nat:=leave es (nxt ((ts[hd es d]?).getD []) (d/2)) (hd es d)
section
variable{m:Nat}{es:En}{ts:List (List Nat)}
theorem vF{t:Nat}(h:t∈l):l[l.idxOf t]?=some t:=by
 have D:=KI.mpr h;rw[Hf D,List.getElem_idxOf]
theorem gp{t:Nat}(h:t∈l):l[(l.idxOf t+1)%l.length]?=some (nxt l t):=by
 have D:0<l.length:=IM h;have:=JX (l.idxOf t+1) D;unfold nxt;rw[Hf this];rfl
theorem bO.at(w:bO m es ts){d:Nat}(h:d<2*es.length):∃ e l,es[d/2]?=some e/\hd es d=(if d%2=0 then e.2 else e.1)/\tl es d=(if d%2=0 then e.1 else e.2)/\hd es d<m/\ts[hd es d]?=some l/\d/2∈l:=by
 have D:d/2<es.length:=by omega
 have G:es[d/2]?=some es[d/2]:=Hf D;have q:=w.ends _ (Hh G);generalize es[d/2]=e at G q;have M:hd es d=(if d%2=0 then e.2 else e.1):=by unfold hd;rw[G]
 have J:tl es d=(if d%2=0 then e.1 else e.2):=by unfold tl;rw[G]
 have f:hd es d<m:=by rw[M];split<;>omega
 have C:ts[hd es d]?=some (ts[hd es d]'(by rw[w.len];exact f)):=Hf _
 refine⟨e,_,G,M,J,f,C,(w.mem _ _ C _).mpr ⟨e,G,?_⟩⟩;rw[M];split
 .exact .inr rfl
 .exact .inl rfl
theorem bO.foll(w:bO m es ts){d:Nat}(h:d<2*es.length):∃ l e,ts[hd es d]?=some l/\d/2∈l/\es[nxt l (d/2)]?=some e/\(e.1=hd es d∨e.2=hd es d)/\e.1≠e.2/\fol es ts d=(if e.1=hd es d then 2*nxt l (d/2) else 2*nxt l (d/2)+1)/\fol es ts d<2*es.length/\fol es ts d/2=nxt l (d/2)/\tl es (fol es ts d)=hd es d:=by
 obtain⟨t,l,M,J,f,C,o,u⟩:=w.at h;have g:=gp u;obtain⟨e,T,B⟩:=(w.mem _ _ o _).mp (Hh g);have L:=(Hg.mp T).1;have r:=(w.ends e (Hh T)).2.2;have a:fol es ts d=(if e.1=hd es d then 2*nxt l (d/2) else 2*nxt l (d/2)+1):=by
  unfold fol;rw[o];show leave es (nxt l (d/2)) (hd es d)=_;unfold leave;rw[T]
 refine⟨l,e,o,u,T,B,r,a,?_,?_,?_⟩
 .rw[a];split<;>omega
 .rw[a];split<;>omega
 .rw[a];by_cases z:e.1=hd es d
  .have I:2*nxt l (d/2)/2=nxt l (d/2):=by omega
   have s:2*nxt l (d/2)%2=0:=by omega
   rw[NA z];unfold tl;rw[I,T];show(if 2*nxt l (d/2)%2=0 then e.1 else e.2)=_;rw[NA s,z]
  .have I:(2*nxt l (d/2)+1)/2=nxt l (d/2):=by omega
   have s:¬ (2*nxt l (d/2)+1)%2=0:=by omega
   rw[NB z];unfold tl;rw[I,T];show(if(2*nxt l (d/2)+1)%2=0 then e.1 else e.2)=_;rw[NB s];exact B.elim (λy=>NC y z) id
theorem bO.inj(w:bO m es ts){a b:Nat}(A:a<2*es.length)(L:b<2*es.length)(h:fol es ts a=fol es ts b):a=b:=by
 obtain⟨l,e,N,I,_,_,_,_,_,p,M⟩:=w.foll A;obtain⟨c,t,C,n,_,_,_,_,_,d,Y⟩:=w.foll L;have H:hd es a=hd es b:=by rw[← M,← Y,h]
 rw[H,C]at N
 cases N
 have O:nxt l (a/2)=nxt l (b/2):=by rw[← p,← d,h]
 have q:=gp I;have k:=gp n;rw[O]at q;have T:=xX (w.nd _ _ C) q k;have s:=KI.mpr I;have u:=KI.mpr n;have i:l.idxOf (a/2)=l.idxOf (b/2):=by
  generalize l.idxOf (a/2)=x at *;generalize l.idxOf (b/2)=y at *;by_cases B:x+1=l.length
  .by_cases Q:y+1=l.length
   .omega
   .rw[B,KU,I9 ∅]at T;omega
  .by_cases Q:y+1=l.length
   .rw[Q,KU,I9 ∅]at T;omega
   .rw[I9 ∅,I9 ∅]at T;omega
 have J:a/2=b/2:=by
  have D:=vF I;have f:=vF n;rw[i,f]at D;exact(HM D).symm
 obtain⟨G,_,o,g,_,_,_,_⟩:=w.at A;obtain⟨E,_,j,v,_,_,_,_⟩:=w.at L;rw[J,j]at o;have z:E=G:=HM o;rw[z]at j v;have r:=(w.ends G (Hh j)).2.2;rw[g,v]at H;have:a%2=b%2:=by
  by_cases B:a%2=0<;>by_cases Q:b%2=0
  .omega
  .rw[NA B,NB Q]at H;exact NC H.symm r
  .rw[NB B,NA Q]at H;exact NC H r
  .omega
 omega
end
structure CA(f:Nat->Nat)(N:Nat):Prop where
 lt:∀ d,d<N->f d<N
 inj:∀ a b,a<N->b<N->f a=f b->a=b
structure Path(f:Nat->Nat)(N first:Nat)(r:List Nat):Prop where
 hd:r[0]?=some first
 lt:∀ d∈r,d<N
 nd:r.Nodup
 nx:∀ i x y,r[i]?=some x->r[i+1]?=some y->y=f x
theorem xQ{f:Nat->Nat}{d:Nat}(h:d<N):Path f N d [d] where
 hd:=rfl
 lt:=λx O=>by have:x=d:=by simpa using O
              rw[this];exact h
 nd:=by simp
 nx:=λi x y M J=>by
  have:=(Hg.mp J).1;rw[Ht]at this;omega
theorem Path.snoc{f:Nat->Nat}{d x:Nat}{r:List Nat}(p:CA f N)(h:Path f N d (r++[x]))(g:f x≠d):Path f N d (r++[x]++[f x]) where
 hd:=by rw[Ho (by rw[Hk,Ht];omega)];exact h.hd
 lt:=λy Q=>by
  rcases Hx.mp Q with z | z
  .exact h.lt y z
  .have:y=f x:=by simpa using z
   rw[this];exact p.lt x (h.lt x (by simp))
 nd:=by
  refine HP.mpr ⟨h.nd,by simp,λa A b L e=>?_⟩
  have O:b=f x:=by simpa using L
  subst O;obtain⟨i,o⟩:=Ih.mp A;rw[e]at o;have c:=(Hg.mp o).1;rw[Hk,Ht]at c
  cases i with
  |zero =>
   rw[h.hd]at o;exact g (HM o).symm
  |succ i =>
   have j:(r++[x])[i]?=some ((r++[x])[i]'(by rw[Hk,Ht];omega)):=Hf _
   have:=h.nx i _ _ j o;have q:=h.lt _ (Hh j);have k:=h.lt x (by simp)
   have E:=p.inj _ _ k q this;rw[← E]at j;have n:(r++[x])[r.length]?=some x:=by rw[Hm (Hl _),HQ];rfl
   have:=xX h.nd j n;omega
 nx:=λi a b M J=>by
  have m:=(Hg.mp J).1;rw[Hk,Hk,Ht,Ht]at m;rw[Ho (by rw[Hk,Ht];omega)]at M
  by_cases z:i+1<(r++[x]).length
  .rw[Ho z]at J;exact h.nx i a b M J
  .rw[Hk,Ht]at z;have l:i=r.length:=by omega
   subst l;rw[Hm (by rw[Hk,Ht];omega)]at J
   have:r.length+1-(r++[x]).length=0:=by rw[Hk,Ht];omega
   rw[this]at J;rw[Hm (Hl _),HQ]at M;have G:x=a:=HM M;have E:f x=b:=HM J;rw[← E,G]
structure Ring(f:Nat->Nat)(N:Nat)(r:List Nat):Prop where
 lt:∀ d∈r,d<N
 nd:r.Nodup
 ne:0<r.length
 nx:∀ i x,r[i]?=some x->r[(i+1)%r.length]?=some (f x)
theorem Path.ring{f:Nat->Nat}{d x:Nat}{r:List Nat}(p:CA f N)(h:Path f N d (r++[x]))(T:f x=d):Ring f N (r++[x]) where
 lt:=h.lt
 nd:=h.nd
 ne:=by rw[Hk,Ht];omega
 nx:=λi y G=>by
  have D:=(Hg.mp G).1;by_cases z:i+1=(r++[x]).length
  .rw[z,KU];have:i=r.length:=by rw[Hk,Ht]at z;omega
   subst this;rw[Hm (Hl _),HQ]at G;have:x=y:=HM G;subst this;rw[T];exact h.hd
  .have Q:i+1<(r++[x]).length:=by omega
   rw[I9 Q];have g:=Hf Q;rw[g,h.nx i _ _ G g]
theorem Ring.back{f:Nat->Nat}{a:Nat}{r:List Nat}(p:CA f N)(h:Ring f N r)(A:a<N)(u:f a∈r):a∈r:=by
 obtain⟨i,d⟩:=Ih.mp u;have D:=(Hg.mp d).1;have Y:∃ j,j<r.length/\(j+1)%r.length=i:=by
  cases i with
  |zero=>exact⟨r.length-1,by have:=h.ne;omega,by have:=h.ne;rw[show r.length-1+1=r.length by omega,KU]⟩
  |succ i=>exact⟨i,∅,I9 D⟩
 obtain⟨j,c,C⟩:=Y;have g:=Hf c;have q:=h.nx j _ g;rw[C,d]at q;have b:=h.lt _ (Hh g);have:=p.inj _ _ A b (HM q);rw[this];exact Hh g
structure bx(f:Nat->Nat)(N i:Nat)(rs:List (List Nat)):Prop where
 ring:∀ r∈rs,Ring f N r
 hdl:∀ r∈rs,∀ h,r[0]?=some h->h<i/\∀ d∈r,h<=d
 asc:∀(a b:Nat)(r r':List Nat)(h h':Nat),a<b->rs[a]?=some r->rs[b]?=some r'->r[0]?=some h->r'[0]?=some h'->h<h'
 nd:rs.flatten.Nodup
 all:∀ d,d<i->d∈rs.flatten
theorem oX(f:Nat->Nat)(N:Nat):bx f N 0 [] where
 ring:=λr h=>by cases h
 hdl:=λr h=>by cases h
 asc:=λa b r D h M _ e=>by cases e
 nd:=by simp
 all:=λd h=>by omega
theorem bx.skip{f:Nat->Nat}(w:bx f N i rs)(h:i∈rs.flatten):bx f N (i+1) rs where
 ring:=w.ring
 hdl:=λr u x O=>⟨by have:=(w.hdl r u x O).1;omega,(w.hdl r u x O).2⟩
 asc:=w.asc
 nd:=w.nd
 all:=λd hd=>by
  by_cases z:d=i
  .rw[z];exact h
  .exact w.all d ∅
theorem bx.put{f:Nat->Nat}{r:List Nat}(p:CA f N)(w:bx f N i rs)(h:i∉rs.flatten)(hi:i<N)(u:Ring f N r)(c:Path f N i r):bx f N (i+1) (rs++[r]):=by
 have j:∀(k x:Nat),r[k]?=some x->x∉rs.flatten:=λk=>by
  induction k with
  |zero =>
   intro x O;rw[c.hd]at O
   cases O
   exact h
  |succ k Y =>
   intro x O z;have D:=(Hg.mp O).1;have g:=Hf (show k<r.length by omega)
   have e:=c.nx k _ _ g O;obtain⟨q,n,l⟩:=Ij.mp z;rw[e]at l;exact Y _ g (Ij.mpr ⟨q,n,(w.ring q n).back p (u.lt _ (Hh g)) l⟩)
 have vx:∀ d∈r,i<=d:=λd hd=>by
  obtain⟨k,C⟩:=Ih.mp hd;by_cases z:i<=d
  .exact z
  .exact NC (w.all d ∅) (j k d C)
 refine⟨λq n=>?_,λq n x O=>?_,λa b q J x Q m A L O H=>?_,?_,λd hd=>?_⟩
 .rcases Hx.mp n with z | z
  .exact w.ring q z
  .have:q=r:=by simpa using z
   rw[this];exact u
 .rcases Hx.mp n with z | z
  .have:=w.hdl q z x O
   exact⟨∅,this.2⟩
  .have e:q=r:=by simpa using z
   subst e;rw[c.hd]at O
   cases O
   exact⟨∅,vx⟩
 .have bl:=(Hg.mp L).1
  rw[Hk,Ht]at bl;rw[Ho ∅]at A
  by_cases z:b<rs.length
  .rw[Ho z]at L;exact w.asc a b q J x Q m A L O H
  .have G:b=rs.length:=by omega
   subst G;rw[Hm (Hl _),HQ]at L;have e:r=J:=HM L;subst e;rw[c.hd]at H
   cases H
   exact(w.hdl q (Hh A) x O).1
 .rw[IE];have e : [r].flatten=r:=by simp
  rw[e];refine HP.mpr ⟨w.nd,u.nd,λa A b L e=>?_⟩;obtain⟨k,C⟩:=Ih.mp L;exact j k b C (e▸A)
 .rw[IE,Hx];by_cases z:d=i
  .right;rw[z];simp;exact Hh c.hd
  .exact .inl (w.all d ∅)
theorem n9(nd:rs.flatten.Nodup){a b:Nat}{r:List Nat}{d:Nat}(A:rs[a]?=some r)(L:rs[b]?=some r')(M:d∈r)(h2:d∈r'):a=b:=by
 induction rs generalizing a b with
 |nil=>cases A
 |cons q rs Y =>
  rw[Iq]at nd;obtain⟨_,C,T⟩:=HP.mp nd
  cases a with
  |zero =>
   cases b with
   |zero=>rfl
   |succ b =>
    have e:q=r:=HM A;subst e;exact NC rfl (T d M d (Ij.mpr ⟨r',Hh L,h2⟩))
  |succ a =>
   cases b with
   |zero =>
    have e:q=r':=HM L;subst e;exact NC rfl (T d h2 d (Ij.mpr ⟨r,Hh A,M⟩))
   |succ b=>exact congrArg Nat.succ (Y C A L)
def chain(f:Nat->Nat):Nat->List Nat->Nat->Prop
 |x,[],z=>f x=z
 |x,y::l,z=>f x=y/\chain f y l z
theorem gP{f:Nat->Nat}:∀{x:Nat}{l:List Nat}{y:Nat}{k:List Nat}{z:Nat},chain f x (l++y::k) z↔chain f x l y/\chain f y k z
 |x,[],y,k,z=>Iff.rfl
 |x,a::l,y,k,z=>by
  show(f x=a/\chain f a (l++y::k) z)↔(f x=a/\chain f a l y)/\chain f y k z;rw[gP,and_assoc]
theorem lg{f g:Nat->Nat}:∀{x y:Nat}{l:List Nat}{z:Nat},chain f x l z->g y=f x->(∀ t∈l,g t=f t)->chain g y l z
 |x,y,[],z,h,e,_=>e.trans h
 |x,y,a::l,z,h,e,k=>⟨e.trans h.1,lg h.2 (k a (Hu ..)) λt J=>k t (Hq _ J)⟩
theorem tZ{f g F:Nat->Nat}:∀{x:Nat}{l:List Nat}{z:Nat},chain f x l z->(∀ t∈x::l,g (F t)=F (f t))->chain g (F x) (l.map F) (F z)
 |x,[],z,h,k=>by
  show g (F x)=F z;rw[k x (Hu ..),show f x=z from h]
 |x,a::l,z,h,k=>⟨by rw[k x (Hu ..),h.1],tZ h.2 λt J=>k t (Hq _ J)⟩
theorem oq{f:Nat->Nat}{S:Nat->Prop}:∀{x:Nat}{l:List Nat}{z:Nat},chain f x l z->(∀ t∈x::l,S t->S (f t))->S x->S z/\∀ t∈l,S t
 |x,[],z,h,k,s=>⟨by have:=k x (Hu ..) s;rwa[show f x=z from h]at this,λt N=>nomatch N⟩
 |x,a::l,z,h,k,s=>by
  have j:S a:=by have:=k x (Hu ..) s;rwa[h.1]at this
  obtain⟨M,J⟩:=oq h.2 (λt N=>k t (Hq _ N)) j;refine⟨M,λt N=>?_⟩;rcases Hs.mp N with y | y
  .rw[y];exact j
  .exact J t y
structure CR(f:Nat->Nat)(N:Nat)(r:List Nat):Prop where
 ch:∃ x l,r=x::l/\chain f x l x
 lt:∀ d∈r,d<N
 nd:r.Nodup
theorem CR.closed{f:Nat->Nat}{r:List Nat}(h:CR f N r):∀ d∈r,f d∈r:=by
 obtain⟨x,l,rfl,c⟩:=h.ch;intro d hd;rcases Hs.mp hd with y | y
 .subst y
  cases l with
  |nil=>rw[show f d=d from c];exact Hu ..
  |cons a l=>rw[c.1];simp
 .obtain⟨A,B,rfl⟩:=Ky y;have c2:=(gP.mp c).2
  cases B with
  |nil=>rw[show f d=x from c2];exact Hu ..
  |cons a B=>rw[c2.1];simp
theorem CR.sub{f:Nat->Nat}{r:List Nat}{S:Nat->Prop}(h:CR f N r)(k:∀ t∈r,S t->S (f t)){d:Nat}(hd:d∈r)(s:S d):∀ t∈r,S t:=by
 obtain⟨x,l,rfl,c⟩:=h.ch;have a:S x->∀ t∈x::l,S t:=λo t J=>by
  rcases Hs.mp J with y | y
  .rw[y];exact o
  .exact(oq c k o).2 t y
 rcases Hs.mp hd with y | y
 .exact a (y▸s)
 .obtain⟨A,B,rfl⟩:=Ky y;have c2:=(gP.mp c).2;exact a (oq c2 (λt J=>k t (by simp only[Hs,Hx]at J ⊢;rcases J with z | z<;>simp[z])) s).1
theorem CR.same{f:Nat->Nat}{r:List Nat}(h:CR f N r)(h':CR f N r'){d:Nat}(M:d∈r)(h2:d∈r'):∀ t∈r,t∈r':=h.sub (S:=λt=>t∈r') (λt _=>h'.closed t) M h2
theorem CR.ne{f:Nat->Nat}{r:List Nat}(h:CR f N r):∃ d,d∈r:=by
 obtain⟨x,l,rfl,_⟩:=h.ch;exact⟨x,Hu ..⟩
structure Part(f:Nat->Nat)(N:Nat)(rs:List (List Nat)):Prop where
 cr:∀ r∈rs,CR f N r
 nd:rs.flatten.Nodup
 all:∀ d,d<N->d∈rs.flatten
theorem Part.pick{f:Nat->Nat}(p:Part f N rs){r:List Nat}(h:CR f N r):∃ rest,Part f N (r::rest)/\rest.length+1=rs.length:=by
 obtain⟨d,hd⟩:=h.ne;obtain⟨u,s,I⟩:=Ij.mp (p.all d (h.lt d hd));have c0:=p.cr u s;have j:=h.same c0 hd I;have m:=c0.same h I hd;obtain⟨A,B,rfl⟩:=Ky s;have Q:=p.nd;rw[IE,Iq]at Q;obtain⟨E,C,T⟩:=HP.mp Q;obtain⟨i,c,k⟩:=HP.mp C;refine⟨A++B,⟨λq n=>?_,?_,λy G=>?_⟩,by simp;omega⟩
 .rcases Hs.mp n with z | z
  .rw[z];exact h
  .refine p.cr q ?_;rcases Hx.mp z with z | z
   .simp[z]
   .simp[z]
 .rw[Iq,IE];refine HP.mpr ⟨h.nd,HP.mpr ⟨E,c,λa g b L=>T a g b (by simp[L])⟩,λa g b L=>?_⟩
  rcases Hx.mp L with z | z
  .exact λe=>T b z a (Iu _ (j a g)) e.symm
  .exact k a (j a g) b z
 .have:=p.all y G
  rw[IE,Iq]at this;rw[Iq,IE];simp only[Hx]at this ⊢;rcases this with z | z | z
  .exact .inr (.inl z)
  .exact .inl (m y z)
  .exact .inr (.inr z)
theorem Part.same:∀{rs qs:List (List Nat)}{f:Nat->Nat}{N:Nat},Part f N rs->Part f N qs->rs.length=qs.length:=by
 have A:∀(k:Nat){rs qs:List (List Nat)}{f:Nat->Nat}{N:Nat},Part f N rs->Part f N qs->rs.length<=qs.length:=by
  intro _ rs qs f N p q;have g:∀ r∈rs,∃ i,i<qs.length/\∃ D,qs[i]?=some D/\∀ t∈D,t∈r:=λr u=>by
   have c:=p.cr r u;obtain⟨d,hd⟩:=c.ne;obtain⟨D,s,a⟩:=Ij.mp (q.all d (c.lt d hd));obtain⟨i,o⟩:=Ih.mp s;exact⟨i,(Hg.mp o).1,D,o,(q.cr D s).same c a hd⟩
  have:∀(l:List (List Nat)),(∀ r∈l,r∈rs)->l.flatten.Nodup->∃ is:List Nat,is.length=l.length/\is.Nodup/\∀ i∈is,i<qs.length/\∃ r∈l,∃ D,qs[i]?=some D/\∀ t∈D,t∈r:=λl=>by
   induction l with
   |nil=>intro _ _;exact⟨[],rfl,Jd,λi o=>nomatch o⟩
   |cons r l Y =>
    intro h Q;rw[Iq]at Q;obtain⟨b,C,T⟩:=HP.mp Q;obtain⟨is,G,E,B⟩:=Y (λr u=>h r (Hq _ u)) C;obtain⟨i,M,D,J,m⟩:=g r (h r (Hu ..));refine⟨i::is,by simp[G],Hy.mpr ⟨λz=>?_,E⟩,λj H=>?_⟩
    .obtain⟨_,v,a,x,O,e⟩:=B i z;rw[J]at O
     cases O
     obtain⟨d,hd⟩:=(q.cr D (Hh J)).ne;exact T d (m d hd) d (Ij.mpr ⟨v,a,e d hd⟩) rfl
    .rcases Hs.mp H with z | z
     .subst z;exact⟨M,r,Hu ..,D,J,m⟩
     .obtain⟨y,v,I,w⟩:=B j z;exact⟨y,v,Hq _ I,w⟩
  obtain⟨is,G,E,B⟩:=this rs (λ_ h=>h) p.nd;rw[← G];exact dh E λi o=>(B i o).1
 intro rs qs f N p q;exact Nat.le_antisymm (A 0 p q) (A 0 q p)
theorem Ring.cr{f:Nat->Nat}{r:List Nat}(h:Ring f N r):CR f N r:=by
 refine⟨?_,h.lt,h.nd⟩;have ne:=h.ne;match r,h,ne with
 |x::l,h,_ =>
  refine⟨x,l,rfl,?_⟩;have a:∀(k i:Nat)(y:Nat),i+k+1=(x::l).length->(x::l)[i]?=some y->chain f y ((x::l).drop (i+1)) x:=λk=>by
   induction k with
   |zero =>
    intro i y d G;have e:=h.nx i y G;rw[show(i+1)%(x::l).length=0 by rw[← d];simp]at e
    rw[List.drop_of_length_le ∅]
    exact(HM e).symm
   |succ k Y =>
    intro i y d G;have e:=h.nx i y G;rw[I9 ∅]at e
    obtain⟨D,E⟩:=Hg.mp e;rw[LK D,E];exact⟨rfl,Y (i+1) (f y) ∅ e⟩
  exact a l.length 0 x (by simp) rfl
theorem bx.part{f:Nat->Nat}(w:bx f N N rs):Part f N rs:=⟨λr u=>(w.ring r u).cr,w.nd,w.all⟩
theorem tG{A B:List Nat}{t:Nat}(h:t∉A):(A++t::B).idxOf t=A.length:=by
 rw[List.idxOf_append,NB h,List.idxOf_cons_self,Nat.zero_add]
theorem bo{A B:List Nat}{t:Nat}(h:t∉A):nxt (A++t::B) t=((B++(A++t::B)).head?).getD 0:=by
 unfold nxt;rw[tG h]
 cases B with
 |nil =>
  have e:(A.length+1)%(A++[t]).length=0:=by rw[Hk,Ht,KU]
  rw[e,List.nil_append,List.head?_eq_getElem?]
 |cons b B =>
  have e:(A.length+1)%(A++t::b::B).length=A.length+1:=I9 (by simp)
  rw[e,Hm ∅]
  rw[show A.length+1-A.length=1 by omega]
  rfl
theorem Bk{A B:List Nat}{u:Nat}(h:u∉A):ins (A++u::B) ((A++u::B).idxOf u+1) n=A++u::n::B:=by
 rw[tG h];unfold ins;have G:(A++u::B).take (A.length+1)=A++[u]:=by
  rw[List.take_append,IX ∅,show A.length+1-A.length=1 by omega]
  rfl
 have E:(A++u::B).drop (A.length+1)=B:=by simp
 rw[G,E];simp
theorem fR{u:Nat}(h:u∈l):∃ A B,l=A++u::B/\u∉A:=by
 induction l with
 |nil=>exact nomatch h
 |cons a l Y =>
  by_cases z:a=u
  .subst z;exact⟨[],l,rfl,Jl⟩
  .rcases Hs.mp h with y | y
   .exact NC y.symm z
   .obtain⟨A,B,rfl,k⟩:=Y y;exact⟨a::A,B,rfl,λw=>by rcases Hs.mp w with w | w;exact z w.symm;exact k w⟩
theorem F7{u:Nat}(T:u∈l)(g:n∉l) :
  nxt (ins l (l.idxOf u+1) n) u=n/\nxt (ins l (l.idxOf u+1) n) n=nxt l u/\∀ t∈l,t≠u->nxt (ins l (l.idxOf u+1) n) t=nxt l t:=by
 obtain⟨A,B,rfl,k⟩:=fR T;rw[Bk k];have j:n∉A:=λz=>g (by simp[z])
 have m:n≠u:=λz=>g (by simp[z])
 refine⟨?_,?_,λt J h=>?_⟩
 .rw[bo k];rfl
 .have e:A++u::n::B=(A++[u])++n::B:=by simp
  rw[e,bo (λz=>by rcases Hx.mp z with z | z;exact j z;exact m (by simpa using z)),bo k]
  cases B<;>cases A<;>rfl
 .rcases Hx.mp J with z | z
  .obtain⟨d,b,rfl,I⟩:=fR z;have G:(d++t::b)++u::n::B=d++t::(b++u::n::B):=by simp
   have E:(d++t::b)++u::B=d++t::(b++u::B):=by simp
   rw[G,E,bo I,bo I]
   cases b<;>rfl
  .have c:t∈B:=by
    rcases Hs.mp z with z | z
    .exact NC z h
    .exact z
   by_cases o:t∈A
   .obtain⟨d,b,rfl,I⟩:=fR o;have G:(d++t::b)++u::n::B=d++t::(b++u::n::B):=by simp
    have E:(d++t::b)++u::B=d++t::(b++u::B):=by simp
    rw[G,E,bo I,bo I]
    cases b<;>rfl
   .obtain⟨i,f,rfl,I⟩:=fR c;have a:t≠n:=λy=>g (by rw[← y];simp)
    have G:A++u::n::(i++t::f)=(A++u::n::i)++t::f:=by simp
    have E:A++u::(i++t::f)=(A++u::i)++t::f:=by simp
    rw[G,E,bo (by simp[o,h,a,I]),bo (by simp[o,h,I])]
    cases f<;>cases A<;>rfl
theorem nV{es:En}{t p:Nat}(h:t<es.length):leave (es++[e]) t p=leave es t p:=by
 unfold leave;rw[Ho h]
theorem sV{es:En}{p:Nat}:leave (es++[e]) es.length p=if e.1=p then 2*es.length else 2*es.length+1:=by
 unfold leave;rw[Hm (Hl _),HQ];rfl
theorem pd{es:En}{d:Nat}(h:d<2*es.length):hd (es++[e]) d=hd es d:=by
 unfold hd;rw[Ho ∅]
theorem hd_new{es:En}:hd (es++[e]) (2*es.length)=e.2/\hd (es++[e]) (2*es.length+1)=e.1:=by
 have G:2*es.length/2=es.length:=by omega
 have E:(2*es.length+1)/2=es.length:=by omega
 constructor
 .unfold hd;rw[G,Hm (Hl _),HQ];show(if 2*es.length%2=0 then e.2 else e.1)=_;rw[NA ∅]
 .unfold hd;rw[E,Hm (Hl _),HQ];show(if(2*es.length+1)%2=0 then e.2 else e.1)=_;rw[NB ∅]
theorem hd_inj{es:En}(w:bO m es ts){a b:Nat}(A:a<2*es.length)(L:b<2*es.length)(h:hd es a=hd es b)(h2:a/2=b/2):a=b:=by
 obtain⟨G,_,o,g,_⟩:=w.at A;obtain⟨E,_,j,v,_⟩:=w.at L;rw[h2,j]at o
 cases o
 have r:=(w.ends G (Hh j)).2.2;rw[g,v]at h;by_cases B:a%2=0<;>by_cases Q:b%2=0
 .omega
 .rw[NA B,NB Q]at h;exact NC h.symm r
 .rw[NB B,NA Q]at h;exact NC h r
 .omega
def jo(n:Nat)(e:Nat×Nat)(p:Nat):Nat:=if e.1=p then 2*n else 2*n+1
theorem fG{es:En}{d:Nat}(h:ts[hd es d]?=some l):fol es ts d=leave es (nxt l (d/2)) (hd es d):=by
 unfold fol;rw[h];rfl
theorem bO.flip{es:En}{a b:Nat}(w:bO m (es++[(a,b)]) ts):bO m (es++[(b,a)]) ts:=by
 have Y:∀(x y:Nat)(t p:Nat),(∃ e,(es++[(x,y)])[t]?=some e/\(e.1=p∨e.2=p))->∃ e,(es++[(y,x)])[t]?=some e/\(e.1=p∨e.2=p):=λx y t p=>by
  rintro⟨e,M,J⟩;by_cases z:t<es.length
  .rw[Ho z]at M;exact⟨e,by rw[Ho z];exact M,J⟩
  .have D:=(Hg.mp M).1
   rw[Hk,Ht]at D;have c:t=es.length:=by omega
   subst c;rw[Hm (Hl _),HQ]at M
   cases M
   exact⟨(y,x),by rw[Hm (Hl _),HQ];rfl,J.symm⟩
 refine⟨w.len,λe T=>?_,w.nd,λp l h t=>⟨λz=>Y a b t p ((w.mem p l h t).mp z),λz=>(w.mem p l h t).mpr (Y b a t p z)⟩⟩;rcases Hx.mp T with z | z
 .exact w.ends e (Iu _ z)
 .have:e=(b,a):=by simpa using z
  subst this;obtain⟨M,J,f⟩:=w.ends (a,b) (by simp)
  exact⟨J,M,λy=>f y.symm⟩
theorem bO.room{es:En}(w:bO m es ts):bO (m+1) es (ts++[[]]):=by
 refine⟨by rw[Hk,w.len];rfl,λe T=>?_,λp l h=>?_,λp l h t=>?_⟩
 .obtain⟨M,J,f⟩:=w.ends e T;exact⟨∅,∅,f⟩
 all_goals by_cases z:p<ts.length
 .rw[Ho z]at h;exact w.nd p l h
 .have D:=(Hg.mp h).1
  rw[Hk,Ht]at D;have c:p=ts.length:=by omega
  subst c;rw[Hm (Hl _),HQ]at h
  cases h
  exact Jd
 .rw[Ho z]at h;exact w.mem p l h t
 .have D:=(Hg.mp h).1
  rw[Hk,Ht]at D;have c:p=ts.length:=by omega
  subst c;rw[Hm (Hl _),HQ]at h
  cases h
  refine⟨(λy=>nomatch y),?_⟩;rintro⟨e,M,J⟩;obtain⟨N,I,_⟩:=w.ends e (Hh M);have:=w.len;omega
theorem GJ{es:En}(w:bO m es ts){p:Nat}(h:ts[p]?=some l):es.length∉l:=λz=>by
 obtain⟨x,O,_⟩:=(w.mem p l h es.length).mp z;have:=(Hg.mp O).1;omega
theorem vK{es:En}{ts':List (List Nat)}{p u:Nat}(w:bO m es ts)(hl:ts[p]?=some l)(T:u<2*es.length)(B:hd es u=p)(C:ts'[p]?=some (ins l (l.idxOf (u/2)+1) es.length)) :
  fol (es++[e]) ts' u=jo es.length e p/\(∀ b,b/2=es.length->hd (es++[e]) b=p->fol (es++[e]) ts' b=fol es ts u)/\∀ d,d<2*es.length->d≠u->hd es d=p->fol (es++[e]) ts' d=fol es ts d:=by
 obtain⟨_,c,_,_,_,_,i,j⟩:=w.at T;rw[B,hl]at i
 cases i
 have nn:=GJ w hl;obtain⟨E,g,a⟩:=F7 j nn;have lt:∀ t∈l,nxt l t<es.length:=λt J=>by
  obtain⟨x,O,_⟩:=(w.mem p l hl (nxt l t)).mp (Hh (gp J));exact(Hg.mp O).1
 refine⟨?_,λb L k=>?_,λd H r h=>?_⟩
 .rw[fG (l:=ins l (l.idxOf (u/2)+1) es.length) (by rw[pd T,B];exact C),E,pd T,B,sV]
  rfl
 .rw[fG (l:=ins l (l.idxOf (u/2)+1) es.length) (by rw[k];exact C),L,g,k,nV (lt _ j),fG (l:=l) (by rw[B];exact hl),B]
 .obtain⟨_,c,_,_,_,_,M,f⟩:=w.at H;rw[h,hl]at M
  cases M
  have n:d/2≠u/2:=λz=>r (hd_inj w H T (h.trans B.symm) z);rw[fG (l:=ins l (l.idxOf (u/2)+1) es.length) (by rw[pd H,h];exact C),a _ f n,pd H,h,nV (lt _ f),fG (l:=l) (by rw[h];exact hl),h]
theorem yd{es:En}{ts':List (List Nat)}(w:bO m es ts){d:Nat}(H:d<2*es.length)(h:ts'[hd es d]?=ts[hd es d]?):fol (es++[e]) ts' d=fol es ts d:=by
 obtain⟨_,l,_,_,_,_,M,f⟩:=w.at H;have lt:nxt l (d/2)<es.length:=by
  obtain⟨x,O,_⟩:=(w.mem _ l M (nxt l (d/2))).mp (Hh (gp f));exact(Hg.mp O).1
 rw[fG (l:=l) (by rw[pd H,h];exact M),pd H,nV lt,fG M]
theorem cP(n:Nat)(e:Nat×Nat)(p:Nat):jo n e p/2=n:=by
 unfold jo;split<;>omega
theorem yg{es:En}{one two:Nat}(r:one≠two)(T:e=(one,two)∨e=(two,one)):hd (es++[e]) (jo es.length e one)=two/\hd (es++[e]) (jo es.length e two)=one/\jo es.length e one≠jo es.length e two/\∀ d,d<2*(es.length+1)->d<2*es.length∨d=jo es.length e one∨d=jo es.length e two:=by
 obtain⟨M,J⟩:=hd_new (es:=es) (e:=e);unfold jo;rcases T with T | T
 .have c1:e.1=one:=by rw[T]
  have c2:¬ e.1=two:=by rw[T];exact r
  have c3:e.2=two:=by rw[T]
  rw[NA c1,NB c2,M,J];exact⟨c3,c1,∅,λd hd=>by omega⟩
 .have c1:e.1=two:=by rw[T]
  have c2:¬ e.1=one:=by rw[T];exact λz=>r z.symm
  have c3:e.2=one:=by rw[T]
  rw[NA c1,NB c2,M,J];exact⟨c1,c3,∅,λd hd=>by omega⟩
def par(S:Nat->Bool):List Nat->Bool
 |[]=>false
 |d::l=>S (d/2) ^^ par S l
theorem bV(S:Nat->Bool)(d:Nat)(l:List Nat):par S (d::l)=(S (d/2) ^^ par S l):=rfl
theorem AF(S:Nat->Bool):∀ a b:List Nat,par S (a++b)=(par S a ^^ par S b)
 |[],b=>by show par S b=(false ^^ par S b);rw[K7]
 |x::a,b=>by rw[Lv,bV,bV,AF S a b,Bool.xor_assoc]
def Eu(es:En)(S f:Nat->Bool):Prop:=∀(t:Nat)(e:Nat×Nat),es[t]?=some e->S t=(f e.1 ^^ f e.2)
theorem yi{es:En}{S f:Nat->Bool}(h:Eu es S f){d:Nat}(H:d<2*es.length):S (d/2)=(f (tl es d) ^^ f (hd es d)):=by
 have G:es[d/2]?=some (es[d/2]'∅):=Hf _
 rw[h _ _ G];unfold tl hd;rw[G];show _=(f (if d%2=0 then es[d/2].1 else es[d/2].2) ^^ f (if d%2=0 then es[d/2].2 else es[d/2].1));split
 .rfl
 .exact Bool.xor_comm _ _
theorem yh{m:Nat}{es:En}{ts:List (List Nat)}{S f:Nat->Bool}(w:bO m es ts)(h:Eu es S f):∀{x:Nat}{l:List Nat}{z:Nat},chain (fol es ts) x l z->x<2*es.length->(∀ t∈l,t<2*es.length)->z<2*es.length->par S (l++[z])=(f (hd es x) ^^ f (hd es z))
 |x,[],z,c,O,_,Y=>by
  obtain⟨_,_,_,_,_,_,_,_,_,_,k⟩:=w.foll O;have C:fol es ts x=z:=c;rw[List.nil_append,bV,yi h Y,← C,k];exact JU _
 |x,a::l,z,c,O,D,Y=>by
  obtain⟨_,_,_,_,_,_,_,_,_,_,k⟩:=w.foll O;have A:=D a (Hu ..);rw[Lv,bV,yh w h c.2 A (λt J=>D t (Hq _ J)) Y,yi h A,← c.1,k]
  cases f (hd es x)<;>cases f (hd es (fol es ts x))<;>cases f (hd es z)<;>rfl
structure Gr(m:Nat)(es:En)(ts:List (List Nat)):Prop where
 w:bO m es ts
 part:∃ rs,Part (fol es ts) (2*es.length) rs/\m+rs.length=es.length+2
 conn:∀ S:Nat->Prop,(∀ e∈es,S e.1↔S e.2)->∀ p q,p<m->q<m->S p->S q
theorem CR.mono{f g:Nat->Nat}{r:List Nat}(h:CR f N r)(o:N<=M)(k:∀ t∈r,g t=f t):CR g M r:=by
 obtain⟨x,l,rfl,c⟩:=h.ch;exact⟨⟨x,l,rfl,lg c (k x (Hu ..)) λt J=>k t (Hq _ J)⟩,λd hd=>HY (h.lt d hd) o,h.nd⟩
theorem El{es:En}(c:∀ S:Nat->Prop,(∀ e∈es,S e.1↔S e.2)->∀ p q,p<m->q<m->S p->S q):∀ S:Nat->Prop,(∀ x∈es++[e],S x.1↔S x.2)->∀ p q,p<m->q<m->S p->S q :=
 λS h=>c S λx O=>h x (Iu _ O)
theorem Gr.join{es:En}(g:Gr m es ts){left right one two:Nat}{tail:List Nat}(hl:left<2*es.length)(G:CR (fol es ts) (2*es.length) (left::tail))(ab:chain (fol es ts) left tail left)(N:right∈left::tail)
  (M:hd es left=one) (h2:hd es right=two) (r:one≠two) (T:e=(one,two)∨e=(two,one)) (e1:ts[one]?=some l) (E:ts[two]?=some l') :
  Gr m (es++[e]) ((ts.set one (ins l (l.idxOf (left/2)+1) es.length)).set two (ins l' (l'.idxOf (right/2)+1) es.length)):=by
 have w:=g.w;have aL:right<2*es.length:=G.lt right N;have j:=w.len;have o1:one<m:=by rw[← j];exact(Hg.mp e1).1
 have o2:two<m:=by rw[← j];exact(Hg.mp E).1
 have W:bO m (es++[e]) ((ts.set one (ins l (l.idxOf (left/2)+1) es.length)).set two (ins l' (l'.idxOf (right/2)+1) es.length)):=by
  rcases T with rfl | rfl
  .exact w.put o1 o2 r e1 E
  .exact(w.put o1 o2 r e1 E).flip
 have o:((ts.set one (ins l (l.idxOf (left/2)+1) es.length)).set two (ins l' (l'.idxOf (right/2)+1) es.length))[one]?=some (ins l (l.idxOf (left/2)+1) es.length):=by
  rw[Ip,NB (λz=>r z.symm),Ip,NA rfl,NA (by rw[j];exact o1)]
 have v:((ts.set one (ins l (l.idxOf (left/2)+1) es.length)).set two (ins l' (l'.idxOf (right/2)+1) es.length))[two]?=some (ins l' (l'.idxOf (right/2)+1) es.length):=by
  rw[Ip,NA rfl,NA (by rw[Il,j];exact o2)]
 have r3:∀ p,p≠one->p≠two->((ts.set one (ins l (l.idxOf (left/2)+1) es.length)).set two (ins l' (l'.idxOf (right/2)+1) es.length))[p]?=ts[p]?:=λp n1 n2=>by
  rw[Ip,NB (λz=>n2 z.symm),Ip,NB (λz=>n1 z.symm)]
 generalize (ts.set one (ins l (l.idxOf (left/2)+1) es.length)).set two (ins l' (l'.idxOf (right/2)+1) es.length)=ts' at W o v r3;obtain⟨c,s,a3⟩:=vK (e:=e) w e1 hl M o;obtain⟨b1,b2,b3⟩:=vK (e:=e) w E aL h2 v;obtain⟨d1,d2,d3,d4⟩:=yg (es:=es) r T;have fa:=b2 _ (cP _ _ _) d1;have fb:=s _ (cP _ _ _) d2;have an:∀ d,d<2*es.length->d≠left->d≠right->fol (es++[e]) ts' d=fol es ts d:=λd H n1 n2=>by
  by_cases B:hd es d=one
  .exact a3 d H n1 B
  .by_cases i:hd es d=two
   .exact b3 d H n2 i
   .exact yd w H (r3 _ B i)
 generalize A:jo es.length e one=α at *;generalize L:jo es.length e two=β at *;have aT:α/2=es.length:=by rw[← A];exact cP _ _ _
 have aV:β/2=es.length:=by rw[← L];exact cP _ _ _
 have aS:right≠left:=λz=>r (by rw[← M,← h2,z])
 have a0:right∈tail:=by
  rcases Hs.mp N with z | z
  .exact NC z aS
  .exact z
 obtain⟨D,I,rfl⟩:=Ky a0;obtain⟨c1,c2⟩:=gP.mp ab;have k:=G.nd;have ac:∀ t∈D,t<2*es.length/\t≠left/\t≠right:=λt J=>by
  refine⟨G.lt t (by simp[J]),λz=>?_,λz=>?_⟩
  .subst z;exact(Hy.mp k).1 (by simp[J])
  .subst z;have:=(HP.mp (Hy.mp k).2).2.2 t J t (by simp)
   exact this rfl
 have ae:∀ t∈I,t<2*es.length/\t≠left/\t≠right:=λt J=>by
  refine⟨G.lt t (by simp[J]),λz=>?_,λz=>?_⟩
  .subst z;exact(Hy.mp k).1 (by simp[J])
  .subst z;exact(Hy.mp (HP.mp (Hy.mp k).2).2.1).1 J
 obtain⟨f,p,cnt⟩:=g.part;obtain⟨rest,pr,aI⟩:=p.pick G;have am:=pr.nd;rw[Iq]at am;obtain⟨_,aA,al⟩:=HP.mp am;have ap:∀ t∈rest.flatten,t<2*es.length/\t≠left/\t≠right:=λt J=>by
  obtain⟨q,C,Y⟩:=Ij.mp J;exact⟨(pr.cr q (Hq _ C)).lt t Y,λz=>al left (by simp) t J z.symm,λz=>al right (by simp) t J z.symm⟩
 have aa:(es++[e]).length=es.length+1:=by rw[Hk];rfl
 refine⟨W,⟨(left::α::I)::(right::β::D)::rest,⟨λq n=>?_,?_,λd H=>?_⟩,by rw[aa];simp only[HD]at aI ⊢;omega⟩,El g.conn⟩
 .rcases Hs.mp n with z | z
  .subst z;refine⟨⟨left,α::I,rfl,c,lg c2 fa λt J=>an t (ae t J).1 (ae t J).2.1 (ae t J).2.2⟩,λd H=>?_,?_⟩
   .rw[aa];simp only[Hs]at H;rcases H with y | y | y
    .omega
    .omega
    .have:=(ae d y).1;omega
   .refine Hy.mpr ⟨λy=>?_,Hy.mpr ⟨λy=>?_,?_⟩⟩
    .rcases Hs.mp y with y | y
     .omega
     .exact(ae _ y).2.1 rfl
    .have:=(ae _ y).1;omega
    .exact(Hy.mp (HP.mp (Hy.mp k).2).2.1).2
  .rcases Hs.mp z with z | z
   .subst z;refine⟨⟨right,β::D,rfl,b1,lg c1 fb λt J=>an t (ac t J).1 (ac t J).2.1 (ac t J).2.2⟩,λd H=>?_,?_⟩
    .rw[aa];simp only[Hs]at H;rcases H with y | y | y
     .omega
     .omega
     .have:=(ac d y).1;omega
    .refine Hy.mpr ⟨λy=>?_,Hy.mpr ⟨λy=>?_,?_⟩⟩
     .rcases Hs.mp y with y | y
      .omega
      .exact(ac _ y).2.2 rfl
     .have:=(ac _ y).1;omega
     .exact(HP.mp (Hy.mp k).2).1
   .refine(pr.cr q (Hq _ z)).mono (by rw[aa];omega) λt J=>?_
    obtain⟨k1,h,k3⟩:=ap t (Ij.mpr ⟨q,z,J⟩);exact an t k1 h k3
 .have a4:∀ x∈D,∀ y∈I,x≠y:=λx O y Q=>(HP.mp (Hy.mp k).2).2.2 x O y (by simp[Q])
  rw[Iq,Iq];refine HP.mpr ⟨?_,HP.mpr ⟨?_,aA,λa A b L=>?_⟩,λa A b L=>?_⟩
  .refine Hy.mpr ⟨λy=>?_,Hy.mpr ⟨λy=>?_,(Hy.mp (HP.mp (Hy.mp k).2).2.1).2⟩⟩
   .rcases Hs.mp y with y | y
    .omega
    .exact(ae _ y).2.1 rfl
   .have:=(ae _ y).1;omega
  .refine Hy.mpr ⟨λy=>?_,Hy.mpr ⟨λy=>?_,(HP.mp (Hy.mp k).2).1⟩⟩
   .rcases Hs.mp y with y | y
    .omega
    .exact(ac _ y).2.2 rfl
   .have:=(ac _ y).1;omega
  .obtain⟨k1,h,k3⟩:=ap b L;simp only[Hs]at A;rcases A with y | y | y
   .exact λz=>k3 (z▸y)
   .omega
   .exact al a (by simp[y]) b L
  .simp only[Hs,Hx]at A L;rcases L with(y | y | y) | y
   .rcases A with z | z | z
    .exact λu=>aS (by rw[← y,← u,z])
    .have:=aL;omega
    .exact λu=>(ae a z).2.2 (u.trans y)
   .rcases A with z | z | z
    .omega
    .omega
    .have:=(ae a z).1;omega
   .rcases A with z | z | z
    .exact λu=>(ac b y).2.1 (u▸z)
    .have:=(ac b y).1;omega
    .exact λu=>a4 b y a z u.symm
   .obtain⟨k1,h,k3⟩:=ap b y;rcases A with z | z | z
    .exact λu=>h (u▸z)
    .omega
    .exact al a (by simp[z]) b y
 .rw[aa]at H;simp only[Iq,Hx,Hs];rcases d4 d H with y | y | y
  .have:=pr.all d y
   simp only[Iq,Hx,Hs]at this;rcases this with(z | z | z | z) | z
   .exact .inl (.inl z)
   .exact .inr (.inl (.inr (.inr z)))
   .exact .inr (.inl (.inl z))
   .exact .inl (.inr (.inr z))
   .exact .inr (.inr z)
  .exact .inl (.inr (.inl y))
  .exact .inr (.inl (.inr (.inl y)))
theorem Gr.leaf{es:En}(g:Gr m es ts){left one:Nat}{tail:List Nat}(hl:left<2*es.length)(G:CR (fol es ts) (2*es.length) (left::tail))(ac:chain (fol es ts) left tail left)
  (M:hd es left=one) (T:e=(one,m)∨e=(m,one)) (e1:ts[one]?=some l) :
  Gr (m+1) (es++[e]) (ts.set one (ins l (l.idxOf (left/2)+1) es.length)++[[es.length]]):=by
 have w:=g.w;have i:=w.len;have o1:one<m:=by rw[← i];exact(Hg.mp e1).1
 have r:one≠m:=by omega
 have W:bO (m+1) (es++[e]) (ts.set one (ins l (l.idxOf (left/2)+1) es.length)++[[es.length]]):=by
  have q:=w.room.put (one:=one) (two:=m) (k:=l.idxOf (left/2)+1) (j:=0) (l:=l) (l':=[]) ∅ ∅ r (by rw[Ho ∅];exact e1) (by rw[Hm ∅,i,HQ];rfl)
  have Y:((ts++[[]]).set one (ins l (l.idxOf (left/2)+1) es.length)).set m (ins [] 0 es.length)=ts.set one (ins l (l.idxOf (left/2)+1) es.length)++[[es.length]]:=by
   rw[List.set_append_left _ _ ∅,List.set_append_right _ _ (by rw[Il];omega),Il,i,HQ]
   rfl
  rw[Y]at q;rcases T with rfl | rfl
  .exact q
  .exact q.flip
 have o:(ts.set one (ins l (l.idxOf (left/2)+1) es.length)++[[es.length]])[one]?=some (ins l (l.idxOf (left/2)+1) es.length):=by
  rw[Ho (by rw[Il];omega),Ip,NA rfl,NA ∅]
 have v:(ts.set one (ins l (l.idxOf (left/2)+1) es.length)++[[es.length]])[m]?=some [es.length]:=by
  rw[Hm (by rw[Il];omega),Il,i,HQ]
  rfl
 have r3:∀ p,p≠one->p<m->(ts.set one (ins l (l.idxOf (left/2)+1) es.length)++[[es.length]])[p]?=ts[p]?:=λp E n2=>by
  rw[Ho (by rw[Il];omega),Ip,NB (λz=>E z.symm)]
 generalize ts.set one (ins l (l.idxOf (left/2)+1) es.length)++[[es.length]]=ts' at W o v r3;obtain⟨I,s,a3⟩:=vK (e:=e) w e1 hl M o;obtain⟨d1,d2,d3,d4⟩:=yg (es:=es) r T;have fb:=s _ (cP _ _ _) d2;have fa:fol (es++[e]) ts' (jo es.length e one)=jo es.length e m:=by
  rw[fG (l:=[es.length]) (by rw[d1];exact v),cP,d1]
  have:nxt [es.length] es.length=es.length:=by
   unfold nxt;rw[List.idxOf_cons_self];simp
  rw[this,sV];rfl
 have am:∀ d,d<2*es.length->d≠left->fol (es++[e]) ts' d=fol es ts d:=λd H E=>by
  by_cases B:hd es d=one
  .exact a3 d H E B
  .obtain⟨_,_,_,_,_,k4,_⟩:=w.at H;exact yd w H (r3 _ B k4)
 generalize A:jo es.length e one=α at *;generalize L:jo es.length e m=β at *;have aV:α/2=es.length:=by rw[← A];exact cP _ _ _
 have a0:β/2=es.length:=by rw[← L];exact cP _ _ _
 have c:=G.nd;have ap:∀ t∈tail,t<2*es.length/\t≠left:=λt J=>⟨G.lt t (by simp[J]),λz=>(Hy.mp c).1 (z▸J)⟩
 obtain⟨f,p,cnt⟩:=g.part;obtain⟨rest,pr,aI⟩:=p.pick G;have al:=pr.nd;rw[Iq]at al;obtain⟨_,aA,ae⟩:=HP.mp al;have an:∀ t∈rest.flatten,t<2*es.length/\t≠left:=λt J=>by
  obtain⟨q,C,Y⟩:=Ij.mp J;exact⟨(pr.cr q (Hq _ C)).lt t Y,λz=>ae left (by simp) t J z.symm⟩
 have ab:(es++[e]).length=es.length+1:=by rw[Hk];rfl
 have aS:(left::α::β::tail).Nodup:=by
  refine Hy.mpr ⟨λy=>?_,Hy.mpr ⟨λy=>?_,Hy.mpr ⟨λy=>?_,(Hy.mp c).2⟩⟩⟩
  .simp only[Hs]at y;rcases y with y | y | y
   .omega
   .omega
   .exact(ap _ y).2 rfl
  .simp only[Hs]at y;rcases y with y | y
   .exact d3 y
   .have:=(ap _ y).1;omega
  .have:=(ap _ y).1;omega
 refine⟨W,⟨(left::α::β::tail)::rest,⟨λq n=>?_,?_,λd H=>?_⟩,by rw[ab];simp only[HD]at aI ⊢;omega⟩,λS D x y O Q sx=>?_⟩
 .rcases Hs.mp n with z | z
  .subst z;refine⟨⟨left,α::β::tail,rfl,I,fa,lg ac fb λt J=>am t (ap t J).1 (ap t J).2⟩,λd H=>?_,aS⟩;rw[ab];simp only[Hs]at H;rcases H with y | y | y | y
   .omega
   .omega
   .omega
   .have:=(ap d y).1;omega
  .refine(pr.cr q (Hq _ z)).mono (by rw[ab];omega) λt J=>?_
   obtain⟨N,h⟩:=an t (Ij.mpr ⟨q,z,J⟩);exact am t N h
 .rw[Iq];refine HP.mpr ⟨aS,aA,λa A b L=>?_⟩;obtain⟨N,h⟩:=an b L;simp only[Hs]at A;rcases A with y | y | y | y
  .exact λu=>h (u▸y)
  .omega
  .omega
  .exact ae a (by simp[y]) b L
 .rw[ab]at H;simp only[Iq,Hx,Hs];rcases d4 d H with y | y | y
  .have:=pr.all d y
   simp only[Iq,Hx,Hs]at this;rcases this with(z | z) | z
   .exact .inl (.inl z)
   .exact .inl (.inr (.inr (.inr z)))
   .exact .inr z
  .exact .inl (.inr (.inl y))
  .exact .inl (.inr (.inr (.inl y)))
 .skip
  have aT:S one↔S m:=by
   have:=D e (by simp)
   rcases T with rfl | rfl
   .exact this
   .exact this.symm
  have aa:=g.conn S λx O=>D x (Iu _ O);have aL:S one:=by
   by_cases z:x<m
   .exact aa x one z o1 sx
   .have:x=m:=by omega
    subst this;exact aT.mpr sx
  by_cases z:y<m
  .exact aa one y o1 z aL
  .have:y=m:=by omega
   subst this;exact aT.mp aL
theorem gr_two:Gr 2 [(0,1)] [[0],[0]]:=by
 have W:bO 2 [(0,1)] [[0],[0]]:=by
  refine⟨rfl,λe T=>?_,λp l h=>?_,λp l h t=>?_⟩
  .have:e=(0,1):=by simpa using T
   subst this;exact⟨by decide,by decide,by decide⟩
  .match p,h with
   |0,h=>cases h;decide
   |1,h=>cases h;decide
   |p+2,h=>cases h
  .have Y:(∃ e,([(0,1)]:En)[t]?=some e/\(e.1=p∨e.2=p))↔t=0/\(p=0∨p=1):=by
    constructor
    .rintro⟨e,M,J⟩;match t,M with
     |0,M=>cases M;exact⟨rfl,J.imp Eq.symm Eq.symm⟩
     |t+1,M=>cases M
    .rintro⟨rfl,J⟩;exact⟨(0,1),rfl,J.imp Eq.symm Eq.symm⟩
   rw[Y];match p,h with
   |0,h=>cases h;simp
   |1,h=>cases h;simp
   |p+2,h=>cases h
 refine⟨W,⟨[[0,1]],⟨λr u=>?_,by decide,λd hd=>?_⟩,rfl⟩,λS D p q B n f=>?_⟩
 .have:r = [0,1]:=by simpa using u
  subst this;exact⟨⟨0,[1],rfl,by decide,(by show fol [(0,1)] [[0],[0]] 1=0;decide)⟩,λd hd=>by simp at hd ⊢;omega,by decide⟩
 .have z:d<2:=hd
  simp;omega
 .have:=D (0,1) (by simp)
  have c:S 0↔S 1:=this;have b:p=0∨p=1:=by omega
  have a:q=0∨q=1:=by omega
  rcases b with rfl | rfl<;>rcases a with rfl | rfl
  .exact f
  .exact c.mp f
  .exact c.mpr f
  .exact f
structure Bij(F:Nat->Nat)(n:Nat):Prop where
 lt:∀ k,k<n->F k<n
 inj:∀ a b,a<n->b<n->F a=F b->a=b
 sur:∀ y,y<n->∃ k,k<n/\F k=y
def ofL(o:List Nat)(k:Nat):Nat:=(o[k]?).getD 0
theorem yn{o:List Nat}(hl:o.length=n)(nd:o.Nodup)(h:∀ x∈o,x<n):Bij (ofL o) n:=by
 have get:∀ k,k<n->o[k]?=some (ofL o k):=λk C=>by
  unfold ofL;rw[Hf ∅]
  rfl
 refine⟨λk C=>h _ (Hh (get k C)),λa b A L e=>xX nd (get a A) (by rw[get b L,e]),λy G=>?_⟩
 have E:y∈o:=by
  by_cases z:y∈o
  .exact z
  .have:=dh (a:=y::o) (N:=n) (Hy.mpr ⟨z,nd⟩) λx O=>by
    rcases Hs.mp O with u | u
    .omega
    .exact h x u
   rw[HD]at this;omega
 obtain⟨k,C⟩:=Ih.mp E;have c:=(Hg.mp C).1;refine⟨k,∅,?_⟩
 have:=get k ∅
 rw[C]at this;exact(HM this).symm
theorem xW{F:Nat->Nat}:∀{l:List Nat},l.Nodup->(∀ x∈l,∀ y∈l,F x=F y->x=y)->(l.map F).Nodup
 |[],_,_=>Jd
 |a::l,Q,h=>by
  obtain⟨E,C⟩:=Hy.mp Q;refine Hy.mpr ⟨λz=>?_,xW C λx O y G=>h x (Hq _ O) y (Hq _ G)⟩;obtain⟨x,O,e⟩:=Ie.mp z;have:=h x (Hq _ O) a (Hu ..) e;exact E (this▸O)
theorem F6{F:Nat->Nat}{t:Nat}(J:t∈l)(h:∀ x∈l,F x=F t->x=t):nxt (l.map F) (F t)=F (nxt l t):=by
 obtain⟨A,B,rfl,k⟩:=fR J;have I:F t∉A.map F:=λz=>by
  obtain⟨x,O,e⟩:=Ie.mp z;exact k (h x (by simp[O]) e▸O)
 rw[Hv,HR,bo I,bo k]
 cases B<;>cases A<;>rfl
theorem F5{X Y:List Nat}{t:Nat}(nd:(X++Y).Nodup)(J:t∈X++Y):nxt (Y++X) t=nxt (X++Y) t:=by
 obtain⟨b,C,T⟩:=HP.mp nd;rcases Hx.mp J with z | z
 .have a:t∉Y:=λy=>T t z t y rfl
  obtain⟨A,B,rfl,k⟩:=fR z;have G:Y++(A++t::B)=(Y++A)++t::B:=by simp
  have E:(A++t::B)++Y=A++t::(B++Y):=by simp
  rw[G,E,bo (by simp[a,k]),bo k]
  cases B<;>cases Y<;>cases A<;>rfl
 .have c:t∉X:=λy=>T t y t z rfl
  obtain⟨A,B,rfl,k⟩:=fR z;have G:(A++t::B)++X=A++t::(B++X):=by simp
  have E:X++(A++t::B)=(X++A)++t::B:=by simp
  rw[G,E,bo k,bo (by simp[c,k])]
  cases B<;>cases X<;>cases A<;>rfl
structure Ren(m:Nat)(es es2:En)(ts ts2:List (List Nat))(π σ:Nat->Nat):Prop where
 pi:Bij π m
 si:Bij σ es.length
 l1:es2.length=es.length
 l2:ts2.length=m
 es:∀(k:Nat)(e:Nat×Nat),es[k]?=some e->es2[σ k]?=some (π e.1,π e.2)
 ts:∀(p:Nat)(l:List Nat),ts[p]?=some l->∃ X Y,l=X++Y/\ts2[π p]?=some ((Y++X).map σ)
section
variable{m:Nat}{es es2:En}{ts ts2:List (List Nat)}{π σ:Nat->Nat}
theorem Ren.es'(R:Ren m es es2 ts ts2 π σ){x:Nat×Nat}(h:es2[j]?=some x):∃ k e,σ k=j/\es[k]?=some e/\x=(π e.1,π e.2):=by
 have c:=(Hg.mp h).1;rw[R.l1]at c;obtain⟨k,C,rfl⟩:=R.si.sur j c;have G:es[k]?=some es[k]:=Hf C;have:=R.es k _ G;rw[h]at this;exact⟨k,_,rfl,G,HM this⟩
theorem Ren.ts'(R:Ren m es es2 ts ts2 π σ)(w:bO m es ts){L:List Nat}(h:ts2[j]?=some L):∃ p l X Y,p<m/\π p=j/\ts[p]?=some l/\l=X++Y/\L=(Y++X).map σ:=by
 have c:=(Hg.mp h).1;rw[R.l2]at c;obtain⟨p,B,rfl⟩:=R.pi.sur j c;have G:ts[p]?=some (ts[p]'(by rw[w.len];exact B)):=Hf _
 obtain⟨X,Y,M,J⟩:=R.ts p _ G;rw[h]at J;exact⟨p,_,X,Y,B,rfl,G,M,HM J⟩
theorem lY(w:bO m es ts){p:Nat}(h:ts[p]?=some l){t:Nat}(J:t∈l):t<es.length:=by
 obtain⟨x,O,_⟩:=(w.mem p l h t).mp J;exact(Hg.mp O).1
theorem Ren.turn(R:Ren m es es2 ts ts2 π σ)(w:bO m es ts):bO m es2 ts2:=by
 refine⟨R.l2,λx O=>?_,λj L h=>?_,λj L h t=>?_⟩
 .obtain⟨j,c⟩:=Ih.mp O;obtain⟨k,e,_,M,rfl⟩:=R.es' c;obtain⟨I,s,n⟩:=w.ends e (Hh M);exact⟨R.pi.lt _ I,R.pi.lt _ s,λz=>n (R.pi.inj _ _ I s z)⟩
 .obtain⟨p,l,X,Y,B,rfl,M,rfl,rfl⟩:=R.ts' w h;have Q:=w.nd p _ M;obtain⟨E,g,T⟩:=HP.mp Q;refine xW (HP.mpr ⟨g,E,λa A b u z=>T b u a A z.symm⟩) λx O y G=>R.si.inj x y (lY w M ?_) (lY w M ?_)
  .simp only[Hx]at O ⊢;exact O.symm
  .simp only[Hx]at G ⊢;exact G.symm
 .obtain⟨p,l,X,Y,B,rfl,M,rfl,rfl⟩:=R.ts' w h;constructor
  .intro z;obtain⟨k,C,rfl⟩:=Ie.mp z;obtain⟨e,J,f⟩:=(w.mem p _ M k).mp (by simp only[Hx]at C ⊢;exact C.symm)
   exact⟨_,R.es k e J,f.imp (congrArg π) (congrArg π)⟩
  .rintro⟨x,J,f⟩;obtain⟨k,e,rfl,d,rfl⟩:=R.es' J;obtain⟨I,s,n⟩:=w.ends e (Hh d);have C:=(w.mem p _ M k).mpr ⟨e,d,f.imp (R.pi.inj _ _ I B) (R.pi.inj _ _ s B)⟩;exact Ie.mpr ⟨k,by simp only[Hx]at C ⊢;exact C.symm,rfl⟩
def Phi(σ:Nat->Nat)(d:Nat):Nat:=2*σ (d/2)+d%2
theorem ni(d:Nat):Phi σ d/2=σ (d/2):=by unfold Phi;omega
theorem Ren.hd(R:Ren m es es2 ts ts2 π σ){d:Nat}(H:d<2*es.length):hd es2 (Phi σ d)=π (hd es d):=by
 have G:es[d/2]?=some (es[d/2]'∅):=Hf _
 have E:=R.es _ _ G;unfold K8.hd;rw[ni,G,E];have N:Phi σ d%2=d%2:=by unfold Phi;omega
 show(if Phi σ d%2=0 then π es[d/2].2 else π es[d/2].1)=π (if d%2=0 then es[d/2].2 else es[d/2].1);rw[N];split<;>rfl
theorem Ren.fol(R:Ren m es es2 ts ts2 π σ)(w:bO m es ts){d:Nat}(H:d<2*es.length):fol es2 ts2 (Phi σ d)=Phi σ (fol es ts d):=by
 obtain⟨_,l,_,_,_,A,M,f⟩:=w.at H;obtain⟨X,Y,rfl,J⟩:=R.ts _ _ M;have Q:=w.nd _ _ M;rw[fG (l:=(Y++X).map σ) (by rw[R.hd H];exact J),fG M,ni,R.hd H]
 have a:d/2∈Y++X:=by simp only[Hx]at f ⊢;exact f.symm
 rw[F6 a λx O=>R.si.inj x _ (lY w M (by simp only[Hx]at O ⊢;exact O.symm)) (lY w M f),F5 Q f]
 have g:=Hh (gp f);have L:=lY w M g;generalize nxt (X++Y) (d/2)=t at L;have G:es[t]?=some es[t]:=Hf L;have I:=(w.ends _ (Hh G)).1;unfold leave;rw[R.es _ _ G,G];show(if π es[t].1=π (K8.hd es d) then 2*σ t else 2*σ t+1)=Phi σ (if es[t].1=K8.hd es d then 2*t else 2*t+1);by_cases z:es[t].1=K8.hd es d
 .rw[NA z,NA (congrArg π z)];unfold Phi;rw[show 2*t/2=t by omega]
  omega
 .rw[NB z,NB (λy=>z (R.pi.inj _ _ I A y))];unfold Phi;rw[show(2*t+1)/2=t by omega]
  omega
theorem Cz(b:Bij σ es.length){x y:Nat}(O:x<2*es.length)(Q:y<2*es.length)(e:Phi σ x=Phi σ y):x=y:=by
 have G:σ (x/2)=σ (y/2):=by
  have M:=ni (σ:=σ) x;have J:=ni (σ:=σ) y;rw[e]at M;exact M.symm.trans J
 have:=b.inj _ _ ∅ ∅ G
 unfold Phi at e;omega
theorem Ren.gr(R:Ren m es es2 ts ts2 π σ)(g:Gr m es ts):Gr m es2 ts2:=by
 obtain⟨f,p,cnt⟩:=g.part;have flt:∀ d∈f.flatten,d<2*es.length:=λd hd=>by
  obtain⟨r,M,J⟩:=Ij.mp hd;exact(p.cr r M).lt d J
 have h:(f.map (List.map (Phi σ))).flatten=f.flatten.map (Phi σ):=List.map_flatten.symm;refine⟨R.turn g.w,⟨f.map (List.map (Phi σ)),⟨λq n=>?_,?_,λd hd=>?_⟩,by rw[Hi,R.l1];exact cnt⟩,λS D x y O G o=>?_⟩
 .obtain⟨r,u,rfl⟩:=Ie.mp n;have c:=p.cr r u;obtain⟨x,l,rfl,i⟩:=c.ch;refine⟨⟨Phi σ x,l.map (Phi σ),rfl,tZ i λt N=>R.fol g.w (c.lt t N)⟩,λd hd=>?_,xW c.nd λa A b L=>Cz R.si (c.lt a A) (c.lt b L)⟩;obtain⟨t,N,rfl⟩:=Ie.mp hd;have M:=c.lt t N;have J:=R.si.lt (t/2) ∅
  rw[R.l1];unfold Phi;omega
 .rw[h];exact xW p.nd λa A b L=>Cz R.si (flt a A) (flt b L)
 .rw[R.l1]at hd;obtain⟨k,C,e⟩:=R.si.sur (d/2) ∅
  rw[h];refine Ie.mpr ⟨2*k+d%2,p.all _ ∅,?_⟩
  unfold Phi;rw[show(2*k+d%2)/2=k by omega,e]
  omega
 .obtain⟨Q,H,rfl⟩:=R.pi.sur x O;obtain⟨z,j,rfl⟩:=R.pi.sur y G;refine g.conn (λp=>S (π p)) (λe T=>?_) Q z H j o;obtain⟨k,C⟩:=Ih.mp T;exact D (π e.1,π e.2) (Hh (R.es k e C))
end
end K8
variable{es:K8.En}
namespace K8
open PySem L2
def top(i:Nat):Stmt:=PySem.Challenge.pw_spinfloor_k32_papers_for_layings.main.body.getD i (.Pass ⟨0,0,0,0⟩)
abbrev ku:Stmt:=top 14
abbrev ko:Stmt:=top 16
abbrev jA:Stmt:=top 44
abbrev pX:Stmt:=top 45
abbrev pY:Stmt:=top 46
abbrev h9:Stmt:=top 47
abbrev fV:Stmt:=top 48
abbrev jD:Stmt:=top 49
abbrev lF:Stmt:=top 51
abbrev lE:Stmt:=top 54
abbrev uO:Stmt:=top 55
abbrev nH:Stmt:=top 56
abbrev cN:Stmt:=lM (top 58) 0
abbrev dY:Stmt:=lM (top 58) 1
abbrev bI:Stmt:=lM (top 58) 2
abbrev cM:Stmt:=lM (top 58) 5
abbrev dj:Stmt:=lM (top 60) 0
abbrev As:Stmt:=top 62
abbrev nE:Stmt:=top 63
abbrev lK:Stmt:=top 64
abbrev h7:Stmt:=top 65
abbrev jC:Stmt:=top 66
abbrev lD:Stmt:=top 67
abbrev fX:Stmt:=top 69
abbrev fA:Stmt:=top 70
abbrev eB:Stmt:=top 71
abbrev cL:Stmt:=lM (top 72) 0
abbrev lJ:Stmt:=top 74
abbrev lH:Stmt:=top 75
abbrev ic:Stmt:=top 76
abbrev jI:Stmt:=top 77
abbrev jL:Stmt:=top 78
abbrev jJ:Stmt:=top 79
abbrev dG:Stmt:=top 80
abbrev jM:Stmt:=top 81
abbrev nF:Stmt:=top 82
abbrev jG:Stmt:=top 83
abbrev ib:Stmt:=top 84
abbrev jE:Stmt:=top 85
abbrev jK:Stmt:=top 86
abbrev nG:Stmt:=top 87
abbrev jH:Stmt:=top 88
abbrev lG:Stmt:=top 89
abbrev jF:Stmt:=top 90
abbrev fB:Stmt:=top 91
abbrev eE:Stmt:=top 92
abbrev pZ:Stmt:=top 93
def tf(a b s:Int):List (Str×V):=putF "strength" (.int s) (putF "two" (.int b) (putF "one" (.int a) []))
theorem j6(a b s:Int):(tf a b s).lookup ("one" : Str)=some (.int a):=by
 unfold tf;rw[aG,NB (by decide),aG,NB (by decide),aG,NA rfl]
theorem oQ(a b s:Int):(tf a b s).lookup ("two" : Str)=some (.int b):=by
 unfold tf;rw[aG,NB (by decide),aG,NA rfl]
theorem tf_str(a b s:Int):(tf a b s).lookup ("strength" : Str)=some (.int s):=by
 unfold tf;rw[aG,NA rfl]
theorem pH(a b s:Int){m:Str} (M:¬ m = "strength") (h2:¬ m = "two") (f:¬ m = "one"):(tf a b s).lookup m=none:=by
 unfold tf;rw[aG,NB M,aG,NB h2,aG,NB f]
 all_goals rfl
theorem f1_len(a:Int):(putF "one" (.int a) []).length<1000:=by show 1<1000;decide
theorem f2_len(a b:Int):(putF "two" (.int b) (putF "one" (.int a) [])).length<1000:=by
 have e:(putF "two" (.int b) (putF "one" (.int a) []):List (Str×V))=([("one",.int a),("two",.int b)]:List (Str×V)):=by
  show(if("one" : Str) = "two" then[(("one" : Str),V.int b)] else(("one" : Str),V.int a)::putF "two" (V.int b) [])=_;rw[NB (by decide)]
  all_goals rfl
 rw[e];show 2<1000;decide
structure CT(K:Hj)(C:Addr):Prop where
 cl:Cls K C
 n1:fy K C "one"
 n2:fy K C "two"
 n3:fy K C "strength"
inductive oR(K:Hj)(vs:List L2.V)(H:L2.Hp)(Q:L2.VK)(x3_:L2.XK):Prop
 |mk (p C dx:Addr)(a b s:Int) (h0_:vs = [.ref p,.int a,.int b,.int s])(h1_:H p=some (.ins C dx []))(h2_:CT K C)(h3_:a≠b)(h4_:0<=a)(h5_:0<=b)(h6_:0<=s)(h7_:∀ H',H' p=some (.ins C dx (tf a b s))->(∀ q o,H q=some o->q≠p->H' q=some o)->Q .non H')
theorem ak(h:H p=none)(o:HO):Same H (upd H p o):=λb u q=>by rw[aq (aH q h)];exact q
theorem aK{l:Addr}(h:Same H H2)(hl:H l=none)(o:HO):Same H (upd H2 l o):=λb u q=>by rw[aq (aH q hl)];exact h b u q
def iV(p:Nat):V:=.int (p:Int)
theorem Gz{k x:Nat}(h:l[k]?=some x):atI (l.map iV) (k:Int)=some (iV x):=aC (by rw[Hr,h];rfl)
def cm(H:Hp)(ys:List V)(es:En):Prop:=ys.length=es.length/\∀(i:Nat)(e:Nat×Nat),es[i]?=some e->∃ p,ys[i]?=some (.ref p)/\H p=some (.tup [iV e.1,iV e.2])
theorem cm.mono(h:cm H ys es)(s:Same H H'):cm H' ys es:=⟨h.1,λi e q=>by
 obtain⟨p,a,b⟩:=h.2 i e q
 exact⟨p,a,s _ _ b⟩⟩
def dN(K:Hj)(H:Hp)(xs:List V)(es:En):Prop:=xs.length=es.length/\∀(i:Nat)(e:Nat×Nat),es[i]?=some e->∃ p C j s,xs[i]?=some (.ref p)/\H p=some (.ins C j (tf (e.1:Int) (e.2:Int) s))/\CT K C
theorem dN.mono(t:dN K H xs es)(h:Same H H'):dN K H' xs es:=⟨t.1,λi e q=>by
 obtain⟨p,C,j,s,a,b,d⟩:=t.2 i e q
 exact⟨p,C,j,s,a,h _ _ b,d⟩⟩
def bC(H:Hp)(xs:List V)(ts:List (List Nat)):Prop:=xs.length=ts.length/\∀(i:Nat)(l:List Nat),ts[i]?=some l->∃ p,xs[i]?=some (.ref p)/\H p=some (.lst (l.map iV))
theorem bC.mono(h:bC H xs ts)(s:Same H H'):bC H' xs ts:=⟨h.1,λi e q=>by
 obtain⟨p,a,b⟩:=h.2 i e q
 exact⟨p,a,s _ _ b⟩⟩
theorem bC.snoc(h:bC H xs ts)(e:H q=some (.lst (l.map iV))):bC H (xs++[.ref q]) (ts++[l]):=by
 refine⟨by rw[Hk,Hk,h.1];rfl,λj k C=>?_⟩
 by_cases c:j<ts.length
 .rw[Ho c]at C;obtain⟨p,I,s⟩:=h.2 j k C;exact⟨p,by rw[Ho (by rw[h.1];exact c)];exact I,s⟩
 .rw[Hm ∅]at C
  have a:j=ts.length:=by
   have:=(Hg.mp C).1;rw[Ht]at this;omega
  subst a;rw[HQ]at C
  cases C
  exact⟨q,by rw[← h.1,Hm (Hl _),HQ];rfl,e⟩
def bD(S:Addr->Prop)(H:Hp)(xs:List V)(ts:List (List Nat)):Prop:=xs.length=ts.length/\∀(i:Nat)(l:List Nat),ts[i]?=some l->∃ p,xs[i]?=some (.ref p)/\¬ S p/\H p=some (.lst (l.map iV))
theorem bD.mono{S:Addr->Prop}(h:bD S H xs ts)(s:∀ b u,¬ S b->H b=some u->H' b=some u):bD S H' xs ts:=⟨h.1,λi e q=>by
 obtain⟨p,a,n,b⟩:=h.2 i e q
 exact⟨p,a,n,s _ _ n b⟩⟩
theorem bD.off{S:Addr->Prop}(h:bD S H xs ts):bC H xs ts:=⟨h.1,λi e q=>by
 obtain⟨p,a,n,b⟩:=h.2 i e q
 exact⟨p,a,b⟩⟩
theorem bD.snoc{S:Addr->Prop}(h:bD S H xs ts)(n:¬ S q)(e:H q=some (.lst (l.map iV))):bD S H (xs++[.ref q]) (ts++[l]):=by
 refine⟨by rw[Hk,Hk,h.1];rfl,λj k C=>?_⟩
 by_cases c:j<ts.length
 .rw[Ho c]at C;obtain⟨p,I,s⟩:=h.2 j k C;exact⟨p,by rw[Ho (by rw[h.1];exact c)];exact I,s⟩
 .rw[Hm ∅]at C
  have a:j=ts.length:=by
   have:=(Hg.mp C).1;rw[Ht]at this;omega
  subst a;rw[HQ]at C
  cases C
  exact⟨q,by rw[← h.1,Hm (Hl _),HQ];rfl,n,e⟩
theorem ng{f:Nat->Nat}(w:bx f N i rs):rs.flatten.length<=N:=dh w.nd λx O=>by
 obtain⟨r,M,J⟩:=Ij.mp O;exact(w.ring r M).lt x J
theorem xJ{f:Nat->Nat}(w:bx f N i rs):rs.length<=N:=by
 have h:∀(l:List (List Nat)),(∀ r∈l,0<r.length)->l.length<=l.flatten.length:=λl=>by
  induction l with
  |nil=>intro _;exact Hl _
  |cons a l Y =>
   intro h;rw[Iq,Hk,HD];have M:=h a (Hu ..);have J:=Y λr u=>h r (Hq _ u);omega
 exact Io (h rs λr u=>(w.ring r u).ne) (ng w)
structure TT(K:Hj)(H:Hp)(a b:Addr)(m:Nat)(es:En)(ts:List (List Nat)):Prop where
 xs:∃ xs,SqL K H a xs/\dN K H xs es
 ys:∃ ys,SqL K H b ys/\bC H ys ts
 w:bO m es ts
 few:es.length<=62
theorem TT.mono{K:Hj}{H H':Hp}{a b:Addr}{m:Nat}{es:En}{ts:List (List Nat)}(t:TT K H a b m es ts)(s:Same H H'):TT K H' a b m es ts:=by
 obtain⟨⟨D,M,J⟩,⟨L,i,C⟩,w,f⟩:=t;exact⟨⟨D,s.seq M,J.mono s⟩,⟨L,s.seq i,C.mono s⟩,w,f⟩
theorem iQ(w:bO m es ts)(f:es.length<=62){p:Nat}(h:ts[p]?=some l):(∀ t∈l,t<62)/\l.length<=62:=by
 have a:∀ t∈l,t<es.length:=λt J=>by
  obtain⟨e,T,_⟩:=(w.mem p l h t).mp J;exact(Hg.mp T).1
 exact⟨λt J=>by have:=a t J;omega,Io (dh (w.nd p l h) a) f⟩
theorem perm(w:bO m es ts):CA (fol es ts) (2*es.length):=⟨λd h=>by
 obtain⟨_,_,_,_,_,_,_,_,z,_⟩:=w.foll h
 exact z,λa b A L h=>w.inj A L h⟩
inductive EI(K:Hj)(vs:List L2.V)(H:L2.Hp)(Q:L2.VK)(x3_:L2.XK):Prop
 |mk (a:Addr)(xs:List V)(es:En)(d:Nat) (h0_:vs = [.ref a,.int (d:Int)])(h1_:SqL K H a xs)(h2_:dN K H xs es)(h3_:d<2*es.length)(h4_:Q (iV (hd es d)) H)
inductive EF(K:Hj)(vs:List L2.V)(H:L2.Hp)(Q:L2.VK)(x3_:L2.XK):Prop
 |mk (a:Addr)(xs:List V)(es:En)(t p:Nat)(e:Nat×Nat) (h0_:vs = [.ref a,.int (t:Int),.int (p:Int)])(h1_:SqL K H a xs)(h2_:dN K H xs es)(h3_:es[t]?=some e)(h4_:Q (iV (if e.1=p then 2*t else 2*t+1)) H)
inductive spFol(K:Hj)(vs:List L2.V)(H:L2.Hp)(Q:L2.VK)(x3_:L2.XK):Prop
 |mk (a b:Addr)(m:Nat)(es:En)(ts:List (List Nat))(d:Nat) (h0_:vs = [.ref a,.ref b,.int (d:Int)])(h1_:TT K H a b m es ts)(h2_:d<2*es.length)(h3_:Q (iV (fol es ts d)) H)
inductive EJ(K:Hj)(vs:List L2.V)(H:L2.Hp)(Q:L2.VK)(x3_:L2.XK):Prop
 |mk (a b:Addr)(m:Nat)(es:En)(ts:List (List Nat))(d:Nat) (h0_:vs = [.ref a,.ref b,.int (d:Int)])(h1_:TT K H a b m es ts)(h2_:d<2*es.length)(h3_:∀ q r H',Same H H'->H q=none->H' q=some (.lst (r.map iV))->Path (fol es ts) (2*es.length) d r->Ring (fol es ts) (2*es.length) r->Q (.ref q) H')
inductive xx(K:Hj)(vs:List L2.V)(H:L2.Hp)(Q:L2.VK)(x3_:L2.XK):Prop
 |mk (a b:Addr)(m:Nat)(es:En)(ts:List (List Nat)) (h0_:vs = [.ref a,.ref b])(h1_:TT K H a b m es ts)(h2_:∀ q ys rs H',Same H H'->H' q=some (.lst ys)->bC H' ys rs->bx (fol es ts) (2*es.length) (2*es.length) rs->Q (.ref q) H')
def gR(H:Hp)(ys:List V)(n:Nat)(rs:List (List Nat)):Prop:=ys.length=n/\∀ i,i<n->∃ p a b r D,ys[i]?=some (.ref p)/\H p=some (.tup [iV a,iV b])/\rs[a]?=some r/\2*i∈r/\rs[b]?=some D/\2*i+1∈D
inductive zV(K:Hj)(vs:List L2.V)(H:L2.Hp)(Q:L2.VK)(x3_:L2.XK):Prop
 |mk (a b:Addr)(xs ys:List V)(es:En)(f:Nat->Nat)(rs:List (List Nat)) (h0_:vs = [.ref a,.ref b])(h1_:SqL K H a xs)(h2_:dN K H xs es)(h3_:es.length<=62)(h4_:SqL K H b ys)(h5_:bC H ys rs)(h6_:bx f (2*es.length) (2*es.length) rs)(h7_:∀ q zs H',Same H H'->H' q=some (.lst zs)->gR H' zs es.length rs->Q (.ref q) H')
def lh(ns:List Int)(k:Nat):Int:=ns.getD k 0
inductive Ag(K:Hj)(vs:List L2.V)(H:L2.Hp)(Q:L2.VK)(x3_:L2.XK):Prop
 |mk (a:Addr)(k:Nat)(ns:List Int) (h0_:vs = [.ref a,.int (k:Int)])(h1_:SqL K H a (ns.map V.int))(h2_:Q (.int (lh ns k)) H)
inductive xD(K:Hj)(vs:List L2.V)(H:L2.Hp)(Q:L2.VK)(x3_:L2.XK):Prop
 |mk (a b:Addr)(ys xs:List V)(m:Nat)(es:En)(ts:List (List Nat))(d:Nat) (h0_:vs = [.ref a,.ref b,.int (d:Int)])(h1_:SqL K H a ys)(h2_:cm H ys es)(h3_:SqL K H b xs)(h4_:bC H xs ts)(h5_:bO m es ts)(h6_:es.length<=62)(h7_:d<2*es.length)(h8_:Q (iV (fol es ts d)) H)
structure Txt(mg:Str->Option Value):Prop where
 n_len:mg "len" = none
 n_int:mg "int" = none
 n_bool:mg "bool" = none
 n_list:mg "list" = none
 n_tuple:mg "tuple" = none
 n_range:mg "range" = none
 n_enumerate:mg "enumerate" = none
 n_isinstance:mg "isinstance" = none
 n_min:mg "min" = none
 n_sum:mg "sum" = none
 n_sorted:mg "sorted" = none
theorem Ao:ay ["ties","dart","tie"] ["ties","dart"] (ar As):=by ac_nf
theorem F0 (F:Fun K "head" "head" As f fd):FnOk P w K mg base CX0 1 f fd ["ties","dart"] (EI K):=by
 refine F.ok Ao (by walk_at "l") λY A g s H l Q E u h=>?_
 obtain⟨a,N,B,d,rfl,x,O,b,k⟩:=h;have D:d/2<B.length:=by omega
 have G:B[d/2]?=some B[d/2]:=Hf D;obtain⟨p,C,j,t,o,c,y⟩:=O.2 _ _ G;have e:hd B d=if d%2=0 then B[d/2].2 else B[d/2].1:=by unfold hd;rw[G]
 have i:(d:Int)/2=((d/2:Nat):Int):=by omega
 refine⟨_,(ah (aB 2 Ao.nd (aR (pv 0) (av bj (pv 1) ai)))
   (ao (aF (iZ (aD cq (av aY (pv 1) ai) ai (aE _)) (bM (pv 2) rfl) (bM (pv 2) rfl))))),?_⟩
 refine⟨_,rfl,_,rfl,_,_,rfl,rfl,⟨by decide,by decide⟩,a,N,_,_,rfl,rfl,x,(by rw[i];exact aC o),?_⟩
 refine⟨_,rfl,_,_,rfl,rfl,(by show(0:Int)<2;decide),rfl,_,rfl,?_⟩
 refine ite2 (λq=>?_) (λq=>?_)
 .have J:(d:Int)%2=0:=V.int.inj (Np q)
  refine⟨_,rfl,p,C,j,_,_,rfl,c,y.cl,y.n2,oQ _ _ _,?_⟩;rw[e,NA ∅]at k
  exact k
 .have J:¬ (d:Int)%2=0:=λz=>q (MJ (congrArg V.int z))
  refine⟨_,rfl,p,C,j,_,_,rfl,c,y.cl,y.n1,j6 _ _ _,?_⟩;rw[e,NB ∅]at k
  exact k
theorem yz:ay ["ties","number","place"] ["ties","number","place"] (ar nE):=by ac_nf
theorem yC (F:Fun K "leaving" "leaving" nE f fd):FnOk P w K mg base CX0 1 f fd ["ties","number","place"] (EF K):=by
 refine F.ok yz (by walk_at "l") λY A g s H l Q E u h=>?_
 obtain⟨a,D,B,t,m,e,rfl,x,O,T,k⟩:=h;obtain⟨p,C,j,d,o,c,y⟩:=O.2 _ _ T;have I:CMul 2 (t:Int):=.inl ⟨by decide,by decide⟩
 refine⟨_,(ao (aF (iZ (aD cq (bM (aR (pv 0) (pv 1)) rfl) (pv 2) (aE _)) (av b9 ai (pv 1)) (av bE (av b9 ai (pv 1)) ai)))),?_⟩;refine⟨_,rfl,_,rfl,a,D,_,_,rfl,rfl,x,aC o,p,C,j,_,_,rfl,c,y.cl,y.n1,j6 _ _ _,_,rfl,rfl,_,rfl,?_⟩;refine ite2 (λq=>?_) (λq=>?_)
 .have J:(e.1:Int)=(m:Int):=V.int.inj (Np q)
  refine⟨_,rfl,_,_,rfl,rfl,I,?_⟩;rw[NA ∅]at k
  exact k
 .have J:¬ (e.1:Int)=(m:Int):=λz=>q (MJ (congrArg V.int z))
  refine⟨_,rfl,_,_,rfl,rfl,I,_,_,rfl,rfl,?_⟩;rw[NB ∅]at k
  exact k
theorem fU:ay ["ties","turns","dart","place","about","behind"] ["ties","turns","dart"] (ar lK):=by ac_nf
theorem vg (F:Fun K "follower" "follower" lK f fd) (T:Txt mg) (am:Cal P w K mg base 1 "head" ["ties","dart"] (EI K) C G) (ab:Cal P w K mg base 1 "leaving" ["ties","number","place"] (EF K) I J):FnOk P w K mg base CX0 2 f fd ["ties","turns","dart"] (spFol K):=by
 refine F.ok fU (by walk_at "l") λY A g s H t Q E u h=>?_
 obtain⟨a,b,m,B,x,d,rfl,tt,aa,k⟩:=h;obtain⟨⟨D,M,N⟩,⟨L,i,y⟩,w',O⟩:=tt;obtain⟨l,e,n,o,p3,p4,p5,p6,p7,p8,p9⟩:=w'.foll aa;obtain⟨ac,len⟩:=iQ w' O n;obtain⟨q,y1,r⟩:=y.2 _ _ n;have ed:(d:Int)/2=((d/2:Nat):Int):=by omega
 refine⟨_,(ah (aB 3 fU.nd (am.c u (af (pv 0) (af (pv 2) aj))))
   (ah (aB 4 fU.nd (aR (pv 1) (pv 3)))
   (ah (aB 5 fU.nd (av aY (av bE (dB HC JZ JY mS (pv 4) (af (av bj (pv 2) ai) aj)) ai) (az ax (by rfl) T.n_len aX (af (pv 4) aj))))
   (ao (aF (ab.c u (af (pv 0) (af (aR (pv 4) (pv 5)) (af (pv 3) aj))))))))),?_⟩
 refine⟨_,rfl,_,rfl,a,D,B,d,rfl,M,N,aa,?_⟩;refine⟨_,rfl,_,rfl,b,L,_,_,rfl,rfl,i,aC y1,?_⟩;have j:(l.map iV).length=l.length:=Hi _;have ae:0<l.length:=IM o;have al:(((l.idxOf (d/2):Nat):Int)+1)%((l.map iV).length:Int)=(((l.idxOf (d/2)+1)%l.length:Nat):Int):=by rw[j];rfl
 refine⟨_,rfl,.inl ⟨rfl,_,SqL.of r⟩,_,rfl,_,_,rfl,rfl,⟨by decide,by decide⟩,q,l,d/2,rfl,congrArg (λz=>[V.int z]) ed,SqL.of r,λp v=>by have:=ac p v;omega,∅,o,_,_,rfl,rfl,_,rfl,q,_,rfl,.inl (SqL.of r),_,_,rfl,rfl,(by show(0:Int)<((l.map iV).length:Int);rw[j];omega),?_⟩
 refine⟨_,rfl,_,rfl,_,rfl,q,_,_,_,rfl,rfl,SqL.of r,(by rw[al];exact Gz (gp o)),_,rfl,a,D,B,nxt l (d/2),hd B d,e,rfl,M,N,p3,?_⟩
 rw[p6]at k;exact k
theorem dP:ay ["ties","turns","first","row","dart"] ["ties","turns","first"] (ar h7):=by ac_nf
theorem F1 (F:Fun K "round_from" "round_from" h7 f fd) (ae:Cal P w K mg base 2 "follower" ["ties","turns","dart"] (spFol K) p G):FnOk P w K mg base CX0 3 f fd ["ties","turns","first"] (EJ K):=by
 refine F.ok dP (by walk_at "l") λI A g s H l Q E u h=>?_
 obtain⟨a,b,m,B,J,d,rfl,tt,ac,k⟩:=h;have pm:=perm tt.w
 refine⟨_,(ah (aB 3 dP.nd (bL (af (pv 2) aj)))
   (ah (aB 4 dP.nd (ae.c u (af (pv 0) (af (pv 1) (af (pv 2) aj)))))
   (ah (dU PassesOwn.never (aD jj (pv 4) (pv 2) (aE _)) (ah (aU (dB HC HU HS aZ (pv 3) (af (pv 4) aj)))
   (ao (aB 4 dP.nd (ae.c u (af (pv 0) (af (pv 1) (af (pv 4) aj))))))))
   (ao (aF (pv 3)))))),?_⟩
 refine⟨_,rfl,(by show 1<=LZ;decide),λq n=>?_⟩
 have j:=ak n (.lst [.int (d:Int)]);refine⟨_,rfl,_,rfl,_,rfl,a,b,m,B,J,d,rfl,tt.mono j,ac,?_⟩;refine eQ (λY N=>∃(r:List Nat)(x:Nat),Y = [some (.ref a),some (.ref b),some (.int (d:Int)),some (.ref q),some (iV (fol B J x))]/\Same H N/\N q=some (.lst ((r++[x]).map iV))/\Path (fol B J) (2*B.length) d (r++[x]))
  (λY N=>match N q with | some (.lst D)=>200-D.length | _=>0) ⟨[],d,rfl,j,ag,xQ ac⟩ ?_ ?_
 .rintro Y N ⟨r,x,rfl,v,aa,pa⟩;refine⟨_,rfl,_,rfl,rfl,_,rfl,?_⟩;have O:=tt.few;have i:=dh pa.nd pa.lt;refine ite2 (λc=>?_) (λc=>?_)
  .have C:fol B J x≠d:=λz=>by
    rw[MJ (show iV (fol B J x)=V.int (d:Int) by rw[z];rfl)]at c
    cases c
   have al:=pa.snoc pm C;have ab:=dh al.nd al.lt;have am:fol B J x<2*B.length:=al.lt _ (by simp)
   refine⟨_,rfl,.inl ⟨rfl,_,SqL.of aa⟩,_,rfl,q,_,_,rfl,rfl,aa,aw (by rw[Hi];omega),?_⟩
   have L:=aK v n (.lst ((r++[x]).map iV++[iV (fol B J x)]));refine⟨_,rfl,_,rfl,_,rfl,a,b,m,B,J,fol B J x,rfl,tt.mono L,am,?_⟩;refine⟨⟨r++[x],fol B J x,rfl,L,?_,al⟩,?_⟩
   .rw[ag,show((r++[x]++[fol B J x]).map iV)=(r++[x]).map iV++[iV (fol B J x)] from by rw[Hv];rfl]
   .show(match(upd N q (.lst ((r++[x]).map iV++[iV (fol B J x)]))) q with | some (.lst D)=>200-D.length | _=>0)<(match N q with | some (.lst D)=>200-D.length | _=>0)
    rw[ag,aa];show 200-((r++[x]).map iV++[iV (fol B J x)]).length<200-((r++[x]).map iV).length;rw[Hk,Hi,Ht];omega
  .have C:fol B J x=d:=by
    by_cases z:fol B J x=d
    .exact z
    .exact NC (by rw[LY (λy=>z (by have:=V.int.inj y;omega))];rfl) c
   refine⟨_,rfl,?_⟩;exact k q _ N v n aa pa (pa.ring pm C)
 .rintro Y N Q1 Q2 o ⟨v',e,b',t,M,C,T,q'⟩;exact⟨v',e,b',t,M,C,T,o _ _ q'⟩
theorem cG:ay ["ties","turns","rounds","seen","dart","row","gone"] ["ties","turns"] (ar jC):=by ac_nf
theorem AO (F:Fun K "rounds_of" "rounds_of" jC f fd) (T:Txt mg) (aS:Cal P w K mg base 3 "round_from" ["ties","turns","first"] (EJ K) C G):FnOk P w K mg base CX0 4 f fd ["ties","turns"] (xx K):=by
 refine F.ok cG (by walk_at "l") λab A I s H vs Q E u h=>?_
 obtain⟨a,b,m,B,ts,rfl,tt,k⟩:=h;have hu:=qN u;have pm:=perm tt.w;have ac:=tt.few;obtain⟨xs,M,J⟩:=tt.xs
 refine⟨_,(ah (aB 2 cG.nd (bL aj))
   (ah (aB 3 cG.nd kE)
   (ah (bw PassesOwn.never rfl (aO rfl T.n_range (af (av b9 ai (az ax (by rfl) T.n_len aX (af (pv 0) aj))) aj)) (bY 4 cG.nd) (ao (bF (xK (kG hu (pv 4) (pv 3))) (ah (aB 5 cG.nd (aS.c u (af (pv 0) (af (pv 1) (af (pv 4) aj)))))
   (ah (aU (dB HC HU HS aZ (pv 2) (af (pv 5) aj)))
   (ao (bw PassesOwn.never rfl (aP (pv 5)) (bY 6 cG.nd) (ao (jO hu (pv 3) (pv 6) nM rfl)))))) aN)))
   (ao (aF (pv 2)))))),?_⟩
 refine⟨(by show 0<=LZ;decide),λqr aT=>λqs aV=>?_⟩
 have t:=(ak aT (.lst [])).trans (ak aV (.dK []));have a2:H qs=none:=by
  cases z:H qs with
  |none=>rfl
  |some o=>rw[ak aT (.lst []) qs o z]at aV;cases aV
 have al:qr≠qs:=λz=>by rw[← z,ag]at aV;cases aV
 have ap:xs.length=B.length:=J.1;have hN:(2*(xs.length:Int)).toNat=2*B.length:=by omega
 refine⟨_,rfl,a,xs,rfl,.inl (t.seq M),_,_,rfl,rfl,.inl ⟨by decide,by decide⟩,_,rfl,∅,∅,bQ (n:=(2*(xs.length:Int)).toNat) (λi Y N=>∃ v4 v5 v6 L rs aa,Y = [some (.ref a),some (.ref b),some (.ref qr),some (.ref qs),v4,v5,v6]/\Same H N/\N qr=some (.lst L)/\bD (λp=>p=qr∨p=qs) N L rs/\N qs=some (.dK aa)/\aa.length<=rs.flatten.length/\(∀ d:Nat,(valV aa (Sum.inl (d:Int))).isSome=true↔d∈rs.flatten)/\bx (fol B ts) (2*B.length) i rs)
  ⟨_,_,_,[],[],[],rfl,t,by rw[aq al,ag],⟨rfl,λi l e=>by simp at e⟩,ag,Hl _,λd=>by simp[valV],oX _ _⟩ ?_ ?_⟩
 .rintro i Y N v ⟨v4,v5,v6,L,rs,aa,rfl,s2,D,rx,e2,kl,km,ro⟩;rw[hN]at v;have e0:(0:Int)+(i:Int)=(i:Int):=IF _;rw[e0];have fl:=ng ro;have rl:=xJ ro;refine⟨_,rfl,_,rfl,_,_,rfl,DGet.k (k:=Sum.inl (i:Int)) e2,_,rfl,?_⟩;refine ite2 (λc=>?_) (λc=>?_)
  .have a0:i∉rs.flatten:=λz=>by
    rw[(km i).mpr z]at c
    cases c
   refine⟨_,rfl,_,rfl,_,rfl,a,b,m,B,ts,i,rfl,tt.mono s2,v,λq r H3 s3 hq aI pa ri=>?_⟩;have aA:=s2.trans s3;have nq:¬ (q=qr∨q=qs):=by
    rintro(z | z)
    .rw[z,D]at hq;cases hq
    .rw[z,e2]at hq;cases hq
   refine⟨_,rfl,.inl ⟨rfl,_,SqL.of (s3 _ _ D)⟩,_,rfl,qr,_,_,rfl,rfl,s3 _ _ D,aw (by rw[rx.1];omega),?_⟩
   have s4:=aK aA aT (.lst (L++[.ref q]));have a3:∀{H5:Hp},bD (λp=>p=qr∨p=qs) H5 (L++[.ref q]) (rs++[r])->H5 q=some (.lst (r.map iV)):=λh=>by
    obtain⟨p,z1,_,z2⟩:=h.2 rs.length r (by rw[Hm (Hl _),HQ];rfl)
    rw[← rx.1,Hm (Hl _),HQ]at z1
    cases z1
    exact z2
   have a4:bD (λp=>p=qr∨p=qs) (upd H3 qr (.lst (L++[.ref q]))) (L++[.ref q]) (rs++[r]):=by
    refine(rx.mono λp o n z=>?_).snoc nq ?_
    .rw[aq (λz=>n (.inl z))];exact s3 _ _ z
    .rw[aq (λz=>nq (.inl z))];exact aI
   have rl:r.length<=2*B.length:=dh ri.nd ri.lt
   refine⟨_,rfl,q,rfl,⟨_,SqL.of (a3 a4)⟩,cu (xs:=r.map iV) (λj Y H5=>∃ v6 ae,Y = [some (.ref a),some (.ref b),some (.ref qr),some (.ref qs),some (.int (i:Int)),some (.ref q),v6]/\Same H H5/\H5 qr=some (.lst (L++[.ref q]))/\bD (λp=>p=qr∨p=qs) H5 (L++[.ref q]) (rs++[r])/\H5 qs=some (.dK ae)/\ae.length<=rs.flatten.length+j/\∀ d:Nat,(valV ae (Sum.inl (d:Int))).isSome=true↔d∈rs.flatten∨d∈r.take j)
    ⟨_,aa,rfl,s4,ag,a4,by rw[aq al.symm];exact s3 _ _ e2,kl,λd=>by rw[km d];simp⟩ (λj Y H5 _ p=>?_) ?_ ?_⟩
   .obtain⟨_,_,_,_,_,z,_⟩:=p;exact SqL.of (a3 z)
   .rintro j x Y H5 O ⟨v6,ae,rfl,s5,f1,am,f2,aL,an⟩;rw[Hr]at O;obtain⟨g,hg,rfl⟩:=HF.mp O;have a5:j<r.length:=(Hg.mp hg).1;refine⟨_,rfl,_,rfl,qs,_,rfl,DPut.k (k:=Sum.inl (g:Int)) f2 (aw ∅),?_⟩
    refine⟨_,_,rfl,aK s5 a2 _,by rw[aq al];exact f1,am.mono λp o n z=>by rw[aq (λz=>n (.inr z))];exact z,ag,by have:=cF ae (Sum.inl (g:Int)) (V.bl true);omega,λd=>?_⟩
    rw[eX];have tk:r.take (j+1)=r.take j++[g]:=by rw[HH,hg];rfl
    rw[tk];by_cases z:d=g
    .subst z;simp
    .rw[NB (λy=>z (by have:=Sum.inl.inj y;omega)),an d]
     simp[z]
   .rintro Y H5 ⟨v6,ae,rfl,s5,f1,am,f2,aL,an⟩;rw[Hi]at aL an;refine⟨_,_,_,_,rs++[r],ae,rfl,s5,f1,am,f2,by rw[IE,Hk];simpa using aL,λd=>?_,ro.put pm a0 v ri pa⟩
    rw[an d,HL,IE,Hx];simp
  .have a1:i∈rs.flatten:=(km i).mp (by
    cases z:(valV aa (Sum.inl (i:Int))).isSome with
    |true=>rfl
    |false=>exact NC (by rw[z];rfl) c)
   exact⟨_,_,_,L,rs,aa,rfl,s2,D,rx,e2,kl,km,ro.skip a1⟩
 .rintro Y N ⟨v4,v5,v6,L,rs,aa,rfl,s2,D,rx,e2,kl,km,ro⟩;rw[hN]at ro;exact⟨_,rfl,k qr L rs N s2 D rx.off ro⟩
theorem dZ:ay ["ties","rounds","number_at","number","row","dart"] ["ties","rounds"] (ar lD):=by ac_nf
theorem Dh (F:Fun K "sides_of" "sides_of" lD f fd) (T:Txt mg):FnOk P w K mg base CX0 1 f fd ["ties","rounds"] (zV K):=by
 refine F.ok dZ (by walk_at "l") λaa A I s H vs Q E u h=>?_
 obtain⟨a,b,xs,M,B,g,rs,rfl,hS,hT,ab,hB,hR,ro,k⟩:=h;have hu:=qN u;have fl:=ng ro
 refine⟨_,(ah (aB 2 dZ.nd kE)
   (ah (bw PassesOwn.never rfl (gm rfl T.n_enumerate (af (pv 1) aj)) (nL rfl (aJ (bY 3 dZ.nd) (aJ (bY 4 dZ.nd) bT))) (ao (bw PassesOwn.never rfl (aP (pv 4)) (bY 5 dZ.nd) (ao (jO hu (pv 2) (pv 5) (pv 3) rfl)))))
   (ao (aF (cR [("number_at",2)] ["i"] (aO rfl T.n_range (af (az ax (by rfl) T.n_len aX (af (pv 0) aj)) aj)) pg_c pt_c (λC ex s H=>(bh (af (gn hu (pv 1) (av b9 ai (pv 0)) (λ_ _=>rfl)) (af (gn hu (pv 1) (av bE (av b9 ai (pv 0)) ai) (λ_ _=>rfl)) aj))))))))),?_⟩
 intro q hq;have l:=ak hq (.dK []);have kF:∀ i,(rs.take i).flatten.length<=rs.flatten.length:=λi=>by
  have:=congrArg (λz=>z.flatten.length) (JM i rs);simp only[IE,Hk]at this;omega
 refine⟨_,rfl,b,rfl,⟨_,l.seq hB⟩,m9 (K:=K) (xs:=M) (λi Y N=>∃ v3 v4 v5 m,Y = [some (.ref a),some (.ref b),some (.ref q),v3,v4,v5]/\Same H N/\N q=some (.dK m)/\m.length<=(rs.take i).flatten.length/\∀(d c:Nat)(r:List Nat),c<i->rs[c]?=some r->d∈r->valV m (Sum.inl (d:Int))=some (iV c))
  ⟨_,_,_,[],rfl,l,ag,Ia _,λd c r z=>NC z (IY _)⟩ (λi Y N _ al=>by obtain⟨_,_,_,_,_,v,_⟩:=al;exact v.seq hB) ?_ ?_⟩
 .rintro i x Y N T2 O ⟨v3,v4,v5,m,rfl,v,G,kl,km⟩ ae;have aS:i<rs.length:=by
   have:=(Hg.mp O).1;rw[hR.1]at this;exact this
  have am:rs[i]?=some rs[i]:=Hf aS;obtain⟨p,x1,x2⟩:=hR.2 i _ am;rw[O]at x1
  cases x1
  generalize rs[i]=r at am x2;have s3:Same H (upd N T2 (.tup [.int (i:Int),.ref p])):=v.trans (ak ae _);have f1:(rs.take (i+1)).flatten=(rs.take i).flatten++r:=by rw[HH,am];simp
  have f2:=kF (i+1);rw[f1,Hk]at f2;refine⟨T2,_,rfl,SqT.of ag,rfl,_,_,rfl,_,_,rfl,rfl,?_⟩
  refine⟨_,rfl,p,rfl,⟨_,SqL.of (s3 _ _ x2)⟩,cu (xs:=r.map iV) (λj Y H5=>∃ v5 ac,Y = [some (.ref a),some (.ref b),some (.ref q),some (.int (i:Int)),some (.ref p),v5]/\Same H H5/\H5 q=some (.dK ac)/\ac.length<=(rs.take i).flatten.length+j/\(∀(d c:Nat)(r:List Nat),c<i->rs[c]?=some r->d∈r->valV ac (Sum.inl (d:Int))=some (iV c))/\∀ d∈r.take j,valV ac (Sum.inl (d:Int))=some (iV i))
   ⟨_,m,rfl,s3,ak ae _ _ _ G,kl,km,λd hd=>by simp at hd⟩ (λj Y H5 _ al=>by obtain⟨_,_,_,z,_⟩:=al;exact SqL.of (z _ _ x2)) ?_ ?_⟩
  .rintro j x Y H5 aL ⟨v5,ac,rfl,s5,g1,aI,an,aV⟩;rw[Hr]at aL;obtain⟨g,hg,rfl⟩:=HF.mp aL;have a0:j<r.length:=(Hg.mp hg).1;refine⟨_,rfl,_,rfl,_,rfl,q,_,rfl,DPut.k (k:=Sum.inl (g:Int)) g1 (aw ∅),?_⟩
   refine⟨_,_,rfl,aK s5 hq _,ag,by have:=cF ac (Sum.inl (g:Int)) (V.int (i:Int));omega,λd c r' L aT hd=>?_,λd hd=>?_⟩
   .rw[eX,NB (λz=>?_)]
    .exact an d c r' L aT hd
    .have z':d=g:=by have:=Sum.inl.inj z;omega
     subst z';have:=n9 ro.nd aT am hd (Hh hg);omega
   .rw[eX];by_cases z:d=g
    .subst z;rw[NA rfl];rfl
    .rw[NB (λy=>z (by have:=Sum.inl.inj y;omega))]
     refine aV d ?_;rw[HH,hg]at hd;simpa[z] using hd
  .rintro Y H5 ⟨v5,ac,rfl,s5,g1,aI,an,aV⟩;rw[Hi]at aI aV;rw[HL]at aV;refine⟨_,_,_,ac,rfl,s5,g1,by rw[f1,Hk];exact aI,λd c r' L aT hd=>?_⟩
   by_cases z:c=i
   .subst z;rw[am]at aT
    cases aT
    exact aV d hd
   .exact an d c r' ∅ aT hd
 .rintro Y N ⟨v3,v4,v5,m,rfl,v,G,kl,km⟩;rw[hR.1]at km;have get:∀ d,d<2*B.length->∃ c r,rs[c]?=some r/\d∈r/\valV m (Sum.inl (d:Int))=some (iV c):=λd hd=>by
   obtain⟨r,z1,z2⟩:=Ij.mp (ro.all d hd);obtain⟨c,z3⟩:=Ih.mp z1;exact⟨c,r,z3,z2,km d c r (Hg.mp z3).1 z3 z2⟩
  have ap:xs.length=B.length:=hT.1;refine⟨_,rfl,a,xs,rfl,.inl (v.seq hS),_,rfl,∅,∅,cj (λi n H3=>Same N H3/\gR H3 n i rs) (by rw[Hn,ap];exact HJ (aw ∅)) ⟨λ_ _ e=>e,rfl,λi o=>NC o (IY _)⟩ ?_ ?_⟩
  .rintro i n H3 o ⟨s3,sd⟩;have e0:(0:Int)+(i:Int)=(i:Int):=IF _;rw[e0];rw[Hn,ap]at o;obtain⟨c1,r1,z1,z2,z3⟩:=get (2*i) ∅
   obtain⟨c2,r2,y1,y2,y3⟩:=get (2*i+1) ∅
   have m2:CMul 2 (i:Int):=.inl ⟨by decide,by decide⟩
   have d1:DGet H3 q (V.int (2*(i:Int))) (some (iV c1)):=by
    rw[← z3,show((2*i:Nat):Int)=2*(i:Int) by omega]
    exact DGet.k (k:=Sum.inl (2*(i:Int))) (s3 _ _ G)
   have d2:DGet H3 q (V.int (2*(i:Int)+1)) (some (iV c2)):=by
    rw[← y3,show((2*i+1:Nat):Int)=2*(i:Int)+1 by omega]
    exact DGet.k (k:=Sum.inl (2*(i:Int)+1)) (s3 _ _ G)
   refine⟨_,rfl,_,rfl,_,_,rfl,rfl,m2,q,_,rfl,d1,_,rfl,_,rfl,_,_,rfl,rfl,m2,_,_,rfl,rfl,q,_,rfl,d2,(by show 2<=LZ;decide),λt J=>?_⟩
   have s4:=ak J (.tup [iV c1,iV c2]);refine⟨s3.trans s4,by rw[Hk,sd.1];rfl,λj hj=>?_⟩
   by_cases z:j=i
   .subst z;exact⟨t,c1,c2,r1,r2,by rw[← sd.1,Hm (Hl _),HQ];rfl,ag,z1,z2,y1,y2⟩
   .obtain⟨p,a',b',r,r',w1,w2,w3⟩:=sd.2 j ∅
    exact⟨p,a',b',r,r',by rw[Ho (by rw[sd.1];omega)];exact w1,s4 _ _ w2,w3⟩
  .rintro n H3 aA ⟨s3,sd⟩ D hD;rw[Hn,ap]at sd
   exact k D n _ ((v.trans s3).trans (ak hD _)) ag ⟨sd.1,λi o=>by
    obtain⟨p,a',b',r,r',w1,w2,w3⟩:=sd.2 i o
    exact⟨p,a',b',r,r',w1,ak hD _ _ _ w2,w3⟩⟩
theorem pV:ay ["self","one","two","strength"] ["self","one","two","strength"] (ar cN):=by ac_nf
theorem FZ (F:Fun K "__init__" "Tie.__init__" cN f fd):FnOk P w K mg base CX0 1 f fd ["self","one","two","strength"] (oR K):=by
 refine F.ok pV (by walk_at "l") λY A g s H d Q E u h=>?_
 obtain⟨p,C,j,a,b,st,rfl,B,T,r,O,L,l,k⟩:=h
 refine⟨_,(ah (bF (aD cq (pv 1) (pv 2) (aE _)) (ao cC) aN)
   (ah (bF (PW.pt (oF (aD sJ (pv 1) ai (aE _)) (nK (aD sJ (pv 2) ai (aE _))))) (ao cC) aN)
   (ah (bF (aD sJ (pv 3) ai (aE _)) (ao cC) aN)
   (ah (lV (pv 0) (pv 1) rfl)
   (ah (lV (pv 0) (pv 2) rfl)
   (ao (lV (pv 0) (pv 3) rfl))))))),?_⟩
 walk_at "rd";refine ite2 (λc=>NC (V.int.inj (Np c)) r) (λ_=>?_);walk_at "rd";refine ite2 (λc=>NC (Np c) ∅) (λ_=>?_)
 walk_at "rd";refine ite2 (λc=>NC (Np c) ∅) (λ_=>?_)
 walk_at "rd";refine ite2 (λc=>NC (Np c) ∅) (λ_=>?_)
 refine⟨_,rfl,_,rfl,p,C,j,[],rfl,B,T.cl,T.n1,(by show 0<1000;decide),?_⟩
 refine⟨_,rfl,_,rfl,p,C,j,_,rfl,ag,T.cl,T.n2,f1_len a,?_⟩;refine⟨_,rfl,_,rfl,p,C,j,_,rfl,ag,T.cl,T.n3,f2_len a b,?_⟩;exact k _ ag λq o e n=>by rw[aq n,aq n,aq n];exact e
theorem uI:ay ["script","k"] ["script","k"] (ar lJ):=by ac_nf
theorem F3 (F:Fun K "_law_cell" "_law_cell" lJ f fd) (T:Txt mg):FnOk P w K mg base CX0 1 f fd ["script","k"] (Ag K):=by
 refine F.ok uI (by walk_at "l") λY A g s H l Q E u h=>?_
 obtain⟨a,k,b,rfl,D,q⟩:=h
 refine⟨_,(ah (bF (aD sJ (pv 1) (az ax (by rfl) T.n_len aX (af (pv 0) aj)) (aE _)) (ao (aF (aR (pv 0) (pv 1)))) aN)
   (ao (aF ai))),?_⟩
 refine⟨_,rfl,_,rfl,a,_,rfl,.inl D,_,_,rfl,rfl,_,rfl,?_⟩;refine ite2 (λc=>?_) (λc=>?_)
 .have j:(k:Int)<((b.map V.int).length:Int):=Np c
  rw[Hi]at j;have C:k<b.length:=by omega
  have t:atI (b.map V.int) (k:Int)=some (.int (lh b k)):=aC (by rw[Hr,Hf C];unfold lh;rw[Hz,Hf C];rfl)
  exact⟨_,rfl,_,rfl,a,_,_,_,rfl,rfl,D,t,q⟩
 .have j:¬ (k:Int)<((b.map V.int).length:Int):=λz=>c (MJ z)
  rw[Hi]at j;have e:lh b k=0:=by unfold lh;rw[Hz,Jz ∅];rfl
  rw[e]at q;exact q
theorem at0{u:V}:atI [u,v] 0=some u:=rfl
theorem at1{u:V}:atI [u,v] 1=some v:=rfl
theorem vn(h:SqL K H a (ps.map iV)):RdD K H (.ref a) (.list ((ps.map λ(p:Nat)=>((p:Nat):Int)).map PyData.int)):=by
 refine RdD.lst h (by simp) λi x d G E=>?_
 rw[Hr]at G;rw[Hr,Hr]at E
 cases z:ps[i]? with
 |none=>rw[z]at G;cases G
 |some n =>
  rw[z]at G E
  cases G
  cases E
  exact .int _
theorem Bj(l:List Int):(PyData.list (l.map PyData.int)).canLay0=true/\(PyData.list (l.map PyData.int)).depth<=10:=by
 have M:∀ d∈l.map PyData.int,d.canLay0=true/\d.depth<=1:=λd hd=>by
  obtain⟨x,_,rfl⟩:=Ie.mp hd;exact⟨by simp[MT],by simp[MR]⟩
 have J:=iK λd hd=>(M d hd).1;have f:=jY λd hd=>(M d hd).2;exact⟨by simp only[MT];exact J,by simp only[MR];omega⟩
theorem nY(l:List Int):SeqAt.shaped (.list (l.map PyData.int))=true:=jy λd hd=>by
 obtain⟨x,_,rfl⟩:=Ie.mp hd;exact⟨by simp[MT],by simp[MR]⟩
theorem cm.put{o:HO}(t:cm H ys es)(h:H q=some (.lst zs)):cm (upd H q o) ys es:=⟨t.1,λi e z=>by
 obtain⟨p,a,b⟩:=t.2 i e z;refine⟨p,a,?_⟩;rw[aq (λz=>by rw[z,h]at b;cases b)]
 exact b⟩
theorem cm.snoc(t:cm H xs es)(h:H p=some (.tup [iV e.1,iV e.2])):cm H (xs++[.ref p]) (es++[e]):=by
 refine⟨by rw[Hk,Hk,t.1];rfl,λj k C=>?_⟩
 by_cases c:j<es.length
 .rw[Ho c]at C;obtain⟨p,I,s⟩:=t.2 j k C;exact⟨p,by rw[Ho (by rw[t.1];exact c)];exact I,s⟩
 .rw[Hm ∅]at C
  have a:j=es.length:=by
   have:=(Hg.mp C).1;rw[Ht]at this;omega
  subst a;rw[HQ]at C
  cases C
  exact⟨p,by rw[← t.1,Hm (Hl _),HQ];rfl,h⟩
theorem Gy{k:Nat}:(ins l k n).length=l.length+1:=by
 unfold ins;rw[Hk,HD,HW,ID];omega
theorem ER(X:Int)(n:Nat):0<=X%((n:Int)+1)/\X%((n:Int)+1)<=(n:Int):=⟨Jt _ ∅,by have:=Jk X (show(0:Int)<(n:Int)+1 by omega);omega⟩
def Dist(xs:List V):Prop:=∀(i j:Nat)(p:Addr),xs[i]?=some (.ref p)->xs[j]?=some (.ref p)->i=j
theorem bD.set{S:Addr->Prop}(h:bD S H xs ts)(D:Dist xs)(e:xs[i]?=some (.ref p)):bD S (upd H p (.lst (l'.map iV))) xs (ts.set i l'):=by
 refine⟨by rw[Il];exact h.1,λj l z=>?_⟩
 have d:i<ts.length:=by rw[← h.1];exact(Hg.mp e).1
 rw[Ip]at z;by_cases c:i=j
 .subst c;rw[NA rfl,NA d]at z
  cases z
  obtain⟨o,I,s,x⟩:=h.2 i _ (Hf d);rw[e]at I
  cases I
  exact⟨p,e,s,ag⟩
 .rw[NB c]at z;obtain⟨o,I,s,x⟩:=h.2 j l z;exact⟨o,I,s,by rw[aq (λy=>by rw[y]at I;exact c (D i j p e I))];exact x⟩
theorem insV{k:Nat}:(l.map iV).take k++V.int (n:Int)::(l.map iV).drop k=(ins l k n).map iV:=by
 unfold ins;rw[Hv,HR,LS,LU];rfl
theorem qg(h:SqL K H a xs)(B:bC H xs ts):RdD K H (.ref a) (.list (ts.map λl=>PyData.list ((l.map λ(p:Nat)=>((p:Nat):Int)).map PyData.int))):=by
 refine RdD.lst h (by rw[Hi];exact B.1) λi x d G E=>?_
 rw[Hr]at E;obtain⟨l,D,rfl⟩:=HF.mp E;obtain⟨p,I,s⟩:=B.2 i l D;rw[G]at I
 cases I
 exact vn (SqL.of s)
theorem nJ(ts:List (List Nat)):SeqAt.shaped (.list (ts.map λl=>PyData.list ((l.map λ(p:Nat)=>((p:Nat):Int)).map PyData.int)))=true:=jy λd hd=>by
 obtain⟨l,_,rfl⟩:=Ie.mp hd;exact Bj _
end K8
namespace K8
open PySem L2
inductive uD(K:Hj)(vs:List L2.V)(H:L2.Hp)(Q:L2.VK)(x3_:L2.XK):Prop
 |mk (a:Addr)(ys:List V)(es:En)(d:Nat) (h0_:vs = [.ref a,.int (d:Int)])(h1_:SqL K H a ys)(h2_:cm H ys es)(h3_:d<2*es.length)(h4_:Q (iV (hd es d)) H)
inductive pN(K:Hj)(vs:List L2.V)(H:L2.Hp)(Q:L2.VK)(x3_:L2.XK):Prop
 |mk (a b:Addr)(ys xs:List V)(m:Nat)(es:En)(ts:List (List Nat))(d:Nat) (h0_:vs = [.ref a,.ref b,.int (d:Int)])(h1_:SqL K H a ys)(h2_:cm H ys es)(h3_:SqL K H b xs)(h4_:bC H xs ts)(h5_:bO m es ts)(h6_:es.length<=62)(h7_:d<2*es.length)(h8_:∀ q r H',Same H H'->H q=none->H' q=some (.lst (r.map iV))->Path (fol es ts) (2*es.length) d r->Ring (fol es ts) (2*es.length) r->Q (.ref q) H')
theorem uH:ay ["ends","dart"] ["ends","dart"] (ar lH):=by ac_nf
theorem Dr (F:Fun K "_law_head" "_law_head" lH f fd):FnOk P w K mg base CX0 1 f fd ["ends","dart"] (uD K):=by
 refine F.ok uH (by walk_at "l") λY A g s H l Q E u h=>?_
 obtain⟨a,M,B,d,rfl,x,N,b,k⟩:=h;have D:d/2<B.length:=by omega
 have G:B[d/2]?=some B[d/2]:=Hf D;obtain⟨p,o,q⟩:=N.2 _ _ G;have e:hd B d=if d%2=0 then B[d/2].2 else B[d/2].1:=by unfold hd;rw[G]
 have i:(d:Int)/2=((d/2:Nat):Int):=by omega
 have t:atI [iV B[d/2].1,iV B[d/2].2] (1-(d:Int)%2)=some (iV (hd B d)):=by
  by_cases z:d%2=0
  .rw[e,NA z,show(1-(d:Int)%2)=1 by omega];rfl
  .rw[e,NB z,show(1-(d:Int)%2)=0 by omega];rfl
 refine⟨_,(ao (aF (aM (aR (pv 0) (av bj (pv 1) ai)) (av dM ai (av aY (pv 1) ai))))),?_⟩;exact⟨_,rfl,_,rfl,_,_,rfl,rfl,⟨by decide,by decide⟩,a,M,_,_,rfl,rfl,x,(by rw[i];exact aC o),_,rfl,_,_,rfl,rfl,(by show(0:Int)<2;decide),_,_,rfl,rfl,p,_,_,_,rfl,rfl,SqT.of q,t,k⟩
theorem dQ:ay ["ends","turns","dart","place","row","tie"] ["ends","turns","dart"] (ar ic):=by ac_nf
theorem yD (F:Fun K "_law_behind" "_law_behind" ic f fd) (T:Txt mg) (L:Cal P w K mg base 1 "_law_head" ["ends","dart"] (uD K) C G):FnOk P w K mg base CX0 2 f fd ["ends","turns","dart"] (xD K):=by
 refine F.ok dQ (by walk_at "l") λY A g s H t Q E u h=>?_
 obtain⟨a,b,M,D,m,B,J,d,rfl,x,hE,hB,i,y,O,aa,k⟩:=h;obtain⟨l,e,N,I,p3,p4,p5,p6,p7,p8,p9⟩:=y.foll aa;obtain⟨ab,len⟩:=iQ y O N;obtain⟨q,n,r⟩:=i.2 _ _ N;obtain⟨o,al,am⟩:=hE.2 _ _ p3;have ed:(d:Int)/2=((d/2:Nat):Int):=by omega
 have ac:0<l.length:=IM I;have j:(l.map iV).length=l.length:=Hi _;have ae:(((l.idxOf (d/2):Nat):Int)+1)%((l.map iV).length:Int)=(((l.idxOf (d/2)+1)%l.length:Nat):Int):=by rw[j];rfl
 have m2:CMul 2 ((nxt l (d/2):Nat):Int):=.inl ⟨by decide,by decide⟩
 refine⟨_,(ah (aB 3 dQ.nd (L.c u (af (pv 0) (af (pv 2) aj))))
   (ah (aB 4 dQ.nd (aR (pv 1) (pv 3)))
   (ah (aB 5 dQ.nd (aR (pv 4) (av aY (av bE (dB HC JZ JY mS (pv 4) (af (av bj (pv 2) ai) aj)) ai) (az ax (by rfl) T.n_len aX (af (pv 4) aj)))))
   (ao (aF (av bE (av b9 ai (pv 5)) (cz Cm (by rfl) T.n_int yk (af (cE jj (aM (aR (pv 0) (pv 5)) ai) (pv 3) (aE _)) aj)))))))),?_⟩
 refine⟨_,rfl,_,rfl,a,M,B,d,rfl,x,hE,aa,?_⟩;refine⟨_,rfl,_,rfl,b,D,_,_,rfl,rfl,hB,aC n,?_⟩;refine⟨_,rfl,_,rfl,.inl ⟨rfl,_,SqL.of r⟩,_,rfl,_,_,rfl,rfl,⟨by decide,by decide⟩,q,l,d/2,rfl,congrArg (λz=>[V.int z]) ed,SqL.of r,λp v=>by have:=ab p v;omega,∅,I,_,_,rfl,rfl,_,rfl,q,_,rfl,.inl (SqL.of r),_,_,rfl,rfl,(by show(0:Int)<((l.map iV).length:Int);rw[j];omega),q,_,_,_,rfl,rfl,SqL.of r,(by rw[ae];exact Gz (gp I)),?_⟩
 refine⟨_,rfl,_,_,rfl,rfl,m2,_,rfl,_,rfl,a,M,_,_,rfl,rfl,x,aC al,o,_,0,_,rfl,rfl,SqT.of am,at0,_,rfl,rfl,.inr ⟨_,rfl,_,_,rfl,rfl,?_⟩⟩;rw[p6]at k;by_cases c:e.1=hd B d
 .rw[NA c]at k;rw[MJ (congrArg iV c)];simpa[iV] using k
 .rw[NB c]at k;rw[LY (λz=>c (by have:=V.int.inj z;omega))]
  simpa[iV] using k
theorem eY:ay ["ends","turns","dart","row","at"] ["ends","turns","dart"] (ar jI):=by ac_nf
theorem AQ (F:Fun K "_law_round" "_law_round" jI f fd) (ac:Cal P w K mg base 2 "_law_behind" ["ends","turns","dart"] (xD K) p G):FnOk P w K mg base CX0 3 f fd ["ends","turns","dart"] (pN K):=by
 refine F.ok eY (by walk_at "l") λI A g s H l Q E u h=>?_
 obtain⟨a,b,M,D,m,B,J,d,rfl,hS,hE,hB,hR,w',O,ae,k⟩:=h;have pm:=perm w'
 refine⟨_,(ah (aB 3 eY.nd (bL (af (pv 2) aj)))
   (ah (aB 4 eY.nd (ac.c u (af (pv 0) (af (pv 1) (af (pv 2) aj)))))
   (ah (dU PassesOwn.never (aD jj (pv 4) (pv 2) (aE _)) (ah (aU (dB HC HU HS aZ (pv 3) (af (pv 4) aj)))
   (ao (aB 4 eY.nd (ac.c u (af (pv 0) (af (pv 1) (af (pv 4) aj))))))))
   (ao (aF (pv 3)))))),?_⟩
 refine⟨_,rfl,(by show 1<=LZ;decide),λq n=>?_⟩
 have j:=ak n (.lst [.int (d:Int)]);refine⟨_,rfl,_,rfl,_,rfl,a,b,M,D,m,B,J,d,rfl,j.seq hS,hE.mono j,j.seq hB,hR.mono j,w',O,ae,?_⟩;refine eQ (λY N=>∃(r:List Nat)(x:Nat),Y = [some (.ref a),some (.ref b),some (.int (d:Int)),some (.ref q),some (iV (fol B J x))]/\Same H N/\N q=some (.lst ((r++[x]).map iV))/\Path (fol B J) (2*B.length) d (r++[x]))
  (λY N=>match N q with | some (.lst D)=>200-D.length | _=>0) ⟨[],d,rfl,j,ag,xQ ae⟩ ?_ ?_
 .rintro Y N ⟨r,x,rfl,v,aa,pa⟩;refine⟨_,rfl,_,rfl,rfl,_,rfl,?_⟩;have i:=dh pa.nd pa.lt;refine ite2 (λc=>?_) (λc=>?_)
  .have C:fol B J x≠d:=λz=>by
    rw[MJ (show iV (fol B J x)=V.int (d:Int) by rw[z];rfl)]at c
    cases c
   have al:=pa.snoc pm C;have ab:=dh al.nd al.lt;have am:fol B J x<2*B.length:=al.lt _ (by simp)
   refine⟨_,rfl,.inl ⟨rfl,_,SqL.of aa⟩,_,rfl,q,_,_,rfl,rfl,aa,aw (by rw[Hi];omega),?_⟩
   have L:=aK v n (.lst ((r++[x]).map iV++[iV (fol B J x)]));refine⟨_,rfl,_,rfl,_,rfl,a,b,M,D,m,B,J,fol B J x,rfl,L.seq hS,hE.mono L,L.seq hB,hR.mono L,w',O,am,?_⟩;refine⟨⟨r++[x],fol B J x,rfl,L,?_,al⟩,?_⟩
   .rw[ag,show((r++[x]++[fol B J x]).map iV)=(r++[x]).map iV++[iV (fol B J x)] from by rw[Hv];rfl]
   .show(match(upd N q (.lst ((r++[x]).map iV++[iV (fol B J x)]))) q with | some (.lst D)=>200-D.length | _=>0)<(match N q with | some (.lst D)=>200-D.length | _=>0)
    rw[ag,aa];show 200-((r++[x]).map iV++[iV (fol B J x)]).length<200-((r++[x]).map iV).length;rw[Hk,Hi,Ht];omega
  .have C:fol B J x=d:=by
    by_cases z:fol B J x=d
    .exact z
    .exact NC (by rw[LY (λy=>z (by have:=V.int.inj y;omega))];rfl) c
   refine⟨_,rfl,?_⟩;exact k q _ N v n aa pa (pa.ring pm C)
 .rintro Y N Q1 Q2 o ⟨v',e,b',t,T,C,e3,q'⟩;exact⟨v',e,b',t,T,C,e3,o _ _ q'⟩
inductive z0(vs:List L2.V)(H:L2.Hp)(Q:L2.VK)(x3_:L2.XK):Prop
 |mk (c:Int)(m:Nat) (h0_:vs = [.int c,.int (m:Int)])(h1_:m<=100)(h2_:∀(q:Addr)(o:List Nat)(H':Hp),Same H H'->H q=none->H' q=some (.lst (o.map iV))->o.length=m->o.Nodup->(∀ x∈o,x<m)->Q (.ref q) H')
inductive Ac(K:Hj)(vs:List L2.V)(H:L2.Hp)(Q:L2.VK)(x3_:L2.XK):Prop
 |mk (a:Addr)(cs:List Int) (h0_:vs = [.ref a])(h1_:SqL K H a (cs.map V.int))(h2_:cs.length<=30)(h3_:∀(t pe pt:Addr)(ys xs:List V)(m:Nat)(es:En)(ts:List (List Nat))(H':Hp),Same H H'->H' t=some (.tup [.ref pe,.ref pt])->H' pe=some (.lst ys)->cm H' ys es->H' pt=some (.lst xs)->bC H' xs ts->Gr m es ts->es.length=cs.length+1->Q (.ref t) H')
def Hd(H:Hp)(a pe pt:Addr)(i:Nat)(σ:St)(O:Hp):Prop:=∃ q r c g d h k b M D m B J,σ = [some (.ref a),some (.ref pe),some (.ref pt),q,r,c,g,d,h,k,b]/\Same H O/\O pe=some (.lst M)/\cm O M B/\O pt=some (.lst D)/\bD (λp=>p=pe∨p=pt∨H p≠none) O D J/\Dist D/\Gr m B J/\B.length=i+1
theorem mV{H7:Hp}{pe pt:Addr}{ts':List (List Nat)}(l:pe≠pt)(v:H pe=none)(s7:Same H H7)(M:H7 pe=some (.lst ys))(h2:cm H7 ys es)(f:H7 pt=some (.lst xs))(C:bD (λp=>p=pe∨p=pt∨H p≠none) H7 xs ts')(s:Dist xs)(u:Gr N (es++[e]) ts')(hi:es.length=i+1)
  {t:Addr} (J:H7 t=none) {x:V} (O:x=iV e.1) (G:y=iV e.2) (q r c g d h k b:Option V):Hd H a pe pt (i+1) [some (.ref a),some (.ref pe),some (.ref pt),q,r,c,g,d,h,k,b] (upd (upd H7 t (.tup [x,y])) pe (.lst (ys++[.ref t]))):=by
 subst O G;have j:=ak J (.tup [iV e.1,iV e.2]);refine⟨_,_,_,_,_,_,_,_,_,xs,N,es++[e],ts',rfl,aK (s7.trans j) v _,ag,((h2.mono j).snoc ag).put (j _ _ M),by rw[aq l.symm];exact j _ _ f,C.mono λp o n z=>?_,s,u,by rw[Hk,hi];rfl⟩
 rw[aq (λz=>n (.inl z))];exact j _ _ z
theorem kZ{S:Addr->Prop}(h:bD S H xs ts)(D:Dist xs)(n:H q=none):Dist (xs++[.ref q]):=by
 have u:∀(j:Nat)(p:Addr),j<xs.length->(xs++[V.ref q])[j]?=some (.ref p)->xs[j]?=some (.ref p)/\p≠q:=λj p c e=>by
  rw[Ho c]at e;obtain⟨o,I,_,x⟩:=h.2 j _ (Hf (by rw[← h.1];exact c))
  rw[e]at I
  cases I
  exact⟨e,aH x n⟩
 have new:∀(j:Nat)(p:Addr),¬ j<xs.length->(xs++[V.ref q])[j]?=some (.ref p)->j=xs.length/\p=q:=λj p c e=>by
  have:=(Hg.mp e).1;rw[Hk,Ht]at this;have a:j=xs.length:=by omega
  subst a;rw[Hm (Hl _),HQ]at e
  cases e
  exact⟨rfl,rfl⟩
 intro j k p G E;by_cases c:j<xs.length
 .obtain⟨T,b⟩:=u j p c G;by_cases C:k<xs.length
  .exact D j k p T (u k p C E).1
  .exact NC (new k p C E).2 b
 .obtain⟨T,b⟩:=new j p c G;by_cases C:k<xs.length
  .exact NC b (u k p C E).2
  .rw[T,(new k p C E).1]
theorem pf(g:Gr m es ts):m<=es.length+2:=by
 obtain⟨b,_,c⟩:=g.part;omega
theorem dA:ay ["cell","many","order","mixed","k"] ["cell","many"] (ar jJ):=by ac_nf
theorem Dk (F:Fun K "_law_order" "_law_order" jJ f fd) (T:Txt mg):FnOk P w K mg base CX0 1 f fd ["cell","many"] z0:=by
 refine F.ok dA (by walk_at "l") λI A g s H l Q E u h=>?_
 obtain⟨c,m,rfl,b,k⟩:=h
 refine⟨_,(ah (aB 2 dA.nd (bL aj))
   (ah (aB 3 dA.nd (av aY (pv 0) ai))
   (ah (bw PassesOwn.never rfl (aO rfl T.n_range (af (pv 1) aj)) (bY 4 dA.nd) (ah (aB 3 dA.nd (av aY (av b9 (pv 3) ai) ai))
   (ao (aU (dB HC KD KC nP (pv 2) (af (av aY (pv 3) (av bE (pv 4) ai)) (af (pv 4) aj)))))))
   (ao (aF (pv 2)))))),?_⟩
 refine⟨(by show 0<=LZ;decide),λq y=>?_⟩
 refine⟨_,rfl,_,_,rfl,rfl,(by show(0:Int)<1000000007;decide),?_⟩
 refine⟨_,rfl,_,rfl,∅,∅,bQ (n:=(m:Int).toNat) (λi Y N=>∃(M:Int),∃ r o,Y = [some (.int c),some (.int (m:Int)),some (.ref q),some (.int M),r]/\Same H N/\N q=some (.lst (o.map iV))/\o.length=i/\o.Nodup/\∀ x∈o,x<i) ⟨_,_,[],rfl,ak y _,ag,rfl,Jd,λx O=>nomatch O⟩ ?_ ?_⟩
 .rintro i Y N d ⟨M,r,o,rfl,v,e,p,a,lt⟩;rw[Hn]at d;have t:(0:Int)+(i:Int)=(i:Int):=IF _;rw[t];have j:(o.map iV).length=i:=by rw[Hi];exact p
  refine⟨_,rfl,_,_,rfl,rfl,.inr ⟨by decide,by decide⟩,_,_,rfl,rfl,(by show(0:Int)<2147483647;decide),?_⟩
  refine⟨_,rfl,.inl ⟨rfl,_,SqL.of e⟩,_,rfl,_,rfl,_,_,rfl,rfl,_,_,rfl,rfl,(by show(0:Int)<(i:Int)+1;omega),_,rfl,q,_,_,_,rfl,rfl,e,(ER _ _).1,(by rw[j];exact(ER _ _).2),aw ∅,?_⟩
  rw[insV];refine⟨_,_,_,rfl,aK v y _,ag,by rw[Gy,p],Bl a λz=>by have:=lt i z;omega,λx O=>?_⟩
  rcases vE.mp O with z | z
  .omega
  .have:=lt x z;omega
 .rintro Y N ⟨M,r,o,rfl,v,e,p,a,lt⟩;rw[Hn]at p lt;exact⟨_,rfl,k q o N v y e p a lt⟩
theorem aW:ay ["cells","ends","turns","cell","mixed","fresh","left","row","right","one","two"] ["cells"] (ar jL):=by ac_nf
theorem Du{fr:Addr}{c6 c7:FuncData} (F:Fun K "_law_grown" "_law_grown" jL f fd) (T:Txt mg) (aS:Cal P w K mg base 3 "_law_round" ["ends","turns","dart"] (pN K) fr c6) (an:Cal P w K mg base 1 "_law_head" ["ends","dart"] (uD K) C c7) :
  FnOk P w K mg base CX0 4 f fd ["cells"] (Ac K):=by
 refine F.ok aW (by walk_at "l") λaa A I s H vs Q E u h=>?_
 obtain⟨a,cs,rfl,hS,ds,kk⟩:=h;have bU:(cs.map V.int).length=cs.length:=Hi _
 refine⟨_,(ah (aB 1 aW.nd (bL (af (bh (af ai (af ai aj))) aj)))
   (ah (aB 2 aW.nd (bL (af (bL (af ai aj)) (af (bL (af ai aj)) aj))))
   (ah (bw PassesOwn.never rfl (aP (pv 0)) (bY 3 aW.nd) (ah (aB 4 aW.nd (av aY (av b9 (av aY (pv 3) ai) ai) ai))
   (ah (aB 5 aW.nd (az ax (by rfl) T.n_len aX (af (pv 1) aj)))
   (ah (aB 6 aW.nd (av aY (av bj (pv 4) ai) (av b9 ai (pv 5))))
   (ah (aB 7 aW.nd (aS.c u (af (pv 1) (af (pv 2) (af (pv 6) aj)))))
   (ah (aB 8 aW.nd (aR (pv 7) (av aY (av aY (av b9 (pv 4) (pv 4)) ai) (az ax (by rfl) T.n_len aX (af (pv 7) aj)))))
   (ah (aB 9 aW.nd (an.c u (af (pv 1) (af (pv 6) aj))))
   (ah (aB 10 aW.nd (an.c u (af (pv 1) (af (pv 8) aj))))
   (ah (aU (dB HC KD KC nP (aR (pv 2) (pv 9)) (af (av bE (dB HC JZ JY mS (aR (pv 2) (pv 9)) (af (av bj (pv 6) ai) aj)) ai) (af (pv 5) aj))))
   (ah (bF (PW.pt (oF (aD cq (av aY (pv 4) ai) ai (aE _)) (nK (aD cq (pv 9) (pv 10) (aE _))))) (ah (aB 10 aW.nd (az ax (by rfl) T.n_len aX (af (pv 2) aj)))
   (ao (aU (dB HC HU HS aZ (pv 2) (af (bL (af (pv 5) aj)) aj))))) (ao (aU (dB HC KD KC nP (aR (pv 2) (pv 10)) (af (av bE (dB HC JZ JY mS (aR (pv 2) (pv 10)) (af (av bj (pv 8) ai) aj)) ai) (af (pv 5) aj))))))
   (ao (bF (aD cq (av aY (av bj (pv 3) ai) ai) ai (aE _)) (ao (aU (dB HC HU HS aZ (pv 1) (af (bh (af (pv 10) (af (pv 9) aj))) aj)))) (ao (aU (dB HC HU HS aZ (pv 1) (af (bh (af (pv 9) (af (pv 10) aj))) aj))))))))))))))))
   (ao (aF (bh (af (pv 1) (af (pv 2) aj)))))))),?_⟩
 refine⟨(by show 2<=LZ;decide),λt0 bi=>⟨(by show 1<=LZ;decide),λpe al=>?_⟩⟩
 have k:=ak bi (.tup [.int 0,.int 1]);have s2:=k.trans (ak al (.lst [.ref t0]));refine⟨(by show 1<=LZ;decide),λp0 cb=>⟨(by show 1<=LZ;decide),λp1 aI=>⟨(by show 2<=LZ;decide),λpt am=>?_⟩⟩⟩
 have s3:=ak cb (.lst [.int 0]);have s4:=ak aI (.lst [.int 0]);have s5:=ak am (.lst [.ref p0,.ref p1]);have cl:=((s2.trans s3).trans s4).trans s5;have none_of:∀{G:Hp}{p:Addr},Same H G->G p=none->H p=none:=λ{G p} sm z=>by
  cases y:H p with
  |none=>rfl
  |some o=>rw[sm _ _ y]at z;cases z
 have bq:=none_of k al;have cn:=none_of ((s2.trans s3).trans s4) am;have co:=none_of s2 cb;have cp:=none_of (s2.trans s3) aI;have g1:=s3.trans (s4.trans s5);have a4:=g1 _ _ (ag (H:=upd H t0 (.tup [.int 0,.int 1])) (a:=pe) (o:=.lst [.ref t0]));have ct:=(s4.trans s5) _ _ (ag (a:=p0) (o:=.lst [.int 0]));have cv:=s5 _ _ (ag (a:=p1) (o:=.lst [.int 0]));have cw:p0≠p1:=aH (ag (a:=p0) (o:=.lst [.int 0])) aI;have bm:pe≠pt:=aH ((s3.trans s4) _ _ (ag (a:=pe) (o:=.lst [.ref t0]))) am;have da:p0≠pe:=λz=>by rw[z,ag]at cb;cases cb
 have db:p1≠pe:=λz=>by rw[z,s3 _ _ (ag (a:=pe) (o:=.lst [.ref t0]))]at aI;cases aI
 have dc:p0≠pt:=aH (s4 _ _ (ag (a:=p0) (o:=.lst [.int 0]))) am;have dd:p1≠pt:=aH (ag (a:=p1) (o:=.lst [.int 0])) am;have cD:Hd H a pe pt 0 [some (.ref a),some (.ref pe),some (.ref pt),none,none,none,none,none,none,none,none] (upd (upd (upd (upd (upd H t0 (.tup [.int 0,.int 1])) pe (.lst [.ref t0])) p0 (.lst [.int 0])) p1 (.lst [.int 0])) pt (.lst [.ref p0,.ref p1])):=by
  refine⟨_,_,_,_,_,_,_,_,[.ref t0],[.ref p0,.ref p1],2,[(0,1)],[[0],[0]],rfl,cl,a4,⟨rfl,λi e z=>?_⟩,ag,⟨rfl,λi l z=>?_⟩,λi j p z1 z2=>?_,gr_two,rfl⟩
  .match i,z with
   |0,z=>cases z;exact⟨t0,rfl,((ak al _).trans g1) _ _ ag⟩
   |i+1,z=>cases z
  .match i,z with
   |0,z=>cases z;exact⟨p0,rfl,by rintro(y | y | y);exact da y;exact dc y;exact y co,ct⟩
   |1,z=>cases z;exact⟨p1,rfl,by rintro(y | y | y);exact db y;exact dd y;exact y cp,cv⟩
   |i+2,z=>cases z
  .match i,z1,j,z2 with
   |0,z1,0,z2=>rfl
   |1,z1,1,z2=>rfl
   |0,z1,1,z2=>cases z1;cases z2;exact NC rfl cw
   |1,z1,0,z2=>cases z1;cases z2;exact NC rfl cw
   |i+2,z1,_,_=>cases z1
   |0,_,j+2,z2=>cases z2
   |1,_,j+2,z2=>cases z2
 refine⟨_,rfl,a,rfl,⟨_,cl.seq hS⟩,cu (xs:=cs.map V.int) (λi Y H5=>Hd H a pe pt i Y H5) cD (λi Y H5 _ ae=>by obtain⟨_,_,_,_,_,_,_,_,_,_,_,_,_,_,z,_⟩:=ae;exact z.seq hS) ?_ ?_⟩
 .rintro i x Y H5 O ⟨v3,v4,v5,v6,v7,v8,v9,ac,M,xs,m,B,ts,rfl,s5,a4,en,bv,aT,D,g,d⟩;rw[Hr]at O;obtain⟨c,b,rfl⟩:=HF.mp O;have bR:i<cs.length:=(Hg.mp b).1;have a0:M.length=B.length:=en.1;have ab:B.length<=62:=by omega
  have w':=g.w;have cO:=w'.len;have dp:=pf g;have o0:(0:Int)<=c%1000000007*48271%2147483647:=Jt _ (by decide)
  have o1:c%1000000007*48271%2147483647<2147483647:=Jk _ (by decide)
  refine⟨_,rfl,_,_,rfl,rfl,(by show(0:Int)<1000000007;decide),_,_,rfl,rfl,.inr ⟨by decide,by decide⟩,_,_,rfl,rfl,(by show(0:Int)<2147483647;decide),?_⟩
  refine⟨_,rfl,pe,M,rfl,.inl (SqL.of a4),?_⟩;have a7:(0:Int)<2*(M.length:Int):=by omega
  refine⟨_,rfl,_,_,rfl,rfl,⟨by decide,by decide⟩,_,rfl,_,_,rfl,rfl,.inl ⟨by decide,by decide⟩,_,_,rfl,rfl,a7,?_⟩
  have l0:=Jt (c%1000000007*48271%2147483647/2) (show 2*(M.length:Int)≠0 by omega)
  have l1:=Jk (c%1000000007*48271%2147483647/2) a7;obtain⟨L,hL⟩:∃ L:Nat,c%1000000007*48271%2147483647/2%(2*(M.length:Int))=(L:Int):=⟨_,(Jn l0).symm⟩;have bn:L<2*B.length:=by omega
  refine⟨_,rfl,_,rfl,_,rfl,pe,pt,M,xs,m,B,ts,L,congrArg (λz=>[V.ref pe,V.ref pt,V.int z]) hL,SqL.of a4,en,SqL.of bv,aT.off,w',ab,bn,λq r H6 s6 hq ap pa ri=>?_⟩;have df:(r.map iV).length=r.length:=Hi _;have be:=ri.ne;have cT:(0:Int)<((r.map iV).length:Int):=by omega
  have j0:=Jt (c%1000000007*48271%2147483647*(c%1000000007*48271%2147483647)%1000003) (show((r.map iV).length:Int)≠0 by omega)
  have j1:=Jk (c%1000000007*48271%2147483647*(c%1000000007*48271%2147483647)%1000003) cT;obtain⟨J,hJ⟩:∃ J:Nat,c%1000000007*48271%2147483647*(c%1000000007*48271%2147483647)%1000003%((r.map iV).length:Int)=(J:Int):=⟨_,(Jn j0).symm⟩;have dg:J<r.length:=by omega
  obtain⟨R,hR⟩:∃ R,r[J]?=some R:=⟨_,Hf dg⟩;have cg:=Hh hR;have cX:=ri.lt R cg;refine⟨_,rfl,_,rfl,_,rfl,_,_,rfl,rfl,.inl ⟨by show -(2^64:Int)<c%1000000007*48271%2147483647;omega,by show c%1000000007*48271%2147483647<(2^64:Int);omega⟩,_,_,rfl,rfl,(by show(0:Int)<1000003;decide),_,rfl,q,_,rfl,.inl (SqL.of ap),_,_,rfl,rfl,cT,q,_,_,_,rfl,rfl,SqL.of ap,(by rw[hJ];exact Gz hR),?_⟩
  have cc:=s5.trans s6;have bW:=s6 _ _ a4;have bX:=s6 _ _ bv;have ci:=en.mono s6;have a5:bD (λp=>p=pe∨p=pt∨H p≠none) H6 xs ts:=aT.mono λp o _ z=>s6 _ _ z;refine⟨_,rfl,_,rfl,pe,M,B,L,congrArg (λz=>[V.ref pe,V.int z]) hL,SqL.of bW,ci,bn,?_⟩;refine⟨_,rfl,_,rfl,pe,M,B,R,rfl,SqL.of bW,ci,cX,?_⟩;obtain⟨_,l,_,_,_,k4,k5,k6⟩:=w'.at bn;obtain⟨_,l',_,_,_,du,cd,cY⟩:=w'.at cX;obtain⟨p1,y1,y2,y3⟩:=a5.2 _ _ k5;obtain⟨p2,z1,z2,z3⟩:=a5.2 _ _ cd;obtain⟨a6,f1⟩:=iQ w' ab k5;obtain⟨dk,f2⟩:=iQ w' ab cd;have dq:(l.map iV).length=l.length:=Hi _;have dr:(l'.map iV).length=l'.length:=Hi _;have dw:l.idxOf (L/2)<l.length:=LB k6;have dx:l'.idxOf (R/2)<l'.length:=LB cY;have bB:∀{p q:Addr},¬ (p=pe∨p=pt∨H p≠none)->(q=pe∨q=pt)->q≠p:=λn y z=>n (by rw[← z];rcases y with y | y<;>simp[y])
  have a3:∀{p:Addr},¬ (p=pe∨p=pt∨H p≠none)->H p=none:=λ{p} n=>by
   cases y:H p with
   |none=>rfl
   |some o=>exact NC (.inr (.inr (by rw[y];exact λz=>nomatch z))) n
  have aI:=a3 y2;have aV:=a3 z2;have eL:c%1000000007*48271%2147483647/2%(2*(M.length:Int))/2=((L/2:Nat):Int):=by rw[hL];omega
  have eR:(R:Int)/2=((R/2:Nat):Int):=by omega
  refine⟨_,rfl,_,rfl,pt,xs,_,_,rfl,rfl,SqL.of bX,aC y1,.inl ⟨rfl,_,SqL.of y3⟩,_,rfl,_,rfl,pt,xs,_,_,rfl,rfl,SqL.of bX,aC y1,.inl ⟨rfl,_,SqL.of y3⟩,_,rfl,_,_,rfl,rfl,⟨by decide,by decide⟩,p1,l,L/2,rfl,congrArg (λz=>[V.int z]) eL,SqL.of y3,λp v=>by have:=a6 p v;omega,∅,k6,_,_,rfl,rfl,_,rfl,p1,_,_,_,rfl,rfl,y3,∅,∅,aw ∅,?_⟩
  rw[a0,insV,show(((l.idxOf (L/2):Nat):Int)+1).toNat=l.idxOf (L/2)+1 by omega]
  have ce:=aK cc aI (.lst ((ins l (l.idxOf (L/2)+1) B.length).map iV));have bN:(upd H6 p1 (.lst ((ins l (l.idxOf (L/2)+1) B.length).map iV))) pe=some (.lst M):=by rw[aq (bB y2 (.inl rfl))];exact bW
  have a1:(upd H6 p1 (.lst ((ins l (l.idxOf (L/2)+1) B.length).map iV))) pt=some (.lst xs):=by rw[aq (bB y2 (.inr rfl))];exact bX
  have ck:=ci.put (o:=.lst ((ins l (l.idxOf (L/2)+1) B.length).map iV)) y3;have bd:=a5.set (l':=ins l (l.idxOf (L/2)+1) B.length) D y1;have z7:hd B L≠hd B R->(upd H6 p1 (.lst ((ins l (l.idxOf (L/2)+1) B.length).map iV))) p2=some (.lst (l'.map iV)):=λn=>by
   rw[aq (λy=>by rw[y]at z1;exact n (D _ _ p1 y1 z1))];exact z3
  generalize dy:upd H6 p1 (.lst ((ins l (l.idxOf (L/2)+1) B.length).map iV))=H7 at ce bN a1 ck bd z7;obtain⟨x0,a2,rfl,ch⟩:=ri.cr.ch;have dm:x0=L:=by
   have:=pa.hd;exact HM this
  subst dm;have xl:xs.length=m:=by rw[aT.1,cO]
  have ba:=ri.cr;refine⟨_,rfl,_,_,rfl,rfl,(by show(0:Int)<2;decide),rfl,_,rfl,ite2 (λc=>iteT ?_) (λc=>⟨_,rfl,_,rfl,rfl,_,rfl,ite2 (λc2=>?_) (λc2=>?_)⟩)⟩
  rotate_left 2
  .have n:hd B x0≠hd B R:=λz=>c2 (MJ (by rw[z]))
   have z7:=z7 n;refine⟨_,rfl,_,rfl,pt,xs,_,_,rfl,rfl,SqL.of a1,aC z1,.inl ⟨rfl,_,SqL.of z7⟩,_,rfl,_,rfl,pt,xs,_,_,rfl,rfl,SqL.of a1,aC z1,.inl ⟨rfl,_,SqL.of z7⟩,_,rfl,_,_,rfl,rfl,⟨by decide,by decide⟩,p2,l',R/2,rfl,congrArg (λz=>[V.int z]) eR,SqL.of z7,λp v=>by have:=dk p v;omega,∅,cY,_,_,rfl,rfl,_,rfl,p2,_,_,_,rfl,rfl,z7,∅,∅,aw ∅,?_⟩
   rw[insV,show(((l'.idxOf (R/2):Nat):Int)+1).toNat=l'.idxOf (R/2)+1 by omega]
   have b0:=aK ce aV (.lst ((ins l' (l'.idxOf (R/2)+1) B.length).map iV));have aL:(upd H7 p2 (.lst ((ins l' (l'.idxOf (R/2)+1) B.length).map iV))) pe=some (.lst M):=by rw[aq (bB z2 (.inl rfl))];exact bN
   have bb:(upd H7 p2 (.lst ((ins l' (l'.idxOf (R/2)+1) B.length).map iV))) pt=some (.lst xs):=by rw[aq (bB z2 (.inr rfl))];exact a1
   have b6:=ck.put (o:=.lst ((ins l' (l'.idxOf (R/2)+1) B.length).map iV)) z7;have ca:=bd.set (l':=ins l' (l'.idxOf (R/2)+1) B.length) D z1;refine⟨_,rfl,_,_,rfl,rfl,⟨by decide,by decide⟩,_,_,rfl,rfl,(by show(0:Int)<2;decide),rfl,_,rfl,ite2 (λ_=>?_) (λ_=>?_)⟩
   .refine⟨_,rfl,.inl ⟨rfl,_,SqL.of aL⟩,_,rfl,_,rfl,(by show 2<=LZ;decide),λt N=>⟨pe,M,_,rfl,rfl,ak N _ _ _ aL,aw ∅,?_⟩⟩
    exact mV bm bq b0 aL b6 bb ca D (g.join (e:=(hd B R,hd B x0)) bn ba ch cg rfl rfl n (.inr rfl) k5 cd) d N rfl rfl _ _ _ _ _ _ _ _
   .refine⟨_,rfl,.inl ⟨rfl,_,SqL.of aL⟩,_,rfl,_,rfl,(by show 2<=LZ;decide),λt N=>⟨pe,M,_,rfl,rfl,ak N _ _ _ aL,aw ∅,?_⟩⟩
    exact mV bm bq b0 aL b6 bb ca D (g.join (e:=(hd B x0,hd B R)) bn ba ch cg rfl rfl n (.inl rfl) k5 cd) d N rfl rfl _ _ _ _ _ _ _ _
  all_goals
   refine⟨_,rfl,pt,xs,rfl,.inl (SqL.of a1),?_⟩
   refine⟨_,rfl,.inl ⟨rfl,_,SqL.of a1⟩,_,rfl,(by show 1<=LZ;decide),λpn aA=>⟨pt,xs,_,rfl,rfl,ak aA _ _ _ a1,aw ∅,?_⟩⟩
   have sn:=ak aA (.lst [V.int (B.length:Int)])
   have b0:=aK (ce.trans sn) cn (.lst (xs++[.ref pn]))
   have aL:(upd (upd H7 pn (.lst [V.int (B.length:Int)])) pt (.lst (xs++[.ref pn]))) pe=some (.lst M):=by rw[aq bm];exact sn _ _ bN
   have bb:(upd (upd H7 pn (.lst [V.int (B.length:Int)])) pt (.lst (xs++[.ref pn]))) pt=some (.lst (xs++[.ref pn])):=ag
   have b6:=(ck.mono sn).put (o:=.lst (xs++[.ref pn])) (sn _ _ a1)
   have cZ:pn≠pt:=λz=>by rw[z,a1]at aA;cases aA
   have dn:pn≠pe:=λz=>by rw[z,bN]at aA;cases aA
   have bp:H pn=none:=none_of ce aA
   have ca:bD (λp=>p=pe∨p=pt∨H p≠none) (upd (upd H7 pn (.lst [V.int (B.length:Int)])) pt (.lst (xs++[.ref pn]))) (xs++[.ref pn]) (ts.set (hd B x0) (ins l (l.idxOf (x0/2)+1) B.length)++[[B.length]]):=by
    refine(bd.mono λp o n z=>?_).snoc (by rintro(y | y | y);exact dn y;exact cZ y;exact y bp) ?_
    .rw[aq (λz=>n (.inr (.inl z)))];exact sn _ _ z
    .rw[aq cZ];exact ag
   have D8:=kZ bd D aA
   have cf:V.int (xs.length:Int)=iV m:=by rw[xl];rfl
   refine⟨_,rfl,_,_,rfl,rfl,⟨by decide,by decide⟩,_,_,rfl,rfl,(by show(0:Int)<2;decide),rfl,_,rfl,ite2 (λ_=>?_) (λ_=>?_)⟩
   .refine⟨_,rfl,.inl ⟨rfl,_,SqL.of aL⟩,_,rfl,_,rfl,(by show 2<=LZ;decide),λt N=>⟨pe,M,_,rfl,rfl,ak N _ _ _ aL,aw ∅,?_⟩⟩
    exact mV bm bq b0 aL b6 bb ca D8 (g.leaf (e:=(m,hd B x0)) bn ba ch rfl (.inr rfl) k5) d N cf rfl _ _ _ _ _ _ _ _
   .refine⟨_,rfl,.inl ⟨rfl,_,SqL.of aL⟩,_,rfl,_,rfl,(by show 2<=LZ;decide),λt N=>⟨pe,M,_,rfl,rfl,ak N _ _ _ aL,aw ∅,?_⟩⟩
    exact mV bm bq b0 aL b6 bb ca D8 (g.leaf (e:=(hd B x0,m)) bn ba ch rfl (.inl rfl) k5) d N rfl cf _ _ _ _ _ _ _ _
 .rintro Y H5 ⟨v3,v4,v5,v6,v7,v8,v9,ac,M,xs,m,B,ts,rfl,s5,a4,en,bv,aT,D,g,d⟩;rw[bU]at d;refine⟨_,rfl,_,rfl,(by show 2<=LZ;decide),λt N=>?_⟩
  have s6:=ak N (.tup [.ref pe,.ref pt]);exact kk t pe pt M xs m B ts _ (s5.trans s6) ag (s6 _ _ a4) (en.mono s6) (s6 _ _ bv) (aT.off.mono s6) g d
def cutp(c:Int)(p n:Nat):Nat:=(c%1009*((p:Int)+1)%(n:Int)).toNat
def rowN(c:Int)(b:List Nat)(p:Nat)(l:List Nat):List Nat:=(l.drop (cutp c p l.length)++l.take (cutp c p l.length)).map (ofL b)
def en2(d b:List Nat)(es:En):En:=(IC es.length).map λj=>(ofL d ((es[b.idxOf j]?).getD (0,0)).1,ofL d ((es[b.idxOf j]?).getD (0,0)).2)
def ts2(c:Int)(d b:List Nat)(ts:List (List Nat)):List (List Nat):=(IC ts.length).map λj=>rowN c b (d.idxOf j) ((ts[d.idxOf j]?).getD [])
theorem Bp{o:List Nat}(nd:o.Nodup){k:Nat}(h:k<o.length):o.idxOf (ofL o k)=k:=by
 have e:o[k]?=some (ofL o k):=by unfold ofL;rw[Hf h];rfl
 exact xX nd (vF (Hh e)) e
theorem ren_of{c:Int}{b:List Nat}(w:bO m es ts)(j:W.length=m)(n1:W.Nodup)(b1:∀ x∈W,x<m)(Q:b.length=es.length)(g:b.Nodup)(b2:∀ x∈b,x<es.length) :
  Ren m es (en2 W b es) ts (ts2 c W b ts) (ofL W) (ofL b):=by
 have i:=yn j n1 b1;have f:=yn Q g b2;refine⟨i,f,by simp[en2],by simp[ts2,w.len],λk e h=>?_,λp l h=>?_⟩
 .have C:=(Hg.mp h).1
  unfold en2;rw[Hr,Lc (f.lt k C)];show some (ofL W ((es[b.idxOf (ofL b k)]?).getD (0,0)).1,ofL W ((es[b.idxOf (ofL b k)]?).getD (0,0)).2)=_;rw[Bp g ∅,h]
  rfl
 .have B:p<m:=by rw[← w.len];exact(Hg.mp h).1
  refine⟨l.take (cutp c p l.length),l.drop (cutp c p l.length),(JM _ _).symm,?_⟩;unfold ts2;rw[Hr,Lc (by rw[w.len];exact i.lt p B)]
  show some (rowN c b (W.idxOf (ofL W p)) ((ts[W.idxOf (ofL W p)]?).getD []))=_;rw[Bp n1 ∅,h]
  rfl
theorem Gr.rows(g:Gr m es ts)(h2:2<=m){p:Nat}(h:ts[p]?=some l):0<l.length:=by
 have B:p<m:=by rw[← g.w.len];exact(Hg.mp h).1
 cases l with
 |cons a l=>exact Nat.succ_pos _
 |nil =>
  exfalso;have b:∀ e∈es,e.1≠p/\e.2≠p:=λe T=>by
   obtain⟨t,J⟩:=Ih.mp T;refine⟨λz=>?_,λz=>?_⟩
   .exact nomatch (g.w.mem p [] h t).mpr ⟨e,J,.inl z⟩
   .exact nomatch (g.w.mem p [] h t).mpr ⟨e,J,.inr z⟩
  have:=g.conn (λx=>x=p) (λe T=>⟨λz=>NC z (b e T).1,λz=>NC z (b e T).2⟩) p (if p=0 then 1 else 0) B (by split<;>omega) rfl
  have c:(if p=0 then 1 else 0)=p:=this;split at c<;>omega
theorem cut_hi{c:Nat}(h:c<=xs.length):cutV xs (some (c:Int)) none=xs.drop c:=by
 unfold cutV;rw[HT.sIx_nat,J1 h];show(xs.drop c).take (xs.length-c)=_;exact IX (by rw[ID];exact Hl _)
theorem cut_lo{c:Nat}(h:c<=xs.length):cutV xs none (some (c:Int))=xs.take c:=by
 unfold cutV;rw[HT.sIx_nat,J1 h];show(xs.drop 0).take (c-0)=_;rw[LJ,Nat.sub_zero]
structure WebP(H:Hp)(pe pt:Addr)(m:Nat)(es:En)(ts:List (List Nat)):Prop where
 en:∃ ys,H pe=some (.lst ys)/\cm H ys es
 tu:∃ xs,H pt=some (.lst xs)/\bC H xs ts
 g:Gr m es ts
theorem WebP.mono{H H':Hp}{pe pt:Addr}{m:Nat}{es:En}{ts:List (List Nat)}(h:WebP H pe pt m es ts)(s:Same H H'):WebP H' pe pt m es ts:=by
 obtain⟨⟨M,a,b⟩,⟨D,c,d⟩,g⟩:=h;exact⟨⟨M,s _ _ a,b.mono s⟩,⟨D,s _ _ c,d.mono s⟩,g⟩
inductive spRen(vs:List L2.V)(H:L2.Hp)(Q:L2.VK)(x3_:L2.XK):Prop
 |mk (t pe pt:Addr)(c:Int)(m:Nat)(es:En)(ts:List (List Nat)) (h0_:vs = [.ref t,.int c])(h1_:H t=some (.tup [.ref pe,.ref pt]))(h2_:WebP H pe pt m es ts)(h3_:2<=m)(h4_:es.length<=31)(h5_:∀(t' pe' pt':Addr)(es':En)(ts':List (List Nat))(H':Hp),Same H H'->H' t'=some (.tup [.ref pe',.ref pt'])->WebP H' pe' pt' m es' ts'->es'.length=es.length->Q (.ref t') H')
theorem aQ:ay ["grown","cell","places","ties","ends","k","turns","p","row","cut"] ["grown","cell"] (ar dG):=by ac_nf
theorem ok_ren (F:Fun K "_law_renumbered" "_law_renumbered" dG f fd) (T:Txt mg) (aV:Cal P w K mg base 1 "_law_order" ["cell","many"] z0 a G):FnOk P w K mg base CX0 2 f fd ["grown","cell"] spRen:=by
 refine F.ok aQ (by walk_at "l") λab A aa s H vs Q E u h=>?_
 obtain⟨t,pe,pt,c,m,B,ts,rfl,ht,⟨⟨r,am,en⟩,⟨xs,an,tu⟩,g⟩,J,ck,kk⟩:=h;have w':=g.w;have mf:=pf g;have aI:r.length=B.length:=en.1;have aS:xs.length=m:=by rw[tu.1,w'.len]
 refine⟨_,(ah (aB 2 aQ.nd (aV.c u (af (pv 1) (af (az ax (by rfl) T.n_len aX (af (aM (pv 0) ai) aj)) aj))))
   (ah (aB 3 aQ.nd (aV.c u (af (av bj (pv 1) ai) (af (az ax (by rfl) T.n_len aX (af (aM (pv 0) ai) aj)) aj))))
   (ah (aB 4 aQ.nd (cz cQ (by rfl) T.n_list gQ (af (aM (pv 0) ai) aj)))
   (ah (bw PassesOwn.never rfl (aO rfl T.n_range (af (az ax (by rfl) T.n_len aX (af (aM (pv 0) ai) aj)) aj)) (bY 5 aQ.nd) (ao (r9 (bh (af (aR (pv 2) (aM (aR (aM (pv 0) ai) (pv 5)) ai)) (af (aR (pv 2) (aM (aR (aM (pv 0) ai) (pv 5)) ai)) aj))) (sk (pv 4) (aR (pv 3) (pv 5)) j9))))
   (ah (aB 6 aQ.nd (cz cQ (by rfl) T.n_list gQ (af (aM (pv 0) ai) aj)))
   (ah (bw PassesOwn.never rfl (aO rfl T.n_range (af (az ax (by rfl) T.n_len aX (af (aM (pv 0) ai) aj)) aj)) (bY 7 aQ.nd) (ah (mr 8 [("ties",3)] ["k"] aQ.nd (aP (aR (aM (pv 0) ai) (pv 7))) pg_c pt_c (λC ex s H=>(sr K (pv 1) (pv 0))))
   (ah (aB 9 aQ.nd (av aY (av b9 (av aY (pv 1) ai) (av bE (pv 7) ai)) (az ax (by rfl) T.n_len aX (af (pv 8) aj))))
   (ao (r9 (av op_cat (e8 hO (pv 8) (ik (pv 9)) iq) (e8 hO (pv 8) iq (ik (pv 9)))) (sk (pv 6) (aR (pv 2) (pv 7)) j9))))))
   (ao (aF (bh (af (pv 4) (af (pv 6) aj))))))))))),?_⟩
 refine⟨_,rfl,_,rfl,t,_,1,_,rfl,rfl,SqT.of ht,at1,pt,xs,rfl,.inl (SqL.of an),c,m,(by rw[aS];rfl),∅,λq1 o1 H1 s1 _ M l1 n1 b1=>?_⟩
 refine⟨_,rfl,_,_,rfl,rfl,⟨by decide,by decide⟩,_,rfl,t,_,0,_,rfl,rfl,SqT.of (s1 _ _ ht),at0,pe,r,rfl,.inl (SqL.of (s1 _ _ am)),_,B.length,(by rw[aI];rfl),∅,λq2 o2 N s2 _ ba l2 n2 b2=>?_⟩
 have ae:=s1.trans s2;have R:=ren_of (c:=c) w' l1 n1 b1 l2 n2 b2;have a3:=s2 _ _ M;refine⟨_,rfl,t,_,0,_,rfl,rfl,SqT.of (ae _ _ ht),at0,pe,r,rfl,.inl (SqL.of (ae _ _ am)),λqe bm=>?_⟩;have s3:=ak bm (.lst r);have al:=ae.trans s3;have cl:=s3 _ _ ba;have cn:=s3 _ _ a3;have be:∀ k,k<m->(o1.map iV)[k]?=some (iV (ofL o1 k)):=λk b=>by
  rw[Hr];unfold ofL;rw[Hf ∅];rfl
 have bq:∀ k,k<B.length->(o2.map iV)[k]?=some (iV (ofL o2 k)):=λk b=>by
  rw[Hr];unfold ofL;rw[Hf ∅];rfl
 have ch:H qe=none:=by
  cases y:H qe with
  |none=>rfl
  |some o=>rw[ae _ _ y]at bm;cases bm
 refine⟨_,rfl,t,_,0,_,rfl,rfl,SqT.of (al _ _ ht),at0,pe,r,rfl,.inl (SqL.of (al _ _ am)),_,rfl,∅,∅,bQ (n:=(r.length:Int).toNat) (λi Y H5=>∃ v5 v6 v7 v8 v9 zs,Y = [some (.ref t),some (.int c),some (.ref q1),some (.ref q2),some (.ref qe),v5,v6,v7,v8,v9]/\Same N H5/\H5 qe=some (.lst zs)/\zs.length=B.length/\∀(k:Nat)(e:Nat×Nat),k<i->B[k]?=some e->∃ p,zs[ofL o2 k]?=some (.ref p)/\H5 p=some (.tup [iV (ofL o1 e.1),iV (ofL o1 e.2)]))
  ⟨_,_,_,_,_,r,rfl,s3,ag,aI,λk e z=>NC z (IY _)⟩ ?_ ?_⟩
 .rintro i Y H5 d ⟨v5,v6,v7,v8,v9,zs,rfl,s5,hz,zl,bn⟩;rw[Hn,aI]at d;have e0:(0:Int)+(i:Int)=(i:Int):=IF _;rw[e0];have aL:=ae.trans s5;obtain⟨e,he⟩:∃ e,B[i]?=some e:=⟨_,Hf d⟩;obtain⟨p,x1,x2⟩:=(en.mono aL).2 i e he;obtain⟨a1,a2,_⟩:=w'.ends e (Hh he);have b0:=R.si.lt i d;refine⟨_,rfl,_,rfl,t,_,0,_,rfl,rfl,SqT.of (aL _ _ ht),at0,_,rfl,pe,r,_,_,rfl,rfl,SqL.of (aL _ _ am),aC x1,p,_,0,_,rfl,rfl,SqT.of x2,at0,q1,_,_,_,rfl,rfl,SqL.of (s5 _ _ a3),aC (be _ a1),_,rfl,_,rfl,t,_,0,_,rfl,rfl,SqT.of (aL _ _ ht),at0,_,rfl,pe,r,_,_,rfl,rfl,SqL.of (aL _ _ am),aC x1,p,_,1,_,rfl,rfl,SqT.of x2,at1,q1,_,_,_,rfl,rfl,SqL.of (s5 _ _ a3),aC (be _ a2),(by show 2<=LZ;decide),λtt a5=>?_⟩
  have sn:=ak a5 (.tup [iV (ofL o1 e.1),iV (ofL o1 e.2)]);refine⟨_,rfl,_,rfl,_,rfl,q2,_,_,_,rfl,rfl,SqL.of (sn _ _ (s5 _ _ ba)),aC (bq _ d),qe,zs,_,ofL o2 i,rfl,rfl,sn _ _ hz,nX ∅,?_⟩
  refine⟨_,_,_,_,_,_,rfl,aK (s5.trans sn) bm _,ag,by rw[Il];exact zl,λk e' b bp=>?_⟩
  by_cases z:k=i
  .subst z;rw[he]at bp
   cases bp
   exact⟨tt,by rw[Ip,NA rfl,NA ∅],by rw[aq (λz=>by rw[z,hz]at a5;cases a5)];exact ag⟩
  .obtain⟨p',u1,u2⟩:=bn k e' ∅ bp
   have bX:k<B.length:=(Hg.mp bp).1;refine⟨p',by rw[Ip,NB (λy=>z (R.si.inj _ _ bX d y.symm))];exact u1,?_⟩
   rw[aq (λz=>by rw[z,hz]at u2;cases u2)]
   exact sn _ _ u2
 rintro Y H5 ⟨v5,v6,v7,v8,v9,zs,rfl,s5,hz,zl,bn⟩;rw[Hn,aI]at bn;have aL:=ae.trans s5
 have cc:cm H5 zs (en2 o1 o2 B):=⟨by rw[zl,R.l1],λj x h=>by
  obtain⟨k,e,rfl,h4,rfl⟩:=R.es' h
  exact bn k e (Hg.mp h4).1 h4⟩
 refine⟨_,rfl,t,_,1,_,rfl,rfl,SqT.of (aL _ _ ht),at1,pt,xs,rfl,.inl (SqL.of (aL _ _ an)),λqt a0=>?_⟩;have s6:=ak a0 (.lst xs);have bd:=aL.trans s6
 refine⟨_,rfl,t,_,1,_,rfl,rfl,SqT.of (bd _ _ ht),at1,pt,xs,rfl,.inl (SqL.of (bd _ _ an)),_,rfl,∅,∅,bQ (n:=(xs.length:Int).toNat) (λi Y H7=>∃ v5 v7 v8 v9 ws,Y = [some (.ref t),some (.int c),some (.ref q1),some (.ref q2),some (.ref qe),v5,some (.ref qt),v7,v8,v9]/\Same H5 H7/\H7 qt=some (.lst ws)/\ws.length=m/\∀(p:Nat)(l:List Nat),p<i->ts[p]?=some l->∃ q,ws[ofL o1 p]?=some (.ref q)/\H7 q=some (.lst ((rowN c o2 p l).map iV))/\q≠qt)
  ⟨_,_,_,_,xs,rfl,s6,ag,aS,λk e z=>NC z (IY _)⟩ ?_ ?_⟩
 .rintro i Y H7 d ⟨w5,w7,w8,w9,ws,rfl,s7,hw,wl,a6⟩;rw[Hn,aS]at d;have e0:(0:Int)+(i:Int)=(i:Int):=IF _;rw[e0];have bR:=aL.trans s7;have bb:=s5.trans s7;obtain⟨l,I⟩:∃ l,ts[i]?=some l:=⟨_,Hf (by rw[w'.len];exact d)⟩
  obtain⟨p,x1,x2⟩:=(tu.mono bR).2 i l I;have ci:=g.rows J I;have b6:∀ k∈l,k<B.length:=λk b=>lY w' I b;have bU:l.length<=B.length:=dh (w'.nd _ _ I) b6;have bv:(l.map iV).length=l.length:=Hi _;refine⟨_,rfl,t,_,1,_,rfl,rfl,SqT.of (bR _ _ ht),at1,_,rfl,pt,xs,_,_,rfl,rfl,SqL.of (bR _ _ an),aC x1,p,rfl,⟨_,SqL.of x2⟩,bg (K:=K) (xs:=l.map iV) (λj zs H8=>H8=H7/\zs=((l.map (ofL o2)).map iV).take j) (by rw[bv];exact HJ (aw ∅)) ⟨rfl,rfl⟩ (λj zs H8 _ z=>z.1▸SqL.of x2) ?_ ?_⟩
  .rintro j x zs H8 O ⟨rfl,rfl⟩;rw[Hr]at O;obtain⟨k,b,rfl⟩:=HF.mp O;refine⟨_,rfl,_,rfl,q2,_,_,_,rfl,rfl,SqL.of (bb _ _ ba),aC (bq _ (b6 k (Hh b))),rfl,?_⟩;rw[HH,Hr,Hr,b];rfl
  rintro zs H8 aT ⟨rfl,rfl⟩ D hD;rw[bv,IX (by rw[Hi,Hi];exact Hl _)]
  have sD:=ak hD (.lst ((l.map (ofL o2)).map iV));have dlen:((l.map (ofL o2)).map iV).length=l.length:=by rw[Hi,Hi]
  have bB:(0:Int)<(((l.map (ofL o2)).map iV).length:Int):=by omega
  have c0:=Jt c (show(1009:Int)≠0 by decide)
  have c1:=Jk c (show(0:Int)<1009 by decide)
  refine⟨_,rfl,_,_,rfl,rfl,(by show(0:Int)<1009;decide),_,rfl,_,_,rfl,rfl,_,_,rfl,rfl,.inl ⟨by show -(2^64:Int)<c%1009;omega,by show c%1009<(2^64:Int);omega⟩,_,rfl,D,_,rfl,.inl (SqL.of ag),_,_,rfl,rfl,bB,?_⟩
  have u0:=Jt (c%1009*((i:Int)+1)) (show(((l.map (ofL o2)).map iV).length:Int)≠0 by omega)
  have u1:=Jk (c%1009*((i:Int)+1)) bB;have ca:c%1009*((i:Int)+1)%(((l.map (ofL o2)).map iV).length:Int)=((cutp c i l.length:Nat):Int):=by
   unfold cutp;rw[dlen]at u0 ⊢;exact(Jn u0).symm
  have bN:cutp c i l.length<=((l.map (ofL o2)).map iV).length:=by omega
  refine⟨_,rfl,_,rfl,_,rfl,D,_,rfl,SqL.of ag,λcd ce=>?_⟩;rw[ca,cut_hi bN];have sB:=ak ce (.lst (((l.map (ofL o2)).map iV).drop (cutp c i l.length)));refine⟨_,rfl,_,rfl,_,rfl,D,_,rfl,SqL.of (sB _ _ ag),λb0 cf=>?_⟩;rw[cut_lo bN];have sC:=ak cf (.lst (((l.map (ofL o2)).map iV).take (cutp c i l.length)));refine⟨cd,b0,_,_,rfl,rfl,sC _ _ ag,ag,by rw[ID,HW];exact HJ (aw ∅),λb3 bW=>?_⟩
  have ap:((l.map (ofL o2)).map iV).drop (cutp c i l.length)++((l.map (ofL o2)).map iV).take (cutp c i l.length)=(rowN c o2 i l).map iV:=by
   unfold rowN;rw[Hv,Hv,LU,LU,LS,LS]
  rw[ap];have sE:=ak bW (.lst ((rowN c o2 i l).map iV));have a7:=((sD.trans sB).trans sC).trans sE;refine⟨_,rfl,_,rfl,_,rfl,q1,_,_,_,rfl,rfl,SqL.of (a7 _ _ (bb _ _ a3)),aC (be _ d),qt,ws,_,ofL o1 i,rfl,rfl,a7 _ _ hw,nX (by rw[wl];exact R.pi.lt i d),?_⟩
  have cb:b3≠qt:=λz=>by rw[z,((sD.trans sB).trans sC) _ _ hw]at bW;cases bW
  refine⟨_,_,_,_,_,rfl,aK (s7.trans a7) a0 _,ag,by rw[Il];exact wl,λp' l' bi ac=>?_⟩
  by_cases z:p'=i
  .subst z;rw[I]at ac
   cases ac
   exact⟨b3,by rw[Ip,NA rfl,NA (by rw[wl];exact R.pi.lt p' d)],by rw[aq cb];exact ag,cb⟩
  .obtain⟨q,u1,u2,u3⟩:=a6 p' l' ∅ ac
   have aA:p'<m:=by rw[← w'.len];exact(Hg.mp ac).1
   exact⟨q,by rw[Ip,NB (λy=>z (R.pi.inj _ _ aA d y.symm))];exact u1,by rw[aq u3];exact a7 _ _ u2,u3⟩
 rintro Y H7 ⟨w5,w7,w8,w9,ws,rfl,s7,hw,wl,a6⟩;rw[Hn,aS]at a6
 have cg:bC H7 ws (ts2 c o1 o2 ts):=⟨by rw[wl,R.l2],λj L h=>by
  have hj:j<m:=by rw[← R.l2];exact(Hg.mp h).1
  obtain⟨p,v,rfl⟩:=R.pi.sur j hj;obtain⟨l,I⟩:∃ l,ts[p]?=some l:=⟨_,Hf (by rw[w'.len];exact v)⟩
  obtain⟨q,z1,z2,_⟩:=a6 p l v I;refine⟨q,z1,?_⟩;unfold ts2 at h;rw[Hr,Lc (by rw[w'.len];exact R.pi.lt p v)]at h
  have h':some (rowN c o2 (o1.idxOf (ofL o1 p)) ((ts[o1.idxOf (ofL o1 p)]?).getD []))=some L:=h;rw[Bp n1 ∅,I]at h'
  cases h'
  exact z2⟩
 refine⟨_,rfl,_,rfl,(by show 2<=LZ;decide),λt' a4=>?_⟩
 have s8:=ak a4 (.tup [.ref qe,.ref qt]);exact kk t' qe qt (en2 o1 o2 B) (ts2 c o1 o2 ts) _ ((aL.trans s7).trans s8) ag ⟨⟨zs,s8 _ _ (s7 _ _ hz),(cc.mono s7).mono s8⟩,⟨ws,s8 _ _ hw,cg.mono s8⟩,R.gr g⟩ R.l1
theorem ub:Mb "min" = some (.builtin "min"):=by decide
abbrev Kn:=List (Int×Int)
def gY(H:Hp)(J:List V)(ks:Kn):Prop:=J.length=ks.length/\∀(i:Nat)(k:Int×Int),ks[i]?=some k->(k.1=0∨k.1=1)/\0<=k.2/\∃ p,J[i]?=some (.ref p)/\H p=some (.tup [.int k.1,.int k.2])
theorem gY.mono{J:List V}{ks:Kn}(h:gY H J ks)(s:Same H H'):gY H' J ks:=⟨h.1,λi k z=>by
 obtain⟨a,b,p,c,d⟩:=h.2 i k z
 exact⟨a,b,p,c,s _ _ d⟩⟩
theorem gY.put{J:List V}{ks:Kn}{o:HO}(t:gY H J ks)(h:H q=some (.lst zs)):gY (upd H q o) J ks:=⟨t.1,λi e z=>by
 obtain⟨u,v,p,a,b⟩:=t.2 i e z;refine⟨u,v,p,a,?_⟩;rw[aq (λz=>by rw[z,h]at b;cases b)]
 exact b⟩
theorem gY.snoc{J:List V}{ks:Kn}{k:Int×Int}(t:gY H J ks)(h:H p=some (.tup [.int k.1,.int k.2]))(M:k.1=0∨k.1=1)(h2:0<=k.2):gY H (J++[.ref p]) (ks++[k]):=by
 refine⟨by rw[Hk,Hk,t.1];rfl,λj x C=>?_⟩
 by_cases c:j<ks.length
 .rw[Ho c]at C;obtain⟨u,v,p,I,s⟩:=t.2 j x C;exact⟨u,v,p,by rw[Ho (by rw[t.1];exact c)];exact I,s⟩
 .rw[Hm ∅]at C
  have a:j=ks.length:=by
   have:=(Hg.mp C).1;rw[Ht]at this;omega
  subst a;rw[HQ]at C
  cases C
  exact⟨M,h2,p,by rw[← t.1,Hm (Hl _),HQ];rfl,h⟩
structure dE(H:Hp)(t pe pt pk:Addr)(m:Nat)(es:En)(ts:List (List Nat))(ks:Kn):Prop where
 t:H t=some (.tup [.ref pe,.ref pt,.ref pk])
 w:WebP H pe pt m es ts
 k:∃ ws,H pk=some (.lst ws)/\gY H ws ks
 few:es.length<=20
 kl:ks.length=es.length
theorem dE.mono{H H':Hp}{t pe pt n:Addr}{m:Nat}{es:En}{ts:List (List Nat)}{ks:Kn}(h:dE H t pe pt n m es ts ks)(s:Same H H'):dE H' t pe pt n m es ts ks:=by
 obtain⟨a,b,⟨J,c,d⟩,e,f⟩:=h;exact⟨s _ _ a,b.mono s,⟨J,s _ _ c,d.mono s⟩,e,f⟩
theorem Gr.two(g:Gr m es ts)(h:0<es.length):2<=m:=by
 obtain⟨a,b,c⟩:=g.w.ends _ (Hh (Hf h));omega
inductive xB(K:Hj)(vs:List L2.V)(H:L2.Hp)(Q:L2.VK)(x3_:L2.XK):Prop
 |mk (a:Addr)(ns:List Int) (h0_:vs = [.ref a,.int 3,.int 20])(h1_:SqL K H a (ns.map V.int))(h2_:ns.length<=63)(h3_:∀(t pe pt pk:Addr)(m:Nat)(es:En)(ts:List (List Nat))(ks:Kn)(H':Hp),Same H H'->dE H' t pe pt pk m es ts ks->(∀ k∈ks,k.2<=10^(30:Int).toNat)->Q (.ref t) H')
theorem at30{u x:V}:atI [u,v,x] 0=some u:=rfl
theorem at31{u x:V}:atI [u,v,x] 1=some v:=rfl
theorem at32{u x:V}:atI [u,v,x] 2=some x:=rfl
theorem cK:ay ["script","first","most","cells","grown","told","k","cell"] ["script","first","most"] (ar jM):=by ac_nf
theorem AR{fr:Addr}{a6:FuncData} (F:Fun K "_law_built" "_law_built" jM f fd) (T:Txt mg) (aI:Cal P w K mg base 4 "_law_grown" ["cells"] (Ac K) p G) (aA:Cal P w K mg base 2 "_law_renumbered" ["grown","cell"] spRen fr J) (ac:Cal P w K mg base 1 "_law_cell" ["script","k"] (Ag K) I a6) :
  FnOk P w K mg base CX0 5 f fd ["script","first","most"] (xB K):=by
 refine F.ok cK (by walk_at "l") λaa A y s H x Q E u h=>?_
 obtain⟨a,ns,rfl,hS,a2,kk⟩:=h;have ab:(ns.map V.int).length=ns.length:=Hi _
 refine⟨_,(ah (mr 3 [("script",0)] ["k"] cK.nd (AA rfl T.n_range (af (av bE (pv 1) ai) (af (az (Ci rfl) (by rfl) T.n_min ub (af (av dM (az ax (by rfl) T.n_len aX (af (pv 0) aj)) ai) (af (av dM (av bE (pv 1) (av b9 ai (pv 2))) ai) aj))) (af ai aj)))) pg_c pt_c (λC ex s H=>(sr K (pv 1) (pv 0))))
   (ah (aB 4 cK.nd (aA.c u (af (aI.c u (af (pv 3) aj)) (af (ac.c u (af (pv 0) (af (pv 1) aj))) aj))))
   (ah (aB 5 cK.nd (bL aj))
   (ah (bw PassesOwn.never rfl (aO rfl T.n_range (af (az ax (by rfl) T.n_len aX (af (aM (pv 4) ai) aj)) aj)) (bY 6 cK.nd) (ah (aB 7 cK.nd (ac.c u (af (pv 0) (af (av bE (pv 1) (av b9 ai (pv 6))) aj))))
   (ao (aU (dB HC HU HS aZ (pv 5) (af (bh (af (av aY (pv 7) ai) (af (av aY (av bj (pv 7) ai) (av bE (av xT ai ai) ai)) aj))) aj))))))
   (ao (aF (bh (af (aM (pv 4) ai) (af (aM (pv 4) ai) (af (pv 5) aj)))))))))),?_⟩
 have hn:Mq (3+1) (if(3+2*20-2:Int)<((ns.map V.int).length:Int)-1 then 3+2*20-2 else((ns.map V.int).length:Int)-1) 2=(((Mq (3+1) (if(3+2*20-2:Int)<((ns.map V.int).length:Int)-1 then 3+2*20-2 else((ns.map V.int).length:Int)-1) 2).toNat:Nat):Int):=by
  refine(Jn ?_).symm;unfold Mq;rw[NA (by decide)]
  split<;>omega
 have L:∀ i:Nat,i<(Mq (3+1) (if(3+2*20-2:Int)<((ns.map V.int).length:Int)-1 then 3+2*20-2 else((ns.map V.int).length:Int)-1) 2).toNat->i<19/\4+2*i<ns.length:=λi d=>by
  rw[ab]at d;unfold Mq at d;rw[NA (by decide)]at d
  split at d<;>split at d<;>omega
 have hz:(Mq (3+1) (if(3+2*20-2:Int)<((ns.map V.int).length:Int)-1 then 3+2*20-2 else((ns.map V.int).length:Int)-1) 2).toNat<=19:=by
  by_cases z:(Mq (3+1) (if(3+2*20-2:Int)<((ns.map V.int).length:Int)-1 then 3+2*20-2 else((ns.map V.int).length:Int)-1) 2).toNat<=19
  .exact z
  .have:=(L 19 ∅).1;omega
 refine⟨_,rfl,_,_,rfl,rfl,_,rfl,a,_,rfl,.inl hS,_,_,rfl,rfl,_,rfl,_,rfl,_,_,rfl,rfl,.inl ⟨by decide,by decide⟩,_,_,rfl,rfl,_,_,rfl,rfl,_,_,rfl,_,_,_,_,rfl,by decide,by decide,(by split<;>omega),(by split<;>omega),⟨by decide,by decide⟩,hn,?_⟩
 generalize (Mq (3+1) (if(3+2*20-2:Int)<((ns.map V.int).length:Int)-1 then 3+2*20-2 else((ns.map V.int).length:Int)-1) 2).toNat=N at L hz;refine tV (λi M r=>r=H/\∃ cs:List Int,M=cs.map V.int/\cs.length=i) (HJ (aw ∅)) ⟨rfl,[],rfl,rfl⟩ ?_ ?_
 .rintro i M r d ⟨rfl,cs,rfl,cl⟩;have aL:=(L i d).2;have e0:(3+1:Int)+(i:Int)*2=((4+2*i:Nat):Int):=by omega
  rw[e0];refine⟨_,rfl,_,rfl,a,_,_,_,rfl,rfl,hS,aC (v:=.int ns[4+2*i]) (by rw[Hr,Hf aL];rfl),rfl,cs++[ns[4+2*i]],?_,by rw[Hk,cl];rfl⟩
  rw[Hv];rfl
 rintro M r _ ⟨rfl,cs,rfl,cl⟩ b a7;have o:=ak a7 (.lst (cs.map V.int));refine⟨_,rfl,b,cs,rfl,SqL.of ag,∅,λt pe pt M D m B ts H3 s3 e al hE am hR g a1=>?_⟩
 have ae:=o.trans s3;refine⟨_,rfl,_,rfl,a,3,ns,rfl,ae.seq hS,t,pe,pt,_,m,B,ts,rfl,e,⟨⟨M,al,hE⟩,⟨D,am,hR⟩,g⟩,g.two ∅,∅,λt' a0 a3 es' ts' H4 s4 aS wp ba=>?_⟩
 have a4:=ae.trans s4;have a5:es'.length<=20:=by omega
 refine⟨(by show 0<=LZ;decide),λq O=>?_⟩
 have s5:=ak O (.lst []);obtain⟨l,an,aV⟩:=wp.en;have ap:l.length=es'.length:=aV.1;refine⟨_,rfl,t',_,0,_,rfl,rfl,SqT.of (s5 _ _ aS),at0,a0,l,rfl,.inl (SqL.of (s5 _ _ an)),_,rfl,∅,∅,bQ (n:=(l.length:Int).toNat) (λi Y H5=>∃ v6 v7 ws ks,Y = [some (.ref a),some (.int 3),some (.int 20),some (.ref b),some (.ref t'),some (.ref q),v6,v7]/\Same H4 H5/\H5 q=some (.lst ws)/\gY H5 ws ks/\ks.length=i/\∀ k∈ks,k.2<=10^(30:Int).toNat) ⟨_,_,[],[],rfl,s5,ag,⟨rfl,λi k z=>by simp at z⟩,rfl,λk z=>nomatch z⟩ ?_ ?_⟩
 .rintro i Y H5 d ⟨v6,v7,ws,ks,rfl,s6,hw,tk,kl,kb⟩;rw[Hn,ap]at d;have e0:(0:Int)+(i:Int)=(i:Int):=IF _;rw[e0];have wl:=tk.1;refine⟨_,rfl,_,rfl,_,rfl,_,_,rfl,rfl,.inl ⟨by decide,by decide⟩,_,_,rfl,rfl,a,3+2*i,ns,(by rw[show((3+2*i:Nat):Int)=3+2*(i:Int) by omega];rfl),(a4.trans s6).seq hS,?_⟩
  refine⟨_,rfl,.inl ⟨rfl,_,SqL.of hw⟩,_,rfl,_,_,rfl,rfl,(by show(0:Int)<2;decide),_,rfl,_,_,rfl,rfl,⟨by decide,by decide⟩,_,_,rfl,rfl,⟨by decide,by decide,by decide⟩,_,_,rfl,rfl,_,_,rfl,rfl,(by show(0:Int)<10^(30:Int).toNat+1;decide),(by show 2<=LZ;decide),λtt aT=>?_⟩
  have sn:=ak aT (.tup [.int (lh ns (3+2*i)%2),.int (lh ns (3+2*i)/2%(10^(30:Int).toNat+1))]);refine⟨q,ws,_,rfl,rfl,sn _ _ hw,aw ∅,?_⟩
  refine⟨_,_,_,ks++[(lh ns (3+2*i)%2,lh ns (3+2*i)/2%(10^(30:Int).toNat+1))],rfl,aK (s6.trans sn) O _,ag,((tk.mono sn).snoc ag (by show lh ns (3+2*i)%2=0∨lh ns (3+2*i)%2=1;omega) (Jt _ (by decide))).put (sn _ _ hw),by rw[Hk,kl];rfl,λk j=>?_⟩
  rcases Hx.mp j with z | z
  .exact kb k z
  .rw[HB.mp z];exact Int.lt_add_one_iff.mp (Jk _ (by decide))
 .rintro Y H5 ⟨v6,v7,ws,ks,rfl,s6,hw,tk,kl,kb⟩;rw[Hn,ap]at kl;refine⟨_,rfl,t',_,0,_,rfl,rfl,SqT.of (s6 _ _ aS),at0,_,rfl,t',_,1,_,rfl,rfl,SqT.of (s6 _ _ aS),at1,_,rfl,(by show 3<=LZ;decide),λtt aT=>?_⟩
  have sn:=ak aT (.tup [.ref a0,.ref a3,.ref q]);exact kk tt a0 a3 q m es' ts' ks _ ((a4.trans s6).trans sn) ⟨ag,(wp.mono s6).mono sn,⟨ws,sn _ _ hw,tk.mono sn⟩,a5,kl⟩ kb
open KF (andN orN shlN xorN)
theorem oS:∀{a b:List Int},a.Perm b->a.Pairwise (·<=·)->b.Pairwise (·<=·)->a=b
 |[],b,h,_,_=>(List.nil_perm.mp h).symm▸rfl
 |x::a,[],h,_,_=>NC h.length_eq (by simp)
 |x::a,y::b,h,c,d=>by
  obtain⟨I,s⟩:=Lh.mp c;obtain⟨b1,b2⟩:=Lh.mp d;have M:x<=y:=by
   rcases Hs.mp (h.mem_iff.mpr (Hu ..):y∈x::a)with z | z
   .rw[z];exact Jo _
   .exact I y z
  have J:y<=x:=by
   rcases Hs.mp (h.mem_iff.mp (Hu ..):x∈y::b)with z | z
   .rw[z];exact Jo _
   .exact b1 x z
  have e:x=y:=Int.le_antisymm M J;subst e;rw[oS (List.Perm.cons_inv h) s b2]
def cI(l:List Nat):List Int:=l.map λ(p:Nat)=>((p:Nat):Int)
theorem cI_V(l:List Nat):(cI l).map V.int=l.map iV:=by unfold cI;rw[JN];rfl
theorem FA{r:List Nat}{out:List Int}(B:out.Perm (cI l))(y:out.Pairwise (·<=·))(O:l.Nodup)(c:r.Pairwise (· < ·))(N:∀ t,t∈l↔t∈r):out=cI r:=by
 have d:r.Nodup:=c.imp λh=>HN h;have q:(cI l).Perm (cI r):=((Jx O d).mpr N).map _;refine oS (B.trans q) y ?_;unfold cI;exact List.Pairwise.map _ (λa b h=>by omega) c
theorem Bo:ins l l.length n=l++[n]:=by
 unfold ins;rw[HL,List.drop_length]
inductive zY(K:Hj)(vs:List L2.V)(H:L2.Hp)(Q:L2.VK)(x3_:L2.XK):Prop
 |mk (a:Addr)(xs:List V)(m:Nat)(es:En) (h0_:vs = [.int (m:Int),.ref a])(h1_:SqL K H a xs)(h2_:dN K H xs es)(h3_:(∀ e∈es,e.1<m/\e.2<m))(h4_:Q .non H)
inductive xy(K:Hj)(vs:List L2.V)(H:L2.Hp)(Q:L2.VK)(x3_:L2.XK):Prop
 |mk (a b:Addr)(xs zs:List V)(m:Nat)(es:En)(ts:List (List Nat)) (h0_:vs = [.int (m:Int),.ref a,.ref b])(h1_:SqL K H a xs)(h2_:dN K H xs es)(h3_:SqL K H b zs)(h4_:bC H zs ts)(h5_:bO m es ts)(h6_:es.length<=30)(h7_:m<=40)(h8_:∀ H',Same H H'->Q .non H')
inductive zX(K:Hj)(vs:List L2.V)(H:L2.Hp)(Q:L2.VK)(x3_:L2.XK):Prop
 |mk (a:Addr)(xs:List V)(m:Nat)(es:En)(ts:List (List Nat)) (h0_:vs = [.int (m:Int),.ref a])(h1_:SqL K H a xs)(h2_:dN K H xs es)(h3_:Gr m es ts)(h4_:2<=m)(h5_:m<=40)(h6_:es.length<=30)(h7_:∀ H',Same H H'->Q .non H')
theorem jq:ay ["many","ties","tie"] ["many","ties"] (ar fX):=by ac_nf
theorem Dj (F:Fun K "refuse_ends" "refuse_ends" fX f fd):FnOk P w K mg base CX0 1 f fd ["many","ties"] (zY K):=by
 refine F.ok jq (by walk_at "l") λI A g s H l Q E u h=>?_
 obtain⟨a,xs,m,B,rfl,D,n,b,k⟩:=h;refine⟨_,(ao (bw PassesOwn.never rfl (aP (pv 1)) (bY 2 jq.nd) (ao (bF (PW.pt (oF (aD AJ (bM (pv 2) rfl) (pv 0) (aE _)) (nK (aD AJ (bM (pv 2) rfl) (pv 0) (aE _))))) (ao cC) aN)))),?_⟩;refine⟨_,rfl,a,rfl,⟨_,D⟩,cu (K:=K) (xs:=xs) (λi Y N=>∃ v,Y = [some (.int (m:Int)),some (.ref a),v]/\N=H) ⟨_,rfl,rfl⟩ (λi Y N _ ⟨_,_,z⟩=>z▸D) ?_ ?_⟩
 .rintro i x Y N O ⟨v,rfl,rfl⟩;have d:i<B.length:=by rw[← n.1];exact(Hg.mp O).1
  obtain⟨e,T⟩:∃ e,B[i]?=some e:=⟨_,Hf d⟩;obtain⟨p,C,j,st,o,q,y⟩:=n.2 i e T;rw[O]at o
  cases o
  obtain⟨G,t⟩:=b e (Hh T);refine⟨_,rfl,p,C,j,_,_,rfl,q,y.cl,y.n1,j6 _ _ _,_,rfl,_,_,rfl,rfl,_,rfl,?_⟩;refine ite2 (λc=>NC (Np c) ∅) (λ_=>?_)
  refine⟨_,rfl,p,C,j,_,_,rfl,q,y.cl,y.n2,oQ _ _ _,_,rfl,_,_,rfl,rfl,_,rfl,?_⟩;refine ite2 (λc=>NC (Np c) ∅) (λ_=>?_)
  exact⟨_,rfl,rfl⟩
 .rintro Y N ⟨v,rfl,rfl⟩;exact k
theorem cU:ay ["many","ties","turns","ending","number","tie"] ["many","ties","turns"] (ar fA):=by ac_nf
theorem AN (F:Fun K "refuse_turns" "refuse_turns" fA f fd) (T:Txt mg):FnOk P w K mg base CX0 1 f fd ["many","ties","turns"] (xy K):=by
 refine F.ok cU (by walk_at "l") λaa A g s H vs Q E G h=>?_
 obtain⟨a,b,xs,zs,m,B,ts,rfl,hS,hT,hB,hR,w',ab,aI,kk⟩:=h;have aA:=G.units
 refine⟨_,(ah (mr 3 [] ["place"] cU.nd (aO rfl T.n_range (af (pv 0) aj)) pg_c pt_c (λC ex s H=>(bL aj)))
   (ah (bw PassesOwn.never rfl (gm rfl T.n_enumerate (af (pv 1) aj)) (nL rfl (aJ (bY 4 cU.nd) (aJ (bY 5 cU.nd) bT))) (ah (aU (dB HC HU HS aZ (aR (pv 3) (bM (pv 5) rfl)) (af (pv 4) aj)))
   (ao (aU (dB HC HU HS aZ (aR (pv 3) (bM (pv 5) rfl)) (af (pv 4) aj))))))
   (ao (bF (aD (AI aA) (cR [] ["about"] (aP (pv 2)) pg_c pt_c (λC ex s H=>(az (ua (K:=K) rfl) (by rfl) T.n_sorted oy (af (pv 0) aj)))) (pv 3) (aE _)) (ao cC) aN)))),?_⟩
 refine⟨_,rfl,_,rfl,∅,∅,cj (n:=(m:Int).toNat) (λi M N=>Same H N/\bD (λp=>H p≠none) N M (Hw i [])/\Dist M) (by rw[Hn];exact HJ (aw ∅)) ⟨λ_ _ e=>e,⟨rfl,λi l e=>by simp at e⟩,λi j p e=>by simp at e⟩ ?_ ?_⟩
 .rintro i M N d ⟨s2,rx,D⟩;refine⟨(by show 0<=LZ;decide),λl I=>?_⟩
  have s3:=ak I (.lst []);refine⟨s2.trans s3,?_,kZ rx D I⟩;rw[JR];refine(rx.mono λb u _ z=>s3 _ _ z).snoc (λz=>z ?_) ag
  cases y:H l with
  |none=>rfl
  |some o=>rw[s2 _ _ y]at I;cases I
 rintro M N aT ⟨s2,rx,D⟩ pn an;rw[Hn]at rx;have s3:=ak an (.lst M);have bi:H pn=none:=by
  cases y:H pn with
  |none=>rfl
  |some o=>rw[s2 _ _ y]at an;cases an
 have bn:bD (λp=>p=pn∨H p≠none) (upd N pn (.lst M)) M (Hw m []):=⟨rx.1,λi l z=>by
  obtain⟨p,a1,a2,a3⟩:=rx.2 i l z;have n2:p≠pn:=aH a3 an
  exact⟨p,a1,by rintro(y | y);exact n2 y;exact a2 y,s3 _ _ a3⟩⟩
 refine⟨_,rfl,a,rfl,⟨_,(s2.trans s3).seq hS⟩,m9 (K:=K) (xs:=xs) (λi Y H5=>∃ v4 v5 rows,Y = [some (.int (m:Int)),some (.ref a),some (.ref b),some (.ref pn),v4,v5]/\Same H H5/\H5 pn=some (.lst M)/\bD (λp=>p=pn∨H p≠none) H5 M rows/\bO m (B.take i) rows/\∀ r∈rows,r.Pairwise (· < ·))
  ⟨_,_,_,rfl,s2.trans s3,ag,bn,CI m,λr G=>by rw[(Kw.mp G).2];exact Ki⟩ (λi Y H5 _ al=>by obtain⟨_,_,_,_,z,_⟩:=al;exact z.seq hS) ?_ ?_⟩
 .rintro i x Y H5 T2 O ⟨v4,v5,rows,rfl,s5,a6,aL,w5,pw⟩ ae;have d:i<B.length:=by rw[← hT.1];exact(Hg.mp O).1
  obtain⟨e,c⟩:∃ e,B[i]?=some e:=⟨_,Hf d⟩;obtain⟨p,C,dx,st,x1,x2,x3⟩:=hT.2 i e c;rw[O]at x1
  cases x1
  have sT:=ak ae (.tup [.int (i:Int),.ref p]);have s6:=s5.trans sT;have x6:=s6 _ _ x2;obtain⟨J,e2,e3⟩:=w'.ends e (Hh c);have be:(B.take i).length=i:=by rw[HW];omega
  have bm:=w5.len;obtain⟨l,I⟩:∃ l,rows[e.1]?=some l:=⟨_,Hf ∅⟩
  obtain⟨l',ac⟩:∃ l,rows[e.2]?=some l:=⟨_,Hf ∅⟩
  have a7:bD (λp=>p=pn∨H p≠none) (upd H5 T2 (.tup [.int (i:Int),.ref p])) M rows:=aL.mono λb u _ z=>sT _ _ z;obtain⟨p1,y1,y2,y3⟩:=a7.2 _ _ I;obtain⟨p2,z1,z2,z3⟩:=a7.2 _ _ ac;have a0:∀{p:Addr},¬ (p=pn∨H p≠none)->H p=none/\p≠pn:=λ{p} n=>by
   refine⟨?_,λz=>n (.inl z)⟩
   cases y:H p with
   |none=>rfl
   |some o=>exact NC (.inr (by rw[y];exact λz=>nomatch z)) n
  obtain⟨ap,bp⟩:=a0 y2;obtain⟨aS,bq⟩:=a0 z2;have bR:p2≠p1:=λy=>by rw[y]at z1;exact e3 (D _ _ p1 y1 z1)
  have ll:∀{q:Nat}{r:List Nat},rows[q]?=some r->∀ t∈r,t<i:=λ{q r} h t L=>by
   have:=lY w5 h L;omega
  have bv:∀{q:Nat}{r:List Nat},rows[q]?=some r->r.length<=30:=λ{q r} h=>by
   have:=dh (w5.nd _ _ h) (ll h);omega
  have f1:=bv I;have f2:=bv ac;have bb:=sT _ _ a6;refine⟨T2,_,rfl,SqT.of ag,rfl,_,_,rfl,_,_,rfl,rfl,?_⟩;refine⟨_,rfl,_,rfl,p,C,dx,_,_,rfl,x6,x3.cl,x3.n1,j6 _ _ _,pn,M,_,_,rfl,rfl,SqL.of bb,aC y1,.inl ⟨rfl,_,SqL.of y3⟩,_,rfl,p1,_,_,rfl,rfl,y3,aw (by rw[Hi];omega),?_⟩
  have a4:(l.map iV)++[V.int (i:Int)]=(l++[i]).map iV:=by rw[Hv];rfl
  rw[a4];have x7:(upd (upd H5 T2 (.tup [.int (i:Int),.ref p])) p1 (.lst ((l++[i]).map iV))) p=some (.ins C dx (tf (e.1:Int) (e.2:Int) st)):=by rw[aq (λz=>by rw[z]at x2;rw[x2]at ap;cases ap)];exact x6
  have bd:(upd (upd H5 T2 (.tup [.int (i:Int),.ref p])) p1 (.lst ((l++[i]).map iV))) pn=some (.lst M):=by rw[aq bp.symm];exact bb
  have z7:(upd (upd H5 T2 (.tup [.int (i:Int),.ref p])) p1 (.lst ((l++[i]).map iV))) p2=some (.lst (l'.map iV)):=by rw[aq bR];exact z3
  refine⟨_,rfl,_,rfl,p,C,dx,_,_,rfl,x7,x3.cl,x3.n2,oQ _ _ _,pn,M,_,_,rfl,rfl,SqL.of bd,aC z1,.inl ⟨rfl,_,SqL.of z7⟩,_,rfl,p2,_,_,rfl,rfl,z7,aw (by rw[Hi];omega),?_⟩
  have ba:(l'.map iV)++[V.int (i:Int)]=(l'++[i]).map iV:=by rw[Hv];rfl
  rw[ba];refine⟨_,_,(rows.set e.1 (l++[i])).set e.2 (l'++[i]),rfl,aK (aK s6 ap _) aS _,by rw[aq bq.symm];exact bd,(a7.set D y1).set D z1,?_,λr G=>?_⟩
  .have q:=w5.put (k:=l.length) (j:=l'.length) J e2 e3 I ac
   rw[Bo,Bo,be]at q;rw[HH,c];exact q
  .have bN:∀{q:Nat}{r:List Nat},rows[q]?=some r->(r++[i]).Pairwise (· < ·):=λ{q r} h=>List.pairwise_append.mpr ⟨pw r (Hh h),List.pairwise_singleton _ _,λx O y hy=>by
    have:=ll h x O;have:y=i:=by simpa using hy
    omega⟩
   rcases Kz G with z | z
   .rcases Kz z with z | z
    .exact pw r z
    .rw[z];exact bN I
   .rw[z];exact bN ac
 rintro Y H5 ⟨v4,v5,rows,rfl,s5,a6,aL,w5,pw⟩;rw[hT.1,HL]at w5;have aV:zs.length=m:=by rw[hR.1,w'.len]
 refine⟨_,rfl,b,rfl,⟨_,s5.seq hB⟩,bg (K:=K) (xs:=zs) (λi vs H6=>Same H5 H6/\bC H6 vs (rows.take i)) (HJ (aw ∅)) ⟨λ_ _ e=>e,rfl,λi l e=>by simp at e⟩ (λi vs H6 _ z=>(s5.trans z.1).seq hB) ?_ ?_⟩
 .rintro i x vs H6 O ⟨s6,rz⟩;have d:i<ts.length:=by rw[← hR.1];exact(Hg.mp O).1
  obtain⟨l,I⟩:∃ l,ts[i]?=some l:=⟨_,Hf d⟩;obtain⟨r,am⟩:∃ r,rows[i]?=some r:=⟨_,Hf (by rw[w5.len,← w'.len];exact d)⟩
  obtain⟨p,a1,a2⟩:=(hR.mono (s5.trans s6)).2 i l I;rw[O]at a1
  cases a1
  have bW:l.length<=30:=Io (dh (w'.nd _ _ I) λt L=>lY w' I L) ab;refine⟨_,rfl,p,cI l,rfl,(by rw[cI_V];exact SqL.of a2),(by unfold cI;rw[Hi];omega),λq a5 hq v hs=>?_⟩
  have eo:=FA v hs (w'.nd _ _ I) (pw r (Hh am)) λt=>(w'.mem i l I t).trans (w5.mem i r am t).symm;subst eo;have s7:=ak hq (.lst ((cI r).map V.int));refine⟨s6.trans s7,?_⟩;rw[show rows.take (i+1)=rows.take i++[r] by rw[HH,am];rfl]
  exact(rz.mono s7).snoc (by rw[ag,cI_V])
 rintro vs H6 _ ⟨s6,rz⟩ D' bU;rw[aV,← w5.len,HL]at rz;have s7:=ak bU (.lst vs);have bB:=s6.trans s7;refine⟨_,rfl,_,qg (SqL.of ag) (rz.mono s7),qg (SqL.of (bB _ _ a6)) (aL.off.mono bB),nJ rows,_,rfl,iteF ?_⟩;exact kk _ (s5.trans bB)
theorem mq:ay ["many","ties"] ["many","ties"] (ar eB):=by ac_nf
theorem Di{fr:Addr} (F:Fun K "refuse_parted" "refuse_parted" eB f fd) (ac:Cal P w K mg base 1 "reached" ["start","pairs"] KF.spReach fr G):FnOk P w K mg base CX0 2 f fd ["many","ties"] (zX K):=by
 refine F.ok mq (by walk_at "l") λk A y s H t Q E u h=>?_
 obtain⟨a,xs,m,B,ts,rfl,hS,n,g,m2,ab,q,j⟩:=h;have am:xs.length=B.length:=n.1;refine⟨_,(ao (bF (aD jj (ac.c u (af ai (af (cR [] ["tie"] (aP (pv 1)) pg_c pt_c (λC N s H=>(bh (af (u9 (K:=K) rfl (pv 0) rfl) (af (u9 (K:=K) rfl (pv 0) rfl) aj))))) aj))) (av dM (av bJ ai (pv 0)) ai) (aE _)) (ao cC) aN)),?_⟩;refine⟨_,rfl,a,rfl,⟨_,hS⟩,bg (K:=K) (xs:=xs) (λi o ae=>Same H ae/\cm ae o (B.take i)) (HJ (aw ∅)) ⟨λ_ _ e=>e,rfl,λi l e=>by simp at e⟩ (λi o ae _ z=>z.1.seq hS) ?_ ?_⟩
 .rintro i x o ae O ⟨al,ez⟩;have d:i<B.length:=by rw[← n.1];exact(Hg.mp O).1
  obtain⟨e,T⟩:∃ e,B[i]?=some e:=⟨_,Hf d⟩;obtain⟨p,C,M,st,J,a2,a3⟩:=(n.mono al).2 i e T;rw[O]at J
  cases J
  refine⟨_,rfl,p,C,M,_,_,rfl,a2,a3.cl,a3.n1,j6 _ _ _,_,rfl,p,C,M,_,_,rfl,a2,a3.cl,a3.n2,oQ _ _ _,(by show 2<=LZ;decide),λg v=>?_⟩
  have aa:=ak v (.tup [iV e.1,iV e.2]);refine⟨al.trans aa,?_⟩;rw[show B.take (i+1)=B.take i++[e] by rw[HH,T];rfl]
  exact(ez.mono aa).snoc ag
 rintro o ae _ ⟨al,ez⟩ D hD;rw[n.1,HL]at ez;have aa:=ak hD (.lst o);have Y:=ez.mono aa;have mem:∀ l∈B.map (λe=>((e.1,e.2,0):KF.Lk)),l.1<m/\l.2.1<m:=λl I=>by
  obtain⟨e,T,rfl⟩:=Ie.mp I;obtain⟨b1,b2,_⟩:=g.w.ends e T;exact⟨b1,b2⟩
 have cn:KF.Conn m (B.map λe=>((e.1,e.2,0):KF.Lk)):=λb L=>g.conn (λp=>∃ x,KF.Wk (B.map λe=>(e.1,e.2,0)) 0 p x) (λe T=>by
  obtain⟨i,d⟩:=IV T;have lk:=KF.Wk.link (show(B.map λe=>((e.1,e.2,0):KF.Lk))[i]?=some (e.1,e.2,0) by rw[Hr,d];rfl) (a:=e.1) (.inl rfl)
  rw[show KF.bey (e.1,e.2,0) e.1=e.2 from NA rfl]at lk
  exact⟨λ⟨x,h⟩=>⟨_,h.trans lk⟩,λ⟨x,h⟩=>⟨_,h.trans lk.rev⟩⟩) 0 b ∅ L ⟨0,.nil 0⟩
 refine⟨D,o,m,B.map λe=>(e.1,e.2,0),rfl,ag,⟨by rw[Hi];exact Y.1,λi l I=>?_⟩,⟨ab,by rw[Hi];omega,mem,λl I=>?_⟩,∅,λr u=>?_⟩
 .rw[Hr]at I;obtain⟨e,T,rfl⟩:=HF.mp I;obtain⟨p,x1,x2⟩:=Y.2 i e T;exact⟨_,x1,p,rfl,x2⟩
 .obtain⟨e,T,rfl⟩:=Ie.mp I;exact⟨Jo _,IH _⟩
 rw[KF.run_full u mem ∅ cn]
 refine⟨_,rfl,_,_,rfl,rfl,⟨∅,∅,by decide⟩,_,_,rfl,rfl,rfl,_,rfl,?_⟩
 refine tD ?_ (j _ (al.trans aa));show V.int _=V.int _;rw[shlN];have:=IG m;congr 1;omega
def cls(PL PS:Addr)(c:Bool):Addr:=if c=true then PS else PL
def j5(PL PS:Addr)(H:Hp)(xs:List V)(es:En)(ks:Kn):Prop:=xs.length=es.length/\∀(i:Nat)(e:Nat×Nat)(k:Int×Int),es[i]?=some e->ks[i]?=some k->∃ p j,xs[i]?=some (.ref p)/\H p=some (.ins (cls PL PS (decide (k.1=1))) j (tf (e.1:Int) (e.2:Int) k.2))
theorem j5.mono{PS:Addr}{ks:Kn}(t:j5 PL PS H xs es ks)(h:Same H H'):j5 PL PS H' xs es ks:=⟨t.1,λi e k q r=>by
 obtain⟨p,j,a,b⟩:=t.2 i e k q r
 exact⟨p,j,a,h _ _ b⟩⟩
structure CW(K:Hj)(C:Addr):Prop where
 cl:Cls K C
 n1:fy K C "many"
 n2:fy K C "ties"
 n3:fy K C "turns"
 n4:fy K C "rounds"
 n5:fy K C "sides"
theorem iY(k:Str)(v:V):∀ fs:List (Str×V),(putF k v fs).length<=fs.length+1
 |[]=>Hl _
 | (a,b)::r=>by
  show(if a=k then(a,v)::r else(a,b)::putF k v r).length<=_;have:=iY k v r;split<;>simp only[HD]<;>omega
theorem none_of{b:Addr}(s:Same H H')(z:H' b=none):H b=none:=by
 cases y:H b with
 |none=>rfl
 |some o=>rw[s _ _ y]at z;cases z
structure WebG(S:Addr->Prop)(H:Hp)(fs:List (Str×V))(m:Nat)(es:En)(ts rs:List (List Nat)):Prop where
 many:fs.lookup ("many" : Str)=some (.int (m:Int))
 turns:∃ q z,fs.lookup ("turns" : Str)=some (.ref q)/\¬ S q/\H q=some (.lst z)/\bD S H z ts
 rounds:∃ q z,fs.lookup ("rounds" : Str)=some (.ref q)/\H q=some (.lst z)/\bC H z rs
 sides:∃ q z,fs.lookup ("sides" : Str)=some (.ref q)/\H q=some (.lst z)/\gR H z es.length rs
 part:bx (fol es ts) (2*es.length) (2*es.length) rs
theorem gR.mono{z:List V}(h:gR H z n rs)(s:Same H H'):gR H' z n rs:=⟨h.1,λi d=>by
 obtain⟨t,a,b,r,D,u,N,A⟩:=h.2 i d
 exact⟨t,a,b,r,D,u,s _ _ N,A⟩⟩
theorem WebG.mono{S b:Addr->Prop}{H H':Hp}{fs:List (Str×V)}{m:Nat}{es:En}{ts rs:List (List Nat)}(h:WebG S H fs m es ts rs)(s:Same H H')(i:∀ a,b a->S a):WebG b H' fs m es ts rs:=by
 obtain⟨a,⟨q,z,b1,L,b2,b3⟩,⟨J,c,c1,c2,c3⟩,⟨n,Q,E,O,I⟩,e⟩:=h;refine⟨a,⟨q,z,b1,λy=>L (i _ y),s _ _ b2,b3.1,λj l y=>?_⟩,⟨J,c,c1,s _ _ c2,c3.mono s⟩,⟨n,Q,E,s _ _ O,I.mono s⟩,e⟩;obtain⟨r,u,N,A⟩:=b3.2 j l y;exact⟨r,u,λx=>N (i _ x),s _ _ A⟩
inductive pK(K:Hj)(vs:List L2.V)(H:L2.Hp)(Q:L2.VK)(x3_:L2.XK):Prop
 |mk (p C dx qt qh:Addr)(m:Nat)(xs zs:List V)(es:En)(ts:List (List Nat)) (h0_:vs = [.ref p,.int (m:Int),.ref qt,.ref qh])(h1_:H p=some (.ins C dx []))(h2_:CW K C)(h3_:H qt=some (.lst xs))(h4_:dN K H xs es)(h5_:H qh=some (.lst zs))(h6_:bC H zs ts)(h7_:Gr m es ts)(h8_:0<es.length)(h9_:es.length<=30)(h10_:∀(fs:List (Str×V))(q1:Addr)(rs:List (List Nat))(H':Hp),H' p=some (.ins C dx fs)->WebG (λa=>H a≠none) H' fs m es ts rs->H q1=none->fs.lookup ("ties" : Str)=some (.ref q1)->H' q1=some (.lst xs)->(∀ q o,H q=some o->q≠p->H' q=some o)->Q .non H')
theorem dN.keep{G:Hp}(t:dN K H xs es)(B:H p=some (.ins C f []))(k:∀ q u,q≠p->H q=some u->G q=some u):dN K G xs es:=⟨t.1,λi e z=>by
 obtain⟨q,c,w,s,a,b,d⟩:=t.2 i e z;refine⟨q,c,w,s,a,k _ _ (λz=>?_) b,d⟩;rw[z,B]at b;have Y:([]:List (Str×V))=tf (e.1:Int) (e.2:Int) s:=by
  injection b with b;injection b
 have E:=j6 (e.1:Int) (e.2:Int) s;rw[← Y]at E
 cases E⟩
theorem ki:ay ["self","many","ties","turns","rounds"] ["self","many","ties","turns"] (ar cL):=by ac_nf
theorem Df{f2 f3 f4 f5:Addr}{d2 d3 d4 d5:FuncData} (F:Fun K "__init__" "Web.__init__" cL f fd) (T:Txt mg) (aL:Cal P w K mg base 1 "refuse_ends" ["many","ties"] (zY K) I J) (aI:Cal P w K mg base 1 "refuse_turns" ["many","ties","turns"] (xy K) f2 d2) (ap:Cal P w K mg base 2 "refuse_parted" ["many","ties"] (zX K) f3 d3) (aT:Cal P w K mg base 4 "rounds_of" ["ties","turns"] (xx K) f4 d4) (aV:Cal P w K mg base 1 "sides_of" ["ties","rounds"] (zV K) f5 d5) :
  FnOk P w K mg base CX0 5 f fd ["self","many","ties","turns"] (pK K):=by
 refine F.ok ki (by walk_at "l") λaa A j s H vs Q E B h=>?_
 obtain⟨p,C,dx,qt,qh,m,xs,zs,es,ts,rfl,v,cw,aA,hT,a7,hR,g,e0,ab,kk⟩:=h;have w':=g.w;have m2:=g.two e0;have mf:=pf g;have bN:xs.length=es.length:=hT.1;have an:zs.length=m:=by rw[hR.1,w'.len]
 have pl:∀{q:Addr}{M:List V},H q=some (.lst M)->q≠p:=λ{q M} h z=>by rw[z,v]at h;cases h
 refine⟨_,(ah (aU (aL.c B (af (pv 1) (af (pv 2) aj))))
   (ah (aU (aI.c B (af (pv 1) (af (pv 2) (af (pv 3) aj)))))
   (ah (aU (ap.c B (af (pv 1) (af (pv 2) aj))))
   (ah (aB 4 ki.nd (aT.c B (af (pv 2) (af (pv 3) aj))))
   (ah (bF (aD jj (av bE (av dM (pv 1) (az ax (by rfl) T.n_len aX (af (pv 2) aj))) (az ax (by rfl) T.n_len aX (af (pv 4) aj))) ai (aE _)) (ao cC) aN)
   (ah (lV (pv 0) (pv 1) rfl)
   (ah (lV (pv 0) (cz cQ (by rfl) T.n_list gQ (af (pv 2) aj)) rfl)
   (ah (lV (pv 0) (cR [] ["about"] (aP (pv 3)) pg_c pt_c (λC ex s H=>(cz (pB (K:=K) rfl) (by rfl) T.n_list gQ (af (pv 0) aj)))) rfl)
   (ah (lV (pv 0) (pv 4) rfl)
   (ao (lV (pv 0) (aV.c B (af (pv 2) (af (pv 4) aj))) rfl))))))))))),?_⟩
 refine⟨_,rfl,_,rfl,qt,xs,m,es,rfl,SqL.of aA,hT,λe he=>⟨(w'.ends e he).1,(w'.ends e he).2.1⟩,?_⟩;refine⟨_,rfl,_,rfl,_,rfl,qt,qh,xs,zs,m,es,ts,rfl,SqL.of aA,hT,SqL.of a7,hR,w',ab,∅,λY k=>?_⟩
 refine⟨_,rfl,_,rfl,qt,xs,m,es,ts,rfl,SqL.of (k _ _ aA),hT.mono k,g,m2,∅,ab,λN s2=>?_⟩
 have ac:=k.trans s2;refine⟨_,rfl,_,rfl,qt,qh,m,es,ts,rfl,⟨⟨xs,SqL.of (ac _ _ aA),hT.mono ac⟩,⟨zs,SqL.of (ac _ _ a7),hR.mono ac⟩,w',∅⟩,λqr vs rs H3 s3 aS a5 ro=>?_⟩
 have ae:=ac.trans s3;have cnt:m+rs.length=es.length+2:=by
  obtain⟨a3,p',c⟩:=g.part;rw[← p'.same ro.part];exact c
 have bi:vs.length=rs.length:=a5.1;refine⟨_,rfl,_,rfl,qt,xs,rfl,.inl (SqL.of (ae _ _ aA)),_,_,rfl,rfl,_,rfl,qr,vs,rfl,.inl (SqL.of aS),_,_,rfl,rfl,rfl,_,rfl,?_⟩;refine tD (congrArg V.int ∅) ?_
 have bd:=ae _ _ v;refine⟨_,rfl,_,rfl,p,C,dx,[],rfl,bd,cw.cl,cw.n1,(by show 0<1000;decide),?_⟩
 have keep:∀{G:Hp}{o:HO}{q:Addr}{u:HO},q≠p->G q=some u->(upd G p o) q=some u:=λn z=>by rw[aq n];exact z
 refine⟨_,rfl,qt,xs,rfl,.inl (SqL.of (keep (pl aA) (ae _ _ aA))),λq1 al=>?_⟩;have a6:q1≠p:=λz=>by rw[z,ag]at al;cases al
 have t4:=ak al (.lst xs);refine⟨_,rfl,p,C,dx,_,rfl,t4 _ _ ag,cw.cl,cw.n2,?_,?_⟩
 .have:=iY "many" (.int (m:Int)) ([]:List (Str×V));simp only[Js]at this;omega
 have t1:∀ q u,q≠p->H3 q=some u->(upd (upd (upd H3 p (.ins C dx (putF "many" (.int (m:Int)) []))) q1 (.lst xs)) p (.ins C dx (putF "ties" (.ref q1) (putF "many" (.int (m:Int)) [])))) q=some u:=λq u n z=>keep n (t4 _ _ (keep n z));have bm:(upd (upd (upd H3 p (.ins C dx (putF "many" (.int (m:Int)) []))) q1 (.lst xs)) p (.ins C dx (putF "ties" (.ref q1) (putF "many" (.int (m:Int)) [])))) q1=some (.lst xs):=keep a6 ag;have pa:(upd (upd (upd H3 p (.ins C dx (putF "many" (.int (m:Int)) []))) q1 (.lst xs)) p (.ins C dx (putF "ties" (.ref q1) (putF "many" (.int (m:Int)) [])))) p=some (.ins C dx (putF "ties" (.ref q1) (putF "many" (.int (m:Int)) []))):=ag;generalize upd (upd (upd H3 p (.ins C dx (putF "many" (.int (m:Int)) []))) q1 (.lst xs)) p (.ins C dx (putF "ties" (.ref q1) (putF "many" (.int (m:Int)) [])))=H4 at t1 bm pa;have lk:(putF "ties" (.ref q1) (putF "many" (.int (m:Int)) []):List (Str×V)).lookup ("ties" : Str)=some (.ref q1):=by rw[aG,NA rfl]
 have ln:(putF "ties" (.ref q1) (putF "many" (.int (m:Int)) []):List (Str×V)).length<=2:=by
  have a1:=iY "many" (.int (m:Int)) ([]:List (Str×V));have a2:=iY "ties" (.ref q1) (putF "many" (.int (m:Int)) ([]:List (Str×V)));simp only[Js]at a1;omega
 have bn:(putF "ties" (.ref q1) (putF "many" (.int (m:Int)) []):List (Str×V)).lookup ("many" : Str)=some (.int (m:Int)):=by rw[aG,NB (by decide),aG,NA rfl]
 generalize (putF "ties" (.ref q1) (putF "many" (.int (m:Int)) []):List (Str×V))=fs at pa lk ln bn;have ba:=t1 _ _ (pl a7) (ae _ _ a7);have bb:∀{b:Addr},H4 b=none->H b=none:=λ{b} z=>by
  cases y:H b with
  |none=>rfl
  |some o =>
   by_cases n:b=p
   .rw[n,pa]at z;cases z
   .rw[t1 _ _ n (ae _ _ y)]at z;cases z
 have bp:H q1=none:=by
  cases y:H q1 with
  |none=>rfl
  |some o=>rw[keep a6 (ae _ _ y)]at al;cases al
 refine⟨_,rfl,qh,rfl,⟨_,SqL.of ba⟩,bg (K:=K) (xs:=zs) (λi M H5=>Same H4 H5/\bD (λa=>H a≠none) H5 M (ts.take i)) (HJ (aw ∅)) ⟨λ_ _ e=>e,rfl,λi l e=>by simp at e⟩ (λi _ H5 _ z=>SqL.of (z.1 _ _ ba)) ?_ ?_⟩
 .rintro i x M H5 O ⟨s5,rz⟩;have d:i<ts.length:=by rw[← hR.1];exact(Hg.mp O).1
  obtain⟨l,L⟩:∃ l,ts[i]?=some l:=⟨_,Hf d⟩;obtain⟨r,a1,a2⟩:=hR.2 i l L;rw[O]at a1
  cases a1
  refine⟨_,rfl,r,_,rfl,.inl (SqL.of (s5 _ _ (t1 _ _ (pl a2) (ae _ _ a2)))),λg hg=>⟨s5.trans (ak hg _),?_⟩⟩;rw[show ts.take (i+1)=ts.take i++[l] by rw[HH,L];rfl]
  exact(rz.mono λb u _ z=>ak hg _ _ _ z).snoc (λz=>z (bb (none_of s5 hg))) ag
 rintro M H5 _ ⟨s5,rz⟩ D hD;rw[hR.1,HL]at rz;have be:D≠p:=λz=>by rw[z,s5 _ _ pa]at hD;cases hD
 have s6:=s5.trans (ak hD (.lst M));refine⟨_,rfl,p,C,dx,fs,rfl,s6 _ _ pa,cw.cl,cw.n3,∅,?_⟩
 have b0:=iY "turns" (.ref D) fs;have bR:(putF "turns" (.ref D) fs).lookup ("ties" : Str)=some (.ref q1):=by rw[aG,NB (by decide)];exact lk
 refine⟨_,rfl,_,rfl,p,C,dx,_,rfl,ag,cw.cl,cw.n4,∅,?_⟩
 have b6:=iY "rounds" (.ref qr) (putF "turns" (.ref D) fs);have bU:(putF "rounds" (.ref qr) (putF "turns" (.ref D) fs)).lookup ("ties" : Str)=some (.ref q1):=by rw[aG,NB (by decide)];exact bR
 have t7:∀ q u,q≠p->H3 q=some u->(upd (upd (upd H5 D (.lst M)) p (.ins C dx (putF "turns" (.ref D) fs))) p (.ins C dx (putF "rounds" (.ref qr) (putF "turns" (.ref D) fs)))) q=some u:=λq u n z=>keep n (keep n (s6 _ _ (t1 q u n z)));have bq:(upd (upd (upd H5 D (.lst M)) p (.ins C dx (putF "turns" (.ref D) fs))) p (.ins C dx (putF "rounds" (.ref qr) (putF "turns" (.ref D) fs)))) q1=some (.lst xs):=keep a6 (keep a6 (s6 _ _ bm));have p7:(upd (upd (upd H5 D (.lst M)) p (.ins C dx (putF "turns" (.ref D) fs))) p (.ins C dx (putF "rounds" (.ref qr) (putF "turns" (.ref D) fs)))) p=some (.ins C dx (putF "rounds" (.ref qr) (putF "turns" (.ref D) fs))):=ag;have D7:(upd (upd (upd H5 D (.lst M)) p (.ins C dx (putF "turns" (.ref D) fs))) p (.ins C dx (putF "rounds" (.ref qr) (putF "turns" (.ref D) fs)))) D=some (.lst M):=keep be (keep be ag);have u7:∀ q u,q≠p->H5 q=some u->(upd (upd (upd H5 D (.lst M)) p (.ins C dx (putF "turns" (.ref D) fs))) p (.ins C dx (putF "rounds" (.ref qr) (putF "turns" (.ref D) fs)))) q=some u:=λq u n z=>keep n (keep n (ak hD _ _ _ z));generalize upd (upd (upd H5 D (.lst M)) p (.ins C dx (putF "turns" (.ref D) fs))) p (.ins C dx (putF "rounds" (.ref qr) (putF "turns" (.ref D) fs)))=H7 at t7 bq p7 D7 u7;have a4:∀{q:Addr}{M:List V},H3 q=some (.lst M)->q≠p:=λ{q M} h z=>by rw[z,bd]at h;cases h
 have bW:bC H7 vs rs:=⟨a5.1,λi l z=>by
  obtain⟨r,a1,a2⟩:=a5.2 i l z
  exact⟨r,a1,t7 _ _ (a4 a2) a2⟩⟩
 have T7:dN K H7 xs es:=(hT.mono ae).keep bd t7;refine⟨_,rfl,_,rfl,qt,qr,xs,vs,es,_,rs,rfl,SqL.of (t7 _ _ (pl aA) (ae _ _ aA)),T7,∅,SqL.of (t7 _ _ (a4 aS) aS),bW,ro,λq5 z5 H8 s8 am bv=>?_⟩
 refine⟨_,rfl,p,C,dx,_,rfl,s8 _ _ p7,cw.cl,cw.n5,∅,?_⟩
 have bX:q5≠p:=λz=>by rw[z,s8 _ _ p7]at am;cases am
 have bB:=t7 _ _ (a4 aS) aS;refine kk _ q1 rs _ ag ⟨?_,⟨D,M,?_,λz=>z (bb (none_of s5 hD)),keep be (s8 _ _ D7),rz.1,λi l z=>?_⟩,⟨qr,vs,?_,keep (a4 aS) (s8 _ _ bB),a5.1,λi l z=>?_⟩,⟨q5,z5,?_,keep bX am,bv.1,λi d=>?_⟩,ro⟩ bp (by rw[aG,NB (by decide)];exact bU) (keep a6 (s8 _ _ bq)) λq o z n=>keep n (s8 _ _ (t7 q o n (ae _ _ z)))
 .rw[aG,NB (by decide),aG,NB (by decide),aG,NB (by decide)]
  exact bn
 .rw[aG,NB (by decide),aG,NB (by decide),aG,NA rfl]
 .obtain⟨r,a1,a0,a2⟩:=rz.2 i l z;have nr:r≠p:=λz=>by rw[z,s5 _ _ pa]at a2;cases a2
  exact⟨r,a1,a0,keep nr (s8 _ _ (u7 r _ nr a2))⟩
 .rw[aG,NB (by decide),aG,NA rfl]
 .obtain⟨r,a1,a2⟩:=a5.2 i l z;exact⟨r,a1,keep (a4 a2) (s8 _ _ (t7 _ _ (a4 a2) a2))⟩
 .rw[aG,NA rfl]
 .obtain⟨t,a,b,r,r',y1,y2,y3⟩:=bv.2 i d;exact⟨t,a,b,r,r',y1,keep (λz=>by rw[z,s8 _ _ p7]at y2;cases y2) y2,y3⟩
theorem j5.at{PS:Addr}{ks:Kn}(t:j5 PL PS H xs es ks)(o:ks.length=es.length)(u:CT K PL)(TS:CT K PS):dN K H xs es:=⟨t.1,λi e z=>by
 have d:=(Hg.mp z).1;obtain⟨k,C⟩:∃ k,ks[i]?=some k:=⟨_,Hf ∅⟩
 obtain⟨p,j,a,b⟩:=t.2 i e k z C;refine⟨p,_,j,k.2,a,b,?_⟩;unfold cls;split
 .exact TS
 .exact u⟩
def WebF(S:Addr->Prop)(PL PS k:Addr)(H:Hp)(p:Addr)(m:Nat)(es:En)(ts rs:List (List Nat))(ks:Kn):Prop:=∃ j fs C D,H p=some (.ins k j fs)/\WebG S H fs m es ts rs/\¬ S C/\fs.lookup ("ties" : Str)=some (.ref C)/\H C=some (.lst D)/\j5 PL PS H D es ks
inductive EG(PL PS WC:Addr)(vs:List L2.V)(H:L2.Hp)(Q:L2.VK)(x3_:L2.XK):Prop
 |mk (t pe pt pk:Addr)(m:Nat)(es:En)(ts:List (List Nat))(ks:Kn) (h0_:vs = [.ref t])(h1_:dE H t pe pt pk m es ts ks)(h2_:0<es.length)(h3_:∀(p:Addr)(rs:List (List Nat))(H':Hp),Same H H'->WebF (λa=>H a≠none) PL PS WC H' p m es ts rs ks->Q (.ref p) H')
theorem iS:ay ["built","ties","k","end"] ["built"] (ar nF):=by ac_nf
theorem FX{PS WC fW:Addr} (F:Fun K "_law_web" "_law_web" nF f fd) (T:Txt mg) (aS:Mak P w K mg base 1 "Pull" ["self","one","two","strength"] (oR K) PL I G) (aT:Mak P w K mg base 1 "Push" ["self","one","two","strength"] (oR K) PS I G) (TL:CT K PL) (TS:CT K PS)
  (aV:Mak P w K mg base 5 "Web" ["self","many","ties","turns"] (pK K) WC fW J) (cw:CW K WC):FnOk P w K mg base CX0 7 f fd ["built"] (EG PL PS WC):=by
 refine F.ok iS (by walk_at "l") λab A aa s H vs Q E d h=>?_
 obtain⟨t,pe,pt,pk,m,B,ts,ks,rfl,bp,a0,kk⟩:=h;obtain⟨ht,⟨⟨ys,am,hE⟩,⟨xs,an,hR⟩,g⟩,⟨ws,aL,tk⟩,ac,kl⟩:=bp;have aA:ys.length=B.length:=hE.1;have mf:=pf g;have a5:xs.length=m:=by rw[hR.1,g.w.len]
 refine⟨_,(ah (aB 1 iS.nd (bL aj))
   (ah (bw PassesOwn.never rfl (aO rfl T.n_range (af (az ax (by rfl) T.n_len aX (af (aM (pv 0) ai) aj)) aj)) (bY 2 iS.nd) (ah (aB 3 iS.nd (aR (aM (pv 0) ai) (pv 2)))
   (ao (bF (aD cq (aM (aR (aM (pv 0) ai) (pv 2)) ai) ai (aE _)) (ao (aU (dB HC HU HS aZ (pv 1) (af (uZ aT.mkc aT.ok (d.mono (by decide)) rfl aT.mg aT.bn .nil ji (af (aM (pv 3) ai) (af (aM (pv 3) ai) (af (aM (aR (aM (pv 0) ai) (pv 2)) ai) aj)))) aj)))) (ao (aU (dB HC HU HS aZ (pv 1) (af (uZ aS.mkc aS.ok (d.mono (by decide)) rfl aS.mg aS.bn .nil ji (af (aM (pv 3) ai) (af (aM (pv 3) ai) (af (aM (aR (aM (pv 0) ai) (pv 2)) ai) aj)))) aj))))))))
   (ao (aF (uZ aV.mkc aV.ok (d.mono (by decide)) rfl aV.mg aV.bn .nil ji (af (az ax (by rfl) T.n_len aX (af (aM (pv 0) ai) aj)) (af (pv 1) (af (cR [] ["row"] (aP (aM (pv 0) ai)) pg_c pt_c (λC ex s H=>(cz (pB (K:=K) rfl) (by rfl) T.n_list gQ (af (pv 0) aj)))) aj)))))))),?_⟩
 refine⟨(by show 0<=LZ;decide),λq hq=>?_⟩
 have s1:=ak hq (.lst []);refine⟨_,rfl,t,_,0,_,rfl,rfl,SqT.of (s1 _ _ ht),at30,pe,ys,rfl,.inl (SqL.of (s1 _ _ am)),_,rfl,∅,∅,bQ (n:=(ys.length:Int).toNat) (λi Y r=>∃ v2 v3 us,Y = [some (.ref t),some (.ref q),v2,v3]/\Same H r/\r q=some (.lst us)/\j5 PL PS r us (B.take i) ks) ⟨_,_,[],rfl,s1,ag,rfl,λi e k z=>by simp at z⟩ ?_ ?_⟩
 .rintro i Y r v ⟨v2,v3,us,rfl,s2,al,tt⟩;rw[Hn,aA]at v;have e0:(0:Int)+(i:Int)=(i:Int):=IF _;rw[e0];obtain⟨e,he⟩:∃ e,B[i]?=some e:=⟨_,Hf v⟩;obtain⟨k,hk⟩:∃ k,ks[i]?=some k:=⟨_,Hf ∅⟩
  obtain⟨_,_,ne⟩:=g.w.ends e (Hh he);obtain⟨p,x1,x2⟩:=(hE.mono s2).2 i e he;obtain⟨k1,k2,a6,y1,y2⟩:=(tk.mono s2).2 i k hk;have ul:us.length=i:=by rw[tt.1,HW];omega
  refine⟨_,rfl,t,_,0,_,rfl,rfl,SqT.of (s2 _ _ ht),at30,_,rfl,pe,ys,_,_,rfl,rfl,SqL.of (s2 _ _ am),aC x1,?_⟩;refine⟨_,rfl,t,_,2,_,rfl,rfl,SqT.of (s2 _ _ ht),at32,_,rfl,pk,ws,_,_,rfl,rfl,SqL.of (s2 _ _ aL),aC y1,a6,_,0,_,rfl,rfl,SqT.of y2,at0,rfl,_,rfl,?_⟩;have ae:∀(x dx:Addr)(H':Hp),Same r H'->H' x=some (.ins (cls PL PS (decide (k.1=1))) dx (tf (e.1:Int) (e.2:Int) k.2))->∃ v2 v3 zs,([some (.ref t),some (.ref q),some (.int (i:Int)),some (.ref p)]:St) = [some (.ref t),some (.ref q),v2,v3]/\Same H (upd H' q (.lst (us++[.ref x])))/\(upd H' q (.lst (us++[.ref x]))) q=some (.lst zs)/\j5 PL PS (upd H' q (.lst (us++[.ref x]))) zs (B.take (i+1)) ks:=λx dx H' s4 M=>by
   refine⟨_,_,_,rfl,aK (s2.trans s4) hq _,ag,by rw[Hk,ul,HW];simp;omega,λj e' k' hj a7=>?_⟩
   have ba:∀{b:Addr}{C dx:Addr}{fs:List (Str×V)},H' b=some (.ins C dx fs)->b≠q:=λz y=>by rw[y,s4 _ _ al]at z;cases z
   rw[Kx]at hj;by_cases z:j<i
   .rw[NA ∅]at hj
    obtain⟨p',ap,a1,a2⟩:=(tt.mono s4).2 j e' k' (by rw[Kx,NA z];exact hj) a7
    exact⟨p',ap,by rw[Ho ∅];exact a1,by rw[aq (ba a2)];exact a2⟩
   .by_cases z2:j=i
    .subst z2;rw[NA ∅,he]at hj
     cases hj
     rw[hk]at a7
     cases a7
     exact⟨x,dx,by rw[← ul,Hm (Hl _),HQ];rfl,by rw[aq (ba M)];exact M⟩
    .rw[NB ∅]at hj
     cases hj
  refine ite2 (λc=>?_) (λc=>?_)
  .have c':k.1=1:=V.int.inj (Np c)
   refine⟨_,rfl,.inl ⟨rfl,_,SqL.of al⟩,_,rfl,p,_,0,_,rfl,rfl,SqT.of x2,at0,_,rfl,p,_,1,_,rfl,rfl,SqT.of x2,at1,_,rfl,t,_,2,_,rfl,rfl,SqT.of (s2 _ _ ht),at32,_,rfl,pk,ws,_,_,rfl,rfl,SqL.of (s2 _ _ aL),aC y1,a6,_,1,_,rfl,rfl,SqT.of y2,at1,?_⟩;intro x dx nx a3 bb;refine⟨x,PS,dx,_,_,_,rfl,ag,TS,∅,∅,∅,k2,λH' M N=>?_⟩
   have s4:Same r H':=λb o z=>N b o (by rw[aq (aH z nx),aq (aH z a3)];exact z) (aH z nx)
   refine⟨rfl,q,us,_,rfl,rfl,s4 _ _ al,aw ∅,ae x dx H' s4 ?_⟩
   rw[MJ c'];exact M
  .have c':¬ k.1=1:=λz=>c (MJ (by rw[z]))
   refine⟨_,rfl,.inl ⟨rfl,_,SqL.of al⟩,_,rfl,p,_,0,_,rfl,rfl,SqT.of x2,at0,_,rfl,p,_,1,_,rfl,rfl,SqT.of x2,at1,_,rfl,t,_,2,_,rfl,rfl,SqT.of (s2 _ _ ht),at32,_,rfl,pk,ws,_,_,rfl,rfl,SqL.of (s2 _ _ aL),aC y1,a6,_,1,_,rfl,rfl,SqT.of y2,at1,?_⟩;intro x dx nx a3 bb;refine⟨x,PL,dx,_,_,_,rfl,ag,TL,∅,∅,∅,k2,λH' M N=>?_⟩
   have s4:Same r H':=λb o z=>N b o (by rw[aq (aH z nx),aq (aH z a3)];exact z) (aH z nx)
   refine⟨rfl,q,us,_,rfl,rfl,s4 _ _ al,aw ∅,ae x dx H' s4 ?_⟩
   rw[LY c'];exact M
 rintro Y r ⟨v2,v3,us,rfl,s2,al,tt⟩;rw[Hn,aA,HL]at tt;have a4:=s2 _ _ an;refine⟨_,rfl,t,_,1,_,rfl,rfl,SqT.of (s2 _ _ ht),at31,pt,xs,rfl,.inl (SqL.of a4),_,rfl,_,rfl,t,_,1,_,rfl,rfl,SqT.of (s2 _ _ ht),at31,pt,rfl,⟨_,SqL.of a4⟩,bg (K:=K) (xs:=xs) (λi zs H3=>Same r H3/\bC H3 zs (ts.take i)) (HJ (aw ∅)) ⟨λ_ _ e=>e,rfl,λi l e=>by simp at e⟩ (λi zs H3 _ z=>SqL.of (z.1 _ _ a4)) ?_ ?_⟩
 .rintro i x zs H3 O ⟨s3,rz⟩;have v:i<ts.length:=by rw[← hR.1];exact(Hg.mp O).1
  obtain⟨l,L⟩:∃ l,ts[i]?=some l:=⟨_,Hf v⟩;obtain⟨p,a1,a2⟩:=(hR.mono (s2.trans s3)).2 i l L;rw[O]at a1
  cases a1
  refine⟨_,rfl,p,_,rfl,.inl (SqL.of a2),λg hg=>?_⟩;have s4:=ak hg (.lst (l.map iV));refine⟨s3.trans s4,?_⟩;rw[show ts.take (i+1)=ts.take i++[l] by rw[HH,L];rfl]
  exact(rz.mono s4).snoc ag
 rintro zs H3 _ ⟨s3,rz⟩ D hD;rw[hR.1,HL]at rz;have s4:=ak hD (.lst zs);have aI:=s3.trans s4;intro x dx nx a3 bb;have up:∀ b o,(upd H3 D (.lst zs)) b=some o->(upd (upd (upd H3 D (.lst zs)) dx (.own x)) x (.ins WC dx [])) b=some o:=λb o z=>by rw[aq (aH z nx),aq (aH z a3)];exact z
 refine⟨x,WC,dx,q,D,m,us,zs,B,ts,(by rw[a5];rfl),ag,cw,up _ _ (aI _ _ al),((tt.at kl TL TS).mono aI).mono up,up _ _ ag,(rz.mono s4).mono up,g,a0,∅,λfs q1 rs H' M hg hn N h3 h4=>⟨rfl,?_⟩⟩
 have s5:Same r H':=λb o z=>h4 b o (up _ _ (aI _ _ z)) (aH (aI _ _ z) nx)
 have bd:∀ a,H a≠none->(upd (upd (upd H3 D (.lst zs)) dx (.own x)) x (.ins WC dx [])) a≠none:=λa z y=>z (by
  cases u:H a with
  |none=>rfl
  |some o=>rw[up _ _ (aI _ _ (s2 _ _ u))]at y;cases y)
 exact kk x rs H' (s2.trans s5) ⟨dx,fs,q1,us,M,hg.mono (λ_ _ z=>z) bd,λz=>bd _ z hn,N,h3,tt.mono s5⟩
open KF (andN orN shlN xorN)
theorem lx:Mb "sum" = some (.builtin "sum"):=by decide
theorem pe_or{e:Expr}{C t2:TE}(M:PE X e C)(h2:PE X e t2):PE X e (λσ H Q=>C σ H Q∨t2 σ H Q):=λB s σ H Q I h=>h.elim (M B s σ H Q I) (h2 B s σ H Q I)
def bit(l a:Int):Int:=l/2^a.toNat%2
theorem ur(x y:Int):Mu (Mw x y) 1=(x%2+y%2)%2:=by
 have e:Mu (Mw x y) 1=Mw x y%2:=PySem.W.kbt_mask _ 1;rw[e,PyProof.Rows.bitXor_and];omega
def unp(c:Bool)(a b l:Int):Bool:=!decide (V.int ((bit l a+bit l b)%2)=V.int (if c=true then 1 else 0))
inductive j7(push:Bool)(vs:List L2.V)(H:L2.Hp)(Q:L2.VK)(x3_:L2.XK):Prop
 |mk (p:_) (h0_:vs = [.ref p])(h1_:Q (.int (if push=true then 1 else 0)) H)
def TieAt(H:Hp)(p C:Addr)(a b s:Int):Prop:=∃ j,H p=some (.ins C j (tf a b s))
inductive rO(C:Addr)(push:Bool)(vs:List L2.V)(H:L2.Hp)(Q:L2.VK)(x3_:L2.XK):Prop
 |mk (p a b s l:_) (h0_:vs = [.ref p,.int l])(h1_:TieAt H p C a b s)(h2_:0<=a)(h3_:0<=b)(h4_:Q (.bl (unp push a b l)) H)
def U(es:En)(ks:Kn)(l:Int)(t:Nat):Bool:=match es[t]?,ks[t]? with | some e,some k=>unp (decide (k.1=1)) (e.1:Int) (e.2:Int) l | _,_=>false
theorem U_at{ks:Kn}{l:Int}{t:Nat}{k:Int×Int}(M:es[t]?=some e)(h2:ks[t]?=some k):U es ks l t=unp (decide (k.1=1)) (e.1:Int) (e.2:Int) l:=by unfold U;rw[M,h2]
def upL(u:Nat->Bool)(i:Nat):List Nat:=(IC i).filter u
theorem mJ(u:Nat->Bool)(i:Nat):upL u (i+1)=if u i=true then upL u i++[i] else upL u i:=by
 unfold upL;rw[Ka,JA];by_cases h:u i=true
 .rw[NA h];simp[h]
 .rw[NB h];simp[h]
def yF(ps:List Nat):Nat:=ps.foldl (λm p=>m|||2^p) 0
theorem o7(ps:List Nat)(p:Nat):yF (ps++[p])=yF ps|||2^p:=by unfold yF;rw[KJ];rfl
def MK(u:Nat->Bool):Nat->Nat
 |0=>0
 |i+1=>if u i=true then MK u i|||2^i else MK u i
theorem nQ(u:Nat->Bool):∀ i,yF (upL u i)=MK u i
 |0=>rfl
 |i+1=>by
  rw[mJ];show _=if u i=true then MK u i|||2^i else MK u i
  split
  .rw[o7,nQ u i]
  .exact nQ u i
theorem fP(u:Nat->Bool)(k:Nat):∀ i,(MK u i).testBit k=(decide (k<i)&&u k)
 |0=>by show La 0 k=_;simp
 |i+1=>by
  show(if u i=true then MK u i|||2^i else MK u i).testBit k=_
  have Y:=fP u k i;by_cases h:u i=true
  .rw[NA h,JJ,Y,Ib];by_cases z:i=k
   .subst z;simp[h]
   .by_cases Q:k<i
    .simp[Q,IU Q,z]
    .have:¬ k<i+1:=by omega
     simp[Q,z,this]
  .rw[NB h,Y];by_cases Q:k<i
   .simp[Q,IU Q]
   .by_cases z:i=k
    .subst z;simp[h]
    .have:¬ k<i+1:=by omega
     simp[Q,this]
def stg(ks:Kn)(t:Nat):Int:=match ks[t]? with | some k=>k.2 | none=>0
def prL(ks:Kn)(u:Nat->Bool)(i:Nat):List Int:=(IC i).map λt=>if u t=true then stg ks t else 0
theorem qo(ks:Kn)(u:Nat->Bool)(i:Nat):prL ks u (i+1)=prL ks u i++[if u i=true then stg ks i else 0]:=by
 unfold prL;rw[Ka,Hv];rfl
def lR(K:Hj):Sp:=λl H Q _=>∃(a:Addr)(G:List Nat),l = [.ref a]/\SqL K H a (G.map iV)/\(∀ p∈G,p<80)/\Q (.int ((yF G:Nat):Int)) H
structure WebAt(PL PS WC:Addr)(H:Hp)(p:Addr)(es:En)(ks:Kn):Prop where
 w:∃ dx fs q1 xs,H p=some (.ins WC dx fs)/\fs.lookup ("ties" : Str)=some (.ref q1)/\H q1=some (.lst xs)/\j5 PL PS H xs es ks
 kl:ks.length=es.length
 few:es.length<=30
inductive EC(PL PS WC:Addr)(vs:List L2.V)(H:L2.Hp)(Q:L2.VK)(x3_:L2.XK):Prop
 |mk (p:Addr)(es:En)(ks:Kn)(l:Int) (h0_:vs = [.ref p,.int l])(h1_:WebAt PL PS WC H p es ks)(h2_:∀ H',Same H H'->Q (.int ((MK (U es ks l) es.length:Nat):Int)) H')
theorem Ring.clos{f:Nat->Nat}{x:Nat}{r:List Nat}(h:Ring f N r)(O:x∈r):f x∈r:=by
 obtain⟨i,d,e⟩:=IK O;exact Hh (h.nx i x (by rw[Hf d,e]))
theorem Ring.sub{f:Nat->Nat}{d:Nat}{r:List Nat}(h:Ring f N r)(h':Ring f N r')(M:d∈r)(h2:d∈r'):∀ x∈r,x∈r':=by
 obtain⟨i,o,e⟩:=IK M;have go:∀ j,r[(i+j)%r.length]?=some (r[(i+j)%r.length]'(JX _ h.ne))/\r[(i+j)%r.length]'(JX _ h.ne)∈r':=λj=>by
  induction j with
  |zero =>
   refine⟨Hf _,?_⟩;have:(i+0)%r.length=i:=by rw[Nat.add_zero];exact I9 o
   have E:r[(i+0)%r.length]'(JX _ h.ne)=d:=by
    rw[← e];exact getElem_congr_idx this
   rw[E];exact h2
  |succ j Y =>
   refine⟨Hf _,?_⟩;have z:=h.nx _ _ Y.1;have em:((i+j)%r.length+1)%r.length=(i+(j+1))%r.length:=by rw[Nat.mod_add_mod];rfl
   rw[em,Hf (JX _ h.ne)]at z;rw[HM z];exact h'.clos Y.2
 intro x O;obtain⟨k,C,B⟩:=IK O;have g:=(go (k+r.length-i)).2;have:(i+(k+r.length-i))%r.length=k:=by
  rw[show i+(k+r.length-i)=k+r.length by omega,Nat.add_mod_right]
  exact I9 C
 have E:r[(i+(k+r.length-i))%r.length]'(JX _ h.ne)=x:=by
  rw[← B];exact getElem_congr_idx this
 rw[E]at g;exact g
theorem bx.at{f:Nat->Nat}{d:Nat}(w:bx f N N rs)(h:d<N):∃(a:Nat)(r:List Nat),rs[a]?=some r/\d∈r:=by
 obtain⟨r,M,J⟩:=Ij.mp (w.all d h);obtain⟨a,A,e⟩:=IK M;exact⟨a,r,by rw[Hf A,e],J⟩
theorem bx.no_less{f:Nat->Nat}{i:List (List Nat)}(w:bx f N N rs)(w':bx f N N i):∀(a:Nat)(b d:Nat)(r r':List Nat),rs[a]?=some r->i[b]?=some r'->d∈r->d∈r'->a<=b:=by
 intro a;induction a using LA with
 |_ a Y =>
  intro b d r r' A L M J;have s:=Hh A;have I:=Hh L;have R:=w.ring r s;have k:=w'.ring r' I;have g:0<r.length:=R.ne;have u:0<r'.length:=k.ne;have H:r[0]?=some r[0]:=Hf R.ne;have m:r'[0]?=some r'[0]:=Hf k.ne;have C:=(w.hdl r s _ H).2 _ (k.sub R J M _ (IT k.ne));have n:=(w'.hdl r' I _ m).2 _ (R.sub k M J _ (IT R.ne))
  cases a with
  |zero=>exact Ia _
  |succ a =>
   have q:a<rs.length:=by have:=(Hg.mp A).1;omega
   have B:rs[a]?=some rs[a]:=Hf q;generalize rs[a]=p at B;have O:=Hh B;have P:=w.ring p O;have j:0<p.length:=P.ne;have t:p[0]?=some p[0]:=Hf P.ne;have lt:=w.asc a (a+1) p r _ _ (Ik _) B A t H;obtain⟨c,h,y,e⟩:=w'.at (P.lt _ (IT P.ne));have l:=Y a (Ik _) c p[0] p h B y (IT P.ne) e;have PC:=w'.ring h (Hh y);have v:0<h.length:=PC.ne;have o:h[0]?=some h[0]:=Hf PC.ne;have G:=(w'.hdl h (Hh y) _ o).2 _ e;by_cases z:c<b
   .omega
   .exfalso;by_cases Q:c=b
    .subst Q;rw[L]at y
     cases y
     omega
    .have:=w'.asc b c r' h _ _ ∅ L y m o
     omega
theorem bx.same{f:Nat->Nat}{a b d:Nat}{i:List (List Nat)}{r:List Nat}(w:bx f N N rs)(w':bx f N N i)(A:rs[a]?=some r)(L:i[b]?=some r')(M:d∈r)(h2:d∈r'):a=b :=
 Nat.le_antisymm (w.no_less w' a b d r r' A L M h2) (w'.no_less w b a d r' r L A h2 M)
def sm(l:List Nat)(g:Nat->Nat):Nat:=(l.map g).sum
theorem Ai(x:Nat)(l:List Nat)(g:Nat->Nat):sm (x::l) g=g x+sm l g:=by unfold sm;rw[HR,Ja]
def WebT(PL PS k:Addr)(H:Hp)(p:Addr)(m:Nat)(es:En)(ts:List (List Nat))(ks:Kn):Prop:=∃ j fs C D J l,H p=some (.ins k j fs)/\fs.lookup ("many" : Str)=some (.int (m:Int))/\fs.lookup ("ties" : Str)=some (.ref C)/\H C=some (.lst D)/\j5 PL PS H D es ks/\fs.lookup ("turns" : Str)=some (.ref J)/\H J=some (.lst l)/\bC H l ts
theorem WebF.t{S:Addr->Prop}{PS:Addr}{ks:Kn}(h:WebF S PL PS f H p m es ts rs ks):WebT PL PS f H p m es ts ks:=by
 obtain⟨j,fs,C,D,a,b,_,c,d,e⟩:=h;obtain⟨J,l,b1,_,b2,b3⟩:=b.turns;exact⟨j,fs,C,D,J,l,a,b.many,c,d,e,b1,b2,b3.off⟩
inductive uA(vs:List L2.V)(H:L2.Hp)(Q:L2.VK)(x3_:L2.XK):Prop
 |mk (c:Int)(m:Nat) (h0_:vs = [.int c,.int (m:Int)])(h1_:m<=40)(h2_:∀ N:Nat,N<2^m->Q (.int (N:Int)) H)
theorem uK:ay ["self"] ["self"] (ar dY):=by ac_nf
theorem De (F:Fun K "wish" "Tie.wish" dY f fd):FnOk P w K mg base CX0 1 f fd ["self"] (j7 false):=by
 refine F.ok uK (by walk_at "l") λY A g s H l Q E u h=>?_
 obtain⟨p,rfl,k⟩:=h;exact⟨_,(ao (aF ai)),k⟩
theorem r8:ay ["self"] ["self"] (ar dj):=by ac_nf
theorem Dd (F:Fun K "wish" "Push.wish" dj f fd):FnOk P w K mg base CX0 1 f fd ["self"] (j7 true):=by
 refine F.ok r8 (by walk_at "l") λY A g s H l Q E u h=>?_
 obtain⟨p,rfl,k⟩:=h;exact⟨_,(ao (aF ai)),k⟩
theorem nC:ay ["cell","many","mixed"] ["cell","many"] (ar lG):=by ac_nf
theorem Dn (F:Fun K "_law_mask" "_law_mask" lG f fd):FnOk P w K mg base CX0 1 f fd ["cell","many"] uA:=by
 refine F.ok nC (by walk_at "l") λY A g s H l Q E u h=>?_
 obtain⟨c,m,rfl,a,k⟩:=h;have B:(0:Int)<1*2^((m:Nat):Int).toNat:=by
  rw[shlN];have:=IG m;omega
 refine⟨_,(ah (aB 2 nC.nd (av b9 (av aY (pv 0) (av xT ai ai)) ai))
   (ao (aF (av aY (av b8 (pv 2) (av cV (pv 2) ai)) (av bJ ai (pv 1)))))),?_⟩
 refine⟨_,rfl,_,_,rfl,rfl,⟨by decide,by decide,by decide⟩,_,_,rfl,rfl,(by show(0:Int)<10^(24:Int).toNat;decide),_,_,rfl,rfl,.inr ⟨by decide,by decide⟩,?_⟩
 refine⟨_,rfl,_,rfl,_,_,rfl,rfl,(by show(0:Int)<=17;decide),_,_,rfl,rfl,_,rfl,_,_,rfl,rfl,⟨∅,∅,by decide⟩,_,_,rfl,rfl,B,?_⟩
 have x:=Jt (Mw (c%10^(24:Int).toNat*2654435761) (c%10^(24:Int).toNat*2654435761/2^(17:Int).toNat)) (Int.ne_of_gt B);have q:=k (Mw (c%10^(24:Int).toNat*2654435761) (c%10^(24:Int).toNat*2654435761/2^(17:Int).toNat)%(1*2^((m:Nat):Int).toNat)).toNat;rw[Jn x]at q;refine q ?_;have M:=Jk (Mw (c%10^(24:Int).toNat*2654435761) (c%10^(24:Int).toNat*2654435761/2^(17:Int).toNat)) B;rw[shlN]at x M ⊢;omega
def bt(M t:Nat):Nat:=M/2^t%2
theorem Cn(M t:Nat):bt M t=if M.testBit t=true then 1 else 0:=by
 unfold bt;rw[Kd];by_cases z:M/2^t%2=1
 .rw[z,MJ rfl,NA rfl]
 .rw[LY z,NB HG];omega
theorem yk(M t:Nat):Mu ((M:Int)/2^((t:Nat):Int).toNat) 1=((bt M t:Nat):Int):=by
 have e:Mu ((M:Int)/2^((t:Nat):Int).toNat) 1=((M:Int)/2^((t:Nat):Int).toNat)%2:=PySem.W.kbt_mask _ 1;rw[e,Hn];unfold bt;rw[Int.natCast_emod,Int.natCast_ediv,Int.natCast_pow];rfl
def parR(M:Nat)(r:List Nat):Nat:=sm r (λd=>bt M (d/2))%2
theorem CM(l:List Nat)(g:Nat->Nat):(l.map λd=>((g d:Nat):Int)).sum=((sm l g:Nat):Int):=by
 induction l with
 |nil=>rfl
 |cons x l Y=>rw[HR,Ja,Y,Ai];omega
def bc(ks:Kn)(t:Nat):Bool:=match ks[t]? with | some k=>decide (k.1=1) | none=>false
theorem qm{ks:Kn}{t:Nat}{k:Int×Int}(h:ks[t]?=some k):bc ks t=decide (k.1=1):=by unfold bc;rw[h]
def oddU(M:Nat)(rs:List (List Nat))(k:Nat):Bool:=decide (parR M (rs.getD k [])=1)
theorem DP{k:Nat}{r:List Nat}(h:rs[k]?=some r):rs.getD k []=r:=by rw[Hz,h];rfl
def WebR(PL PS k:Addr)(H:Hp)(p:Addr)(es:En)(ks:Kn)(rs:List (List Nat)):Prop:=∃ j fs C D u i,H p=some (.ins k j fs)/\fs.lookup ("ties" : Str)=some (.ref C)/\H C=some (.lst D)/\j5 PL PS H D es ks/\fs.lookup ("rounds" : Str)=some (.ref u)/\H u=some (.lst i)/\bC H i rs
theorem WebR.mono{PL PS k:Addr}{H H':Hp}{p:Addr}{es:En}{ks:Kn}{rs:List (List Nat)}(h:WebR PL PS k H p es ks rs)(s:Same H H'):WebR PL PS k H' p es ks rs:=by
 obtain⟨j,fs,C,D,u,i,a,b,c,d,e,f,g⟩:=h;exact⟨j,fs,C,D,u,i,s _ _ a,b,s _ _ c,d.mono s,e,s _ _ f,g.mono s⟩
inductive zZ(PL PS WC:Addr)(vs:List L2.V)(H:L2.Hp)(Q:L2.VK)(x3_:L2.XK):Prop
 |mk (p:Addr)(es:En)(ks:Kn)(rs:List (List Nat)) (h0_:vs = [.ref p])(h1_:WebR PL PS WC H p es ks rs)(h2_:ks.length=es.length)(h3_:es.length<=30)(h4_:∀ H',Same H H'->Q (.int ((MK (bc ks) es.length:Nat):Int)) H')
inductive pL(PL PS WC:Addr)(vs:List L2.V)(H:L2.Hp)(Q:L2.VK)(x3_:L2.XK):Prop
 |mk (p:Addr)(M k:Nat)(es:En)(ks:Kn)(rs:List (List Nat))(r:List Nat) (h0_:vs = [.ref p,.int (M:Int),.int (k:Int)])(h1_:WebR PL PS WC H p es ks rs)(h2_:rs[k]?=some r)(h3_:r.length<=900)(h4_:∀ H',Same H H'->Q (.int ((parR M r:Nat):Int)) H')
inductive z8(PL PS WC:Addr)(vs:List L2.V)(H:L2.Hp)(Q:L2.VK)(x3_:L2.XK):Prop
 |mk (p:Addr)(es:En)(ks:Kn)(rs:List (List Nat)) (h0_:vs = [.ref p])(h1_:WebR PL PS WC H p es ks rs)(h2_:ks.length=es.length)(h3_:es.length<=30)(h4_:rs.length<=70)(h5_:(∀ r∈rs,r.length<=900))(h6_:∀ H',Same H H'->Q (.int ((MK (oddU (MK (bc ks) es.length) rs) rs.length:Nat):Int)) H')
theorem WebF.r{S:Addr->Prop}{PS:Addr}{ks:Kn}(h:WebF S PL PS f H p m es ts rs ks):WebR PL PS f H p es ks rs:=by
 obtain⟨j,fs,C,D,a,g,_,b,c,d⟩:=h;obtain⟨u,i,e,o,k⟩:=g.rounds;exact⟨j,fs,C,D,u,i,a,b,c,d,e,o,k⟩
theorem Am:ay ["web"] ["web"] (ar pX):=by ac_nf
theorem FV{PS f1:Addr}{d1:FuncData} (F:Fun K "pushes" "pushes" pX f fd) (T:Txt mg) (cw:CW K q) (TL:CT K PL) (TS:CT K PS) (ab:Cal P w K mg base 1 "mask_of" ["places"] (lR K) a G) (u0:Met P w K mg base 1 PL "wish" ["self"] (j7 false) I J) (u1:Met P w K mg base 1 PS "wish" ["self"] (j7 true) f1 d1) :
  FnOk P w K mg base CX0 2 f fd ["web"] (zZ PL PS q):=by
 refine F.ok Am (by walk_at "l") λY A g s H l Q E u h=>?_
 obtain⟨p,B,ks,rs,rfl,⟨dx,fs,r,xs,q5,z5,v,ap,ae,tk,_⟩,kl,aa,kk⟩:=h;have aA:=TL.cl;have aI:=TS.cl;have am:xs.length=B.length:=tk.1;refine⟨_,(ao (aF (ab.c u (af (cR [] ["number","tie"] (gm rfl T.n_enumerate (af (bM (pv 0) rfl) aj)) (λC ex s H=>(dH (n:=2) (K:=K) rfl rfl (aJ (a8 (i:=0) (show(["number","tie"]:List Str).Nodup from by decide) rfl (Or.inl rfl)) (aJ (a8 (i:=1) (show(["number","tie"]:List Str).Nodup from by decide) rfl (Or.inl rfl)) bT)))) (λC ex s H=>(ij (aD cq (pe_or (kD (pv 1) aA u0.me u0.ok (u.mono (by decide)) u0.bn .nil ji) (kD (pv 1) aI u1.me u1.ok (u.mono (by decide)) u1.bn .nil ji)) ai (aE _)))) (λC ex s H=>(pv 0))) aj)))),?_⟩
 refine⟨_,rfl,p,q,dx,fs,_,rfl,v,cw.cl,cw.n2,ap,r,rfl,⟨_,SqL.of ae⟩,fO (K:=K) (xs:=xs) (λi M N=>Same H N/\M=(upL (bc ks) i).map iV) (HJ (aw ∅)) ⟨λ_ _ e=>e,rfl⟩ (λi M N _ z=>SqL.of (z.1 _ _ ae)) ?_ ?_ ?_⟩
 .rintro i x M N T2 O ⟨m,rfl⟩ ac;have d:i<B.length:=by rw[← tk.1];exact(Hg.mp O).1
  obtain⟨e,t⟩:∃ e,B[i]?=some e:=⟨_,Hf d⟩;obtain⟨k,j⟩:∃ k,ks[i]?=some k:=⟨_,Hf ∅⟩
  have o:=m.trans (ak ac (.tup [.int (i:Int),x]));obtain⟨p',al,x1,x2⟩:=(tk.mono o).2 i e k t j;rw[O]at x1
  cases x1
  refine⟨T2,_,rfl,SqT.of ag,rfl,_,_,rfl,_,_,rfl,rfl,rfl,?_⟩;have hU:=qm j;have an:∀ b:Bool,b=bc ks i->(if b=true then tVar 0 ([some (.int (i:Int)),some (.ref p')]:St) (upd N T2 (.tup [.int (i:Int),.ref p'])) (λy H4=>Same H H4/\(upL (bc ks) i).map iV++[y]=(upL (bc ks) (i+1)).map iV) else Same H (upd N T2 (.tup [.int (i:Int),.ref p']))/\(upL (bc ks) i).map iV=(upL (bc ks) (i+1)).map iV):=λb L=>by
   rw[mJ,← L]
   cases b with
   |true =>
    refine iteT ⟨_,rfl,o,?_⟩;rw[NA rfl,Hv];rfl
   |false =>
    refine iteF ⟨o,?_⟩;rw[NB (by decide)]
  by_cases c:k.1=1
  .rw[MJ c]at x2 hU;refine .inr ⟨_,rfl,p',al,_,rfl,x2,pH _ _ _ (by decide) (by decide) (by decide),p',rfl,rfl,_,rfl,?_⟩
   exact an _ hU.symm
  .rw[LY c]at x2 hU;refine .inl ⟨_,rfl,p',al,_,rfl,x2,pH _ _ _ (by decide) (by decide) (by decide),p',rfl,rfl,_,rfl,?_⟩
   exact an _ hU.symm
 .rintro M N ⟨m,rfl⟩ D hD;rw[am];refine⟨D,upL (bc ks) B.length,rfl,SqL.of ag,λp v=>?_,?_⟩
  .have:=Je.mp (Jv.mp v).1;omega
  .rw[nQ];exact kk _ (m.trans (ak hD _))
 .rintro i M N ⟨_,rfl⟩;rw[Hi];exact Io (Jc _ _) (by rw[Jb];exact Hl _)
theorem An:ay ["web","ties","number"] ["web","ties","number"] (ar pY):=by ac_nf
theorem Dm{PS:Addr} (F:Fun K "odd_at" "odd_at" pY f fd) (T:Txt mg) (cw:CW K a):FnOk P w K mg base CX0 1 f fd ["web","ties","number"] (pL PL PS a):=by
 refine F.ok An (by walk_at "l") λY A g s H l Q E u h=>?_
 obtain⟨p,M,k,B,J,b,r,rfl,⟨t,fs,y,xs,q5,z5,v,_,_,_,l5,aa,hR⟩,j,I,G⟩:=h;obtain⟨pr,c,q⟩:=hR.2 k r j;refine⟨_,(ao (aF (av aY (az (fx rfl) (by rfl) T.n_sum lx (af (cR [("ties",1)] ["dart"] (aP (aR (bM (pv 0) rfl) (pv 2))) pg_c pt_c (λC o s H=>(av eF (av cV (pv 1) (av bj (pv 0) ai)) ai))) aj)) ai))),?_⟩
 refine⟨_,rfl,p,a,t,fs,_,rfl,v,cw.cl,cw.n4,l5,_,rfl,q5,z5,_,_,rfl,rfl,SqL.of aa,aC c,pr,rfl,⟨_,SqL.of q⟩,bg (K:=K) (xs:=r.map iV) (λi L N=>Same H N/\L=((r.take i).map λd=>((bt M (d/2):Nat):Int)).map V.int) (HJ (aw (by rw[Hi];omega))) ⟨λ_ _ e=>e,rfl⟩ (λi L N _ z=>SqL.of (z.1 _ _ q)) ?_ ?_⟩
 .rintro i x L N O ⟨m,rfl⟩;rw[Hr]at O;obtain⟨d,n,rfl⟩:=HF.mp O;have ed:(d:Int)/2=((d/2:Nat):Int):=by omega
  refine⟨_,rfl,_,rfl,_,_,rfl,rfl,⟨by decide,by decide⟩,_,_,rfl,rfl,(show(0:Int)<=(d:Int)/2 by omega),_,_,rfl,rfl,m,?_⟩
  rw[HH,n,Hv,Hv];show _++[V.int (Mu ((M:Int)/2^((d:Int)/2).toNat) 1)]=_++[V.int ((bt M (d/2):Nat):Int)];rw[ed,yk]
 rintro L N _ ⟨m,rfl⟩ D hD;rw[Hi,HL];refine⟨D,_,rfl,SqL.of ag,_,_,rfl,rfl,(by show(0:Int)<2;decide),?_⟩
 have e:(r.map λd=>((bt M (d/2):Nat):Int)).sum%2=((parR M r:Nat):Int):=by
  rw[CM r λd=>bt M (d/2)];unfold parR;omega
 show Q (V.int ((r.map λd=>((bt M (d/2):Nat):Int)).sum%2)) _;rw[e];exact G _ (m.trans (ak hD _))
theorem kc:ay ["web","pushing"] ["web"] (ar h9):=by ac_nf
theorem FW{fp PS:Addr}{aI:FuncData} (F:Fun K "odd_rounds" "odd_rounds" h9 f fd) (T:Txt mg) (cw:CW K I) (ab:Cal P w K mg base 1 "mask_of" ["places"] (lR K) a G) (an:Cal P w K mg base 2 "pushes" ["web"] (zZ PL PS I) fp J) (al:Cal P w K mg base 1 "odd_at" ["web","ties","number"] (pL PL PS I) q aI) :
  FnOk P w K mg base CX0 3 f fd ["web"] (z8 PL PS I):=by
 refine F.ok kc (by walk_at "l") λY A g s H l Q E u h=>?_
 obtain⟨p,B,ks,b,rfl,wb,kl,aa,aL,ap,k⟩:=h
 refine⟨_,(ah (aB 1 kc.nd (an.c u (af (pv 0) aj)))
   (ao (aF (ab.c u (af (cR [("web",0),("pushing",1)] ["number"] (aO rfl T.n_range (af (az ax (by rfl) T.n_len aX (af (bM (pv 0) rfl) aj)) aj)) pg_c (λC ex s H=>(ij (aD cq (al.c u (af (pv 1) (af (pv 2) (af (pv 0) aj)))) ai (aE _)))) (λC ex s H=>(pv 0))) aj))))),?_⟩
 refine⟨_,rfl,p,B,ks,b,rfl,wb,kl,aa,λO j=>?_⟩;have aA:=wb.mono j;obtain⟨t,fs,y,x,q5,z5,v,_,_,_,l5,ae,hR⟩:=id aA;have am:z5.length=b.length:=hR.1;generalize hM:MK (bc ks) B.length=M;rw[hM]at k;refine⟨_,rfl,p,I,t,fs,_,rfl,v,cw.cl,cw.n4,l5,q5,z5,rfl,.inl (SqL.of ae),_,rfl,∅,∅,jZ (λi L N=>Same O N/\L=(upL (oddU M b) i).map iV) (HJ (aw ∅)) ⟨λ_ _ e=>e,rfl⟩ ?_ ?_ ?_⟩
 .rintro i L N d ⟨m,rfl⟩;have e0:(0:Int)+(i:Int)=(i:Int):=IF _;rw[e0];obtain⟨r,ac⟩:∃ r,b[i]?=some r:=⟨_,Hf ∅⟩
  refine⟨rfl,_,rfl,_,rfl,_,rfl,p,M,i,B,ks,b,r,rfl,aA.mono m,ac,ap r (Hh ac),λH3 o=>⟨rfl,_,rfl,?_⟩⟩;have hu:oddU M b i=decide (parR M r=1):=by unfold oddU;rw[DP ac]
  rw[mJ,hu];refine ite2 (λc=>?_) (λc=>?_)
  .have n:parR M r=1:=by have:=V.int.inj (Np c);omega
   refine⟨_,rfl,m.trans o,?_⟩;rw[NA (MJ n),Hv];rfl
  .have n:¬ parR M r=1:=λz=>c (MJ (congrArg V.int ∅))
   refine⟨m.trans o,?_⟩;rw[NB (by simpa using n)]
 .rintro L N ⟨m,rfl⟩ D hD;rw[Hn,am];refine⟨D,upL (oddU M b) b.length,rfl,SqL.of ag,λp v=>?_,?_⟩
  .have:=Je.mp (Jv.mp v).1;omega
  .rw[nQ];exact k _ (j.trans (m.trans (ak hD _)))
 .rintro i L N ⟨_,rfl⟩;rw[Hi];exact Io (Jc _ _) (by rw[Jb];exact Hl _)
structure TxtZ(mg:Str->Option Value):Prop extends Txt mg where
 n_zip:mg "zip" = none
def WebS(PL PS k:Addr)(H:Hp)(p:Addr)(es:En)(ks:Kn)(rs:List (List Nat)):Prop:=∃ j fs C D u i,H p=some (.ins k j fs)/\fs.lookup ("ties" : Str)=some (.ref C)/\H C=some (.lst D)/\j5 PL PS H D es ks/\fs.lookup ("sides" : Str)=some (.ref u)/\H u=some (.lst i)/\gR H i es.length rs
def zF(H:Hp)(zs:List V)(n:Nat)(ks:Kn)(rs:List (List Nat)):Prop:=zs.length=n/\∀ i,i<n->∃ k t a b r D,ks[i]?=some k/\zs[i]?=some (.ref t)/\H t=some (.tup [iV a,iV b,.int k.2])/\rs[a]?=some r/\2*i∈r/\rs[b]?=some D/\2*i+1∈D
theorem zF.mono{ks:Kn}(h:zF H zs n ks rs)(s:Same H H'):zF H' zs n ks rs:=⟨h.1,λi d=>by
 obtain⟨k,t,a,b,r,D,c,u,N,A⟩:=h.2 i d
 exact⟨k,t,a,b,r,D,c,u,s _ _ N,A⟩⟩
inductive uB(PL PS WC:Addr)(vs:List L2.V)(H:L2.Hp)(Q:L2.VK)(x3_:L2.XK):Prop
 |mk (p:Addr)(es:En)(ks:Kn)(rs:List (List Nat)) (h0_:vs = [.ref p])(h1_:WebS PL PS WC H p es ks rs)(h2_:ks.length=es.length)(h3_:es.length<=62)(h4_:∀ q zs H',Same H H'->H q=none->H' q=some (.lst zs)->zF H' zs es.length ks rs->Q (.ref q) H')
theorem uG:ay ["web"] ["web"] (ar lF):=by ac_nf
theorem Dq{PS:Addr} (F:Fun K "links_of" "links_of" lF f fd) (T:TxtZ mg) (cw:CW K q) (TL:CT K PL) (TS:CT K PS):FnOk P w K mg base CX0 1 f fd ["web"] (uB PL PS q):=by
 refine F.ok uG (by walk_at "l") λI A g s H Y Q E u h=>?_
 obtain⟨p,B,ks,rs,rfl,⟨dx,fs,y,xs,q5,z5,v,l1,ac,tk,l5,ae,G⟩,kl,aa,kk⟩:=h;have an:xs.length=B.length:=tk.1;have ap:z5.length=B.length:=G.1;have ct:∀ b,CT K (cls PL PS b):=λb=>by
  unfold cls;split
  .exact TS
  .exact TL
 refine⟨_,(ao (aF (cR [] ["sides","tie"] (Az rfl T.n_zip (af (bM (pv 0) rfl) (af (bM (pv 0) rfl) aj))) (λC ex s H=>(dH (n:=2) (K:=K) rfl rfl (aJ (a8 (i:=0) (show(["sides","tie"]:List Str).Nodup from by decide) rfl (Or.inl rfl)) (aJ (a8 (i:=1) (show(["sides","tie"]:List Str).Nodup from by decide) rfl (Or.inl rfl)) bT)))) pt_c (λC ex s H=>(bh (af (gZ K (pv 0) ai) (af (gZ K (pv 0) ai) (af (u9 (K:=K) rfl (pv 1) rfl) aj)))))))),?_⟩
 refine⟨_,rfl,p,q,dx,fs,_,rfl,v,cw.cl,cw.n5,l5,_,rfl,p,q,dx,fs,_,rfl,v,cw.cl,cw.n2,l1,q5,y,rfl,⟨_,SqL.of ae⟩,⟨_,SqL.of ac⟩,tW (K:=K) (xs:=z5) (zs:=xs) (λi M N=>Same H N/\zF N M i ks rs) (HJ (aw ∅)) ∅ ⟨λ_ _ e=>e,rfl,λi d=>by omega⟩ (λi M N _ z=>⟨SqL.of (z.1 _ _ ae),SqL.of (z.1 _ _ ac)⟩) ?_ ?_ ?_⟩
 .rintro i x z M N T2 O hz ⟨m,hY⟩ ab;have d:i<B.length:=by rw[← ap];exact(Hg.mp O).1
  obtain⟨e,l⟩:∃ e,B[i]?=some e:=⟨_,Hf d⟩;obtain⟨k,L⟩:∃ k,ks[i]?=some k:=⟨_,Hf ∅⟩
  obtain⟨t,a,b,r,r',y1,y2,y3,y4,y5,y6⟩:=G.2 i d;rw[O]at y1
  cases y1
  obtain⟨p',al,x1,x2⟩:=tk.2 i e k l L;rw[hz]at x1
  cases x1
  have J:=m.trans (ak ab (.tup [.ref t,.ref p']));refine⟨T2,_,rfl,SqT.of ag,rfl,_,_,rfl,_,_,rfl,rfl,rfl,yesT ?_⟩;refine⟨_,rfl,t,_,0,_,rfl,rfl,SqT.of (J _ _ y2),at0,_,rfl,t,_,1,_,rfl,rfl,SqT.of (J _ _ y2),at1,_,rfl,p',_,al,_,_,rfl,J _ _ x2,(ct _).cl,(ct _).n3,tf_str _ _ _,(by show 3<=LZ;decide),λt4 aA=>?_⟩
  have s4:=ak aA (.tup [iV a,iV b,.int k.2]);have am:=(ak ab (.tup [.ref t,.ref p'])).trans s4;have aI:=hY.mono am;refine⟨m.trans am,by rw[Hk,hY.1];rfl,λj hj=>?_⟩
  by_cases c:j<i
  .obtain⟨k',t',a',b',w1,w2,v0,v1,v2⟩:=aI.2 j c;exact⟨k',t',a',b',w1,w2,v0,by rw[Ho (by rw[hY.1];exact c)];exact v1,v2⟩
  .have:j=i:=by omega
   subst this;exact⟨k,t4,a,b,r,r',L,by rw[← hY.1,Hm (Hl _),HQ];rfl,ag,y3,y4,y5,y6⟩
 .rintro M N ⟨m,hY⟩ D hD;rw[ap]at hY;have aL:H D=none:=by
   cases z:H D with
   |none=>rfl
   |some o=>rw[m _ _ z]at hD;cases hD
  exact kk D M _ (m.trans (ak hD _)) aL ag (hY.mono (ak hD _))
 .rintro i M N ⟨_,hY⟩;rw[hY.1];exact Hl _
open KF (qx)
theorem ve(S T:Nat->Bool):∀ l:List Nat,par (λt=>S t ^^ T t) l=(par S l ^^ par T l)
 |[]=>rfl
 |d::l=>by
  rw[bV,bV,bV,ve S T l]
  cases S (d/2)<;>cases T (d/2)<;>cases par S l<;>cases par T l<;>rfl
theorem fK{S T:Nat->Bool}:∀{l:List Nat},(∀ d∈l,S (d/2)=T (d/2))->par S l=par T l
 |[],_=>rfl
 |d::l,h=>by rw[bV,bV,h d (Hu ..),fK λx O=>h x (Hq _ O)]
theorem xS:∀ l:List Nat,par (λ_=>false) l=false
 |[]=>rfl
 |d::l=>by rw[bV,xS l];rfl
theorem AE(i:Nat):∀{l:List Nat},l.Nodup->par (λt=>decide (t=i)) l=(decide (2*i∈l) ^^ decide (2*i+1∈l))
 |[],_=>rfl
 |d::l,Q=>by
  obtain⟨E,C⟩:=Hy.mp Q;rw[bV,AE i C];by_cases c0:d=2*i
  .subst c0;rw[MJ (show 2*i/2=i by omega),LY E,MJ (Hu ..)]
   have:decide (2*i+1∈2*i::l)=decide (2*i+1∈l):=decide_eq_decide.mpr ⟨λz=>(Hs.mp z).elim (λy=>by omega) id,Hq _⟩
   rw[this]
   cases decide (2*i+1∈l)<;>rfl
  .have a:decide (2*i∈d::l)=decide (2*i∈l):=decide_eq_decide.mpr ⟨λz=>(Hs.mp z).elim (λy=>NC y.symm c0) id,Hq _⟩
   by_cases c1:d=2*i+1
   .subst c1;rw[MJ (show(2*i+1)/2=i by omega),a,LY E,MJ (Hu ..)]
    cases decide (2*i∈l)<;>rfl
   .have I:decide (2*i+1∈d::l)=decide (2*i+1∈l):=decide_eq_decide.mpr ⟨λz=>(Hs.mp z).elim (λy=>NC y.symm c1) id,Hq _⟩
    rw[LY (show ¬ d/2=i by omega),a,I]
    cases decide (2*i∈l)<;>cases decide (2*i+1∈l)<;>rfl
structure Dl(N:Nat)(rs:List (List Nat))(ls:List KF.Lk):Prop where
 nd:rs.flatten.Nodup
 all:∀ d,d<2*N->d∈rs.flatten
 lt:∀ r∈rs,∀ d∈r,d<2*N
 rn:∀ r∈rs,r.Nodup
 ln:ls.length=N
 sd:∀(i:Nat)(l:KF.Lk),ls[i]?=some l->(∃ r,rs[l.1]?=some r/\2*i∈r)/\∃ r,rs[l.2.1]?=some r/\2*i+1∈r
theorem Dl.odd{N:Nat}{rs:List (List Nat)}{ls:List KF.Lk}(D:Dl N rs ls)(u:Nat){a:Nat}{R:List Nat}(B:rs[a]?=some R):∀ i,i<=N->(KF.oddE ls u i).testBit a=par (λt=>u.testBit t&&decide (t<i)) R
 |0,_=>by
  show(0:Nat).testBit a=_;rw[IS];exact((fK λd _=>by rw[LY (IY _),I8]).trans (xS R)).symm
 |i+1,h=>by
  have Y:=D.odd u B i ∅
  obtain⟨l,I⟩:∃ l,ls[i]?=some l:=⟨_,Hf (by rw[D.ln];omega)⟩
  obtain⟨⟨r,w,g⟩,⟨Q,j,m⟩⟩:=D.sd i l I;have b:=D.rn R (Hh B);have L:decide (2*i∈R)=decide (l.1=a):=decide_eq_decide.mpr ⟨λz=>n9 D.nd w B g z,λz=>by rw[z,B]at w;cases w;exact g⟩
  have b1:decide (2*i+1∈R)=decide (l.2.1=a):=decide_eq_decide.mpr ⟨λz=>n9 D.nd j B m z,λz=>by rw[z,B]at j;cases j;exact m⟩
  unfold KF.oddE;by_cases c:u.testBit i=true
  .rw[NA c,IP,Y,KF.lkA_is I];unfold KF.endX;rw[IP,Ib,Ib,← L,← b1,← AE i b,← ve];refine fK λd _=>?_;by_cases z:d/2=i
   .rw[z,c,LY (Iz i),MJ rfl,MJ (Ik i)];rfl
   .rw[LY z,JU];congr 1;exact decide_eq_decide.mpr ∅
  .rw[NB c,Y];refine fK λd _=>?_;by_cases z:d/2=i
   .have C:u.testBit i=false:=by cases y:u.testBit i;rfl;exact NC y c
    rw[z,C];rfl
   .congr 1;exact decide_eq_decide.mpr ∅
theorem Dl.oddN(D:Dl N rs ls)(u:Nat){a:Nat}{R:List Nat}(B:rs[a]?=some R):(KF.oddE ls u N).testBit a=par (λt=>u.testBit t) R:=by
 rw[D.odd u B N (Hl _)];refine fK λd hd=>?_;have:=D.lt R (Hh B) d hd;rw[MJ (show d/2<N by omega),Lj]
theorem Dl.rooms(D:Dl N rs ls):∀ l∈ls,l.1<rs.length/\l.2.1<rs.length:=λl I=>by
 obtain⟨i,d⟩:=IV I;obtain⟨⟨_,w,_⟩,⟨_,j,_⟩⟩:=D.sd i l d;exact⟨(Hg.mp w).1,(Hg.mp j).1⟩
theorem sM{n:Nat}{ls:List KF.Lk}(hl:∀ l∈ls,l.1<n/\l.2.1<n)(u:Nat):∀ i,i<=ls.length->KF.oddE ls u i<2^n
 |0,_=>IG n
 |i+1,h=>by
  unfold KF.oddE;have Y:=sM hl u i ∅
  split
  .obtain⟨l,e⟩:∃ l,ls[i]?=some l:=⟨_,Hf ∅⟩
   obtain⟨j,Q⟩:=hl l (Hh e);rw[KF.lkA_is e];exact Jg Y (Jg (Ir (by decide) j) (Ir (by decide) Q))
  .exact Y
theorem xh{x y:Nat}(O:x<2^n)(G:y<2^n)(h:∀ a,a<n->x.testBit a=y.testBit a):x=y:=IB λa=>by
 by_cases c:a<n
 .exact h a c
 .rw[Ke (HY O (Im (by decide) ∅)),Ke (HY G (Im (by decide) ∅))]
def phi(F:Nat->Bool)(x:Nat):Nat->Bool
 |0=>false
 |n+1=>phi F x n ^^ (F n&&x.testBit n)
theorem uV(F:Nat->Bool)(x y:Nat):∀ n,phi F (x^^^y) n=(phi F x n ^^ phi F y n)
 |0=>rfl
 |n+1=>by
  unfold phi;rw[uV F x y n,IP]
  cases phi F x n<;>cases phi F y n<;>cases F n<;>cases x.testBit n<;>cases y.testBit n<;>rfl
theorem xO(F:Nat->Bool):∀ n,phi F 0 n=false
 |0=>rfl
 |n+1=>by unfold phi;rw[xO F n,IS,I8];rfl
theorem uW(F:Nat->Bool)(a:Nat):∀ n,phi F (2^a) n=(F a&&decide (a<n))
 |0=>by unfold phi;rw[LY (IY _),I8]
 |n+1=>by
  unfold phi;rw[uW F a n,Ib];by_cases c:a=n
  .subst c;rw[LY (Iz _),MJ rfl,MJ (Ik _),I8,K7]
  .rw[LY c,I8,JU];congr 1;exact decide_eq_decide.mpr ∅
theorem Ei{S f:Nat->Bool}(w:bO m es ts)(h:Eu es S f){r:List Nat}(c:CR (fol es ts) (2*es.length) r):par S r=false:=by
 obtain⟨x,l,rfl,i⟩:=c.ch;have O:=c.lt x (Hu ..);have:=yh w h i O (λt J=>c.lt t (Hq _ J)) O;rw[AF]at this;rw[bV];have E:par S [x]=S (x/2):=by rw[bV];exact JU _
 rw[E,Bool.xor_self]at this;rw[Bool.xor_comm];exact this
def He(rs:List (List Nat))(S M:Nat):Prop:=∀(k:Nat)(r:List Nat),rs[k]?=some r->parR S r=parR M r
theorem xR(S:Nat):∀ r:List Nat,par (λt=>S.testBit t) r=decide (parR S r=1)
 |[]=>rfl
 |d::r=>by
  have Y:=xR S r;rw[bV,Y];unfold parR;rw[Ai,Cn]
  cases S.testBit (d/2) with
  |true =>
   rw[NA rfl,Bool.true_xor];by_cases c:sm r (λd=>bt S (d/2))%2=1
   .rw[MJ c,LY ∅];rfl
   .rw[LY c,MJ ∅];rfl
  |false =>
   rw[NB HG,K7,Nat.zero_add]
theorem qi(nd:l.Nodup){G:Nat->Bool}(h:∀ s∈l,G (nxt l s)=G s):∀{s s':Nat},s∈l->s'∈l->G s=G s':=by
 have a:∀ j,(c:j<l.length)->G l[j]=G (l[0]'∅):=λj=>by
  induction j with
  |zero=>intro _;rfl
  |succ j Y =>
   intro c;have N:l[j]'∅∈l:=IT _
   have e:=gp N;rw[nd.idxOf_getElem j ∅,I9 c,Hf c]at e
   rw[HM e,h _ N];exact Y ∅
 intro s s' M J;obtain⟨j,c,rfl⟩:=IK M;obtain⟨i,d,rfl⟩:=IK J;rw[a j c,a i d]
theorem Dl.whole(D:Dl N rs ls)(g:Gr m es ts)(hN:es.length=N)(cr:∀ r∈rs,CR (fol es ts) (2*es.length) r)(F:Nat->Bool)(hF:∀ (i:Nat) (l:KF.Lk),ls[i]?=some l->F l.1=F l.2.1){a b:Nat}(A:a<rs.length)(L:b<rs.length):F a=F b:=by
 have w:=g.w;obtain⟨G,hG⟩:∃ G:Nat->Bool,∀ s l,ls[s]?=some l->G s=F l.1:=⟨λs=>match ls[s]? with | some l=>F l.1 | none=>false,λs l h=>by show(match ls[s]? with | some l=>F l.1 | none=>false)=_;rw[h]⟩
 have c:∀{a:Nat}{r:List Nat}{d:Nat},rs[a]?=some r->d∈r->F a=G (d/2):=λ{a r d} M J=>by
  have hd:=D.lt r (Hh M) d J;obtain⟨l,I⟩:∃ l,ls[d/2]?=some l:=⟨_,Hf (by rw[D.ln];omega)⟩
  obtain⟨⟨o,x1,q⟩,⟨Q,y1,H⟩⟩:=D.sd _ l I;rw[hG _ l I];by_cases z:d%2=0
  .rw[show 2*(d/2)=d by omega]at q
   rw[n9 D.nd M x1 J q]
  .rw[show 2*(d/2)+1=d by omega]at H
   rw[n9 D.nd M y1 J H,hF _ l I]
 have fl:∀ d,d<2*N->G (fol es ts d/2)=G (d/2):=λd hd=>by
  obtain⟨r,B,al⟩:=Ij.mp (D.all d hd);obtain⟨a,A⟩:=IV B;rw[← c A al,← c A ((cr r B).closed d al)]
 have ab:∀{p:Nat}{l:List Nat},ts[p]?=some l->∀ s∈l,G (nxt l s)=G s:=λ{p l} I s y=>by
  obtain⟨e,T,n⟩:=(w.mem p l I s).mp y;have sl:=(Hg.mp T).1;obtain⟨d,d1,d2,d3⟩:∃ d,d/2=s/\hd es d=p/\d<2*es.length:=by
   rcases n with z | z
   .refine⟨2*s+1,∅,?_,∅⟩
    unfold hd;rw[show(2*s+1)/2=s by omega,T]
    show(if(2*s+1)%2=0 then e.2 else e.1)=p;rw[NB ∅]
    exact z
   .refine⟨2*s,∅,?_,∅⟩
    unfold hd;rw[show 2*s/2=s by omega,T]
    show(if 2*s%2=0 then e.2 else e.1)=p;rw[NA ∅]
    exact z
  obtain⟨l',_,f1,_,_,_,_,_,_,j,_⟩:=w.foll d3;rw[d2,I]at f1
  cases f1
  rw[← d1,← j];exact fl d ∅
 obtain⟨r0,ae⟩:∃ r,rs[a]?=some r:=⟨_,Hf A⟩;obtain⟨o,aa⟩:∃ r,rs[b]?=some r:=⟨_,Hf L⟩;obtain⟨d0,am⟩:=(cr r0 (Hh ae)).ne;obtain⟨d1,ac⟩:=(cr o (Hh aa)).ne;rw[c ae am,c aa ac];have l0:=D.lt _ (Hh ae) _ am;have l1:=D.lt _ (Hh aa) _ ac;obtain⟨x,k0,_,_,_,p0,q0,m0⟩:=w.at (d:=d0) ∅
 obtain⟨Y,k1,_,_,_,f,C,m1⟩:=w.at (d:=d1) ∅
 have:=g.conn (λp=>∃ l s,ts[p]?=some l/\s∈l/\G s=G (d0/2)) (λe T=>by
  obtain⟨t,k⟩:=IV T;obtain⟨b1,b2,_⟩:=w.ends e T;obtain⟨u,E⟩:∃ l,ts[e.1]?=some l:=⟨_,Hf (by rw[w.len];exact b1)⟩
  obtain⟨v,O⟩:∃ l,ts[e.2]?=some l:=⟨_,Hf (by rw[w.len];exact b2)⟩
  have tu:=(w.mem _ u E t).mpr ⟨e,k,.inl rfl⟩;have tv:=(w.mem _ v O t).mpr ⟨e,k,.inr rfl⟩;constructor
  .rintro⟨l,s,x1,q,x3⟩;rw[E]at x1
   cases x1
   exact⟨v,t,O,tv,(qi (w.nd _ _ E) (ab E) tu q).trans x3⟩
  .rintro⟨l,s,x1,q,x3⟩;rw[O]at x1
   cases x1
   exact⟨u,t,E,tu,(qi (w.nd _ _ O) (ab O) tv q).trans x3⟩) (hd es d0) (hd es d1) p0 f ⟨k0,_,q0,m0,rfl⟩
 obtain⟨l,s,x1,q,x3⟩:=this;rw[C]at x1
 cases x1
 rw[qi (w.nd _ _ C) (ab C) m1 q];exact x3.symm
theorem Dl.conn1(D:Dl N rs ls)(g:Gr m es ts)(o:es.length=N)(cr:∀ r∈rs,CR (fol es ts) (2*es.length) r):KF.Conn rs.length ls:=λb L=>by
 obtain⟨F,d⟩:∃ F:Nat->Bool,∀ b,F b=true↔∃ x,KF.Wk (ls) 0 b x:=⟨λb=>@decide (∃ x,KF.Wk (ls) 0 b x) (LW _),λb=>by rw[@decide_eq_true_iff _ (LW _)]⟩
 have G:∀(i:Nat)(l:KF.Lk),ls[i]?=some l->F l.1=F l.2.1:=λi l c=>by
  have I:F l.1=true->F l.2.1=true:=λz=>by
   obtain⟨x,O⟩:=(d _).mp z;have:=KF.Wk.step O c (.inl rfl);have e:KF.bey l l.1=l.2.1:=by unfold KF.bey;rw[NA rfl]
   rw[e]at this;exact(d _).mpr ⟨_,this⟩
  have f:F l.2.1=true->F l.1=true:=λz=>by
   obtain⟨x,O⟩:=(d _).mp z;have:=KF.Wk.step O c (.inr rfl);by_cases q:l.2.1=l.1
   .rw[← q];exact z
   .have e:KF.bey l l.2.1=l.1:=by unfold KF.bey;rw[NB q]
    rw[e]at this;exact(d _).mpr ⟨_,this⟩
  cases p:F l.1 with
  |true=>rw[I p]
  |false =>
   cases q:F l.2.1 with
   |true=>rw[f q]at p;cases p
   |false=>rfl
 have:=D.whole g o cr F G (a:=0) (b:=b) ∅ L
 rw[(d 0).mpr ⟨0,.nil 0⟩]at this;exact(d b).mp this.symm
def UB(es:En)(ks:Kn)(L t:Nat):Bool:=match es[t]? with | some e=>(L.testBit e.1 ^^ L.testBit e.2 ^^ bc ks t) | none=>false
theorem Hc{ks:Kn}{t:Nat}(h:es[t]?=some e):UB es ks L t=(L.testBit e.1 ^^ L.testBit e.2 ^^ bc ks t):=by unfold UB;rw[h]
theorem tH:∀ PL:List (Nat×Nat),(KF.flat PL).length%2=0
 |[]=>rfl
 |p::PL=>by
  rw[KF.flat_cons,HD,HD];have:=tH PL;omega
structure Oth(m:Nat)(es:En)(ts:List (List Nat))(ks:Kn)(rs:List (List Nat))(ls:List KF.Lk):Prop where
 g:Gr m es ts
 ro:bx (fol es ts) (2*es.length) (2*es.length) rs
 d:Dl es.length rs ls
 kl:ks.length=es.length
 ws:∀(i:Nat)(l:KF.Lk),ls[i]?=some l->∃ k,ks[i]?=some k/\l.2.2=k.2/\0<=k.2/\k.2<=10^(30:Int).toNat
 m2:2<=m
 few:es.length<=20
theorem Oth.cr{m:Nat}{es:En}{ts:List (List Nat)}{ks:Kn}{rs:List (List Nat)}{ls:List KF.Lk}(O:Oth m es ts ks rs ls):∀ r∈rs,CR (fol es ts) (2*es.length) r:=λr u=>(O.ro.ring r u).cr
theorem Oth.lay{ks:Kn}(O:Oth m es ts ks rs ls)(L:Nat):KF.oddE ls (MK (UB es ks L) es.length) es.length=KF.oddE ls (MK (bc ks) es.length) es.length:=by
 refine xh (n:=rs.length) (by rw[← O.d.ln];exact sM O.d.rooms _ _ (Hl _)) (by rw[← O.d.ln];exact sM O.d.rooms _ _ (Hl _)) λa A=>?_
 have B:=Hf A;rw[O.d.oddN _ B,O.d.oddN _ B];have lt:=O.d.lt _ (Hh B);obtain⟨S,D⟩:∃ S:Nat->Bool,Eu es S (λp=>L.testBit p):=⟨λs=>match es[s]? with | some x=>(L.testBit x.1 ^^ L.testBit x.2) | none=>false,λs x v=>by show(match es[s]? with | some x=>(L.testBit x.1 ^^ L.testBit x.2) | none=>false)=_;rw[v]⟩
 have b:=Ei O.g.w D (O.cr _ (Hh B));have:par (λt=>(MK (UB es ks L) es.length).testBit t) rs[a]=par (λt=>S t ^^ (MK (bc ks) es.length).testBit t) rs[a]:=fK λd hd=>by
  have:=lt d hd;obtain⟨e,T⟩:∃ e,es[d/2]?=some e:=⟨_,Hf ∅⟩
  rw[fP,fP,MJ (show d/2<es.length by omega),IA,IA,Hc T,D _ e T]
 rw[this,ve,b,K7]
theorem Oth.lok1{ks:Kn}(O:Oth m es ts ks rs ls)(g:rs.length<=40):KF.Lok rs.length ls where
 n1:=g
 l9:=by
  have J:=O.d.ln;have f:=O.few;omega
 sm l hl:=O.d.rooms l hl
 w0 l hl:=by
  obtain⟨i,o⟩:=IV hl;obtain⟨k,_,e,a,b⟩:=O.ws i l o;rw[e];refine⟨a,Int.le_trans b ?_⟩;unfold KF.MM;decide
theorem Oth.even1{ks:Kn}(O:Oth m es ts ks rs ls)(T:rs.length<=40):KF.oddE ls (MK (bc ks) es.length) es.length<2^rs.length/\(KF.bl (KF.oddE ls (MK (bc ks) es.length) es.length)).length%2=0:=by
 have ok:=O.lok1 T;have C:∀ l∈ls,0<=l.2.2:=λl D=>(ok.w0 l D).1;have f:=O.d.conn1 O.g rfl O.cr;obtain⟨M,c,⟨j,N,_⟩,_⟩:=KF.low_join (KF.far_met C f) (MK (bc ks) es.length) (λl D=>⟨(ok.sm l D).1,(ok.sm l D).2,KF.far_link C D⟩) ls.length (Hl _);rw[O.d.ln]at M N;refine⟨M,?_⟩;rw[← N.length_eq];exact tH j
theorem Dl.marks(D:Dl N rs ls)(M:Nat):MK (oddU M rs) rs.length=KF.oddE ls M N:=by
 refine xh (n:=rs.length) (IZ _ λi d=>by rw[fP,LY ∅,Iw]) (by rw[← D.ln];exact sM D.rooms _ _ (Hl _)) λa A=>?_
 have B:=Hf A;rw[D.oddN _ B,xR,fP,MJ A,IA];unfold oddU;rw[Hz,B];rfl
theorem ES{ks:Kn}(h:zF H zs N ks rs):∃ ls:List KF.Lk,LsAt KF.LkAt H zs ls/\ls.length=N/\∀(i:Nat)(l:KF.Lk),ls[i]?=some l->((∃ r,rs[l.1]?=some r/\2*i∈r)/\∃ r,rs[l.2.1]?=some r/\2*i+1∈r)/\∃ k,ks[i]?=some k/\l.2.2=k.2:=by
 have go:∀ n,n<=N->∃ ls:List KF.Lk,LsAt KF.LkAt H (zs.take n) ls/\ls.length=n/\∀(i:Nat)(l:KF.Lk),ls[i]?=some l->((∃ r,rs[l.1]?=some r/\2*i∈r)/\∃ r,rs[l.2.1]?=some r/\2*i+1∈r)/\∃ k,ks[i]?=some k/\l.2.2=k.2:=λn=>by
  induction n with
  |zero=>exact λ_=>⟨[],LsAt.nil,rfl,λi l z=>by simp at z⟩
  |succ n Y =>
   intro g;obtain⟨ls,a,b,c⟩:=Y ∅
   obtain⟨k,t,x,y,r,D,E,M,J,f,C,o,u⟩:=h.2 n ∅
   refine⟨ls++[(x,y,k.2)],?_,by rw[Hk,b];rfl,λi l e=>?_⟩
   .rw[HH,M];exact a.snoc ⟨t,rfl,J⟩
   .by_cases q:i<n
    .rw[Ho ∅]at e
     exact c i l e
    .have:i=n:=by
      have:=(Hg.mp e).1;rw[Hk,b]at this;have:i<n+1:=this;omega
     subst this;rw[Hm ∅,b,HQ]at e
     cases e
     exact⟨⟨⟨r,f,C⟩,⟨D,o,u⟩⟩,k,E,rfl⟩
 obtain⟨ls,a,b,c⟩:=go N (Hl _);rw[← h.1,HL]at a;exact⟨ls,a,b,c⟩
theorem gh(g:Gr m es ts)(b:bx (fol es ts) (2*es.length) (2*es.length) rs):m+rs.length=es.length+2:=by
 obtain⟨i,p,c⟩:=g.part;rw[← p.same b.part];exact c
structure TxtO(mg:Str->Option Value):Prop extends TxtZ mg where
 modd:∃ t,mg "MOST_ODD" = some (.int 12 t)
 n_max:mg "max" = none
def rgh(ks:Kn)(n:Nat)(rs:List (List Nat)):Nat:=(KF.bl (MK (oddU (MK (bc ks) n) rs) rs.length)).length
inductive Aa(PL PS WC:Addr)(vs:List L2.V)(H:L2.Hp)(Q:L2.VK)(x3_:L2.XK):Prop
 |mk (p:Addr)(es:En)(ks:Kn)(rs:List (List Nat)) (h0_:vs = [.ref p])(h1_:WebR PL PS WC H p es ks rs)(h2_:ks.length=es.length)(h3_:es.length<=30)(h4_:rs.length<=32)(h5_:(∀ r∈rs,r.length<=900))(h6_:rgh ks es.length rs<=12)(h7_:∀ H',Same H H'->Q (.int ((MK (oddU (MK (bc ks) es.length) rs) rs.length:Nat):Int)) H')
theorem nB:ay ["web","marks"] ["web"] (ar lE):=by ac_nf
theorem Dp{PS:Addr} (F:Fun K "marks_of" "marks_of" lE f fd) (T:TxtO mg) (e:Cal P w K mg base 3 "odd_rounds" ["web"] (z8 PL PS q) a G) (x:Cal P w K mg base 2 "ones" ["mask"] KF.spOnes C J):FnOk P w K mg base CX0 4 f fd ["web"] (Aa PL PS q):=by
 refine F.ok nB (by walk_at "l") λY A g s H l Q E u h=>?_
 obtain⟨p,B,r,b,rfl,v,o,y,I,n,t,k⟩:=h
 refine⟨_,(ah (aB 1 nB.nd (e.c u (af (pv 0) aj)))
   (ah (bF (aD vf (x.c u (af (pv 1) aj)) (qx rfl T.modd) (aE _)) (ao cC) aN)
   (ao (aF (pv 1))))),?_⟩
 refine⟨_,rfl,p,B,r,b,rfl,v,o,y,∅,n,λO j=>?_⟩
 have D:=λN (m:Same O N)=>k N (j.trans m);have lt:MK (oddU (MK (bc r) B.length) b) b.length<2^b.length:=IZ _ λi d=>by rw[fP,LY ∅,Iw]
 unfold rgh at t;generalize MK (oddU (MK (bc r) B.length) b) b.length=mk at lt D t ⊢;refine⟨_,rfl,mk,rfl,HY lt (Im (by decide) ∅),λN m=>?_⟩
 refine⟨_,_,rfl,rfl,_,rfl,ite2 (λz=>NC (Np z) ∅) (λ_=>?_)⟩
 exact⟨_,rfl,D _ m⟩
inductive spRT(PL PS WC:Addr)(vs:List L2.V)(H:L2.Hp)(Q:L2.VK)(x3_:L2.XK):Prop
 |mk (p:Addr)(S:Nat)(es:En)(ks:Kn)(rs:List (List Nat)) (h0_:vs = [.ref p,.int (S:Int)])(h1_:WebR PL PS WC H p es ks rs)(h2_:ks.length=es.length)(h3_:es.length<=30)(h4_:rs.length<=70)(h5_:(∀ r∈rs,r.length<=900))(h6_:He rs S (MK (bc ks) es.length))(h7_:∀ H',Same H H'->Q .non H')
inductive spLO(PL PS WC:Addr)(vs:List L2.V)(H:L2.Hp)(Q:L2.VK)(x3_:L2.XK):Prop
 |mk (p:Addr)(S m:Nat)(es:En)(ts:List (List Nat))(ks:Kn)(rs:List (List Nat)) (h0_:vs = [.ref p,.int (S:Int)])(h1_:WebT PL PS WC H p m es ts ks)(h2_:WebR PL PS WC H p es ks rs)(h3_:Gr m es ts)(h4_:bx (fol es ts) (2*es.length) (2*es.length) rs)(h5_:ks.length=es.length)(h6_:0<m)(h7_:m<=40)(h8_:es.length<=30)(h9_:(∀ k∈ks,k.1=0∨k.1=1))(h10_:He rs S (MK (bc ks) es.length))(h11_:∀(L:Nat) H',Same H H'->L<2^m->Q (.int (L:Int)) H')
theorem x8{x y:Nat}(h:(Sum.inl (x:Int):Key)=Sum.inl (y:Int)):x=y:=by
 have:=Sum.inl.inj h;omega
def sI(b:Bool):Int:=if b=true then 1 else 0
def kvS(f:Nat->Bool)(ps:List Nat):List (Key×V):=ps.map λ(p:Nat)=>((.inl ((p:Nat):Int):Key),V.int (sI (f p)))
theorem sW{f:Nat->Bool}{p:Nat}(nd:ps.Nodup)(h:p∈ps):valV (kvS f ps) (.inl (p:Int))=some (.int (sI (f p))):=by
 induction ps with
 |nil=>cases h
 |cons x r Y =>
  rw[Hy]at nd;show valV (((.inl (x:Int):Key),V.int (sI (f x)))::kvS f r) _=_;rcases Hs.mp h with e | h
  .subst e;exact br rfl
  .have ne:¬ (Sum.inl (x:Int):Key)=Sum.inl (p:Int):=λz=>nd.1 (by rw[x8 z];exact h)
   rw[bu ne];exact Y nd.2 h
theorem A6{f:Nat->Bool}{p:Nat}(h:p∉ps):valV (kvS f ps) (.inl (p:Int))=none:=by
 induction ps with
 |nil=>rfl
 |cons x r Y =>
  show valV (((.inl (x:Int):Key),V.int (sI (f x)))::kvS f r) _=_;have ne:¬ (Sum.inl (x:Int):Key)=Sum.inl (p:Int):=λz=>h (by rw[← x8 z];exact Hu ..)
  rw[bu ne];exact Y λz=>h (Hq _ z)
theorem A7{f:Nat->Bool}{p:Nat}(h:p∉ps)(b:Bool):putK (kvS f ps) (.inl (p:Int)) (.int (sI b))=kvS (λz=>if z=p then b else f z) (ps++[p]):=by
 rw[qk _ (A6 h)];unfold kvS;rw[Hv];refine congr (congrArg _ (JW λx O=>?_)) (by simp)
 simp only[NB (show ¬ x=p from λz=>h (by rw[← z];exact O))]
def oth(e:Nat×Nat)(p:Nat):Nat:=if p=e.1 then e.2 else e.1
structure Met'(m:Nat)(ps wl:List Nat):Prop where
 nd:ps.Nodup
 lt:∀ p∈ps,p<m
 wn:∀ p∈wl,p∈ps
theorem sP(s:Same H H'){b:Addr}(h:H' b=none):H b=none:=by
 cases z:H b with
 |none=>rfl
 |some u=>rw[s _ _ z]at h;cases h
theorem sR(x:Nat):∀(n:Nat)(ps:List Nat),ps.length=n->(yF ps).testBit x=decide (x∈ps)
 |0,ps,h=>by
  rw[JE.mp h];show(0:Nat).testBit x=_;rw[IS];rfl
 |n+1,ps,h=>by
  have ne:ps≠[]:=λe=>by rw[e]at h;cases h
  have c:ps.dropLast++[ps.getLast ne]=ps:=Lx ne;have D:ps.dropLast.length=n:=by rw[List.length_dropLast,h];rfl
  rw[← c,o7,JJ,sR x n _ D,Ib];generalize ps.dropLast=r;generalize ps.getLast ne=q;by_cases a:x∈r
  .rw[MJ a,MJ (Iu _ a),Bool.true_or]
  .rw[LY a,Bool.false_or];by_cases b:q=x
   .rw[MJ b,MJ (by rw[b];simp)]
   .rw[LY b,LY (by simp only[Hx,HB];exact λz=>z.elim a λy=>b y.symm)]
theorem zu{d:Addr}{g:TG}{h:L2.TT}{A:TE}(Pv:Nat->List V->Hp->Prop)(hz:kvs.length<=LZ)(E:Pv 0 [] H1)(hl:∀ i ys H,i<=kvs.length->Pv i ys H->H d=some (.frz o (.dK kvs)))
  (a:∀ i k y ys H,kvs[i]?=some (k,y)->Pv i ys H->g (kV k) (Hw n none++σ) H λc H2=>c.drop n=σ/\h c H2 λb H3=>if b=true then A c H3 (λy f=>Pv (i+1) (ys++[y]) f) else Pv (i+1) ys H3) (hd:∀ ys H,Pv kvs.length ys H->QQ ys H) (Q:∀ i ys H,Pv i ys H->ys.length<=i)
  : gU g h A n σ (Itk o kvs d) H1 QQ:=by
 refine⟨λi m ys H=>m=kvs.length-i/\i<=kvs.length/\Pv i ys H,⟨kvs.length,by simp,Ia _,E⟩,?_⟩
 rintro i m ys H ⟨rfl,v,p⟩;have q:=hl i ys H v p;have j:=Q i ys H p;refine⟨∅,?_⟩
 by_cases L:i<kvs.length
 .refine .inr ⟨⟨q,L⟩,λl H2=>Pv (i+1) l H2,λl H2 I=>⟨kvs.length-(i+1),∅,rfl,L,I⟩,λx C y=>?_⟩
  obtain⟨k,y,G,rfl,rfl⟩:=y;exact a i k y ys _ G p
 .have e:i=kvs.length:=by omega
  subst e;exact .inl ⟨⟨q,Hl _⟩,hd ys H p⟩
theorem xor3(a b c:Bool):Mw (Mw (sI a) (if b=true then 1 else 0)) (sI c)=sI (a ^^ b ^^ c):=by cases a<;>cases b<;>cases c<;>decide
theorem GX(S t:Nat):Mu ((S:Int)/2^((t:Nat):Int).toNat) 1=sI (S.testBit t):=by
 rw[yk,Cn];unfold sI;split<;>rfl
theorem AU(nd:ps.Nodup)(h:∀ p∈ps,p<m):ps.length<=m:=dh nd h
inductive j8(C:Addr)(vs:List L2.V)(H:L2.Hp)(Q:L2.VK)(x3_:L2.XK):Prop
 |mk (p a b s x:_) (h0_:vs = [.ref p,.int x])(h1_:TieAt H p C a b s)(h2_:Q (.int (if x=a then b else a)) H)
theorem Met'.new{wl:List Nat}{y:Nat}(h:Met' m ps wl)(e:y∉ps)(c:y<m):Met' m (ps++[y]) (wl++[y]):=by
 refine⟨HP.mpr ⟨h.nd,by simp,λa A b L z=>e (by rw[← HB.mp L,← z];exact A)⟩,λy G=>?_,λy G=>?_⟩
 .rcases Hx.mp G with z | z
  .exact h.lt y z
  .rw[HB.mp z];exact c
 .rcases Hx.mp G with z | z
  .exact Iu _ (h.wn y z)
  .exact HZ _ z
theorem fz:ay ["web","ties","pushing","number"] ["web","ties"] (ar fV):=by ac_nf
theorem ok_rt{PS:Addr} (F:Fun K "refuse_ties" "refuse_ties" fV f fd) (T:Txt mg) (cw:CW K q) (aA:Cal P w K mg base 2 "pushes" ["web"] (zZ PL PS q) a G) (ae:Cal P w K mg base 1 "odd_at" ["web","ties","number"] (pL PL PS q) C J):FnOk P w K mg base CX0 3 f fd ["web","ties"] (spRT PL PS q):=by
 refine F.ok fz (by walk_at "l") λI A g s H l Q E u h=>?_
 obtain⟨p,S,B,ks,x,rfl,wb,kl,aa,aS,aI,ev,k⟩:=h
 refine⟨_,(ah (aB 2 fz.nd (aA.c u (af (pv 0) aj)))
   (ao (bw PassesOwn.never rfl (aO rfl T.n_range (af (az ax (by rfl) T.n_len aX (af (bM (pv 0) rfl) aj)) aj)) (bY 3 fz.nd) (ao (bF (aD jj (ae.c u (af (pv 0) (af (pv 1) (af (pv 3) aj)))) (ae.c u (af (pv 0) (af (pv 2) (af (pv 3) aj)))) (aE _)) (ao cC) aN))))),?_⟩
 refine⟨_,rfl,p,B,ks,x,rfl,wb,kl,aa,λO o=>?_⟩;have aL:=wb.mono o;obtain⟨t,fs,b,D,q5,z5,v,_,_,_,l5,ac,hR⟩:=id aL;have an:z5.length=x.length:=hR.1;generalize hM:MK (bc ks) B.length=M at *;refine⟨_,rfl,p,q,t,fs,_,rfl,v,cw.cl,cw.n4,l5,q5,z5,rfl,.inl (SqL.of ac),_,rfl,∅,∅,bQ (n:=(z5.length:Int).toNat) (λi Y N=>∃ v3,Y = [some (.ref p),some (.int (S:Int)),some (.int (M:Int)),v3]/\Same O N/\∀ j r,j<i->x[j]?=some r->parR S r=parR M r) ⟨_,rfl,λ_ _ e=>e,λj r h=>NC h (IY _)⟩ ?_ ?_⟩
 .rintro i Y N d ⟨v3,rfl,m,al⟩;have e0:(0:Int)+(i:Int)=(i:Int):=IF _;rw[e0];obtain⟨r,ab⟩:∃ r,x[i]?=some r:=⟨_,Hf ∅⟩
  refine⟨_,rfl,_,rfl,_,rfl,p,S,i,B,ks,x,r,rfl,aL.mono m,ab,aI r (Hh ab),λH3 L=>?_⟩;refine⟨_,rfl,_,rfl,_,rfl,p,M,i,B,ks,x,r,rfl,aL.mono (m.trans L),ab,aI r (Hh ab),λH4 s4=>?_⟩;have am:=(m.trans L).trans s4;refine⟨rfl,_,rfl,ite2 (λc=>?_) (λc=>?_)⟩
  .have c':parR S r≠parR M r:=λz=>by rw[z,MJ rfl]at c;cases c
   exact NC (ev i r ab) c'
  .have c':parR S r=parR M r:=by
    by_cases z:parR S r=parR M r
    .exact z
    .exact NC (by rw[LY (λy=>z (by have:=V.int.inj y;omega))];rfl) c
   refine⟨_,rfl,am,λj r2 hj ap=>?_⟩;by_cases e:j=i
   .subst e;rw[ab]at ap
    cases ap
    exact c'
   .exact al j r2 ∅ ap
 .rintro Y N ⟨v3,rfl,m,al⟩;rw[Hn,an]at al;exact k _ (o.trans m)
theorem pU:ay ["self","place"] ["self","place"] (ar cM):=by ac_nf
theorem sL (F:Fun K "across" "Tie.across" cM f fd) (T:CT K C):FnOk P w K mg base CX0 1 f fd ["self","place"] (j8 C):=by
 refine F.ok pU (by walk_at "l") λY A g s H l Q E u h=>?_
 obtain⟨p,a,b,st,x,rfl,⟨j,B⟩,k⟩:=h;refine⟨_,(ao (aF (iZ (aD cq (pv 1) (bM (pv 0) rfl) (aE _)) (bM (pv 0) rfl) (bM (pv 0) rfl)))),?_⟩;refine⟨_,rfl,_,rfl,p,C,j,_,_,rfl,B,T.cl,T.n1,j6 _ _ _,rfl,_,rfl,?_⟩;refine ite2 (λc=>?_) (λc=>?_)
 .refine⟨_,rfl,p,C,j,_,_,rfl,B,T.cl,T.n2,oQ _ _ _,?_⟩;rw[NA (V.int.inj (Np c))]at k;exact k
 .refine⟨_,rfl,p,C,j,_,_,rfl,B,T.cl,T.n1,j6 _ _ _,?_⟩;rw[NB (λz=>c (MJ (by rw[z])))]at k
  exact k
theorem bZ:ay ["web","ties","signs","waiting","place","number","tie","there"] ["web","ties"] (ar jD):=by ac_nf
theorem ok_lo{f2 cT cX g0 g1 PS WC:Addr}{d2 cY cZ bX bm:FuncData} (F:Fun K "laying_of" "laying_of" jD f fd) (T:Txt mg) (cw:CW K WC) (TL:CT K PL) (TS:CT K PS) (bv:Cal P w K mg base 3 "refuse_ties" ["web","ties"] (spRT PL PS WC) I J) (al:Cal P w K mg base 1 "mask_of" ["places"] (lR K) f2 d2)
  (a0:Met P w K mg base 1 PL "across" ["self","place"] (j8 PL) cT cY) (a1:Met P w K mg base 1 PS "across" ["self","place"] (j8 PS) cX cZ) (u0:Met P w K mg base 1 PL "wish" ["self"] (j7 false) g0 bX) (u1:Met P w K mg base 1 PS "wish" ["self"] (j7 true) g1 bm):FnOk P w K mg base CX0 4 f fd ["web","ties"] (spLO PL PS WC):=by
 refine F.ok bZ (by walk_at "l") λab A aa s H vs Q E u h=>?_
 obtain⟨p,S,m,B,ts,ks,rs,rfl,wt,wr,g,ro,kl,m0,a3,ac,bN,ev,kk⟩:=h;have hu:=qN u;have aV:=u.units;have cc:=TL.cl;have cd:=TS.cl;have mf:=pf g;have ca:=xJ ro;have bW:∀ r∈rs,r.length<=900:=λr u=>by
  have:=dh (ro.ring r u).nd (ro.ring r u).lt;omega
 obtain⟨dx,fs,q1,xs,q3,z3,n,lm,l1,M,tk,l3,h3,c6⟩:=id wt
 refine⟨_,(ah (aU (bv.c u (af (pv 0) (af (pv 1) aj))))
   (ah (aB 2 bZ.nd (vc (qp ai ai uQ) rfl rfl (λz=>by cases z) (by decide)))
   (ah (aB 3 bZ.nd (bL (af ai aj)))
   (ah (dU PassesOwn.never (aD (op_neG aV) (pv 3) (bL aj) (aE _)) (ah (aB 4 bZ.nd (EN HC PySem.F.slot_list_pop PySem.F.type_list_pop mt_pop (pv 3)))
   (ao (bw PassesOwn.never rfl (aP (aR (bM (pv 0) rfl) (pv 4))) (bY 5 bZ.nd) (ah (aB 6 bZ.nd (aR (bM (pv 0) rfl) (pv 5)))
   (ah (aB 7 bZ.nd (pe_or (qw (pv 6) cc a0.me a0.ok (u.mono (by decide)) a0.bn .nil ji (af (pv 4) aj)) (qw (pv 6) cd a1.me a1.ok (u.mono (by decide)) a1.bn .nil ji (af (pv 4) aj))))
   (ao (bF (xK (kG hu (pv 7) (pv 2))) (ah (jO hu (pv 2) (pv 7) (av b8 (av b8 (gn hu (pv 2) (pv 4) (λ_ _=>rfl)) (pe_or (kD (pv 6) cc u0.me u0.ok (u.mono (by decide)) u0.bn .nil ji) (kD (pv 6) cd u1.me u1.ok (u.mono (by decide)) u1.bn .nil ji))) (av eF (av cV (pv 1) (pv 5)) ai)) rfl)
   (ao (aU (dB HC HU HS aZ (pv 3) (af (pv 7) aj))))) aN))))))))
   (ao (aF (al.c u (af (cR [("signs",2)] ["place"] (FN (pv 2)) pg_c (λC ex s H=>(ij (aD cq (gn hu (pv 1) (pv 0) (λ_ _=>rfl)) ai (aE _)))) (λC ex s H=>(pv 0))) aj)))))))),?_⟩
 refine⟨_,rfl,_,rfl,p,S,B,ks,rs,rfl,wr,kl,ac,∅,bW,ev,λH1 s1=>?_⟩
 intro d hd;refine⟨ag,[(.inl ((0:Nat):Int),.int 0)],rfl,(by show 1<=15;decide),?_⟩
 have sd:Same H1 (upd (upd H1 d (.dK [])) d (.dK (fL [] [(.inl ((0:Nat):Int),.int 0)]))):=aK (ak hd _) hd _;have bp:(upd (upd H1 d (.dK [])) d (.dK (fL [] [(.inl ((0:Nat):Int),.int 0)]))) d=some (.dK (kvS (λ_=>false) [0])):=by
  rw[ag];rfl
 generalize upd (upd H1 d (.dK [])) d (.dK (fL [] [(.inl ((0:Nat):Int),.int 0)]))=N at sd bp;refine⟨(by show 1<=LZ;decide),λq hq=>?_⟩
 have sq:=ak hq (.lst [.int 0]);have b0:q≠d:=λz=>by rw[z,bp]at hq;cases hq
 have ap:H1 q=none:=sP sd hq;refine⟨λmm Y H'=>∃(Pl:Nat->Bool)(ps wl:List Nat)(v4 v5 v6 v7:Option V),mm=2*(m-ps.length)+wl.length/\mm<=80/\Y = [some (.ref p),some (.int (S:Int)),some (.ref d),some (.ref q),v4,v5,v6,v7]/\Same H1 H'/\H' d=some (.dK (kvS Pl ps))/\H' q=some (.lst (wl.map iV))/\Met' m ps wl,⟨_,λ_=>false,[0],[0],_,_,_,_,rfl,(by show 2*(m-1)+1<=80;omega),rfl,sd.trans sq,sq _ _ bp,ag,⟨(by simp),λx O=>by rw[HB.mp O];exact m0,λx O=>O⟩⟩,?_⟩
 rintro mm Y H3 ⟨Pl,ps,wl,v4,v5,v6,v7,rfl,c7,rfl,s3,cf,bq,mt⟩;refine⟨_,rfl,(by show 0<=LZ;exact Ia _),λl hl=>?_⟩
 have sl:=ak hl (.lst []);refine⟨_,_,vn (SqL.of (sl _ _ bq)),vn (ps:=[]) (SqL.of ag),nY _,nY _,_,rfl,?_⟩;rw[DZ];have co:=s3.trans sl;have cp:=sl _ _ cf;have cg:=sl _ _ bq;generalize upd H3 l (.lst [])=H4 at co cp cg;refine ite2 (λc=>?_) (λc=>?_)
 .have ne:wl≠[]:=λz=>by rw[z,MJ rfl]at c;cases c
  have cD:wl.dropLast++[wl.getLast ne]=wl:=Lx ne;obtain⟨x,O⟩:∃ x,x=wl.getLast ne:=⟨_,rfl⟩;obtain⟨bd,hw⟩:∃ bd,bd=wl.dropLast:=⟨_,rfl⟩;rw[← O,← hw]at cD;subst cD;clear O hw ne c;have cO:=mt.wn x (by simp)
  have xm:=mt.lt x cO;obtain⟨row,bb⟩:∃ row,ts[x]?=some row:=⟨_,Hf (by rw[g.w.len];exact xm)⟩
  have da:=AU mt.nd mt.lt;refine⟨λae H'=>∃(Pl:Nat->Bool)(am ba:List Nat)(v4 v5 v6 v7:Option V),2*(m-am.length)+ba.length<2*(m-ps.length)+(bd++[x]).length/\ae = [some (.ref p),some (.int (S:Int)),some (.ref d),some (.ref q),v4,v5,v6,v7]/\Same H1 H'/\H' d=some (.dK (kvS Pl am))/\H' q=some (.lst (ba.map iV))/\Met' m am ba,λae H' ⟨Pl,am,ba,a4,a5,a6,a7,lt,e1,e2,e3,e4,e5⟩=>⟨_,lt,Pl,am,ba,a4,a5,a6,a7,rfl,Io (HJ lt) c7,e1,e2,e3,e4,e5⟩,?_⟩;have cs:((bd++[x]).map iV)[((bd++[x]).map iV).length-1]?=some (iV x):=by
   rw[Hv,Hk,Hi];show(bd.map iV++[iV x])[bd.length+1-1]?=_;rw[Lg,Hm (by rw[Hi];exact Hl _),Hi,HQ]
   rfl
  refine⟨_,rfl,.inl ⟨rfl,_,SqL.of cg⟩,q,_,iV x,rfl,rfl,cg,cs,?_⟩;have ct:((bd++[x]).map iV).dropLast=bd.map iV:=by
   rw[Hv];exact List.dropLast_concat
  rw[ct];have s5:Same H1 (upd H4 q (.lst (bd.map iV))):=aK co ap _;have ch:(upd H4 q (.lst (bd.map iV))) d=some (.dK (kvS Pl ps)):=by rw[aq (Ne.symm b0)];exact cp
  have aA:(upd H4 q (.lst (bd.map iV))) q=some (.lst (bd.map iV)):=ag;generalize upd H4 q (.lst (bd.map iV))=H5 at s5 ch aA;obtain⟨r,r1,r2⟩:=c6.2 x row bb;have bi:=s1.trans s5;have rl:row.length<=B.length:=dh (g.w.nd x row bb) λt ht=>by
   obtain⟨e,he,_⟩:=(g.w.mem x row bb t).mp ht;exact(Hg.mp he).1
  refine⟨_,rfl,p,WC,dx,fs,_,rfl,bi _ _ n,cw.cl,cw.n3,l3,_,rfl,q3,z3,_,_,rfl,rfl,SqL.of (bi _ _ h3),aC r1,r,rfl,⟨_,SqL.of (bi _ _ r2)⟩,cu (K:=K) (xs:=row.map iV) (λj Y H6=>∃(Pl:Nat->Bool)(am ba:List Nat)(v5 v6 v7:Option V),Y = [some (.ref p),some (.int (S:Int)),some (.ref d),some (.ref q),some (iV x),v5,v6,v7]/\Same H1 H6/\H6 d=some (.dK (kvS Pl am))/\H6 q=some (.lst (ba.map iV))/\Met' m am ba/\x∈am/\2*(m-am.length)+ba.length<2*(m-ps.length)+(bd++[x]).length) ⟨Pl,ps,bd,_,_,_,rfl,s5,ch,aA,⟨mt.nd,mt.lt,λy hy=>mt.wn y (by simp[hy])⟩,cO,by rw[Hk,Ht];omega⟩ (λj Y H6 _ an=>by obtain⟨_,_,_,_,_,_,_,z,_⟩:=an;exact SqL.of (z _ _ (s1 _ _ r2))) ?_ ?_⟩
  .rintro j v Y H6 bB ⟨Pl,am,ba,v5,v6,v7,rfl,s6,bR,aS,be,b6,ce⟩;rw[Hr]at bB;obtain⟨t,ht,rfl⟩:=HF.mp bB;obtain⟨e,he,aL⟩:=(g.w.mem x row bb t).mp (Hh ht);obtain⟨k,hk⟩:∃ k,ks[t]?=some k:=⟨_,Hf (by have:=(Hg.mp he).1;omega)⟩
   have cb:=s1.trans s6;obtain⟨p',aI,x1,x2⟩:=(tk.mono cb).2 t e k he hk;obtain⟨b1,b2,bne⟩:=g.w.ends e (Hh he);have om:oth e x<m:=by unfold oth;split<;>assumption
   have cn:=AU be.nd be.lt;have ck:(if(x:Int)=(e.1:Int) then(e.2:Int) else(e.1:Int))=((oth e x:Nat):Int):=by
    unfold oth;by_cases c:x=e.1
    .rw[NA ∅,NA c]
    .rw[NB ∅,NB c]
   refine⟨_,rfl,p,WC,dx,fs,_,rfl,cb _ _ n,cw.cl,cw.n2,l1,_,rfl,q1,xs,_,_,rfl,rfl,SqL.of (cb _ _ M),aC x1,?_⟩;by_cases c:k.1=1
   .rw[MJ c]at x2;refine .inr ⟨_,rfl,p',aI,_,rfl,x2,pH _ _ _ (by decide) (by decide) (by decide),_,rfl,p',_,_,_,(x:Int),rfl,⟨aI,x2⟩,?_⟩
    rw[ck];refine⟨_,rfl,_,rfl,d,_,rfl,.inl ⟨_,.inl ((oth e x:Nat):Int),.inl bR,rfl,rfl⟩,_,rfl,?_⟩;by_cases a2:oth e x∈am
    .rw[sW be.nd a2];exact iteF ⟨Pl,am,ba,_,_,_,rfl,s6,bR,aS,be,b6,ce⟩
    .rw[A6 a2];refine iteT ?_;refine⟨_,rfl,_,rfl,d,_,rfl,.inl ⟨_,.inl (x:Int),.inl bR,rfl,(sW be.nd b6).symm⟩,?_⟩;refine .inr ⟨_,rfl,p',aI,_,rfl,x2,pH _ _ _ (by decide) (by decide) (by decide),p',rfl,_,_,rfl,rfl,_,rfl,_,rfl,_,_,rfl,rfl,(show(0:Int)<=(t:Int) by omega),_,_,rfl,rfl,_,_,rfl,rfl,?_⟩
     refine⟨_,rfl,_,rfl,d,_,rfl,DPut.k (k:=.inl ((oth e x:Nat):Int)) bR (aw (by unfold kvS;rw[Hi];omega)),?_⟩
     obtain⟨G,ci⟩:∃ G,putK (kvS Pl am) (.inl ((oth e x:Nat):Int)) (.int (Mw (Mw (sI (Pl x)) (if true=true then 1 else 0)) (Mu ((S:Int)/2^((t:Nat):Int).toNat) 1)))=kvS G (am++[oth e x]):=⟨_,by rw[GX,xor3];exact A7 a2 _⟩
     have bU:(upd H6 d (.dK (putK (kvS Pl am) (.inl ((oth e x:Nat):Int)) (.int (Mw (Mw (sI (Pl x)) (if true=true then 1 else 0)) (Mu ((S:Int)/2^((t:Nat):Int).toNat) 1)))))) q=some (.lst (ba.map iV)):=by rw[aq b0];exact aS
     refine⟨_,rfl,.inl ⟨rfl,_,SqL.of bU⟩,_,rfl,q,_,_,rfl,rfl,bU,aw (by rw[Hi];omega),?_⟩
     refine⟨G,am++[oth e x],ba++[oth e x],_,_,_,rfl,aK (aK s6 hd _) ap _,?_,?_,be.new a2 om,Iu _ b6,?_⟩
     .rw[aq (Ne.symm b0),ag,ci]
     .rw[ag,Hv];rfl
     .simp only[Hk,Ht]at ce ⊢;have:=AU (HP.mpr ⟨be.nd,(by simp),λa ha b L z=>a2 (by rw[← HB.mp L,← z];exact ha)⟩:(am++[oth e x]).Nodup) (m:=m) (λy hy=>(Hx.mp hy).elim (be.lt y) λz=>by rw[HB.mp z];exact om)
      rw[Hk,Ht]at this;omega
   .rw[LY c]at x2;refine .inl ⟨_,rfl,p',aI,_,rfl,x2,pH _ _ _ (by decide) (by decide) (by decide),_,rfl,p',_,_,_,(x:Int),rfl,⟨aI,x2⟩,?_⟩
    rw[ck];refine⟨_,rfl,_,rfl,d,_,rfl,.inl ⟨_,.inl ((oth e x:Nat):Int),.inl bR,rfl,rfl⟩,_,rfl,?_⟩;by_cases a2:oth e x∈am
    .rw[sW be.nd a2];exact iteF ⟨Pl,am,ba,_,_,_,rfl,s6,bR,aS,be,b6,ce⟩
    .rw[A6 a2];refine iteT ?_;refine⟨_,rfl,_,rfl,d,_,rfl,.inl ⟨_,.inl (x:Int),.inl bR,rfl,(sW be.nd b6).symm⟩,?_⟩;refine .inl ⟨_,rfl,p',aI,_,rfl,x2,pH _ _ _ (by decide) (by decide) (by decide),p',rfl,_,_,rfl,rfl,_,rfl,_,rfl,_,_,rfl,rfl,(show(0:Int)<=(t:Int) by omega),_,_,rfl,rfl,_,_,rfl,rfl,?_⟩
     refine⟨_,rfl,_,rfl,d,_,rfl,DPut.k (k:=.inl ((oth e x:Nat):Int)) bR (aw (by unfold kvS;rw[Hi];omega)),?_⟩
     obtain⟨G,ci⟩:∃ G,putK (kvS Pl am) (.inl ((oth e x:Nat):Int)) (.int (Mw (Mw (sI (Pl x)) (if false=true then 1 else 0)) (Mu ((S:Int)/2^((t:Nat):Int).toNat) 1)))=kvS G (am++[oth e x]):=⟨_,by rw[GX,xor3];exact A7 a2 _⟩
     have bU:(upd H6 d (.dK (putK (kvS Pl am) (.inl ((oth e x:Nat):Int)) (.int (Mw (Mw (sI (Pl x)) (if false=true then 1 else 0)) (Mu ((S:Int)/2^((t:Nat):Int).toNat) 1)))))) q=some (.lst (ba.map iV)):=by rw[aq b0];exact aS
     refine⟨_,rfl,.inl ⟨rfl,_,SqL.of bU⟩,_,rfl,q,_,_,rfl,rfl,bU,aw (by rw[Hi];omega),?_⟩
     refine⟨G,am++[oth e x],ba++[oth e x],_,_,_,rfl,aK (aK s6 hd _) ap _,?_,?_,be.new a2 om,Iu _ b6,?_⟩
     .rw[aq (Ne.symm b0),ag,ci]
     .rw[ag,Hv];rfl
     .simp only[Hk,Ht]at ce ⊢;have:=AU (HP.mpr ⟨be.nd,(by simp),λa ha b L z=>a2 (by rw[← HB.mp L,← z];exact ha)⟩:(am++[oth e x]).Nodup) (m:=m) (λy hy=>(Hx.mp hy).elim (be.lt y) λz=>by rw[HB.mp z];exact om)
      rw[Hk,Ht]at this;omega
  .rintro Y H6 ⟨Pl,am,ba,v5,v6,v7,rfl,s6,bR,aS,be,b6,ce⟩;exact⟨Pl,am,ba,_,_,_,_,ce,rfl,s6,bR,aS,be⟩
 .have e0:wl = []:=by
   cases wl with
   |nil=>rfl
   |cons a b=>exact NC (by rw[LY (by simp)];rfl) c
  subst e0;refine⟨_,rfl,d,_,rfl,cp,λo=>?_⟩;have cn:=AU mt.nd mt.lt;refine zu (kvs:=kvS Pl ps) (d:=d) (o:=o) (λi ys H5=>H5=upd H4 d (.frz o (.dK (kvS Pl ps)))/\ys=((ps.take i).filter Pl).map iV) (HJ (aw (by unfold kvS;rw[Hi];omega))) ⟨rfl,rfl⟩ (λi ys H5 _ z=>by rw[z.1];exact ag) ?_ ?_ ?_
  .rintro i ky y ys H5 cv ⟨rfl,rfl⟩;unfold kvS at cv;rw[Hr]at cv;obtain⟨x,O,e2⟩:=HF.mp cv
   cases e2
   have et:ps.take (i+1)=ps.take i++[x]:=by rw[HH,O];rfl
   refine⟨rfl,_,rfl,_,rfl,d,_,rfl,.inl ⟨_,.inl (x:Int),.inr ⟨o,ag⟩,rfl,(sW mt.nd (Hh O)).symm⟩,rfl,_,rfl,?_⟩
   cases aT:Pl x with
   |true =>
    refine iteT ⟨_,rfl,rfl,?_⟩;rw[et,JA,Hv,Ji aT];rfl
   |false =>
    refine iteF ⟨rfl,?_⟩;rw[et,JA,Hv,Jj (by rw[aT];exact HG)]
    simp
  .rintro ys H5 ⟨rfl,rfl⟩ D hD;have el:(kvS Pl ps).length=ps.length:=by unfold kvS;rw[Hi]
   rw[el,HL];refine⟨D,ps.filter Pl,rfl,SqL.of ag,λx O=>?_,?_⟩
   .have:=mt.lt x (Jv.mp O).1
    omega
   .have sF:Same H1 (upd (upd H4 d (.frz o (.dK (kvS Pl ps)))) D (.lst (((ps.filter Pl)).map iV))):=(aK co hd _).trans (ak hD _)
    exact kk _ _ (s1.trans sF) (IZ _ λx O=>by rw[sR x _ _ rfl];exact LY λz=>by have:=mt.lt x (Jv.mp z).1;omega)
  .rintro i ys H5 ⟨_,rfl⟩;rw[Hi];exact Io (Jc _ _) (by rw[HW];exact Nat.min_le_left _ _)
theorem bC.smT(h:bC H xs ts)(s:KF.SmT H H'):bC H' xs ts:=⟨h.1,λi l e=>by
 obtain⟨p,a,b⟩:=h.2 i l e
 exact⟨p,a,s.lst b⟩⟩
theorem j5.smT{PS:Addr}{ks:Kn}(h:j5 PL PS H xs es ks)(s:KF.SmT H H'):j5 PL PS H' xs es ks:=⟨h.1,λi e k M J=>by
 obtain⟨p,j,a,b⟩:=h.2 i e k M J
 exact⟨p,j,a,s _ _ (λG y=>by cases y) b⟩⟩
theorem WebR.smT{PL PS k p:Addr}{H H':Hp}{es:En}{ks:Kn}{rs:List (List Nat)}(h:WebR PL PS k H p es ks rs)(s:KF.SmT H H'):WebR PL PS k H' p es ks rs:=by
 obtain⟨j,fs,C,D,u,i,a,b,c,d,e,f,g⟩:=h;exact⟨j,fs,C,D,u,i,s _ _ (λG y=>by cases y) a,b,s.lst c,d.smT s,e,s.lst f,g.smT s⟩
theorem WebT.smT{PL PS k p:Addr}{H H':Hp}{m:Nat}{es:En}{ts:List (List Nat)}{ks:Kn}(h:WebT PL PS k H p m es ts ks)(s:KF.SmT H H'):WebT PL PS k H' p m es ts ks:=by
 obtain⟨j,fs,C,D,J,l,a,b,c,d,e,f,g,i⟩:=h;exact⟨j,fs,C,D,J,l,s _ _ (λG y=>by cases y) a,b,c,s.lst d,e.smT s,f,s.lst g,i.smT s⟩
structure WebL(TT PL PS WC:Addr)(H:Hp)(p m:Nat)(es:En)(ts rs:List (List Nat))(ks:Kn):Prop where
 wf:∃ S,WebF S PL PS WC H p m es ts rs ks
 g:Gr m es ts
 kl:ks.length=es.length
 kin:∀ k∈ks,k.1=0∨k.1=1
 kb:∀ k∈ks,0<=k.2/\k.2<=10^(30:Int).toNat
 few:es.length<=20
 e0:0<es.length
 tb:Tb KF.lqF KF.lpF TT H
inductive uC(TT PL PS WC:Addr)(vs:List L2.V)(H:L2.Hp)(Q:L2.VK)(x3_:L2.XK):Prop
 |mk (p:Addr)(m:Nat)(es:En)(ts rs:List (List Nat))(ks:Kn) (h0_:vs = [.ref p])(h1_:WebL TT PL PS WC H p m es ts rs ks)(h2_:rgh ks es.length rs<=12)(h3_:∀(t q:Addr)(cost:Int)(L:Nat)(r:List KF.Pr)(H':Hp),KF.SmT H H'->Tb KF.lqF KF.lpF TT H'->H' t=some (.tup [.int cost,.int (L:Int),.ref q])->KF.PpAt H' (.ref q) r->r.length<=2560->(∀ p∈r,0<=p.1/\p.1<2^rs.length)->L<2^m->Q (.ref t) H')
theorem ke:ay ["web","marks","many","links","found"] ["web"] (ar uO):=by ac_nf
theorem Ds{TT f4 f5 PS WC:Addr}{d3 d4 d5:FuncData} (F:Fun K "least" "least" uO f fd) (T:TxtO mg) (cw:CW K WC) (a3:Cal P w K mg base 4 "marks_of" ["web"] (Aa PL PS WC) a G) (ap:Cal P w K mg base 1 "links_of" ["web"] (uB PL PS WC) C J) (a4:Cal P w K mg base 11 "paired" ["many","links","marks"] (KF.spPaired TT) I d3) (aS:Cal P w K mg base 4 "laying_of" ["web","ties"] (spLO PL PS WC) f4 d4) (ba:Cal P w K mg base 12 "hills" ["many","links","marks"] (KF.spHills TT) f5 d5):FnOk P w K mg base CX0 13 f fd ["web"] (uC TT PL PS WC):=by
 refine F.ok ke (by walk_at "l") λaa A y s H vs Q E u h=>?_
 obtain⟨p,m,B,ts,rs,ks,rfl,wl,rg,kk⟩:=h;obtain⟨⟨S,wf⟩,g,kl,aI,kb,ab,e0,tb⟩:=wl;obtain⟨dx,fs,q1,x,v,wg,_,l2,al,tk⟩:=id wf;obtain⟨q5,z5,l5,am,r5⟩:=wg.rounds;obtain⟨q6,z6,l6,an,r6⟩:=wg.sides;have ro:=wg.part;have cnt:=gh g ro;have m2:=g.two e0;have bN:rs.length<=20:=by omega
 have bd:1<=rs.length:=by
  obtain⟨r,ae,_⟩:=Ij.mp (ro.all 0 ∅)
  have:=IM ae;omega
 have a0:∀ r∈rs,r.length<=900:=λr u=>by
  have:=dh (ro.ring r u).nd (ro.ring r u).lt;omega
 have bb:z5.length=rs.length:=r5.1
 refine⟨_,(ah (aB 1 ke.nd (a3.c u (af (pv 0) aj)))
   (ah (aB 2 ke.nd (az ax (by rfl) T.n_len aX (af (bM (pv 0) rfl) aj)))
   (ah (aB 3 ke.nd (ap.c u (af (pv 0) aj)))
   (ah (aB 4 ke.nd (a4.c u (af (pv 2) (af (pv 3) (af (pv 1) aj)))))
   (ao (aF (bh (af (aM (pv 4) ai) (af (aS.c u (af (pv 0) (af (aM (pv 4) ai) aj))) (af (ba.c u (af (pv 2) (af (pv 3) (af (pv 1) aj)))) aj)))))))))),?_⟩
 refine⟨_,rfl,p,B,ks,rs,rfl,wf.r,kl,∅,∅,a0,rg,λn o=>?_⟩
 refine⟨_,rfl,p,WC,dx,fs,_,rfl,o _ _ v,cw.cl,cw.n4,l5,q5,z5,rfl,.inl (SqL.of (o _ _ am)),?_⟩;rw[bb];refine⟨_,rfl,p,B,ks,rs,rfl,⟨dx,fs,q1,x,q6,z6,o _ _ v,l2,o _ _ al,tk.mono o,l6,o _ _ an,r6.mono o⟩,kl,∅,λq zs j s2 nq hq lk=>?_⟩
 obtain⟨ls,bi,ln,lp⟩:=ES lk
 have O:Oth m B ts ks rs ls:=⟨g,ro,⟨ro.nd,ro.all,λr u=>(ro.ring r u).lt,λr u=>(ro.ring r u).nd,ln,λi l D=>(lp i l D).1⟩,kl,λi l D=>by
  obtain⟨k,M,N⟩:=(lp i l D).2
  exact⟨k,M,N,kb k (Hh M)⟩,m2,ab⟩
 have a5:=O.d.marks (MK (bc ks) B.length);have ac:=o.trans s2;have a6:=KF.tb_same tb ac;have bn:=O.lok1 ∅
 have be:=O.d.conn1 O.g rfl O.cr;obtain⟨Y,z⟩:=O.even1 ∅
 unfold rgh at rg;rw[a5]at rg;rw[a5];have bp:KF.LnAt j (.ref q) ls:=⟨q,zs,rfl,hq,bi⟩;refine⟨_,rfl,_,rfl,_,rfl,.ref q,rs.length,_,ls,rfl,bp,bn,bd,be,Y,z,∅,a6,λr4 c4 u4 H4 aT aA aV bR bq=>?_⟩
 have a7:=(KF.SmT.of ac).trans aT;have ev:He rs u4 (MK (bc ks) B.length):=λk r b=>by
  have a1:=O.d.oddN u4 b;have a2:=O.d.oddN (MK (bc ks) B.length) b;rw[ln]at bq;rw[bq,a2,xR,xR]at a1;have:=decide_eq_decide.mp a1;unfold parR at this ⊢;omega
 refine⟨_,rfl,r4,_,0,_,rfl,rfl,SqT.of aV,at0,_,rfl,_,rfl,r4,_,1,_,rfl,rfl,SqT.of aV,at1,p,u4,m,B,ts,ks,rs,rfl,wf.t.smT a7,wf.r.smT a7,g,ro,kl,∅,∅,∅,aI,ev,λL H5 s5 ly=>?_⟩
 have bB:=KF.tb_same aA s5;have bv:=aT.trans (KF.SmT.of s5);refine⟨_,rfl,_,rfl,_,rfl,.ref q,rs.length,_,ls,rfl,bp.smT bv,bn,bd,be,Y,z,∅,∅,bB,λq7 r7 H7 bm aL pp rl rb=>?_⟩
 refine⟨(by show 3<=LZ;decide),λt e=>?_⟩
 have st:=ak e (.tup [.int c4,.int (L:Int),.ref q7]);exact kk t q7 c4 L r7 _ ((KF.SmT.of ac).trans (bv.trans (bm.trans (KF.SmT.of st)))) (KF.tb_same aL st) ag (pp.mono st) rl rb ly
end K8
variable{ks:K8.Kn}
namespace KF
open PySem L2
open KF (andN orN shlN xorN)
theorem E8(u i:Nat):(Mu ((u:Int)/2^((i:Nat):Int).toNat) 1=1)↔u.testBit i=true:=by
 have G:(u:Int)/2^((i:Nat):Int).toNat=((u/2^i:Nat):Int):=by
  rw[Hn];push_cast;rfl
 have E:Mu ((u/2^i:Nat):Int) 1=((u/2^i&&&1:Nat):Int):=andN _ 1;rw[G,E,Nat.and_one_is_mod,Kd,decide_eq_true_iff];omega
theorem E6(u i:Nat):bt (u:Int) i=u.testBit i:=by
 unfold bt
 cases h:u.testBit i with
 |true=>exact MJ ((E8 u i).mpr h)
 |false=>exact LY λz=>by rw[(E8 u i).mp z]at h;cases h
theorem ends_is(ls:List Lk)(u:Nat):∀ i,qV (u:Int) ls i=((oddE ls u i:Nat):Int)
 |0=>rfl
 |i+1=>by
  rw[qV,E6,ends_is ls u i];show _=(((if u.testBit i=true then oddE ls u i^^^endX (lkA ls i) else oddE ls u i):Nat):Int);split
  .unfold stepE endX;rw[shlN,shlN,xorN,xorN,IJ]
  .rfl
theorem cost_is(ls:List Lk)(u:Nat):∀ i,rA (u:Int) ls i=cstU ls u i
 |0=>rfl
 |i+1=>by
  rw[rA,E6,cost_is ls u i];rfl
end KF
namespace K8
open PySem L2
theorem lQ(L a:Nat):bit (L:Int) (a:Int)=if L.testBit a=true then 1 else 0:=by
 unfold bit;rw[Hn];have e:((L:Int)/2^a%2)=((L/2^a%2:Nat):Int):=by push_cast;rfl
 rw[e,Kd];have:=JX (L/2^a) (show 0<2 by decide)
 by_cases z:L/2^a%2=1
 .rw[z,MJ rfl,NA rfl];rfl
 .rw[LY z,NB (by decide)]
  omega
theorem U_nat(o:ks.length=es.length)(a:∀ k∈ks,k.1=0∨k.1=1)(L t:Nat):U es ks (L:Int) t=UB es ks L t:=by
 by_cases c:t<es.length
 .obtain⟨e,T⟩:∃ e,es[t]?=some e:=⟨_,Hf c⟩;obtain⟨k,C⟩:∃ k,ks[t]?=some k:=⟨_,Hf ∅⟩
  rw[U_at T C,Hc T,qm C];unfold unp;rw[lQ,lQ]
  cases L.testBit e.1<;>cases L.testBit e.2<;>cases decide (k.1=1)<;>decide
 .have M:es[t]?=none:=Jz ∅
  unfold U UB;rw[M]
def wor(es:En)(ks:Kn)(L:Nat):Int:=(prL ks (UB es ks L) es.length).sum
theorem B9{ks:Kn}{ls:List KF.Lk}{S:Nat->Bool}{N:Nat}(h:∀ i,i<N->(KF.lkA ls i).2.2=stg ks i):∀ i,i<=N->KF.cstU ls (MK S N) i=(prL ks S i).sum
 |0,_=>rfl
 |i+1,d=>by
  rw[qo,J2,← B9 h i ∅]
  show(if(MK S N).testBit i=true then KF.cstU ls (MK S N) i+(KF.lkA ls i).2.2 else KF.cstU ls (MK S N) i)=_;rw[fP,MJ (show i<N by omega),IA,h i ∅,Ja,List.sum_nil]
  split<;>omega
def dueB(n mk:Nat)(ls:List KF.Lk)(r:List KF.Pr):Bool:=r.all (KF.cB n mk)&&ls.all (KF.lB r)
def jw(es:En)(ks:Kn)(rs:List (List Nat))(ls:List KF.Lk)(L:Nat)(r:List KF.Pr):Bool:=dueB rs.length (KF.oddE ls (MK (bc ks) es.length) es.length) ls r&&decide ((r.map (·.2)).sum=2*wor es ks L)
inductive Af(TT PL PS WC:Addr)(vs:List L2.V)(H:L2.Hp)(Q:L2.VK)(x3_:L2.XK):Prop
 |mk (p:Addr)(m:Nat)(es:En)(ts rs:List (List Nat))(ks:Kn)(L:Nat)(pw:V)(r:List KF.Pr) (h0_:vs = [.ref p,.int (L:Int),pw])(h1_:WebL TT PL PS WC H p m es ts rs ks)(h2_:KF.PpAt H pw r)(h3_:r.length<=3000)(h4_:∀(ls:List KF.Lk)(H':Hp),Same H H'->Oth m es ts ks rs ls->Q (.bl (jw es ks rs ls L r)) H')
theorem gW:ay ["self","laying","unlike"] ["self","laying"] (ar bI):=by ac_nf
theorem AM{c:Bool} (F:Fun K "unpleased" "Tie.unpleased" bI f fd) (T:CT K C) (i:Met P w K mg base 1 C "wish" ["self"] (j7 c) q G):FnOk P w K mg base CX0 2 f fd ["self","laying"] (rO C c):=by
 refine F.ok gW (by walk_at "l") λY A g s H d Q E u h=>?_
 obtain⟨p,a,b,st,l,rfl,⟨j,B⟩,O,L,k⟩:=h;have m:=T.cl
 refine⟨_,(ah (aB 2 gW.nd (av eF (av b8 (av cV (pv 1) (bM (pv 0) rfl)) (av cV (pv 1) (bM (pv 0) rfl))) ai))
   (ao (aF (cE jj (pv 2) (kD (pv 0) m i.me i.ok (u.mono (by decide)) i.bn .nil ji) (aE _))))),?_⟩
 refine⟨_,rfl,_,rfl,p,C,j,_,_,rfl,B,T.cl,T.n1,j6 _ _ _,_,_,rfl,rfl,O,?_⟩;refine⟨_,rfl,_,rfl,p,C,j,_,_,rfl,B,T.cl,T.n2,oQ _ _ _,_,_,rfl,rfl,L,?_⟩;refine⟨_,_,rfl,rfl,_,_,rfl,rfl,?_⟩;refine⟨_,rfl,_,rfl,p,j,_,rfl,B,pH _ _ _ (by decide) (by decide) (by decide),p,rfl,?_⟩
 refine⟨rfl,?_⟩;have e:=ur (l/2^a.toNat) (l/2^b.toNat);have n:Q (V.bl (unp c a b l)) H:=k;unfold unp bit at n;rw[← e]at n;exact n
theorem rT:ay ["web","laying"] ["web","laying"] (ar jA):=by ac_nf
theorem FT{PS f1:Addr}{d1:FuncData} (F:Fun K "unpleased" "unpleased" jA f fd) (T:Txt mg) (cw:CW K q) (TL:CT K PL) (TS:CT K PS) (ab:Cal P w K mg base 1 "mask_of" ["places"] (lR K) a G) (u0:Met P w K mg base 2 PL "unpleased" ["self","laying"] (rO PL false) I J) (u1:Met P w K mg base 2 PS "unpleased" ["self","laying"] (rO PS true) f1 d1) :
  FnOk P w K mg base CX0 3 f fd ["web","laying"] (EC PL PS q):=by
 refine F.ok rT (by walk_at "l") λo A g s H Y Q E u h=>?_
 obtain⟨p,B,ks,l,rfl,⟨⟨dx,fs,r,xs,v,ap,ae,tk⟩,kl,aa⟩,kk⟩:=h;have aA:=TL.cl;have aI:=TS.cl;have am:xs.length=B.length:=tk.1;refine⟨_,(ao (aF (ab.c u (af (cR [("laying",1)] ["number","tie"] (gm rfl T.n_enumerate (af (bM (pv 0) rfl) aj)) (λC ex s H=>(dH (n:=2) (K:=K) rfl rfl (aJ (a8 (i:=0) (show(["number","tie","laying"]:List Str).Nodup from by decide) rfl (Or.inl rfl)) (aJ (a8 (i:=1) (show(["number","tie","laying"]:List Str).Nodup from by decide) rfl (Or.inl rfl)) bT)))) (λC ex s H=>(ij (lU (pe_or (qw (pv 1) aA u0.me u0.ok (u.mono (by decide)) u0.bn .nil ji (af (pv 2) aj)) (qw (pv 1) aI u1.me u1.ok (u.mono (by decide)) u1.bn .nil ji (af (pv 2) aj)))))) (λC ex s H=>(pv 0))) aj)))),?_⟩
 refine⟨_,rfl,p,q,dx,fs,_,rfl,v,cw.cl,cw.n2,ap,r,rfl,⟨_,SqL.of ae⟩,fO (K:=K) (xs:=xs) (λi M N=>Same H N/\M=(upL (U B ks l) i).map iV) (HJ (aw ∅)) ⟨λ_ _ e=>e,rfl⟩ (λi M N _ z=>SqL.of (z.1 _ _ ae)) ?_ ?_ ?_⟩
 .rintro i x M N T2 O ⟨m,rfl⟩ ac;have d:i<B.length:=by rw[← tk.1];exact(Hg.mp O).1
  obtain⟨e,t⟩:∃ e,B[i]?=some e:=⟨_,Hf d⟩;obtain⟨k,j⟩:∃ k,ks[i]?=some k:=⟨_,Hf ∅⟩
  have s3:=m.trans (ak ac (.tup [.int (i:Int),x]));obtain⟨p',al,x1,x2⟩:=(tk.mono s3).2 i e k t j;rw[O]at x1
  cases x1
  refine⟨T2,_,rfl,SqT.of ag,rfl,_,_,rfl,_,_,rfl,rfl,rfl,?_⟩;have hU:=U_at (l:=l) t j;have an:∀ b:Bool,b=U B ks l i->(if b=true then tVar 0 ([some (.int (i:Int)),some (.ref p'),some (.int l)]:St) (upd N T2 (.tup [.int (i:Int),.ref p'])) (λy H4=>Same H H4/\(upL (U B ks l) i).map iV++[y]=(upL (U B ks l) (i+1)).map iV) else Same H (upd N T2 (.tup [.int (i:Int),.ref p']))/\(upL (U B ks l) i).map iV=(upL (U B ks l) (i+1)).map iV):=λb L=>by
   rw[mJ,← L]
   cases b with
   |true =>
    refine iteT ⟨_,rfl,s3,?_⟩;rw[NA rfl,Hv];rfl
   |false =>
    refine iteF ⟨s3,?_⟩;rw[NB (by decide)]
  by_cases c:k.1=1
  .rw[MJ c]at x2 hU;refine .inr ⟨_,rfl,p',al,_,rfl,x2,pH _ _ _ (by decide) (by decide) (by decide),_,rfl,p',_,_,_,l,rfl,⟨al,x2⟩,∅,∅,_,rfl,?_⟩
   exact an _ hU.symm
  .rw[LY c]at x2 hU;refine .inl ⟨_,rfl,p',al,_,rfl,x2,pH _ _ _ (by decide) (by decide) (by decide),_,rfl,p',_,_,_,l,rfl,⟨al,x2⟩,∅,∅,_,rfl,?_⟩
   exact an _ hU.symm
 .rintro M N ⟨m,rfl⟩ D hD;rw[am];refine⟨D,upL (U B ks l) B.length,rfl,SqL.of ag,λp v=>?_,?_⟩
  .have:=Je.mp (Jv.mp v).1;omega
  .rw[nQ];exact kk _ (m.trans (ak hD _))
 .rintro i M N ⟨_,rfl⟩;rw[Hi];exact Io (Jc _ _) (by rw[Jb];exact Hl _)
theorem yB:ay ["web","laying","paper"] ["web","laying","paper"] (ar nH):=by ac_nf
theorem F2{TT f3 f4 PS WC:Addr}{d3 d4:FuncData} (F:Fun K "certain" "certain" nH f fd) (T:TxtO mg) (cw:CW K WC) (aV:Cal P w K mg base 5 "examined" ["many","links","marks","used","paper"] KF.spExam C G) (ap:Cal P w K mg base 1 "links_of" ["web"] (uB PL PS WC) I J) (an:Cal P w K mg base 3 "odd_rounds" ["web"] (z8 PL PS WC) f3 d3) (aS:Cal P w K mg base 3 "unpleased" ["web","laying"] (EC PL PS WC) f4 d4):FnOk P w K mg base CX0 6 f fd ["web","laying","paper"] (Af TT PL PS WC):=by
 refine F.ok yB (by walk_at "l") λaa A y s H vs Q E u h=>?_
 obtain⟨p,m,B,ts,rs,ks,L,pw,r,rfl,wl,pp,r3,kk⟩:=h;obtain⟨⟨S,wf⟩,g,kl,aL,kb,ab,e0,tb⟩:=wl;obtain⟨dx,fs,z,x,v,wg,_,l2,ae,tk⟩:=id wf;obtain⟨q5,z5,l5,al,r5⟩:=wg.rounds;obtain⟨q6,z6,l6,am,r6⟩:=wg.sides;have ro:=wg.part;have cnt:=gh g ro;have m2:=g.two e0;have aT:∀ r∈rs,r.length<=900:=λr u=>by
  have:=dh (ro.ring r u).nd (ro.ring r u).lt;omega
 have a1:z5.length=rs.length:=r5.1;refine⟨_,(ao (aF (aV.c u (af (az ax (by rfl) T.n_len aX (af (bM (pv 0) rfl) aj)) (af (ap.c u (af (pv 0) aj)) (af (an.c u (af (pv 0) aj)) (af (aS.c u (af (pv 0) (af (pv 1) aj))) (af (pv 2) aj)))))))),?_⟩
 refine⟨_,rfl,p,WC,dx,fs,_,rfl,v,cw.cl,cw.n4,l5,q5,z5,rfl,.inl (SqL.of al),?_⟩;rw[a1];refine⟨_,rfl,p,B,ks,rs,rfl,⟨dx,fs,z,x,q6,z6,v,l2,ae,tk,l6,am,r6⟩,kl,∅,λq Y b e nq hq lk=>?_⟩
 obtain⟨ls,a2,ln,lp⟩:=ES lk
 have O:Oth m B ts ks rs ls:=⟨g,ro,⟨ro.nd,ro.all,λr u=>(ro.ring r u).lt,λr u=>(ro.ring r u).nd,ln,λi l D=>(lp i l D).1⟩,kl,λi l D=>by
  obtain⟨k,M,N⟩:=(lp i l D).2
  exact⟨k,M,N,kb k (Hh M)⟩,m2,ab⟩
 have a0:=O.d.marks (MK (bc ks) B.length);refine⟨_,rfl,p,B,ks,rs,rfl,wf.r.mono e,kl,∅,∅,aT,λH3 s3=>?_⟩
 have aI:=e.trans s3;refine⟨_,rfl,_,rfl,p,B,ks,(L:Int),rfl,⟨⟨dx,fs,z,x,aI _ _ v,l2,aI _ _ ae,tk.mono aI⟩,kl,∅⟩,λH4 s4=>?_⟩
 have aA:=aI.trans s4;rw[a0];refine⟨_,rfl,rs.length,_,.ref q,pw,_,ls,r,rfl,(show KF.LnAt b (.ref q) ls from⟨q,Y,rfl,hq,a2⟩).mono (s3.trans s4),pp.mono aA,O.lok1 ∅,r3,λH5 s5=>?_⟩
 have ac:=kk ls H5 (aA.trans s5) O;have eU:MK (U B ks (L:Int)) B.length=MK (UB B ks L) B.length:=xh (n:=B.length) (IZ _ λi o=>by rw[fP,LY ∅,Iw]) (IZ _ λi o=>by rw[fP,LY ∅,Iw]) λa t=>by rw[fP,fP,U_nat kl aL]
 have lt:MK (UB B ks L) B.length<2^B.length:=IZ _ λi o=>by rw[fP,LY ∅,Iw]
 have st:∀ i,i<B.length->(KF.lkA ls i).2.2=stg ks i:=λi o=>by
  obtain⟨l,D⟩:∃ l,ls[i]?=some l:=⟨_,Hf ∅⟩
  obtain⟨k,M,N⟩:=(lp i l D).2;rw[KF.lkA_is D,N];unfold stg;rw[M]
 have eq:KF.exB rs.length (KF.oddE ls (MK (bc ks) B.length) B.length) ls ((MK (U B ks (L:Int)) B.length:Nat):Int) r=jw B ks rs ls L r:=by
  unfold KF.exB jw dueB;have j:KF.jB ls (KF.oddE ls (MK (bc ks) B.length) B.length) ((MK (U B ks (L:Int)) B.length:Nat):Int)=true:=by
   unfold KF.jB;rw[eU,KF.ends_is,ln,O.lay,Hn,MJ rfl,Lj];refine MJ ?_;have:(((MK (UB B ks L) B.length:Nat):Int)/2^B.length)=((MK (UB B ks L) B.length/2^B.length:Nat):Int):=by push_cast;rfl
   rw[this,Nat.div_eq_of_lt lt];rfl
  rw[j,IA,Bool.and_assoc,eU,KF.cost_is,ln,B9 st _ (Hl _)];rfl
 show Q (.bl (KF.exB rs.length (KF.oddE ls (MK (bc ks) B.length) B.length) ls ((MK (U B ks (L:Int)) B.length:Nat):Int) r)) H5;rw[eq];exact ac
inductive zU(vs:List L2.V)(H:L2.Hp)(Q:L2.VK)(x3_:L2.XK):Prop
 |mk (t pe pt pk:Addr)(c:Int)(m:Nat)(es:En)(ts:List (List Nat))(ks:Kn) (h0_:vs = [.ref t,.int c])(h1_:dE H t pe pt pk m es ts ks)(h2_:(∀ k∈ks,k.2<=10^(30:Int).toNat))(h3_:∀(t' pk':Addr)(ks':Kn)(H':Hp),Same H H'->dE H' t' pe pt pk' m es ts ks'->(∀ k∈ks',k.2<=10^(30:Int).toNat)->Q (.ref t') H')
theorem Bu:∀(f n:Nat),n<=f->0<n->K1.go (n&&&(n-1))+1=K1.go n
 |0,n,h,E=>by omega
 |f+1,n,h,E=>by
  rw[K1.go_eq n,K1.go_eq (n&&&(n-1)),Nat.and_div_two];have I:(n&&&(n-1))%2=1↔n%2=1/\(n-1)%2=1:=Nat.and_mod_two_eq_one;have z:(n&&&(n-1))%2=0:=by
   have:¬ (n&&&(n-1))%2=1:=λe=>by have:=I.mp e;omega
   omega
  rw[z];by_cases o:n%2=1
  .have e:(n-1)/2=n/2:=by omega
   rw[e,Nat.and_self];omega
  .have e:(n-1)/2=n/2-1:=by omega
   have Y:=Bu f (n/2) ∅ ∅
   rw[e];omega
theorem ju(a b:Int):decide (V.int a=V.int b)=decide (a=b):=decide_eq_decide.mpr ⟨V.int.inj,congrArg V.int⟩
inductive xA(vs:List L2.V)(H:L2.Hp)(Q:L2.VK)(x3_:L2.XK):Prop
 |mk (n:Nat) (h0_:vs = [.int (n:Int)])(h1_:Q (.bl (decide (K1.go n%2=1))) H)
inductive spDen(vs:List L2.V)(H:L2.Hp)(Q:L2.VK)(x3_:L2.XK):Prop
 |mk (t pe pt pk:Addr)(m:Nat)(es:En)(ts:List (List Nat))(ks:Kn)(L k:Nat) (h0_:vs = [.ref t,.int (L:Int),.int (k:Int)])(h1_:dE H t pe pt pk m es ts ks)(h2_:k<es.length)(h3_:Q (.bl (UB es ks L k)) H)
inductive Fv(vs:List L2.V)(H:L2.Hp)(Q:L2.VK)(x3_:L2.XK):Prop
 |mk (t pe pt pk:Addr)(m:Nat)(es:En)(ts:List (List Nat))(ks:Kn)(L:Nat) (h0_:vs = [.ref t,.int (L:Int)])(h1_:dE H t pe pt pk m es ts ks)(h2_:∀ H',Same H H'->Q (.int (wor es ks L)) H')
theorem rY:ay ["built","cell"] ["built","cell"] (ar jF):=by ac_nf
theorem Dg (F:Fun K "_law_small" "_law_small" jF f fd) (T:Txt mg):FnOk P w K mg base CX0 1 f fd ["built","cell"] zU:=by
 refine F.ok rY (by walk_at "l") λY A g s H l Q E u h=>?_
 obtain⟨t,pe,pt,pk,c,m,B,q,r,rfl,bp,kb,G⟩:=h;have y:=bp.few;have kl:=bp.kl;obtain⟨J,wp,⟨a,ab,n⟩,_,_⟩:=id bp;have al:a.length=r.length:=n.1
 refine⟨_,(ah (bF (aD jj (av aY (pv 1) ai) ai (aE _)) (ao (aF (pv 0))) aN)
   (ao (aF (bh (af (aM (pv 0) ai) (af (aM (pv 0) ai) (af (cR [] ["one"] (aP (aM (pv 0) ai)) pg_c pt_c (λC p s H=>(bh (af (gZ K (pv 0) ai) (af (av aY (gZ K (pv 0) ai) ai) aj))))) aj))))))),?_⟩
 refine⟨_,rfl,_,_,rfl,rfl,(by show(0:Int)<3;decide),rfl,_,rfl,ite2 (λ_=>?_) (λ_=>?_)⟩
 .exact⟨_,rfl,G t pk r H (λ_ _ z=>z) bp kb⟩
 refine⟨_,rfl,t,_,0,_,rfl,rfl,SqT.of J,at30,_,rfl,t,_,1,_,rfl,rfl,SqT.of J,at31,_,rfl,t,_,2,_,rfl,rfl,SqT.of J,at32,pk,rfl,⟨_,SqL.of ab⟩,bg (K:=K) (xs:=a) (λi o N=>∃ I:Kn,Same H N/\gY N o I/\I.length=i/\∀ k∈I,k.2<=10^(30:Int).toNat) (HJ (aw ∅)) ⟨[],λ_ _ z=>z,⟨rfl,λi k e=>by simp at e⟩,rfl,λk z=>nomatch z⟩ (λi o N _ ⟨_,z,_⟩=>SqL.of (z _ _ ab)) ?_ ?_⟩
 .rintro i x o N O ⟨I,v,td,ap,an⟩;obtain⟨k,j⟩:∃ k,r[i]?=some k:=⟨_,Hf (by rw[← al];exact(Hg.mp O).1)⟩
  obtain⟨ae,k0,t2,M,b⟩:=n.2 i k j;rw[O]at M
  cases M
  refine⟨_,rfl,t2,_,0,_,rfl,rfl,SqT.of (v _ _ b),at0,_,rfl,t2,_,1,_,rfl,rfl,SqT.of (v _ _ b),at1,_,_,rfl,rfl,(by show(0:Int)<4;decide),(by show 2<=LZ;decide),λt3 ac=>?_⟩
  have L:=ak ac (.tup [.int k.1,.int (k.2%4)]);refine⟨I++[(k.1,k.2%4)],v.trans L,(td.mono L).snoc ag ae (by show 0<=k.2%4;omega),by rw[Hk,ap];rfl,λx O=>?_⟩
  rcases Hx.mp O with z | z
  .exact an x z
  .rw[HB.mp z];show k.2%4<=_;have:(4:Int)<=10^(30:Int).toNat:=by decide
   omega
 rintro o N zl ⟨I,v,td,ap,an⟩ D hD;have sD:=ak hD (.lst o);refine⟨(by show 3<=LZ;decide),λt4 am=>?_⟩
 have d:=ak am (.tup [.ref pe,.ref pt,.ref D]);have aa:=(v.trans sD).trans d;exact G t4 D I _ aa ⟨ag,wp.mono aa,⟨o,d _ _ ag,(td.mono sD).mono d⟩,y,∅⟩ an
theorem iT:ay ["mask","count"] ["mask"] (ar nG):=by ac_nf
theorem FY (F:Fun K "_law_odd" "_law_odd" nG f fd):FnOk P w K mg base CX0 1 f fd ["mask"] xA:=by
 refine F.ok iT (by walk_at "l") λI A g s H l Q E u h=>?_
 obtain⟨n,rfl,j⟩:=h
 refine⟨_,(ah (aB 1 iT.nd ai)
   (ah (dU PassesOwn.never (aD vf (pv 0) ai (aE _)) (ah (aB 0 iT.nd (av eF (pv 0) (av dM (pv 0) ai)))
   (ao (EL (i:=1) iT.nd rfl (Or.inl rfl) ai EZ))))
   (ao (aF (cE cq (av aY (pv 1) ai) ai (aE _)))))),?_⟩
 refine eQ (λY M=>∃(k c:Nat),Y = [some (.int (k:Int)),some (.int (c:Int))]/\M=H/\K1.go k+c=K1.go n) (λY _=>match Y with | [some (.int k),_]=>k.toNat | _=>0) ⟨n,0,rfl,rfl,rfl⟩ ?_ ?_
 .rintro Y M ⟨k,c,rfl,rfl,m⟩;refine⟨_,rfl,_,_,rfl,rfl,_,rfl,?_⟩;refine ite2 (λz=>?_) (λz=>?_)
  .have C:0<k:=by have:=Np z;omega
   have v:Mu (k:Int) ((k:Int)-1)=((k&&&(k-1):Nat):Int):=by
    rw[show(k:Int)-1=((k-1:Nat):Int) by omega,Nz (IH _) (IH _),Hn,Hn]
   have o:=Bu k k (Hl _) C;have lt:k&&&(k-1)<k:=by
    have:k&&&(k-1)<=k-1:=Lr;omega
   refine⟨_,rfl,_,rfl,_,_,rfl,rfl,_,_,rfl,rfl,?_⟩;refine⟨_,rfl,_,_,rfl,rfl,?_⟩;refine⟨⟨k&&&(k-1),c+1,?_,rfl,∅⟩,?_⟩
   .show[some (V.int (Mu (k:Int) ((k:Int)-1))),some (V.int ((c:Int)+1))]=_;rw[v];rfl
   .show(Mu (k:Int) ((k:Int)-1)).toNat<((k:Nat):Int).toNat;rw[v];omega
  .have q:k=0:=by
    have:¬ (0:Int)<(k:Int):=λy=>z (MJ y);omega
   subst q;rw[K1.go_zero,Nat.zero_add]at m;subst m;refine⟨_,rfl,_,_,rfl,rfl,(by show(0:Int)<2;decide),rfl,?_⟩
   have e:decide (V.int ((K1.go n:Nat)%2:Int)=V.int 1)=decide (K1.go n%2=1):=by
    rw[ju];exact decide_eq_decide.mpr ⟨λh=>by omega,λh=>by omega⟩
   rw[← e]at j;exact j
 .rintro Y a t x d ⟨N,G,r,D,p,B,b,L,J⟩;exact⟨N,G,r,D,p,B,b,L,d _ _ J⟩
theorem kf:ay ["built","laying","k","end"] ["built","laying","k"] (ar ib):=by ac_nf
theorem ok_den (F:Fun K "_law_denied" "_law_denied" ib f fd):FnOk P w K mg base CX0 1 f fd ["built","laying","k"] spDen:=by
 refine F.ok kf (by walk_at "l") λY A g s H l Q E u h=>?_
 obtain⟨t,i,pt,n,m,B,q,r,L,k,rfl,D,C,j⟩:=h;have a:=D.kl;obtain⟨J,wp,⟨x,I,O⟩,_,_⟩:=id D;obtain⟨M,v,N⟩:=wp.en;obtain⟨e,T⟩:∃ e,B[k]?=some e:=⟨_,Hf C⟩;obtain⟨kd,aa⟩:∃ kd,r[k]?=some kd:=⟨_,Hf ∅⟩
 obtain⟨p,o,c⟩:=N.2 k e T;obtain⟨ab,k0,d,y,b⟩:=O.2 k kd aa
 refine⟨_,(ah (aB 3 kf.nd (aR (aM (pv 0) ai) (pv 2)))
   (ao (aF (cE jj (av eF (av b8 (av cV (pv 1) (aM (pv 3) ai)) (av cV (pv 1) (aM (pv 3) ai))) ai) (aM (aR (aM (pv 0) ai) (pv 2)) ai) (aE _))))),?_⟩
 refine⟨_,rfl,t,_,0,_,rfl,rfl,SqT.of J,at30,_,rfl,i,M,_,_,rfl,rfl,SqL.of v,aC o,?_⟩;refine⟨_,rfl,_,rfl,p,_,0,_,rfl,rfl,SqT.of c,at0,_,_,rfl,rfl,IH _,_,rfl,_,rfl,p,_,1,_,rfl,rfl,SqT.of c,at1,_,_,rfl,rfl,IH _,_,_,rfl,rfl,_,_,rfl,rfl,_,rfl,t,_,2,_,rfl,rfl,SqT.of J,at32,_,rfl,n,x,_,_,rfl,rfl,SqL.of I,aC y,d,_,0,_,rfl,rfl,SqT.of b,at0,rfl,?_⟩;have G:(!decide (V.int (Mu (Mw ((L:Int)/2^((e.1:Nat):Int).toNat) ((L:Int)/2^((e.2:Nat):Int).toNat)) 1)=V.int kd.1))=UB B r L k:=by
  rw[ur,Hc T,qm aa];have b1:(L:Int)/2^((e.1:Nat):Int).toNat%2=bit (L:Int) (e.1:Int):=rfl;have b2:(L:Int)/2^((e.2:Nat):Int).toNat%2=bit (L:Int) (e.2:Int):=rfl;rw[b1,b2,lQ,lQ];rcases ab with z | z<;>rw[z]<;>cases L.testBit e.1<;>cases L.testBit e.2<;>decide
 rw[← G]at j;exact j
theorem rX:ay ["built","laying"] ["built","laying"] (ar jE):=by ac_nf
theorem ok_wor (F:Fun K "_law_worth" "_law_worth" jE f fd) (T:Txt mg) (al:Cal P w K mg base 1 "_law_denied" ["built","laying","k"] spDen a G):FnOk P w K mg base CX0 2 f fd ["built","laying"] Fv:=by
 refine F.ok rX (by walk_at "l") λY A g s H v Q E u h=>?_
 obtain⟨t,pe,pt,pk,m,B,q,r,L,rfl,bp,j⟩:=h;have O:=bp.few;have kl:=bp.kl;obtain⟨J,wp,⟨x,ac,n⟩,_,_⟩:=id bp;obtain⟨M,ab,hE⟩:=wp.en;have yl:M.length=B.length:=hE.1;refine⟨_,(ao (aF (az (fx rfl) (by rfl) T.n_sum lx (af (cR [("laying",1),("built",0)] ["k"] (aO rfl T.n_range (af (az ax (by rfl) T.n_len aX (af (aM (pv 0) ai) aj)) aj)) pg_c (λC p s H=>(ij (lU (al.c u (af (pv 2) (af (pv 1) (af (pv 0) aj))))))) (λC p s H=>(gZ K (sr K (gZ K (pv 2) ai) (pv 0)) ai))) aj)))),?_⟩
 refine⟨_,rfl,t,_,0,_,rfl,rfl,SqT.of J,at30,pe,M,rfl,.inl (SqL.of ab),_,rfl,∅,∅,jZ (k:=(M.length:Int).toNat) (λi o N=>N=H/\∃ ns:List Int,o=ns.map V.int/\ns.sum=(prL r (UB B r L) i).sum/\ns.length<=i) (HJ (aw ∅)) ⟨rfl,[],rfl,rfl,Ia _⟩ ?_ ?_ (λi o N aa=>by obtain⟨_,ns,e,_,l⟩:=aa;rw[e,Hi];exact l)⟩
 .rintro i o N d ⟨rfl,ns,rfl,y,I⟩;rw[Hn,yl]at d;have e0:(0:Int)+(i:Int)=(i:Int):=IF _;rw[e0];obtain⟨kd,ae⟩:∃ kd,r[i]?=some kd:=⟨_,Hf ∅⟩
  obtain⟨am,k0,t2,z,b⟩:=n.2 i kd ae;have sg:stg r i=kd.2:=by unfold stg;rw[ae]
  refine⟨rfl,_,rfl,_,rfl,_,rfl,t,pe,pt,pk,m,B,q,r,L,i,rfl,bp,d,_,rfl,?_⟩
  cases hU:UB B r L i with
  |true =>
   refine iteT ⟨_,rfl,t,_,2,_,rfl,rfl,SqT.of J,at32,_,rfl,pk,x,_,_,rfl,rfl,SqL.of ac,aC z,t2,_,1,_,rfl,rfl,SqT.of b,at1,rfl,ns++[kd.2],by rw[Hv];rfl,?_,by rw[Hk];exact Nat.succ_le_succ I⟩
   rw[qo,J2,J2,y,hU,NA rfl,sg]
  |false =>
   refine iteF ⟨rfl,ns,rfl,?_,∅⟩
   rw[qo,J2,y,hU,NB HG];simp
 rintro o N ⟨rfl,ns,rfl,y,_⟩ D hD;rw[Hn,yl]at y;refine⟨D,ns,rfl,SqL.of ag,?_⟩;rw[y];exact j _ (ak hD _)
def WI(kvs:List (Key×V))(rs:List (List Nat)):Prop:=(∀(d a:Nat)(r:List Nat),rs[a]?=some r->d∈r->valV kvs (Sum.inl (d:Int))=some (.int (a:Int)))/\∀ d:Nat,d∉rs.flatten->valV kvs (Sum.inl (d:Int))=none
def SdAt(H:Hp)(zs:List V)(N:Nat)(rs:List (List Nat))(sd:List (Nat×Nat)):Prop:=sd.length=N/\cm H zs sd/\∀(i:Nat)(x:Nat×Nat),sd[i]?=some x->(∃ r,rs[x.1]?=some r/\2*i∈r)/\∃ r,rs[x.2]?=some r/\2*i+1∈r
inductive spSd(vs:List L2.V)(H:L2.Hp)(Q:L2.VK)(x3_:L2.XK):Prop
 |mk (t pe pt pk:Addr)(m:Nat)(es:En)(ts:List (List Nat))(ks:Kn)(rs:List (List Nat)) (h0_:vs = [.ref t])(h1_:dE H t pe pt pk m es ts ks)(h2_:bx (fol es ts) (2*es.length) (2*es.length) rs)(h3_:∀(q:Addr)(zs:List V)(sd:List (Nat×Nat))(H':Hp),Same H H'->H q=none->H' q=some (.lst zs)->SdAt H' zs es.length rs sd->Q (.ref q) H')
theorem cJ:ay ["built","where","many","dart","each"] ["built"] (ar jG):=by ac_nf
theorem ok_sd (F:Fun K "_law_sides" "_law_sides" jG f fd) (T:Txt mg) (aA:Cal P w K mg base 3 "_law_round" ["ends","turns","dart"] (pN K) p G):FnOk P w K mg base CX0 4 f fd ["built"] spSd:=by
 refine F.ok cJ (by walk_at "l") λaa A l s H vs Q E u h=>?_
 obtain⟨t,pe,pt,pk,m,B,ts,ks,a6,rfl,bp,ba,kk⟩:=h;have hu:=qN u;have ab:=bp.few;obtain⟨ht,wp,_,_,_⟩:=id bp;obtain⟨I,an,hE⟩:=wp.en;obtain⟨xs,ap,hX⟩:=wp.tu;have tw:=wp.g.w;have pm:=perm tw;have yl:I.length=B.length:=hE.1
 refine⟨_,(ah (aB 1 cJ.nd kE)
   (ah (aB 2 cJ.nd ai)
   (ah (bw PassesOwn.never rfl (aO rfl T.n_range (af (av b9 ai (az ax (by rfl) T.n_len aX (af (aM (pv 0) ai) aj))) aj)) (bY 3 cJ.nd) (ao (bF (xK (kG hu (pv 3) (pv 1))) (ah (bw PassesOwn.never rfl (aP (aA.c u (af (aM (pv 0) ai) (af (aM (pv 0) ai) (af (pv 3) aj))))) (bY 4 cJ.nd) (ao (jO hu (pv 1) (pv 4) (pv 2) rfl)))
   (ao (EL (i:=2) cJ.nd rfl (Or.inl rfl) ai EZ))) aN)))
   (ao (aF (cR [("where",1)] ["k"] (aO rfl T.n_range (af (az ax (by rfl) T.n_len aX (af (aM (pv 0) ai) aj)) aj)) pg_c pt_c (λC ex s H=>(bh (af (gn hu (pv 1) (av b9 ai (pv 0)) (λ_ _=>rfl)) (af (gn hu (pv 1) (av bE (av b9 ai (pv 0)) ai) (λ_ _=>rfl)) aj)))))))))),?_⟩
 refine λd hd=>?_;have sd:=ak hd (.dK []);have hN:(2*(I.length:Int)).toNat=2*B.length:=by omega
 refine⟨_,rfl,t,_,0,_,rfl,rfl,SqT.of (sd _ _ ht),at30,pe,I,rfl,.inl (SqL.of (sd _ _ an)),_,_,rfl,rfl,.inl ⟨by decide,by decide⟩,_,rfl,∅,∅,bQ (n:=(2*(I.length:Int)).toNat) (λi Y N=>∃ v3 v4 rs v,Y = [some (.ref t),some (.ref d),some (.int ((rs.length:Nat):Int)),v3,v4]/\Same H N/\N d=some (.dK v)/\v.length<=rs.flatten.length/\WI v rs/\bx (fol B ts) (2*B.length) i rs)
  ⟨_,_,[],[],rfl,sd,ag,Hl _,⟨λd a r e=>by simp at e,λd _=>rfl⟩,oX _ _⟩ ?_ ?_⟩
 .rintro i Y N o ⟨v3,v4,rs,v,rfl,s2,aI,kl,wi,ro⟩;rw[hN]at o;have e0:(0:Int)+(i:Int)=(i:Int):=IF _;rw[e0];have fl:=ng ro;refine⟨_,rfl,_,rfl,_,_,rfl,DGet.k (k:=Sum.inl (i:Int)) aI,_,rfl,?_⟩;refine ite2 (λc=>?_) (λc=>?_)
  .have a4:i∉rs.flatten:=λz=>by
    obtain⟨r,M,J⟩:=Ij.mp z;obtain⟨a,ha⟩:=IV M;rw[wi.1 i a r ha J]at c
    cases c
   refine⟨_,rfl,t,_,0,_,rfl,rfl,SqT.of (s2 _ _ ht),at30,_,rfl,t,_,1,_,rfl,rfl,SqT.of (s2 _ _ ht),at31,_,rfl,pe,pt,I,xs,m,B,ts,i,rfl,SqL.of (s2 _ _ an),hE.mono s2,SqL.of (s2 _ _ ap),hX.mono s2,tw,∅,o,λq r H3 s3 hq aT pa ri=>?_⟩
   have aS:=s2.trans s3;have rl:r.length<=2*B.length:=dh ri.nd ri.lt;have a0:q≠d:=λz=>by rw[z,aI]at hq;cases hq
   refine⟨q,rfl,⟨_,SqL.of aT⟩,cu (K:=K) (xs:=r.map iV) (λj Y H5=>∃ v4 ac,Y = [some (.ref t),some (.ref d),some (.int ((rs.length:Nat):Int)),some (.int (i:Int)),v4]/\Same H H5/\H5 q=some (.lst (r.map iV))/\H5 d=some (.dK ac)/\ac.length<=rs.flatten.length+j/\∀ x:Nat,valV ac (Sum.inl (x:Int))=if x∈r.take j then some (.int ((rs.length:Nat):Int)) else valV v (Sum.inl (x:Int)))
    ⟨_,v,rfl,aS,aT,s3 _ _ aI,kl,λx=>by rw[K6,NB Jl]⟩ (λj Y H5 _ am=>by obtain⟨_,_,_,_,z,_⟩:=am;exact SqL.of z) ?_ ?_⟩
   .rintro j x Y H5 O ⟨bb,ac,rfl,s5,p,f2,aV,aL⟩;rw[Hr]at O;obtain⟨g,hg,rfl⟩:=HF.mp O;have a7:j<r.length:=(Hg.mp hg).1;refine⟨_,rfl,_,rfl,_,rfl,d,_,rfl,DPut.k (k:=Sum.inl (g:Int)) f2 (aw ∅),?_⟩
    refine⟨_,_,rfl,aK s5 hd _,by rw[aq a0];exact p,ag,by have:=cF ac (Sum.inl (g:Int)) (V.int ((rs.length:Nat):Int));omega,λx=>?_⟩
    rw[eX];have tk:r.take (j+1)=r.take j++[g]:=by rw[HH,hg];rfl
    rw[tk];by_cases z:x=g
    .subst z;rw[NA rfl,NA (by simp)]
    .rw[NB (λy=>z (by have:=Sum.inl.inj y;omega)),aL x]
     have:x∈r.take j++[g]↔x∈r.take j:=by simp[z]
     by_cases q:x∈r.take j
     .rw[NA q,NA (this.mpr q)]
     .rw[NB q,NB (λy=>q (this.mp y))]
   .rintro Y H5 ⟨bb,ac,rfl,s5,p,f2,aV,aL⟩;rw[Hi]at aV aL;rw[HL]at aL;have bd:=ro.put pm a4 o ri pa;have a2:∀ x,x∈rs.flatten->x∉r:=λx M J=>by
     have:=bd.nd;rw[IE,KP]at this;exact(HP.mp this).2.2 x M x J rfl
    refine⟨_,rfl,_,_,rfl,rfl,?_⟩;refine⟨some (.int (i:Int)),bb,rs++[r],ac,?_,s5,f2,by rw[IE,KP,Hk];exact aV,⟨λx a r' ha O=>?_,λx O=>?_⟩,bd⟩
    .rw[Hk];rfl
    .rw[aL x];by_cases al:a<rs.length
     .rw[Ho al]at ha;rw[NB (a2 x (Ij.mpr ⟨r',Hh ha,O⟩))];exact wi.1 x a r' ha O
     .have bi:=(Hg.mp ha).1
      rw[Hk,Ht]at bi;have ae:a=rs.length:=by omega
      subst ae;rw[Hm (Hl _),HQ]at ha
      cases ha
      rw[NA O]
    .rw[IE,KP,Hx]at O;rw[aL x,NB (λy=>O (.inr y))];exact wi.2 x λy=>O (.inl y)
  .have a5:i∈rs.flatten:=by
    by_cases z:i∈rs.flatten
    .exact z
    .exact NC (by rw[wi.2 i z];rfl) c
   exact⟨_,_,rs,v,rfl,s2,aI,kl,wi,ro.skip a5⟩
 .rintro Y N ⟨v3,v4,rs,v,rfl,s2,aI,kl,wi,ro⟩;rw[hN]at ro;have be:∀ x,x<2*B.length->∃ a,valV v (Sum.inl (x:Int))=some (.int ((a:Nat):Int))/\∃ r,a6[a]?=some r/\x∈r:=λx O=>by
   obtain⟨a,r,M,J⟩:=ro.at O;obtain⟨b,r',h3,h4⟩:=ba.at O;have:=ro.same ba M h3 J h4;subst this;exact⟨a,wi.1 x a r M J,r',h3,h4⟩
  refine⟨_,rfl,t,_,0,_,rfl,rfl,SqT.of (s2 _ _ ht),at30,pe,I,rfl,.inl (SqL.of (s2 _ _ an)),_,rfl,∅,∅,cj (n:=(I.length:Int).toNat) (λi zs H5=>∃ sd:List (Nat×Nat),Same N H5/\cm H5 zs sd/\sd.length=i/\∀(j:Nat)(x:Nat×Nat),sd[j]?=some x->(∃ r,a6[x.1]?=some r/\2*j∈r)/\∃ r,a6[x.2]?=some r/\2*j+1∈r) (HJ (aw ∅)) ⟨[],λ_ _ e=>e,⟨rfl,λi e z=>by simp at z⟩,rfl,λj x z=>by simp at z⟩ ?_ ?_⟩
  .rintro i zs H5 o ⟨sd,s5,hz,sl,hs⟩;rw[Hn,yl]at o;have e0:(0:Int)+(i:Int)=(i:Int):=IF _;rw[e0];obtain⟨a,ha,a3⟩:=be (2*i) ∅
   obtain⟨b,L,bm⟩:=be (2*i+1) ∅
   have a1:=s5 _ _ aI;refine⟨_,rfl,_,rfl,_,_,rfl,rfl,.inl ⟨by decide,by decide⟩,d,_,rfl,.inl ⟨_,.inl ((2*i:Nat):Int),.inl a1,rfl,ha.symm⟩,_,rfl,_,rfl,_,_,rfl,rfl,.inl ⟨by decide,by decide⟩,_,_,rfl,rfl,d,_,rfl,.inl ⟨_,.inl ((2*i+1:Nat):Int),.inl a1,rfl,L.symm⟩,(by show 2<=LZ;decide),λg hg=>?_⟩
   have sg:=ak hg (.tup [.int (a:Int),.int (b:Int)]);refine⟨sd++[(a,b)],s5.trans sg,(hz.mono sg).snoc ag,by rw[Hk,sl];rfl,λj x O=>?_⟩
   by_cases jl:j<sd.length
   .rw[Ho jl]at O;exact hs j x O
   .have bn:=(Hg.mp O).1
    rw[Hk,Ht]at bn;have je:j=sd.length:=by omega
    rw[je,Hm (Hl _),HQ]at O
    cases O
    rw[je,sl];exact⟨a3,bm⟩
  rintro zs H5 _ ⟨sd,s5,hz,sl,hs⟩ D hD;rw[Hn,yl]at sl;have sD:=ak hD (.lst zs);exact kk D zs sd _ (s2.trans (s5.trans sD)) (sP (s2.trans s5) hD) ag ⟨sl,hz.mono sD,hs⟩
open KF (andN orN shlN xorN)
structure LsS(sd:List (Nat×Nat))(ks:Kn)(N:Nat)(ls:List KF.Lk):Prop where
 ln:ls.length=N
 sl:sd.length=N
 sd:∀(i:Nat)(l:KF.Lk),ls[i]?=some l->sd[i]?=some (l.1,l.2.1)/\∃ k,ks[i]?=some k/\l.2.2=k.2
 lt:∀ l∈ls,l.1<40/\l.2.1<40
theorem Oth.lsS(O:Oth m es ts ks rs ls)(e:rs.length<=40)(h:SdAt H zs es.length rs sd):LsS sd ks es.length ls:=by
 obtain⟨j,_,y⟩:=h;refine⟨O.d.ln,j,λi l D=>⟨?_,?_⟩,λl D=>?_⟩
 .have N:=(Hg.mp D).1
  have t:=O.d.ln;obtain⟨x,v⟩:∃ x,sd[i]?=some x:=⟨_,Hf ∅⟩
  obtain⟨⟨w,I,b1⟩,g,s,b2⟩:=y i x v;obtain⟨⟨f,n,b3⟩,p,c,b4⟩:=O.d.sd i l D;have G:=O.ro.same O.ro I n b1 b3;have E:=O.ro.same O.ro s c b2 b4;rw[v,← G,← E]
 .obtain⟨k,a,b,_⟩:=O.ws i l D;exact⟨k,a,b⟩
 .obtain⟨a,b⟩:=O.d.rooms l D;omega
inductive Fy(vs:List L2.V)(H:L2.Hp)(Q:L2.VK)(x3_:L2.XK):Prop
 |mk (t pe pt pk q:Addr)(m:Nat)(es:En)(ts:List (List Nat))(ks:Kn)(zs:List V)(sd:List (Nat×Nat))(ls:List KF.Lk) (h0_:vs = [.ref t,.ref q])(h1_:dE H t pe pt pk m es ts ks)(h2_:H q=some (.lst zs))(h3_:cm H zs sd)(h4_:LsS sd ks es.length ls)(h5_:Q (.int ((KF.oddE ls (MK (bc ks) es.length) es.length:Nat):Int)) H)
theorem eZ:ay ["built","sides","marks","k"] ["built","sides"] (ar jK):=by ac_nf
theorem ok_mks (F:Fun K "_law_marks" "_law_marks" jK f fd) (T:Txt mg):FnOk P w K mg base CX0 1 f fd ["built","sides"] Fy:=by
 refine F.ok eZ (by walk_at "l") λI A g s H v Q E u h=>?_
 obtain⟨t,pe,pt,pk,q,m,B,j,r,o,sd,ls,rfl,bp,y,G,L,k⟩:=h;have O:=bp.few;have kl:=bp.kl;obtain⟨J,wp,⟨x,aa,a⟩,_,_⟩:=id bp;have zl:o.length=B.length:=by rw[G.1,L.sl]
 refine⟨_,(ah (aB 2 eZ.nd ai)
   (ah (bw PassesOwn.never rfl (aO rfl T.n_range (af (az ax (by rfl) T.n_len aX (af (pv 1) aj)) aj)) (bY 3 eZ.nd) (ao (bF (aD cq (aM (aR (aM (pv 0) ai) (pv 3)) ai) ai (aE _)) (ao (aB 2 eZ.nd (av b8 (av b8 (pv 2) (av bJ ai (aM (aR (pv 1) (pv 3)) ai))) (av bJ ai (aM (aR (pv 1) (pv 3)) ai))))) aN)))
   (ao (aF (pv 2))))),?_⟩
 refine⟨_,rfl,q,o,rfl,.inl (SqL.of y),_,rfl,∅,∅,bQ (n:=(o.length:Int).toNat) (λi Y N=>∃ v3,Y = [some (.ref t),some (.ref q),some (.int ((KF.oddE ls (MK (bc r) B.length) i:Nat):Int)),v3]/\N=H) ⟨_,rfl,rfl⟩ ?_ ?_⟩
 .rintro i Y N d ⟨v3,rfl,rfl⟩;rw[Hn,zl]at d;have e0:(0:Int)+(i:Int)=(i:Int):=IF _;rw[e0];obtain⟨kd,ab⟩:∃ kd,r[i]?=some kd:=⟨_,Hf ∅⟩
  obtain⟨ac,k0,t2,M,b⟩:=a.2 i kd ab;obtain⟨l,D⟩:∃ l,ls[i]?=some l:=⟨_,Hf (by rw[L.ln];exact d)⟩
  obtain⟨p,x1,x2⟩:=G.2 i _ (L.sd i l D).1;have ae:=L.lt l (Hh D);have pu:=qm ab;have st:KF.oddE ls (MK (bc r) B.length) (i+1)=if bc r i=true then KF.oddE ls (MK (bc r) B.length) i^^^KF.endX (KF.lkA ls i) else KF.oddE ls (MK (bc r) B.length) i:=by
   show(if(MK (bc r) B.length).testBit i=true then _ else _)=_;rw[fP,MJ d,IA]
  refine⟨_,rfl,t,_,2,_,rfl,rfl,SqT.of J,at32,_,rfl,pk,x,_,_,rfl,rfl,SqL.of aa,aC M,t2,_,0,_,rfl,rfl,SqT.of b,at0,rfl,_,rfl,ite2 (λc=>?_) (λc=>?_)⟩
  .have C:kd.1=1:=V.int.inj (Np c)
   rw[MJ C]at pu;refine⟨_,rfl,_,rfl,_,rfl,q,o,_,_,rfl,rfl,SqL.of y,aC x1,p,_,0,_,rfl,rfl,SqT.of x2,at0,_,_,rfl,rfl,⟨∅,∅,by decide⟩,_,_,rfl,rfl,_,rfl,_,rfl,q,o,_,_,rfl,rfl,SqL.of y,aC x1,p,_,1,_,rfl,rfl,SqT.of x2,at1,_,_,rfl,rfl,⟨∅,∅,by decide⟩,_,_,rfl,rfl,?_⟩
   refine⟨some (.int (i:Int)),?_,rfl⟩;have e:Mw (Mw ((KF.oddE ls (MK (bc r) B.length) i:Nat):Int) (1*2^((l.1:Nat):Int).toNat)) (1*2^((l.2.1:Nat):Int).toNat)=((KF.oddE ls (MK (bc r) B.length) (i+1):Nat):Int):=by
    rw[shlN,shlN,xorN,xorN,st,pu,NA rfl,KF.lkA_is D,IJ];rfl
   rw[← e];rfl
  .have C:¬ kd.1=1:=λz=>c (MJ (by rw[z]))
   rw[LY C]at pu;refine⟨some (.int (i:Int)),?_,rfl⟩;rw[st,pu,NB HG];rfl
 .rintro Y N ⟨v3,rfl,rfl⟩;rw[Hn,zl];exact⟨_,rfl,k⟩
theorem xf:∀(f n k:Nat),n<=f->(K2.bitsF k n).length=K1.go n
 |0,n,k,h=>by
  have z:n=0:=by omega
  subst z;rw[K2.bitsF_zero,K1.go_zero];rfl
 |f+1,n,k,h=>by
  by_cases z:n=0
  .subst z;rw[K2.bitsF_zero,K1.go_zero];rfl
  .rw[K1.go_eq];by_cases o:n%2=1
   .rw[K2.bitsF_odd o,HD,xf f (n/2) (k+1) ∅]
    omega
   .rw[K2.bitsF_even z o,xf f (n/2) (k+1) ∅]
    omega
theorem go_bl(n:Nat):(KF.bl n).length=K1.go n:=xf n n 0 (Hl _)
theorem sh_c{r:List KF.Pr}(h:r.all (KF.cB rs.length (KF.oddE ls (MK (bc ks) es.length) es.length))=false):jw es ks rs ls L r=false:=by unfold jw dueB;rw[h,Iw,Iw]
theorem sh_l{r:List KF.Pr}(h:ls.all (KF.lB r)=false):jw es ks rs ls L r=false:=by unfold jw dueB;rw[h,I8,Iw]
theorem Fb{l:List α}{f:α->Bool}{x:α}(h:l[i]?=some x)(O:f x=false):l.all f=false:=by
 cases z:l.all f with
 |false=>rfl
 |true=>rw[Km.mp z x (Hh h)]at O;cases O
theorem yp{l:List α}{f:α->Bool}{x:α}(h:l[i]?=some x)(M:(l.take i).all f=true)(O:f x=true):(l.take (i+1)).all f=true:=by
 rw[HH,h,List.all_append,M];show(true&&([x].all f))=true;simp[O]
theorem Ak{f:Nat->Nat}(b:bx f (2*N) (2*N) rs)(M:1<=rs.length)(sl:sd.length=N)(l:∀ (i:Nat) (x:Nat×Nat),sd[i]?=some x->(∃ r,rs[x.1]?=some r/\2*i∈r)/\∃ r,rs[x.2]?=some r/\2*i+1∈r){k:Int}(E:k∈sd.map λx=>((max x.1 x.2:Nat):Int))(L:∀ y∈sd.map (λx=>((max x.1 x.2:Nat):Int)),y<=k):1+k=((rs.length:Nat):Int):=by
 obtain⟨x,O,rfl⟩:=Ie.mp E;obtain⟨i,o⟩:=Ih.mp O;obtain⟨⟨w,I,_⟩,g,s,_⟩:=l i x o;have j:=(Hg.mp I).1;have Q:=(Hg.mp s).1;obtain⟨r,u⟩:∃ r,rs[rs.length-1]?=some r:=⟨_,Hf ∅⟩
 have h:=b.ring r (Hh u);obtain⟨d,hd⟩:∃ d,r[0]?=some d:=⟨_,Hf h.ne⟩;have m:=Hh hd;have dl:=h.lt d m;obtain⟨y,G⟩:∃ y,sd[d/2]?=some y:=⟨_,Hf ∅⟩
 obtain⟨⟨a,n,b3⟩,p,c,b4⟩:=l (d/2) y G;have:=L _ (Ie.mpr ⟨y,Hh G,rfl⟩);rcases Nat.mod_two_eq_zero_or_one d with z | z
 .have e:=b.same b n u b3 (by rw[show 2*(d/2)=d by omega];exact m)
  omega
 .have e:=b.same b c u b4 (by rw[show 2*(d/2)+1=d by omega];exact m)
  omega
theorem SdAt.mono{H H':Hp}{zs:List V}{N:Nat}{rs:List (List Nat)}{sd:List (Nat×Nat)}(h:SdAt H zs N rs sd)(s:Same H H'):SdAt H' zs N rs sd:=⟨h.1,h.2.1.mono s,h.2.2⟩
inductive shR(t b:Addr)(L:Nat)(es:En)(rs:List (List Nat))(mk:Nat)(H0:Hp)(C:Prop)(val:Bool)(D:L2.Ends)(σ:L2.St)(H:L2.Hp):Prop
 |mk (q:Addr)(zs:List V)(sd:List (Nat×Nat))(v6 v7 v8 v9 v10:Option V) (h0_:σ = [some (.ref t),some (.int (L:Int)),some (.ref b),some (.ref q),some (.int ((rs.length:Nat):Int)),some (.int (mk:Int)),v6,v7,v8,v9,v10])(h1_:Same H0 H)(h2_:H q=some (.lst zs))(h3_:SdAt H zs es.length rs sd)(h4_:C)(h5_:∀ H',Same H0 H'->D.rt (.bl val) H')
inductive ED(vs:List L2.V)(H:L2.Hp)(Q:L2.VK)(x3_:L2.XK):Prop
 |mk (t pe pt pk:Addr)(m:Nat)(es:En)(ts:List (List Nat))(ks:Kn)(rs:List (List Nat))(ls:List KF.Lk)(L:Nat)(pw:V)(r:List KF.Pr) (h0_:vs = [.ref t,.int (L:Int),pw])(h1_:dE H t pe pt pk m es ts ks)(h2_:Oth m es ts ks rs ls)(h3_:0<es.length)(h4_:rs.length<=40)(h5_:KF.PpAt H pw r)(h6_:r.length<=3000)(h7_:∀ H',Same H H'->Q (.bl (jw es ks rs ls L r)) H')
theorem bA:ay ["built","laying","paper","sides","rounds","marks","pair","k","one","two","dues"] ["built","laying","paper"] (ar jH):=by ac_nf
theorem FU{f3 f4:Addr}{d3 d4:FuncData} (F:Fun K "_law_shows" "_law_shows" jH f fd) (T:TxtO mg) (aL:Cal P w K mg base 4 "_law_sides" ["built"] spSd a G) (aS:Cal P w K mg base 1 "_law_marks" ["built","sides"] Fy I J) (a4:Cal P w K mg base 1 "_law_odd" ["mask"] xA f3 d3) (al:Cal P w K mg base 2 "_law_worth" ["built","laying"] Fv f4 d4):FnOk P w K mg base CX0 5 f fd ["built","laying","paper"] ED:=by
 refine F.ok bA (by walk_at "l") λab A aa s H vs Q E j h=>?_
 obtain⟨t,pe,pt,pk,m,B,ts,ks,rs,ls,L,pw,r,rfl,bp,O,e0,a2,⟨b,ps,rfl,hB,hM⟩,r3,kk⟩:=h;have ac:=bp.few;have kl:=bp.kl;have zl:=hM.1;obtain⟨mk,aI⟩:∃ mk,mk=KF.oddE ls (MK (bc ks) B.length) B.length:=⟨_,rfl⟩
 refine⟨_,(ah (aB 3 bA.nd (aL.c j (af (pv 0) aj)))
   (ah (aB 4 bA.nd (av bE ai (az (Ck rfl) (by rfl) T.n_max E5 (af (cR [] ["pair"] (aP (pv 3)) pg_c pt_c (λC ex s H=>(az (zC (K:=K) rfl rfl) (by rfl) T.n_max E5 (af (pv 0) aj)))) aj))))
   (ah (aB 5 bA.nd (aS.c j (af (pv 0) (af (pv 3) aj))))
   (gk (t2:=shR t b L B rs mk H True (jw B ks rs ls L r)) (ah (bw PassesOwn.never rfl (aP (pv 2)) (bY 6 bA.nd) (ao (bF (PW.pt (oF (aD sJ (aM (pv 6) ai) ai (aE _)) (oF (aD jj (av cV (aM (pv 6) ai) (pv 4)) ai (aE _)) (oF (aD sJ (aM (pv 6) ai) ai (aE _)) (nK (oY (lU (a4.c j (af (av eF (aM (pv 6) ai) (pv 5)) aj))))))))) (ao (aF nM)) aN)))
   (gk (t2:=shR t b L B rs mk H (r.all (KF.cB rs.length mk)=true) (jw B ks rs ls L r)) (ah (bw PassesOwn.never rfl (aO rfl T.n_range (af (az ax (by rfl) T.n_len aX (af (pv 3) aj)) aj)) (bY 7 bA.nd) (ah (aB 8 bA.nd (aM (aR (pv 3) (pv 7)) ai))
   (ah (aB 9 bA.nd (aM (aR (pv 3) (pv 7)) ai))
   (ah (mr 10 [("two",9),("one",8)] ["pair"] bA.nd (aP (pv 2)) pg_c (λC ex s H=>(ij (aD cq (av eF (av b8 (av cV (gZ K (pv 0) ai) (pv 2)) (av cV (gZ K (pv 0) ai) (pv 1))) ai) ai (aE _)))) (λC ex s H=>(gZ K (pv 0) ai)))
   (ao (bF (aD vf (az (fx rfl) (by rfl) T.n_sum lx (af (pv 10) aj)) (av b9 ai (aM (aR (aM (pv 0) ai) (pv 7)) ai)) (aE _)) (ao (aF nM)) aN))))))
   (gk (t2:=shR t b L B rs mk H (dueB rs.length mk ls r=true) (jw B ks rs ls L r)) (ao (aF (cE cq (az (fx rfl) (by rfl) T.n_sum lx (af (cR [] ["pair"] (aP (pv 2)) pg_c pt_c (λC ex s H=>(gZ K (pv 0) ai))) aj)) (av b9 ai (al.c j (af (pv 0) (af (pv 1) aj)))) (aE _)))) (λD0 S0 H0 h0=>?rest3))) (λD0 S0 H0 h0=>?rest2))) (λD0 S0 H0 h0=>?rest1))))),?_⟩
 case rest3 =>
  obtain⟨q,zs,sd,v6,v7,v8,v9,ae,rfl,s0,hq,ap,du,kr⟩:=h0;refine⟨_,rfl,b,rfl,⟨_,SqL.of (s0 _ _ hB)⟩,bg (K:=K) (xs:=ps) (λi ws H6=>H6=H0/\ws=((r.take i).map (·.2)).map V.int) (Io (by omega:ps.length<=3000) (by decide)) ⟨rfl,rfl⟩ (λi ws H6 _ z=>by rw[z.1];exact SqL.of (s0 _ _ hB)) ?_ ?_⟩
  .rintro i x ws H6 v ⟨rfl,rfl⟩;obtain⟨p,hp,g,rfl,hg⟩:=hM.get v;refine⟨_,rfl,g,_,1,_,rfl,rfl,SqT.of (s0 _ _ hg),at1,rfl,?_⟩;rw[HH,hp,Hv,Hv];rfl
  rintro ws H6 _ ⟨rfl,rfl⟩ D6 bb;rw[zl,HL];have s6:=ak bb (.lst ((r.map (·.2)).map V.int));have a7:=s0.trans s6;refine⟨D6,r.map (·.2),rfl,SqL.of ag,_,rfl,_,rfl,t,pe,pt,pk,m,B,ts,ks,L,rfl,bp.mono a7,λH7 s7=>?_⟩;refine⟨_,_,rfl,rfl,.inl ⟨by decide,by decide⟩,rfl,?_⟩
  have:=kr _ (a7.trans s7);unfold jw at this;rw[← aI,du,IA,← ju]at this;exact this
 case rest2 =>
  obtain⟨q,zs,sd,v6,v7,v8,v9,ae,rfl,s0,hq,ap,ca,kr⟩:=h0;have S:=O.lsS a2 ap;have ql:zs.length=B.length:=by rw[ap.2.1.1,ap.1]
  have bi:=bp.mono s0;obtain⟨ht,wp,⟨ws,aT,hT⟩,_,_⟩:=id bi;refine⟨_,rfl,q,zs,rfl,.inl (SqL.of hq),_,rfl,∅,∅,bQ (n:=(zs.length:Int).toNat) (λi Y H2=>∃ v7 v8 v9 ae,Y = [some (.ref t),some (.int (L:Int)),some (.ref b),some (.ref q),some (.int ((rs.length:Nat):Int)),some (.int (mk:Int)),v6,v7,v8,v9,ae]/\Same H0 H2/\(ls.take i).all (KF.lB r)=true) ⟨_,_,_,_,rfl,λ_ _ e=>e,rfl⟩ ?_ ?_⟩
  .rintro i Y H2 hi ⟨v7,v8,v9,ae,rfl,s2,aA⟩;rw[Hn,ql]at hi;have a3:(0:Int)+(i:Int)=(i:Int):=IF _;rw[a3];have bd:=s0.trans s2;obtain⟨l,hl⟩:∃ l,ls[i]?=some l:=⟨_,Hf (by rw[S.ln];exact hi)⟩
   obtain⟨bm,kd,a1,l2⟩:=S.sd i l hl;obtain⟨p,x1,x2⟩:=ap.2.1.2 i _ bm;obtain⟨a5,k0,t2,z1,z2⟩:=hT.2 i kd a1;have an:=s2 _ _ hq;have be:=s2 _ _ x2;refine⟨_,rfl,_,rfl,q,zs,_,_,rfl,rfl,SqL.of an,aC x1,p,_,0,_,rfl,rfl,SqT.of be,at0,?_⟩;refine⟨_,rfl,_,rfl,q,zs,_,_,rfl,rfl,SqL.of an,aC x1,p,_,1,_,rfl,rfl,SqT.of be,at1,?_⟩;refine⟨_,rfl,b,rfl,⟨_,SqL.of (bd _ _ hB)⟩,cx (K:=K) (xs:=ps) (λk us H3=>H3=H2/\us=(((r.take k).filter (KF.pT l.1 l.2.1)).map (·.2)).map V.int) (Io (by omega:ps.length<=3000) (by decide)) ⟨rfl,rfl⟩ (λk us H3 _ z=>by rw[z.1];exact SqL.of (bd _ _ hB)) ?_ ?_ ?_⟩
   .rintro k x us H3 v ⟨rfl,rfl⟩;obtain⟨pp,hp,g,rfl,hg⟩:=hM.get v;have a6:=bd _ _ hg;have et:r.take (k+1)=r.take k++[pp]:=by rw[HH,hp];rfl
    refine⟨rfl,_,rfl,g,_,0,_,rfl,rfl,SqT.of a6,at0,_,rfl,_,_,rfl,rfl,(show(0:Int)<=(l.1:Int) by omega),_,rfl,g,_,0,_,rfl,rfl,SqT.of a6,at0,_,rfl,_,_,rfl,rfl,(show(0:Int)<=(l.2.1:Int) by omega),_,_,rfl,rfl,_,_,rfl,rfl,rfl,_,rfl,?_⟩
    rw[et,JA];refine ite2 (λz=>?_) (λz=>?_)
    .have z':KF.pT l.1 l.2.1 pp=true:=MJ (V.int.inj (Np z))
     refine⟨_,rfl,g,_,1,_,rfl,rfl,SqT.of a6,at1,rfl,?_⟩;rw[Ji z',Hv,Hv];rfl
    .have z':¬ KF.pT l.1 l.2.1 pp=true:=λy=>z (MJ (congrArg V.int (Np y)))
     refine⟨rfl,?_⟩;rw[Jj z',KZ,Kc]
   .rintro us H3 ⟨rfl,rfl⟩ D hD;rw[zl,HL];have s3:=ak hD (.lst (((r.filter (KF.pT l.1 l.2.1)).map (·.2)).map V.int));have aV:=s2.trans s3;refine⟨_,rfl,D,_,rfl,SqL.of ag,_,rfl,t,_,2,_,rfl,rfl,SqT.of (aV _ _ ht),at32,_,rfl,pk,ws,_,_,rfl,rfl,SqL.of (aV _ _ aT),aC z1,t2,_,1,_,rfl,rfl,SqT.of (aV _ _ z2),at1,_,_,rfl,rfl,.inl ⟨by decide,by decide⟩,_,_,rfl,rfl,_,rfl,?_⟩
    refine ite2 (λz=>?_) (λz=>?_)
    .have z':KF.paidF r l.1 l.2.1 > 2*kd.2:=Np z
     have no:KF.lB r l=false:=LY ∅
     have:=kr _ (s0.trans aV);rw[sh_l (Fb hl no)]at this;exact this
    .have z':¬ KF.paidF r l.1 l.2.1 > 2*kd.2:=λy=>z (MJ y)
     exact⟨_,_,_,_,rfl,aV,yp hl aA (MJ ∅)⟩
   .rintro k us H3 ⟨_,rfl⟩;rw[Hi,Hi];exact Io (Jc _ _) (by rw[HW];omega)
  .rintro Y H2 ⟨v7,v8,v9,ae,rfl,s2,aA⟩;rw[Hn,ql,← S.ln,HL]at aA;exact⟨q,zs,sd,_,_,_,_,_,rfl,s0.trans s2,s2 _ _ hq,ap.mono s2,(by unfold dueB;rw[ca,aA];rfl),kr⟩
 case rest1 =>
  obtain⟨q,zs,sd,v6,v7,v8,v9,ae,rfl,s0,hq,ap,_,kr⟩:=h0;refine⟨_,rfl,b,rfl,⟨_,SqL.of (s0 _ _ hB)⟩,cu (K:=K) (xs:=ps) (λi Y H2=>∃ v6,Y = [some (.ref t),some (.int (L:Int)),some (.ref b),some (.ref q),some (.int ((rs.length:Nat):Int)),some (.int (mk:Int)),v6,v7,v8,v9,ae]/\H2=H0/\(r.take i).all (KF.cB rs.length mk)=true) ⟨_,rfl,rfl,rfl⟩ (λi Y H2 _ z=>?_) ?_ ?_⟩
  .obtain⟨_,_,rfl,_⟩:=z;exact SqL.of (s0 _ _ hB)
  .rintro i x Y H2 v ⟨v6,rfl,rfl,aA⟩;obtain⟨⟨x1,x2⟩,hp,g,rfl,a0⟩:=hM.get v;have hg:=s0 _ _ a0;have ret:KF.cB rs.length mk (x1,x2)=false->D0.rt (.bl false) H2:=λhc=>by
    have:=kr _ s0;rw[aI]at hc;rw[sh_c (Fb hp hc)]at this;exact this
   refine⟨_,rfl,g,_,0,_,rfl,rfl,SqT.of hg,at0,_,_,rfl,rfl,_,rfl,?_⟩;refine ite2 (λz=>iteT (ret ?_)) (λz=>?_)
   .have z':x1<0:=Np z
    unfold KF.cB;rw[LY (by show ¬ 0<=x1;omega)]
    rfl
   have z':0<=x1:=by
    have:¬ x1<0:=λy=>z (MJ y);omega
   obtain⟨xn,rfl⟩:∃ xn:Nat,x1=(xn:Int):=⟨x1.toNat,∅⟩
   refine⟨_,rfl,g,_,0,_,rfl,rfl,SqT.of hg,at0,_,rfl,_,_,rfl,rfl,(show(0:Int)<=((rs.length:Nat):Int) by omega),rfl,_,rfl,?_⟩
   by_cases d:(xn:Int)/2^((rs.length:Nat):Int).toNat=0
   .refine tD (congrArg V.int d) ?_;refine⟨_,rfl,g,_,1,_,rfl,rfl,SqT.of hg,at1,_,_,rfl,rfl,_,rfl,?_⟩;refine ite2 (λy=>iteT (ret ?_)) (λy=>?_)
    .have y':x2<1:=Np y
     unfold KF.cB;show(_&&(_&&(_&&decide (1<=x2))))=false;rw[LY (show ¬ 1<=x2 by omega),I8,I8,I8]
    have y':¬ x2<1:=λy2=>y (MJ y2);have ea:Mu (xn:Int) (mk:Int)=((xn&&&mk:Nat):Int):=by
     rw[Nz (IH _) (IH _),Hn,Hn]
    refine⟨_,rfl,g,_,0,_,rfl,rfl,SqT.of hg,at0,_,rfl,_,_,rfl,rfl,xn&&&mk,by show[V.int (Mu (xn:Int) (mk:Int))]=_;rw[ea],_,rfl,?_⟩
    by_cases o:K1.go (xn&&&mk)%2=1
    .rw[MJ o];refine iteF ?_;refine⟨_,rfl,rfl,yp hp aA ?_⟩;unfold KF.cB;rw[go_bl,MJ (show 0<=(xn:Int) by omega),MJ d,Hn,MJ o,MJ (show 1<=x2 by omega)]
     rfl
    .rw[LY o];refine iteT (ret ?_);unfold KF.cB;rw[go_bl];show(_&&(_&&(decide (K1.go (xn&&&mk)%2=1)&&_)))=false;rw[LY o,Iw,I8,I8]
   .refine ite2 (λ_=>iteT (ret ?_)) (λy=>NC (by rw[ju,LY d];rfl) y)
    unfold KF.cB;rw[LY d,Iw,I8]
  .rintro Y H2 ⟨v6,rfl,rfl,aA⟩;rw[zl,HL]at aA;exact⟨q,zs,sd,_,_,_,_,_,rfl,s0,hq,ap,aA,kr⟩
 refine⟨_,rfl,t,pe,pt,pk,m,B,ts,ks,rs,rfl,bp,O.ro,λq zs sd H1 s1 nq hq ap=>?_⟩;have bn:=s1;have ql:zs.length=sd.length:=ap.2.1.1;have sl:=ap.1;have ba:1<=rs.length:=by
  obtain⟨r,am,_⟩:=Ij.mp (O.ro.all 0 ∅)
  have:=IM am;omega
 refine⟨_,rfl,q,rfl,⟨_,SqL.of hq⟩,bg (K:=K) (xs:=zs) (λi ws H2=>H2=H1/\ws=((sd.take i).map λx=>((max x.1 x.2:Nat):Int)).map V.int) (HJ (aw ∅)) ⟨rfl,rfl⟩ (λi ws H2 _ z=>by rw[z.1];exact SqL.of hq) ?_ ?_⟩
 .rintro i x ws H2 v ⟨rfl,rfl⟩;obtain⟨y,hy⟩:∃ y,sd[i]?=some y:=⟨_,Hf (by rw[← ql];exact(Hg.mp v).1)⟩
  obtain⟨p,y1,y2⟩:=ap.2.1.2 i y hy;rw[v]at y1
  cases y1
  refine⟨_,rfl,p,[(y.1:Int),(y.2:Int)],rfl,SqT.of y2,(by show 0<2;decide),λmx hm u=>⟨rfl,?_⟩⟩
  have e:mx=((max y.1 y.2:Nat):Int):=by
   have M:=u (y.1:Int) (by simp)
   have N:=u (y.2:Int) (by simp)
   simp only[Hs,Jl,or_false]at hm;omega
  rw[e,HH,hy,Hv,Hv];rfl
 rintro ws H2 _ ⟨rfl,rfl⟩ D hD;rw[ql,HL];have sD:=ak hD (.lst ((sd.map λx=>((max x.1 x.2:Nat):Int)).map V.int));refine⟨D,sd.map λx=>((max x.1 x.2:Nat):Int),rfl,SqL.of ag,by rw[Hi];omega,λmx hm u=>⟨_,_,rfl,rfl,?_⟩⟩
 have bq:=Ak O.ro ba sl ap.2.2 hm u;change gO 4 (V.int (1+mx)) _ _ _;rw[bq];have s2:=bn.trans sD;refine⟨_,rfl,_,rfl,t,pe,pt,pk,q,m,B,ts,ks,zs,sd,ls,rfl,bp.mono s2,sD _ _ hq,ap.2.1.mono sD,O.lsS a2 ap,?_⟩;rw[← aI];exact⟨q,zs,sd,_,_,_,_,_,rfl,s2,sD _ _ hq,ap.mono sD,True.intro,kk⟩
def sumU(g:Nat->Int)(u:Nat):Nat->Int
 |0=>0
 |i+1=>if u.testBit i=true then sumU g u i+g i else sumU g u i
theorem xw(g h:Nat->Int)(u:Nat):∀ i,sumU (λj=>g j+h j) u i=sumU g u i+sumU h u i
 |0=>rfl
 |i+1=>by
  unfold sumU;rw[xw g h u i];split<;>omega
theorem ux{g h:Nat->Int}{u:Nat}:∀{i},(∀ j,j<i->u.testBit j=true->g j<=h j)->sumU g u i<=sumU h u i
 |0,_=>Jo _
 |i+1,H=>by
  have Y:=ux (i:=i) λj c T=>H j ∅ T
  unfold sumU;split
  .rename_i z;have:=H i ∅ z
   omega
  .exact Y
theorem nz(u:Nat):∀ i,sumU (λ_=>0) u i=0
 |0=>rfl
 |i+1=>by
  unfold sumU;rw[nz u i];split<;>rfl
theorem xu{g:Nat->Int}{u:Nat}:∀{i j},(∀ j,j<i->0<=g j)->j<i->u.testBit j=true->g j<=sumU g u i
 |0,_,_,h,_=>NC h (IY _)
 |i+1,j,H,c,T=>by
  have l:0<=sumU g u i:=by
   have:=ux (g:=λ_=>0) (h:=g) (u:=u) (i:=i) λk C _=>H k ∅
   rw[nz]at this;exact this
  by_cases e:j=i
  .subst e;unfold sumU;rw[NA T];omega
  .have:=xu (i:=i) (λk C=>H k ∅) (show j<i by omega) T
   have:=H i ∅
   unfold sumU;split<;>omega
def crs(ls:List KF.Lk)(F:Nat->Bool)(u:Nat):Nat->Bool
 |0=>false
 |i+1=>if u.testBit i=true then(crs ls F u i ^^ (F (KF.lkA ls i).1 ^^ F (KF.lkA ls i).2.1)) else crs ls F u i
theorem Ca{n:Nat}{ls:List KF.Lk}(hl:∀ l∈ls,l.1<n/\l.2.1<n)(F:Nat->Bool)(u:Nat):∀ i,i<=ls.length->phi F (KF.oddE ls u i) n=crs ls F u i
 |0,_=>xO F n
 |i+1,d=>by
  have Y:=Ca hl F u i ∅
  obtain⟨l,C⟩:∃ l,ls[i]?=some l:=⟨_,Hf ∅⟩
  obtain⟨a,b⟩:=hl l (Hh C);show phi F (if u.testBit i=true then KF.oddE ls u i^^^KF.endX (KF.lkA ls i) else KF.oddE ls u i) n=if u.testBit i=true then(crs ls F u i ^^ (F (KF.lkA ls i).1 ^^ F (KF.lkA ls i).2.1)) else crs ls F u i;split
  .rw[KF.lkA_is C];unfold KF.endX;rw[uV,uV,uW,uW,Y,MJ a,MJ b,Lj,Lj]
  .exact Y
theorem rq{ls:List KF.Lk}{F:Nat->Bool}{u:Nat}:∀{i},crs ls F u i=true->∃ j,j<i/\u.testBit j=true/\(F (KF.lkA ls j).1 ^^ F (KF.lkA ls j).2.1)=true
 |0,h=>by cases h
 |i+1,h=>by
  unfold crs at h;split at h
  .rename_i z
   cases c:(F (KF.lkA ls i).1 ^^ F (KF.lkA ls i).2.1) with
   |true=>exact⟨i,∅,z,c⟩
   |false =>
    rw[c,JU]at h;obtain⟨j,a,b⟩:=rq h;exact⟨j,∅,b⟩
  .obtain⟨j,a,b⟩:=rq h;exact⟨j,∅,b⟩
theorem sj(F:Nat->Bool)(x:Nat):∀ n,phi F x n=decide (((IC n).filter λi=>F i&&x.testBit i).length%2=1)
 |0=>rfl
 |n+1=>by
  show(phi F x n ^^ (F n&&x.testBit n))=_;rw[sj F x n,Ka,JA,Hk]
  cases c:(F n&&x.testBit n) with
  |true =>
   rw[Ji (p:=λi=>F i&&x.testBit i) c,KZ,Ht,Bool.xor_true];by_cases z:((IC n).filter λi=>F i&&x.testBit i).length%2=1
   .rw[MJ z,LY ∅];rfl
   .rw[LY z,MJ ∅];rfl
  |false =>
   rw[Jj (p:=λi=>F i&&x.testBit i) (by rw[c];exact HG),KZ,Js,Nat.add_zero,JU]
theorem ym{y:Nat}(h:y<2^n):(KF.bl y).length=((IC n).filter λi=>y.testBit i).length:=by
 refine List.Perm.length_eq ((Jx (KF.bl_nd y) ((List.nodup_range).filter _)).mpr λx=>?_);rw[Jv,Je,KF.mem_bl];refine⟨λz=>⟨?_,z⟩,λz=>z.2⟩;by_cases c:x<n
 .exact c
 .rw[Ke (HY h (Im (by decide) ∅))]at z
  cases z
theorem pT_nat(x a b:Nat)(c:Int):KF.pT a b ((x:Int),c)=(x.testBit a ^^ x.testBit b):=by
 unfold KF.pT;show decide (Mu (Mw ((x:Int)/2^((a:Nat):Int).toNat) ((x:Int)/2^((b:Nat):Int).toNat)) 1=1)=_;rw[ur];have b1:(x:Int)/2^((a:Nat):Int).toNat%2=bit (x:Int) (a:Int):=rfl;have b2:(x:Int)/2^((b:Nat):Int).toNat%2=bit (x:Int) (b:Int):=rfl;rw[b1,b2,lQ,lQ]
 cases x.testBit a<;>cases x.testBit b<;>decide
theorem AG(p:KF.Pr)(r:List KF.Pr)(a b:Nat):KF.paidF (p::r) a b=(if KF.pT a b p=true then p.2 else 0)+KF.paidF r a b:=by
 unfold KF.paidF;by_cases z:KF.pT a b p=true
 .rw[Ji z,HR,Ja,NA z]
 .rw[Jj z,NB z,IF]
theorem B8(ls:List KF.Lk)(u:Nat):∀ i,2*KF.cstU ls u i=sumU (λj=>2*(KF.lkA ls j).2.2) u i
 |0=>rfl
 |i+1=>by
  have Y:=B8 ls u i;unfold sumU;show 2*(if u.testBit i=true then KF.cstU ls u i+(KF.lkA ls i).2.2 else KF.cstU ls u i)=_;split<;>omega
theorem CS(O:Oth m es ts ks rs ls){r:List KF.Pr}(h:jw es ks rs ls L r=true)(L':Nat):wor es ks L<=wor es ks L':=by
 unfold jw dueB at h;rw[JH,JH]at h;obtain⟨⟨f,D⟩,y⟩:=h;have y:=Np y;have t:=O.d.ln;obtain⟨mk,n⟩:∃ mk,mk=KF.oddE ls (MK (bc ks) es.length) es.length:=⟨_,rfl⟩;rw[← n]at f;have q:=O.lay L';rw[← n]at q;have s:mk<2^rs.length:=by rw[n,← t];exact sM O.d.rooms _ _ (Hl _)
 obtain⟨u,T⟩:∃ u,u=MK (UB es ks L') es.length:=⟨_,rfl⟩;rw[← T]at q;have a:∀ Q:List KF.Pr,(∀ p∈Q,KF.cB rs.length mk p=true)->(Q.map (·.2)).sum<=sumU (λj=>KF.paidF Q (KF.lkA ls j).1 (KF.lkA ls j).2.1) u es.length:=λQ=>by
  induction Q with
  |nil =>
   intro _;have:sumU (λj=>KF.paidF [] (KF.lkA ls j).1 (KF.lkA ls j).2.1) u es.length=0:=nz u _;rw[this];exact Jo _
  |cons p Q Y =>
   intro B;have Y:=Y λx v=>B x (Hq _ v);obtain⟨N,I⟩:=p;have E:=B (N,I) (Hu ..);unfold KF.cB at E;rw[JH,JH,JH]at E;obtain⟨c1,c2,c3,c4⟩:=E;have c1:0<=N:=Np c1;have c4:1<=I:=Np c4;obtain⟨x,rfl⟩:∃ x:Nat,N=(x:Int):=⟨N.toNat,∅⟩
   have c3:=Np c3;have c3:(KF.bl (x&&&mk)).length%2=1:=c3;have aa:x&&&mk<2^rs.length:=Lf Lr s;rw[ym aa]at c3;have ph:phi (λi=>x.testBit i) mk rs.length=true:=by
    rw[sj];refine MJ ?_;have e:(λi=>(x&&&mk).testBit i)=λi=>x.testBit i&&mk.testBit i:=funext λi=>JL x mk i;rw[e]at c3;exact c3
   rw[← q,← t,Ca O.d.rooms _ _ _ (Hl _),t]at ph;obtain⟨j,j1,j2,j3⟩:=rq ph;have G:(λj=>KF.paidF (((x:Int),I)::Q) (KF.lkA ls j).1 (KF.lkA ls j).2.1)=λj=>(if KF.pT (KF.lkA ls j).1 (KF.lkA ls j).2.1 ((x:Int),I)=true then I else 0)+KF.paidF Q (KF.lkA ls j).1 (KF.lkA ls j).2.1:=funext λj=>AG _ _ _ _;rw[G,xw,HR,Ja]
   have g:=xu (g:=λj=>if KF.pT (KF.lkA ls j).1 (KF.lkA ls j).2.1 ((x:Int),I)=true then I else 0) (u:=u) (i:=es.length) (j:=j) (λk _=>by
    show 0<=(if KF.pT (KF.lkA ls k).1 (KF.lkA ls k).2.1 ((x:Int),I)=true then I else 0)
    split<;>omega) j1 j2
   have b:(if KF.pT (KF.lkA ls j).1 (KF.lkA ls j).2.1 ((x:Int),I)=true then I else 0)=I:=NA (by rw[pT_nat];exact j3)
   have g:(if KF.pT (KF.lkA ls j).1 (KF.lkA ls j).2.1 ((x:Int),I)=true then I else 0)<=_:=g;rw[b]at g;show I+_<=_;omega
 have z:=a r (Km.mp f);have H:sumU (λj=>KF.paidF r (KF.lkA ls j).1 (KF.lkA ls j).2.1) u es.length<=sumU (λj=>2*(KF.lkA ls j).2.2) u es.length:=ux λj c _=>by
  obtain⟨l,C⟩:∃ l,ls[j]?=some l:=⟨_,Hf ∅⟩
  have:=Km.mp D l (Hh C);rw[KF.lkA_is C];exact Np this
 have st:∀ i,i<es.length->(KF.lkA ls i).2.2=stg ks i:=λi o=>by
  obtain⟨l,C⟩:∃ l,ls[i]?=some l:=⟨_,Hf ∅⟩
  obtain⟨k,M,J,_⟩:=O.ws i l C;rw[KF.lkA_is C,J];unfold stg;rw[M]
 have w:KF.cstU ls u es.length=wor es ks L':=by rw[T];exact B9 st _ (Hl _)
 have A:=B8 ls u es.length;omega
open KF (andN orN shlN xorN)
inductive spNL(vs:List L2.V)(H:L2.Hp)(Q:L2.VK)(x3_:L2.XK):Prop
 |mk (t pe pt pk:Addr)(m:Nat)(es:En)(ts:List (List Nat))(ks:Kn)(L:Nat)(c:Int) (h0_:vs = [.ref t,.int (L:Int),.int c])(h1_:dE H t pe pt pk m es ts ks)(h2_:m<=40)(h3_:(∀ L',wor es ks L<=wor es ks L'))(h4_:∀ H',Same H H'->Q (.bl true) H')
theorem cA:ay ["built","laying","cell","worth_now","places","place"] ["built","laying","cell"] (ar eE):=by ac_nf
theorem ok_nl (F:Fun K "_law_none_less" "_law_none_less" eE f fd) (T:Txt mg) (aa:Cal P w K mg base 2 "_law_worth" ["built","laying"] Fv a G) (ae:Cal P w K mg base 1 "_law_mask" ["cell","many"] uA p J):FnOk P w K mg base CX0 3 f fd ["built","laying","cell"] spNL:=by
 refine F.ok cA (by walk_at "l") λk A y s H l Q E u h=>?_
 obtain⟨t,pe,pt,pk,m,B,x,e,L,c,rfl,bp,ac,lo,b⟩:=h
 refine⟨_,(ah (aB 3 cA.nd (aa.c u (af (pv 0) (af (pv 1) aj))))
   (ah (aB 4 cA.nd (az ax (by rfl) T.n_len aX (af (aM (pv 0) ai) aj)))
   (ah (bw PassesOwn.never rfl (aO rfl T.n_range (af (pv 4) aj)) (bY 5 cA.nd) (ao (bF (aD sJ (aa.c u (af (pv 0) (af (av b8 (pv 1) (av bJ ai (pv 5))) aj))) (pv 3) (aE _)) (ao (aF nM)) aN)))
   (ao (aF (cE AJ (aa.c u (af (pv 0) (af (av b8 (pv 1) (ae.c u (af (pv 2) (af (pv 4) aj)))) aj))) (pv 3) (aE _))))))),?_⟩
 refine⟨_,rfl,_,rfl,t,pe,pt,pk,m,B,x,e,L,rfl,bp,λO j=>?_⟩;obtain⟨I,wp,_,_,_⟩:=id (bp.mono j);obtain⟨D,ab,hX⟩:=wp.tu;have xl:D.length=m:=by rw[hX.1,wp.g.w.len]
 refine⟨_,rfl,t,_,1,_,rfl,rfl,SqT.of I,at31,pt,D,rfl,.inl (SqL.of ab),?_⟩;change gO 4 (V.int ((D.length:Nat):Int)) _ _ _;rw[xl];refine⟨_,rfl,_,rfl,∅,∅,bQ (n:=(m:Int).toNat) (λi Y r=>∃ v5,Y = [some (.ref t),some (.int (L:Int)),some (.int c),some (.int (wor B e L)),some (.int (m:Int)),v5]/\Same H r) ⟨_,rfl,j⟩ ?_ ?_⟩
 .rintro i Y r d ⟨v5,rfl,v⟩;rw[Hn]at d;have C:(0:Int)+(i:Int)=(i:Int):=IF _;rw[C];have o:Mw (L:Int) (1*2^((i:Nat):Int).toNat)=((L^^^2^i:Nat):Int):=by rw[shlN,xorN]
  refine⟨_,rfl,_,rfl,_,rfl,_,_,rfl,rfl,⟨∅,∅,by decide⟩,_,_,rfl,rfl,t,pe,pt,pk,m,B,x,e,L^^^2^i,(by show[V.ref t,V.int (Mw (L:Int) (1*2^((i:Nat):Int).toNat))]=_;rw[o]),bp.mono v,λM q=>?_⟩
  refine⟨_,rfl,_,_,rfl,rfl,_,rfl,ite2 (λz=>?_) (λ_=>⟨_,rfl,v.trans q⟩)⟩;have:=Np z;have:=lo (L^^^2^i);omega
 .rintro Y r ⟨v5,rfl,v⟩;refine⟨_,rfl,_,rfl,_,rfl,_,rfl,c,m,rfl,ac,λN hN=>?_⟩;have o:Mw (L:Int) (N:Int)=((L^^^N:Nat):Int):=xorN L N;refine⟨_,_,rfl,rfl,t,pe,pt,pk,m,B,x,e,L^^^N,(by show[V.ref t,V.int (Mw (L:Int) (N:Int))]=_;rw[o]),bp.mono v,λM q=>?_⟩
  refine⟨_,rfl,_,_,rfl,rfl,?_⟩;have:=lo (L^^^N);show Q (.bl (decide (_<=_))) _;rw[MJ this];exact b _ (v.trans q)
end K8
namespace KF
open PySem L2
theorem prs_rd{es:List Pr}(h:SqL K H a xs)(z:LsAt PrAt H xs es):RdD K H (.ref a) (.list (es.map λe=>PyData.tuple [.int e.1,.int e.2])):=by
 refine RdD.lst h (by rw[Hi];exact z.1) λi x d G E=>?_
 rw[Hr]at E;obtain⟨e,T,rfl⟩:=HF.mp E;obtain⟨y,I,p,rfl,s⟩:=z.2 i e T;rw[G]at I
 cases I
 refine RdD.tup (SqT.of s) rfl λj x B C n=>?_;match j,C,n with
 |0,C,n=>cases C;cases n;exact RdD.int _
 |1,C,n=>cases C;cases n;exact RdD.int _
 |j+2,C,n=>simp at C
theorem prs_shaped(es:List Pr):SeqAt.shaped (.list (es.map λe=>PyData.tuple [.int e.1,.int e.2]))=true:=jy λd hd=>by
 obtain⟨l,_,rfl⟩:=Ie.mp hd;exact flat2 _ _
end KF
namespace K8
open PySem L2
open KF (andN orN shlN xorN)
inductive spPB(vs:List L2.V)(H:L2.Hp)(Q:L2.VK)(x3_:L2.XK):Prop
 |mk (b:Addr)(r:List KF.Pr)(way c n:Nat) (h0_:vs = [.ref b,.int (way:Int),.int (c:Int),.int (n:Int)])(h1_:KF.PpAt H (.ref b) r)(h2_:r.length<=2560)(h3_:n<=40)(h4_:∀(q:Addr)(r':List KF.Pr) H',Same H H'->KF.PpAt H' (.ref q) r'->r'.length<=2600->Q (.ref q) H')
theorem kJ{R:Hp->V->α->Prop}{as bs:List α}(h:LsAt R H xs as)(g:LsAt R H ys bs):LsAt R H (xs++ys) (as++bs):=by
 refine⟨by rw[Hk,Hk,h.1,g.1],λi x e=>?_⟩
 by_cases c:i<as.length
 .rw[Ho c]at e;obtain⟨y,a,b⟩:=h.2 i x e;exact⟨y,by rw[Ho (by rw[h.1];exact c)];exact a,b⟩
 .rw[Hm ∅]at e
  obtain⟨y,a,b⟩:=g.2 _ x e;exact⟨y,by rw[Hm (by rw[h.1];omega),h.1];exact a,b⟩
theorem sS{R:Hp->V->α->Prop}{as:List α}(h:LsAt R H xs as)(k:Nat):LsAt R H (xs.take k) (as.take k):=by
 refine⟨by rw[HW,HW,h.1],λi x e=>?_⟩
 rw[Kx]at e ⊢;split at e
 .rename_i z;obtain⟨y,a,b⟩:=h.2 i x e;exact⟨y,by rw[NA z];exact a,b⟩
 .cases e
theorem sU{R:Hp->V->α->Prop}{as:List α}(h:LsAt R H xs as)(k:Nat):LsAt R H (xs.drop k) (as.drop k):=by
 refine⟨by rw[ID,ID,h.1],λi x e=>?_⟩
 rw[Li]at e ⊢;exact h.2 _ x e
theorem mT{x:KF.Pr}(h:H p=some (.tup [.int x.1,.int x.2])):LsAt KF.PrAt H [.ref p] [x]:=by
 refine⟨rfl,λi y e=>?_⟩;match i,e with
 |0,e=>cases e;exact⟨_,rfl,p,rfl,h⟩
 |i+1,e=>simp at e
theorem cW{as:List KF.Pr}(h:LsAt KF.PrAt H xs as)(s:Same H H'):LsAt KF.PrAt H' xs as:=h.imp λ_ _ z=>z.mono s
theorem Eg{k:Nat}(h:k<=xs.length):cutV xs none (some (k:Int))=xs.take k:=by
 unfold cutV;rw[HT.sIx_nat xs.length xs.length k];show(xs.drop 0).take (min k xs.length-0)=_;rw[LJ,Nat.sub_zero,J1 h]
theorem Ej{k:Nat}(h:k<=xs.length):cutV xs (some (k:Int)) none=xs.drop k:=by
 unfold cutV;rw[HT.sIx_nat xs.length 0 k];show(xs.drop (min k xs.length)).take (xs.length-min k xs.length)=_;rw[J1 h];exact IX (by rw[ID];exact Hl _)
theorem bH:ay ["paper","way","cell","rounds","at","mask","price","fresh"] ["paper","way","cell","rounds"] (ar fB):=by ac_nf
theorem ok_pb (F:Fun K "_law_paper_by" "_law_paper_by" fB f fd) (T:Txt mg):FnOk P w K mg base CX0 1 f fd ["paper","way","cell","rounds"] spPB:=by
 refine F.ok bH (by walk_at "l") λY A I s H t Q E u h=>?_
 obtain⟨b,r,aL,c,n,rfl,⟨b',ps,e,hB,hM⟩,bB,an,G⟩:=h
 cases e
 have am:=u.units;have pl:ps.length=r.length:=hM.1
 refine⟨_,(ah (bF (aD cq (pv 1) ai (aE _)) (ao (aF (bL (af (bh (af (av aY (av bj (pv 2) ai) (av bJ ai (pv 3))) (af (av bE ai (av aY (av bj (pv 2) ai) ai)) aj))) (af (bh (af (av aY (av bj (pv 2) ai) (av bJ ai (pv 3))) (af (av bE ai (av aY (av bj (pv 2) ai) ai)) aj))) aj))))) aN)
   (ah (bF (PW.pt (oF (aD vf (pv 1) ai (aE _)) (nK (aD (op_eqG am) (pv 0) (bL aj) (aE _))))) (ao (aF (cz cQ (by rfl) T.n_list gQ (af (pv 0) aj)))) aN)
   (ah (aB 4 bH.nd (av aY (pv 2) (az ax (by rfl) T.n_len aX (af (pv 0) aj))))
   (ah (aB 5 bH.nd (aM (aR (pv 0) (pv 4)) ai))
   (ah (aB 6 bH.nd (aM (aR (pv 0) (pv 4)) ai))
   (ah (bF (aD cq (pv 1) ai (aE _)) (ao (aF (av nN (e8 hO (pv 0) iq (ik (pv 4))) (e8 hO (pv 0) (ik (av bE (pv 4) ai)) iq)))) aN)
   (ah (bF (aD cq (pv 1) ai (aE _)) (ao (aF (av nN (pv 0) (bL (af (aR (pv 0) (pv 4)) aj))))) aN)
   (ah (aB 7 bH.nd (bL (af (bh (af (pv 5) (af (av bE (pv 6) ai) aj))) (af (bh (af (pv 5) (af (av dM (pv 6) ai) aj))) (af (bh (af (pv 5) (af ai aj))) (af (bh (af (pv 5) (af (av dM (pe_un Ew ai) (av aY (av bj (pv 2) ai) (av xT ai ai))) aj))) aj))))))
   (ah (aB 7 bH.nd (av nN (pv 7) (bL (af (bh (af (av b8 (pv 5) (av bJ ai (av aY (av bj (pv 2) ai) (av bE (pv 3) ai)))) (af (pv 6) aj))) (af (bh (af (av dM (pe_un Ew ai) (pv 5)) (af (pv 6) aj))) aj)))))
   (ao (aF (av nN (av nN (e8 hO (pv 0) iq (ik (pv 4))) (bL (af (aR (pv 7) (pv 1)) aj))) (e8 hO (pv 0) (ik (av bE (pv 4) ai)) iq))))))))))))),?_⟩
 have two:(2:Nat)<=LZ:=by decide
 have bN:(3000:Nat)<=LZ:=by decide
 have en:(1:Int)*2^((n:Nat):Int).toNat=((2^n:Nat):Int):=shlN n;have aV:(0:Int)<1*2^((n:Nat):Int).toNat:=by rw[en];exact Int.ofNat_lt.mpr (IG n)
 refine⟨_,rfl,rfl,_,rfl,ite2 (λz=>?_) (λz=>?_)⟩
 .refine⟨_,rfl,_,_,rfl,rfl,⟨by decide,by decide⟩,_,rfl,_,_,rfl,rfl,⟨∅,∅,by decide⟩,_,_,rfl,rfl,aV,_,rfl,_,_,rfl,rfl,⟨by decide,by decide⟩,_,_,rfl,rfl,(by decide:(0:Int)<5),_,_,rfl,rfl,two,λt1 M=>?_⟩
  refine⟨_,rfl,_,_,rfl,rfl,⟨by decide,by decide⟩,_,rfl,_,_,rfl,rfl,⟨∅,∅,by decide⟩,_,_,rfl,rfl,aV,_,rfl,_,_,rfl,rfl,⟨by decide,by decide⟩,_,_,rfl,rfl,(by decide:(0:Int)<5),_,_,rfl,rfl,two,λt2 J=>?_⟩
  refine⟨two,λq a=>?_⟩;have j:=ak M (.tup [.int ((c:Int)/3%(1*2^((n:Nat):Int).toNat)),.int (1+(c:Int)/7%5)]);have m:=ak J (.tup [.int ((c:Int)/11%(1*2^((n:Nat):Int).toNat)),.int (1+(c:Int)/13%5)]);have L:=ak a (.lst [.ref t1,.ref t2]);exact G q [((c:Int)/3%(1*2^((n:Nat):Int).toNat),1+(c:Int)/7%5),((c:Int)/11%(1*2^((n:Nat):Int).toNat),1+(c:Int)/13%5)] _ (j.trans (m.trans L)) ⟨q,_,rfl,ag,kJ (xs:=[.ref t1]) (ys:=[.ref t2]) (as:=[_]) (bs:=[_]) (mT (L _ _ (m _ _ ag))) (mT (L _ _ ag))⟩ (by show 2<=2600;decide)
 have ba:∀{O:Hp},Same H O->∀ l,O l=none->Q (.ref l) (upd O l (.lst ps)):=λ{O} j l D=>by
  have m:=j.trans (ak D (.lst ps));exact G l r _ m ⟨l,ps,rfl,ag,cW hM m⟩ ∅
 refine⟨_,rfl,_,_,rfl,rfl,_,rfl,ite2 (λz=>iteT ⟨_,rfl,b,ps,rfl,.inl (SqL.of hB),ba λ_ _ e=>e⟩) (λz7=>?_)⟩;refine⟨_,rfl,(by show 0<=LZ;exact Ia _),λl D=>?_⟩
 have sl:=ak D (.lst []);have a7:=cW hM sl;have aa:(upd H l (.lst [])) l=some (.lst []):=ag;refine⟨_,_,KF.prs_rd (SqL.of (sl _ _ hB)) a7,KF.prs_rd (es:=[]) (SqL.of aa) ⟨rfl,λi x e=>by simp at e⟩,KF.prs_shaped _,KF.prs_shaped _,_,rfl,ite2 (λz=>⟨_,rfl,b,ps,rfl,.inl (SqL.of (sl _ _ hB)),ba sl⟩) (λze=>?_)⟩
 have bi:0<r.length:=by
  cases r with
  |nil=>exact NC (by rfl) ze
  |cons x y=>exact Nat.succ_pos _
 have aT:=sl _ _ hB;generalize upd H l (.lst [])=O at sl a7 aT;refine⟨_,rfl,_,rfl,b,ps,rfl,.inl (SqL.of aT),_,_,rfl,rfl,(by show(0:Int)<((ps.length:Nat):Int);omega),?_⟩
 obtain⟨i,d,il⟩:∃ i:Nat,(c:Int)%((ps.length:Nat):Int)=(i:Int)/\i<r.length:=⟨c%r.length,by rw[pl];rfl,JX _ bi⟩
 change gO 4 (V.int ((c:Int)%((ps.length:Nat):Int))) _ _ _;rw[d];obtain⟨p,B⟩:∃ p,r[i]?=some p:=⟨_,Hf il⟩;obtain⟨v,N,g,rfl,o⟩:=a7.2 i p B;refine⟨_,rfl,_,rfl,b,ps,_,_,rfl,rfl,SqL.of aT,aC N,g,_,0,_,rfl,rfl,SqT.of o,at0,?_⟩;refine⟨_,rfl,_,rfl,b,ps,_,_,rfl,rfl,SqL.of aT,aC N,g,_,1,_,rfl,rfl,SqT.of o,at1,?_⟩;have ct:cutV ps none (some (i:Int))=ps.take i:=Eg ∅
 have cd:cutV ps (some ((i:Int)+1)) none=ps.drop (i+1):=Ej (k:=i+1) ∅
 refine⟨_,rfl,rfl,_,rfl,ite2 (λz6=>?_) (λz6=>?_)⟩
 .refine⟨_,rfl,_,rfl,_,rfl,b,ps,rfl,SqL.of aT,λC M=>?_⟩;rw[ct];have j:=ak M (.lst (ps.take i));refine⟨_,rfl,_,rfl,_,_,rfl,rfl,_,rfl,b,ps,rfl,SqL.of (j _ _ aT),λq2 J=>?_⟩;rw[cd];have m:=ak J (.lst (ps.drop (i+1)));refine⟨C,q2,_,_,rfl,rfl,SqL.of (m _ _ ag),SqL.of ag,(by rw[HW,ID];omega),λq3 h3=>?_⟩
  have L:=sl.trans (j.trans (m.trans (ak h3 (.lst (ps.take i++ps.drop (i+1))))));exact G q3 (r.take i++r.drop (i+1)) _ L ⟨q3,_,rfl,ag,kJ (sS (cW hM L) i) (sU (cW hM L) (i+1))⟩ (by rw[Hk,HW,ID];omega)
 refine⟨_,rfl,rfl,_,rfl,ite2 (λbb=>?_) (λbb=>?_)⟩
 .refine⟨_,rfl,_,rfl,_,rfl,b,ps,_,_,rfl,rfl,SqL.of aT,aC N,(by show 1<=LZ;decide),λC M=>?_⟩
  have j:=ak M (.lst [.ref g]);refine⟨b,C,_,_,rfl,rfl,SqL.of (j _ _ aT),SqL.of ag,(by rw[Ht];omega),λq3 h3=>?_⟩
  have ab:=j.trans (ak h3 (.lst (ps++[.ref g])));have L:=sl.trans ab;exact G q3 (r++[p]) _ L ⟨q3,_,rfl,ag,kJ (cW hM L) (mT (ab _ _ o))⟩ (by rw[Hk,Ht];omega)
 have w5:aL<=5:=by
  have a1:¬ (7:Int)<(aL:Int):=λy=>z7 (MJ y);have a2:¬ (aL:Int)=6:=λy=>z6 (MJ (congrArg V.int y));have a3:¬ (aL:Int)=7:=λy=>bb (MJ (congrArg V.int y));omega
 obtain⟨p1,p2⟩:=p;have bm:(0:Int)<10^(30:Int).toNat:=by decide
 have bd:(0:Int)<(n:Int)+1:=by omega
 have bn:=Jt ((c:Int)/8) (show(n:Int)+1≠0 by omega)
 have bR:=Jk ((c:Int)/8) bd;refine⟨_,rfl,_,rfl,_,_,rfl,rfl,two,λt1 M=>?_⟩;have u1:=ak M (.tup [.int p1,.int (p2+1)]);have g1:(upd O t1 (.tup [.int p1,.int (p2+1)])) t1=some (.tup [.int p1,.int (p2+1)]):=ag;change zS _ _ _ (upd O t1 (.tup [.int p1,.int (p2+1)])) _;generalize upd O t1 (.tup [.int p1,.int (p2+1)])=G1 at u1 g1;refine⟨_,rfl,_,rfl,_,_,rfl,rfl,two,λt2 J=>?_⟩;have u2:=ak J (.tup [.int p1,.int (p2-1)]);have g2:(upd G1 t2 (.tup [.int p1,.int (p2-1)])) t2=some (.tup [.int p1,.int (p2-1)]):=ag;change zS _ _ _ (upd G1 t2 (.tup [.int p1,.int (p2-1)])) _;generalize upd G1 t2 (.tup [.int p1,.int (p2-1)])=G2 at u2 g2;refine⟨_,rfl,two,λt3 h3=>?_⟩;have u3:=ak h3 (.tup [.int p1,.int 0]);have g3:(upd G2 t3 (.tup [.int p1,.int 0])) t3=some (.tup [.int p1,.int 0]):=ag;change zS _ _ _ (upd G2 t3 (.tup [.int p1,.int 0])) _;generalize upd G2 t3 (.tup [.int p1,.int 0])=G3 at u3 g3;obtain⟨y4,bp⟩:∃ y:Int,y = -1-(c:Int)/8%10^(30:Int).toNat:=⟨_,rfl⟩;refine⟨_,rfl,_,rfl,_,rfl,_,_,rfl,rfl,⟨by decide,by decide⟩,_,_,rfl,rfl,⟨by decide,by decide,by decide⟩,_,_,rfl,rfl,bm,_,_,rfl,rfl,two,λt4 h4=>?_⟩
 have u4:=ak h4 (.tup [.int p1,.int y4]);have g4:(upd G3 t4 (.tup [.int p1,.int y4])) t4=some (.tup [.int p1,.int y4]):=ag;have e4:(upd G3 t4 (.tup [.int p1,.int y4]))=upd G3 t4 (.tup [.int p1,.int (-1-(c:Int)/8%10^(30:Int).toNat)]):=by rw[bp]
 change tNil _ (upd G3 t4 (.tup [.int p1,.int (-1-(c:Int)/8%10^(30:Int).toNat)])) _;rw[← e4];clear e4;generalize upd G3 t4 (.tup [.int p1,.int y4])=G4 at u4 g4;refine⟨(by show 4<=LZ;decide),λl1 a6=>?_⟩
 have v1:=ak a6 (.lst [.ref t1,.ref t2,.ref t3,.ref t4]);have k1:(upd G4 l1 (.lst [.ref t1,.ref t2,.ref t3,.ref t4])) l1=some (.lst [.ref t1,.ref t2,.ref t3,.ref t4]):=ag;change gO 7 _ _ (upd G4 l1 (.lst [.ref t1,.ref t2,.ref t3,.ref t4])) _;generalize upd G4 l1 (.lst [.ref t1,.ref t2,.ref t3,.ref t4])=G5 at v1 k1;obtain⟨y5,bq⟩:∃ y:Int,y=Mw p1 (1*2^((c:Int)/8%((n:Int)+1)).toNat):=⟨_,rfl⟩;refine⟨_,rfl,_,rfl,_,rfl,_,_,rfl,rfl,⟨by decide,by decide⟩,_,rfl,_,_,rfl,rfl,_,_,rfl,rfl,bd,_,_,rfl,rfl,⟨bn,∅,by decide⟩,_,_,rfl,rfl,_,rfl,two,λt5 h5=>?_⟩
 have u5:=ak h5 (.tup [.int y5,.int p2]);have g5:(upd G5 t5 (.tup [.int y5,.int p2])) t5=some (.tup [.int y5,.int p2]):=ag;have e5:(upd G5 t5 (.tup [.int y5,.int p2]))=upd G5 t5 (.tup [.int (Mw p1 (1*2^((c:Int)/8%((n:Int)+1)).toNat)),.int p2]):=by rw[bq]
 change zS _ _ _ (upd G5 t5 (.tup [.int (Mw p1 (1*2^((c:Int)/8%((n:Int)+1)).toNat)),.int p2])) _;rw[← e5];clear e5;generalize upd G5 t5 (.tup [.int y5,.int p2])=G6 at u5 g5;refine⟨_,rfl,_,rfl,_,_,rfl,rfl,_,rfl,two,λt6 h6=>?_⟩;have u6:=ak h6 (.tup [.int (-1-p1),.int p2]);have g6:(upd G6 t6 (.tup [.int (-1-p1),.int p2])) t6=some (.tup [.int (-1-p1),.int p2]):=ag;change tNil _ (upd G6 t6 (.tup [.int (-1-p1),.int p2])) _;generalize upd G6 t6 (.tup [.int (-1-p1),.int p2])=G7 at u6 g6;refine⟨two,λl2 aS=>?_⟩;have v2:=ak aS (.lst [.ref t5,.ref t6]);have w2:=u5.trans (u6.trans v2);refine⟨l1,l2,_,_,rfl,rfl,SqL.of (w2 _ _ k1),SqL.of ag,(by show 6<=LZ;decide),λl3 bv=>?_⟩
 have v3:=ak bv (.lst ([.ref t1,.ref t2,.ref t3,.ref t4]++[.ref t5,.ref t6]));have k3:(upd (upd G7 l2 (.lst [.ref t5,.ref t6])) l3 (.lst ([.ref t1,.ref t2,.ref t3,.ref t4]++[.ref t5,.ref t6]))) l3=some (.lst ([.ref t1,.ref t2,.ref t3,.ref t4]++[.ref t5,.ref t6])):=ag;have wA:=v2.trans v3;have sH:Same O (upd (upd G7 l2 (.lst [.ref t5,.ref t6])) l3 (.lst ([.ref t1,.ref t2,.ref t3,.ref t4]++[.ref t5,.ref t6]))):=u1.trans (u2.trans (u3.trans (u4.trans (v1.trans (w2.trans v3)))));have b4:=v1.trans (w2.trans v3);obtain⟨tj,x,ap,be⟩:∃(tj:Addr)(x:KF.Pr),atI ([V.ref t1,V.ref t2,V.ref t3,V.ref t4]++[V.ref t5,V.ref t6]) (aL:Int)=some (V.ref tj)/\(upd (upd G7 l2 (.lst [.ref t5,.ref t6])) l3 (.lst ([.ref t1,.ref t2,.ref t3,.ref t4]++[.ref t5,.ref t6]))) tj=some (.tup [.int x.1,.int x.2]):=by
  rcases(by omega:aL=0∨aL=1∨aL=2∨aL=3∨aL=4∨aL=5)with e | e | e | e | e | e<;>subst e
  .exact⟨t1,(p1,p2+1),rfl,b4 _ _ (u4 _ _ (u3 _ _ (u2 _ _ g1)))⟩
  .exact⟨t2,(p1,p2-1),rfl,b4 _ _ (u4 _ _ (u3 _ _ g2))⟩
  .exact⟨t3,(p1,0),rfl,b4 _ _ (u4 _ _ g3)⟩
  .exact⟨t4,(p1,y4),rfl,b4 _ _ g4⟩
  .exact⟨t5,(y5,p2),rfl,wA _ _ (u6 _ _ g5)⟩
  .exact⟨t6,(-1-p1,p2),rfl,wA _ _ g6⟩
 change gO 7 _ _ (upd (upd G7 l2 (.lst [.ref t5,.ref t6])) l3 (.lst ([.ref t1,.ref t2,.ref t3,.ref t4]++[.ref t5,.ref t6]))) _;generalize upd (upd G7 l2 (.lst [.ref t5,.ref t6])) l3 (.lst ([.ref t1,.ref t2,.ref t3,.ref t4]++[.ref t5,.ref t6]))=G8 at k3 sH be;refine⟨_,rfl,_,rfl,_,rfl,b,ps,rfl,SqL.of (sH _ _ aT),λC ae=>?_⟩;rw[ct];have a1:=ak ae (.lst (ps.take i));refine⟨_,rfl,_,rfl,l3,_,_,_,rfl,rfl,SqL.of (a1 _ _ k3),ap,(by show 1<=LZ;decide),λq2 ac=>?_⟩
 have a2:=ak ac (.lst [.ref tj]);refine⟨C,q2,_,_,rfl,rfl,SqL.of (a2 _ _ ag),SqL.of ag,(by rw[HW,Ht];omega),λq3 aI=>?_⟩
 have a3:=ak aI (.lst (ps.take i++[.ref tj]));refine⟨_,rfl,_,rfl,_,_,rfl,rfl,_,rfl,b,ps,rfl,SqL.of (a3 _ _ (a2 _ _ (a1 _ _ (sH _ _ aT)))),λq4 a0=>?_⟩;rw[cd];have a4:=ak a0 (.lst (ps.drop (i+1)));refine⟨q3,q4,_,_,rfl,rfl,SqL.of (a4 _ _ ag),SqL.of ag,(by rw[Hk,HW,Ht,ID];omega),λq5 al=>?_⟩
 have a5:=ak al (.lst (ps.take i++[.ref tj]++ps.drop (i+1)));have aA:=a1.trans (a2.trans (a3.trans (a4.trans a5)));have sA:=sl.trans (sH.trans aA);exact G q5 (r.take i++[x]++r.drop (i+1)) _ sA ⟨q5,_,rfl,ag,kJ (kJ (sS (cW hM sA) i) (mT (aA _ _ be))) (sU (cW hM sA) (i+1))⟩ (by rw[Hk,Hk,HW,Ht,ID];omega)
open KF (andN orN shlN xorN)
theorem CO{z:List V}(h:gR H z n rs)(s:KF.SmT H H'):gR H' z n rs:=⟨h.1,λi d=>by
 obtain⟨t,a,b,r,D,u,N,A⟩:=h.2 i d
 exact⟨t,a,b,r,D,u,s.tup N,A⟩⟩
theorem Aj(s:KF.SmT H H')(h:bC H xs ts):bC H' xs ts:=⟨h.1,λi l e=>by
 obtain⟨p,a,b⟩:=h.2 i l e
 exact⟨p,a,s.lst b⟩⟩
theorem CP(s:KF.SmT H H')(h:cm H ys es):cm H' ys es:=⟨h.1,λi l e=>by
 obtain⟨p,a,b⟩:=h.2 i l e
 exact⟨p,a,s.tup b⟩⟩
theorem WebF.smT{S:Addr->Prop}{PS:Addr}(h:WebF S PL PS f H p m es ts rs ks)(s:KF.SmT H H'):WebF S PL PS f H' p m es ts rs ks:=by
 obtain⟨t,fs,M,D,a,⟨v,⟨q,z,b1,L,b2,b3⟩,⟨J,g,c1,c2,c3⟩,⟨Y,Q,E,O,I⟩,pt⟩,n,c,d,e⟩:=h;have si:∀{b C d:Addr}{fs:List (Str×V)},H b=some (.ins C d fs)->H' b=some (.ins C d fs):=λz=>s _ _ (λG y=>by cases y) z
 refine⟨t,fs,M,D,si a,⟨v,⟨q,z,b1,L,s.lst b2,b3.1,λj l y=>?_⟩,⟨J,g,c1,s.lst c2,Aj s c3⟩,⟨Y,Q,E,s.lst O,CO I s⟩,pt⟩,n,c,s.lst d,e.1,λi x k q r=>?_⟩
 .obtain⟨r,u,N,A⟩:=b3.2 j l y;exact⟨r,u,N,s.lst A⟩
 .obtain⟨o,w,T,B⟩:=e.2 i x k q r;exact⟨o,w,T,si B⟩
theorem WebP.smT{H H':Hp}{pe pt:Addr}{m:Nat}{es:En}{ts:List (List Nat)}(h:WebP H pe pt m es ts)(s:KF.SmT H H'):WebP H' pe pt m es ts:=by
 obtain⟨⟨M,a,b⟩,⟨D,c,d⟩,g⟩:=h;exact⟨⟨M,s.lst a,CP s b⟩,⟨D,s.lst c,d.smT s⟩,g⟩
theorem dE.smT{H H':Hp}{t pe pt n:Addr}{m:Nat}{es:En}{ts:List (List Nat)}{ks:Kn}(h:dE H t pe pt n m es ts ks)(s:KF.SmT H H'):dE H' t pe pt n m es ts ks:=by
 obtain⟨a,b,⟨J,c,d⟩,e,f⟩:=h;exact⟨s.tup a,b.smT s,⟨J,s.lst c,d.1,λi k C=>by obtain⟨x,y,p,u,v⟩:=d.2 i k C;exact⟨x,y,p,u,s.tup v⟩⟩,e,f⟩
theorem FC(s:KF.SmT H H')(h:SqL K H a xs):SqL K H' a xs:=by
 rcases h with(h | ⟨o,h⟩) | h
 .exact .inl (.inl (s _ _ (λG z=>by cases z) h))
 .exact .inl (.inr ⟨o,s _ _ (λG z=>by cases z) h⟩)
 .exact .inr h
theorem oth_of(g:Gr m es ts)(b:bx (fol es ts) (2*es.length) (2*es.length) rs)(o:ks.length=es.length)(c:∀ k∈ks,0<=k.2/\k.2<=10^(30:Int).toNat)(I:2<=m)(O:es.length<=20)(h:SdAt H zs es.length rs sd):∃ ls,Oth m es ts ks rs ls:=by
 obtain⟨j,_,y⟩:=h;have a:∀(i:Nat)(l:KF.Lk),((sd.zip ks).map λx=>((x.1.1,x.1.2,x.2.2):KF.Lk))[i]?=some l->∃ x k,sd[i]?=some x/\ks[i]?=some k/\l=(x.1,x.2,k.2):=λi l D=>by
  rw[Hr]at D;obtain⟨⟨x,k⟩,M,J⟩:=HF.mp D;obtain⟨f,C⟩:=KA.mp M;exact⟨x,k,f,C,J.symm⟩
 refine⟨(sd.zip ks).map λx=>(x.1.1,x.1.2,x.2.2),g,b,⟨b.nd,b.all,λr u=>(b.ring r u).lt,λr u=>(b.ring r u).nd,by rw[Hi,List.length_zip];omega,λi l D=>?_⟩,o,λi l D=>?_,I,O⟩
 .obtain⟨x,k,M,J,rfl⟩:=a i l D;exact y i x M
 .obtain⟨x,k,M,J,rfl⟩:=a i l D;exact⟨k,J,rfl,c k (Hh J)⟩
theorem EB(mk:Nat):∀ n,((IC n).map λk=>sI (mk.testBit k)).sum=((((IC n).filter λi=>mk.testBit i).length:Nat):Int)
 |0=>rfl
 |n+1=>by
  rw[Ka,Hv,J2,EB mk n,JA,Hk]
  cases c:mk.testBit n with
  |true =>
   rw[Ji (p:=λi=>mk.testBit i) c];simp[sI,c]
  |false =>
   rw[Jj (p:=λi=>mk.testBit i) (by rw[c];exact HG)]
   simp[sI,c]
theorem kit_bB(K:Hj):LI K (.type "bool") (.type "bool")=some true:=by with_unfolding_all rfl
structure Lw(K:Hj)(TT PL PS WC:Addr)(H:Hp)(a t pe pt pk p m:Nat)(ns:List Int)(es:En)(ts rs:List (List Nat))(ks:Kn):Prop where
 hS:SqL K H a (ns.map V.int)
 bp:dE H t pe pt pk m es ts ks
 wl:WebL TT PL PS WC H p m es ts rs ks
theorem Lw.smT{K:Hj}{TT PL PS k:Addr}{H H':Hp}{a t pe pt n p m:Nat}{ns:List Int}{es:En}{ts rs:List (List Nat)}{ks:Kn}(h:Lw K TT PL PS k H a t pe pt n p m ns es ts rs ks)(s:KF.SmT H H')(tb:Tb KF.lqF KF.lpF TT H'):Lw K TT PL PS k H' a t pe pt n p m ns es ts rs ks:=by
 obtain⟨I,b1,⟨⟨S,c1⟩,c2,c3,c4,c5,b,c,_⟩⟩:=h;exact⟨FC s I,b1.smT s,⟨⟨S,c1.smT s⟩,c2,c3,c4,c5,b,c,tb⟩⟩
theorem Lw.mono{TT PS:Addr}{a t pe pt p:Nat}(h:Lw K TT PL PS f H a t pe pt N p m ns es ts rs ks)(s:Same H H'):Lw K TT PL PS f H' a t pe pt N p m ns es ts rs ks:=h.smT (KF.SmT.of s) (KF.tb_same h.wl.tb s)
inductive rLA(K:Hj)(TT PL PS WC:Addr)(D:L2.Ends)(σ:L2.St)(H:L2.Hp):Prop
 |mk (a t pe pt pk p m to q:Nat)(ns:List Int)(es:En)(ts rs:List (List Nat))(ks:Kn)(cost:Int)(L:Nat)(r:List KF.Pr)(v4 v5:Option V) (h0_:σ = [some (.ref a),some (.ref t),some (.ref p),some (.int (m:Int)),v4,v5,some (.ref to),none,none,none,none,none])(h1_:Lw K TT PL PS WC H a t pe pt pk p m ns es ts rs ks)(h2_:m<=40)(h3_:H to=some (.tup [.int cost,.int (L:Int),.ref q]))(h4_:KF.PpAt H (.ref q) r)(h5_:r.length<=2560)(h6_:∀ H',D.rt (.bl true) H')
inductive rLB(K:Hj)(TT PL PS WC:Addr)(D:L2.Ends)(σ:L2.St)(H:L2.Hp):Prop
 |mk (a t pe pt pk p m to q:Nat)(ns:List Int)(es:En)(ts rs:List (List Nat))(ks:Kn)(cost:Int)(L0 L:Nat)(r:List KF.Pr)(v4 v5:Option V) (h0_:σ = [some (.ref a),some (.ref t),some (.ref p),some (.int (m:Int)),v4,v5,some (.ref to),some (.int (L:Int)),none,none,none,none])(h1_:Lw K TT PL PS WC H a t pe pt pk p m ns es ts rs ks)(h2_:m<=40)(h3_:H to=some (.tup [.int cost,.int (L0:Int),.ref q]))(h4_:KF.PpAt H (.ref q) r)(h5_:r.length<=2560)(h6_:∀ H',D.rt (.bl true) H')
inductive pM(K:Hj)(TT:Addr)(vs:List L2.V)(H:L2.Hp)(Q:L2.VK)(x3_:L2.XK):Prop
 |mk (a:Addr)(ns:List Int) (h0_:vs = [.ref a])(h1_:SqL K H a (ns.map V.int))(h2_:ns.length<=63)(h3_:Tb KF.lqF KF.lpF TT H)(h4_:∀ H',Q (.bl true) H')
theorem eh:ay ["script","built","web","places","sides","marks","told","laying","cell","paper","handed","found"] ["script"] (ar pZ):=by ac_nf
theorem ok_law{TT f2 f3 f4 f5 f6 f7 f8 f9 g1 g2 g3 PS WC:Addr}{d3 d4 d5 d6 d7 d8 d9 e1 e2 e3:FuncData} (F:Fun K "law" "law" pZ f fd) (T:TxtO mg) (cw:CW K WC) (be:Cal P w K mg base 5 "_law_built" ["script","first","most"] (xB K) I G) (ac:Cal P w K mg base 1 "_law_cell" ["script","k"] (Ag K) f2 J) (bi:Cal P w K mg base 1 "_law_small" ["built","cell"] zU f3 d3) (bN:Cal P w K mg base 7 "_law_web" ["built"] (EG PL PS WC) f4 d4) (aT:Cal P w K mg base 4 "_law_sides" ["built"] spSd f5 d5) (aV:Cal P w K mg base 1 "_law_marks" ["built","sides"] Fy f6 d6) (cb:Cal P w K mg base 13 "least" ["web"] (uC TT PL PS WC) f7 d7) (a1:Cal P w K mg base 1 "_law_mask" ["cell","many"] uA f8 d8) (a4:Cal P w K mg base 1 "_law_paper_by" ["paper","way","cell","rounds"] spPB f9 d9) (bR:Cal P w K mg base 6 "certain" ["web","laying","paper"] (Af TT PL PS WC) g1 e1) (bm:Cal P w K mg base 5 "_law_shows" ["built","laying","paper"] ED g2 e2) (al:Cal P w K mg base 3 "_law_none_less" ["built","laying","cell"] spNL g3 e3):FnOk P w K mg base CX0 14 f fd ["script"] (pM K TT):=by
 refine F.ok eh (by walk_at "l") λaa A y s H vs Q E u h=>?_
 obtain⟨a,ns,rfl,hS,cs,tb,kq⟩:=h;have aS:=u.units
 refine⟨_,(ah (aB 1 eh.nd (bi.c u (af (be.c u (af (pv 0) (af ai (af ai aj)))) (af (ac.c u (af (pv 0) (af ai aj))) aj))))
   (ah (aB 2 eh.nd (bN.c u (af (pv 1) aj)))
   (ah (aB 3 eh.nd (az ax (by rfl) T.n_len aX (af (aM (pv 1) ai) aj)))
   (ah (aB 4 eh.nd (aT.c u (af (pv 1) aj)))
   (ah (aB 5 eh.nd (aV.c u (af (pv 1) (af (pv 4) aj))))
   (ah (aB 6 eh.nd (bh (af ai (af ai (af (bL aj) aj)))))
   (ah (bF (aD op_le (az (fx rfl) (by rfl) T.n_sum lx (af (cR [("marks",5)] ["k"] (aO rfl T.n_range (af (av b9 ai (az ax (by rfl) T.n_len aX (af (pv 4) aj))) aj)) pg_c pt_c (λC ex s H=>(av eF (av cV (pv 1) (pv 0)) ai))) aj)) ai (aE _)) (ao (aB 6 eh.nd (cb.c u (af (pv 2) aj)))) aN)
   (gk (t2:=rLA K TT PL PS WC) (ah (aB 7 eh.nd (aM (pv 6) ai))
   (ah (bF (aD cq (av aY (av bj (ac.c u (af (pv 0) (af ai aj))) ai) ai) ai (aE _)) (ao (aB 7 eh.nd (av b8 (pv 7) (av dM (av bJ ai (pv 3)) ai)))) aN)
   (gk (t2:=rLB K TT PL PS WC) (ah (bF (aD cq (av aY (av bj (ac.c u (af (pv 0) (af ai aj))) ai) ai) ai (aE _)) (ao (aB 7 eh.nd (av b8 (pv 7) (a1.c u (af (ac.c u (af (pv 0) (af ai aj))) (af (pv 3) aj)))))) aN)
   (gk (t2:=rLB K TT PL PS WC) (ah (aB 8 eh.nd (av aY (ac.c u (af (pv 0) (af ai aj))) (av xT ai ai)))
   (ah (aB 9 eh.nd (a4.c u (af (aM (pv 6) ai) (af (av aY (av bj (pv 8) ai) ai) (af (av bj (pv 8) ai) (af (az ax (by rfl) T.n_len aX (af (bM (pv 2) rfl) aj)) aj))))))
   (ah (aB 10 eh.nd (cz cQ (by rfl) T.n_list gQ (af (pv 9) aj)))
   (ah (aB 11 eh.nd (bR.c u (af (pv 2) (af (pv 7) (af (pv 10) aj)))))
   (ah (bF (PW.pt (oF (oY (lU (az Em (by rfl) T.n_isinstance rC (af (pv 11) (af (FQ (v:=.ty "bool") rfl T.n_bool GY rfl) aj))))) (oF (aD (AI aS) (pv 10) (pv 9) (aE _)) (nK (aD (AI aS) (bM (pv 2) rfl) (aM (pv 1) ai) (aE _)))))) (ao (aF nM)) aN)
   (ah (bF (aD jj (pv 11) (bm.c u (af (pv 1) (af (pv 7) (af (pv 9) aj)))) (aE _)) (ao (aF nM)) aN)
   (ao (aF (L2.pe_or (pe_not (pv 11)) (AD (vd al.ok (u.mono (by decide)) rfl al.mg al.kp al.bn .nil ji (af (pv 1) (af (pv 7) (af (av bj (vd ac.ok (u.mono (by decide)) rfl ac.mg ac.kp ac.bn .nil ji (af (pv 0) (af ai aj))) ai) aj)))))))))))))) (λD0 S0 H0 h0=>?restB))) (λD0 S0 H0 h0=>?restC)))) (λD0 S0 H0 h0=>?restA))))))))),?_⟩
 case restA =>
  obtain⟨a,t,pe,pt,pk,p,m,to,q,ns,B,ts,rs,ks,cost,L,r,v4,v5,rfl,lw,a0,bd,pp,rl,kq⟩:=h0;refine⟨_,rfl,to,_,1,_,rfl,rfl,SqT.of bd,at31,?_⟩;refine⟨_,rfl,a,0,ns,rfl,lw.hS,_,_,rfl,rfl,⟨by decide,by decide⟩,_,_,rfl,rfl,(by decide:(0:Int)<4),rfl,_,rfl,ite2 (λz=>?_) (λz=>?_)⟩
  .refine⟨_,rfl,_,rfl,_,_,rfl,rfl,⟨∅,∅,by decide⟩,_,_,rfl,rfl,_,_,rfl,rfl,?_⟩
   have ex:Mw (L:Int) (1*2^((m:Nat):Int).toNat-1)=((L^^^(2^m-1):Nat):Int):=by
    have:=IG m;rw[shlN,show(((2^m:Nat):Int)-1)=((2^m-1:Nat):Int) by omega,xorN]
   change gO 7 (V.int (Mw (L:Int) (1*2^((m:Nat):Int).toNat-1))) _ _ _;rw[ex];exact⟨a,t,pe,pt,pk,p,m,to,q,ns,B,ts,rs,ks,cost,L,_,r,v4,v5,rfl,lw,a0,bd,pp,rl,kq⟩
  .exact⟨a,t,pe,pt,pk,p,m,to,q,ns,B,ts,rs,ks,cost,L,L,r,v4,v5,rfl,lw,a0,bd,pp,rl,kq⟩
 case restC =>
  obtain⟨a,t,pe,pt,pk,p,m,to,q,ns,B,ts,rs,ks,cost,L0,L,r,v4,v5,rfl,lw,a0,bd,pp,rl,kq⟩:=h0;refine⟨_,rfl,a,0,ns,rfl,lw.hS,_,_,rfl,rfl,⟨by decide,by decide⟩,_,_,rfl,rfl,(by decide:(0:Int)<4),rfl,_,rfl,ite2 (λz=>?_) (λz=>?_)⟩
  .refine⟨_,rfl,_,rfl,a,1,ns,rfl,lw.hS,_,rfl,_,m,rfl,a0,λN hN=>⟨_,_,rfl,rfl,?_⟩⟩;change gO 7 (V.int (Mw (L:Int) (N:Int))) _ _ _;rw[show Mw (L:Int) (N:Int)=((L^^^N:Nat):Int) from xorN L N];exact⟨a,t,pe,pt,pk,p,m,to,q,ns,B,ts,rs,ks,cost,L0,_,r,v4,v5,rfl,lw,a0,bd,pp,rl,kq⟩
  .exact⟨a,t,pe,pt,pk,p,m,to,q,ns,B,ts,rs,ks,cost,L0,L,r,v4,v5,rfl,lw,a0,bd,pp,rl,kq⟩
 case restB =>
  obtain⟨a,t,pe,pt,pk,p,m,to,q,ns,B,ts,rs,ks,cost,L0,L,r,v4,v5,rfl,lw,a0,bd,pp,rl,kq⟩:=h0;have cY:(0:Int)<10^(40:Int).toNat:=by decide
  refine⟨_,rfl,a,2,ns,rfl,lw.hS,_,_,rfl,rfl,⟨by decide,by decide,by decide⟩,_,_,rfl,rfl,cY,?_⟩
  change gO 8 (V.int (lh ns 2%10^(40:Int).toNat)) _ _ _;obtain⟨C,hC⟩:∃ C:Nat,lh ns 2%10^(40:Int).toNat=(C:Int):=⟨(lh ns 2%10^(40:Int).toNat).toNat,(Jn (Jt _ (by decide))).symm⟩
  rw[hC];obtain⟨⟨S,wf⟩,g,kl,ba,kb,ab,e0,tb⟩:=id lw.wl;obtain⟨dx,fs,q1,cZ,l,wg,_,l2,an,tk⟩:=id wf;obtain⟨q5,z5,l5,ap,r5⟩:=wg.rounds;have ro:=wg.part;have cnt:=gh g ro;have b6:z5.length=rs.length:=r5.1;have bq:rs.length<=40:=by have:=g.two e0;omega
  have e1:(C:Int)/3%16=((C/3%16:Nat):Int):=rfl;have e2:(C:Int)/48=((C/48:Nat):Int):=rfl;refine⟨_,rfl,to,_,2,_,rfl,rfl,SqT.of bd,at32,_,rfl,_,_,rfl,rfl,⟨by decide,by decide⟩,_,_,rfl,rfl,(by decide:(0:Int)<16),_,rfl,_,_,rfl,rfl,⟨by decide,by decide⟩,_,rfl,p,WC,dx,fs,_,rfl,l,cw.cl,cw.n4,l5,q5,z5,rfl,.inl (SqL.of ap),q,r,C/3%16,C/48,rs.length,(by rw[b6];rfl),pp,rl,bq,λq2 r2 j s2 c6 dq=>?_⟩
  obtain⟨dr,ae,e,ct,c7⟩:=id c6
  cases e
  refine⟨_,rfl,q2,ae,rfl,.inl (SqL.of ct),λq3 a7=>?_⟩;have s3:=ak a7 (.lst ae);have ci:=cW c7 s3;have cv:=s3 _ _ ct;have cc:(upd j q3 (.lst ae)) q3=some (.lst ae):=ag;have ck:=lw.mono (s2.trans s3);generalize upd j q3 (.lst ae)=H3 at s3 ci cv cc ck;refine⟨_,rfl,_,rfl,_,rfl,p,m,B,ts,rs,ks,L,.ref q3,r2,rfl,ck.wl,⟨q3,ae,rfl,cc,ci⟩,∅,λls H4 s4 O=>?_⟩
  have cd:=ck.mono s4;have cn:=cW ci s4;have cD:=s4 _ _ cv;have cO:=s4 _ _ cc;obtain⟨⟨S4,da⟩,_,_,_,_,_,_,_⟩:=id cd.wl;obtain⟨db,dc,ds,du,dd,df,_,dw,dp,dy⟩:=id da;obtain⟨q6,z6,l6,_,aL,r6⟩:=df.turns;obtain⟨b0,dg,_,_,_⟩:=id cd.bp;obtain⟨xs,aA,hX⟩:=dg.tu;refine⟨_,rfl,_,_,_,_,_,rfl,.bl _,.inl ⟨_,rfl,rfl⟩,kit_bB K,_,rfl,iteF ?_⟩;refine⟨_,rfl,_,rfl,_,KF.prs_rd (SqL.of cO) cn,KF.prs_rd (SqL.of cD) cn,KF.prs_shaped _,_,rfl,iteF ?_⟩;refine⟨_,rfl,p,WC,db,dc,_,rfl,dd,cw.cl,cw.n3,l6,_,rfl,t,_,1,_,rfl,rfl,SqT.of b0,at31,_,qg (SqL.of aL) r6.off,qg (SqL.of aA) hX,nJ _,_,rfl,iteF ?_⟩;refine⟨_,rfl,_,rfl,_,rfl,_,rfl,t,pe,pt,pk,m,B,ts,ks,rs,ls,L,.ref q2,r2,rfl,cd.bp,O,e0,bq,⟨q2,ae,rfl,cD,cn⟩,∅,λH5 s5=>?_⟩
  refine⟨rfl,_,rfl,tD rfl ?_⟩
  cases cg:jw B ks rs ls L r2 with
  |true =>
   refine⟨_,rfl,_,rfl,_,rfl,iteF ?_⟩;refine⟨_,rfl,_,rfl,_,rfl,a,1,ns,rfl,(s5.seq cd.hS),_,_,rfl,rfl,⟨by decide,by decide⟩,t,pe,pt,pk,m,B,ts,ks,L,_,rfl,cd.bp.mono s5,a0,CS O cg,λH' _=>kq H'⟩
  |false =>
   refine⟨_,rfl,_,rfl,_,rfl,iteT (kq _)⟩
 refine⟨_,rfl,a,ns,rfl,hS,cs,λt pe pt pk m B ts ks M Y bp kb=>?_⟩;refine⟨_,rfl,a,0,ns,rfl,Y.seq hS,t,pe,pt,pk,_,m,B,ts,ks,rfl,bp,kb,λt2 bW a2 j s2 ce ca=>?_⟩;have g:=ce.w.g;have ab:=ce.few;have kl:=ce.kl;have e0:0<B.length:=by
  cases B with
  |nil =>
   exfalso;obtain⟨rs,p,c⟩:=g.part;have:rs.length=0∨0<rs.length:=by omega
   rcases this with z | z
   .have m2:m=2:=by simpa[z] using c
    have:=g.conn (λx=>x=0) (λe he=>nomatch he) 0 1 ∅ ∅ rfl
    cases this
   .obtain⟨d,hd⟩:=(p.cr _ (Hh (Hf z))).ne;have:=(p.cr _ (Hh (Hf z))).lt d hd
    cases this
  |cons e B=>exact Nat.succ_pos _
 refine⟨_,rfl,t2,pe,pt,bW,m,B,ts,a2,rfl,ce,e0,λp rs H3 s3 wf=>?_⟩;have am:=(Y.trans s2).trans s3;have cf:=ce.mono s3;have m2:=g.two e0;obtain⟨dx,fs,q1,cZ,l,wg,_,l2,an,tk⟩:=id wf;have ro:=wg.part;have cnt:=gh g ro;obtain⟨a5,dk,⟨ws,a3,hT⟩,_,_⟩:=id cf;obtain⟨xs,aA,hX⟩:=dk.tu;have xl:xs.length=m:=by rw[hX.1,g.w.len]
 have ba:∀ k∈a2,k.1=0∨k.1=1:=λk b=>by
  obtain⟨i,o⟩:=Ih.mp b;exact(hT.2 i k o).1
 have cT:∀ k∈a2,0<=k.2/\k.2<=10^(30:Int).toNat:=λk b=>by
  obtain⟨i,o⟩:=Ih.mp b;exact⟨(hT.2 i k o).2.1,ca k b⟩
 have lw:Lw K TT PL PS WC H3 a t2 pe pt bW p m ns B ts rs a2:=⟨am.seq hS,cf,⟨⟨_,wf⟩,g,kl,ba,cT,ab,e0,KF.tb_same tb am⟩⟩;have a0:m<=40:=by have:=pf g;omega
 refine⟨_,rfl,t2,_,1,_,rfl,rfl,SqT.of a5,at31,pt,xs,rfl,.inl (SqL.of aA),?_⟩;change gO 3 (V.int ((xs.length:Nat):Int)) _ _ _;rw[xl];refine⟨_,rfl,t2,pe,pt,bW,m,B,ts,a2,rs,rfl,cf,ro,λq zs sd H4 s4 nq hq aI=>?_⟩;obtain⟨ls,O⟩:=oth_of g ro kl cT m2 ab aI;have S:=O.lsS ∅ aI
 refine⟨_,rfl,_,rfl,t2,pe,pt,bW,q,m,B,ts,a2,zs,sd,ls,rfl,cf.mono s4,hq,aI.2.1,S,?_⟩;have bU:=O.d.marks (MK (bc a2) B.length);have a6:KF.oddE ls (MK (bc a2) B.length) B.length<2^rs.length:=(O.even1 ∅).1
 have cX:rgh a2 B.length rs=(KF.bl (KF.oddE ls (MK (bc a2) B.length) B.length)).length:=by unfold rgh;rw[bU]
 generalize KF.oddE ls (MK (bc a2) B.length) B.length=mk at a6 cX;refine⟨(by show 0<=LZ;exact Ia _),λl0 bX=>⟨(by show 3<=LZ;decide),λt0 bv=>?_⟩⟩
 have u1:=ak bX (.lst []);have u2:=ak bv (.tup [.int 0,.int 0,.ref l0]);have k0:=u2 _ _ (show(upd H4 l0 (.lst [])) l0=some (.lst []) from ag);have k1:(upd (upd H4 l0 (.lst [])) t0 (.tup [.int 0,.int 0,.ref l0])) t0=some (.tup [.int 0,.int 0,.ref l0]):=ag;have co:=u1.trans u2;change gO 6 _ _ (upd (upd H4 l0 (.lst [])) t0 (.tup [.int 0,.int 0,.ref l0])) _;generalize upd (upd H4 l0 (.lst [])) t0 (.tup [.int 0,.int 0,.ref l0])=H5 at k0 k1 co;have dm:=lw.mono (s4.trans co);have zl:zs.length=B.length:=by rw[aI.2.1.1,aI.1]
 have hN:(2*(zs.length:Int)).toNat=2*B.length:=by omega
 refine⟨_,rfl,q,zs,rfl,.inl (SqL.of (co _ _ hq)),_,_,rfl,rfl,.inl ⟨by decide,by decide⟩,_,rfl,∅,∅,cj (n:=(2*(zs.length:Int)).toNat) (λi us H6=>H6=H5/\us=((IC i).map λk=>sI (mk.testBit k)).map V.int) (HJ (aw ∅)) ⟨rfl,rfl⟩ ?_ ?_⟩
 .rintro i us H6 o ⟨rfl,rfl⟩;have bB:(0:Int)+(i:Int)=(i:Int):=IF _;rw[bB];refine⟨_,rfl,_,rfl,_,_,rfl,rfl,(show(0:Int)<=(i:Int) by omega),_,_,rfl,rfl,rfl,?_⟩
  rw[Ka,Hv,Hv];exact congrArg (λx=>_++[V.int x]) (GX mk i)
 rintro us H6 _ ⟨rfl,rfl⟩ D hD;rw[hN];have sD:=ak hD (.lst (((IC (2*B.length)).map λk=>sI (mk.testBit k)).map V.int));have cp:=dm.mono sD;refine⟨D,(IC (2*B.length)).map λk=>sI (mk.testBit k),rfl,SqL.of ag,_,_,rfl,rfl,_,rfl,?_⟩;have dn:((IC (2*B.length)).map λk=>sI (mk.testBit k)).sum=((rgh a2 B.length rs:Nat):Int):=by
  rw[EB,cX,ym (n:=2*B.length) (HY a6 (Im (by decide) ∅))]
 rw[dn];refine ite2 (λz=>?_) (λz=>?_)
 .have z':((rgh a2 B.length rs:Nat):Int)<=12:=Np z
  refine⟨_,rfl,p,m,B,ts,rs,a2,rfl,cp.wl,∅,λto q7 cost L r7 H7 ch bb bd pp rl rb Lm=>?_⟩
  exact⟨a,t2,pe,pt,bW,p,m,to,q7,ns,B,ts,rs,a2,cost,L,r7,_,_,rfl,cp.smT ch bb,a0,bd,pp,rl,kq⟩
 .exact⟨a,t2,pe,pt,bW,p,m,t0,l0,ns,B,ts,rs,a2,0,0,[],_,_,rfl,cp,a0,sD _ _ k1,⟨l0,[],rfl,sD _ _ k0,rfl,λi x e=>by simp at e⟩,Ia _,kq⟩
open KF (mP iW ig mL pW xH xG C0 dv gf b7 fZ mM kj kx kA mN qf iU qc mO fY kC iX)
structure GF(K:Hj)(x:Str)(st:Stmt)(f:Addr)(fd:FuncData):Prop where
 a:Ic K Ma x=some (some (.ref f))
 F:Fun K x x st f fd
structure Wr(P:Program)(w:World)(K:Hj)(mg:Str->Option Value)(base:Heap):Prop where
 g:∀{x:Str}{v:Value},Ic K Ma x=some (some v)->mg x=some v
section
variable{P:Program}{w:World}{K:Hj}{mg:Str->Option Value}{base:Heap}{x p p2 p3 p4 p5:Str}{ps:List Str}{st:Stmt}{f:Addr}{fd:FuncData}{k:Nat}{sp:Sp}
def Bn(x:Str)(st:Stmt)(us:List Value)(r:List (Str×Value)):Prop:=∀ kV B O d Y l,bindArgs (IW x x (c8 st) (cy st) (ar st) .none kV B O d Y l) ⟨us,[]⟩=pure r
theorem GF.b(g:GF K x st f fd)(h:∀ us:List Value,us.length=ps.length->Bn x st us (ps.zip us)):fJ K fd ps []:=g.F.binds λkV B O d Y l us D=>h us D kV B O d Y l
theorem Wr.c(W:Wr P w K mg base)(g:GF K x st f fd)(b:fJ K fd ps [])(o:FnOk P w K mg base CX0 k f fd ps sp):Cal P w K mg base k x ps sp f fd:=⟨o,b,W.g g.a,g.F.kp⟩
theorem Wr.c0(W:Wr P w K mg base)(g:GF K x st f fd)(o:FnOk P w K mg base CX0 k f fd [] sp)(h:Bn x st [] []:=by intros _ _ _ _ _ _;rfl):Cal P w K mg base k x [] sp f fd:=W.c g (g.b λL l=>match L,l with | [],_=>h) o
theorem GF.b1(g:GF K x st f fd)(h:∀ u,Bn x st [u] [(p,u)]):fJ K fd [p] []:=g.b λL l=>by obtain⟨_,rfl⟩:=Gg l;exact h _
theorem GF.b2(g:GF K x st f fd)(h:∀ u v,Bn x st [u,v] [(p,u),(p2,v)]):fJ K fd [p,p2] []:=g.b λL l=>by obtain⟨_,_,rfl⟩:=Ge l;exact h _ _
theorem GF.b3(g:GF K x st f fd)(h:∀ u v y,Bn x st [u,v,y] [(p,u),(p2,v),(p3,y)]):fJ K fd [p,p2,p3] []:=g.b λL l=>by obtain⟨_,_,_,rfl⟩:=len_3 l;exact h _ _ _
theorem GF.b4(g:GF K x st f fd)(h:∀ u v y z,Bn x st [u,v,y,z] [(p,u),(p2,v),(p3,y),(p4,z)]):fJ K fd [p,p2,p3,p4] []:=g.b λL l=>by obtain⟨_,_,_,_,rfl⟩:=Gd l;exact h _ _ _ _
theorem GF.b5(g:GF K x st f fd)(h:∀ u v y z t,Bn x st [u,v,y,z,t] [(p,u),(p2,v),(p3,y),(p4,z),(p5,t)]):fJ K fd [p,p2,p3,p4,p5] []:=g.b λL l=>by obtain⟨_,_,_,_,_,rfl⟩:=len_5 l;exact h _ _ _ _ _
theorem Wr.c1(W:Wr P w K mg base)(g:GF K x st f fd)(o:FnOk P w K mg base CX0 k f fd [p] sp)(h:∀ u,Bn x st [u] [(p,u)]:=by intros _ _ _ _ _ _ _;rfl):Cal P w K mg base k x [p] sp f fd:=W.c g (g.b1 h) o
theorem Wr.c2(W:Wr P w K mg base)(g:GF K x st f fd)(o:FnOk P w K mg base CX0 k f fd [p,p2] sp)(h:∀ u v,Bn x st [u,v] [(p,u),(p2,v)]:=by intros _ _ _ _ _ _ _ _;rfl):Cal P w K mg base k x [p,p2] sp f fd:=W.c g (g.b2 h) o
theorem Wr.c3(W:Wr P w K mg base)(g:GF K x st f fd)(o:FnOk P w K mg base CX0 k f fd [p,p2,p3] sp)(h:∀ u v y,Bn x st [u,v,y] [(p,u),(p2,v),(p3,y)]:=by intros _ _ _ _ _ _ _ _ _;rfl):Cal P w K mg base k x [p,p2,p3] sp f fd:=W.c g (g.b3 h) o
theorem Wr.c4(W:Wr P w K mg base)(g:GF K x st f fd)(o:FnOk P w K mg base CX0 k f fd [p,p2,p3,p4] sp)(h:∀ u v y z,Bn x st [u,v,y,z] [(p,u),(p2,v),(p3,y),(p4,z)]:=by intros _ _ _ _ _ _ _ _ _ _;rfl):Cal P w K mg base k x [p,p2,p3,p4] sp f fd:=W.c g (g.b4 h) o
theorem Wr.c5(W:Wr P w K mg base)(g:GF K x st f fd)(o:FnOk P w K mg base CX0 k f fd [p,p2,p3,p4,p5] sp)(h:∀ u v y z t,Bn x st [u,v,y,z,t] [(p,u),(p2,v),(p3,y),(p4,z),(p5,t)]:=by intros _ _ _ _ _ _ _ _ _ _ _;rfl):Cal P w K mg base k x [p,p2,p3,p4,p5] sp f fd:=W.c g (g.b5 h) o
end
theorem CJ{c T:Addr}{g:Value}{b d:Option Addr}{h i:Array (Option Value)}{vs:Array Value}(a:Ic K Ma x=some (some (.ref f)))(l:K.lookup f=some ⟨u,b,.func fd,h⟩)(e:fd.code=.ref c)(j:K.lookup c=some ⟨g,d,.fields vs,i⟩)(v:vs[11]?=some (.ref T)):JP K x=some (c,T):=by
 unfold JP;rw[a];simp only[l,e,j,v]
theorem all_mk{l:Lz}{w:World}{K:Hj}{h:Heap}{mg:Str->Option Value}{p bX bW g7 O Q aA Bz By DY yS qU DS GB yP oI wj iJ vP DU Bx BD GG DX vO BF yX BE DW GH vM DT DV tL qS vQ yR yQ GC BG bN fN bq cg eM Y BA yW tK vN yO qT oH oe cO yV yU tO vX wc vY mC we BB vU tN vR vZ BC vV yT vS oJ og GD:Addr}{cT TT:Addr}{oT:Value}{dT:Option Addr}{vT:Array Value}{d:Array (Option Value)}(X:K.In h)(G:h.Ns Ma mg) (n:mg "law" = some (.ref p))
  {Dv Er qB rH vh xj mw mH qA rG sN uj qz rF aa E9:Option Addr} {CQ pS uE ml pR rR pQ ab:Array (Option Value)} {Dw DH D5 C5 rB Ek qE qK qY qv lu rj vi vD wy uU ox wX my mz mE mv gX mG qD qJ qX qu lr rh sO sZ tP se lZ tU qC qI qW qq lj rf ac EW E2 EM Cd E3:Value}
  {B C:Tok}
  {ae al aI BV BU Ef zh D9 GK zd oM wV oo wF Eb BS BZ GP Ee wD B4 zr B3 Ed GQ wB Ea Ec tR q8 wG zg zf GO B5 am BW zo tQ wC zc q9 oK oi zm zj tT wN wR wO mF wU BX wJ tS wH wQ BY wK zi wI oO oj:FuncData}
  (xo:Ic K Ma "Pull" = some (some (.ref bX)))
  (xk:Ic K Ma "Push" = some (some (.ref bW)))
  (Ct:Ic K Ma "Web" = some (some (.ref g7)))
  (iB:HV K (.ref bX) "__init__" = some (some (.ref bN)))
  (iA:HV K (.ref bX) "wish" = some (some (.ref fN)))
  (fF:HV K (.ref bX) "across" = some (some (.ref cg)))
  (dq:HV K (.ref bX) "unpleased" = some (some (.ref bq)))
  (iy:HV K (.ref bW) "__init__" = some (some (.ref bN)))
  (iw:HV K (.ref bW) "wish" = some (some (.ref eM)))
  (fE:HV K (.ref bW) "across" = some (some (.ref cg)))
  (dk:HV K (.ref bW) "unpleased" = some (some (.ref bq)))
  (jV:HV K (.ref g7) "__init__" = some (some (.ref cO)))
  (yc:GF K "bits" xH O ae)
  (x9:GF K "ones" xG Q al)
  (DQ:GF K "odd" C0 aA aI)
  (fM:GF K "mask_of" ku Bz BV)
  (kN:GF K "reached" ko By BU)
  (m8:GF K "beyond" mP DY Ef)
  (i9:GF K "links_at" iW yS zh)
  (mX:GF K "row_to" mL DS D9)
  (qO:GF K "whole" pW GB GK)
  (i6:GF K "odd_ends" iU yP zd)
  (dy:GF K "refuse_marks" dv oI oM)
  (gN:GF K "chosen_of" gf wj wV)
  (aV:GF K "laid_in_pairs" b7 iJ oo)
  (gA:GF K "new_table" fZ vP wF)
  (mZ:GF K "paired" mM DU Eb)
  (kM:GF K "root_of" kj Bx BS)
  (kS:GF K "heights" kx BD BZ)
  (qQ:GF K "joins" qc GG GP)
  (m7:GF K "counts" mO DX Ee)
  (gz:GF K "paid_over" fY vO wD)
  (kW:GF K "cost_of" kC BF B4)
  (jh:GF K "examined" iX yX zr)
  (kU:GF K "dryings" kA BE B3)
  (m6:GF K "joined" mN DW Ed)
  (qR:GF K "hills" qf GH GQ)
  (gu:GF K "unpleased" jA vM wB)
  (mY:GF K "pushes" pX DT Ea)
  (m5:GF K "odd_at" pY DV Ec)
  (fk:GF K "odd_rounds" h9 tL tR)
  (dW:GF K "refuse_ties" fV qS q8)
  (gB:GF K "laying_of" jD vQ wG)
  (i8:GF K "links_of" lF yR zg)
  (i7:GF K "marks_of" lE yQ zf)
  (qP:GF K "least" uO GC GO)
  (kX:GF K "certain" nH BG B5)
  (ya:GF K "head" As Y am)
  (kP:GF K "leaving" nE BA BW)
  (jg:GF K "follower" lK yW zo)
  (fj:GF K "round_from" h7 tK tQ)
  (gy:GF K "rounds_of" jC vN wC)
  (i5:GF K "sides_of" lD yO zc)
  (dX:GF K "refuse_ends" fX qT q9)
  (dw:GF K "refuse_turns" fA oH oK)
  (cY:GF K "refuse_parted" eB oe oi)
  (jf:GF K "_law_cell" lJ yV zm)
  (jd:GF K "_law_head" lH yU zj)
  (fu:GF K "_law_behind" ic tO tT)
  (gG:GF K "_law_round" jI vX wN)
  (gL:GF K "_law_grown" jL wc wR)
  (gH:GF K "_law_order" jJ vY wO)
  (cD:GF K "_law_renumbered" dG mC mF)
  (gM:GF K "_law_built" jM we wU)
  (kQ:GF K "_law_web" nF BB BX)
  (gE:GF K "_law_sides" jG vU wJ)
  (fq:GF K "_law_denied" ib tN tS)
  (gC:GF K "_law_worth" jE vR wH)
  (gK:GF K "_law_marks" jK vZ wQ)
  (kR:GF K "_law_odd" nG BC BY)
  (gF:GF K "_law_shows" jH vV wK)
  (jb:GF K "_law_mask" lG yT zi)
  (gD:GF K "_law_small" jF vS wI)
  (dz:GF K "_law_paper_by" fB oJ oO)
  (cZ:GF K "_law_none_less" eE og oj)
  (oA:Ic K Ma "fares" = some (some (.ref qU)))
  (qG:K.lookup qU=some ⟨Dw,Dv,.func (IW "fares" "fares" (c8 ig) (cy ig) (ar ig) .none DH D5 C5 Er rB Ek),CQ⟩)
  (xb:Jp K rB "fares" = true)
  (qH:Iv K (.ref qU)=true)
  (iF:K.lookup bN=some ⟨qE,qB,.func (IW "__init__" "Tie.__init__" (c8 cN) (cy cN) (ar cN) .none qK qY qv rH lu rj),pS⟩)
  (iN:Jp K lu "Tie.__init__" = true)
  (iH:Iv K (.ref bN)=true)
  (fe:JK K (.ref bN)=true)
  (lL:K.lookup fN=some ⟨vi,vh,.func (IW "wish" "Tie.wish" (c8 dY) (cy dY) (ar dY) .none vD wy uU xj ox wX),uE⟩)
  (lP:Jp K ox "Tie.wish" = true)
  (i4:Iv K (.ref fN)=true)
  (lN:JK K (.ref fN)=true)
  (eI:K.lookup bq=some ⟨my,mw,.func (IW "unpleased" "Tie.unpleased" (c8 bI) (cy bI) (ar bI) .none mz mE mv mH gX mG),ml⟩)
  (eN:Jp K gX "Tie.unpleased" = true)
  (cf:Iv K (.ref bq)=true)
  (cX:JK K (.ref bq)=true)
  (iE:K.lookup cg=some ⟨qD,qA,.func (IW "across" "Tie.across" (c8 cM) (cy cM) (ar cM) .none qJ qX qu rG lr rh),pR⟩)
  (iM:Jp K lr "Tie.across" = true)
  (dD:Iv K (.ref cg)=true)
  (e9:JK K (.ref cg)=true)
  (jW:K.lookup eM=some ⟨sO,sN,.func (IW "wish" "Push.wish" (c8 dj) (cy dj) (ar dj) .none sZ tP se uj lZ tU),rR⟩)
  (j4:Jp K lZ "Push.wish" = true)
  (gs:Iv K (.ref eM)=true)
  (jX:JK K (.ref eM)=true)
  (iD:K.lookup cO=some ⟨qC,qz,.func (IW "__init__" "Web.__init__" (c8 cL) (cy cL) (ar cL) .none qI qW qq rF lj rf),pQ⟩)
  (iL:Jp K lj "Web.__init__" = true)
  (iG:Iv K (.ref cO)=true)
  (iI:JK K (.ref cO)=true)
  (Es:Ic K Ma "law" = some (some (.ref GD)))
  (Gj:K.lookup GD=some ⟨ac,aa,.func (IW "law" "law" (c8 pZ) (cy pZ) (ar pZ) .none EW E2 EM E9 Cd E3),ab⟩)
  (GV:Jp K Cd "law" = true)
  (Gn:Iv K (.ref GD)=true)
  (uY:JF K bX Str.empty=true)
  (vH:JQ K bX=true)
  (uT:Kg K bX=true)
  (uN:HV K (.ref bX) "__setattr__" = some (some (.builtin "object.__setattr__")))
  (vp:Kq K bX=true)
  (vA:Iv K (.ref bX)=true)
  (jU:HV K (.ref bX) "one" = some none)
  (jT:HV K (.ref bX) "two" = some none)
  (dJ:HV K (.ref bX) "strength" = some none)
  (uX:JF K bW Str.empty=true)
  (vG:JQ K bW=true)
  (uR:Kg K bW=true)
  (uM:HV K (.ref bW) "__setattr__" = some (some (.builtin "object.__setattr__")))
  (vo:Kq K bW=true)
  (vz:Iv K (.ref bW)=true)
  (jS:HV K (.ref bW) "one" = some none)
  (jR:HV K (.ref bW) "two" = some none)
  (dI:HV K (.ref bW) "strength" = some none)
  (AB:JF K g7 Str.empty=true)
  (Br:JQ K g7=true)
  (Ax:Kg K g7=true)
  (Ar:HV K (.ref g7) "__setattr__" = some (some (.builtin "object.__setattr__")))
  (AW:Kq K g7=true)
  (Ba:Iv K (.ref g7)=true)
  (jQ:HV K (.ref g7) "many" = some none)
  (jP:HV K (.ref g7) "ties" = some none)
  (ir:HV K (.ref g7) "turns" = some none)
  (gq:HV K (.ref g7) "rounds" = some none)
  (iu:HV K (.ref g7) "sides" = some none)
  (vI:Ic K Ma "MOST_MARKS" = some (some (.int 14 B)))
  (vJ:Ic K Ma "MOST_ODD" = some (some (.int 12 C)))
  (Fi:Ic K Ma "len" = some none)
  (Fj:Ic K Ma "int" = some none)
  (zL:Ic K Ma "bool" = some none)
  (zJ:Ic K Ma "list" = some none)
  (uo:Ic K Ma "tuple" = some none)
  (uq:Ic K Ma "range" = some none)
  (jv:Ic K Ma "enumerate" = some none)
  (g8:Ic K Ma "isinstance" = some none)
  (Fg:Ic K Ma "min" = some none)
  (Fe:Ic K Ma "sum" = some none)
  (pE:Ic K Ma "sorted" = some none)
  (Fh:Ic K Ma "max" = some none)
  (Fd:Ic K Ma "zip" = some none)
  (Fm:Ic K Ma "abs" = some none)
  (zK:Ic K Ma "dict" = some none)
  (lA:Ic K Ma "reversed" = some none)
  (Ff:Ic K Ma "set" = some none)
  (Fl:Ic K Ma "all" = some none)
  (tbc:rB=.ref cT) (tbl:K.lookup cT=some ⟨oT,dT,.fields vT,d⟩) (tbv:vT[11]?=some (.ref TT)) (tbn:K.lookup TT=none)
  : ∃ fd:FuncData,(∀(s:Shared)(v:Value),BindsTo s fd ⟨[v],[]⟩ [("script",v)])/\∃ c T,JP K "fares" = some (c,T)/\K.lookup T=none/\∀ base:Heap,K.In base->base.Ns Ma mg->JI base c T->Bm mg base->FnOk l.prog w K mg base CX0 14 p fd ["script"] (pM K T):=by
 have a4:=CJ oA qG tbc tbl tbv;have e:=n.symm.trans (JD X G Es)
 cases e
 have CB:=fun_mk (st:=ig) qG xb qH;have GZ:=CB.binds (ps:=["many","links","start"]) λ_ _ _ _ _ _ L I=>by obtain⟨j,o,q,rfl⟩:=len_3 I;rfl
 have mh:=fun_mk (st:=cN) iF iN iH;have l7:=mh.binds (ps:=["self","one","two","strength"]) λ_ _ _ _ _ _ L I=>by obtain⟨j,o,q,y,rfl⟩:=Gd I;rfl
 have pD:=fun_mk (st:=dY) lL lP i4;have zD:=pD.binds (ps:=["self"]) λ_ _ _ _ _ _ L I=>by obtain⟨j,rfl⟩:=Gg I;rfl
 have eO:=fun_mk (st:=bI) eI eN cf;have iO:=eO.binds (ps:=["self","laying"]) λ_ _ _ _ _ _ L I=>by obtain⟨j,o,rfl⟩:=Ge I;rfl
 have iP:=fun_mk (st:=cM) iE iM dD;have l4:=iP.binds (ps:=["self","place"]) λ_ _ _ _ _ _ L I=>by obtain⟨j,o,rfl⟩:=Ge I;rfl
 have oE:=fun_mk (st:=dj) jW j4 gs;have xi:=oE.binds (ps:=["self"]) λ_ _ _ _ _ _ L I=>by obtain⟨j,rfl⟩:=Gg I;rfl
 have ma:=fun_mk (st:=cL) iD iL iG;have ui:=ma.binds (ps:=["self","many","ties","turns"]) λ_ _ _ _ _ _ L I=>by obtain⟨j,o,q,y,rfl⟩:=Gd I;rfl
 have aT:=fun_mk (st:=pZ) Gj GV Gn;refine⟨IW "law" "law" (c8 pZ) (cy pZ) (ar pZ) .none EW E2 EM E9 Cd E3,λs v=>.of_eq rfl,cT,TT,a4,tbn,λbase _ _ M A=>?_⟩;have Gb:=JD X G oA;have bR:=JD X G Es;have an:=JD X G xo;have ap:=JD X G xk;have a0:=JD X G Ct;have a5:=JD X G vI;have modd:=JD X G vJ;have E:=Ig X G Fi;have H:=Ig X G Fj;have x:=Ig X G zL;have k:=Ig X G zJ;have r:=Ig X G uo;have t:=Ig X G uq;have i:=Ig X G jv;have f:=Ig X G g8;have J:=Ig X G Fg;have n_sum:=Ig X G Fe;have n_sorted:=Ig X G pE;have n_max:=Ig X G Fh;have n_zip:=Ig X G Fd;have a1:=Ig X G Fm;have bB:=Ig X G zK;have n_reversed:=Ig X G lA;have n_set:=Ig X G Ff;have n_all:=Ig X G Fl;have W:Wr l.prog w K mg base:=⟨λe=>JD X G e⟩;have u:CT K bX:=⟨⟨uY,vH,uT,uN⟩,jU,jT,dJ⟩;have TS:CT K bW:=⟨⟨uX,vG,uR,uM⟩,jS,jR,dI⟩;have b:CW K g7:=⟨⟨AB,Br,Ax,Ar⟩,jQ,jP,ir,gq,iu⟩;have T:Txt mg:=⟨E,H,x,k,r,t,i,f,J,n_sum,n_sorted⟩;have GI:FnOk l.prog w K mg base CX0 1 bN _ _ (oR K):=FZ mh;have ML:Mak l.prog w K mg base 1 "Pull" _ (oR K) bX bN _:=⟨⟨vp,iB,fe,vA⟩,GI,l7,an⟩;have MS:Mak l.prog w K mg base 1 "Push" _ (oR K) bW bN _:=⟨⟨vo,iy,fe,vz⟩,GI,l7,ap⟩;have Gh:=W.c2 ya (F0 ya.F);have Gl:=W.c3 kP (yC kP.F);have Gf:=W.c3 jg (vg jg.F T Gh Gl);have Gr:=W.c3 fj (F1 fj.F Gf);have GR:=W.c2 gy (AO gy.F T Gr);have GS:=W.c2 i5 (Dh i5.F T);have wL:Met l.prog w K mg base 1 bX "wish" _ (j7 false) fN _:=⟨⟨iA,lN,i4⟩,De pD,zD⟩;have wS:Met l.prog w K mg base 1 bW "wish" _ (j7 true) eM _:=⟨⟨iw,jX,gs⟩,Dd oE,xi⟩;have Gm:=W.c1 (sp:=(lR K)) fM (KF.ok_mask fM.F);have Gp:=W.c1 mY (FV mY.F T b u TS Gm wL wS);have Go:=W.c3 (sp:=(pL bX bW g7)) m5 (Dm m5.F T b);have Gq:=W.c1 fk (FW fk.F T b Gm Gp Go);have R1:=W.c2 dX (Dj dX.F);have R2:=W.c3 dw (AN dw.F T);have a6:=W.c2 kN (KF.ok_reached kN.F);have R3:=W.c2 cY (Di cY.F a6);have WI:FnOk l.prog w K mg base CX0 5 cO _ _ (pK K):=Df ma T R1 R2 R3 GR GS;have MW:Mak l.prog w K mg base 5 "Web" _ (pK K) g7 cO _:=⟨⟨AW,jV,iI,Ba⟩,WI,ui,a0⟩;have Gc:=W.c2 jf (F3 jf.F T);have L1:=W.c2 jd (Dr jd.F);have bU:=W.c3 fu (yD fu.F T L1);have L3:=W.c3 gG (AQ gG.F bU);have L4:=W.c1 gL (Du gL.F T L3 L1);have L5:=W.c2 gH (Dk gH.F T);have L6:=W.c2 cD (ok_ren cD.F T L5);have L7:=W.c3 gM (AR gM.F T L4 L6 Gc);have L8:=W.c1 kQ (FX kQ.F T ML MS u TS MW b);have kT:KF.Txt mg:=⟨E,H,x,k,r,t,J,a1,i,f⟩;have a7:=W.c2 m8 (KF.ok_bey m8.F);have b0:=W.c2 i9 (KF.ok_at i9.F kT);have ba:Cal l.prog w K mg base 2 "fares" _ (KF.spFares TT) qU _:=⟨KF.ok_fares CB kT a4 oA M A b0 a7,GZ,Gb,qH⟩;have b6:=W.c2 qO (KF.ok_whl qO.F a6);have ca:=W.c3 mX (KF.ok_row mX.F ⟨k,n_reversed⟩ a7);have z:=W.c1 yc (KF.ok_bits yc.F);have a2:=W.c1 x9 (KF.ok_ones x9.F kT z);have bb:=W.c1 DQ (KF.ok_odd DQ.F a2);have cb:=W.c1 fM (KF.ok_mask fM.F);have bd:=W.c3 dy (KF.ok_ref dy.F ⟨⟨_,a5⟩⟩ bb b6 a2);have be:=W.c2 gN (KF.ok_chosen gN.F);have bi:=W.c0 gA (KF.ok_table gA.F);have bm:∀(D:Nat->Nat->Int)(m:Nat),Cal l.prog w K mg base 10 "laid_in_pairs" _ (KF.spLaid D m 8) iJ _:=λD m=>⟨KF.ok_laid aV.F kT z (aV.b3 λ_ _ _=>by intros _ _ _ _ _ _;rfl) (W.g aV.a) aV.F.kp 8,(aV.b3 λ_ _ _=>by intros _ _ _ _ _ _;rfl),(W.g aV.a),aV.F.kp⟩
 have cc:=W.c3 mZ (KF.ok_paired mZ.F kT bd z ba be bi bm cb ca);have bn:KF.TxtZ mg:={ kT with n_zip:=n_zip };have a3:KF.TxtH mg:={ bn with n_reversed:=n_reversed,n_sorted:=n_sorted,n_set:=n_set };have N:KF.TxtE mg:={ a3 with n_sum:=n_sum,n_all:=n_all,n_max:=n_max };have bp:=W.c1 kM (KF.ok_root kM.F z);have cd:=W.c3 kS (KF.ok_hts kS.F bn bd z ba be bi bm bp);have ce:=W.c2 kU (KF.ok_dry kU.F a3);have ch:=W.c2 m6 (KF.ok_join m6.F kT z);have ci:=W.c3 qR (KF.ok_hills qR.F a3 cd ce bp ch);have ck:=W.c2 i6 (KF.ok_endsX i6.F N);have cl:=W.c3 qQ (KF.ok_joins qQ.F N ck);have cn:=W.c4 m7 (KF.ok_counts m7.F bb);have co:=W.c2 gz (KF.ok_paid gz.F N);have cp:=W.c2 kW (KF.ok_costO kW.F N);have cs:=W.c5 jh (KF.ok_exam jh.F N cl cn co cp);have TO:TxtO mg:={ T with n_zip:=n_zip,modd:=⟨_,modd⟩,n_max:=n_max };have TZ:TxtZ mg:={ T with n_zip:=n_zip };have ct:=W.c1 i7 (Dp i7.F TO Gq a2);have bv:=W.c1 i8 (Dq i8.F TZ b u TS);have cv:=W.c2 gD (Dg gD.F T);have aL:Met l.prog w K mg base 1 bX "across" _ (j8 bX) cg _:=⟨⟨fF,e9,dD⟩,sL iP u,l4⟩;have aS:Met l.prog w K mg base 1 bW "across" _ (j8 bW) cg _:=⟨⟨fE,e9,dD⟩,sL iP TS,l4⟩;have uL:Met l.prog w K mg base 2 bX "unpleased" _ (rO bX false) bq _:=⟨⟨dq,cX,cf⟩,AM eO u wL,iO⟩;have uS:Met l.prog w K mg base 2 bW "unpleased" _ (rO bW true) bq _:=⟨⟨dk,cX,cf⟩,AM eO TS wS,iO⟩;have M1:=W.c2 dW (ok_rt dW.F T b Gp Go);have M2:=W.c2 gB (ok_lo gB.F T b u TS M1 Gm aL aS wL wS);have M3:=W.c1 (sp:=(uC TT bX bW g7)) qP (Ds qP.F TO b ct bv cc M2 ci);have M4:=W.c2 gu (FT gu.F T b u TS Gm uL uS);have M5:=W.c3 (sp:=(Af TT bX bW g7)) kX (F2 kX.F TO b cs bv Gq M4);have N1:=W.c1 kR (FY kR.F);have N2:=W.c3 fq (ok_den fq.F);have N3:=W.c2 gC (ok_wor gC.F T N2);have N4:=W.c1 gE (ok_sd gE.F T L3);have N5:=W.c2 gK (ok_mks gK.F T);have N6:=W.c3 gF (FU gF.F TO N4 N5 N1 N3);have N7:=W.c2 jb (Dn jb.F);have N8:=W.c3 cZ (ok_nl cZ.F T N3 N7);have N9:=W.c4 dz (ok_pb dz.F T);exact ok_law aT TO b L7 Gc cv L8 N4 N5 M3 N7 N9 M5 N6 N8
theorem walk{l:Lz}{q:Program}{E:List Str}{Q:(Str->Option Value)->Heap->Prop}{I:World->Heap->Prop}{d:DefRec}{K:Params->Hj}(g:l.most=some 63)(H:d.params.defaults = [])
  (i:∀(w:World)(h:Heap),I w h->(K w.params).In h) (A:((PyProof.Rows.recsOf q).find? (λe=>e.name == ("fares" : Str))).isSome=true)
  (F:∀(w:World)(mg:Str->Option Value)(p:Addr)(h:Heap),(K w.params).In h->h.Ns Ma mg->mg d.name=some (.ref p) ->
   ∃ fd:FuncData,(∀(s:Shared)(u:Value),BindsTo s fd ⟨[u],[]⟩ [("script",u)])/\∃ c T,JP (K w.params) "fares" = some (c,T)/\(K w.params).lookup T=none/\∀ base:Heap,(K w.params).In base->base.Ns Ma mg->JI base c T->Bm mg base->FnOk l.prog w (K w.params) mg base CX0 14 p fd ["script"] (pM (K w.params) T)) :
  PySem.W.WalkO q E Q I l.row.toRowW d [] (λf vs=>PySem.call f vs) :=
 L2.walk_ofT (n:=63) (k:=14) (x:="script") (CX:=CX0) (sp:=λK T=>pM K T) g (by decide) H ⟨rfl,by decide,by decide⟩ i (Option.some_get A).symm F (λ_ _ _ a b D O v=>⟨a,b,rfl,v,D,.inl O,λ_=>rfl⟩) λ_ _ _ _ z=>z
end K8
namespace PySem.W.Fast
def tw12979097227202891648:=Nat
def tw12818755400895481858:=Nat
def tw16535891815991713028:=Nat
def tw3954917455841006597:=Nat
def tw13622357509605539913:=Nat
def tw11827078324909540396:=Nat
def tw14600723117026007084:=Nat
def tw10701722661185027437:=Nat
def tw17865921344493078318:=Nat
def tw13728838469829734832:=Nat
def tw4562477478989137362:=Nat
def tw15785381493631874196:=Nat
def tw9185219001295503220:=Nat
def tw18327956589027162869:=Nat
def tw3826465599706863445:=Nat
def tw1565426443364440761:=Nat
def tw17267383646551250362:=Nat
def tw769561026365383548:=Nat
def tw16906444300529789:=Nat
def tw14136757711873529534:=Nat
def tw8370464553450089375:=Nat
def tw3953530250734706688:=Nat
def tw6917225349036977216:=Nat
def tw14107639184685171008:=Nat
def tw6921600708651098432:=Nat
def tw1706283774870912320:=Nat
def tw10103452071326535008:=Nat
def tw3040331179250770400:=Nat
def tw14131436768419200512:=Nat
def tw14234818163581961792:=Nat
def tw16110841740446107328:=Nat
def tw13208513583716402976:=Nat
def tw17921016101548272416:=Nat
def tw4065133542478795584:=Nat
def tw9858674833450165216:=Nat
def tw14638388066701125665:=Nat
def tw3800077791165002881:=Nat
def tw4644855225113662593:=Nat
def tw6989599171673374881:=Nat
def tw3048686109305531713:=Nat
def tw10577973937223751009:=Nat
def tw7516190381295358401:=Nat
def tw17840880957321079233:=Nat
def tw4091440381016662529:=Nat
def tw15111468982453881377:=Nat
def tw9604000334718488129:=Nat
def tw6263460353312424545:=Nat
def tw8616334500205994625:=Nat
def tw3142331385228142305:=Nat
def tw3512766416275940097:=Nat
def tw8522140358599556194:=Nat
def tw6989812211515512962:=Nat
def tw2559828719174921410:=Nat
def tw14634232614450861250:=Nat
def tw8360755657835870434:=Nat
def tw15741373207142098274:=Nat
def tw1036418075975326050:=Nat
def tw13974827339533240738:=Nat
def tw15067561551855988162:=Nat
def tw11671973779235489314:=Nat
def tw15360182314632592962:=Nat
def tw17741222066196170370:=Nat
def tw16255698504589931298:=Nat
def tw15454172191903135554:=Nat
def tw2995865637755361250:=Nat
def tw3288134600981790819:=Nat
def tw1973384595643584611:=Nat
def tw10441202343857265827:=Nat
def tw14330097961361429731:=Nat
def tw6327879055320304995:=Nat
def tw10294751860054881699:=Nat
def tw4693478921809257987:=Nat
def tw17900662936614343299:=Nat
def tw10874164716957372131:=Nat
def tw9884192049182329860:=Nat
def tw14762723018358601764:=Nat
def tw2043459265696103524:=Nat
def tw13736010735529879716:=Nat
def tw119085768029740452:=Nat
def tw3088964923765840452:=Nat
def tw10588788200332620516:=Nat
def tw12080084854880911172:=Nat
def tw17412966866734149444:=Nat
def tw11317235248754129732:=Nat
def tw9141079911812750244:=Nat
def tw17436041518858396580:=Nat
def tw8981424028197202884:=Nat
def tw10645477956989627397:=Nat
def tw13954887577307504645:=Nat
def tw6210225870318436389:=Nat
def tw12849004394849630277:=Nat
def tw5841455547710491013:=Nat
def tw6204593724651753957:=Nat
def tw541234206374852357:=Nat
def tw13111127869910460454:=Nat
def tw9726238965020699750:=Nat
def tw4676290645658472838:=Nat
def tw7640660994664551814:=Nat
def tw228213751685140870:=Nat
def tw3471319474075161062:=Nat
def tw3698579060754949606:=Nat
def tw10564948344599721574:=Nat
def tw2848822539789389414:=Nat
def tw1193740429102091910:=Nat
def tw9794806068471870182:=Nat
def tw7444279818748483302:=Nat
def tw9066491244786233094:=Nat
def tw12610611092241112966:=Nat
def tw6761757417241918374:=Nat
def tw8515048866225170374:=Nat
def tw18384400136335693798:=Nat
def tw6015640034681612295:=Nat
def tw12241081277279761479:=Nat
def tw15143854737260565607:=Nat
def tw4958978655828579463:=Nat
def tw17693076970647875751:=Nat
def tw12670843041504807239:=Nat
def tw10155057537783581095:=Nat
def tw16820382489281335975:=Nat
def tw15999587445150503944:=Nat
def tw8919802910655855688:=Nat
def tw3066084756214595880:=Nat
def tw10641824480476459336:=Nat
def tw4229515543305404776:=Nat
def tw17572731159009524104:=Nat
def tw2870200367855054312:=Nat
def tw1799159749865035304:=Nat
def tw5172286664134936136:=Nat
def tw12293609434328416904:=Nat
def tw4369888121870382824:=Nat
def tw505916173116396296:=Nat
def tw4021644273139859336:=Nat
def tw2231496055738503080:=Nat
def tw12111777617197708232:=Nat
def tw9107756398553495625:=Nat
def tw14203562436957642857:=Nat
def tw3274654991539060841:=Nat
def tw10486310230791894217:=Nat
def tw5966435966362437833:=Nat
def tw10502091552213625033:=Nat
def tw10241642606092819785:=Nat
def tw10022424310731901353:=Nat
def tw7211014911891840425:=Nat
def tw5267159203488965033:=Nat
def tw8823579556089653737:=Nat
def tw10702192374331617801:=Nat
def tw5588510722062412297:=Nat
def tw1247590132545742473:=Nat
def tw1035955262111770249:=Nat
def tw182626775378330281:=Nat
def tw5475185357585165065:=Nat
def tw5491079064887588617:=Nat
def tw4646653368954367785:=Nat
def tw18012010744675666825:=Nat
def tw9520419140351812521:=Nat
def tw2623333499804574697:=Nat
def tw13367568737903417418:=Nat
def tw7462411190906355818:=Nat
def tw12138306382841374890:=Nat
def tw3721532040435931370:=Nat
def tw5797181393187931402:=Nat
def tw7358497724432125194:=Nat
def tw13837813823231249994:=Nat
def tw4978392981683706570:=Nat
def tw14407535635222036170:=Nat
def tw5532180127349926794:=Nat
def tw13940757924000519146:=Nat
def tw7951442960148042763:=Nat
def tw2691597432698565835:=Nat
def tw5598815951962355947:=Nat
def tw3457450865951566091:=Nat
def tw12110673815697384715:=Nat
def tw9995309072698071307:=Nat
def tw11998116266515803435:=Nat
def tw8359246088640638283:=Nat
def tw6822243556786219371:=Nat
def tw671090502238424491:=Nat
def tw1662054958932294283:=Nat
def tw1512084798206741323:=Nat
def tw15494316786275567435:=Nat
def tw599533258329203595:=Nat
def tw1603737436328062955:=Nat
def tw9813460219292745036:=Nat
def tw14266041533832808972:=Nat
def tw14195518748268397100:=Nat
def tw3834605733897374444:=Nat
def tw5810653557226159052:=Nat
def tw18236289784611104941:=Nat
def tw10504508770197690829:=Nat
def tw7053392045880588845:=Nat
def tw17688938869584445997:=Nat
def tw17997805786834810445:=Nat
def tw6761182589405614829:=Nat
def tw4579827600080395021:=Nat
def tw2306908985104909101:=Nat
def tw8966931966746291021:=Nat
def tw14312700896427687789:=Nat
def tw13175108446012452781:=Nat
def tw5631614030455794669:=Nat
def tw440734340765381613:=Nat
def tw15229571539703905294:=Nat
def tw6656936768502918318:=Nat
def tw4231779771007566030:=Nat
def tw3899207454672950542:=Nat
def tw8789699670854453710:=Nat
def tw8300565793492289134:=Nat
def tw15128005235090366062:=Nat
def tw15847726351750599406:=Nat
def tw6380939672103727918:=Nat
def tw3454519019439453102:=Nat
def tw7771549935358236622:=Nat
def tw15245419172954692655:=Nat
def tw3167518346452543535:=Nat
def tw1741102018508793039:=Nat
def tw12776260928056041711:=Nat
def tw3345578189128073551:=Nat
def tw12838673478663706095:=Nat
def tw15071174116085222991:=Nat
def tw10812971584428824175:=Nat
def tw4725250610194531951:=Nat
def tw1740323667880455855:=Nat
def tw2566766370326595311:=Nat
def tw1080603444951738127:=Nat
def tw3561056066861645615:=Nat
def tw10757454584981478351:=Nat
def tw6830252199103853648:=Nat
def tw18110616708623791216:=Nat
def tw18408038860613051536:=Nat
def tw15657994953627599024:=Nat
def tw16912635430034733296:=Nat
def tw18365965758323135792:=Nat
def tw3427124307927969072:=Nat
def tw1736213278056801616:=Nat
def tw8634614822823292272:=Nat
def tw13213801600321233392:=Nat
def tw13317752917384553104:=Nat
def tw14675652979396424368:=Nat
def tw13818492432102571856:=Nat
def tw15332347895928235920:=Nat
def tw6519279105088291889:=Nat
def tw12948321021270133841:=Nat
def tw9773627634522371185:=Nat
def tw17106003968248437969:=Nat
def tw2474429983814058321:=Nat
def tw10976396211418438001:=Nat
def tw10990324667730843409:=Nat
def tw1695793373206385489:=Nat
def tw6034879880852718481:=Nat
def tw174959805639565265:=Nat
def tw4477982664539202545:=Nat
def tw17146117530796398642:=Nat
def tw12004639552651692274:=Nat
def tw14134163007305810546:=Nat
def tw2875525695637255826:=Nat
def tw11934355185567147698:=Nat
def tw5808093967978782386:=Nat
def tw7843327280979848946:=Nat
def tw18237091233200491314:=Nat
def tw18349362730838707154:=Nat
def tw16790346100681034738:=Nat
def tw10894825955819505907:=Nat
def tw6087665896714593651:=Nat
def tw7307475808016977587:=Nat
def tw1960736366482495443:=Nat
def tw3603431440865495060:=Nat
def tw1157680696869216404:=Nat
def tw11758082977347832020:=Nat
def tw13097599759487803636:=Nat
def tw10432822571365588212:=Nat
def tw16515051059957005556:=Nat
def tw13039643527134252404:=Nat
def tw13089557160042504564:=Nat
def tw16072761932736760340:=Nat
def tw3876355352642066996:=Nat
def tw2575788074200214100:=Nat
def tw15335233145687793332:=Nat
def tw16546940274165198548:=Nat
def tw18048431504954907348:=Nat
def tw5029516837066783668:=Nat
def tw2843806510858265556:=Nat
def tw17093339704156169204:=Nat
def tw11809043802999984181:=Nat
def tw7679686052711035957:=Nat
def tw2377961776850340981:=Nat
def tw10396849778543844469:=Nat
def tw9758793315528159445:=Nat
def tw17670241526050639093:=Nat
def tw1399604193994807573:=Nat
def tw2965526979331869429:=Nat
def tw5200480030098259701:=Nat
def tw17083238888514331413:=Nat
def tw5083448161288625077:=Nat
def tw3622686247893050293:=Nat
def tw13347701331733055477:=Nat
def tw2319427843843167350:=Nat
def tw12358784277312358582:=Nat
def tw120472288571151542:=Nat
def tw11628387829845306614:=Nat
def tw3485024000363939094:=Nat
def tw13568806404960787894:=Nat
def tw17938162145099931318:=Nat
def tw6811153017080315606:=Nat
def tw5845672320577210294:=Nat
def tw150560738922370038:=Nat
def tw5074418009214536887:=Nat
def tw3084865809520528663:=Nat
def tw11518084300087265687:=Nat
def tw6867019354167522775:=Nat
def tw1083597031335319095:=Nat
def tw17074984128108741239:=Nat
def tw2659317541437266711:=Nat
def tw292231354946245463:=Nat
def tw996966507909545943:=Nat
def tw11812983852501734648:=Nat
def tw17508769835773004056:=Nat
def tw4791282287957128568:=Nat
def tw11907362375590533528:=Nat
def tw5560960356669198840:=Nat
def tw6302315532618569208:=Nat
def tw16137778895447011832:=Nat
def tw3441402408213838328:=Nat
def tw6320325345268543032:=Nat
def tw692410923921583736:=Nat
def tw5541800512269942616:=Nat
def tw15979309845859381112:=Nat
def tw3087753458323321848:=Nat
def tw1280856922890319961:=Nat
def tw4349642006455486745:=Nat
def tw6048019430069239225:=Nat
def tw901047437198101017:=Nat
def tw13360953326671450713:=Nat
def tw7844453160408969849:=Nat
def tw9206419244429164217:=Nat
def tw13040242945698676409:=Nat
def tw15886631979248334681:=Nat
def tw3788519034602206073:=Nat
def tw10717032632109222938:=Nat
def tw13691720495347947578:=Nat
def tw5795557130268380346:=Nat
def tw13014911326090722490:=Nat
def tw5552352848752650458:=Nat
def tw10673926006869745914:=Nat
def tw4768093445762678042:=Nat
def tw14934778547207441754:=Nat
def tw7280544213434495418:=Nat
def tw7450487937669382618:=Nat
def tw1185727015244560922:=Nat
def tw3541227052193273498:=Nat
def tw4025175248421342938:=Nat
def tw5504168697076512602:=Nat
def tw4003514545193757562:=Nat
def tw2484140444374734810:=Nat
def tw5693891223235678683:=Nat
def tw11661682764513293787:=Nat
def tw7316582117375099355:=Nat
def tw14179895793587886587:=Nat
def tw7733914128537310811:=Nat
def tw13371047750301844091:=Nat
def tw647695982216608443:=Nat
def tw16867983713140945755:=Nat
def tw12280267866521739356:=Nat
def tw2722878906500191356:=Nat
def tw4761938619849715932:=Nat
def tw17839483856590987580:=Nat
def tw4930179061346129276:=Nat
def tw3454037052050341244:=Nat
def tw4196253175355204028:=Nat
def tw1920102816633912924:=Nat
def tw15129740403896421148:=Nat
def tw12753536720898863996:=Nat
def tw12854501752159895484:=Nat
def tw16363449590000338908:=Nat
def tw13011839905052862460:=Nat
def tw12255655134924782588:=Nat
def tw573218911004265565:=Nat
def tw13053811638462459101:=Nat
def tw17170900527587515645:=Nat
def tw17137634426236908957:=Nat
def tw1255156680862087645:=Nat
def tw16740650296939733565:=Nat
def tw6190387065481268861:=Nat
def tw13025059511686406845:=Nat
def tw17766169365047465182:=Nat
def tw13136433087747185022:=Nat
def tw8864139535428679038:=Nat
def tw6573167372825679326:=Nat
def tw17037578281461094046:=Nat
def tw14001075093672390302:=Nat
def tw10348027780009985055:=Nat
def tw13879273281175180319:=Nat
def tw2258245698796790911:=Nat
def tw18219910349117000895:=Nat
def tw17939460902714114367:=Nat
def tw11405960280655466975:=Nat
def tw10574628136841610751:=Nat
def tw13044624666138535455:=Nat
def tw7718201841377208895:=Nat
def tw1511035514080166495:=Nat
def tw14391061751777099359:=Nat
def tw11964324360496665311:=Nat
def tw4828268753756458847:=Nat
def tw5574490958102554623:=Nat
def tw3472520206957509263:=Nat
end PySem.W.Fast
open PySem PySem.W PyProof.Rows
set_option maxRecDepth 100000 in
set_option maxHeartbeats 0 in
theorem PySem.Challenge.cw_spinfloor_k32_papers_for_layings_holds : PySem.Challenge.rw_spinfloor_k32_papers_for_layings.Holds := by
 w_on;o_law;k_head;(case hw=>w_witness2);k_fill;refine K8.walk (l:=PySem.Challenge.rw_spinfloor_k32_papers_for_layings) rfl rfl (λw h Y=>PySem.W.km_in_of Y) ?R ?F;(case R=>kernel_rfl)
 case F =>
  intro w mg fa h KX G hmg;refine' K8.all_mk KX G hmg ?xo ?xk ?Ct ?iB ?iA ?fF ?dq ?iy ?iw ?fE ?dk ?jV ?yc ?x9 ?DQ ?fM ?kN ?m8 ?i9 ?mX ?qO ?i6 ?dy ?gN ?aV ?gA ?mZ ?kM ?kS ?qQ ?m7 ?gz ?kW ?jh ?kU ?m6 ?qR ?gu ?mY ?m5 ?fk ?dW ?gB ?i8 ?i7 ?qP ?kX ?ya ?kP ?jg ?fj ?gy ?i5 ?dX ?dw ?cY ?jf ?jd ?fu ?gG ?gL ?gH ?cD ?gM ?kQ ?gE ?fq ?gC ?gK ?kR ?gF ?jb ?gD ?dz ?cZ ?oA ?qG ?xb ?qH ?iF ?iN ?iH ?fe ?lL ?lP ?i4 ?lN ?eI ?eN ?cf ?cX ?iE ?iM ?dD ?e9 ?jW ?j4 ?gs ?jX ?iD ?iL ?iG ?iI ?Es ?Gj ?GV ?Gn ?uY ?vH ?uT ?uN ?vp ?vA ?jU ?jT ?dJ ?uX ?vG ?uR ?uM ?vo ?vz ?jS ?jR ?dI ?AB ?Br ?Ax ?Ar ?AW ?Ba ?jQ ?jP ?ir ?gq ?iu ?vI ?vJ ?Fi ?Fj ?zL ?zJ ?uo ?uq ?jv ?g8 ?Fg ?Fe ?pE ?Fh ?Fd ?Fm ?zK ?lA ?Ff ?Fl ?tbc ?tbl ?tbv ?tbn;(case xo|xk|Ct|iB|iA|fF|dq|iy|iw|fE|dk|jV=>k_is)
  (case yc|x9|DQ|fM|kN|m8|i9|mX|qO|i6|dy|gN|aV|gA|mZ|kM|kS|qQ|m7|gz|kW|jh|kU|m6|qR|gu|mY|m5|fk|dW|gB|i8|i7|qP|kX|ya|kP|jg|fj|gy|i5|dX|dw|cY|jf|jd|fu|gG|gL|gH|cD|gM|kQ|gE|fq|gC|gK|kR|gF|jb|gD|dz|cZ=>refine' ⟨?ja,L2.fun_mk ?jl ?jc ?jk⟩;(case ja=>k_is);(case jl=>k_is);(case jc=>k_is);(case jk=>k_is));(case oA|qG|xb|qH|iF|iN|iH|fe|lL|lP|i4|lN|eI|eN|cf|cX|iE|iM|dD|e9|jW|j4|gs|jX|iD|iL|iG|iI|Es|Gj|GV|Gn|uY|vH|uT|uN|vp|vA|jU|jT|dJ|uX|vG|uR|uM|vo|vz|jS|jR|dI|AB|Br|Ax|Ar|AW|Ba|jQ|jP|ir|gq|iu|vI|vJ|Fi|Fj|zL|zJ|uo|uq|jv|g8|Fg|Fe|pE|Fh|Fd|Fm|zK|lA|Ff|Fl=>k_is)
  (case tbc=>rfl);(case tbl=>k_is);(case tbv=>rfl);(case tbn=>kernel_rfl)
