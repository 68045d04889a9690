import PyProof.Rows.All
import Wide.All
import OpenK.AllK
import Wide.FinOn
import Lean
import PyProof.EqAt
import PyProof.EqKinds
import PyProof.TupleCall
import PySem.Challenge.RW_spinfloor_k74_rough_webs_refused
open PyProof.Rows renaming callWith_type1 → L7, kindOf → Mj, IntsAre → Mp, seqObj → MI, get?_update_seq → MJ
open PyProof.Rows.F renaming plain_set_update_loop → M9
open PyProof.Rows.LCg renaming lst → Mx
open PySem renaming sizeLine → LK, mainGlobals → LN, bootBuiltins → LO, starEach → LR, wpAny_mono → LS, compareOp → LU, wpAny_truthy_bool → LV, assignEach → LW, wpAny_bind → LX, wpAny_holding → LY, wpAny_passesOwn → LZ, wpAny_pure → L4, foldedSetIterable → L8, binaryOp → L9, codeAny → Md, codeAny_mono → Mh, wpAny_Call_Name_kw → Mi, wpAny_specialOf → Mr, wpAny_ite_split → Mt, wpAny_isInstance → Mu, wpAny_newObj_type → My, wpAny_call_entry → Mz, wpAny_callSpecial?_slot → MB, wpAny_typeNameOfWhole_itemiter → MC, wpAny_isOneOf_itemiter → ME, wpAny_setField_rec → MF, wpAny_letGo → MH, wpAny_newList → MN, codeAny_builtin → MP, wpAny_seqItems → MR, wpAny_tryCatch → MT, updateSeq → MU, wpAny_updateSeq → MV, plainId_quiet → MX, wpAny_setState_of → M7, wpAny_askSetting → Na
open PySem.Around renaming under_plainId → MQ
open PySem.Builtin renaming bitAnd → Ma, bitOr → Mb, bitXor → Mc
open PySem.Builtin.Builtins renaming bindParams → MY
open PySem.Builtin.Dict_items renaming ownsTuple → MA, pairFromOwner → MG
open PySem.Builtin.List renaming listLengthHint → Ms, listExtendWith → Nb, listSameRef → Nc, listItems → Nd
open PySem.Calls renaming spliced_nil → Mf, spliced_cons → Mg, callWith_builtin → Mo
open PySem.Heap renaming lt_size → LL, get?_none_of_le → LP, SameBut → LQ, get?_push_of_some → L5, get?_push_size → L6, size_push → Me, get?_update_self → Mm, get?_update_other → Mn, size_update → MO
open PySem.Heap.SameBut renaming update → MD
open PySem.Obj renaming mapSeq → Ml
open PySem.PyData renaming depth → Mv, canLay0 → Mw
open PySem.SetTable renaming below → M0, grown → M8
open Array renaming length_toList → Hd, getElem?_toList → Hv, getElem?_eq_getElem → HS, getElem?_eq_none → JF, getD → JS, getD_eq_getD_getElem? → JW, getElem?_eq_some_iff → JX, toList_push → K4
open Bool renaming false_ne_true → G4, true_and → Ht, false_eq_true → HL, false_and → HM, xor_false → IB, and_false → Jr, and_eq_true → JP, eq_iff_iff → JV, false_xor → Kb, not_true → Kk, xor_comm → KS, and_true → KU, xor_assoc → Lu, or_false → LH
open Classical renaming propDecidable → JD, choose_spec → Kw
open Int renaming toNat_natCast → GA, zero_add → IF, le_refl → IM, natCast_nonneg → IV, add_zero → Jn, toNat_of_nonneg → Jv, emod_nonneg → JC, emod_lt_of_pos → J1, natCast_ediv → Lc, natCast_pow → Lj, natCast_add → Ll, fdiv_eq_ediv_of_nonneg → Lo
open List renaming getElem?_eq_some_iff → Gn, getElem?_eq_getElem → Gs, length_map → Gu, mem_of_getElem? → Gv, length_append → Gx, getElem?_append_right → Gz, getElem?_append_left → GB, getElem?_map → GC, mem_cons_of_mem → GD, mem_cons → GG, replicate → GH, mem_singleton → GJ, map_append → GK, mem_cons_self → GN, length_singleton → GO, getD_eq_getElem?_getD → GP, size_toArray → GQ, mem_append → GU, range → GW, length_cons → GX, map_cons → G7, length_range → Hc, take_add_one → He, mem_append_right → Hh, take_length → Hi, nodup_cons → Hj, mem_range → Hk, mem_map → Hn, length_take → Hs, mem_append_left → Hu, length_set → Hx, getElem?_of_mem → HE, sum_cons → HH, getElem?_set_ne → HI, mem_flatten → HJ, nodup_append → HR, length_pos_of_mem → HU, getElem?_range → HZ, getElem?_replicate → Ia, append_assoc → Ib, perm_ext_iff_of_nodup → Ic, getElem_mem → Ii, getElem_of_mem → Ij, mem_iff_getElem? → Il, length_replicate → Im, getElem?_eq_none → Io, mem_filter → Iu, length_drop → Iv, pairwise_iff_getElem → IA, range_succ → ID, length_filter_le → IE, replicate_succ' → IH, sum_append → IK, length_nil → IL, getElem?_set_self → IQ, mem_reverse → IS, map_map → IU, nodup_nil → IW, idxOf_lt_length_iff → IZ, map_congr_left → Ja, length_reverse → Jb, length_eq_zero_iff → Jc, eq_nil_of_length_eq_zero → Je, take_of_length_le → Jh, filter_append → Ji, take_append_drop → Jl, lookup → Jm, getElem?_set → Jp, erase_cons_head → Jq, not_mem_nil → Jt, flatten_append → Ju, length_erase_of_mem → Jw, find?_cons → Jy, filter_cons_of_pos → Jz, filter_cons_of_neg → JA, append_nil → JB, sum_nil → JK, map_nil → JL, all_eq_true → JO, dropLast_concat_getLast → JR, mem_replicate → JZ, mem_or_eq_of_mem_set → J2, drop_eq_getElem_cons → Ka, pairwise_map → Kg, foldl_append → Kh, nodup_range → Kl, filter_cons → Km, of_mem_zip → Ku, foldl_cons → Kv, pairwise_append → Ky, mem_of_mem_drop → Kz, mem_erase_of_ne → KA, length_eraseIdx → KC, filterMap_cons → KL, pairwise_cons → KP, mem_filterMap → KQ, getElem?_drop → KR, length_erase → KZ, flatten_cons → K0, eraseIdxIfInBounds_toArray → K3, map_reverse → K9, isEmpty_nil → La, cons_append → Lb, getElem?_eraseIdx_of_lt → Ld, getElem?_eraseIdx_of_ge → Le, idxOf_cons → Lh, filter_nil → Li, length_eraseIdx_of_lt → Ln, take_zero → Lr, getElem?_zip_eq_some → Ls, mem_of_mem_eraseIdx → Lx, pairwise_singleton → LF, any_cons → LG
open List.Pairwise renaming nil → JH
open Nat renaming le_refl → Gy, ne_of_lt → G0, le_of_lt → G6, testBit_two_pow → Hf, lt_of_lt_of_le → Hg, sub_self → Hl, zero_le → Hq, le_trans → Hy, pow_lt_pow_right → Hz, lt_succ_self → HB, pow_le_pow_right → HC, eq_of_testBit_eq → HD, lt_irrefl → HF, testBit_xor → HK, xor_assoc → HN, zero_testBit → HP, two_pow_pos → HQ, ne_of_gt → HY, lt_pow_two_of_testBit → Ig, mod_eq_of_lt → Ih, lt_succ_of_lt → Ik, xor_lt_two_pow → Iq, not_lt_zero → Ir, le_succ → IG, lt_trans → IT, testBit_eq_decide_div_mod_eq → IX, testBit_or → Jg, testBit_and → Jk, not_lt_of_le → Js, testBit_lt_two_pow → JE, xor_self → JI, mod_self → JJ, le_of_not_lt → JM, le_add_right → JN, testBit_two_pow_sub_one → JU, xor_comm → JY, or_lt_two_pow → Ke, lt_trichotomy → Kf, min_eq_left → Kt, mul_le_mul_right → Kx, testBit → KJ, add_sub_cancel → KO, le_succ_of_le → KY, xor_zero → K5, mod_lt → Lw
open Nat.succ renaming inj → K6
open Option renaming map_eq_some_iff → G5, isSome_iff_exists → Kd, map_some → Ks
open Option.some renaming inj → G3
open PySem renaming Spec → GV, mem_of_lookup → IJ, frameOf → Ly
open PySem.F renaming plainAttrs_list → GZ, type_list_append → G8, slot_list_append → G9, plain_min_loop → Hr, plain_extend_loop → Iz, entry_min_loop → IP, plainAttrs_dict → Kj, slot_dict_get → Kr, excBase_ValueError → Lm, args_list_init_2 → Lv, typeCall_list_1 → LA, slot_dict_items → LB, entry_list_init → LC, args_dict_get_3 → LD
open PySem.W renaming Frag → Gw, findIn → GY, nsIn → Hm, mg_none_of → Ho, keepIn → Hw, kitOne → HG, mroIn → HV, kia_one → HW, fnOf → Ie, mg_of → Ip, emptyDict → Iw, codeIn → Iy, hasDictIn → II, instObj → IY, plainGet → Jd, CodeHd → Jf, isFn → Jj, tabIn → Jo, callWith_K → Jx, plainOver → JG, looks_findIn → JQ, makesIn → JT, specialIn → Kc, Looks → Ki, takesIn → Ko, kla_obj → Kq, lookIn → KD, plainGet_of → KG, looks_mroIn → KH, hideAll_get → KI, excIn → KN, methodObj → KW, any_some → K7, takerIn → Lf, OpenLaw → Lg, tabObj → Lp, notCls → Lq, clsIn → Lz
set_option Elab.async false
set_option linter.all false
set_option compiler.extract_closed false
set_option genSizeOf false
set_option maxRecDepth 100000
local macro_rules | `(tactic| omega) => `(tactic| first | assumption | lia | omega +splitDisjunctions)
local macro_rules | `(tactic| ac_rfl) => `(tactic| omega +splitDisjunctions)
local macro_rules | `(tactic| ac_nf) => `(tactic| exact ⟨rfl,rfl,rfl,by decide +kernel,rfl,by decide +kernel,by decide +kernel⟩)
local macro_rules | `(tactic| decide) => `(tactic| decide +kernel)
local macro_rules | `(∅) => `(by omega)
local macro_rules | `(tactic| walk_at "cc") => `(tactic| first | exact ⟨by decide, by decide⟩ | (show (0 : Int) < _; decide) | (show (0 : Int) < _; omega) | (show (0 : Int) ≤ _; omega) | exact ⟨by decide, by decide, by decide⟩ | exact ⟨by omega, by omega, by decide⟩ | exact Or.inl ⟨by decide, by decide⟩ | exact Or.inl ⟨by omega, by omega⟩)
local macro_rules | `(tactic| walk_at "rd") => `(tactic| repeat (first | refine ⟨_, rfl, ?_⟩ | (refine ⟨_, _, rfl, rfl, ?cc, ?_⟩; (case cc => walk_at "cc")) | refine ⟨_, _, rfl, rfl, ?_⟩ | refine ⟨rfl, ?_⟩ | (refine ⟨?cc, ?_⟩; (case cc => walk_at "cc"))))
local macro_rules | `(tactic| walk_at "l") => `(tactic| (intro _ _ _ _ h; first | (cases h; subst_vars; rfl) | repeat (first | (obtain ⟨e, _⟩ := h; subst e; rfl) | obtain ⟨_, h⟩ := h)))
theorem LJ{p:Prop}[Decidable p](h:¬p):decide p=false:=decide_eq_false h
theorem Mq{p:Prop}[Decidable p](h:p):decide p=true:=decide_eq_true h
theorem MZ{p:Prop}[Decidable p](h:decide p=true):p:=of_decide_eq_true h
theorem Nf.{u}{c:Prop}{h:Decidable c}(Y:c){α:Sort u}{t e:α}:ite c t e=t:=if_pos Y
theorem Ng.{u}{c:Prop}{h:Decidable c}(Y:¬c){α:Sort u}{t e:α}:ite c t e=e:=if_neg Y
theorem Nh{a b:Prop}(h:a)(g:¬a):b:=absurd h g
open PySem (Addr Around CmpOp Env Expr FuncData Heap Obj Pos Program Result Scope Sem Shared Stmt Str Value World)
variable{C I PL a f it p q tb tp va wd:Addr}{A:Around}{op:CmpOp}{env:Env}{e:Expr}{G Y fd:FuncData}{K:Gw}{base h h':Heap}{L:List (Addr×Obj)}{rs ts:List (List Nat)}{T:List (Option Int)}{O:List (Option Nat)}{fr:List (Str×Nat)}{ch fp:List Addr}{outer:List Env}{ns ord:List Int}{W l l' ps:List Nat}{its us vs:List Value}{M N ep i j m mk n t' tk:Nat}{D:Nat->Nat->Int}{ex ex':Nat->Nat->Prop}{o ob:Obj}{pos:Pos}{P:Program}{B:Prop}{R:Result->Shared->Prop}{scope:Scope}{pl:Sem Bool}{s s':Shared}{x:Str}{mg:Str->Option Value}{α:Type}{u:Value}{E Q:Value->Shared->Prop}{w:World}
namespace L2
open PySem PySem.Spec PyProof.Rows
abbrev Key:=Sum Int Str
def nX:Key->Value->Bool
 |.inl k,v=>Value.isInt k v
 |.inr x,v=>Value.isStrOf x v
def keyH(w:World):Key->Int
 |.inl k=>hashInt k
 |.inr x=>hashStr w x
theorem aW:∀{k:Key}{v:Value},nX k v=true->(∃ i t,k=Sum.inl i/\v=Value.int i t)∨(∃ x t,k=Sum.inr x/\v=Value.str x t)
 |.inl i,v,h=>by
  obtain⟨t,e⟩:=Value.isInt_shape (k:=i) (v:=v) h;exact .inl ⟨i,t,rfl,e⟩
 |.inr x,v,h=>by
  obtain⟨t,e⟩:=Value.isStrOf_shape (x:=x) (v:=v) h;exact .inr ⟨x,t,rfl,e⟩
theorem Aw(i:Int)(t:Tok):nX (.inl i) (.int i t)=true:=by simp[nX,Value.isInt]
theorem Av(x:Str)(t:Tok):nX (.inr x) (.str x t)=true:=by simp[nX,Value.isStrOf]
theorem key_ll(a b:Int):decide ((Sum.inl a:Key)=Sum.inl b)=(a == b):=by
 by_cases e:a=b
 .subst e;simp
 .have h:¬ (Sum.inl a:Key)=Sum.inl b:=λq=>e (Sum.inl.inj q)
  rw[LJ h];exact(beq_eq_false_iff_ne.mpr e).symm
theorem key_rr(a b:Str):decide ((Sum.inr a:Key)=Sum.inr b)=decide (a=b):=by
 by_cases e:a=b
 .subst e;simp
 .have h:¬ (Sum.inr a:Key)=Sum.inr b:=λq=>e (Sum.inr.inj q)
  rw[LJ h,LJ e]
theorem key_lr(a:Int)(b:Str):decide ((Sum.inl a:Key)=Sum.inr b)=false:=LJ (λq=>nomatch q)
theorem key_rl(a:Str)(b:Int):decide ((Sum.inr a:Key)=Sum.inl b)=false:=LJ (λq=>nomatch q)
def br(prog:Program)(w:World):PySem.KeyKind prog w Key where
 is:=nX
 hash:=keyH w
 inj:=λv a b E M=>by
  rcases aW E with⟨i,t,rfl,rfl⟩ | ⟨x,t,rfl,rfl⟩
  .rcases aW M with⟨j,u,rfl,e⟩ | ⟨y,u,rfl,e⟩
   .injection e with O _;rw[O]
   .exact nomatch e
  .rcases aW M with⟨j,u,rfl,e⟩ | ⟨y,u,rfl,e⟩
   .exact nomatch e
   .injection e with O _;rw[O]
 byValue:=λk v h=>by
  rcases aW h with⟨i,t,rfl,rfl⟩ | ⟨x,t,rfl,rfl⟩<;>rfl
 pyHash:=λp h=>by
  rcases aW p with⟨i,t,rfl,rfl⟩ | ⟨x,t,rfl,rfl⟩
  .exact wpAny_pyHash_int h
  .exact wpAny_pyHash_str h
 eqBool:=λT p h=>by
  rcases aW T with⟨i,t,rfl,rfl⟩ | ⟨x,t,rfl,rfl⟩
  .rcases aW p with⟨j,u,rfl,rfl⟩ | ⟨y,u,rfl,rfl⟩
   .rw[key_ll]at h;exact wpAny_eqBool_int h
   .rw[key_lr]at h;exact SeqAt.EqAt.int_str i t y u _ _ _ _ h
  .rcases aW p with⟨j,u,rfl,rfl⟩ | ⟨y,u,rfl,rfl⟩
   .rw[key_rl]at h;exact SeqAt.EqAt.str_int x t j u _ _ _ _ h
   .rw[key_rr]at h;exact wpAny_eqBool_str h
 «strs»:=λk x t v h=>by
  rcases aW h with⟨i,u,rfl,e⟩ | ⟨y,u,rfl,e⟩
  .exact nomatch e
  .injection e with O _;subst O
   cases v<;>rfl
theorem uC(prog:Program)(w:World)(i:Int)(t:Tok):(br prog w).is (.inl i) (.int i t)=true:=Aw i t
theorem uB(prog:Program)(w:World)(x:Str)(t:Tok):(br prog w).is (.inr x) (.str x t)=true:=Av x t
inductive V where
 |non | bl (b:Bool) | int (i:Int) | str (x:Str) | byt (b:Array UInt8) | flt (b:UInt64) | ref (a:Addr) | ty (n:String)
 deriving DecidableEq
def RelV:V->Value->Prop
 |.non,u=>u=Value.none
 |.bl b,u=>u=Value.bool b
 |.int i,u=>∃ t,u=Value.int i t
 |.str x,u=>∃ t,u=Value.str x t
 |.byt b,u=>∃ t,u=Value.bytes b t
 |.flt b,u=>∃ t,u=Value.float b t
 |.ref a,u=>u=Value.ref a
 |.ty n,u=>u=Value.type n
abbrev Vals:List V->List Value->Prop:=Paired RelV
theorem Vals.length{xs:List V}{us:List Value}(r:Vals xs us):xs.length=us.length:=Paired.length r
theorem Vals.get:∀{xs:List V}{us:List Value}{i:Nat}{x:V},Vals xs us->xs[i]?=some x->∃ u,us[i]?=some u/\RelV x u
 |_,_,_,_,.nil,e=>by simp at e
 |_,_,0,_,.cons r _,e=>by simp at e;subst e;exact⟨_,rfl,r⟩
 |_,_,i+1,x,.cons _ t,e=>by
  obtain⟨u,J,Y⟩:=Vals.get (i:=i) (x:=x) t (by simpa using e)
  exact⟨u,by simpa using J,Y⟩
theorem Vals.set{x:V}{u:Value}(r:RelV x u):∀{xs:List V}{us:List Value}(i:Nat),Vals xs us->Vals (xs.set i x) (us.set i u)
 |_,_,_,.nil=>.nil
 |_,_,0,.cons _ t=>.cons r t
 |_,_,i+1,.cons q t=>.cons q (Vals.set r i t)
theorem Vals.append:∀{xs ys:List V}{us k:List Value},Vals xs us->Vals ys k->Vals (xs++ys) (us++k)
 |_,_,_,_,.nil,s=>s
 |_,_,_,_,.cons r t,s=>.cons r (Vals.append t s)
theorem Vals.take:∀{xs:List V}{us:List Value}(n:Nat),Vals xs us->Vals (xs.take n) (us.take n)
 |_,_,0,_=>.nil
 |_,_,_+1,.nil=>.nil
 |_,_,n+1,.cons r t=>.cons r (Vals.take n t)
theorem Vals.drop:∀{xs:List V}{us:List Value}(n:Nat),Vals xs us->Vals (xs.drop n) (us.drop n)
 |_,_,0,r=>r
 |_,_,_+1,.nil=>.nil
 |_,_,n+1,.cons _ t=>Vals.drop n t
def RelO:Option V->Option Value->Prop
 |some v,some u=>RelV v u
 |none,none=>True
 |_,_=>False
def KV{a:Type}:List (a×V)->List (a×Value)->Prop:=Paired λ(p:a×V) (q:a×Value)=>p.1=q.1/\RelV p.2 q.2
def kV:Key->V
 |.inl i=>.int i
 |.inr x=>.str x
inductive HO where
  |lst (xs:List V)
  |tup (xs:List V)
  |dK (kvs:List (Key×V)) | dT (kvs:List (List Key×V))
  |set (S:Int->Bool) (n:Nat)
  |ins (C dx:Addr) (fs:List (Str×V))
  |own (x:Addr)
  |xd (fs:List (Str×V))
  |met (f x:Addr)
  |rng (lo hi:Int)
  |frz (o:Obj) (u:HO)
  |tbl (ps:Array Value)
  |ext (φ:Heap->Prop)
abbrev Hp:=Addr->Option HO
def upd(H:Hp)(a:Addr)(o:HO):Hp:=λb=>if b=a then some o else H b
theorem af{H:Hp}{o:HO}:upd H a o a=some o:=by unfold upd;rw[Nf rfl]
theorem ao{H:Hp}{b:Addr}{o:HO}(h:b≠a):upd H a o b=H b:=by unfold upd;rw[Ng h]
theorem xr{H:Hp}{b:Addr}{o u:HO}(h:H a=some o)(h':H b=some u)(d:o≠u):a≠b:=by
 intro e;subst e;rw[h]at h';exact d (G3 h')
theorem ax{H:Hp}{b:Addr}{o:HO}(h:H a=some o)(h':H b=none):a≠b:=by
 intro e;subst e;rw[h]at h';cases h'
section
variable(P:Program)(w:World)
def bp(H:Hp)(h:Heap)(a:Addr):HO->Prop
 |.lst N=>N.length<=LK/\∃(E:List Value)(n:Nat),Vals N E/\h.get? a=some { cls:=.type "list",data:=.seq E.toArray n }
 |.tup N=>N.length<=LK/\∃ E:List Value,Vals N E/\IsTup h a E.toArray
 |.dK m=>m.length<=LK/\(a == sysModules)=false/\∃ M,KV m M/\h.DictOf (br P w) a M
 |.dT m=>m.length<=LK/\(a == sysModules)=false/\∃ N:List (List Key×Addr×Value),
   Paired (λ(p:List Key×V) (q:List Key×Addr×Value)=>p.1=q.1/\H q.2.1=some (.tup (p.1.map kV))/\RelV p.2 q.2.2) m N /\
   ∃ o D L,h.get? a=some o/\o.ExactDict/\o.data=.dict D L/\D.toList=N.map (entryOfKey (tupleKind (br P w)))/\(N.map (·.1)).Nodup
 |.set S n=>h.SetOf (intKind P w) a S n
 |.ins C g fs=>H g=some (.own a)/\fs.length<=1000/\g≠a/\h.get? a=some (IY C g) /\
   ∃ j,h.Ns1 g j/\(∀ f,RelO (fs.lookup f) (j f))/\PySem.Within j (fs.map (·.1))
 |.own _=>∃ o,h.get? a=some o
 |.xd fs=>∃ j,h.Ns1 a j/\∀ f,RelO (fs.lookup f) (j f)
 |.rng lo T=>∃ t u v,h.get? a=some { cls:=.type "range",data:=.fields #[.int lo t,.int T u,.int 1 v] }
 |.frz o u=>h.get? a=some o/\bp H h a u
 |.tbl i=>h.get? a=some { cls:=.none,data:=.fields i }
 |.met f x=>h.get? a=some (KW (.ref f) (.ref x))
 |.ext l=>l h/\(∃ o,h.get? a=some o)/\∀ J Y:Heap,l J->(∀ o,J.get? a=some o->Y.get? a=some o)->l Y
def HOk(H:Hp)(h:Heap):Prop:=∀ a o,H a=some o->bp P w H h a o
end
section
variable{P:Program}{w:World}{H H':Hp}{h h':Heap}{a:Addr}{o:HO}
theorem bp.lt(x:bp P w H h a o):a<h.objs.size:=by
 cases o with
 |lst N=>obtain⟨_,_,_,_,e⟩:=x;exact LL e
 |tup N=>obtain⟨_,_,_,p⟩:=x;exact p.lt
 |dK m=>obtain⟨_,_,_,_,o,_,_,e,_⟩:=x;exact LL e
 |dT m=>obtain⟨_,_,_,_,o,_,_,e,_⟩:=x;exact LL e
 |set S n=>obtain⟨o,_,_,_,e,_⟩:=x;exact LL e
 |ins C g fs=>obtain⟨_,_,_,e,_⟩:=x;exact LL e
 |own y=>obtain⟨_,e⟩:=x;exact LL e
 |xd fs=>obtain⟨_,⟨_,_,_,e,_⟩,_⟩:=x;exact LL e
 |rng lo T=>obtain⟨_,_,_,e⟩:=x;exact LL e
 |frz L u=>obtain⟨e,_⟩:=x;exact LL e
 |tbl i=>exact LL (show h.get? a=some _ from x)
 |met f y=>exact LL (show h.get? a=some _ from x)
 |ext l=>obtain⟨_,⟨_,e⟩,_⟩:=x;exact LL e
theorem Paired.mapP{α j:Type}{F G:α->j->Prop}:∀{c:List α}{d:List j},Paired F c d->(∀ a b,F a b->G a b)->Paired G c d
 |_,_,.nil,_=>.nil
 |_,_,.cons r t,f=>.cons (f _ _ r) (Paired.mapP t f)
theorem bp.stay(x:bp P w H h a o)(k:∀ b u,(b=a∨H b=some (.own a))->h.get? b=some u->h'.get? b=some u)
  (A:∀ b,H b=some (.own a)->H' b=some (.own a)) (ht:∀ b xs,H b=some (.tup xs)->H' b=some (.tup xs)):bp P w H' h' a o:=by
 induction o with
 |lst xs=>obtain⟨z,E,n,r,e⟩:=x;exact⟨z,E,n,r,k _ _ (.inl rfl) e⟩
 |tup xs=>obtain⟨z,E,r,L,e,c⟩:=x;exact⟨z,E,r,L,k _ _ (.inl rfl) e,c⟩
 |dK m=>obtain⟨z,y,Y,r,L,D,N,e,c⟩:=x;exact⟨z,y,Y,r,L,D,N,k _ _ (.inl rfl) e,c⟩
 |dT m =>
  obtain⟨z,y,xs,r,L,D,N,e,c⟩:=x;exact⟨z,y,xs,Paired.mapP r λp q z=>⟨z.1,ht _ _ z.2.1,z.2.2⟩,L,D,N,k _ _ (.inl rfl) e,c⟩
 |set S n=>obtain⟨L,D,N,t,e,c⟩:=x;exact⟨L,D,N,t,k _ _ (.inl rfl) e,c⟩
 |ins C g fs =>
  obtain⟨d,z,ne,e,j,⟨O,D,N,G,c⟩,r⟩:=x;exact⟨A _ d,z,ne,k _ _ (.inl rfl) e,j,⟨O,D,N,k _ _ (.inr d) G,c⟩,r⟩
 |own y=>obtain⟨L,e⟩:=x;exact⟨L,k _ _ (.inl rfl) e⟩
 |xd fs=>obtain⟨j,⟨O,D,N,e,c⟩,r⟩:=x;exact⟨j,⟨O,D,N,k _ _ (.inl rfl) e,c⟩,r⟩
 |rng lo T=>obtain⟨t,u,v,e⟩:=x;exact⟨t,u,v,k _ _ (.inl rfl) e⟩
 |frz L u B=>obtain⟨e,q⟩:=x;exact⟨k _ _ (.inl rfl) e,B q⟩
 |tbl i =>
  have e:h.get? a=some { cls:=.none,data:=.fields i }:=x;show h'.get? a=some { cls:=.none,data:=.fields i };exact k a _ (.inl rfl) e
 |met f y =>
  have e:h.get? a=some (KW (.ref f) (.ref y)):=x;show h'.get? a=some (KW (.ref f) (.ref y));exact k a _ (.inl rfl) e
 |ext l=>obtain⟨p,⟨o,e⟩,st⟩:=x;exact⟨st _ _ p λo q=>k _ _ (.inl rfl) q,⟨o,k _ _ (.inl rfl) e⟩,st⟩
theorem HOk.lt(x:HOk P w H h)(e:H a=some o):a<h.objs.size:=(x a o e).lt
theorem HOk.fresh(x:HOk P w H h)(e:h.objs.size<=a):H a=none:=by
 cases q:H a with
 |none=>rfl
 |some u=>exact Nh (Hg (x.lt q) e) (HF _)
theorem HOk.kept(x:HOk P w H h)(k:∀ b u,h.get? b=some u->h'.get? b=some u):HOk P w H h':=λa o e =>
 (x a o e).stay (λb u _ q=>k b u q) (λ_ q=>q) λ_ _ q=>q
theorem HOk.laid(x:HOk P w H h)(k:∀ b u,h.get? b=some u->h'.get? b=some u)(hp:h.objs.size<=a)(new:bp P w (upd H a o) h' a o):HOk P w (upd H a o) h':=λb u e=>by
 have T:=x.fresh hp;by_cases M:b=a
 .subst M;rw[af]at e;cases e;exact new
 .rw[ao M]at e;exact(x b u e).stay (λc v _ q=>k c v q) (λc q=>by rw[ao (ax q T)];exact q) λc N q=>by rw[ao (ax q T)];exact q
end
def Rd(H:Hp)(a:Addr)(u:HO):Prop:=H a=some u∨∃ o,H a=some (.frz o u)
theorem Rd.ok{H:Hp}{u:HO}(r:Rd H a u)(x:HOk P w H h):bp P w H h a u:=by
 rcases r with r | ⟨o,r⟩
 .exact x a u r
 .obtain⟨_,q⟩:=x a _ r;exact q
def Mut:Option HO->Prop
 |some (.lst _)=>True
 |some (.dK _)=>True
 |some (.dT _)=>True
 |some (.set _ _)=>True
 |some (.ins _ _ _)=>True
 |some (.ext _)=>True
 |_=>False
section
variable{P:Program}{w:World}{H:Hp}{h h':Heap}{x e:Addr}{o':HO}
theorem HOk.write(ok:HOk P w H h)(f:Mut (H x))(he:e=x∨H e=some (.own x))(k:∀ b u,b≠e->h.get? b=some u->h'.get? b=some u)(g:∃ u,h'.get? e=some u)
  (new:bp P w (upd H x o') h' x o'):HOk P w (upd H x o') h':=λb u q=>by
 have d:∀ c y,H c=some (.own y)->c≠x:=λc y r z=>by subst z;rw[r]at f;exact f
 have j:∀ c N,H c=some (.tup N)->c≠x:=λc N r z=>by subst z;rw[r]at f;exact f
 by_cases M:b=x
 .subst M;rw[af]at q;cases q;exact new
 .rw[ao M]at q;by_cases a:b=e
  .have O:H b=some (.own x):=by
    rcases he with z | z
    .exact Nh (a.trans z) M
    .rw[a];exact z
   rw[q]at O;cases O;obtain⟨v,p⟩:=g;exact⟨v,by rw[a];exact p⟩
  .refine(ok b u q).stay (λc v t r=>k c v ?_ r) (λc r=>by rw[ao (d c b r)];exact r) λc N r=>by rw[ao (j c N r)];exact r
   rcases t with rfl | t
   .exact a
   .rintro rfl;rcases he with z | z
    .exact d c b t z
    .rw[t]at z;cases z;exact M rfl
end
structure Un(fs ex:List Addr)(H H':Hp)(h h':Heap):Prop where
 keep:∀ b o,h.get? b=some o->H b=none->b∉fs->b∉ex->h'.get? b=some o
 slot:∀ b o,h.get? b=some o->H b=none->b∈fs->b∉ex->∃ sl,h'.get? b=some { o with slots:=sl }
 free:∀ b o,h.get? b=some o->H b=none->b∉ex->H' b=none
 there:∀ b o,h.get? b=some o->b∉ex->∃ o',h'.get? b=some o'
 tups:∀ b xs,H b=some (.tup xs)->H' b=some (.tup xs)
 frzs:∀ b o u,H b=some (.frz o u)->H' b=some (.frz o u)
 tbls:∀ b ps,H b=some (.tbl ps)->∃ more,H' b=some (.tbl (ps++more))
section
variable{fs fs' ex ex':List Addr}{H H1 H2:Hp}{h h1 h2 h':Heap}{a x e:Addr}{o:HO}
theorem Un.any(u:Un fs ex H H1 h h1){b:Addr}(q:h.get? b=some ob)(n:H b=none)(L:b∉ex):∃ sl,h1.get? b=some { ob with slots:=sl }:=by
 by_cases M:b∈fs
 .exact u.slot b ob q n M L
 .exact⟨ob.slots,u.keep b ob q n M L⟩
theorem Un.kept(k:∀ b u,h.get? b=some u->h'.get? b=some u):Un fs ex H H h h' :=
 ⟨λb L q _ _ _=>k b L q,λb L q _ _ _=>⟨L.slots,k b L q⟩,λ_ _ _ n _=>n,λb L q _=>⟨L,k b L q⟩,λ_ _ q=>q,λ_ _ _ q=>q,λ_ i q=>⟨#[],by rw[q];simp⟩⟩
theorem Un.refl:Un fs ex H H h h:=Un.kept λ_ _ q=>q
theorem Un.laid(k:∀ b u,h.get? b=some u->h'.get? b=some u)(hp:h.objs.size<=a)(T:H a=none):Un fs ex H (upd H a o) h h' where
 keep:=λb u q _ _ _=>k b u q
 slot:=λb u q _ _ _=>⟨u.slots,k b u q⟩
 free:=λb u q n _=>by rw[ao (G0 (Hg (LL q) hp))];exact n
 there:=λb u q _=>⟨u,k b u q⟩
 tups:=λb N q=>by rw[ao (ax q T)];exact q
 frzs:=λb u N q=>by rw[ao (ax q T)];exact q
 tbls:=λb i q=>⟨#[],by rw[ao (ax q T),q];simp⟩
theorem Un.write(f:Mut (H x))(he:e=x∨H e=some (.own x))(k:∀ b u,b≠e->h.get? b=some u->h'.get? b=some u)(g:∃ u,h'.get? e=some u):Un fs ex H (upd H x o) h h':=by
 have L:∀ b,H b=none->b≠x:=λb n z=>by subst z;rw[n]at f;exact f
 have M:∀ b,H b=none->b≠e:=λb n z=>by
  subst z;rcases he with r | r
  .exact L b n r
  .rw[n]at r;cases r
 have C:∀ b u,H b=some u->¬ Mut (some u)->b≠x:=λb u q d z=>by subst z;rw[q]at f;exact d f
 refine⟨λb u q n _ _=>k b u (M b n) q,λb u q n _ _=>⟨u.slots,k b u (M b n) q⟩,λb u q n _=>by rw[ao (L b n)];exact n,λb u q _=>?_,
  λb N q=>by rw[ao (C b _ q λz=>z)];exact q,λb u N q=>by rw[ao (C b _ q λz=>z)];exact q,λb i q=>⟨#[],by rw[ao (C b _ q λz=>z),q];simp⟩⟩
 by_cases a:b=e
 .subst a;exact g
 .exact⟨u,k b u a q⟩
end
def trk(h:Heap)(H:Hp):List Addr:=(GW h.objs.size).filter λa=>(H a).isSome
def hidT(h:Heap)(H:Hp):Heap:=PySem.W.hideAll h (trk h H)
theorem AL(h:Heap)(H:Hp):(hidT h H).objs.size=h.objs.size:=PySem.W.hideAll_size _ _
theorem mq{H:Hp}{b:Addr}(e:h.get? b=some o)(n:H b=none):(hidT h H).get? b=some o :=
 KI _ e λC=>by
  have q:(H b).isSome=true:=(Iu.mp C).2;rw[n]at q;simp at q
theorem Ft{H:Hp}{b:Addr}(e:(hidT h H).get? b=some o):h.get? b=some o/\H b=none:=by
 have Q:h.get? b=some o:=PySem.W.of_hideAll (trk h H) e;refine⟨Q,?_⟩
 cases q:H b with
 |none=>rfl
 |some x =>
  have C:b∈trk h H:=Iu.mpr ⟨Hk.mpr (LL Q),by simp[q]⟩
  have z:(hidT h H).get? b=none:=PySem.W.hideAll_none (trk h H) C;rw[z]at e;cases e
structure Mod(K:Gw)(mg:Str->Option Value)(base:Heap):Prop where
 kin:K.In base
 glob:base.Ns LN mg
 blt:∃ mb,base.Ns builtinsNs mb/\∀ x:Str,x≠"__name__"->mb x=LO x
 nolimit:base.NoLimit
set_option genInjectivity false in
structure Cx where
 prog:Program
 w:World
 K:Gw
 mg:Str->Option Value
 base:Heap
 A:Around
 N:List Str
 s₀:Shared
 H₀:Hp
 env:Env
 outer:List Env
 stack:List Env
 ex:List Addr
 fn:Str->Bool
 calm:Bool
 pn:List (Addr×Obj)
 xe:Value->Shared->Prop
def frs(l:List Env):List Addr:=l.filterMap (·.frame)
abbrev Cx.fs(X:Cx):List Addr:=frs X.outer
def Vis(a:Scope)(x:Str):Prop:=a.names.lookup x=some .local∨a.names.lookup x=some .cell∨a.names.lookup x=some .free
def Loc(a:Scope)(x:Str):Prop:=a.names.lookup x=some .local∨a.names.lookup x=some .cell
def Look(env:Env)(h:Heap)(m:Str->Option Value)(x:Str)(u:Value):Prop :=
 (env.kindOf x=some .local/\m x=some u)∨((env.kindOf x=some .cell∨env.kindOf x=some .free)/\∃ c,env.cells.lookup x=some c/\h.IsCell c (some u))
structure Cx.Ok(X:Cx):Prop where
 mod:Mod X.K X.mg X.base
 kind:X.env.scope.kind=.function
 glob:X.env.globals=LN
 blt:X.env.builtins=builtinsNs
 above:X.s₀.heap.objs.size<=X.env.locals
 inj:∀ x y c,X.env.cells.lookup x=some c->X.env.cells.lookup y=some c->x=y
 has:∀ x,(X.env.kindOf x=some .cell∨X.env.kindOf x=some .free)->∃ c,X.env.cells.lookup x=some c
 cab:∀ x c,X.fn x=true->X.env.cells.lookup x=some c->X.s₀.heap.objs.size<=c
 hd:X.calm=true->X.A.handled=none
 frames:X.A.frames=some X.stack
 stk:X.stack=X.outer∨(X.stack=X.env::X.outer/\X.env.frame=some X.env.locals)
 exf:∀ b∈X.ex,b≠X.env.locals/\∀ x c,X.env.cells.lookup x=some c->c≠b
 bs:∀ b o,X.base.get? b=some o->X.s₀.heap.get? b=some o/\X.H₀ b=none
 bsz:X.base.objs.size<=X.s₀.heap.objs.size
 noex:∀ b o,X.base.get? b=some o->b∉X.ex
 exfs:∀ b∈X.ex,b∉X.fs
 funs:X.s₀.heap.FunFrames X.base X.outer
 frf:∀ b∈X.fs,X.H₀ b=none
structure Inv(X:Cx)(pins:List (Addr×Obj))(σ:List (Option V))(H:Hp)(s:Shared):Prop where
 ok:X.Ok
 os:s.os=X.s₀.os
 bare:AllBare s.gens
 base:Un X.fs X.ex X.H₀ H X.s₀.heap s.heap
 loc:∃ m,s.heap.Ns X.env.locals m/\∀(i:Nat)(x:Str)(v:V),X.N[i]?=some x->σ[i]?=some (some v)->Vis X.env.scope x->∃ u,RelV v u/\Look X.env s.heap m x u
 cell:∀ x c,X.env.cells.lookup x=some c->∃ v,s.heap.IsCell c v
 free:H X.env.locals=none
 freeC:∀ x c,X.env.cells.lookup x=some c->H c=none
 pin:∀ p∈X.pn++pins,s.heap.get? p.1=some p.2/\H p.1=none/\p.1≠X.env.locals/\p.1∉X.fs/\∀ v,p.2.data≠.cell v
 hok:HOk X.prog X.w H s.heap
 len:σ.length=X.N.length
section
variable{X:Cx}{pins:List (Addr×Obj)}{σ:List (Option V)}{H H':Hp}{s:Shared}{h':Heap}
theorem Cx.Ok.nofr(ok:X.Ok){b:Addr}(e:X.base.get? b=some o):b∉X.fs:=λM=>by
 have:=(ok.funs.mem M).1;rw[e]at this;cases this
theorem Inv.bs(I:Inv X pins σ H s):∀ b o,X.base.get? b=some o->s.heap.get? b=some o/\H b=none:=λb o e =>
 ⟨I.base.keep b o (I.ok.bs b o e).1 (I.ok.bs b o e).2 (I.ok.nofr e) (I.ok.noex b o e),I.base.free b o (I.ok.bs b o e).1 (I.ok.bs b o e).2 (I.ok.noex b o e)⟩
theorem Inv.bk(I:Inv X pins σ H s):∀ b o,X.base.get? b=some o->s.heap.get? b=some o:=λb o e=>(I.bs b o e).1
theorem Inv.mod(I:Inv X pins σ H s):Mod X.K X.mg X.base:=I.ok.mod
theorem Inv.kIn(I:Inv X pins σ H s):X.K.In s.heap:=I.ok.mod.kin.keeps I.bk
theorem Inv.nolimit(I:Inv X pins σ H s):s.heap.NoLimit:=I.ok.mod.nolimit.keeps I.bk
theorem Inv.lt(I:Inv X pins σ H s):X.env.locals<s.heap.objs.size:=let ⟨_,T,_⟩:=I.loc;T.lt
theorem Inv.sz(I:Inv X pins σ H s):X.s₀.heap.objs.size<=s.heap.objs.size:=Hy I.ok.above (G6 I.lt)
theorem Inv.nofs(I:Inv X pins σ H s)(h:s.heap.objs.size<=a):a∉X.fs:=λM=>by
 obtain⟨_,o,A,_⟩:=I.ok.funs.mem M;exact Nh (Hg (LL A) (Hy I.sz h)) (HF _)
theorem Inv.cne(I:Inv X pins σ H s):∀ x c,X.env.cells.lookup x=some c->c≠X.env.locals:=λx c e z=>by
 obtain⟨v,o,A,hd⟩:=I.cell x c e;obtain⟨m,⟨B,D,N,d,f,_⟩,_⟩:=I.loc;rw[z,d]at A;cases A;rw[f]at hd;cases hd
theorem Inv.funs(I:Inv X pins σ H s):s.heap.FunFrames X.base X.outer:=by
 have all:∀(l:List Env),(∀ b∈frs l,b∈X.fs)->X.s₀.heap.FunFrames X.base l->s.heap.FunFrames X.base l:=by
  intro l;induction l with
  |nil=>intro _ _;trivial
  |cons d r D =>
   intro J C;obtain⟨G,⟨L,o,E,T,A,hd⟩,B⟩:=C;have g:L∈X.fs:=J L (by unfold frs;rw[KL,E];exact GN)
   obtain⟨p,e⟩:=I.base.slot L o A (I.ok.frf L g) g λz=>I.ok.exfs L z g;exact⟨G,⟨L,_,E,T,e,hd⟩,D (λb M=>J b (by unfold frs;rw[KL,E];exact GD _ M)) B⟩
 exact all X.outer (λ_ M=>M) I.ok.funs
theorem Inv.stack(I:Inv X pins σ H s):s.heap.FunFrames X.base X.stack:=by
 rcases I.ok.stk with e | ⟨e,D⟩
 .rw[e];exact I.funs
 .rw[e];obtain⟨m,T,_⟩:=I.loc;refine .cons (by rw[I.ok.kind];decide) D T ?_ I.funs
  exact LP (Hy I.ok.bsz I.ok.above)
theorem Inv.stkSub(I:Inv X pins σ H s):∀ b∈frs X.stack,b∈X.env.locals::X.fs:=λb M=>by
 rcases I.ok.stk with e | ⟨e,D⟩
 .rw[e]at M;exact GD _ M
 .rw[e]at M;unfold frs at M;rw[KL,D]at M;exact M
theorem Inv.stkFree(I:Inv X pins σ H s):∀ b∈frs X.stack,H b=none:=λb M=>by
 rcases GG.mp (I.stkSub b M)with e | M
 .rw[e];exact I.free
 .obtain⟨_,o,A,_⟩:=I.ok.funs.mem M;exact I.base.free b o A (I.ok.frf b M) λz=>I.ok.exfs b z M
theorem Inv.step{g':Array GenState}{t':Nat}{d':Drawn}{ch:List Addr}(I:Inv X pins σ H s)
  (a:∀ b∈ch,(b∈X.ex∨X.s₀.heap.objs.size<=b)/\b≠X.env.locals/\(∀ x c,X.env.cells.lookup x=some c->c≠b)/\∀ p∈X.pn++pins,p.1≠b)
  (keep:∀ b o,b≠X.env.locals->b∉X.fs->b∉ch->s.heap.get? b=some o->H b=none->h'.get? b=some o)
  (slot:∀ b o,b≠X.env.locals->b∈X.fs->b∉ch->s.heap.get? b=some o->H b=none->∃ sl,h'.get? b=some { o with slots:=sl }) (free:∀ b o,b∉ch->s.heap.get? b=some o->H b=none->H' b=none)
  (there:∀ b o,b∉ch->s.heap.get? b=some o->∃ B,h'.get? b=some B)
  (tups:∀ b xs,H b=some (.tup xs)->H' b=some (.tup xs)) (frzs:∀ b o u,H b=some (.frz o u)->H' b=some (.frz o u)) (tbls:∀ b ps,H b=some (.tbl ps)->∃ more,H' b=some (.tbl (ps++more)))
  (ns:∀ m,s.heap.Ns X.env.locals m->h'.Ns X.env.locals m) (y:HOk X.prog X.w H' h') (N:AllBare g') :
  Inv X pins σ H' { s with heap:=h',gens:=g',drawn:=d',toks:=t' }:=by
 have Y:∀ b o,X.s₀.heap.get? b=some o->b≠X.env.locals:=λb o e=>G0 (Hg (LL e) I.ok.above);have E:∀ b o,X.s₀.heap.get? b=some o->b∉X.ex->b∉ch:=λb o e L M=>by
  rcases(a b M).1 with z | z
  .exact L z
  .exact Nh (Hg (LL e) z) (HF _)
 have J:∀ x c,X.env.cells.lookup x=some c->∀ v,s.heap.IsCell c v->h'.IsCell c v:=λx c e v ⟨o,A,hd⟩=>by
  have D:c∉ch:=λz=>(a c z).2.2.1 x c e rfl;by_cases t:c∈X.fs
  .obtain⟨sl,q⟩:=slot c o (I.cne x c e) t D A (I.freeC x c e);exact⟨_,q,hd⟩
  .exact⟨o,keep c o (I.cne x c e) t D A (I.freeC x c e),hd⟩
 refine⟨I.ok,I.os,N,⟨λb o e n M L=>?_,λb o e n M L=>?_,λb o e n L=>?_,λb o e L=>?_,λb xs e=>tups b xs (I.base.tups b xs e),λb o xs e=>frzs b o xs (I.base.frzs b o xs e),λb ps e=>?_⟩,?_,λx c e=>?_,?_,λx c e=>?_,λp j=>?_,y,I.len⟩
 .exact keep b o (Y b o e) M (E b o e L) (I.base.keep b o e n M L) (I.base.free b o e n L)
 .obtain⟨sl,O⟩:=I.base.slot b o e n M L;obtain⟨aa,f⟩:=slot b _ (Y b o e) M (E b o e L) O (I.base.free b o e n L);exact⟨aa,f⟩
 .obtain⟨B,O⟩:=I.base.there b o e L;exact free b B (E b o e L) O (I.base.free b o e n L)
 .obtain⟨B,O⟩:=I.base.there b o e L;exact there b B (E b o e L) O
 .obtain⟨Q,O⟩:=I.base.tbls b ps e;obtain⟨g,f⟩:=tbls b _ O;exact⟨Q++g,by rw[f,Array.append_assoc]⟩
 .obtain⟨m,T,C⟩:=I.loc;refine⟨m,ns m T,λi x v O f G=>?_⟩;obtain⟨u,r,l⟩:=C i x v O f G;refine⟨u,r,?_⟩;rcases l with l | ⟨k,c,e,z⟩
  .exact .inl l
  .exact .inr ⟨k,c,e,J x c e _ z⟩
 .obtain⟨v,z⟩:=I.cell x c e;exact⟨v,J x c e v z⟩
 .obtain⟨m,⟨o,_,_,A,_⟩,_⟩:=I.loc;exact free _ o (λz=>(a _ z).2.1 rfl) A I.free
 .obtain⟨v,o,A,hd⟩:=I.cell x c e;exact free c o (λz=>(a c z).2.2.1 x c e rfl) A (I.freeC x c e)
 .obtain⟨e,n,ne,h,d⟩:=I.pin p j;have D:p.1∉ch:=λz=>(a p.1 z).2.2.2 p j rfl;exact⟨keep p.1 p.2 ne h D e n,free p.1 p.2 D e n,ne,h,d⟩
theorem Inv.un(I:Inv X pins σ H s)(u:Un X.fs [] H H' s.heap h')(y:HOk X.prog X.w H' h'):Inv X pins σ H' { s with heap:=h',toks:=t' }:=by
 obtain⟨m,⟨o,D,N,A,r⟩,_⟩:=id I.loc;obtain⟨p,g⟩:=u.any A I.free (by simp)
 exact I.step (g':=s.gens) (d':=s.drawn) (ch:=[]) (λ_ z=>nomatch z) (λb o _ M _ e n=>u.keep b o e n M (by simp)) (λb o _ M _ e n=>u.slot b o e n M (by simp)) (λb o _ e n=>u.free b o e n (by simp)) (λb o _ e=>u.there b o e (by simp)) u.tups u.frzs u.tbls (λQ C=>by
  obtain⟨B,i,f,d,v⟩:=C;rw[A]at d;cases d
  exact⟨_,i,f,g,v⟩) y I.bare
theorem Inv.call{g':Array GenState}{d':Drawn}(I:Inv X pins σ H s)(u:Un (frs X.stack) ch H H' s.heap h')(y:HOk X.prog X.w H' h')(N:AllBare g')
  (a:∀ b∈ch,(b∈X.ex∨X.s₀.heap.objs.size<=b)/\b≠X.env.locals/\(∀ x c,X.env.cells.lookup x=some c->c≠b)/\∀ p∈X.pn++pins,p.1≠b) :
  Inv X pins σ H' { s with heap:=h',gens:=g',drawn:=d',toks:=t' }:=by
 obtain⟨m,⟨o,D,L,A,r⟩,_⟩:=id I.loc;obtain⟨l,g⟩:=u.any A I.free λz=>(a _ z).2.1 rfl
 exact I.step (ch:=ch) a (λb o g M t e n=>u.keep b o e n (λz=>(GG.mp (I.stkSub b z)).elim g M) t) (λb o _ _ t e n=>u.any e n t) (λb o t e n=>u.free b o e n t) (λb o t e=>u.there b o e t) u.tups u.frzs u.tbls (λQ C=>by
  obtain⟨B,i,f,d,v⟩:=C;rw[A]at d;cases d
  exact⟨_,i,f,g,v⟩) y N
theorem Inv.turned(I:Inv X pins σ H s)(k:∀ b o,b≠it->s.heap.get? b=some o->h'.get? b=some o)(T:H it=none)(j:it≠X.env.locals)
  (J:it∈X.ex∨X.s₀.heap.objs.size<=it) (h2:∀ x c,X.env.cells.lookup x=some c->c≠it) (g:∀ p∈X.pn++pins,p.1≠it):Inv X pins σ H { s with heap:=h',toks:=t' }:=by
 have a:∀ b u,H b=some u->b≠it:=λb u e z=>by rw[z,T]at e;cases e
 refine I.step (g':=s.gens) (d':=s.drawn) (ch:=[it]) (λb M=>?_) (λb o _ _ t e _=>k b o (λz=>t (by simp[z])) e) (λb o _ _ t e _=>⟨o.slots,k b o (λz=>t (by simp[z])) e⟩) (λ_ _ _ _ n=>n)
  (λb o t e=>⟨o,k b o (λz=>t (by simp[z])) e⟩) (λ_ _ e=>e) (λ_ _ _ e=>e) (λb i e=>⟨#[],by rw[e];simp⟩) (λm C=>?_) (λb u e=>?_) I.bare
 .have e:b=it:=by simpa using M
  subst e;exact⟨J,j,h2,g⟩
 .obtain⟨o,D,N,A,r⟩:=C;exact⟨o,D,N,k _ o (Ne.symm j) A,r⟩
 .refine(I.hok b u e).stay (λc v t q=>k c v ?_ q) (λ_ q=>q) λ_ _ q=>q;rcases t with z | z
  .rw[z];exact a b u e
  .exact a c _ z
theorem Inv.tok(I:Inv X pins σ H s)(t:Nat):Inv X pins σ H { s with toks:=t }:=I.un (h':=s.heap) (t':=t) Un.refl I.hok
theorem Inv.kept{t':Nat}(I:Inv X pins σ H s)(k:∀ b u,s.heap.get? b=some u->h'.get? b=some u):Inv X pins σ H { s with heap:=h',toks:=t' }:=I.un (Un.kept k) (I.hok.kept k)
theorem Inv.laid{a:Addr}{o:HO}{t':Nat}(I:Inv X pins σ H s)(k:∀ b u,s.heap.get? b=some u->h'.get? b=some u)(hp:s.heap.objs.size<=a)(new:bp X.prog X.w (upd H a o) h' a o) :
  Inv X pins σ (upd H a o) { s with heap:=h',toks:=t' }:=I.un (Un.laid k hp (I.hok.fresh hp)) (I.hok.laid k hp new)
theorem Inv.write{x e:Addr}{o:HO}{t':Nat}(I:Inv X pins σ H s)(f:Mut (H x))(he:e=x∨H e=some (.own x))(k:∀ b u,b≠e->s.heap.get? b=some u->h'.get? b=some u)(g:∃ u,h'.get? e=some u)
  (new:bp X.prog X.w (upd H x o) h' x o):Inv X pins σ (upd H x o) { s with heap:=h',toks:=t' }:=I.un (Un.write f he k g) (I.hok.write f he k g new)
theorem Inv.weak{σ':List (Option V)}(I:Inv X pins σ H s)(hl:σ'.length=σ.length)(w:∀ (i:Nat) v,σ'[i]?=some (some v)->σ[i]?=some (some v)):Inv X pins σ' H s :=
 ⟨I.ok,I.os,I.bare,I.base,let ⟨m,T,a⟩:=I.loc;⟨m,T,λi x v O f G=>a i x v O (w i v f) G⟩,I.cell,I.free,I.freeC,I.pin,I.hok,hl.trans I.len⟩
theorem Inv.pins_of(I:Inv X pins σ H s)(h:∀ p∈L,s.heap.get? p.1=some p.2/\H p.1=none/\p.1≠X.env.locals/\p.1∉X.fs/\∀ v,p.2.data≠.cell v):Inv X L σ H s :=
 ⟨I.ok,I.os,I.bare,I.base,I.loc,I.cell,I.free,I.freeC,λp j=>(GU.mp j).elim (λz=>I.pin p (Hu _ z)) (h p),I.hok,I.len⟩
theorem pX{N:List Str}(k:N.Nodup)(a:N[i]?=some x)(b:N[j]?=some x):i=j:=by
 obtain⟨J,O⟩:=Gn.mp a;obtain⟨Y,f⟩:=Gn.mp b;exact(List.getElem_inj k).mp (O.trans f.symm)
theorem yI{M:Model}{v:V}{Q:Unit->Shared->Prop}(I:Inv X pins σ H s)(hN:X.N.Nodup)(hi:X.N[i]?=some x)(L:Loc X.env.scope x)(r:RelV v u)
  (h:∀ s',Inv X pins (σ.set i (some v)) H s'->(∃ a,LQ a s.heap s'.heap/\(a=X.env.locals∨X.env.cells.lookup x=some a))->Q () s') (hf:X.fn x=true∨X.env.scope.names.lookup x=some .local:=by first | exact .inl rfl | exact .inr rfl | assumption):wpAny M A (storeName X.env x u) Q E s:=by
 obtain⟨m,T,C⟩:=id I.loc;have al:(X.env.scope.kind == .class||(X.env.scope.kind == .module&&X.env.locals != X.env.globals))=false:=by rw[I.ok.kind];rfl
 have an:i<σ.length:=by rw[I.len];exact(Gn.mp hi).1
 have cne:=I.cne;have ab:∀{a:Addr}{h':Heap},(∃ o,s.heap.get? a=some o/\H a=none)->LQ a s.heap h'->HOk X.prog X.w H h':=λ{a h'} l J b ob e=>by
  obtain⟨_,_,am⟩:=l;refine(I.hok b ob e).stay (λc w' t q=>(J.2 c ?_).trans q) (λ_ q=>q) λ_ _ q=>q;rintro rfl;rcases t with rfl | t
  .rw[am]at e;cases e
  .rw[am]at t;cases t
 rcases L with G | G
 .refine wpAny_storeName_local G T (λh' ap J=>?_) al;obtain⟨oL,_,_,aa,_⟩:=id T;refine h _ ⟨I.ok,I.os,I.bare,⟨λb o e n g L=>?_,λb o e n g L=>?_,I.base.free,λb o e L=>?_,I.base.tups,I.base.frzs,I.base.tbls⟩,⟨_,ap,λj y v' O f e3=>?_⟩,λy c e=>?_,I.free,I.freeC,λp D=>?_,ab ⟨oL,aa,I.free⟩ J,by simpa using I.len⟩ ⟨_,J,.inl rfl⟩
  .exact(J.2 b (G0 (Hg (LL e) I.ok.above))).trans (I.base.keep b o e n g L)
  .obtain⟨sl,O⟩:=I.base.slot b o e n g L;exact⟨sl,(J.2 b (G0 (Hg (LL e) I.ok.above))).trans O⟩
  .obtain⟨o',O⟩:=I.base.there b o e L;exact⟨o',(J.2 b (G0 (Hg (LL e) I.ok.above))).trans O⟩
  .by_cases B:j=i
   .subst B;rw[hi]at O;cases O;rw[IQ an]at f
    cases f
    exact⟨u,r,.inl ⟨G,by simp⟩⟩
   .rw[HI (Ne.symm B)]at f;obtain⟨u',r',q⟩:=C j y v' O f e3;refine⟨u',r',?_⟩;rcases q with⟨k,e⟩ | ⟨k,c,e,z⟩
    .refine .inl ⟨k,?_⟩;have:y≠x:=λe=>B (pX hN O (e▸hi));simp[this,e]
    .exact .inr ⟨k,c,e,z.sameBut J (cne y c e)⟩
  .obtain⟨w',z⟩:=I.cell y c e;exact⟨w',z.sameBut J (cne y c e)⟩
  .obtain⟨e,n,ne,nf,d⟩:=I.pin p D;exact⟨(J.2 p.1 ne).trans e,n,ne,nf,d⟩
 .have aI:X.fn x=true:=by
   rcases hf with z | z
   .exact z
   .rw[z]at G;cases G
  obtain⟨c,t⟩:=I.ok.has x (.inl G);obtain⟨w',z⟩:=I.cell x c t;refine wpAny_storeName_cell I.ok.kind G t z (λh' ac J=>?_);obtain⟨oc,aL,aO⟩:=id z;refine h { s with heap:=h' } ⟨I.ok,I.os,I.bare,⟨λb o e n g L=>?_,λb o e n g L=>?_,I.base.free,λb o e L=>?_,I.base.tups,I.base.frzs,I.base.tbls⟩,⟨m,T.sameBut J (Ne.symm (cne x c t)),λj y v' O f e3=>?_⟩,λy Y e=>?_,I.free,I.freeC,λp D=>?_,ab ⟨oc,aL,I.freeC x c t⟩ J,by simpa using I.len⟩ ⟨c,J,.inr t⟩
  .exact(J.2 b (G0 (Hg (LL e) (I.ok.cab x c aI t)))).trans (I.base.keep b o e n g L)
  .obtain⟨sl,O⟩:=I.base.slot b o e n g L;exact⟨sl,(J.2 b (G0 (Hg (LL e) (I.ok.cab x c aI t)))).trans O⟩
  .obtain⟨o',O⟩:=I.base.there b o e L;exact⟨o',(J.2 b (G0 (Hg (LL e) (I.ok.cab x c aI t)))).trans O⟩
  .by_cases B:j=i
   .subst B;rw[hi]at O;cases O;rw[IQ an]at f
    cases f
    exact⟨u,r,.inr ⟨.inl G,c,t,ac⟩⟩
   .rw[HI (Ne.symm B)]at f;obtain⟨u',r',q⟩:=C j y v' O f e3;refine⟨u',r',?_⟩;rcases q with q | ⟨k,Y,e,z'⟩
    .exact .inl q
    .refine .inr ⟨k,Y,e,z'.sameBut J ?_⟩;rintro rfl;exact B (pX hN O (I.ok.inj _ _ _ e t▸hi))
  .by_cases aR:Y=c
   .subst aR;exact⟨_,ac⟩
   .obtain⟨w2,z2⟩:=I.cell y Y e;exact⟨w2,z2.sameBut J aR⟩
  .obtain⟨e,n,ne,nf,d⟩:=I.pin p D;refine⟨(J.2 p.1 ?_).trans e,n,ne,nf,d⟩;intro q;rw[q,aL]at e;have q':oc=p.2:=G3 e;exact d w' (by rw[← q'];exact aO)
theorem lV{M:Model}{v:V}{Q:Unit->Shared->Prop}(I:Inv X pins σ H s)(k:X.N.Nodup)(hi:X.N[i]?=some x)(L:Loc X.env.scope x)(r:RelV v u)
  (h:∀ s',Inv X pins (σ.set i (some v)) H s'->Q () s') (D:X.fn x=true∨X.env.scope.names.lookup x=some .local:=by first | exact .inl rfl | exact .inr rfl | assumption):wpAny M A (storeName X.env x u) Q E s :=
 yI I k hi L r (λs' p _=>h s' p) D
theorem Inv.call'(I:Inv X pins σ H s)(A:s'.os=s.os)(u:Un (frs X.stack) ch H H' s.heap s'.heap)(y:HOk X.prog X.w H' s'.heap)(N:AllBare s'.gens)
  (a:∀ b∈ch,(b∈X.ex∨X.s₀.heap.objs.size<=b)/\b≠X.env.locals/\(∀ x c,X.env.cells.lookup x=some c->c≠b)/\∀ p∈X.pn++pins,p.1≠b):Inv X pins σ H' s':=by
 obtain⟨h',g',d',t',B⟩:=s';have e:B=s.os:=A;subst e;exact I.call (g':=g') (t':=t') (d':=d') u y N a
end
abbrev XK:=Value->Option Addr->Hp->Prop
abbrev St:=List (Option V)
abbrev VK:=V->Hp->Prop
abbrev TE:=St->Hp->VK->Prop
abbrev TT:=St->Hp->(Bool->Hp->Prop)->Prop
abbrev TA:=St->Hp->(List V->Hp->Prop)->Prop
set_option genInjectivity false in
structure Ends where
 nx:St->Hp->Prop
 rt:VK
 bk:St->Hp->Prop:=λ_ _=>False
 ct:St->Hp->Prop:=λ_ _=>False
abbrev TS:=Ends->St->Hp->Prop
def EP(X:Cx)(B:List (Addr×Obj))(O:St)(Q:VK)(u:Value)(s':Shared):Prop:=∃ v j,Inv X B O j s'/\RelV v u/\Q v j
def TP(X:Cx)(B:List (Addr×Obj))(O:St)(Q:Bool->Hp->Prop)(b:Bool)(s':Shared):Prop:=∃ j,Inv X B O j s'/\Q b j
def AP(X:Cx)(B:List (Addr×Obj))(O:St)(Q:List V->Hp->Prop)(us:List Value)(s':Shared):Prop:=∃ Y j,Inv X B O j s'/\Vals Y us/\Q Y j
def SP(X:Cx)(B:List (Addr×Obj))(D:Ends)(f:Flow)(s':Shared):Prop :=
 match f with
 |.next=>∃ z j,Inv X B z j s'/\D.nx z j
 |.brk=>∃ z j,Inv X B z j s'/\D.bk z j
 |.cont=>∃ z j,Inv X B z j s'/\D.ct z j
 |.ret u=>∃ v z j,Inv X B z j s'/\RelV v u/\D.rt v j
def PE(X:Cx)(e:Expr)(t:TE):Prop :=
 ∀(B:List (Addr×Obj))(s:Shared)(O:St)(H:Hp)(Q:VK),Inv X B O H s->t O H Q->wpAny (model X.prog X.w) X.A (eval e X.env) (EP X B O Q) X.xe s
def PT(X:Cx)(e:Expr)(t:TT):Prop :=
 ∀(B:List (Addr×Obj))(s:Shared)(O:St)(H:Hp)(Q:Bool->Hp->Prop),Inv X B O H s->t O H Q->wpAny (model X.prog X.w) X.A (isTrue e X.env (eval e X.env)) (TP X B O Q) X.xe s
def PW(X:Cx)(e:Expr)(t:TT):Prop :=
 ∀(whole:Sem Value)(B:List (Addr×Obj))(s:Shared)(O:St)(H:Hp)(Q:Bool->Hp->Prop),Inv X B O H s->t O H Q->wpAny (model X.prog X.w) X.A (isTrue e X.env whole) (TP X B O Q) X.xe s
theorem PW.pt{X:Cx}{t:TT}(h:PW X e t):PT X e t:=h _
def PA(X:Cx)(es:List Expr)(t:TA):Prop :=
 ∀(q:Pos)(B:List (Addr×Obj))(s:Shared)(O:St)(H:Hp)(Q:List V->Hp->Prop),Inv X B O H s->t O H Q->wpAny (model X.prog X.w) X.A (spliced (backTo q (LR es X.env))) (AP X B O Q) X.xe s
def PS(X:Cx)(st:Stmt)(t:TS):Prop :=
 ∀(B:List (Addr×Obj))(s:Shared)(O:St)(H:Hp)(D:Ends),Inv X B O H s->t D O H->wpAny (model X.prog X.w) X.A (exec st X.env) (SP X B D) X.xe s
def PSs(X:Cx)(st:List Stmt)(t:TS):Prop :=
 ∀(B:List (Addr×Obj))(s:Shared)(O:St)(H:Hp)(D:Ends),Inv X B O H s->t D O H->wpAny (model X.prog X.w) X.A (execs st X.env) (SP X B D) X.xe s
theorem thn{t:Sem α}{Q v:α->Shared->Prop}{M:Model}(h:wpAny M A t Q E s)(d:∀ a s,Q a s->v a s):wpAny M A t v E s:=LS h d λ_ _ x=>x
section
variable{X:Cx}
inductive tVar(i:Nat)(σ:L2.St)(H:L2.Hp)(Q:L2.VK):Prop
 |mk (v:_) (h0_:σ[i]?=some (some v))(h1_:Q v H)
def tC(v:V):TE:=λ_ H Q=>Q v H
theorem pe_var(k:X.N[i]?=some x)(p:Vis X.env.scope x) (hd:(x == ("__debug__" : Str))=false:=by decide) (z:(x == ("__classdict__" : Str))=false:=by decide):PE X (.Name x pos) (tVar i):=by
 intro B s O H Q I h;obtain⟨v,e,h⟩:=h;obtain⟨m,T,C⟩:=I.loc;obtain⟨u,r,l⟩:=C i x v k e p;have f:EP X B O Q u s:=⟨v,H,I,r,h⟩;rcases l with⟨G,j⟩ | ⟨G,c,t,a⟩
 .exact wpAny_Name (wpAny_loadName_local I.ok.kind G T j f) hd
 .rcases G with G | G
  .exact wpAny_Name (wpAny_loadName_cell I.ok.kind G t a f) hd
  .exact wpAny_Name (wpAny_loadName_free I.ok.kind G t a f z) hd
theorem aj{i j pos}:PE X (.Constant (.int i) j pos) (tC (.int i)):=λ_ _ _ H _ I h=>wpAny_Constant_int ⟨.int i,H,I.tok _,⟨_,rfl⟩,h⟩
theorem lG{b j pos}:PE X (.Constant (.bool b) j pos) (tC (.bl b)):=λ_ _ _ H _ I h=>Constant_bool ⟨.bl b,H,I,rfl,h⟩
theorem lg{j pos}:PE X (.Constant .none j pos) (tC .non):=λ_ _ _ H _ I h=>Constant_none ⟨.non,H,I,rfl,h⟩
theorem gL{x j pos}:PE X (.Constant (.str x) j pos) (tC (.str x)):=λ_ _ _ H _ I h=>Calls.Constant_str ⟨.str x,H,I.tok _,⟨_,rfl⟩,h⟩
def Gl(X:Cx)(x:Str):Prop:=X.env.kindOf x=some .globalImplicit
theorem jo{O:St}{H:Hp}(I:Inv X L O H s)(N:Gl X x)(C:X.mg x=some u)(h:Q u s)
  (hd:(x == ("__debug__" : Str))=false:=by decide):wpAny (model X.prog X.w) X.A (eval (.Name x pos) X.env) Q E s :=
 Calls.Name_function_global I.ok.kind N (Calls.loadGlobal_global (by rw[I.ok.glob];exact I.mod.glob.keeps I.bk) C h) hd
theorem gX{O:St}{H:Hp}(I:Inv X L O H s)(N:Gl X x)(C:X.mg x=none)(p:LO x=some u)(h:Q u s)
  (T:x≠"__name__":=by decide) (hd:(x == ("__debug__" : Str))=false:=by decide):wpAny (model X.prog X.w) X.A (eval (.Name x pos) X.env) Q E s:=by
 obtain⟨y,J,Y⟩:=I.mod.blt;exact Calls.Name_function_global I.ok.kind N (Calls.loadGlobal_builtin (by rw[I.ok.glob];exact I.mod.glob.keeps I.bk) C (by rw[I.ok.blt];exact J.keeps I.bk) ((Y x T).trans p) h) hd
theorem m6{v:V}(N:Gl X x)(C:X.mg x=some u)(r:RelV v u) (hd:(x == ("__debug__" : Str))=false:=by decide):PE X (.Name x pos) (tC v) :=
 λ_ _ _ H _ I h=>jo I N C ⟨v,H,I,r,h⟩ hd
theorem zN{v:V}(N:Gl X x)(C:X.mg x=none)(p:LO x=some u)(r:RelV v u) (T:x≠"__name__":=by decide) (hd:(x == ("__debug__" : Str))=false:=by decide):PE X (.Name x pos) (tC v) :=
 λ_ _ _ H _ I h=>gX I N C p ⟨v,H,I,r,h⟩ T hd
variable{a b:Expr}{ta tb:TE}{pos:Pos}
def PC(X:Cx)(op:CmpOp)(a b:Expr)(t:TE):Prop :=
 ∀(B:List (Addr×Obj))(s:Shared)(O:St)(H:Hp)(Q:VK),Inv X B O H s->t O H Q ->
  wpAny (model X.prog X.w) X.A (eval a X.env) (λv c=>wpAny (model X.prog X.w) X.A (eval b X.env) (λu j=>wpAny (model X.prog X.w) X.A (LU op v u) (EP X B O Q) X.xe j) X.xe c) X.xe s
def tB(t:TE):TT:=λO H Q=>t O H λx l=>∃ c,x=.bl c/\Q c l
theorem zv{t:TE}(h:PC X op a b t)(J:behindInMarks op b=false:=by first | exact nobehind _ (by decide) (by decide) | rfl):PT X (.Compare a [op] [b] pos) (tB t):=by
 intro B s O H Q I o;refine wpAny_isTrue_Compare1 (thn (h B s O H _ I o) λv g J=>thn J λu G Y=>thn Y λc m ⟨x,l,i,j,L⟩=>?_) J;obtain⟨d,rfl,q⟩:=L
 cases j
 exact LV ⟨l,i,q⟩
theorem jQ{t:TE}(h:PE X e t)(he:∀ whole,isTrue e X.env whole=(do let v ← whole;standAt e.pos;holding [v] (truthy v)):=by intro _;rfl):PT X e (tB t):=by
 intro B s O H Q I c;refine isTrue_plain (thn (h B s O H _ I c) λv g ⟨x,l,i,j,L⟩=>?_) (he _);obtain⟨d,rfl,q⟩:=L
 cases j
 exact LV ⟨l,i,q⟩
variable{tA tB':TT}{rest:List Expr}
def tAnd(t u:TT):TT:=λO H Q=>t O H λc l=>if c=true then u O l Q else Q false l
def tOr(t u:TT):TT:=λO H Q=>t O H λc l=>if c=true then Q true l else u O l Q
def tNot(t:TT):TT:=λO H Q=>t O H λc l=>Q (!c) l
theorem zu(E:PT X a tA):PW X (.BoolOp .And [a] pos) tA:=by
 intro d B s O H Q I h;refine isTrue_and (thn (E B s O H Q I h) λc g e=>?_)
 cases c with
 |true=>exact isTrue_and_nil e
 |false=>exact e
theorem we(E:PT X a tA):PW X (.BoolOp .Or [a] pos) tA:=by
 intro d B s O H Q I h;refine isTrue_or (thn (E B s O H Q I h) λc g e=>?_)
 cases c with
 |false=>exact isTrue_or_nil e
 |true=>exact e
theorem wj(E:PT X a tA)(M:PW X (.BoolOp .And (b::rest) pos) tB'):PW X (.BoolOp .And (a::b::rest) pos) (tAnd tA tB'):=by
 intro d B s O H Q I h;refine isTrue_and (thn (E B s O H _ I h) λc g ⟨l,i,L⟩=>?_)
 cases c with
 |true=>exact M d B g O l Q i L
 |false=>exact⟨l,i,L⟩
theorem zt(E:PT X a tA)(M:PW X (.BoolOp .Or (b::rest) pos) tB'):PW X (.BoolOp .Or (a::b::rest) pos) (tOr tA tB'):=by
 intro d B s O H Q I h;refine isTrue_or (thn (E B s O H _ I h) λc g ⟨l,i,L⟩=>?_)
 cases c with
 |true=>exact⟨l,i,L⟩
 |false=>exact M d B g O l Q i L
theorem oq(E:PT X a tA):PT X (.UnaryOp .Not a pos) (tNot tA):=by
 intro B s O H Q I h;exact isTrue_not (E B s O H (λc l=>Q (!c) l) I h)
def tAndV(ta tb:TE):TE:=λO H Q=>ta O H λx l=>∃ c,x=.bl c/\if c=true then tb O l Q else Q (.bl false) l
theorem wx{op}{t:TE}(h:PE X a t):PE X (.BoolOp op [a] pos) t:=λB s O H Q I c=>BoolOp_one (h B s O H Q I c)
theorem oy(E:PE X a ta)(M:PE X (.BoolOp .And (b::rest) pos) tb):PE X (.BoolOp .And (a::b::rest) pos) (tAndV ta tb):=by
 intro B s O H Q I h;refine BoolOp_and (thn (E B s O H _ I h) λv g ⟨x,l,i,j,L⟩=>?_);obtain⟨c,rfl,L⟩:=L
 cases j
 refine LV ?_
 cases c with
 |true=>exact M B g O l Q i L
 |false=>exact⟨.bl false,l,i,rfl,L⟩
def tIf(t:TT)(ta tb:TE):TE:=λO H Q=>t O H λc l=>if c=true then ta O l Q else tb O l Q
theorem fQ{c:Expr}(t:PT X c tA)(E:PE X a ta)(M:PE X b tb):PE X (.IfExp c a b pos) (tIf tA ta tb):=by
 intro B s O H Q I h;refine wpAny_IfExp (thn (t B s O H _ I h) λd g ⟨l,i,L⟩=>?_)
 cases d with
 |true=>exact E B g O l Q i L
 |false=>exact M B g O l Q i L
end
def SqL(K:Gw)(H:Hp)(a:Addr)(xs:List V):Prop :=
 Rd H a (.lst xs) ∨
  ∃(o:Obj)(E:Array Value)(n:Nat),K.lookup a=some o/\o.cls=.type "list"/\o.dict=none/\o.data=.seq E n/\E.size<=LK/\Vals xs E.toList
def SqT(K:Gw)(H:Hp)(a:Addr)(xs:List V):Prop :=
 Rd H a (.tup xs) ∨
  ∃(o:Obj)(E:Array Value)(n:Nat),K.lookup a=some o/\o.cls=.type "tuple"/\o.data=.seq E n/\E.size<=LK/\Vals xs E.toList
def absV:Value->Option V
 |.none=>some .non
 |.bool b=>some (.bl b)
 |.int i _=>some (.int i)
 |.str x _=>some (.str x)
 |.bytes b _=>some (.byt b)
 |.float b _=>some (.flt b)
 |.ref a=>some (.ref a)
 |.type n=>some (.ty n)
 |_=>none
theorem RelV.abs{x:V}(r:RelV x u):absV u=some x:=by
 cases x with
 |non=>cases r;rfl
 |bl _=>cases r;rfl
 |int _=>obtain⟨t,rfl⟩:=r;rfl
 |str _=>obtain⟨t,rfl⟩:=r;rfl
 |byt _=>obtain⟨t,rfl⟩:=r;rfl
 |flt _=>obtain⟨t,rfl⟩:=r;rfl
 |ref _=>cases r;rfl
 |ty _=>cases r;rfl
theorem RelV.inj{x y:V}(r:RelV x u)(q:RelV y u):x=y:=G3 (r.abs.symm.trans q.abs)
theorem Vals.inj:∀{xs ys:List V}{us:List Value},Vals xs us->Vals ys us->xs=ys
 |_,_,_,.nil,.nil=>rfl
 |_,_,_,.cons r t,.cons v m=>by rw[r.inj v,Vals.inj t m]
section
variable{X:Cx}{pins:List (Addr×Obj)}{σ:St}{H:Hp}{s:Shared}{a:Addr}{xs ys:List V}
theorem SqL.of(h:H a=some (.lst xs)):SqL K H a xs:=.inl (.inl h)
theorem SqT.of(h:H a=some (.tup xs)):SqT K H a xs:=.inl (.inl h)
theorem Inv.list(I:Inv X pins σ H s)(h:SqL X.K H a xs):∃ its:List Value,Vals xs its/\PlainL s.heap a its.toArray/\xs.length<=LK:=by
 rcases h with h | ⟨o,its,n,G,t,hd,J,g,r⟩
 .obtain⟨z,its,n,r,e⟩:=h.ok I.hok;exact⟨its,r,⟨_,n,e,rfl,rfl,rfl⟩,z⟩
 .refine⟨its.toList,r,⟨o,n,I.kIn a o G,t,hd,by simpa using J⟩,?_⟩
  have e:=r.length;simp only[Hd]at e;omega
theorem Inv.tuple(I:Inv X pins σ H s)(h:SqT X.K H a xs):∃ its:List Value,Vals xs its/\IsTup s.heap a its.toArray/\xs.length<=LK:=by
 rcases h with h | ⟨o,its,n,G,t,J,g,r⟩
 .obtain⟨z,its,r,p⟩:=h.ok I.hok;exact⟨its,r,p,z⟩
 .refine⟨its.toList,r,⟨o,I.kIn a o G,t,n,by simpa using J⟩,?_⟩
  have e:=r.length;simp only[Hd]at e;omega
theorem Inv.list_inj(I:Inv X pins σ H s)(h:SqL X.K H a xs)(h':SqL X.K H a ys):xs=ys:=by
 obtain⟨E,r,⟨o,n,e,_,_,d⟩,_⟩:=I.list h;obtain⟨b,v,⟨B,i,Q,_,_,j⟩,_⟩:=I.list h';rw[e]at Q;cases Q;rw[d]at j;injection j with d1 _;have:E=b:=by simpa using congrArg Array.toList d1
 subst this;exact r.inj v
end
abbrev Cx.wish(X:Cx)(E:Value->Shared->Prop):Cx:={ X with xe:=E }
abbrev Cx.nox(X:Cx):Cx:=X.wish λ_ _=>False
theorem Cx.Ok.wish{X:Cx}(ok:X.Ok)(E:Value->Shared->Prop):(X.wish E).Ok :=
 ⟨ok.mod,ok.kind,ok.glob,ok.blt,ok.above,ok.inj,ok.has,ok.cab,ok.hd,ok.frames,ok.stk,ok.exf,ok.bs,ok.bsz,ok.noex,ok.exfs,ok.funs,ok.frf⟩
theorem Cx.Ok.unwish{X:Cx}(ok:(X.wish E).Ok):X.Ok :=
 ⟨ok.mod,ok.kind,ok.glob,ok.blt,ok.above,ok.inj,ok.has,ok.cab,ok.hd,ok.frames,ok.stk,ok.exf,ok.bs,ok.bsz,ok.noex,ok.exfs,ok.funs,ok.frf⟩
section
variable{X:Cx}{pins:List (Addr×Obj)}{σ:St}{H:Hp}{s:Shared}{E:Value->Shared->Prop}
theorem Inv.wish(I:Inv X pins σ H s)(E:Value->Shared->Prop):Inv (X.wish E) pins σ H s:=⟨I.ok.wish E,I.os,I.bare,I.base,I.loc,I.cell,I.free,I.freeC,I.pin,I.hok,I.len⟩
theorem Inv.unwish(I:Inv (X.wish E) pins σ H s):Inv X pins σ H s:=⟨I.ok.unwish,I.os,I.bare,I.base,I.loc,I.cell,I.free,I.freeC,I.pin,I.hok,I.len⟩
theorem SP.unwish{D:Ends}{f:Flow}{s':Shared}(h:SP (X.wish E) pins D f s'):SP X pins D f s':=by
 cases f with
 |next=>obtain⟨z,j,I,q⟩:=h;exact⟨z,j,I.unwish,q⟩
 |brk=>obtain⟨z,j,I,q⟩:=h;exact⟨z,j,I.unwish,q⟩
 |cont=>obtain⟨z,j,I,q⟩:=h;exact⟨z,j,I.unwish,q⟩
 |ret u=>obtain⟨v,z,j,I,r,q⟩:=h;exact⟨v,z,j,I.unwish,r,q⟩
theorem PSs.nox{st:List Stmt}{t:TS}(h:PSs X.nox st t):PSs X st t:=λpins s σ H D I c =>
 LS (h pins s σ H D (I.wish _) c) (λ_ _ q=>q.unwish) λ_ _ z=>False.elim z
end
section
variable{X:Cx}{st:Stmt}{rest:List Stmt}{t u:TS}{e:Expr}{te:TE}{pos:Pos}
def tNext:TS:=λD O H=>D.nx O H
def tSeq(t u:TS):TS:=λD O H=>t { D with nx:=u D } O H
theorem aJ:PSs X [] tNext:=λ_ _ O H _ I h=>wpAny_execs_nil ⟨O,H,I,h⟩
theorem ag(J:PS X st t)(h2:PSs X rest u):PSs X (st::rest) (tSeq t u):=by
 intro B s O H D I h;refine wpAny_execs_cons (thn (J B s O H { D with nx:=u D } I h) λf g q=>?_)
 cases f with
 |next =>
  obtain⟨z,j,p,q⟩:=q;exact h2 B g z j D p q
 |ret v=>exact q
 |brk=>exact q
 |cont=>exact q
theorem ak(J:PS X st t):PSs X [st] t:=by
 intro B s O H D I h;refine wpAny_execs_cons (thn (J B s O H D I h) λf g q=>?_)
 cases f with
 |next=>exact wpAny_execs_nil q
 |ret v=>exact q
 |brk=>exact q
 |cont=>exact q
def tCont:TS:=λD O H=>D.ct O H
theorem t8:PS X (.Continue pos) tCont:=λ_ _ O H _ I h=>wpAny_Continue ⟨O,H,I,h⟩
theorem Inv.quiet{O:St}{H:Hp}(I:Inv X L O H s):interactive X.env=false:=by simp[interactive,I.ok.kind]
def tDrop(te:TE):TS:=λD O H=>te O H λ_ l=>D.nx O l
theorem aP(he:PE X e te)(G:swapsWith e none pos.line X.env=pure false:=by rfl):PS X (.Expr e pos) (tDrop te):=by
 intro B s O H D I h;exact wpAny_Expr_any (thn (he B s O H _ I h) λv g ⟨x,l,i,j,L⟩=>⟨O,l,i,L⟩) I.quiet G
def tRet(te:TE):TS:=λD O H=>te O H D.rt
theorem aF(he:PE X e te):PS X (.Return (some e) pos) (tRet te):=by
 intro B s O H D I h;exact wpAny_Return_some (thn (he B s O H _ I h) λv g ⟨x,l,i,j,L⟩=>⟨x,O,l,i,j,L⟩)
def tIfS(c:TT)(t u:TS):TS:=λD O H=>c O H λb l=>if b=true then t D O l else u D O l
theorem bG{c:Expr}{a b:List Stmt}{e:TT}(Y:PT X c e)(E:PSs X a t)(M:PSs X b u):PS X (.If c a b pos) (tIfS e t u):=by
 intro B s O H D I h;refine wpAny_If (thn (Y B s O H _ I h) λd g ⟨l,i,L⟩=>?_)
 cases d with
 |true=>exact E B g O l D i L
 |false=>exact M B g O l D i L
def tNever:TS:=λ_ _ _=>False
theorem cG:PS X st tNever:=λ_ _ _ _ _ _ h=>h.elim
end
abbrev TG:=V->St->Hp->(St->Hp->Prop)->Prop
abbrev TGs:=List V->St->Hp->(St->Hp->Prop)->Prop
def PG(X:Cx)(a:Expr)(t:TG):Prop :=
 ∀(B:List (Addr×Obj))(s:Shared)(O:St)(H:Hp)(v:V)(u:Value)(Q:St->Hp->Prop),Inv X B O H s->RelV v u->t v O H Q ->
  wpAny (model X.prog X.w) X.A (assign a X.env u) (λ_ L=>∃ z j,Inv X B z j L/\Q z j) X.xe s
def PGs(X:Cx)(ts:List Expr)(t:TGs):Prop :=
 ∀(B:List (Addr×Obj))(s:Shared)(O:St)(H:Hp)(Y:List V)(J:List Value)(Q:St->Hp->Prop),Inv X B O H s->Vals Y J->t Y O H Q ->
  wpAny (model X.prog X.w) X.A (assignInOrder ((LW ts X.env).map (·.2)) J) (λ_ L=>∃ z j,Inv X B z j L/\Q z j) X.xe s
abbrev TSet:=V->V->V->Hp->(Hp->Prop)->Prop
def PSet(X:Cx)(t:TSet):Prop :=
 ∀(B:List (Addr×Obj))(s:Shared)(O:St)(H:Hp)(o i v:V)(y C u:Value)(Q:Hp->Prop),Inv X B O H s->RelV o y->RelV i C->RelV v u->t o i v H Q ->
  wpAny (model X.prog X.w) X.A (setItem y C u) (λ_ L=>∃ j,Inv X B O j L/\Q j) X.xe s
section
variable{X:Cx}{pos:Pos}
def kc(i:Nat):TG:=λv O H Q=>Q (O.set i (some v)) H
theorem aV(k:X.N.Nodup)(hi:X.N[i]?=some x)(L:Loc X.env.scope x)(D:X.fn x=true∨X.env.scope.names.lookup x=some .local:=by first | exact .inl rfl | exact .inr rfl | assumption):PG X (.Name x pos) (kc i):=by
 intro B s O H v u Q I r h;exact wpAny_assign_Name (lV I k hi L r (λc p=>⟨_,H,p,h⟩) D)
def gNil:TGs:=λY O H Q=>Y = []/\Q O H
inductive gCons(t:TG)(u:TGs)(vs:List L2.V)(σ:L2.St)(H:L2.Hp)(Q:(L2.St->L2.Hp->Prop)):Prop
 |mk (v r:_) (h0_:vs=v::r)(h1_:t v σ H λσ' H'=>u r σ' H' Q)
theorem bC:PGs X [] gNil:=by
 intro B s O H Y J Q I r h;obtain⟨e,h⟩:=h;subst e
 cases r
 exact assignInOrder_nil ⟨O,H,I,h⟩
theorem aE{es:List Expr}{t:TG}{u:TGs}(J:PG X e t)(h2:PGs X es u)
  (G:(LW (e::es) X.env).map (·.2)=assign e X.env::(LW es X.env).map (·.2):=by rfl):PGs X (e::es) (gCons t u):=by
 intro B s O H Y z Q I r h;obtain⟨v,j,d,h⟩:=h;subst d
 cases r with
 |cons r b =>
  rw[G];refine assignInOrder_cons (thn (J B s O H _ _ _ I r h) λ_ g ⟨a,l,i,L⟩=>?_);exact h2 B g a l _ _ Q i b L
inductive gTup(K:Gw)(n:Nat)(t:TGs)(v:L2.V)(σ:L2.St)(H:L2.Hp)(Q:(L2.St->L2.Hp->Prop)):Prop
 |mk (a xs:_) (h0_:v=.ref a)(h1_:SqT K H a xs)(h2_:xs.length=n)(h3_:t xs σ H Q)
theorem mZ{es:List Expr}{k:Nat}{t:TGs}(Y:X.calm=true)(h:PGs X es t)
  (T:(LW es X.env).length=n:=by rfl) (y:(LW es X.env).findIdx? (·.1)=none:=by rfl):PG X (.Tuple es k pos) (gTup X.K n t):=by
 intro B s O H v u Q I r c;obtain⟨a,N,d,m,C,c⟩:=c;subst d
 cases r
 obtain⟨E,rv,l,g⟩:=I.tuple m;refine assign_Tuple_tuple (I.ok.hd Y) l (by simp[T,← C,rv.length]) y λj L=>?_
 have i:Inv X B O H { s with heap:=j }:=I.kept (t':=s.toks) λb o e=>L b o (G0 (LL e)) e;exact h B _ O H N _ Q i (by simpa using rv) c
def gSub(c a:TE)(t:TSet):TG:=λv O H Q=>c O H λo l=>a O l λi N=>t o i v N λq=>Q O q
theorem zJ{o i:Expr}{c a:TE}{t:TSet}(A:PE X o c)(hi:PE X i a)(G:PSet X t)
  (E:∀ v,assign (.Subscript o i pos) X.env v=(do
   let ov ← holding [v] (eval o X.env)
   let C ← holding [v,ov] (eval i X.env)
   standAt pos
   holding [v,ov,C] (setItem ov C v)
   release [v,ov,C] []):=by intro _;rfl):PG X (.Subscript o i pos) (gSub c a t):=by
 intro B s O H v u Q I r h;rw[E];refine LX (LY (thn (A B s O H _ I h) λov g ⟨x,l,f,j,L⟩=>?_));refine LX (LY (thn (hi B g O l _ f L) λC b ⟨y,N,w,D,Y⟩=>?_));refine LX (wpAny_standAt (LX (LY (thn (G B b O N x y v ov C u _ w j D r Y) λ_ m ⟨q,n,J⟩=>?_))));exact wpAny_release ⟨O,q,n,J⟩
def tAsg(c:TE)(g:TG):TS:=λD O H=>c O H λx l=>g x O l D.nx
theorem zy{C:Expr}{c:TE}{g:TG}(he:PE X e c)(N:PG X C g)(G:swapsWithSole [C] e pos.line X.env=pure false:=by rfl)(hw:swappedStores [C] e X.env=pure none:=by rfl)
  (J:(LW [C] X.env).map (·.2) = [assign C X.env]:=by rfl):PS X (.Assign [C] e pos) (tAsg c g):=by
 intro B s O H D I h;refine wpAny_Assign_stores (thn (he B s O H _ I h) λv o ⟨x,l,i,j,L⟩=>?_) G hw;rw[J];exact thn (N B o O l x v _ i j L) λ_ b q=>q
theorem ps_set{c:TE}{a:Pos}(k:X.N.Nodup)(hi:X.N[i]?=some x)(L:Loc X.env.scope x)(he:PE X e c)(G:swapsWith e (some (.Name x a)) pos.line X.env=pure false:=by rfl)(E:X.fn x=true∨X.env.scope.names.lookup x=some .local:=by first | exact .inl rfl | exact .inr rfl | assumption) :
  PS X (.Assign [.Name x a] e pos) (tAsg c (kc i)):=by
 intro B s O H D I h;refine wpAny_Assign_Name (thn (he B s O H _ I h) λv g ⟨y,l,f,j,t⟩=>?_) G;exact lV f k hi L j (λb w=>⟨_,l,w,t⟩) E
inductive DP(c:TT)(tb:TS)(D:L2.Ends)(σ:L2.St)(H:L2.Hp):Prop
 |mk (W:Nat->St->Hp->Prop) (h0_:(∃ m,W m σ H))(h1_:∀ m σ H,W m σ H ->
 c σ H λb H1=>if b=true then ∃ N:St->Hp->Prop,(∀ σ' H',N σ' H'->∃ m',m'<m/\W m' σ' H')/\tb { D with nx:=N,ct:=N,bk:=D.nx } σ H1 else D.nx σ H1)
theorem fN{c:Expr}{T:List Stmt}{tc:TT}{tb:TS}(hp:PassesOwn (model X.prog X.w) X.A X.env X.xe)(t:PT X c tc)(M:PSs X T tb):PS X (.While c T [] pos) (DP tc tb):=by
 intro B s O H D I h;obtain⟨W,⟨r,u⟩,turn⟩:=h;refine wpAny_While (codeAny_whileLoop (λn L=>∃ z j,Inv X B z j L/\W n z j) ?_ r ⟨O,H,I,u⟩);rintro n o ⟨a,l,i,E⟩;refine LZ hp (thn (t B o a l _ i (turn n a l E)) λb G ⟨g,p,Y⟩=>?_)
 cases b with
 |true =>
  obtain⟨N,k,Y⟩:=Y;rw[Nf rfl];refine LZ hp (thn (M B G a g _ p Y) λf m J=>?_)
  cases f with
  |next =>
   obtain⟨e,q,d,x⟩:=J;obtain⟨Q,C,y⟩:=k e q x;exact⟨Q,C,e,q,d,y⟩
  |cont =>
   obtain⟨e,q,d,x⟩:=J;obtain⟨Q,C,y⟩:=k e q x;exact⟨Q,C,e,q,d,y⟩
  |brk=>exact J
  |ret v=>exact J
 |false =>
  rw[Ng G4];exact wpAny_execs_nil ⟨a,g,p,Y⟩
end
set_option genInjectivity false in
structure It where
 go:Nat->Hp->Prop
 yld:Nat->Hp->V->Hp->Prop
 stop:Nat->Hp->Prop
def FpOk(X:Cx)(B:List (Addr×Obj))(H:Hp)(b:Addr):Prop :=
 H b=none/\b≠X.env.locals/\b∉X.fs/\(b∈X.ex∨X.s₀.heap.objs.size<=b)/\(∀ x c,X.env.cells.lookup x=some c->c≠b)/\∀ p∈X.pn++B,p.1≠b
theorem Inv.fpOk{X:Cx}{O:St}{H H':Hp}{b:Addr}(I:Inv X L O H s)(M:s.heap.objs.size<=b)(T:H' b=none):FpOk X L H' b:=by
 refine⟨T,HY (Hg I.lt M),I.nofs M,.inr (Hy I.sz M),λx c e z=>?_,λp j z=>?_⟩
 .obtain⟨v,q⟩:=I.cell x c e;exact Nh (Hg q.lt (by rw[z];exact M)) (HF _)
 .exact Nh (Hg (LL (I.pin p j).1) (by rw[z];exact M)) (HF _)
structure Turn(P:Program)(w:World)(K:Gw)(tg:Expr)(J:It)(fp:List Addr)(it:Addr)(tn:Nat->Heap->Prop):Prop where
 mem:it∈fp
 obj:∀ i h,tn i h->∀ b∈fp,∃ o,h.get? b=some o/\∀ v,o.data≠.cell v
 keep:∀ i h h',tn i h->(∀ b∈fp,∀ o,h.get? b=some o->h'.get? b=some o)->tn i h'
 item:∀(X:Cx),X.prog=P->X.w=w->X.K=K->X.calm=true->∀(i:Nat)(pins:List (Addr×Obj))(s:Shared)(σ:St)(H:Hp)(E:Value->Shared->Prop),Inv X pins σ H s->(∀ b∈fp,FpOk X pins H b)->tn i s.heap->J.go i H ->
  wpAny (model P w) X.A (pyNext (.ref it)) (λr s1=>∃ u,r=some u /\
   wpAny (model P w) X.A (letOwnedTupleGo tg (.ref it) u) (λ_ s2=>∃ x H',Inv X pins σ H' s2/\RelV x u/\J.yld i H x H'/\tn (i+1) s2.heap/\∀ b∈fp,H' b=none) E s1) E s
 done:∀(X:Cx),X.prog=P->X.w=w->X.K=K->X.calm=true->∀(i:Nat)(pins:List (Addr×Obj))(s:Shared)(σ:St)(H:Hp)(E:Value->Shared->Prop),Inv X pins σ H s->(∀ b∈fp,FpOk X pins H b)->tn i s.heap->J.stop i H ->
  wpAny (model P w) X.A (pyNext (.ref it)) (λr s1=>r=none/\Inv X pins σ H s1) E s
 self:∀(A:Around)(i:Nat)(s:Shared)(Q:Value->Shared->Prop)(E:Value->Shared->Prop),tn i s.heap->Q (.ref it) s->wpAny (model P w) A (pyIter (.ref it)) Q E s
abbrev TI:=St->Hp->(It->Hp->Prop)->Prop
def PIE(X:Cx)(B:List (Addr×Obj))(O:St)(C:Expr)(R:It->Hp->Prop)(d:Value)(s2:Shared):Prop :=
 ∃(e:Addr)(c:List Addr)(a:Nat->Heap->Prop)(J:It)(j:Hp),d=.ref e/\Inv X B O j s2/\Turn X.prog X.w X.K C J c e a/\a 0 s2.heap/\(∀ b∈c,FpOk X B j b)/\R J j
def PI(X:Cx)(C d:Expr)(k:TI):Prop :=
 ∀(B:List (Addr×Obj))(s:Shared)(O:St)(H:Hp)(R:It->Hp->Prop),Inv X B O H s->k O H R ->
  wpAny (model X.prog X.w) X.A (eval d X.env) (λv g=>wpAny (model X.prog X.w) X.A (pyIter v) (PIE X B O C R) X.xe g) X.xe s
theorem FU{M:Model}{n:String}{vs:Array Value}{Q:Unit->Shared->Prop}(c:s.heap.get? it=some o)(t:o.cls=.type n)(hd:o.data=.fields vs)
  (T : ["enumerate","zip","dict_itemiterator","dict_reverseitemiterator","odict_iterator","itertools.zip_longest","itertools.pairwise"].contains n=false) (d:Q () s):wpAny M A (letOwnedTupleGo e (.ref it) u) Q E s:=by
 unfold letOwnedTupleGo
 cases e<;>first
  |exact L4 d
  | (cases u<;>first
    |exact L4 d
    | (refine LX (wpAny_load c ?_)
       rw[t,hd]
       show wpAny M A (if(["enumerate","zip","dict_itemiterator","dict_reverseitemiterator","odict_iterator","itertools.zip_longest","itertools.pairwise"].contains n&&vs[0]? == some (rawInt _))=true then _ else _) Q E s
       rw[Ng (by intro h;rw[T,HM]at h;cases h)]
       exact L4 d))
def Itl(K:Gw)(a:Addr):It :=
 ⟨λi H=>∃ N x,SqL K H a N/\N[i]?=some x,λi H x j=>j=H/\∀ N,SqL K H a N->N[i]?=some x,λi H=>∃ N,SqL K H a N/\N.length<=i⟩
def Itr(lo:Int)(n:Nat):It:=⟨λi _=>i<n,λi H x j=>j=H/\x=.int (lo+i),λi _=>n<=i⟩
theorem yD{Y:Expr}(a it:Addr):Turn P w K Y (Itl K a) [it] it (λi h=>h.IsListIter it a i) where
 mem:=by simp
 obj:=λi h st b M=>by
  have e:b=it:=by simpa using M
  subst e;obtain⟨o,e,c,d⟩:=st;exact⟨o,e,λv z=>by rw[d]at z;cases z⟩
 keep:=λi h A st k=>st.at λo e=>k it (by simp) o e
 item:=by
  intro X hP l hK t i B s O H E I D st j;subst hP l hK;obtain⟨N,x,n,L⟩:=j;obtain⟨m,rv,p,g⟩:=I.list n;obtain⟨u,T,r⟩:=rv.get L;obtain⟨f0,y,q,G,f4,f5⟩:=D it (by simp)
  refine wpAny_pyNext_list_item st p.isList (x:=u) (by simpa using T) λA aa sb=>?_
  have f:Inv X B O H { s with heap:=A }:=I.turned (t':=s.toks) (λb o M e=>(sb.2 b M).trans e) f0 y G f4 f5;obtain⟨o,e,c,d⟩:=id aa;exact⟨u,rfl,FU (s:={ s with heap:=A }) e c d (by decide) ⟨x,H,f,r,⟨rfl,λJ Q=>by rw[I.list_inj Q n];exact L⟩,aa,λb M=>(D b M).1⟩⟩
 done:=by
  intro X hP l hK t i B s O H E I D st j;subst hP l hK;obtain⟨N,n,L⟩:=j;obtain⟨m,rv,p,g⟩:=I.list n;obtain⟨f0,y,q,G,f4,f5⟩:=D it (by simp)
  have C:=rv.length;exact wpAny_pyNext_list_end (I.ok.hd t) st p.isList (by simp;omega) λA eb=>⟨rfl,I.turned (t':=s.toks) (λb o M e=>eb b o M e) f0 y G f4 f5⟩
 self:=λ_ _ _ _ _ st h=>wpAny_pyIter_listiter st h
theorem w9{C:Expr}(it:Addr)(lo:Int)(n:Nat):Turn P w K C (Itr lo n) [it] it (λi h=>IsRangeIter h it (lo+(i:Nat)*1) ((n:Int)-(i:Nat)) 1) where
 mem:=by simp
 obj:=λi h st b M=>by
  have e:b=it:=by simpa using M
  subst e
  exact⟨_,st,λv z=>by
   have T:Data.fields _=Data.cell v:=z
   cases T⟩
 keep:=λi h j st k=>k it (by simp) _ st
 item:=by
  intro X L c m Y i B s O H E I D st N;subst L c m;obtain⟨r,u,q,G,d,x⟩:=D it (by simp)
  have W:=Walks.range (prog:=X.prog) (w:=X.w) (I.ok.hd Y) it lo 1 n;refine W.item i s _ _ N st λv j l p g y=>?_;obtain⟨t,rfl⟩:=p;have f:Inv X B O H { s with heap:=j,toks:=l }:=I.turned (λb o M e=>y b o (by simpa using M) e) r u G d x
  refine⟨_,rfl,FU (s:={ s with heap:=j,toks:=l }) (n:="range_iterator") g rfl rfl (by decide) ⟨.int (lo+i),H,f,⟨t,?_⟩,⟨rfl,rfl⟩,g,λb M=>(D b M).1⟩⟩
  rw[Int.mul_one]
 done:=by
  intro X L c m Y i B s O H E I D st N;subst L c m;obtain⟨r,u,q,G,d,x⟩:=D it (by simp)
  exact wpAny_pyNext_range_end (I.ok.hd Y) st (by have:n<=i:=N;omega) λj a=>⟨rfl,I.turned (t':=s.toks) (λb o M e=>a b o M e) r u G d x⟩
 self:=λ_ _ _ _ _ st h=>wpAny_pyIter_rangeiter st h
section
variable{X:Cx}{tg:Expr}
def iList(K:Gw)(tl:TE):TI:=λO H R=>tl O H λx l=>∃ a,x=.ref a/\(∃ N,SqL K l a N)/\R (Itl K a) l
theorem aU{l:Expr}{tl:TE}(hl:PE X l tl):PI X tg l (iList X.K tl):=by
 intro B s O H R I h;refine thn (hl B s O H _ I h) λv g z=>?_;obtain⟨x,J,i,j,L⟩:=z;obtain⟨a,e,⟨N,n⟩,q⟩:=L;subst e
 cases j
 obtain⟨E,rv,p,t⟩:=i.list n;refine wpAny_pyIter_list p.isList ?_;refine⟨g.heap.objs.size,[g.heap.objs.size],_,_,J,rfl,i.kept (t':=g.toks) λb o e=>L5 _ e,yD a _,⟨_,L6 _ rfl,rfl,rfl⟩,λb M=>?_,q⟩;have e:b=g.heap.objs.size:=by simpa using M
 subst e;exact i.fpOk (Gy _) (i.hok.fresh (Gy _))
theorem Ca{O:St}{H:Hp}{R:It->Hp->Prop}{lo hi:Int}{t u v:Tok}(I:Inv X L O H s)(J : -(2^62)<=lo)(h2:lo<2^62)(g : -(2^62)<=hi)(x:hi<2^62)
  (q:R (Itr lo (hi-lo).toNat) H):wpAny (model X.prog X.w) X.A (pyIter (.ref s.heap.objs.size)) (PIE X L O tg R) E { s with heap:=s.heap.push { cls:=.type "range",data:=.fields #[.int lo t,.int hi u,.int 1 v] },toks:=tk }:=by
 refine wpAny_pyIter_range (IsRange.new ..) (small_one J h2 g x) ?_;have i:Inv X L O H { s with heap:=s.heap.push { cls:=.type "range",data:=.fields #[.int lo t,.int hi u,.int 1 v] },toks:=tk }:=I.kept λb o e=>L5 _ e
 refine⟨(s.heap.push { cls:=.type "range",data:=.fields #[.int lo t,.int hi u,.int 1 v] }).objs.size,[(s.heap.push { cls:=.type "range",data:=.fields #[.int lo t,.int hi u,.int 1 v] }).objs.size],_,_,H,rfl,
  i.kept (t':=tk) λb o e=>L5 _ e,w9 _ lo (hi-lo).toNat,?_,λb M=>?_,q⟩
 .have d:lo+((0:Nat):Int)*1=lo:=by simp
  have f:(((hi-lo).toNat:Nat):Int)-((0:Nat):Int)=Builtin.Range.rangeSize lo hi 1:=by rw[rangeSize_one];split<;>ac_rfl
  show IsRangeIter _ _ (lo+((0:Nat):Int)*1) ((((hi-lo).toNat:Nat):Int)-((0:Nat):Int)) 1;rw[d,f];exact L6 _ rfl
 .have e:b=(s.heap.push { cls:=.type "range",data:=.fields #[.int lo t,.int hi u,.int 1 v] }).objs.size:=by simpa using M
  subst e;exact i.fpOk (Gy _) (i.hok.fresh (Gy _))
def iRng1(T:TA):TI:=λO H R=>T O H λY l=>∃ j:Int,Y = [.int j]/\-(2^62)<=j/\j<2^62/\R (Itr 0 j.toNat) l
theorem aZ{a:Expr}{T:TA}{p:Pos} (N:Gl X "range") (C:X.mg "range" = none) (E:PA X [a] T) (G:LR [a] X.env = [(false,eval a X.env)]:=by rfl):PI X tg (.Call (.Name "range" p) [a] [] pos) (iRng1 T):=by
 intro B s O H R I h;refine Call_ (gX I N C boot_range (L7 (thn (E pos B s O H _ I h) λJ g ⟨Y,l,i,f,L⟩=>?_) G rfl));obtain⟨j,e,L,n,q⟩:=L;subst e
 cases f with
 |cons r b =>
  cases b
  obtain⟨t,rfl⟩:=r;exact call_range_1 (Ca i ∅ ∅ L n (by simpa using q))
def tFor(k:TI)(g:TG)(tb:TS):TS:=λD O H=>k O H λJ l=>∃ W:Nat->Nat->St->Hp->Prop,(∃ m,W 0 m O l)/\∀ i m O H,W i m O H ->
 (J.stop i H/\D.nx O H)∨(J.go i H/\∃ N:St->Hp->Prop,(∀ z j,N z j->∃ Q,Q<m/\W (i+1) Q z j)/\∀ x j,J.yld i H x j->g x O j λh a=>tb { D with nx:=N,ct:=N,bk:=D.nx } h a)
def wu(fp:List Addr)(h:Heap):List (Addr×Obj):=fp.filterMap λb=>(h.get? b).map λo=>(b,o)
theorem iG{b:Addr}(M:b∈fp)(e:h.get? b=some o):(b,o)∈wu fp h:=KQ.mpr ⟨b,M,by rw[e];rfl⟩
theorem zX{p:Addr×Obj}(hp:p∈wu fp h):p.1∈fp/\h.get? p.1=some p.2:=by
 obtain⟨b,M,e⟩:=KQ.mp hp
 cases q:h.get? b with
 |none=>rw[q]at e;cases e
 |some o =>
  rw[q]at e;have Q:(b,o)=p:=G3 e;subst Q;exact⟨M,q⟩
theorem Inv.pinned{O:St}{H:Hp}(I:Inv X L O H s)(D:∀ b∈fp,FpOk X L H b)(A:∀ b∈fp,∃ o,s.heap.get? b=some o/\∀ v,o.data≠.cell v):Inv X (L++wu fp s.heap) O H s :=
 I.pins_of λp j=>(GU.mp j).elim (λz=>I.pin p (Hh _ z)) λz=>by
  obtain⟨M,e⟩:=zX z;obtain⟨r,y,q,_⟩:=D p.1 M;obtain⟨o,Q,d⟩:=A p.1 M;rw[e]at Q;cases Q;exact⟨e,r,y,q,d⟩
theorem Inv.unpinned{pl:List (Addr×Obj)}{O:St}{H:Hp}(I:Inv X (L++pl) O H s):Inv X L O H s:=I.pins_of λp j=>I.pin p (Hh _ (Hu _ j))
theorem bM{ac:Expr}{aa:List Stmt}{wi:TI}{g:TG}{tb:TS}(hp:PassesOwn (model X.prog X.w) X.A X.env X.xe)(E:X.calm=true)(hi:PI X tg ac wi)(p:PG X tg g)(M:PSs X aa tb)
  (G:∀ x,L8 ac X.env x=pure x:=by intro _;rfl):PS X (.For tg ac aa [] pos) (tFor wi g tb):=by
 intro B s O H D I h;refine wpAny_For (thn (hi B s O H _ I h) λv t k=>thn k λaR l Y=>?_) G;obtain⟨it,fp,tn,J,a,e,I2,T,ab,f2,W,⟨m0,w0⟩,turn⟩:=Y;subst e;have am:∀{H':Hp},(∀ b∈fp,H' b=none)->∀ b∈fp,FpOk X B H' b:=λy b M=>⟨y b M,(f2 b M).2⟩;refine codeAny_forLoop_any (λn L=>∃ i z H',Inv X B z H' L/\tn i L.heap/\(∀ b∈fp,H' b=none)/\W i n z H') ?_ m0 ⟨0,O,a,I2,ab,λb M=>(f2 b M).1,w0⟩;rintro n c ⟨i,al,q,I3,aL,aO,w3⟩;rcases turn i n al q w3 with⟨stop,qn⟩ | ⟨go,N,hN,step⟩
 .refine LZ hp (thn (T.done X rfl rfl rfl E i B c al q X.xe I3 (am aO) aL stop) λr s4 ⟨j,I4⟩=>?_);subst j;exact wpAny_execs_nil ⟨al,q,I4,qn⟩
 .refine LZ hp (thn (T.item X rfl rfl rfl E i B c al q X.xe I3 (am aO) aL go) λr s4 ⟨u,j,h4⟩=>?_);subst j;refine LZ hp (thn h4 λ_ s5 ⟨x,Q,I5,r5,y5,ap,aS⟩=>?_);have aT:=I5.pinned (am aS) (T.obj _ _ ap);refine LZ hp (thn (p _ s5 al Q x u _ aT r5 (step x Q y5)) λ_ s6 ⟨aI,H6,I6,q6⟩=>?_);refine LZ hp (thn (M _ s6 aI H6 _ I6 q6) λf s7 q7=>?_);have again:∀{an:St}{H7:Hp},Inv X (B++wu fp s5.heap) an H7 s7->N an H7->∃ m,m<n/\∃ i z H',Inv X B z H' s7/\tn i s7.heap/\(∀ b∈fp,H' b=none)/\W i m z H':=λ{an H7} I7 n7=>by
   obtain⟨m',C,w7⟩:=hN an H7 n7;refine⟨m',C,i+1,an,H7,I7.unpinned,T.keep _ _ _ ap λb M o e=>(I7.pin (b,o) (Hh _ (Hh _ (iG M e)))).1,λb M=>?_,w7⟩;obtain⟨o,e,d⟩:=T.obj _ _ ap b M;exact(I7.pin (b,o) (Hh _ (Hh _ (iG M e)))).2.1
  cases f with
  |next=>obtain⟨an,H7,I7,n7⟩:=q7;exact again I7 n7
  |cont=>obtain⟨an,H7,I7,n7⟩:=q7;exact again I7 n7
  |brk=>obtain⟨an,H7,I7,q7⟩:=q7;exact⟨an,H7,I7.unpinned,q7⟩
  |ret v=>obtain⟨x7,an,H7,I7,r7,q7⟩:=q7;exact⟨x7,an,H7,I7.unpinned,r7,q7⟩
end
theorem cf{xs:List V}{g:TG}{tb:TS}{D:Ends}{O:St}{H:Hp}(Pv:Nat->St->Hp->Prop)(w:Pv 0 O H)(hl:∀ i O H,i<=xs.length->Pv i O H->SqL K H a xs)
  (G:∀ i x O H,xs[i]?=some x->Pv i O H->g x O H λh H2=>tb { D with nx:=Pv (i+1),ct:=Pv (i+1),bk:=D.nx } h H2) (hd:∀ O H,Pv xs.length O H->D.nx O H) :
  ∃ W:Nat->Nat->St->Hp->Prop,(∃ m,W 0 m O H)/\∀ i m O H,W i m O H ->
   ((Itl K a).stop i H/\D.nx O H)∨((Itl K a).go i H/\∃ N:St->Hp->Prop,(∀ σ' H',N σ' H'->∃ Q,Q<m/\W (i+1) Q σ' H')/\∀ x H',(Itl K a).yld i H x H'->g x O H' λh H2=>tb { D with nx:=N,ct:=N,bk:=D.nx } h H2):=by
 refine⟨λi m O H=>m=xs.length-i/\i<=xs.length/\Pv i O H,⟨xs.length,by simp,Hq _,w⟩,?_⟩
 rintro i m O H ⟨rfl,T,p⟩;have q:=hl i O H T p;by_cases f:i<xs.length
 .refine .inr ⟨⟨xs,xs[i],q,by simp[f]⟩,Pv (i+1),λσ' H' A=>⟨xs.length-(i+1),∅,rfl,f,A⟩,λx H' y=>?_⟩
  obtain⟨e,y⟩:=y;subst e;exact G i x O _ (y xs q) p
 .have e:i=xs.length:=by omega
  subst e;exact .inl ⟨⟨xs,q,Gy _⟩,hd O H p⟩
theorem fq{lo:Int}{g:TG}{tb:TS}{D:Ends}{O:St}{H:Hp}(Pv:Nat->St->Hp->Prop)(w:Pv 0 O H)
  (G:∀ i O H,i<n->Pv i O H->g (.int (lo+i)) O H λh H2=>tb { D with nx:=Pv (i+1),ct:=Pv (i+1),bk:=D.nx } h H2) (hd:∀ O H,Pv n O H->D.nx O H) :
  ∃ W:Nat->Nat->St->Hp->Prop,(∃ m,W 0 m O H)/\∀ i m O H,W i m O H ->
   ((Itr lo n).stop i H/\D.nx O H)∨((Itr lo n).go i H/\∃ N:St->Hp->Prop,(∀ σ' H',N σ' H'->∃ Q,Q<m/\W (i+1) Q σ' H')/\∀ x H',(Itr lo n).yld i H x H'->g x O H' λh H2=>tb { D with nx:=N,ct:=N,bk:=D.nx } h H2):=by
 refine⟨λi m O H=>m=n-i/\i<=n/\Pv i O H,⟨n,by simp,Hq _,w⟩,?_⟩
 rintro i m O H ⟨rfl,T,p⟩;by_cases f:i<n
 .refine .inr ⟨f,Pv (i+1),λσ' H' A=>⟨n-(i+1),∅,rfl,f,A⟩,λx H' y=>?_⟩
  obtain⟨e,y⟩:=y;subst e y;exact G i O _ f p
 .have e:i=n:=by omega
  subst e;exact .inl ⟨Gy _,hd O H p⟩
theorem iA{c:TT}{tb:TS}{D:Ends}{O:St}{H:Hp}(Pv:St->Hp->Prop)(a:St->Hp->Nat)(w:Pv O H)
  (G:∀ O H,Pv O H->c O H λb H1=>if b=true then tb { D with nx:=λσ' H'=>Pv σ' H'/\a σ' H'<a O H,ct:=λσ' H'=>Pv σ' H'/\a σ' H'<a O H,bk:=D.nx } O H1 else D.nx O H1)
  (mono:∀ O H Q v,(∀ b H1,Q b H1->v b H1)->c O H Q->c O H v):DP c tb D O H:=by
 refine⟨λm O H=>m=a O H/\Pv O H,⟨_,rfl,w⟩,?_⟩;rintro m O H ⟨rfl,p⟩;refine mono O H _ _ (λb H1 q=>?_) (G O H p)
 cases b with
 |true=>exact⟨_,λσ' H' ⟨A,l⟩=>⟨_,l,rfl,A⟩,q⟩
 |false=>exact q
abbrev R2:=V->V->Hp->VK->Prop
def OpR(X:Cx)(f:Value->Value->Sem Value)(r:R2):Prop :=
 ∀(B:List (Addr×Obj))(s:Shared)(O:St)(H:Hp)(x y:V)(v u:Value)(Q:VK),Inv X B O H s->RelV x v->RelV y u->r x y H Q ->
  wpAny (model X.prog X.w) X.A (f v u) (EP X B O Q) X.xe s
def gy(X:Cx)(f:Value)(r:List V->Hp->VK->Prop):Prop :=
 ∀(B:List (Addr×Obj))(s:Shared)(O:St)(H:Hp)(N:List V)(J:List Value)(Q:VK),Inv X B O H s->Vals N J->r N H Q ->
  wpAny (model X.prog X.w) X.A (call f J) (EP X B O Q) X.xe s
def tOp(r:R2)(T tb:TE):TE:=λO H Q=>T O H λx l=>tb O l λy N=>r x y N Q
inductive rI(C:Int->Int->Prop)(g:Int->Int->V)(x:L2.V)(y:L2.V)(H:L2.Hp)(Q:L2.VK):Prop
 |mk (i j:_) (h0_:x=.int i)(h1_:y=.int j)(h2_:C i j)(h3_:Q (g i j) H)
inductive rI0(g:Int->Int->V)(x:L2.V)(y:L2.V)(H:L2.Hp)(Q:L2.VK):Prop
 |mk (i j:_) (h0_:x=.int i)(h1_:y=.int j)(h2_:Q (g i j) H)
section
variable{X:Cx}{a b c:Expr}{ta tb tc:TE}{pos:Pos}
theorem binT(E:PE X a ta)(M:PE X b tb){O:St}{H:Hp}{R:V->V->Hp->Prop}(I:Inv X L O H s)
  (h:ta O H λx H1=>tb O H1 λy H2=>R x y H2)  {f:Value->Value->Sem Value}
  (D:∀ v u s2 x y H2,Inv X L O H2 s2->RelV x v->RelV y u->R x y H2->wpAny (model X.prog X.w) X.A (f v u) Q X.xe s2) :
  wpAny (model X.prog X.w) X.A (eval a X.env) (λv s₁=>wpAny (model X.prog X.w) X.A (eval b X.env) (λu s₂=>wpAny (model X.prog X.w) X.A (f v u) Q X.xe s₂) X.xe s₁) X.xe s:=by
 refine thn (E L s O H _ I h) λv g z=>?_;obtain⟨x,H1,i,j,t⟩:=z;refine thn (M L g O H1 _ i t) λu s2 z=>?_;obtain⟨y,H2,p,o,Y⟩:=z;exact D v u s2 x y H2 p j o Y
theorem av{op:Operator}{r:R2}(A:OpR X (L9 op) r)(E:PE X a ta)(M:PE X b tb):PE X (.BinOp a op b pos) (tOp r ta tb):=by
 intro B s O H Q I h;exact wpAny_BinOp (binT E M I h λv u G x y N w d D q=>A B G O N x y v u Q w d D q)
theorem opI{f:Value->Value->Sem Value}{C:Int->Int->Prop}{g:Int->Int->Int}
  (rule:∀(i j:Int)(t u:Tok)(s:Shared)(Q:Value->Shared->Prop)(E:Value->Shared->Prop),C i j->Q (.int (g i j) s.toks) { s with toks:=s.toks+1 }->wpAny (model X.prog X.w) X.A (f (.int i t) (.int j u)) Q E s) :
  OpR X f (rI C λi j=>.int (g i j)):=by
 intro B s O H x y v u Q I d D h;obtain⟨i,j,rfl,rfl,Y,q⟩:=h;obtain⟨t,rfl⟩:=d;obtain⟨m,rfl⟩:=D;exact rule i j t m s _ _ Y ⟨.int (g i j),H,I.tok _,⟨_,rfl⟩,q⟩
theorem opI0{f:Value->Value->Sem Value}{g:Int->Int->Int}
  (rule:∀(i j:Int)(t u:Tok)(s:Shared)(Q:Value->Shared->Prop)(E:Value->Shared->Prop),Q (.int (g i j) s.toks) { s with toks:=s.toks+1 }->wpAny (model X.prog X.w) X.A (f (.int i t) (.int j u)) Q E s) :
  OpR X f (rI0 λi j=>.int (g i j)):=by
 intro B s O H x y v u Q I d D h;obtain⟨i,j,rfl,rfl,q⟩:=h;obtain⟨t,rfl⟩:=d;obtain⟨m,rfl⟩:=D;exact rule i j t m s _ _ ⟨.int (g i j),H,I.tok _,⟨_,rfl⟩,q⟩
theorem opB0{f:Value->Value->Sem Value}{g:Int->Int->Bool}
  (rule:∀(i j:Int)(t u:Tok)(s:Shared)(Q:Value->Shared->Prop)(E:Value->Shared->Prop),Q (.bool (g i j)) s->wpAny (model X.prog X.w) X.A (f (.int i t) (.int j u)) Q E s) :
  OpR X f (rI0 λi j=>.bl (g i j)):=by
 intro B s O H x y v u Q I d D h;obtain⟨i,j,rfl,rfl,q⟩:=h;obtain⟨t,rfl⟩:=d;obtain⟨m,rfl⟩:=D;exact rule i j t m s _ _ ⟨.bl (g i j),H,I,rfl,q⟩
def CDiv(i j:Int):Prop:=0<j/\j<1073741824
def CPow(i j:Int):Prop:=0<=j/\j<=1000000/\i.natAbs<2^64
def CMul(i j:Int):Prop:=(-(2^64)<i/\i<2^64)∨(-(2^64)<j/\j<2^64)
theorem CMul.ok{i j:Int}(h:CMul i j):IntMulOk i j:=by
 rcases h with⟨J,Y⟩ | ⟨J,Y⟩
 .exact .of_left (intBits_le_64 J Y)
 .exact .of_right (intBits_le_64 J Y)
theorem w6(k:Nat):(0:Int)<=2^k:=by
 rw[two_pow_cast];exact IV _
theorem b9:OpR X (L9 .Add) (rI0 λi j=>.int (i+j)):=opI0 λ_ _ _ _ _ _ _ q=>add_int q
theorem iW:OpR X (L9 .Sub) (rI0 λi j=>.int (i-j)):=opI0 λ_ _ _ _ _ _ _ q=>sub_int q
theorem jS:OpR X (L9 .Mult) (rI CMul λi j=>.int (i*j)):=opI λ_ _ _ _ _ _ _ t q=>mul_int q t.ok
theorem cg:OpR X (L9 .FloorDiv) (rI CDiv λi j=>.int (i/j)):=opI λi j _ _ _ _ _ t q=>by
 have J:(0:Int)<j:=t.1;have Y:j<1073741824:=t.2;exact floordiv_int ∅ (by rw[Lo i ∅];exact q) (.inl (PyProof.noPylong_small ∅))
theorem b8:OpR X (L9 .Mod) (rI (λ_ j=>0<j) λi j=>.int (i%j)):=opI λi j _ _ _ _ _ t q=>by
 have J:(0:Int)<j:=t;exact mod_int' ∅ (by rw[Int.fmod_eq_emod_of_nonneg i ∅];exact q)
theorem D8:OpR X (L9 .Pow) (rI CPow λi j=>.int (i^j.toNat)):=opI λ_ _ _ _ _ _ _ t q=>pow_int_small t.1 t.2.1 t.2.2 q
theorem bF:OpR X (L9 .LShift) (rI CPow λi j=>.int (i*2^j.toNat)):=opI λ_ _ _ _ _ _ _ t q=>lshift_int_small t.1 t.2.1 t.2.2 q
theorem eG:OpR X (L9 .RShift) (rI (λ_ j=>0<=j) λi j=>.int (i/2^j.toNat)):=opI λi j _ _ _ _ _ t q =>
 rshift_int t (by rw[Lo i (w6 _)];exact q)
theorem gM:OpR X (L9 .BitAnd) (rI0 λi j=>.int (Ma i j)):=opI0 λ_ _ _ _ _ _ _ q=>and_int q
theorem zQ:OpR X (L9 .BitOr) (rI0 λi j=>.int (Mb i j)):=opI0 λ_ _ _ _ _ _ _ q=>or_int q
theorem dh:OpR X (L9 .BitXor) (rI0 λi j=>.int (Mc i j)):=opI0 λ_ _ _ _ _ _ _ q=>xor_int q
end
def scal:V->V->Bool
 |.non,.non=>true | .non,.int _=>true | .int _,.non=>true | .non,.bl _=>true | .bl _,.non=>true | .non,.str _=>true | .str _,.non=>true
 |.int _,.int _=>true | .bl _,.bl _=>true | .str _,.str _=>true | .byt _,.byt _=>true
 |.int _,.str _=>true | .str _,.int _=>true | .bl _,.str _=>true | .str _,.bl _=>true
 |_,_=>false
def rEq:R2:=λx y H Q=>scal x y=true/\Q (.bl (decide (x=y))) H
def rNe:R2:=λx y H Q=>scal x y=true/\Q (.bl (!decide (x=y))) H
theorem Bf{i j:Int}:decide (V.int i=V.int j)=(i == j):=by
 rw[JV];simp
theorem Em{i j:Bool}:decide (V.bl i=V.bl j)=(i == j):=by
 rw[JV];simp
theorem Be{i j:Str}:decide (V.str i=V.str j)=(i == j):=by
 rw[JV];simp
theorem Bg{i j:Array UInt8}:decide (V.byt i=V.byt j)=(i.toList == j.toList):=by
 rw[JV]
 cases i
 cases j
 simp
section
variable{X:Cx}{a b c:Expr}{ta tb tc:TE}{pos:Pos}
theorem aX{O:St}{H:Hp}{Q:VK}{k A:Bool}(I:Inv X L O H s)(q:Q (.bl k) H)(e:k=A):EP X L O Q (.bool A) s:=by
 subst e;exact⟨.bl k,H,I,rfl,q⟩
theorem cj:OpR X (LU .Eq) rEq:=by
 intro B s O H x y v u Q I d D h;obtain⟨G,q⟩:=h
 cases x with
 |non =>
  cases d
  cases y with
  |non=>cases D;exact PySem.EqNone.eq_none_none (aX I q (by simp))
  |bl j=>cases D;exact PySem.EqNone.eq_none_bool (aX I q (by simp))
  |int j=>obtain⟨m,rfl⟩:=D;exact PySem.EqNone.eq_none_int (aX I q (by simp))
  |str j=>obtain⟨m,rfl⟩:=D;exact PySem.EqNone.eq_none_str (aX I q (by simp))
  |_=>exact Nh (show false=true from G) G4
 |bl i =>
  cases d
  cases y with
  |non=>cases D;exact PySem.EqNone.eq_bool_none (aX I q (by simp))
  |bl j=>cases D;exact eq_bool (aX I q Em)
  |str j=>obtain⟨m,rfl⟩:=D;exact PySem.EqMixed.eq_bool_str (aX I q (by simp))
  |_=>exact Nh (show false=true from G) G4
 |int i =>
  obtain⟨t,rfl⟩:=d
  cases y with
  |non=>cases D;exact PySem.EqNone.eq_int_none (aX I q (by simp))
  |int j=>obtain⟨m,rfl⟩:=D;exact eq_int (aX I q Bf)
  |str j=>obtain⟨m,rfl⟩:=D;exact PySem.EqMixed.eq_int_str (aX I q (by simp))
  |_=>exact Nh (show false=true from G) G4
 |str i =>
  obtain⟨t,rfl⟩:=d
  cases y with
  |non=>cases D;exact PySem.EqNone.eq_str_none (aX I q (by simp))
  |bl j=>cases D;exact PySem.EqMixed.eq_str_bool (aX I q (by simp))
  |int j=>obtain⟨m,rfl⟩:=D;exact PySem.EqMixed.eq_str_int (aX I q (by simp))
  |str j=>obtain⟨m,rfl⟩:=D;exact eq_str (aX I q Be)
  |_=>exact Nh (show false=true from G) G4
 |byt i =>
  obtain⟨t,rfl⟩:=d
  cases y with
  |byt j=>obtain⟨m,rfl⟩:=D;exact PySem.W.eq_bytes (aX I q Bg)
  |_=>exact Nh (show false=true from G) G4
 |_=>cases y<;>exact Nh (show false=true from G) G4
theorem jR:OpR X (LU .NotEq) rNe:=by
 intro B s O H x y v u Q I d D h;obtain⟨G,q⟩:=h
 cases x with
 |non =>
  cases d
  cases y with
  |non=>cases D;exact PySem.EqNone.ne_none_none (aX I q (by simp))
  |bl j=>cases D;exact PySem.EqNone.ne_none_bool (aX I q (by simp))
  |int j=>obtain⟨m,rfl⟩:=D;exact PySem.EqNone.ne_none_int (aX I q (by simp))
  |str j=>obtain⟨m,rfl⟩:=D;exact PySem.EqNone.ne_none_str (aX I q (by simp))
  |_=>exact Nh (show false=true from G) G4
 |bl i =>
  cases d
  cases y with
  |non=>cases D;exact PySem.EqNone.ne_bool_none (aX I q (by simp))
  |bl j=>cases D;exact ne_bool (aX I q (congrArg not Em))
  |str j=>obtain⟨m,rfl⟩:=D;exact PySem.EqMixed.ne_bool_str (aX I q (by simp))
  |_=>exact Nh (show false=true from G) G4
 |int i =>
  obtain⟨t,rfl⟩:=d
  cases y with
  |non=>cases D;exact PySem.EqNone.ne_int_none (aX I q (by simp))
  |int j=>obtain⟨m,rfl⟩:=D;exact ne_int (aX I q (congrArg not Bf))
  |str j=>obtain⟨m,rfl⟩:=D;exact PySem.EqMixed.ne_int_str (aX I q (by simp))
  |_=>exact Nh (show false=true from G) G4
 |str i =>
  obtain⟨t,rfl⟩:=d
  cases y with
  |non=>cases D;exact PySem.EqNone.ne_str_none (aX I q (by simp))
  |bl j=>cases D;exact PySem.EqMixed.ne_str_bool (aX I q (by simp))
  |int j=>obtain⟨m,rfl⟩:=D;exact PySem.EqMixed.ne_str_int (aX I q (by simp))
  |str j=>obtain⟨m,rfl⟩:=D;exact ne_str (aX I q (congrArg not Be))
  |_=>exact Nh (show false=true from G) G4
 |byt i =>
  obtain⟨t,rfl⟩:=d
  cases y with
  |byt j=>obtain⟨m,rfl⟩:=D;exact PySem.W.ne_bytes (aX I q (congrArg not Bg))
  |_=>exact Nh (show false=true from G) G4
 |_=>cases y<;>exact Nh (show false=true from G) G4
theorem uo:OpR X (LU .Lt) (rI0 λi j=>.bl (decide (i<j))):=opB0 λ_ _ _ _ _ _ _ q=>lt_int q
theorem op_le:OpR X (LU .LtE) (rI0 λi j=>.bl (decide (i<=j))):=opB0 λ_ _ _ _ _ _ _ q=>le_int q
theorem zR:OpR X (LU .Gt) (rI0 λi j=>.bl (decide (j<i))):=opB0 λ_ _ _ _ _ _ _ q=>gt_int q
theorem Cm:OpR X (LU .GtE) (rI0 λi j=>.bl (decide (j<=i))):=opB0 λ_ _ _ _ _ _ _ q=>ge_int q
theorem D9:OpR X (LU .Is) (λx y H Q=>y=.non/\Q (.bl (decide (x=.non))) H):=by
 intro B s O H x y v u Q I d D h;obtain⟨rfl,q⟩:=h
 cases D
 refine is_none_gen (aX I q ?_)
 cases x<;>first
  | (cases d;rfl)
  | (obtain⟨t,rfl⟩:=d;rfl)
theorem Fb:OpR X (LU .IsNot) (λx y H Q=>y=.non/\Q (.bl (!decide (x=.non))) H):=by
 intro B s O H x y v u Q I d D h;obtain⟨rfl,q⟩:=h
 cases D
 refine isnot_none_gen (aX I q ?_)
 cases x<;>first
  | (cases d;rfl)
  | (obtain⟨t,rfl⟩:=d;rfl)
theorem aC(b:Expr)(h:op≠.In:=by decide)(h2:op≠.NotIn:=by decide):behindInMarks op b=false:=by
 have O:(op == CmpOp.In)=false:=by cases op<;>first | rfl | exact Nh rfl h
 have f:(op == CmpOp.NotIn)=false:=by cases op<;>first | rfl | exact Nh rfl h2
 cases b<;>simp[behindInMarks,O,f]
theorem bO{r:R2}(A:OpR X (LU op) r)(E:PE X a ta)(M:PE X b tb)(C:behindInMarks op b=false):PE X (.Compare a [op] [b] pos) (tOp r ta tb):=by
 intro B s O H Q I h;exact wpAny_Compare1 (binT E M I h λv u G x y N w d D q=>A B G O N x y v u Q w d D q) C
def tTest(t:TE):TT:=λO H Q=>t O H λx j=>∃ k,x=.bl k/\Q k j
theorem aB{r:R2}(A:OpR X (LU op) r)(E:PE X a ta)(M:PE X b tb)(C:behindInMarks op b=false):PT X (.Compare a [op] [b] pos) (tTest (tOp r ta tb)):=by
 intro B s O H Q I h
 refine wpAny_isTrue_Compare1 (thn (E B s O H _ I h) λv g ⟨x,l,i,j,L⟩=>thn (M B g O l _ i L) λu G ⟨y,N,w,o,Y⟩ =>
  thn (A B G O N x y v u _ w j o Y) λc m ⟨z,q,n,d,k,e,J⟩=>?_) C
 subst e
 cases d
 exact LV ⟨q,n,J⟩
def tChain(r r':R2)(ta tb tc:TE):TE:=λO H Q=>ta O H λx l=>tb O l λy N=>r x y N λz q=>∃ k,z=.bl k /\
 (if k=true then tc O q λC E=>r' y C E Q else Q (.bl false) q)
theorem Cb{ac:CmpOp}{r r':R2}(A:OpR X (LU op) r)(ab:OpR X (LU ac) r')(E:PE X a ta)(M:PE X b tb)(t:PE X c tc)
  (C:lastMarks [op,ac] [b,c]=false:=by with_unfolding_all rfl):PT X (.Compare a [op,ac] [b,c] pos) (tTest (tChain r r' ta tb tc)):=by
 intro B s O H Q I h
 refine isTrue_chain (thn (E B s O H _ I h) λv g ⟨x,l,i,j,L⟩=>test_link (thn (M B g O l _ i L) λu G ⟨y,N,w,o,Y⟩ =>
  thn (A B G O N x y v u _ w j o Y) λd m ⟨z,q,I3,r3,k,e,T⟩=>?_)) C
 subst e
 cases r3
 refine LV ?_
 cases k with
 |false =>
  obtain⟨k',e',q'⟩:=T
  cases e'
  exact ite_ff ⟨q,I3,q'⟩
 |true =>
  refine ite_tt (test_last (thn (t B m O q _ I3 T) λw' s4 ⟨z',D,I4,r4,q4⟩=>thn (ab B s4 O D y z' u w' _ I4 o r4 q4) λd' p aa=>?_));obtain⟨n,J,I5,r5,k2,f,q5⟩:=aa;subst f
  cases r5
  exact LV ⟨J,I5,q5⟩
theorem oA:(LK:Nat)<2^63:=by rw[sizeLine_eq];decide
theorem i3{x:V}(r:Vals [x] us):∃ u,us = [u]/\RelV x u:=by
 cases r with
 |cons j o=>cases o;exact⟨_,rfl,j⟩
theorem yB{x y:V}(r:Vals [x,y] us):∃ u w',us = [u,w']/\RelV x u/\RelV y w':=by
 cases r with
 |cons j o =>
  cases o with
  |cons A a=>cases a;exact⟨_,_,rfl,j,A⟩
theorem ij:gy X (.type "int") (λxs H Q=>(∃ i,xs = [.int i]/\Q (.int i) H)∨∃ k,xs = [.bl k]/\Q (.int (if k then 1 else 0)) H):=by
 intro B s O H xs J Q I r h;rcases h with⟨i,rfl,q⟩ | ⟨k,rfl,q⟩
 .obtain⟨u,rfl,t,rfl⟩:=i3 r;exact call_int_int ⟨.int i,H,I,⟨_,rfl⟩,q⟩
 .obtain⟨u,rfl,j⟩:=i3 r
  cases j
  exact call_int_bool ⟨.int (if k then 1 else 0),H,I.tok _,⟨_,rfl⟩,q⟩
end
structure ObjM(h:Heap)(x dx C:Addr)(mA:Str->Option Value):Prop where
 obj:h.get? x=some (IY C dx)
 ns:h.Ns1 dx mA
 ne:dx≠x
theorem An{j:Str->Option Value}(n:h.Ns1 p j):∃ O,h.get? p=some O/\∀ name,KD name O=some (j name):=by
 obtain⟨o,D,N,A,hd,G,_,C⟩:=n;refine⟨o,A,λname=>?_⟩;have e:=C name;unfold nsFind findBy at e;rw[← Array.find?_toList]at e;unfold KD;rw[hd];dsimp only;split
 .rename_i y q;rw[q]at e;exact congrArg some e
 .rename_i q;rw[q]at e;have a:D.toList.any (·.refKey)=false:=by
   rw[List.any_eq_false];intro y Q;obtain⟨z,t,b⟩:=G y (Array.mem_toList_iff.mp Q);simp[DictEntry.refKey,b]
  have l:¬ D.toList.any (·.refKey)=true:=by rw[a];exact G4
  rw[Ng l];exact congrArg some e
theorem ObjM.look{x:Addr}{j:Str->Option Value}(I:ObjM h x a C j):∃ O,PySem.W.InstAt h x (IY C a) C (some O)/\∀ name,KD name O=some (j name) :=
 let ⟨O,A,g⟩:=An I.ns
 ⟨O,⟨I.obj,rfl,rfl,A⟩,g⟩
section
variable{prog:Program}{w:World}{A:Around}{E:Value->Shared->Prop}{s:Shared}{K:Gw}{x dx C f:Addr}{mA:Str->Option Value}{name:Str}{v:Value}
theorem FV{b:Bool}(X:K.In s.heap)(I:ObjM s.heap x dx C mA)(N:Jd K C name=true)(k:II K C=true)
  (D:GY K (.ref C) name=some none) (p:mA name=some v) (a:PySem.W.handedIn v=true) (h:Q v { s with toks:=s.toks+1 }) :
  wpAny (model prog w) A (getAttr (.ref x) name b) Q E s:=by
 obtain⟨O,J,g⟩:=I.look;exact PySem.W.get_value X J (KG N).1 (PySem.W.findObj_own k D rfl (by rw[g,p])) a h
theorem C9{Q:Value×List Value->Shared->Prop}(X:K.In s.heap)(I:ObjM s.heap x dx C mA)(N:Jd K C name=true)
  (D:GY K (.ref C) name=some (some (.ref f))) (ht:Jj K (.ref f)=true) (p:mA name=none) (h:Q (.ref f,[.ref x]) s) :
  wpAny (model prog w) A (getMethod (.ref x) name pl) Q E s:=by
 obtain⟨O,J,g⟩:=I.look;exact PySem.W.method_fn X J (KG N).1 (KG N).2 D (beq_iff_eq.mp ht) (by show(KD name O).map (·.isSome)=some false;rw[g,p];rfl) h
theorem EY{ns:List Str}{Q:Unit->Shared->Prop}(X:K.In s.heap)(I:ObjM s.heap x dx C mA)
  (G:GY K (.ref C) "__setattr__" = some (some (.builtin "object.__setattr__"))) (hp:JG K C=true) (ht:Lf K C name=some none) (k:II K C=true)
  (hw:PySem.Within mA ns) (hsz:ns.length<=LK)
  (h:∀ h',ObjM h' x dx C (λy=>if y=name then some v else mA y)->LQ dx s.heap h'->Q () { s with heap:=h',toks:=s.toks+2 }) :
  wpAny (model prog w) A (setAttr (.ref x) name v) Q E s:=by
 obtain⟨O,J,g⟩:=I.look;refine PySem.W.set_plain X J G (PySem.W.osa_open (s:={ s with toks:=s.toks+1 }) (r:=none) X J hp ht λb=>?_);obtain⟨c,t,f⟩:=K7 k;have L:s.heap.get? x=some ⟨.ref C,some dx,.plain,#[]⟩:=I.obj;refine LX (L4 (LX (LX (wpAny_loadPart L (LX (PySem.W.Looks.here (s:={ s with toks:=s.toks+1 }) (PySem.W.looks_clsIn X t) ?_))))));rw[f];refine L4 (a:=some dx) (LX (L4 (LX ?_)));refine wpAny_nsSet1 (s:={ s with toks:=s.toks+1 }) I.ns λh' i e=>?_;obtain⟨o,m,n,j,l,d⟩:=i.count (PySem.Within.cons name v hw);refine LX (wpAny_lookBehind j (by rw[l];exact pastItsLine_dict (Hy d (by rw[GX];omega))) ?_)
 exact L4 (h _ ⟨(e.2 _ (Ne.symm I.ne)).trans I.obj,i,I.ne⟩ e)
theorem CP{kw:List (Str×Value)}(X:K.In s.heap)(j:JT K C=true)
  (hi:GY K (.ref C) "__init__" = some (some (.ref f))) (D:PySem.W.typeIn K (.ref f)=some (.type "function"))
  (h:Md (model prog w) (A.under (.builtin "type.__call__" ⟨.ref C::vs,kw⟩)) (.call (.ref f) ⟨.ref (s.heap.objs.size+1)::vs,kw⟩) (PySem.W.InitBack (s.heap.objs.size+1) R)
   { s with heap:=(s.heap.push Iw).push (IY C s.heap.objs.size) }) :
  Md (model prog w) A (.call (.ref C) ⟨vs,kw⟩) R s:=by
 obtain⟨k,g,d,t,os⟩:=s;exact PySem.W.make_core (PySem.W.makes_of X j) (JQ X hi) (λa=>PySem.W.bind_fn X a D) (.inl rfl) h
end
def putF(f:Str)(v:V):List (Str×V)->List (Str×V)
 |[]=>[(f,v)]
 | (g,x)::r=>if g=f then(g,v)::r else(g,x)::putF f v r
theorem az(f g:Str)(v:V):∀ fs:List (Str×V),(putF f v fs).lookup g=if g=f then some v else fs.lookup g
 |[]=>by
  show Jm g [(f,v)]=_;by_cases h:g=f
  .have M:(g == f)=true:=beq_iff_eq.mpr h
   simp only[Jm,M,Nf h]
  .have M:(g == f)=false:=beq_eq_false_iff_ne.mpr h
   simp only[Jm,M,Ng h]
 | (k,x)::r=>by
  have D:=az f g v r;rw[show putF f v ((k,x)::r)=(if k=f then(k,v)::r else(k,x)::putF f v r) from rfl];by_cases G:k=f
  .rw[Nf G];by_cases h:g=k
   .have M:(g == k)=true:=beq_iff_eq.mpr h
    simp only[Jm,M,Nf (h.trans G)]
   .have M:(g == k)=false:=beq_eq_false_iff_ne.mpr h
    simp only[Jm,M,Ng (λe:g=f=>h (e.trans G.symm))]
  .rw[Ng G];by_cases h:g=k
   .have M:(g == k)=true:=beq_iff_eq.mpr h
    simp only[Jm,M,Ng (λe:g=f=>G (h.symm.trans e))]
   .have M:(g == k)=false:=beq_eq_false_iff_ne.mpr h
    simp only[Jm,M];exact D
theorem ni(f:Str)(v:V):∀ fs:List (Str×V),f∈(putF f v fs).map (·.1)/\∀ g,g∈fs.map (·.1)->g∈(putF f v fs).map (·.1)
 |[]=>⟨by simp[putF],λg h=>by simp at h⟩
 | (k,x)::r=>by
  obtain⟨I,z⟩:=ni f v r;rw[show putF f v ((k,x)::r)=(if k=f then(k,v)::r else(k,x)::putF f v r) from rfl];by_cases G:k=f
  .rw[Nf G];subst G;exact⟨by simp,λg h=>by simpa using h⟩
  .rw[Ng G];refine⟨?_,λg h=>?_⟩
   .rw[G7];exact GD _ I
   .rw[G7]at h ⊢;rcases GG.mp h with e | e
    .exact GG.mpr (.inl e)
    .exact GD _ (z g e)
theorem nh(f:Str)(v:V):∀ fs:List (Str×V),(putF f v fs).length<=fs.length+1
 |[]=>by simp[putF]
 | (k,x)::r=>by
  have D:=nh f v r;rw[show putF f v ((k,x)::r)=(if k=f then(k,v)::r else(k,x)::putF f v r) from rfl];by_cases G:k=f
  .rw[Nf G,GX,GX];omega
  .rw[Ng G,GX,GX];omega
theorem RelO.some_of{v:V}{o:Option Value}(r:RelO (some v) o):∃ u,o=some u/\RelV v u:=by
 cases o with
 |none=>exact(show False from r).elim
 |some u=>exact⟨u,rfl,r⟩
theorem RelO.none_of{o:Option Value}(r:RelO none o):o=none:=by
 cases o with
 |none=>rfl
 |some u=>exact(show False from r).elim
theorem AO{v:V}(r:RelV v u):PySem.W.handedIn u=true:=by
 cases v with
 |non=>cases (show u=Value.none from r);rfl
 |bl b=>cases (show u=Value.bool b from r);rfl
 |int i=>obtain⟨t,e⟩:=(show ∃ t,u=Value.int i t from r);cases e;rfl
 |str x=>obtain⟨t,e⟩:=(show ∃ t,u=Value.str x t from r);cases e;rfl
 |byt b=>obtain⟨t,e⟩:=(show ∃ t,u=Value.bytes b t from r);cases e;rfl
 |flt b=>obtain⟨t,e⟩:=(show ∃ t,u=Value.float b t from r);cases e;rfl
 |ref a=>cases (show u=Value.ref a from r);rfl
 |ty n=>cases (show u=Value.type n from r);rfl
section
variable{P:Program}{w:World}{H H':Hp}{h h':Heap}{a C dx:Addr}{fs fs':List (Str×V)}
theorem qk(y:HOk P w H h)(e:H a=some (.ins C dx fs)):∃ j,ObjM h a dx C j/\(∀ f,RelO (fs.lookup f) (j f))/\PySem.Within j (fs.map (·.1))/\fs.length<=1000/\H dx=some (.own a):=by
 obtain⟨d,z,ne,L,j,n,r,q⟩:=(show bp P w H h a (.ins C dx fs) from y a _ e);exact⟨j,⟨L,n,ne⟩,r,q,z,d⟩
end
structure Cls(K:Gw)(C:Addr):Prop where
 pg:Jd K C Str.empty=true
 hd:II K C=true
 po:JG K C=true
 sa:GY K (.ref C) "__setattr__" = some (some (.builtin "object.__setattr__"))
theorem Cls.get(c:Cls K C)(f:Str):Jd K C f=true:=c.pg
def eQ(K:Gw)(C:Addr)(f:Str):Prop:=GY K (.ref C) f=some none
theorem eQ.taker{f:Str}(n:eQ K C f):Lf K C f=some none:=by
 unfold Lf;rw[show GY K (.ref C) f=some none from n];rfl
structure Meth(K:Gw)(C:Addr)(m:Str)(f:Addr):Prop where
 at_:GY K (.ref C) m=some (some (.ref f))
 fn:Jj K (.ref f)=true
 kp:Hw K (.ref f)=true
section
variable{X:Cx}{pins:List (Addr×Obj)}{σ:St}{H:Hp}{s:Shared}{a C dx:Addr}{fs:List (Str×V)}{f:Str}{v:V}{A:Around}{E:Value->Shared->Prop}
theorem xG{b:Bool}(I:Inv X pins σ H s)(e:H a=some (.ins C dx fs))(c:Cls X.K C)(n:eQ X.K C f)(l:fs.lookup f=some v)
  (h:∀ u s',Inv X pins σ H s'->RelV v u->Q u s'):wpAny (model X.prog X.w) A (getAttr (.ref a) f b) Q E s:=by
 obtain⟨j,O,r,_,_,_⟩:=qk I.hok e;obtain⟨u,T,D⟩:=RelO.some_of (v:=v) (o:=j f) (by rw[← l];exact r f)
 exact FV I.kIn O (c.get f) c.hd n T (AO D) (h u _ (I.tok _) D)
theorem oE{m:Str}{g:Addr}{Q:Value×List Value->Shared->Prop}(I:Inv X pins σ H s)(e:H a=some (.ins C dx fs))(c:Cls X.K C)(k:Meth X.K C m g)(l:fs.lookup m=none)
  (h:Q (.ref g,[.ref a]) s):wpAny (model X.prog X.w) A (getMethod (.ref a) m pl) Q E s:=by
 obtain⟨j,O,r,_,_,_⟩:=qk I.hok e;have T:j m=none:=RelO.none_of (by rw[← l];exact r m)
 exact C9 I.kIn O (c.get m) k.at_ k.fn T h
theorem xc{y:V}{Q:Unit->Shared->Prop}(I:Inv X pins σ H s)(e:H a=some (.ins C dx fs))(c:Cls X.K C)(n:eQ X.K C f)(hl:fs.length<1000)(J:RelV y u)
  (h:∀ s',Inv X pins σ (upd H a (.ins C dx (putF f y fs))) s'->Q () s'):wpAny (model X.prog X.w) A (setAttr (.ref a) f u) Q E s:=by
 obtain⟨v,O,r,k,_,D⟩:=qk I.hok e;have t:(fs.map (·.1)).length<=LK:=by rw[Gu,sizeLine_eq];omega
 refine EY I.kIn O c.sa c.po n.taker c.hd k t λj l d=>h _ ?_;have hd:∃ o,j.get? dx=some o:=let ⟨o,_,_,i,_⟩:=l.ns;⟨o,i⟩;refine I.write (x:=a) (e:=dx) (by rw[e];exact True.intro) (.inr D) (λb q M z=>(d.2 b M).trans z) hd ?_
 refine⟨by rw[ao O.ne];exact D,?_,O.ne,l.obj,_,l.ns,λg=>?_,λg N=>?_⟩
 .have:=nh f y fs;omega
 .show RelO ((putF f y fs).lookup g) (if g=f then some u else v g);rw[az];by_cases q:g=f
  .rw[Nf q,Nf q];exact J
  .rw[Ng q,Ng q];exact r g
 .by_cases q:g=f
  .rw[q];exact(ni f y fs).1
  .refine(ni f y fs).2 g (k g λz=>N ?_);show(if g=f then some u else v g)=none;rw[Ng q];exact z
theorem Inv.made(I:Inv X pins σ H s):Inv X pins σ (upd (upd H s.heap.objs.size (.own (s.heap.objs.size+1))) (s.heap.objs.size+1) (.ins C s.heap.objs.size []))
  { s with heap:=(s.heap.push Iw).push (IY C s.heap.objs.size) }:=by
 have O:(s.heap.push Iw).get? s.heap.objs.size=some Iw:=L6 s.heap rfl;have f:((s.heap.push Iw).push (IY C s.heap.objs.size)).get? (s.heap.objs.size+1)=some (IY C s.heap.objs.size):=by
  have:=L6 (s.heap.push Iw) (o:=IY C s.heap.objs.size) rfl;rwa[Me]at this
 have G:(s.heap.push Iw).Ns s.heap.objs.size (λ_=>none):=⟨Iw,#[],_,O,rfl,(λe r=>Nh r (by simp)),λ_=>rfl⟩
 have i:=I.laid (a:=s.heap.objs.size) (o:=.own (s.heap.objs.size+1)) (h':=s.heap.push Iw) (t':=s.toks) (λb u q=>L5 _ q) (Gy _) ⟨_,O⟩;refine i.laid (a:=s.heap.objs.size+1) (o:=.ins C s.heap.objs.size []) (t':=s.toks) (λb u q=>L5 _ q) (Nat.le_of_eq (Me _ _)) ?_;have ne:s.heap.objs.size≠s.heap.objs.size+1:=G0 (HB _);refine⟨by rw[ao ne,af],Hq _,ne,f,λ_=>none,(Heap.Ns1.of_empty G).at λo q=>L5 _ q,λ_=>True.intro,λy Q=>Nh rfl Q⟩
theorem Gg{prog:Program}{f:Str}{s:Shared}(M:attributeBase e f env (eval e env)=eval e env)
  (h:wpAny (model prog w) A (eval e env) (λo s₁=>wpAny (model prog w) A (getAttr o f true) Q E s₁) E s):wpAny (model prog w) A (eval (.Attribute e f pos) env) Q E s :=
 Attribute_any_ h (by rw[arm_eval_Attribute,M])
end
def tFld(K:Gw)(T:TE)(f:Str):TE:=λO H Q=>T O H λx l=>∃ a C n fs v,x=.ref a/\l a=some (.ins C n fs)/\Cls K C/\eQ K C f/\fs.lookup f=some v/\Q v l
def sFld(K:Gw)(T e:TE)(f:Str):TS:=λD O H=>e O H λy l=>T O l λx N=>∃ a C n fs,x=.ref a/\N a=some (.ins C n fs)/\Cls K C/\eQ K C f/\fs.length<1000 /\
 D.nx O (upd N a (.ins C n (putF f y fs)))
section
variable{X:Cx}{o e value:Expr}{f:Str}{pos pos' tpos:Pos}{ta tv:TE}
theorem a8(he:PE X e ta)(M:attributeBase e f X.env (eval e X.env)=eval e X.env):PE X (.Attribute e f pos) (tFld X.K ta f):=by
 intro B s O H Q I h;refine Gg M (thn (he B s O H _ I h) λu g ⟨x,J,i,d,a,C,m,fs,v,k,G,c,n,l,q⟩=>?_);subst k;obtain rfl:u=Value.ref a:=d;exact xG i G c n l λy b w D=>⟨v,J,w,D,q⟩
theorem k8(E:PE X o ta)(p:PE X value tv)(G:swapsWith value (some (.Attribute o f pos')) pos.line X.env=pure false):PS X (.Assign [.Attribute o f pos'] value pos) (sFld X.K ta tv f):=by
 intro B s O H D I h;refine plainObj_wpAny_Assign_Attribute (thn (p B s O H _ I h) λu g ⟨y,J,i,M,q⟩=>thn (E B g O J _ i q) λe b ⟨x,N,w,d,a,C,m,fs,k,z,c,n,l,Y⟩=>?_) G;subst k;obtain rfl:e=Value.ref a:=d;exact xc w z c n l M λr j=>⟨O,_,j,Y⟩
end
section
variable{X:Cx}{pins:List (Addr×Obj)}{σ:St}{H:Hp}{s:Shared}{A:Around}{E:Value->Shared->Prop}{Q:Value->Shared->Prop}{c:Value}{b:Bool}
inductive TyOf(K:Gw)(H:Hp):V->Value->Prop where
 |non:TyOf K H .non (.type "NoneType")
 |bl (x:Bool):TyOf K H (.bl x) (.type "bool")
 |int (i:Int):TyOf K H (.int i) (.type "int")
 |str (x:Str):TyOf K H (.str x) (.type "str")
 |flt (x:UInt64):TyOf K H (.flt x) (.type "float")
 |lst {a:Addr} {xs:List V} (e:H a=some (.lst xs)):TyOf K H (.ref a) (.type "list")
 |frz {a:Addr} {o:Obj} {xs:List V} (e:H a=some (.frz o (.lst xs))):TyOf K H (.ref a) (.type "list")
 |tup {a:Addr} {xs:List V} (e:H a=some (.tup xs)):TyOf K H (.ref a) (.type "tuple")
 |dK {a:Addr} {kvs:List (Key×V)} (e:H a=some (.dK kvs)):TyOf K H (.ref a) (.type "dict")
 |dT {a:Addr} {kvs:List (List Key×V)} (e:H a=some (.dT kvs)):TyOf K H (.ref a) (.type "dict")
 |ins {a C dx:Addr} {fs:List (Str×V)} (e:H a=some (.ins C dx fs)) (cl:Cls K C) (ha:GY K (.ref C) "__class__" = some (some (.builtin "object.__class__")))
   (hn:Kc K (.builtin "object.__class__") "__get__" = some (some (.builtin "getset_descriptor.__get__"))) (htk:Ko K (.builtin "object.__class__")=some true)
   (hm:HV K C (.type "object")=some true):TyOf K H (.ref a) (.ref C)
theorem AA{x:V}{t:Value}(I:Inv X pins σ H s)(d:RelV x u)(ty:TyOf X.K H x t)(e:HG X.K t c=some b)(h:∀ tk,Q (.bool b) { s with toks:=tk }) :
  wpAny (model X.prog X.w) A (call (.builtin "isinstance") [u,c]) Q E s:=by
 cases ty with
 |non=>cases (show u=Value.none from d);exact HW PySem.W.kitx_none I.kIn True.intro e (λz=>nomatch z) h
 |bl y=>cases (show u=Value.bool y from d);exact HW PySem.W.kitx_bool I.kIn True.intro e (λz=>nomatch z) h
 |int i=>obtain⟨t,q⟩:=(show ∃ t,u=Value.int i t from d);cases q;exact HW PySem.W.kitx_int I.kIn True.intro e (λz=>nomatch z) h
 |str y=>obtain⟨t,q⟩:=(show ∃ t,u=Value.str y t from d);cases q;exact HW PySem.W.kitx_str I.kIn True.intro e (λz=>nomatch z) h
 |flt y=>obtain⟨t,q⟩:=(show ∃ t,u=Value.float y t from d);cases q;exact HW PySem.W.kitx_float I.kIn True.intro e (λz=>nomatch z) h
 | @lst a N G =>
  cases (show u=Value.ref a from d)
  obtain⟨_,_,n,_,k⟩:=(show bp X.prog X.w H s.heap a (.lst N) from I.hok a _ G);exact HW PySem.W.kitx_list I.kIn ⟨_,k,rfl⟩ e (λz=>nomatch z) h
 | @frz a f N G =>
  cases (show u=Value.ref a from d)
  obtain⟨_,_,_,n,_,k⟩:=(show bp X.prog X.w H s.heap a (.frz f (.lst N)) from I.hok a _ G);exact HW PySem.W.kitx_list I.kIn ⟨_,k,rfl⟩ e (λz=>nomatch z) h
 | @tup a N G =>
  cases (show u=Value.ref a from d)
  obtain⟨_,_,_,p⟩:=(show bp X.prog X.w H s.heap a (.tup N) from I.hok a _ G);obtain⟨o,k,Y,_⟩:=p;exact HW PySem.W.kitx_tuple I.kIn ⟨o,k,Y⟩ e (λz=>nomatch z) h
 | @dK a m G =>
  cases (show u=Value.ref a from d)
  obtain⟨_,_,M,_,p⟩:=(show bp X.prog X.w H s.heap a (.dK m) from I.hok a _ G);obtain⟨o,D,L,k,Y,_⟩:=p;exact HW PySem.W.kitx_dict I.kIn ⟨o,k,Y.1⟩ e (λz=>nomatch z) h
 | @dT a m G =>
  cases (show u=Value.ref a from d)
  obtain⟨_,_,N,_,o,D,L,k,Y,_⟩:=(show bp X.prog X.w H s.heap a (.dT m) from I.hok a _ G);exact HW PySem.W.kitx_dict I.kIn ⟨o,k,Y.1⟩ e (λz=>nomatch z) h
 | @ins a C g fs G B l T aa j =>
  cases (show u=Value.ref a from d)
  obtain⟨v,O,_⟩:=qk I.hok G;obtain⟨r,J,_⟩:=O.look;exact HW (PySem.W.kitx_own (B.get _) B.hd l T aa j) I.kIn J e (λz=>nomatch z) h
end
structure Room(k:Nat)(A:Around):Prop where
 hd:A.handled=none
 dp:A.depth+3*k+5<recursionLimit
 un:A.units+16*k+200<cLine
theorem Room.mono{k:Nat}(r:Room k A)(h:j<=k):Room j A:=⟨r.hd,by have:=r.dp;omega,by have:=r.un;omega⟩
theorem Room.deeper{k:Nat}(r:Room (k+1) A)(env:Env):Room k (A.deeper env) :=
 ⟨r.hd,by have:=r.dp;show A.depth+1+3*k+5<_;omega,by have:=r.un;show A.units+3+16*k+200<_;omega⟩
theorem xy{kw:List (Str×Value)}:(A.under (.builtin "type.__call__" ⟨.ref C::us,kw⟩)).depth=A.depth+1:=by
 first | rfl | simp[Around.under,Code.weight,Code.isCreation,Code.isGuard,Code.isCaller,Code.frames,Code.isFrame,guardIds]
theorem xw{kw:List (Str×Value)}:(A.under (.builtin "type.__call__" ⟨.ref C::us,kw⟩)).units=A.units+1:=by
 first | rfl | simp[Around.under,Code.cUnits,Code.frames,Code.isFrame]
theorem Room.make{k:Nat}(r:Room (k+1) A)(C:Addr)(us:List Value)(kw:List (Str×Value)):Room k (A.under (.builtin "type.__call__" ⟨.ref C::us,kw⟩)) :=
 ⟨r.hd,by have:=r.dp;rw[xy];omega,by have:=r.un;rw[xw];omega⟩
theorem Room.depth{k:Nat}(r:Room k A):A.depth<recursionLimit:=by have:=r.dp;omega
theorem Room.units{k:Nat}(r:Room k A):A.units+64<cLine:=by have:=r.un;omega
def tNil:TA:=λ_ H Q=>Q [] H
def tCons(T:TE)(tr:TA):TA:=λO H Q=>T O H λx l=>tr O l λJ N=>Q (x::J) N
section
variable{X:Cx}{e:Expr}{es:List Expr}{te:TE}{t:TA}{pos:Pos}
theorem ah:PA X [] tNil:=λ_ _ _ _ H Q I h=>Mf ⟨[],H,I,.nil,h⟩
theorem ae(E:PE X e te)(hr:PA X es t)(G:LR (e::es) X.env=(false,eval e X.env)::LR es X.env:=by rfl):PA X (e::es) (tCons te t):=by
 intro pos B s O H Q I h;rw[G];show wpAny _ _ (spliced ((false,eval e X.env)::backTo pos (LR es X.env))) _ _ s;refine Mg (thn (E B s O H _ I h) λu g ⟨x,l,i,j,L⟩=>?_);exact thn (hr pos B g O l _ i L) λz b ⟨J,N,w,o,Y⟩=>⟨x::J,N,w,.cons j o,Y⟩
def tTup(t:TA):TE:=λO H Q=>t O H λN l=>N.length<=LK/\∀ p,l p=none->Q (.ref p) (upd l p (.tup N))
def tLst(t:TA):TE:=λO H Q=>t O H λN l=>N.length<=LK/\∀ p,l p=none->Q (.ref p) (upd l p (.lst N))
theorem dB{x1}(h:PA X es t):PE X (.Tuple es x1 pos) (tTup t):=by
 intro B s O H Q I n;refine wpAny_Tuple_spliced (thn (h pos B s O H _ I n) λJ g ⟨N,l,i,r,z,q⟩=>⟨by rw[← r.length];exact z,?_⟩)
 have D:l g.heap.objs.size=none:=i.hok.fresh (Gy _);refine⟨.ref g.heap.objs.size,upd l g.heap.objs.size (.tup N),i.laid (t':=g.toks) (λb u e=>L5 _ e) (Gy _) ?_,rfl,q _ D⟩;exact⟨z,J,r,⟨_,L6 _ rfl,rfl,_,rfl⟩⟩
theorem bN(h:PA X es t):PE X (.List es pos) (tLst t):=by
 intro B s O H Q I n;refine wpAny_List_spliced (thn (h pos B s O H _ I n) λJ g ⟨N,l,i,r,z,q⟩=>⟨by rw[← r.length];exact z,?_⟩)
 have D:l g.heap.objs.size=none:=i.hok.fresh (Gy _);refine⟨.ref g.heap.objs.size,upd l g.heap.objs.size (.lst N),i.laid (t':=g.toks) (λb u e=>L5 _ e) (Gy _) ?_,rfl,q _ D⟩;exact⟨z,J,0,r,L6 _ rfl⟩
end
abbrev Sp:=List V->Hp->VK->XK->Prop
abbrev CXT:=List Env->Hp->Shared->XK->Value->Shared->Prop
structure Env0(P:Program)(w:World)(K:Gw)(mg:Str->Option Value)(base:Heap)(A:Around)(outer:List Env)(s:Shared)(H:Hp):Prop where
 frames:A.frames=some outer
 mod:Mod K mg base
 bs:∀ b o,base.get? b=some o->s.heap.get? b=some o/\H b=none
 bsz:base.objs.size<=s.heap.objs.size
 funs:s.heap.FunFrames base outer
 frf:∀ b∈frs outer,H b=none
 hok:HOk P w H s.heap
 bare:AllBare s.gens
def CE(outer:List Env)(P:Program)(w:World)(H:Hp)(s:Shared)(Q:VK)(u:Value)(s':Shared):Prop :=
 ∃ v j,s'.os=s.os/\AllBare s'.gens/\Un (frs outer) [] H j s.heap s'.heap/\HOk P w j s'.heap/\RelV v u/\Q v j
def CR(CX:CXT)(outer:List Env)(P:Program)(w:World)(H:Hp)(s:Shared)(Q:VK)(E:XK)(r:Result)(s':Shared):Prop :=
 match r with
 |.ok (.ret u)=>CE outer P w H s Q u s'
 |.ok _=>False
 |.error e=>CX outer H s E e s'
structure FnOk(P:Program)(w:World)(K:Gw)(mg:Str->Option Value)(base:Heap)(CX:CXT)(k:Nat)(f:Addr)(fd:FuncData)(ps:List Str)(sp:Sp):Prop where
 len:∀ vs H Q E,sp vs H Q E->vs.length=ps.length
 run:∀(A:Around)(outer:List Env)(s:Shared)(H:Hp)(args:Args)(us:List Value)(vs:List V)(Q:VK)(E:XK),Room k A->Env0 P w K mg base A outer s H->BindsTo s fd args (ps.zip us)->Vals vs us->sp vs H Q E ->
  Md (model P w) A (.call (.ref f) args) (CR CX outer P w H s Q E) s
theorem Env0.make{H:Hp}(e:Env0 P w K mg base A outer s H)(C:Addr)(us:List Value)(kw:List (Str×Value)) :
  Env0 P w K mg base (A.under (.builtin "type.__call__" ⟨.ref C::us,kw⟩)) outer s H:=⟨by first | exact e.frames | (simpa[Around.under,Code.envs,Code.isFrame,pushEnvs] using e.frames),e.mod,e.bs,e.bsz,e.funs,e.frf,e.hok,e.bare⟩
section
variable{X:Cx}{pins:List (Addr×Obj)}{σ:St}{H:Hp}{s s':Shared}
theorem Inv.env0(I:Inv X pins σ H s):Env0 X.prog X.w X.K X.mg X.base X.A X.stack s H :=
 ⟨I.ok.frames,I.ok.mod,I.bs,Hy I.ok.bsz I.sz,I.stack,I.stkFree,I.hok,I.bare⟩
theorem Inv.after{Q:VK}(I:Inv X pins σ H s)(h:CE X.stack X.prog X.w H s Q u s'):EP X pins σ Q u s':=by
 obtain⟨v,j,os,a,un,y,r,q⟩:=h;obtain⟨k,g,d,t,c⟩:=s';obtain rfl:c=s.os:=os;exact⟨v,j,I.call (h':=k) (g':=g) (d':=d) (t':=t) (ch:=[]) un y a (λb z=>Nh z (by simp)),r,q⟩
end
def BZ(sp:Sp)(b:List V)(E:XK)(t:TA):TE:=λO H Q=>t O H λY l=>sp (Y++b) l Q E
def tMeth(C:Addr)(m:Str)(sp:Sp)(b:List V)(E:XK)(T:TE)(t:TA):TE:=λO H Q=>T O H λx l=>∃ a n fs,x=.ref a/\l a=some (.ins C n fs)/\fs.lookup m=none /\
 t O l λY N=>sp (x::(Y++b)) N Q E
def tMake(C:Addr)(sp:Sp)(b:List V)(E:XK)(t:TA):TE:=λO H Q=>t O H λY l=>∀ x n,l x=none->l n=none->n≠x ->
 sp (.ref x::(Y++b)) (upd (upd l n (.own x)) x (.ins C n [])) (λv N=>v=.non/\Q (.ref x) N) E
def dA(K:Gw)(fd:FuncData)(ps:List Str)(ds:List Value):Prop :=
 ∀(s:Shared)(J:List Value),K.In s.heap->(J++ds).length=ps.length->BindsTo s fd ⟨J,[]⟩ (ps.zip (J++ds))
theorem dA.all{ps:List Str}(h:∀ us:List Value,us.length=ps.length->bindArgs fd ⟨us,[]⟩=pure (ps.zip us)):dA K fd ps []:=λs us _ C=>by
 rw[JB]at C ⊢;exact .of_eq (h us C)
def lx(CX:CXT)(X:Cx)(E:XK):Prop:=∀(B:List (Addr×Obj))(O:St)(H:Hp)(s:Shared)(e:Value)(L:Shared),Inv X B O H s->CX X.stack H s E e L->X.xe e L
section
variable{X:Cx}{CX:CXT}{k:Nat}{f C:Addr}{fd:FuncData}{ps:List Str}{sp:Sp}{dvs:List V}{ds:List Value}{E:XK}{x m:Str}{p pos apos:Pos}{e o:Expr}{es:List Expr}{ta:TE}{t:TA}
theorem vZ{O:St}{H:Hp}{Q:VK}{vs:List V}(F:FnOk X.prog X.w X.K X.mg X.base CX k f fd ps sp)(hr:Room k X.A)(M:dA X.K fd ps ds)(hd:Vals dvs ds)(D:lx CX X E)
  (I:Inv X L O H s) (r:Vals vs us) (h:sp (vs++dvs) H Q E):wpAny (model X.prog X.w) X.A (call (.ref f) us) (EP X L O Q) X.xe s:=by
 have o:Vals (vs++dvs) (us++ds):=r.append hd;have C:(us++ds).length=ps.length:=by rw[← o.length];exact F.len _ _ _ _ h
 refine wpAny_call (Mh (F.run X.A X.stack s H ⟨us,[]⟩ (us++ds) (vs++dvs) Q E hr I.env0 (M s us I.kIn C) o h) λr c n=>?_)
 cases r with
 |error e=>exact D L O H s e c I n
 |ok l =>
  cases l with
  |ret u=>exact I.after n
  |next=>exact False.elim n
  |brk=>exact False.elim n
  |cont=>exact False.elim n
theorem E9(F:FnOk X.prog X.w X.K X.mg X.base CX k f fd ps sp)(hr:Room k X.A)(N:Gl X x)(C:X.mg x=some (.ref f))(G:Hw X.K (.ref f)=true)(M:dA X.K fd ps ds)(hd:Vals dvs ds)(L:lx CX X E)
  (D:PA X (e::es) t) (v:(x == ("__debug__" : Str))=false:=by decide) (he:LR (e::es) X.env=(false,eval e X.env)::LR es X.env:=by rfl) (m:(backTo pos (LR es X.env)).any (·.1)=false:=by rfl) :
  PE X (.Call (.Name x p) (e::es) [] pos) (BZ sp dvs E t):=by
 intro B s O H Q I h;refine Mi (jo I N C ?_ v);refine Jx (h₀:=X.base) I.ok.mod.kin G (thn (D pos B s O H _ I h) λJ g ⟨Y,l,i,r,q⟩=>⟨i.kIn,?_⟩) he m;exact vZ F hr M hd L i r q
theorem Ci(F:FnOk X.prog X.w X.K X.mg X.base CX k f fd ps sp)(hr:Room k X.A)(N:Gl X x)(C:X.mg x=some (.ref f))(G:Hw X.K (.ref f)=true)(M:dA X.K fd ps ds)(hd:Vals dvs ds)(L:lx CX X E)
  (v:(x == ("__debug__" : Str))=false:=by decide):PE X (.Call (.Name x p) [] [] pos) (BZ sp dvs E tNil):=by
 intro B s O H Q I h;refine Mi (jo I N C ?_ v);exact PySem.W.callWith_K0 I.kIn G (vZ (us:=[]) F hr M hd L I .nil h)
theorem pO(he:PE X o ta)(c:Cls X.K C)(j:Meth X.K C m f)(F:FnOk X.prog X.w X.K X.mg X.base CX k f fd ps sp)(hr:Room k X.A)(M:dA X.K fd ps ds)(hd:Vals dvs ds)(L:lx CX X E)(D:PA X (e::es) t)
  (y:LR (e::es) X.env=(false,eval e X.env)::LR es X.env:=by rfl) (v:(backTo pos (LR es X.env)).any (·.1)=false:=by rfl)
  (ht:eval (.Call (.Attribute o m apos) (e::es) [] pos) X.env=(do
   let ov ← eval o X.env
   standAt apos.atName
   let (f,first) ← holding [ov] (getMethod ov m pl)
   callWith pos f first (backTo pos (LR (e::es) X.env)) (backToKw pos (keywordEach [] X.env))):=by rfl) :
  PE X (.Call (.Attribute o m apos) (e::es) [] pos) (tMeth C m sp dvs E ta t):=by
 intro B s O H Q I h;refine PySem.W.methodCall_KW (pl:=pl) (thn (he B s O H _ I h) λu g ⟨x,J,i,d,a,n,fs,p,G,l,q⟩=>?_) ht;subst p;obtain rfl:u=Value.ref a:=d;refine oE i G c j l ?_;refine Jx (first:=[.ref a]) (h₀:=X.base) I.ok.mod.kin j.kp (thn (D pos B g O J _ i q) λus b ⟨vs,N,z,r,Y⟩=>⟨z.kIn,?_⟩) y v;exact vZ (us:=.ref a::us) (vs:=.ref a::vs) F hr M hd L z (.cons rfl r) Y
theorem fP(he:PE X o ta)(c:Cls X.K C)(j:Meth X.K C m f)(F:FnOk X.prog X.w X.K X.mg X.base CX k f fd ps sp)(hr:Room k X.A)(M:dA X.K fd ps ds)(hd:Vals dvs ds)(L:lx CX X E)
  (ht:eval (.Call (.Attribute o m apos) [] [] pos) X.env=(do
   let ov ← eval o X.env
   standAt apos.atName
   let (f,first) ← holding [ov] (getMethod ov m pl)
   callWith pos f first (backTo pos (LR [] X.env)) (backToKw pos (keywordEach [] X.env))):=by rfl) :
  PE X (.Call (.Attribute o m apos) [] [] pos) (tMeth C m sp dvs E ta tNil):=by
 intro B s O H Q I h;refine PySem.W.methodCall_KW (pl:=pl) (thn (he B s O H _ I h) λu g ⟨x,J,i,d,a,n,fs,p,G,l,q⟩=>?_) ht;subst p;obtain rfl:u=Value.ref a:=d;refine oE i G c j l ?_;exact PySem.W.callWith_K0 (first:=[.ref a]) i.kIn j.kp (vZ (us:=[.ref a]) (vs:=[.ref a]) F hr M hd L i (.cons rfl .nil) q)
structure Mk(K:Gw)(C f:Addr):Prop where
 makes:JT K C=true
 init:GY K (.ref C) "__init__" = some (some (.ref f))
 fn:Jj K (.ref f)=true
 kp:Hw K (.ref C)=true
theorem B9{O:St}{H:Hp}{Q:VK}{vs:List V}(M:Mk X.K C f)(F:FnOk X.prog X.w X.K X.mg X.base CX k f fd ps sp)(hr:Room (k+1) X.A)(g:dA X.K fd ps ds)(hd:Vals dvs ds)
  (D:lx CX X E) (I:Inv X L O H s) (r:Vals vs us)
  (h:∀ x n,H x=none->H n=none->n≠x->sp (.ref x::(vs++dvs)) (upd (upd H n (.own x)) x (.ins C n [])) (λv H2=>v=.non/\Q (.ref x) H2) E) :
  wpAny (model X.prog X.w) X.A (call (.ref C) us) (EP X L O Q) X.xe s:=by
 have m:=h (s.heap.objs.size+1) s.heap.objs.size (I.hok.fresh (IG _)) (I.hok.fresh (Gy _)) (G0 (HB _));have p:=Inv.made (C:=C) I;have o:Vals (V.ref (s.heap.objs.size+1)::(vs++dvs)) (Value.ref (s.heap.objs.size+1)::(us++ds)):=.cons rfl (r.append hd);have j:(Value.ref (s.heap.objs.size+1)::us++ds).length=ps.length:=by
  have e:=o.length;rw[F.len _ _ _ _ m]at e;exact e.symm
 refine wpAny_call (CP (f:=f) I.kIn M.makes M.init (beq_iff_eq.mp M.fn) (Mh (F.run _ X.stack _ _ ⟨Value.ref (s.heap.objs.size+1)::us,[]⟩ (Value.ref (s.heap.objs.size+1)::(us++ds)) _ _ E (hr.make C us [])
  (p.env0.make C us []) (g _ (Value.ref (s.heap.objs.size+1)::us) p.kIn j) o m) λr c b=>?_))
 cases r with
 |error e=>exact D L O _ _ e c p b
 |ok l =>
  cases l with
  |ret u =>
   obtain⟨v,a,d,rv,i,J⟩:=p.after b;subst i;exact⟨rv,⟨V.ref (s.heap.objs.size+1),a,d,rfl,J⟩⟩
  |next=>exact False.elim b
  |brk=>exact False.elim b
  |cont=>exact False.elim b
theorem kN(M:Mk X.K C f)(F:FnOk X.prog X.w X.K X.mg X.base CX k f fd ps sp)(hr:Room (k+1) X.A)(N:Gl X x)(j:X.mg x=some (.ref C))(g:dA X.K fd ps ds)(hd:Vals dvs ds)(L:lx CX X E)
  (D:PA X (e::es) t) (v:(x == ("__debug__" : Str))=false:=by decide) (he:LR (e::es) X.env=(false,eval e X.env)::LR es X.env:=by rfl) (m:(backTo pos (LR es X.env)).any (·.1)=false:=by rfl) :
  PE X (.Call (.Name x p) (e::es) [] pos) (tMake C sp dvs E t):=by
 intro B s O H Q I h;refine Mi (jo I N j ?_ v);refine Jx (h₀:=X.base) I.ok.mod.kin M.kp (thn (D pos B s O H _ I h) λJ o ⟨Y,l,i,r,q⟩=>⟨i.kIn,?_⟩) he m;exact B9 M F hr g hd L i r q
end
section
variable{X:Cx}{CX:CXT}{k:Nat}{f C:Addr}{fd:FuncData}{ps ks:List Str}{sp:Sp}{E:XK}{x m:Str}{p pos apos kpos:Pos}{e o:Expr}{es:List Expr}{kws:List Keyword}{te ta:TE}{t tk:TA}{nm:Option Str}
variable{g:List Value->List Value->List Value}{gV:List V->List V->List V}
end
structure aw(N P:List Str)(sc:Scope):Prop where
 kind:sc.kind=.function
 co:sc.isCoroutine=false
 gen:sc.isGenerator=false
 nd:N.Nodup
 pre:N.take P.length=P
 par:∀ x∈P,sc.names.lookup x=some .local∨sc.names.lookup x=some .cell
 nofree:∀ y∈sc.names,y.2≠.free
theorem sU{Mj:Str->Option NameKind}{x:Str}:∀{binds:List (Str×Value)}{m:Str->Option Value},(∀ v,(x,v)∉binds)->bindL Mj binds m x=m x
 |[],_,_=>rfl
 | (n,v)::r,m,h=>by
  unfold bindL;rw[sU λw c=>h w (GD _ c)];split
  .have:x≠n:=by rintro rfl;exact h v GN
   simp[this]
  .rfl
theorem sW{Mj:Str->Option NameKind}{x:Str}:∀{binds:List (Str×Value)}{m:Str->Option Value},(∀ v,(x,v)∉binds)->bindC Mj binds m x=m x
 |[],_,_=>rfl
 | (n,v)::r,m,h=>by
  unfold bindC;rw[sW λw c=>h w (GD _ c)];split
  .rfl
  .have:x≠n:=by rintro rfl;exact h v GN
   simp[this]
theorem sV{Mj:Str->Option NameKind}{x:Str}{v:Value}:∀{P:List Str}{vs:List Value}{i:Nat}{m:Str->Option Value},P.Nodup->P[i]?=some x->vs[i]?=some v->Mj x=some .local ->
  bindL Mj (P.zip vs) m x=some v
 |[],_,_,_,_,h,_,_=>by simp at h
 |_::_,[],_,_,_,_,h,_=>by simp at h
 |p::P,w::vs,0,m,H,J,Y,G=>by
  simp at J Y;subst J;subst Y;show bindL Mj ((p,w)::P.zip vs) m p=_;unfold bindL;rw[sU λv k=>(Hj.mp H).1 (Ku k).1,Nf G];simp
 |p::P,w::vs,i+1,m,H,J,Y,G=>by
  show bindL Mj ((p,w)::P.zip vs) m x=_;unfold bindL;exact sV (i:=i) (Hj.mp H).2 (by simpa using J) (by simpa using Y) G
theorem sY{Mj:Str->Option NameKind}{x:Str}{v:Value}:∀{P:List Str}{vs:List Value}{i:Nat}{m:Str->Option Value},P.Nodup->P[i]?=some x->vs[i]?=some v->Mj x≠some .local ->
  bindC Mj (P.zip vs) m x=some v
 |[],_,_,_,_,h,_,_=>by simp at h
 |_::_,[],_,_,_,_,h,_=>by simp at h
 |p::P,w::vs,0,m,H,J,Y,G=>by
  simp at J Y;subst J;subst Y;show bindC Mj ((p,w)::P.zip vs) m p=_;unfold bindC;rw[sW λv k=>(Hj.mp H).1 (Ku k).1,Ng G];simp
 |p::P,w::vs,i+1,m,H,J,Y,G=>by
  show bindC Mj ((p,w)::P.zip vs) m x=_;unfold bindC;exact sY (i:=i) (Hj.mp H).2 (by simpa using J) (by simpa using Y) G
def nV(N:List Str)(vs:List V):St:=vs.map some++GH (N.length-vs.length) none
def cxOf(CX:CXT)(P:Program)(w:World)(K:Gw)(mg:Str->Option Value)(base:Heap)(N:List Str)(g:Str)(scope:Scope)(f:Addr)(I:Value)(A:Around)(outer:List Env)(s:Shared)(H:Hp)(E:XK):Cx where
 prog:=P
 w:=w
 K:=K
 mg:=mg
 base:=base
 A:=A.deeper (envOfC g scope s.heap.objs.size f I)
 N:=N
 s₀:=s
 H₀:=H
 env:=envOfC g scope s.heap.objs.size f I
 outer:=outer
 stack:=envOfC g scope s.heap.objs.size f I::outer
 ex:=[]
 calm:=true
 fn:=λ_=>true
 pn:=[]
 xe:=λe L=>wpAny (model P w) (A.deeper (envOfC g scope s.heap.objs.size f I)) (leaving (envOfC g scope s.heap.objs.size f I) e) (λ_ a=>CX outer H s E e a) (λQ a=>CX outer H s E Q a) L
theorem wW{a:Scope}(h:a.names.lookup x=some .cell):∃ c,(cellsFrom n a.names []).lookup x=some c:=by
 have q:=PySem.W.cellsFrom_some a.names n [] (.inl h);exact Kd.mp q
theorem AB{CX:CXT}{N ps:List Str}{g:Str}{I:Value}{s1:Shared}{H:Hp}{E:XK}{vs:List V}
  (S:aw N ps scope) (hd:A.handled=none) (O:Env0 P w K mg base A outer s H) (hl:vs.length=ps.length) (r:Vals vs us)
  (x:InCallC s s.heap.objs.size (bindL (envOfC g scope s.heap.objs.size f I).kindOf (ps.zip us) λ_=>none) (cellsFrom (s.heap.objs.size+1) scope.names []) (bindC (envOfC g scope s.heap.objs.size f I).kindOf (ps.zip us) λ_=>none) s1) :
  Inv (cxOf CX P w K mg base N g scope f I A outer s H E) [] (nV N vs) H s1:=by
 have m:ps.length<=N.length:=by have:=congrArg List.length S.pre;rw[Hs]at this;omega
 obtain⟨J,l,rfl,G⟩:=x.done;have o:∀ b:Addr,b∉(cxOf CX P w K mg base N g scope f I A outer s H E).ex:=λb z=>Nh (show b∈([]:List Addr) from z) (by simp)
 refine⟨⟨O.mod,S.kind,rfl,rfl,Gy _,λy z c J Y=>?_,λy Q=>?_,λy c _ h=>?_,λ_=>hd,Around.frames_deeper O.frames,.inr ⟨rfl,rfl⟩,λb z=>Nh z (o b),O.bs,O.bsz,λb _ _=>o b,λb z=>Nh z (o b),O.funs,O.frf⟩,
  rfl,O.bare,Un.kept G,⟨_,x.toInCall.ns,λi y v J Y d=>?_⟩,λy c h=>⟨_,x.cell y c h⟩,O.hok.fresh (Gy _),λy c h=>?_,λp j=>Nh (show p∈([]:List (Addr×Obj)) from j) (by simp),O.hok.kept G,?_⟩
 .exact name_of_addr x.apart (IJ J) (IJ Y)
 .have Q:scope.names.lookup y=some .cell∨scope.names.lookup y=some .free:=Q
  rcases Q with Q | Q
  .exact wW Q
  .exact Nh rfl (S.nofree _ (IJ Q))
 .exact G6 (x.above y c (IJ h))
 .have T:i<vs.length:=by
   unfold nV at Y;by_cases T:i<vs.length
   .exact T
   .rw[Gz (by simpa using T)]at Y
    rw[Ia]at Y;split at Y<;>cases Y
  have D:vs[i]?=some v:=by
   unfold nV at Y;rw[GB (by simpa using T),GC]at Y
   cases e:vs[i]? with
   |none=>rw[e]at Y;cases Y
   |some a=>rw[e]at Y;cases Y;rfl
  obtain⟨u,M,rv⟩:=r.get D;have j:ps[i]?=some y:=by
   rw[← S.pre,List.getElem?_take_of_lt ∅];exact J
  have t:ps.Nodup:=by rw[← S.pre];exact S.nd.sublist (List.take_sublist _ _)
  refine⟨u,rv,?_⟩;rcases S.par y (Gv j)with k | k
  .exact .inl ⟨k,sV t j M k⟩
  .obtain⟨c,e⟩:=wW (n:=s.heap.objs.size+1) k;refine .inr ⟨.inl k,c,e,?_⟩;have q:=x.cell y c e;rw[sY t j M (by show scope.names.lookup y≠_;rw[k];decide)]at q
   exact q
 .exact O.hok.fresh (G6 (x.above y c (IJ h)))
 .unfold nV;show _=N.length;rw[Gx,Gu,Im];omega
theorem FW{CX:CXT}{k:Nat}{name g:Str}{al:Arguments}{T:List Stmt}{dV kV j i d ct oc:Value}{an Y:Option Addr}
  {ac:Array (Option Value)} {N ps:List Str} {sp:Sp} (lk:K.lookup f=some ⟨oc,Y,.func (Ie name g al T scope dV kV j i an d ct),ac⟩) (p:Iy K d g=true) (S:aw N ps scope)
  (len:∀ vs H Q E,sp vs H Q E->vs.length=ps.length)
  (aa:∀(A:Around)(outer:List Env)(s:Shared)(H:Hp)(vs:List V)(Q:VK)(E:XK),Room k (A.deeper (envOfC g scope s.heap.objs.size f d))->sp vs H Q E ->
   ∃ t,PSs (cxOf CX P w K mg base N g scope f d A outer s H E) T t/\t { nx:=λ_ H'=>Q .non H',rt:=Q } (nV N vs) H) :
  FnOk P w K mg base CX (k+1) f (Ie name g al T scope dV kV j i an d ct) ps sp:=by
 refine⟨len,λA outer s H aI z vs Q E B O M r ab=>?_⟩;have C:=len _ _ _ _ ab;have KX:K.In s.heap:=O.mod.kin.keeps λb o e=>(O.bs b o e).1;have ap:s.heap.NoLimit:=O.mod.nolimit.keeps λb o e=>(O.bs b o e).1;have aL:∀ y∈ps.zip z,scope.names.lookup y.1=some .local∨(scope.names.lookup y.1=some .cell/\((cellsFrom (s.heap.objs.size+1) scope.names []).lookup y.1).isSome=true):=λ⟨n,v⟩ a=>by
  rcases S.par n (Ku a).1 with q | q
  .exact .inl q
  .exact .inr ⟨q,PySem.W.cellsFrom_some _ _ _ (.inl q)⟩
 refine codeAny_call_function B.depth (KX _ _ lk) rfl S.co S.gen rfl (PySem.W.codeRec_of KX p) (M _ _ _ _ ?_);refine wpAny_newFunctionEnv_cells S.kind aL λam c s1 x=>?_;subst c;refine⟨ap.keeps x.toInCall.keep,codeAny_func ?_⟩;obtain⟨t,l,m⟩:=aa A outer s H vs Q E (B.deeper _) ab;have I:Inv (cxOf CX P w K mg base N g scope f d A outer s H E) [] (nV N vs) H s1:=AB S B.hd O C r x;refine LS (l [] s1 (nV N vs) H _ I m) (λfl L G=>?_) λe L G=>G;have D:∀{h:St}{H':Hp}{v:V}{u:Value},Inv (cxOf CX P w K mg base N g scope f d A outer s H E) [] h H' L->RelV v u->Q v H'->CE outer P w H s Q u L :=
  λ{h H' v u} J rv q=>⟨v,H',J.os,J.bare,J.base,J.hok,rv,q⟩
 cases fl with
 |ret u =>
  obtain⟨v,h,H',J,rv,q⟩:=G;exact D J rv q
 |next =>
  obtain⟨h,H',J,q⟩:=G;exact D (v:=V.non) (u:=Value.none) J rfl q
 |brk =>
  obtain⟨_,_,_,q⟩:=G;exact False.elim q
 |cont =>
  obtain⟨_,_,_,q⟩:=G;exact False.elim q
section
variable{X:Cx}{x:Str}{p pos:Pos}{e:Expr}{es:List Expr}{t:TA}{id T:String}{r:List V->Hp->VK->Prop}
def tCB(r:List V->Hp->VK->Prop)(t:TA):TE:=λO H Q=>t O H λY l=>r Y l Q
theorem aD(Y:gy X (.builtin id) r)(N:Gl X x)(C:X.mg x=none)(k:LO x=some (.builtin id))(E:PA X (e::es) t) (T:x≠"__name__":=by decide) (v:(x == ("__debug__" : Str))=false:=by decide)
  (he:LR (e::es) X.env=(false,eval e X.env)::LR es X.env:=by rfl) (m:(backTo pos (LR es X.env)).any (·.1)=false:=by rfl):PE X (.Call (.Name x p) (e::es) [] pos) (tCB r t):=by
 intro B s O H Q I h;refine Mi (gX I N C k ?_ T v);exact PyProof.Rows.callWith_builtin1 (thn (E pos B s O H _ I h) λJ g ⟨M,l,i,j,L⟩=>Y B g O l M J Q i j L) he m
theorem b7(Y:gy X (.type T) r)(N:Gl X x)(C:X.mg x=none)(k:LO x=some (.type T))(E:PA X (e::es) t) (y:x≠"__name__":=by decide) (v:(x == ("__debug__" : Str))=false:=by decide)
  (he:LR (e::es) X.env=(false,eval e X.env)::LR es X.env:=by rfl) (m:(backTo pos (LR es X.env)).any (·.1)=false:=by rfl):PE X (.Call (.Name x p) (e::es) [] pos) (tCB r t):=by
 intro B s O H Q I h;refine Mi (gX I N C k ?_ y v);exact L7 (thn (E pos B s O H _ I h) λJ g ⟨M,l,i,j,L⟩=>Y B g O l M J Q i j L) he m
end
end L2
variable{X:L2.Cx}{H H' H1 H2:L2.Hp}{sp:L2.Sp}{J:L2.St}{v y z:L2.V}{kvs:List (L2.Key×L2.V)}{xs ys zs:List L2.V}{QQ:List L2.V->L2.Hp->Prop}
namespace HT
open PySem PyProof.Rows
section
open PySem.SeqAt
open PySem.AutoSeq1 (wpAny_loadPart')
open PySem.MeetsSeq PySem.MeetsSeq2 PySem.MeetsSeq3
end
section
variable{prog:Program}{w:World}{A:Around}{E:Value->Shared->Prop}{s:Shared}
def sIx(n d:Nat):Option Int->Nat
 |none=>d
 |some v=>if v<0 then(v+(n:Int)).toNat else min v.toNat n
theorem sIx_none(n d:Nat):sIx n d none=d:=rfl
theorem sIx_nat(n d k:Nat):sIx n d (some (k:Int))=min k n:=by
 show(if(k:Int)<0 then((k:Int)+(n:Int)).toNat else min (k:Int).toNat n)=min k n;rw[Ng ∅,GA]
end
end HT
namespace L2
open PySem PySem.Spec PyProof.Rows
abbrev TO:=St->Hp->(Option Int->Hp->Prop)->Prop
def PO(X:Cx)(e:Option Expr)(t:TO):Prop :=
 ∀(B:List (Addr×Obj))(s:Shared)(O:St)(H:Hp)(Q:Option Int->Hp->Prop),Inv X B O H s->t O H Q ->
  wpAny (model X.prog X.w) X.A (evalPart e X.env) (λu L=>∃ o j,Inv X B O j L/\IsPart u o/\Q o j) X.xe s
def ER:TO:=λ_ H Q=>Q none H
def tPart(t:TE):TO:=λO H Q=>t O H λx l=>∃ i,x=.int i/\Q (some i) l
section
variable{X:Cx}{e:Expr}{te:TE}{lo hi:Option Expr}{tl th:TO}{pos p2:Pos}
theorem pI:PO X none ER:=by
 intro B s O H Q I h;rw[evalPart_none];exact L4 ⟨none,H,I,.none,h⟩
theorem pH(h:PE X e te):PO X (some e) (tPart te):=by
 intro B s O H Q I c;rw[evalPart_some];refine thn (h B s O H _ I c) λu g z=>?_;obtain⟨x,l,f,j,L⟩:=z;obtain⟨i,rfl,q⟩:=L;obtain⟨t,rfl⟩:=j;exact⟨some i,l,f,.int i t,q⟩
def SlR(X:Cx)(r:V->Option Int->Option Int->Hp->VK->Prop):Prop :=
 ∀(B:List (Addr×Obj))(s:Shared)(O:St)(H:Hp)(x:V)(v D C:Value)(lo hi:Option Int)(p:Addr)(Q:VK),Inv X B O H s->RelV x v->s.heap.IsSliceOf p D C .none->IsPart D lo->IsPart C hi->r x lo hi H Q ->
  ∃ T id,typeLookup (.type T) "__getitem__" = pure (some (.builtin id))/\s.TypeIs v T/\wpAny (model X.prog X.w) X.A (getItem v (.ref p)) (EP X B O Q) X.xe s
def tSl(r:V->Option Int->Option Int->Hp->VK->Prop)(te:TE)(tl th:TO):TE:=λO H Q=>te O H λx J=>tl O J λl N=>th O N λu q=>r x l u q Q
theorem ma{r:V->Option Int->Option Int->Hp->VK->Prop}(hr:SlR X r)(he:PE X e te)(hl:PO X lo tl)(M:PO X hi th):PE X (.Subscript e (.Slice lo hi none p2) pos) (tSl r te tl th):=by
 intro B s O H Q I h;refine Subscript_ (thn (he B s O H _ I h) λv g ⟨x,J,i,f,L⟩=>?_);refine wpAny_Slice (thn (hl B g O J _ i L) λD G ⟨l,N,p,y,Y⟩=>thn (M B G O N _ p Y) λC m ⟨u,c,d,o,t⟩=>?_);rw[evalPart_none];refine L4 ?_;have z:Inv X B O c { m with heap:=m.heap.push { cls:=.type "slice",data:=.fields #[D,C,.none] } }:=d.kept (t':=m.toks) λb k q=>L5 _ q;obtain⟨T,id,a,n,j⟩:=hr B { m with heap:=m.heap.push { cls:=.type "slice",data:=.fields #[D,C,.none] } } O c x v D C l u m.heap.objs.size Q z f (Heap.IsSliceOf.new ..) y o t;show wpAny (model X.prog X.w) X.A (subscriptTail e (.Slice lo hi none p2) v (.ref m.heap.objs.size)) (EP X B O Q) X.xe { m with heap:=m.heap.push { cls:=.type "slice",data:=.fields #[D,C,.none] } };exact tail_any (ops:=[.ref m.heap.objs.size,v]) n a j (by with_unfolding_all rfl)
def cutV(xs:List V)(lo hi:Option Int):List V:=(xs.drop (HT.sIx xs.length 0 lo)).take (HT.sIx xs.length xs.length hi-HT.sIx xs.length 0 lo)
theorem vA(xs:List V)(lo hi:Option Int):(cutV xs lo hi).length<=xs.length:=by
 unfold cutV;rw[Hs,Iv];omega
end
def ixN(n:Nat)(i:Int):Option Nat:=if 0<=i then(if i<n then some i.toNat else none) else if -(n:Int)<=i then some (i+n).toNat else none
def atI{α:Type}(xs:List α)(i:Int):Option α:=(ixN xs.length i).bind λj=>xs[j]?
theorem uM{i:Int}(h:ixN n i=some j):seqIndex? i n=some j/\j<n/\-(n:Int)<=i/\i<n:=by
 unfold ixN at h;by_cases w:0<=i
 .rw[Nf w]at h;by_cases J:i<n
  .rw[Nf J]at h;have e:i.toNat=j:=G3 h;exact⟨by rw[seqIndex_of w J,e],∅,∅,J⟩
  .rw[Ng J]at h;cases h
 .rw[Ng w]at h;by_cases J : -(n:Int)<=i
  .rw[Nf J]at h;have e:(i+n).toNat=j:=G3 h;exact⟨by rw[seqIndex_neg ∅ J,e],∅,J,∅⟩
  .rw[Ng J]at h;cases h
theorem BJ{xs:List α}{i:Int}{v:α}(h:atI xs i=some v):∃ j,seqIndex? i xs.length=some j/\xs[j]?=some v/\j<xs.length/\-(xs.length:Int)<=i/\i<xs.length:=by
 unfold atI at h
 cases e:ixN xs.length i with
 |none=>rw[e]at h;cases h
 |some j =>
  rw[e]at h;obtain⟨J,Y,g,o⟩:=uM e;exact⟨j,J,h,Y,g,o⟩
theorem aG{xs:List α}{v:α}(h:xs[j]?=some v):atI xs (j:Int)=some v:=by
 have B:j<xs.length:=(Gn.mp h).1;have e:ixN xs.length (j:Int)=some j:=by
  unfold ixN;rw[Nf ∅,Nf ∅];simp
 unfold atI;rw[e];exact h
theorem DH(xs:List α)(v:α):atI (xs++[v]) (-1)=some v:=by
 have C:(xs++[v]).length=xs.length+1:=by simp
 have e:ixN (xs++[v]).length (-1)=some xs.length:=by
  unfold ixN;rw[C,Ng (by decide),Nf ∅]
  congr 1;omega
 unfold atI;rw[e];show(xs++[v])[xs.length]?=some v;simp
def nO(b:Expr):Prop:=∀ o i,subscripted b false o i=operate [o,i] (getItem o i)
def IxR(X:Cx)(r:R2):Prop :=
 ∀(b M:Expr)(B:List (Addr×Obj))(s:Shared)(O:St)(H:Hp)(x y:V)(v u:Value)(Q:VK),Inv X B O H s->RelV x v->RelV y u->r x y H Q ->
  subscripted M false v u=operate [v,u] (getItem v u)->wpAny (model X.prog X.w) X.A (subscriptTail b M v u) (EP X B O Q) X.xe s
def MtR(X:Cx)(id:String)(r:V->List V->Hp->VK->Prop):Prop :=
 ∀(B:List (Addr×Obj))(s:Shared)(O:St)(H:Hp)(x:V)(N:List V)(v:Value)(J:List Value)(Q:VK),Inv X B O H s->RelV x v->Vals N J->r x N H Q ->
  wpAny (model X.prog X.w) X.A (call (.builtin id) (v::J)) (EP X B O Q) X.xe s
section
variable{X:Cx}{a b:Expr}{ta tb:TE}{pos:Pos}
theorem xo{r:R2}(hr:IxR X r)(E:PE X a ta)(M:PE X b tb)(G:nO b):PE X (.Subscript a b pos) (tOp r ta tb):=by
 intro B s O H Q I h;exact Subscript_ (binT E M I h λv u l x y N w d D q=>hr a b B l O N x y v u Q w d D q (G _ _))
inductive rIxL(K:Gw)(x:L2.V)(y:L2.V)(H:L2.Hp)(Q:L2.VK):Prop
 |mk (p xs i v:_) (h0_:x=.ref p)(h1_:y=.int i)(h2_:SqL K H p xs)(h3_:atI xs i=some v)(h4_:Q v H)
inductive rIxT(K:Gw)(x:L2.V)(y:L2.V)(H:L2.Hp)(Q:L2.VK):Prop
 |mk (p xs i v:_) (h0_:x=.ref p)(h1_:y=.int i)(h2_:SqT K H p xs)(h3_:atI xs i=some v)(h4_:Q v H)
theorem qg:IxR X (rIxL X.K):=by
 intro A M B s O H x y v u Q I d D h G;obtain⟨p,N,i,z,rfl,rfl,n,c,q⟩:=h
 cases d
 obtain⟨t,rfl⟩:=D;obtain⟨E,r,e,a⟩:=I.list n;obtain⟨j,J,Y,g,o,k⟩:=BJ c;obtain⟨w,ew,l⟩:=r.get Y;have C:=r.length;have T:=oA;have f:EP X B O Q w s:=⟨z,H,I,l,q⟩;by_cases m:0<=i
 .have b:i.toNat=j:=by
   rw[seqIndex_of m k]at J;exact G3 J
  exact item_listR e.isList m ∅ (by rw[b];simpa using ew) f G
 .have b:(i+(E.toArray.size:Int)).toNat=j:=by
   rw[seqIndex_neg ∅ o]at J
   rw[GQ,← C];exact G3 J
  exact subscriptTail_builtinR (x:=w) e.isList.typeIs slot_list_getitem.lookup
   (wpAny_getItem_list_neg (Q:=λr L=>r=w/\EP X B O Q r L) e.isList ∅ (by rw[GQ]<;>omega) ∅ (by rw[b];simpa using ew) ⟨rfl,f⟩) G
theorem Ej:IxR X (rIxT X.K):=by
 intro b M B s O H x y v u Q I d D h G;obtain⟨p,N,i,z,rfl,rfl,n,c,q⟩:=h
 cases d
 obtain⟨t,rfl⟩:=D;obtain⟨E,r,m,a⟩:=I.tuple n;obtain⟨j,J,Y,g,o,k⟩:=BJ c;obtain⟨w,e,l⟩:=r.get Y;have C:=r.length;have T:=oA;have f:EP X B O Q w s:=⟨z,H,I,l,q⟩;exact subscriptTail_builtinR (x:=w) m.typeIs slot_tuple_getitem.lookup
  (getItem_tuple (j:=j) (Q:=λr L=>r=w/\EP X B O Q r L) m ∅ ∅ (by rw[GQ,← C];exact J) (by simpa using e) ⟨rfl,f⟩) G
theorem xu(its:List Value)(n j:Nat)(u:Value):Ml (·.setIfInBounds j u) { cls:=.type "list",data:=.seq its.toArray n }={ cls:=.type "list",data:=.seq (its.set j u).toArray n }:=by
 simp[Ml]
theorem Inv.lst{B:List (Addr×Obj)}{O:St}{H:Hp}{s:Shared}{p:Addr}{xs:List V}(I:Inv X B O H s)(h:H p=some (.lst xs)) :
  ∃(its:List Value)(n:Nat),Vals xs its/\s.heap.get? p=some { cls:=.type "list",data:=.seq its.toArray n }/\xs.length<=LK:=by
 obtain⟨z,its,n,r,e⟩:=I.hok p _ h;exact⟨its,n,r,e,z⟩
theorem Inv.lstUpd{its':List Value}{f:Obj->Obj}(I:Inv X L J H s)(h:H p=some (.lst xs))
  (A:s.heap.get? p=some { cls:=.type "list",data:=.seq its.toArray n }) (D:f { cls:=.type "list",data:=.seq its.toArray n }={ cls:=.type "list",data:=.seq its'.toArray N }) (r:Vals ys its') (hz:ys.length<=LK) (t:Nat) :
  Inv X L J (upd H p (.lst ys)) { s with heap:=s.heap.update p f,toks:=t }:=by
 have e:(s.heap.update p f).get? p=some { cls:=.type "list",data:=.seq its'.toArray N }:=by
  rw[Mm f A (by rw[D]<;>rfl),D]
 refine I.write (x:=p) (e:=p) (by rw[h];trivial) (.inl rfl) (λb u M q=>(Mn _ _ (Ne.symm M)).trans q) ⟨_,e⟩ ?_
 exact⟨hz,its',N,r,e⟩
inductive rSetL(o:L2.V)(i:L2.V)(v:L2.V)(H:L2.Hp)(Q:(Hp->Prop)):Prop
 |mk (p xs k j:_) (h0_:o=.ref p)(h1_:i=.int k)(h2_:H p=some (.lst xs))(h3_:ixN xs.length k=some j)(h4_:Q (upd H p (.lst (xs.set j v))))
theorem pd:PSet X rSetL:=by
 intro B s O H o i v y e u Q I d f rv h;obtain⟨p,N,k,j,rfl,rfl,M,b,q⟩:=h
 cases d
 obtain⟨t,rfl⟩:=f;obtain⟨E,n,r,A,a⟩:=I.lst M;obtain⟨J,Y,g,x⟩:=uM b;have C:=r.length;have T:=oA;have c:Inv X B O (upd H p (.lst (N.set j v))) { s with heap:=s.heap.update p (Ml (·.setIfInBounds j u)) } :=
  I.lstUpd M A (xu E n j u) (r.set rv j) (by rw[Hx];exact a) s.toks
 by_cases w:0<=k
 .have G:k.toNat=j:=by
   rw[seqIndex_of w x]at J;exact G3 J
  exact PySem.W.ki_setAt A w ∅ (by rw[GQ,← C];exact x) (by rw[G];exact⟨_,c,q⟩)
 .have G:(k+(E.toArray.size:Int)).toNat=j:=by
   rw[seqIndex_neg ∅ g]at J
   rw[GQ,← C];exact G3 J
  exact PySem.W.ki_setBack A ∅ (by rw[GQ,← C];exact g) ∅ (by rw[G];exact⟨_,c,q⟩)
theorem rq(lo hi:Option Int)(n:Nat):(sliceBounds lo hi none n).1=((HT.sIx n 0 lo:Nat):Int)/\(sliceBounds lo hi none n).2.1=((HT.sIx n n hi:Nat):Int)/\(sliceBounds lo hi none n).2.2=1:=by
 refine⟨?_,?_,rfl⟩
 .cases lo with
  |none=>simp[sliceBounds,HT.sIx]
  |some i =>
   simp only[sliceBounds,HT.sIx,Option.getD_none,show(1:Int) > 0 by decide,if_true]
   by_cases h:i<0
   .simp only[h,if_true]<;>omega
   .simp only[h,if_false]<;>omega
 .cases hi with
  |none=>simp[sliceBounds,HT.sIx]
  |some i =>
   simp only[sliceBounds,HT.sIx,Option.getD_none,show(1:Int) > 0 by decide,if_true]
   by_cases h:i<0
   .simp only[h,if_true]<;>omega
   .simp only[h,if_false]<;>omega
theorem oX(its:List Value)(lo hi:Option Int):slicePick its.toArray lo hi none=((its.drop (HT.sIx its.length 0 lo)).take (HT.sIx its.length its.length hi-HT.sIx its.length 0 lo)).toArray:=by
 obtain⟨J,Y,g⟩:=rq lo hi its.toArray.size;unfold slicePick;rw[J,Y,g];simp only[sliceRange_one,pick_run,GQ]<;>rfl
inductive rSlL(K:Gw)(x:L2.V)(lo:Option Int)(hi:Option Int)(H:L2.Hp)(Q:L2.VK):Prop
 |mk (a xs:_) (h0_:x=.ref a)(h1_:SqL K H a xs)(h2_:∀ p,H p=none->Q (.ref p) (upd H p (.lst (cutV xs lo hi))))
theorem oY:SlR X (rSlL X.K):=by
 intro B s O H x v f C lo T p Q I d G y c h;obtain⟨a,N,rfl,L,q⟩:=h
 cases d
 obtain⟨E,r,n,g⟩:=I.list L;have D:=r.length;refine⟨"list",_,slot_list_getitem.lookup,n.isList.typeIs,?_⟩;refine wpAny_getItem_list_slice n.isList G y c .none (by simp) ?_ (by rw[GQ]<;>omega)
 rw[oX,← D];refine⟨.ref s.heap.objs.size,_,I.laid (t':=s.toks) (o:=.lst (cutV N lo T)) (λb k q=>L5 _ q) (Gy _) ?_,rfl,q _ (I.hok.fresh (Gy _))⟩;exact⟨Hy (vA N lo T) g,_,0,(r.drop (HT.sIx N.length 0 lo)).take (HT.sIx N.length N.length T-HT.sIx N.length 0 lo),L6 _ rfl⟩
theorem aA:gy X (.builtin "len") (λxs H Q=>∃ p ys,xs = [.ref p]/\(SqL X.K H p ys∨SqT X.K H p ys)/\Q (.int ys.length) H):=by
 intro B s O H xs J Q I r h;obtain⟨p,ys,rfl,n,q⟩:=h;obtain⟨u,rfl,d⟩:=i3 r
 cases d
 have T:=oA;rcases n with n | n
 .obtain⟨E,v,y,g⟩:=I.list n;have D:=v.length;exact Calls.call_len_list y.isList (by simp only[GQ]<;>omega) ⟨.int ys.length,H,I.tok _,⟨s.toks+1,by rw[GQ,D]⟩,q⟩
 .obtain⟨E,v,y,g⟩:=I.tuple n;have D:=v.length;exact len_tuple y (by simp only[GQ]<;>omega) ⟨.int ys.length,H,I.tok _,⟨s.toks+1,by rw[GQ,D]⟩,q⟩
theorem ig:gy X (.type "list") (λxs H Q=>∃ p ys,xs = [.ref p]/\(SqL X.K H p ys∨SqT X.K H p ys)/\∀ l,H l=none->Q (.ref l) (upd H l (.lst ys))):=by
 intro B s O H xs J Q I r h;obtain⟨p,ys,rfl,m,q⟩:=h;obtain⟨u,rfl,d⟩:=i3 r
 cases d
 have f:∀(E:List Value),Vals ys E->ys.length<=LK->∀(j:Heap)(L:Nat),(∀ b Y,s.heap.get? b=some Y->j.get? b=some Y) ->
   j.get? s.heap.objs.size=some { cls:=.type "list",dict:=none,data:=.seq E.toArray L,slots:=#[] }->EP X B O Q (.ref s.heap.objs.size) { s with heap:=j }:=λE v g j L a e =>
  ⟨.ref s.heap.objs.size,_,I.laid (t':=s.toks) a (Gy _) (show bp X.prog X.w _ j _ (.lst ys) from⟨g,E,L,v,e⟩),rfl,q _ (I.hok.fresh (Gy _))⟩
 rcases m with m | m
 .obtain⟨E,v,y,g⟩:=I.list m;have D:=v.length;obtain⟨o,A,t,n,hd⟩:=y.isList;exact call_list_seq p (.inl rfl) A t hd (λj L a e=>f E v g j L a e) (by simp only[GQ]<;>omega)
 .obtain⟨E,v,y,g⟩:=I.tuple m;have D:=v.length;obtain⟨o,A,t,n,hd⟩:=y;exact call_list_seq p (.inr rfl) A t hd (λj L a e=>f E v g j L a e) (by simp only[GQ]<;>omega)
def tyV(K:Gw)(T:String)(x:V)(H:Hp):Prop:=match x with
 |.str _=>T = "str"
 |.int _=>T = "int"
 |.ref p=>(T = "list"/\∃ N,SqL K H p N)∨(T = "tuple"/\∃ o,K.lookup p=some o/\o.cls=.type "tuple"/\o.dict=none) ∨
   (T = "dict"/\((∃ m,H p=some (.dK m))∨∃ m,H p=some (.dT m)))∨(T = "set"/\∃ S n,H p=some (.set S n))
 |_=>False
theorem DM{T:String}{x:V}{v:Value}(I:Inv X L J H s)(r:RelV x v)(ty:tyV X.K T x H) :
  s.TypeIs v T/\∀ a,v=.ref a->∃ ob,s.heap.get? a=some ob/\ob.dict=none:=by
 cases x with
 |str z =>
  obtain⟨t,rfl⟩:=r
  cases (show T = "str" from ty)
  exact⟨typeIs_str s z t,λ_ e=>nomatch e⟩
 |int i =>
  obtain⟨t,rfl⟩:=r
  cases (show T = "int" from ty)
  exact⟨typeIs_int s i t,λ_ e=>nomatch e⟩
 |ref p =>
  cases r
  rcases ty with⟨rfl,N,l⟩ | ⟨rfl,o,G,Y,hd⟩ | ⟨rfl,G⟩ | ⟨rfl,S,n,G⟩
  .obtain⟨E,_,y,_⟩:=I.list l;refine⟨y.isList.typeIs,λa e=>?_⟩
   cases e
   obtain⟨o,n,e,c,hd,_⟩:=y;exact⟨o,e,hd⟩
  .refine⟨⟨o,I.kIn p o G,Y⟩,λa e=>?_⟩
   cases e
   exact⟨o,I.kIn _ o G,hd⟩
  .have z:∃ o,s.heap.get? p=some o/\o.ExactDict:=by
    rcases G with⟨m,G⟩ | ⟨m,G⟩
    .obtain⟨_,_,_,_,o,_,_,e,k,_⟩:=I.hok p _ G;exact⟨o,e,k⟩
    .obtain⟨_,_,_,_,o,_,_,e,k,_⟩:=I.hok p _ G;exact⟨o,e,k⟩
   obtain⟨o,e,k⟩:=z;refine⟨⟨o,e,k.1⟩,λa f=>?_⟩
   cases f
   exact⟨o,e,k.2.1⟩
  .obtain⟨o,_,_,_,e,k,_⟩:=I.hok p _ G;refine⟨⟨o,e,k.1⟩,λa f=>?_⟩
   cases f
   exact⟨o,e,k.2.1⟩
 |_=>exact False.elim ty
def tBM0(K:Gw)(T:String)(r:V->List V->Hp->VK->Prop)(c:TE):TE:=λO H Q=>c O H λx l=>tyV K T x l/\r x [] l Q
def tBM(K:Gw)(T:String)(r:V->List V->Hp->VK->Prop)(c:TE)(t:TA):TE:=λO H Q=>c O H λx l=>tyV K T x l/\t O l λJ N=>r x J N Q
variable{o e:Expr}{es:List Expr}{to:TE}{t:TA}{name:Str}{apos cpos:Pos}{T id:String}{r:V->List V->Hp->VK->Prop}
theorem D5(c:PlainAttrs T)(slot:Slot T name id) (m:typeOf (.builtin id)=pure (.type "method_descriptor")) (C:MtR X id r) (A:PE X o to)
  (d:attributeBase o name X.env (eval o X.env)=eval o X.env:=by rfl) (f:(apos.endLine == cpos.line)=true:=by rfl):PE X (.Call (.Attribute o name apos) [] [] cpos) (tBM0 X.K T r to):=by
 intro B s O H Q I h;refine wpAny_Call_method0_late d f (thn (A B s O H _ I h) λv g ⟨x,l,i,j,ty,L⟩=>?_);obtain⟨J,Y⟩:=DM i j ty;exact⟨T,id,c,slot,m,J,Y,Mo rfl (PySem.evalArgs_none (C B g O l x [] v [] Q i j .nil L))⟩
theorem dW(c:PlainAttrs T)(slot:Slot T name id) (m:typeOf (.builtin id)=pure (.type "method_descriptor")) (C:MtR X id r) (A:PE X o to) (E:PA X (e::es) t)
  (d:attributeBase o name X.env (eval o X.env)=eval o X.env:=by rfl)
  (n:((backTo cpos (LR (e::es) X.env)).all (λx=>!x.1)&&(backToKw cpos (keywordEach [] X.env)).all (λx=>x.1.isSome)
   && decide ((e::es).length+([]:List Keyword).length+(if([]:List Keyword).isEmpty then 0 else 1)<30))=true:=by rfl)
  (f:(apos.endLine == cpos.line)=true:=by rfl) (G:LR (e::es) X.env=(false,eval e X.env)::LR es X.env:=by rfl) (k:(backTo cpos (LR es X.env)).any (·.1)=false:=by rfl) :
  PE X (.Call (.Attribute o name apos) (e::es) [] cpos) (tBM X.K T r to t):=by
 intro B s O H Q I h;refine wpAny_Call_method_late d n f rfl (thn (A B s O H _ I h) λv g ⟨x,l,i,j,ty,L⟩=>?_);obtain⟨J,Y⟩:=DM i j ty;refine⟨T,id,c,slot,m,J,Y,?_⟩;have u:=E cpos B g O l _ i L;rw[G]at u ⊢;refine Mo (by show(false||(backTo cpos (LR es X.env)).any (·.1))=false;rw[k]<;>rfl) (Calls.evalArgs_plain ?_)
 exact thn u λz b ⟨M,N,w,D,a⟩=>C B b O N x M v z Q w j D a
end
def MtM(X:Cx)(id:String)(r:V->List V->Hp->VK->Prop):Prop :=
 ∀(B:List (Addr×Obj))(s:Shared)(O:St)(H:Hp)(x:V)(N:List V)(v:Value)(J:List Value)(Q:VK),Inv X B O H s->RelV x v->Vals N J->r x N H Q ->
  wpAny (model X.prog X.w) X.A (call (.builtin id) (v::J)) (EP X B O Q) X.xe s
theorem Vals.one:∀{x:V}{us:List Value},Vals [x] us->∃ u,us = [u]/\RelV x u
 |_,_,.cons r .nil=>⟨_,rfl,r⟩
theorem Vals.unc{x:V}(h:Vals (x::xs) us):∃ u w,us=u::w/\RelV x u/\Vals xs w:=by
 cases h with
 |cons r t=>exact⟨_,_,rfl,r,t⟩
theorem Vals.two{x:V}(h:Vals [x,y] us):∃ u v,us = [u,v]/\RelV x u/\RelV y v:=by
 obtain⟨u,w,rfl,r,c⟩:=Vals.unc h;obtain⟨v,z,rfl,q,d⟩:=Vals.unc c;cases d;exact⟨_,_,rfl,r,q⟩
theorem Vals.zero:∀{us:List Value},Vals [] us->us = []
 |_,.nil=>rfl
theorem Vals.dropLast(h:Vals xs us):Vals xs.dropLast us.dropLast:=by
 induction h with
 |nil=>exact .nil
 |cons r t D =>
  cases t with
  |nil=>exact .nil
  |cons q m=>exact .cons r D
theorem Vals.eraseIdx:∀{xs:List V}{us:List Value}(i:Nat),Vals xs us->Vals (xs.eraseIdx i) (us.eraseIdx i)
 |_,_,_,.nil=>.nil
 |_,_,0,.cons _ t=>t
 |_,_,i+1,.cons r t=>.cons r (Vals.eraseIdx i t)
theorem Vals.reverse(h:Vals xs us):Vals xs.reverse us.reverse:=by
 induction h with
 |nil=>exact .nil
 |cons r t D=>rw[List.reverse_cons,List.reverse_cons];exact Vals.append D (.cons r .nil)
theorem xS(l:List α):l.eraseIdx (l.length-1)=l.dropLast:=by
 induction l with
 |nil=>rfl
 |cons a r D =>
  cases r with
  |nil=>rfl
  |cons b r =>
   have e:(a::b::r).length-1=((b::r).length-1)+1:=by
    have J:(a::b::r).length=r.length+2:=rfl;have Y:(b::r).length=r.length+1:=rfl;omega
   rw[e,List.eraseIdx_cons_succ,D]
   all_goals rfl
theorem rX{α:Type}:∀(l:List α)(i:Nat),(l.eraseIdx i).length<=l.length
 |[],_=>Gy _
 |_::_,0=>IG _
 |_::r,i+1=>Nat.succ_le_succ (rX r i)
section
variable{X:Cx}{pins:List (Addr×Obj)}{σ:St}{H:Hp}{s:Shared}{l b:Addr}{xs ys zs:List V}
theorem Inv.lset{its':List Value}{f:Array Value->Array Value}(I:Inv X pins σ H s)(L:H l=some (.lst xs))
  (e:s.heap.get? l=some { cls:=.type "list",data:=.seq its.toArray n }) (D:f its.toArray=its'.toArray) (p:Vals ys its') (hz:ys.length<=LK) :
  Inv X pins σ (upd H l (.lst ys)) { s with heap:=s.heap.update l (Ml f),toks:=t' }:=by
 have q:=PySem.IsL.update e f;rw[D]at q;refine I.write (x:=l) (e:=l) (by rw[L];exact trivial) (.inl rfl) (λc u M T=>(Mn s.heap (Ml f) (Ne.symm M)).trans T) ⟨_,q⟩ ?_
 exact⟨hz,its',_,p,q⟩
theorem Inv.lnew(I:Inv X pins σ H s)(p:Vals ys its)(hz:ys.length<=LK) :
  Inv X pins σ (upd H s.heap.objs.size (.lst ys)) { s with heap:=s.heap.push { cls:=.type "list",data:=.seq its.toArray },toks:=t' } :=
 I.laid (λ_ _ q=>L5 _ q) (Gy _) ⟨hz,its,0,p,L6 _ rfl⟩
theorem Inv.fresh(I:Inv X pins σ H s):H s.heap.objs.size=none:=I.hok.fresh (Gy _)
theorem Inv.lstM(I:Inv X pins σ H s)(L:H l=some (.lst xs)):xs.length<=LK/\∃(its:List Value)(n:Nat),Vals xs its/\xs.length=its.length/\s.heap.get? l=some { cls:=.type "list",data:=.seq its.toArray n }:=by
 obtain⟨z,its,n,r,e⟩:=I.hok l _ L;exact⟨z,its,n,r,r.length,e⟩
theorem CH(h:n<=LK):Builtin.List.listTooLong n=false:=by
 unfold Builtin.List.listTooLong;exact LJ ∅
end
inductive E4(x:L2.V)(vs:List V)(H:L2.Hp)(Q:L2.VK):Prop
 |mk (l xs y:_) (h0_:x=.ref l)(h1_:vs = [y])(h2_:H l=some (.lst xs))(h3_:xs.length<LK)(h4_:Q .non (upd H l (.lst (xs++[y]))))
theorem aQ:MtM X "list.append" E4:=by
 intro B s O H x Y v J Q I d rv h;obtain⟨l,N,y,rfl,rfl,L,g,q⟩:=h
 cases d
 obtain⟨u,rfl,D⟩:=rv.one;obtain⟨z,E,n,r,C,e⟩:=I.lstM L;refine call_meets F.slot_list_append ⟨_,e,rfl⟩ F.entry_list_append (F.args_list_append_2 _ _) (PySem.list_append l E.toArray n u (by rw[GQ];omega)) ⟨e,?_⟩
 refine⟨.non,_,I.lset (its':=E++[u]) L e (by simp) (r.append (.cons D .nil)) ?_,rfl,q⟩
 rw[Gx,GO];omega
inductive E3(x:L2.V)(vs:List V)(H:L2.Hp)(Q:L2.VK):Prop
 |mk (l b xs zs:_) (h0_:x=.ref l)(h1_:vs = [.ref b])(h2_:H l=some (.lst xs))(h3_:H b=some (.lst zs))(h4_:xs.length+zs.length<=LK)(h5_:Q .non (upd H l (.lst (xs++zs))))
theorem Ad:MtM X "list.extend" E3:=by
 intro B s O H x Y v J Q I d rv h;obtain⟨l,b,N,M,rfl,rfl,L,a,g,q⟩:=h
 cases d
 obtain⟨u,rfl,D⟩:=rv.one
 cases D
 obtain⟨z,its,n,r,C,e⟩:=I.lstM L;obtain⟨A,T,G,o,c,f⟩:=I.lstM a;have y:its.toArray.size+T.toArray.size<=LK:=by rw[GQ,GQ];omega
 have i:¬ (!its.toArray.isEmpty&&Builtin.List.listTooLong (its.toArray.size+T.toArray.size))=true:=by
  rw[CH y,Jr];exact G4
 refine call_meets F.slot_list_extend ⟨_,e,rfl⟩ F.entry_list_extend (F.args_list_extend_2 _ _)
  (AutoSeq1.list_extend_list_list_0 l its.toArray n b T.toArray G i (by rw[GQ];omega) ∅) ⟨e,f,?_⟩
 refine⟨.non,_,I.lset (its':=its++T) L e (by simp) (r.append o) ?_,rfl,q⟩
 rw[Gx];omega
inductive rPop(x:L2.V)(vs:List V)(H:L2.Hp)(Q:L2.VK):Prop
 |mk (l xs y:_) (h0_:x=.ref l)(h1_:vs = [])(h2_:H l=some (.lst xs))(h3_:xs[xs.length-1]?=some y)(h4_:Q y (upd H l (.lst xs.dropLast)))
theorem mt_pop:MtM X "list.pop" rPop:=by
 intro B s O H x Y v J Q I d rv h;obtain⟨l,N,y,rfl,rfl,L,a,q⟩:=h
 cases d
 have c:=rv.zero;subst c;obtain⟨z,E,n,r,C,e⟩:=I.lstM L;obtain⟨u,T,D⟩:=r.get a;have b:E.toArray[E.toArray.size-1]?=some u:=by
  show E.toArray[E.length-1]?=some u;rw[← Hv,← C];exact T
 refine call_meets F.slot_list_pop ⟨_,e,rfl⟩ F.entry_list_pop (F.args_list_pop_1 _) (MeetsSeq.list_pop_last l E.toArray n u b (by rw[GQ];omega)) ⟨e,?_⟩
 refine⟨y,_,I.lset (its':=E.dropLast) L e ?_ r.dropLast ?_,D,q⟩
 .show E.toArray.eraseIdxIfInBounds (E.toArray.size-1)=E.dropLast.toArray;rw[GQ,K3,xS]
 .rw[List.length_dropLast];omega
inductive rPopAt(x:L2.V)(vs:List V)(H:L2.Hp)(Q:L2.VK):Prop
 |mk (l xs i k y:_) (h0_:x=.ref l)(h1_:vs = [.int i])(h2_:H l=some (.lst xs))(h3_:-(2^63)<=i)(h4_:i<2^63)(h5_:seqIndex? i xs.length=some k)(h6_:xs[k]?=some y)(h7_:Q y (upd H l (.lst (xs.eraseIdx k))))
theorem CI:MtM X "list.pop" rPopAt:=by
 intro B s O H x M v b Q I d rv h;obtain⟨l,N,i,k,y,rfl,rfl,L,J,Y,G,a,q⟩:=h
 cases d
 obtain⟨u,rfl,D⟩:=rv.one;obtain⟨t,rfl⟩:=D;obtain⟨z,E,n,r,C,e⟩:=I.lstM L;obtain⟨w,c,m⟩:=r.get a;refine call_meets F.slot_list_pop ⟨_,e,rfl⟩ F.entry_list_pop (F.args_list_pop_2 _ _)
  (MeetsSeq.list_pop_at l E.toArray n i t k w (fitsIndex_both J Y) (by rw[GQ,← C];exact G) (by rw[← Hv];exact c) (by rw[GQ];omega)) ⟨e,?_⟩
 refine⟨y,_,I.lset (its':=E.eraseIdx k) L e ?_ (r.eraseIdx k) ?_,m,q⟩
 .show E.toArray.eraseIdxIfInBounds k=(E.eraseIdx k).toArray;rw[K3]
 .have:=rX N k
  omega
section
variable{prog:Program}{w:World}{A:Around}{E:Value->Shared->Prop}{s:Shared}
end
end L2
namespace Att
open PySem PySem.W PySem.Calls PyProof.Rows
theorem nz{P:Params}:∀(ns:List Int)(vs:List Value),WellAll P h vs (ns.map WData.int)->Mp vs ns:=by
 intro ns;induction ns with
 |nil =>
  intro vs w;rw[JL]at w
  cases w
  exact .nil
 |cons n ns D =>
  intro vs w;rw[G7]at w
  cases w with
  |cons a b =>
   cases a
   exact .cons _ _ (D _ b)
theorem yY{l:OpenLaw}(T:l.most=some n){P:Params}{args:List WData}{v:List Value}
  (k:l.row.toRowW.claim.pre args=true) (u:WellAll P h v args) :
  ∃ a vs ns,v = [Value.ref a]/\args = [WData.list (ns.map WData.int)]/\h.get? a=some { cls:=.type "list",data:=.seq vs.toArray }/\Mp vs ns/\ns.length<=n:=by
 have b:WShape.hasAll [] args [.list .int]=true:=(pre_splitW k).1;have t:l.pre.holds [] { args:=args }=true:=(pre_splitW k).2;obtain⟨d,r,rfl,J,Y⟩:=hasAllW_cons b;obtain rfl:=hasAllW_nil Y;obtain⟨N,rfl,g⟩:=hasW_list J;obtain⟨ns,rfl⟩:=items_int g;have D:ns.length<=n:=by
  unfold OpenLaw.pre at t;have o:(WTm.not (.lt (.lit (.int (n:Int))) (.len (.arg 0)))).holds [] { args:=[.list (ns.map .int)] }=true:=by
   have o:=(holds_andW t).1;rw[T]at o;exact o
  have s:=condW_of o (w_not (w_lt w_lit (w_len_list (w_arg rfl))));rw[Gu]at s;refine JM λq=>?_;have O:(n:Int)<((ns.length:Nat):Int):=by omega
  first
   | (rw[Mq O]at s;exact Nh s (by decide))
   | (simp at s;omega)
 cases u with
 |cons E c =>
  cases c
  cases E with
  |list A x=>exact⟨_,_,ns,rfl,rfl,A,nz ns _ x,D⟩
theorem zE(l:OpenLaw)(args:List WData):l.row.toRowW.claim.post args (.bool true) args=true :=
 postW_of (r:=l.row.toRowW) (X:=(true == true))
  (show WShape.has [] (.bool true) .bool=true by first | rfl | decide | simp[WShape.has,WShape.arms,WShape.armsAll])
  (show(WTm.eq .res (.lit (.bool true))).value [] { args:=args,res:=some (.bool true),after:=args }=some (.bool (true == true)) from w_eq_bool (w_res rfl) w_lit) rfl
theorem attach_call{l:OpenLaw}{q:Program}{t:List Str}{O:(Str->Option Value)->Heap->Prop}{M:World->Heap->Prop}{d:DefRec}
  (T:l.most=some n) (J:d.params.defaults = [])
  (call:∀(w:World)(s₀ s₁:Shared)(mg y:Str->Option Value)(E:Addr)(o:Obj)(i I j:Value)(a:Addr)(vs:List Value)(ns:List Int),
   Ground q t [] O w s₀ mg y s₁.heap->M w s₁.heap ->
   s₁.heap.get? E=some o->o.data=.func (docDef d.name d.params d.body d.scope i I j)->s₁.heap.CodeRec I d.name->mg d.name=some (.ref E) ->
   s₁.heap.get? a=some { cls:=.type "list",data:=.seq vs.toArray }->Mp vs ns->ns.length<=n->s₁.gens=#[] ->
   Md (model l.prog w) callerA (.call (.ref E) ⟨[.ref a],[]⟩) (λr s'=>r=.ok (.ret (.bool true))/\OldK s₁.heap s'.heap/\s'.os=s₁.os/\AllBare s'.gens) s₁) :
  WalkO q t O M l.row.toRowW d [] (λf vs=>PySem.call f vs):=by
 intro w s₀ s₁ mg y G Y E o i I j s kV A hd z e h N p v as k x H u Q;obtain rfl:s=.none:=Dflts.none e J;obtain rfl:kV=.none:=Dflts.noKw e;obtain⟨a,vs,ns,rfl,rfl,L,c,D⟩:=yY T k u;refine enter_call (Mh (call w s₀ s₁ mg y E o i I j a vs ns G Y A (fd_plain hd) z h L c D N) λr s' m=>?_);obtain⟨rfl,B,g,b⟩:=m;exact⟨.inl ⟨.bool true,.bool true,[],rfl,λ_=>rfl,.bool true,zE l _,λ_=>⟨JH,λ_ C=>(nomatch C)⟩⟩,B,g,b⟩
section
variable{prog:Program}{w:World}{A:Around}{E:Value->Shared->Prop}{s:Shared}{K:Frag}
end
end Att
namespace L2
open PySem PySem.Spec PyProof.Rows
theorem qX:∀{vs:List Value}{ns:List Int},Mp vs ns->Vals (ns.map V.int) vs
 |_,_,.nil=>.nil
 |_,_,.cons n t h=>.cons ⟨t,rfl⟩ (qX h)
def kQ(s:Stmt)(j:Nat):Stmt:=match s with
 |.ClassDef _ _ _ T _ _ _ _ _ _ _=>T.getD j (.Pass ⟨0,0,0,0⟩)
 |_=>.Pass ⟨0,0,0,0⟩
def cO(s:Stmt):Arguments:=match s with
 |.FunctionDef _ a _ _ _ _ _ _ _ _=>a
 |_=>{ posonlyargs:=[],args:=[],vararg:=none,kwonlyargs:=[],kw_defaults:=[],kwarg:=none,defaults:=[] }
def bS(s:Stmt):List Stmt:=match s with
 |.FunctionDef _ _ b _ _ _ _ _ _ _=>b
 |_=>[]
def aq(s:Stmt):Scope:=match s with
 |.FunctionDef _ _ _ _ _ _ a _ _ _=>a
 |_=>{ kind:=.function,names:=[],isGenerator:=false,isCoroutine:=false }
abbrev CX0:CXT:=λ_ _ _ _ _ _=>False
abbrev E0:XK:=λ_ _ _=>False
theorem fR:lx CX0 X E0:=λ_ _ _ _ _ _ _ h=>h.elim
structure Fun(K:Gw)(x qual:Str)(st:Stmt)(f:Addr)(fd:FuncData):Prop where
 ex:∃(oc:Value)(od:Option Addr)(kV doc pm:Value)(an:Option Addr)(cdv ct:Value)(osl:Array (Option Value)),
  fd=Ie x qual (cO st) (bS st) (aq st) .none kV doc pm an cdv ct/\K.lookup f=some ⟨oc,od,.func fd,osl⟩/\Iy K cdv qual=true
 kp:Hw K (.ref f)=true
theorem Fun.ok{g:Str}{st:Stmt}{N ps:List Str}{k:Nat}(F:Fun K x g st f fd)(S:aw N ps (aq st))(len:∀ vs H Q E,sp vs H Q E->vs.length=ps.length)
  (a:∀(d:Value)(A:Around)(outer:List Env)(s:Shared)(H:Hp)(vs:List V)(Q:VK)(E:XK),Room k (A.deeper (envOfC g (aq st) s.heap.objs.size f d))->sp vs H Q E ->
   ∃ t,PSs (cxOf CX0 P w K mg base N g (aq st) f d A outer s H E).nox (bS st) t/\t { nx:=λ_ H'=>Q .non H',rt:=Q } (nV N vs) H):FnOk P w K mg base CX0 (k+1) f fd ps sp:=by
 obtain⟨l,O,kV,j,i,m,d,n,b,rfl,u,z⟩:=F.ex;refine FW u z S len λA outer s H vs Q E B C=>?_;obtain⟨t,h,q⟩:=a d A outer s H vs Q E B C;exact⟨t,h.nox,q⟩
theorem Fun.binds{g:Str}{st:Stmt}{ps:List Str}(F:Fun K x g st f fd)
  (h:∀(kV j i:Value)(m:Option Addr)(d ct:Value)(us:List Value),us.length=ps.length->bindArgs (Ie x g (cO st) (bS st) (aq st) .none kV j i m d ct) ⟨us,[]⟩=pure (ps.zip us)):dA K fd ps []:=by
 obtain⟨l,O,kV,j,i,m,d,ct,b,rfl,u,z⟩:=F.ex;exact .all (h kV j i m d ct)
theorem fun_mk{g:Str}{st:Stmt}{O m:Option Addr}{b:Array (Option Value)}{kV j i d ct:Value}(l:K.lookup f=some ⟨u,O,.func (Ie x g (cO st) (bS st) (aq st) .none kV j i m d ct),b⟩)
  (c:Iy K d g=true) (k:Hw K (.ref f)=true):Fun K x g st f (Ie x g (cO st) (bS st) (aq st) .none kV j i m d ct):=⟨⟨u,O,kV,j,i,m,d,ct,b,rfl,l,c⟩,k⟩
theorem sf{k:Nat}(hr:Room k A):A.units+1<cLine:=Nat.lt_of_le_of_lt (Nat.add_le_add_left (by decide:1<=64) _) hr.units
theorem ar(h:n<=1000):n<LK:=Nat.lt_of_le_of_lt h (by decide)
theorem pv(i:Nat)(k:X.N[i]?=some x:=by rfl)(p:Vis X.env.scope x:=by first | exact Or.inl rfl | exact Or.inr (Or.inl rfl) | exact Or.inr (Or.inr rfl)) (hd:(x == ("__debug__" : Str))=false:=by decide)
  (z:(x == ("__classdict__" : Str))=false:=by decide):PE X (.Name x pos) (tVar i):=pe_var k p hd z
theorem iteF{A:Prop}(h:B):if false=true then A else B:=by
 rw[Ng G4];exact h
theorem iteT{A:Prop}(h:A):if true=true then A else B:=by
 rw[Nf rfl];exact h
theorem ite2{c A:Prop} [Decidable c] (J:c->A) (h2:¬ c->B):if c then A else B:=by
 by_cases h:c
 .rw[Nf h];exact J h
 .rw[Ng h];exact h2 h
theorem uN{c A:Prop} [Decidable c] (t:c) (h:B):if(!decide c)=true then A else B:=by
 rw[Mq t];exact iteF h
def Same(H H':Hp):Prop:=∀ b o,H b=some o->H' b=some o
theorem Same.trans(a:Same H H1)(b:Same H1 H2):Same H H2:=λc o h=>b c o (a c o h)
theorem Same.seq(e:Same H H')(h:SqL K H a xs):SqL K H' a xs:=by
 rcases h with(h | ⟨o,h⟩) | h
 .exact .inl (.inl (e _ _ h))
 .exact .inl (.inr ⟨o,e _ _ h⟩)
 .exact .inr h
end L2
set_option maxRecDepth 100000
set_option maxHeartbeats 4000000
namespace L2
open PySem PySem.Spec PyProof.Rows
section
variable{κ:Type} [DecidableEq κ]
def valV(kvs:List (κ×V))(k:κ):Option V:=(kvs.find? λo=>decide (o.1=k)).map (·.2)
def putK(kvs:List (κ×V))(k:κ)(v:V):List (κ×V) :=
 if(kvs.any λo=>decide (o.1=k))=true then kvs.map (λo=>if o.1=k then(o.1,v) else o) else kvs++[(k,v)]
def lM(kvs:List (κ×V))(k:κ):List (κ×V):=kvs.filter λo=>decide (o.1≠k)
theorem bc{p:κ×V}{r:List (κ×V)}{k:κ}(e:p.1=k):valV (p::r) k=some p.2:=by simp[valV,Jy,e]
theorem bf{p:κ×V}{r:List (κ×V)}{k:κ}(e:¬ p.1=k):valV (p::r) k=valV r k:=by simp[valV,Jy,e]
theorem fA(k:κ):∀ kvs:List (κ×V),(kvs.any λo=>decide (o.1=k))=(valV kvs k).isSome
 |[]=>rfl
 |p::r=>by
  rw[LG];by_cases e:p.1=k
  .simp only[bc e,Mq e,Bool.true_or,Option.isSome_some]
  .rw[bf e,LJ e,Bool.false_or];exact fA k r
theorem vM(k j:κ)(y:V):∀ kvs:List (κ×V),valV (kvs.map λo=>if o.1=k then(o.1,y) else o) j=(valV kvs j).map λx=>if j=k then y else x
 |[]=>rfl
 |p::r=>by
  have D:=vM k j y r;rw[G7];by_cases h:p.1=k
  .rw[Nf h];by_cases e:p.1=j
   .rw[bc (p:=(p.1,y)) e,bc e,Ks,Nf (e.symm.trans h)]
   .rw[bf (p:=(p.1,y)) e,bf e,D]
  .rw[Ng h];by_cases e:p.1=j
   .rw[bc (p:=p) e,bc e,Ks,Ng (λz=>h (e.trans z))]
   .rw[bf (p:=p) e,bf e,D]
theorem qY(k j:κ)(y:V):∀ kvs:List (κ×V),valV kvs k=none->valV (kvs++[(k,y)]) j=if j=k then some y else valV kvs j
 |[],_=>by
  by_cases e:k=j
  .rw[Nf e.symm];exact bc (p:=(k,y)) e
  .rw[Ng (λz=>e z.symm)];exact bf (p:=(k,y)) e
 |p::r,T=>by
  rw[Lb];have G:¬ p.1=k:=λz=>by rw[bc z]at T;cases T
  rw[bf G]at T;have D:=qY k j y r T;by_cases e:p.1=j
  .rw[bc e,bc e,Ng (λz=>G (e.trans z))]
  .rw[bf e,bf e,D]
theorem fz(kvs:List (κ×V))(k j:κ)(y:V):valV (putK kvs k y) j=if j=k then some y else valV kvs j:=by
 unfold putK;by_cases a:(kvs.any λo=>decide (o.1=k))=true
 .rw[Nf a,vM];rw[fA]at a;by_cases e:j=k
  .obtain⟨x,L⟩:=Kd.mp a;rw[Nf e,e,L,Ks,Nf rfl]
  .rw[Ng e]
   cases valV kvs j with
   |none=>rfl
   |some x=>rw[Ks,Ng e]
 .rw[Ng a];refine qY k j y kvs ?_;rw[fA]at a
  cases q:valV kvs k with
  |none=>rfl
  |some x=>rw[q]at a;exact(a rfl).elim
theorem cX(kvs:List (κ×V))(k:κ)(v:V):(putK kvs k v).length<=kvs.length+1:=by
 unfold putK;split
 .rw[Gu];omega
 .rw[Gx,GX,IL];omega
theorem pF{kvs:List (κ×V)}{k:κ}(v:V)(h:valV kvs k=none):putK kvs k v=kvs++[(k,v)]:=by
 unfold putK;rw[fA,h];exact Ng (by decide)
theorem RelO.isSome_eq{o:Option V}{u:Option Value}(r:RelO o u):o.isSome=u.isSome:=by
 cases o with
 |none=>cases u with
  |none=>rfl
  |some _=>exact(show False from r).elim
 |some _=>cases u with
  |none=>exact(show False from r).elim
  |some _=>rfl
theorem RelO.getD{o:Option V}{u:Option Value}{d:V}{d':Value}(r:RelO o u)(c:RelV d d'):RelV (o.getD d) (u.getD d'):=by
 cases o with
 |none=>cases u with
  |none=>exact c
  |some _=>exact(show False from r).elim
 |some _=>cases u with
  |none=>exact(show False from r).elim
  |some _=>exact r
theorem KV.val{kvs:List (κ×V)}{vs:List (κ×Value)}(r:KV kvs vs)(k:κ):RelO (valV kvs k) (valueAt vs k):=by
 unfold KV at r;induction r with
 |nil=>exact True.intro
 | @cons p q i c h t D =>
  obtain⟨J,Y⟩:=h;by_cases e:p.1=k
  .have Q:q.1=k:=J.symm.trans e
   have b:valueAt (q::c) k=some q.2:=by simp[valueAt,Jy,Q]
   rw[bc e,b];exact Y
  .have Q:¬ q.1=k:=λz=>e (J.trans z)
   have b:valueAt (q::c) k=valueAt c k:=by simp[valueAt,Jy,Q]
   rw[bf e,b];exact D
theorem KV.any{kvs:List (κ×V)}{vs:List (κ×Value)}(r:KV kvs vs)(k:κ):(kvs.any λo=>decide (o.1=k))=vs.any λo=>decide (o.1=k):=by
 unfold KV at r;induction r with
 |nil=>rfl
 |cons h t D=>rw[LG,LG,D,h.1]
theorem KV.repl{kvs:List (κ×V)}{vs:List (κ×Value)}(r:KV kvs vs)(k:κ)(M:RelV y u) :
  KV (kvs.map λo=>if o.1=k then(o.1,y) else o) (vs.map λo=>if o.1=k then(o.1,u) else o):=by
 unfold KV at r ⊢;induction r with
 |nil=>exact .nil
 | @cons p q i c h t D =>
  rw[G7,G7];refine .cons ?_ D;obtain⟨J,Y⟩:=h;by_cases e:p.1=k
  .rw[Nf e,Nf (J.symm.trans e)];exact⟨J,M⟩
  .rw[Ng e,Ng (λz=>e (J.trans z))];exact⟨J,Y⟩
theorem KV.put{kvs:List (κ×V)}{vs:List (κ×Value)}(r:KV kvs vs)(k:κ)(D:RelV y u):KV (putK kvs k y) (stored vs k u):=by
 unfold putK stored;rw[r.any k];by_cases e:(vs.any λo=>decide (o.1=k))=true
 .rw[Nf e,Nf e];exact r.repl k D
 .rw[Ng e,Ng e];exact Paired.snoc r ⟨rfl,D⟩
theorem KV.drop{kvs:List (κ×V)}{vs:List (κ×Value)}(r:KV kvs vs)(k:κ):KV (lM kvs k) (without vs k):=by
 unfold KV at r ⊢;unfold lM without;induction r with
 |nil=>exact .nil
 | @cons p q i c h t D =>
  obtain⟨J,Y⟩:=h;rw[Km,Km];by_cases e:p.1=k
  .have a:¬ decide (p.1≠k)=true:=by simp[e]
   have b:¬ decide (q.1≠k)=true:=by simp[J.symm.trans e]
   rw[Ng a,Ng b];exact D
  .have Q:¬ q.1=k:=λz=>e (J.trans z)
   have a:decide (p.1≠k)=true:=by simp[e]
   have b:decide (q.1≠k)=true:=by simp[Q]
   rw[Nf a,Nf b];exact .cons ⟨J,Y⟩ D
theorem KV.length{kvs:List (κ×V)}{vs:List (κ×Value)}(r:KV kvs vs):kvs.length=vs.length:=Paired.length r
theorem Dt(kvs:List (κ×V))(k:κ):(lM kvs k).length<=kvs.length:=IE _ _
end
theorem uJ{k:Key}(r:RelV (kV k) u):(br P w).is k u=true:=by
 cases k with
 |inl i=>obtain⟨t,e⟩:=(show ∃ t,u=Value.int i t from r);subst e;exact uC P w i t
 |inr x=>obtain⟨t,e⟩:=(show ∃ t,u=Value.str x t from r);subst e;exact uB P w x t
theorem r9{P:Program}{w:World}:∀{ks:List Key}{us:List Value},Vals (ks.map kV) us->ItemsAre (br P w) ks us
 |[],_,r=>by rw[JL]at r;cases r;exact .nil
 |k::ks,_,r=>by
  rw[G7]at r
  cases r with
  |cons h t=>exact .cons (uJ h) (r9 t)
abbrev KT(H:Hp):List (List Key×V)->List (List Key×Addr×Value)->Prop:=Paired λp q=>p.1=q.1/\H q.2.1=some (.tup (p.1.map kV))/\RelV p.2 q.2.2
theorem KT.val{kvs:List (List Key×V)}{xs:List (List Key×Addr×Value)}(r:KT H kvs xs)(k:List Key):RelO (valV kvs k) ((atKey xs k).map (·.2)):=by
 induction r with
 |nil=>exact True.intro
 | @cons p q i c h t D =>
  obtain⟨J,_,Y⟩:=h;by_cases e:p.1=k
  .have Q:q.1=k:=J.symm.trans e
   have b:atKey (q::c) k=some q.2:=by simp[atKey,Jy,Q]
   rw[bc e,b];exact Y
  .have Q:¬ q.1=k:=λz=>e (J.trans z)
   have b:atKey (q::c) k=atKey c k:=by simp[atKey,Jy,Q]
   rw[bf e,b];exact D
theorem KT.repl{kvs:List (List Key×V)}{xs:List (List Key×Addr×Value)}(r:KT H kvs xs)(k:List Key)(M:RelV y u) :
  KT H (kvs.map λo=>if o.1=k then(o.1,y) else o) (xs.map (putAt k u)):=by
 induction r with
 |nil=>exact .nil
 | @cons p q i c h t D =>
  rw[G7,G7];refine .cons ?_ D;obtain⟨J,Y,g⟩:=h;unfold putAt;by_cases e:p.1=k
  .rw[Nf e,Nf (J.symm.trans e)];exact⟨J,Y,M⟩
  .rw[Ng e,Ng (λz=>e (J.trans z))];exact⟨J,Y,g⟩
theorem KT.put{kvs:List (List Key×V)}{xs:List (List Key×Addr×Value)}(r:KT H kvs xs)(k:List Key){b:Addr}(M:H b=some (.tup (k.map kV)))(D:RelV y u) :
  KT H (putK kvs k y) (storedH xs k b u):=by
 have e:(kvs.any λo=>decide (o.1=k))=(atKey xs k).isSome:=by
  rw[fA,(r.val k).isSome_eq,Option.isSome_map]
 unfold putK storedH;rw[e];by_cases q:(atKey xs k).isSome=true
 .rw[Nf q,Nf q];exact r.repl k D
 .rw[Ng q,Ng q];exact Paired.snoc r ⟨rfl,M,D⟩
theorem KT.keeps{kvs:List (List Key×V)}{xs:List (List Key×Addr×Value)}(r:KT H kvs xs)(ht:∀ b ys,H b=some (.tup ys)->H' b=some (.tup ys)):KT H' kvs xs :=
 Paired.mapP r λ_ _ z=>⟨z.1,ht _ _ z.2.1,z.2.2⟩
theorem rd_of{u:HO}(ok:HOk P w H h)(e:Rd H a u):bp P w H h a u:=e.ok ok
theorem xW(ok:HOk P w H h)(e:Rd H a (.dK kvs)):kvs.length<=LK/\(a == sysModules)=false/\∃ vs,KV kvs vs/\h.DictOf (br P w) a vs :=
 show bp P w H h a (.dK kvs) from rd_of ok e
theorem xX(ok:HOk P w H h)(e:H a=some (.dK kvs)):kvs.length<=LK/\(a == sysModules)=false/\∃ vs,KV kvs vs/\h.DictOf (br P w) a vs:=xW ok (.inl e)
theorem rZ{ks:List Key}(ok:HOk P w H h)(e:H a=some (.tup (ks.map kV))):(tupleKind (br P w)).is h ks a:=by
 obtain⟨_,E,r,o,J,Y,n,g⟩:=(show bp P w H h a (.tup (ks.map kV)) from ok a _ e);exact⟨o,E.toArray,n,J,Y,g,by simpa using r9 r⟩
theorem xV{kvs:List (List Key×V)}(ok:HOk P w H h)(e:Rd H a (.dT kvs)):kvs.length<=LK/\(a == sysModules)=false /\
  ∃ xs,KT H kvs xs/\h.DictOfH (tupleKind (br P w)) a xs:=by
 obtain⟨z,y,xs,r,o,D,N,J,Y,g,b,s⟩:=(show bp P w H h a (.dT kvs) from rd_of ok e);refine⟨z,y,xs,r,o,D,N,J,Y,g,b,λx L=>?_,s⟩;have all:∀{l:List (List Key×V)}{m:List (List Key×Addr×Value)},KT H l m->∀ x∈m,(tupleKind (br P w)).is h x.1 x.2.1:=by
  intro l m q;induction q with
  |nil=>intro x L;exact nomatch L
  | @cons p q i c n t B =>
   intro x L;rcases GG.mp L with e | L
   .subst e;exact rZ ok (by rw[← n.1];exact n.2.1)
   .exact B x L
 exact all r x L
theorem dt_of{kvs:List (List Key×V)}(ok:HOk P w H h)(e:H a=some (.dT kvs)):kvs.length<=LK/\(a == sysModules)=false /\
  ∃ xs,KT H kvs xs/\h.DictOfH (tupleKind (br P w)) a xs:=xV ok (.inl e)
def DGet(H:Hp)(a:Addr)(y:V)(r:Option V):Prop :=
 (∃ m k,Rd H a (.dK m)/\y=kV k/\r=valV m k)∨∃ m k b,Rd H a (.dT m)/\y=.ref b/\H b=some (.tup (k.map kV))/\r=valV m k
def DPut(H:Hp)(a:Addr)(y v:V)(H':Hp):Prop :=
 (∃ m k,H a=some (.dK m)/\y=kV k/\m.length<LK/\H'=upd H a (.dK (putK m k v))) ∨
 ∃ m k b,H a=some (.dT m)/\y=.ref b/\H b=some (.tup (k.map kV))/\m.length<LK/\H'=upd H a (.dT (putK m k v))
theorem DGet.k{H:Hp}{a:Addr}{kvs:List (Key×V)}{k:Key}(e:H a=some (.dK kvs)):DGet H a (kV k) (valV kvs k):=.inl ⟨kvs,k,.inl e,rfl,rfl⟩
theorem DPut.k{H:Hp}{a:Addr}{kvs:List (Key×V)}{k:Key}{v:V}(e:H a=some (.dK kvs))(hl:kvs.length<LK):DPut H a (kV k) v (upd H a (.dK (putK kvs k v))):=.inl ⟨kvs,k,e,rfl,hl,rfl⟩
section
variable{X:Cx}{pins:List (Addr×Obj)}{σ:St}{H:Hp}{s:Shared}{a:Addr}{y v:V}{u r:Value}{o:Option V}{A:Around}{E:Value->Shared->Prop}
theorem Inv.big(I:Inv X pins σ H s):sysModules<s.heap.objs.size:=by
 have h:LN<s.heap.objs.size:=(I.mod.glob.keeps I.bk).lt;exact IT (by decide) h
theorem Br(T:A.units+1<cLine)(I:Inv X pins σ H s)(g:DGet H a y (some v))(D:RelV y u)(h:∀ w' s',Inv X pins σ H s'->RelV v w'->Q w' s') :
  wpAny (model X.prog X.w) A (getItem (.ref a) u) Q E s:=by
 rcases g with⟨m,k,e,M,l⟩ | ⟨m,k,b,e,M,B,l⟩
 .subst M;obtain⟨z,hd,Y,rel,f⟩:=xW I.hok e;obtain⟨w',c,t⟩:=RelO.some_of (v:=v) (o:=valueAt Y k) (by rw[l];exact rel.val k)
  exact wpAny_getItem_of (uJ D) f.mapOf c (h w' _ (I.tok _) t)
 .subst M
  cases (show u=Value.ref b from D)
  obtain⟨z,hd,N,rel,f⟩:=xV I.hok e;obtain⟨w',c,t⟩:=RelO.some_of (v:=v) (o:=(atKey N k).map (·.2)) (by rw[l];exact rel.val k)
  obtain⟨p,j,d⟩:=G5.mp c;refine wpAny_getItem_heap (tupleKind_room_in1 T) (rZ I.hok B) f j ?_;rw[d];exact h w' _ (I.tok _) t
theorem F4(T:A.units+1<cLine)(I:Inv X pins σ H s)(g:DGet H a y o)(D:RelV y u)(h:∀ s',Inv X pins σ H s'->Q (.bool (!o.isSome)) s') :
  wpAny (model X.prog X.w) A (LU .NotIn u (.ref a)) Q E s:=by
 rcases g with⟨m,k,e,M,l⟩ | ⟨m,k,b,e,M,B,l⟩
 .subst M;obtain⟨z,hd,Y,rel,f⟩:=xW I.hok e;refine wpAny_notIn_of (uJ D) hd f.mapOf ?_;rw[← (rel.val k).isSome_eq,← l];exact h _ (I.tok _)
 .subst M
  cases (show u=Value.ref b from D)
  obtain⟨z,hd,N,rel,f⟩:=xV I.hok e;refine wpAny_notIn_heap (tupleKind_room_in1 T) (rZ I.hok B) hd f ?_;have q:=(rel.val k).isSome_eq;rw[Option.isSome_map]at q;rw[← q,← l];exact h _ (I.tok _)
theorem qG{ob:HO}(I:Inv X pins σ H s)(f:Mut (H a))(G:LQ a s.heap h')(he:∃ q,h'.get? a=some q)(new:bp X.prog X.w (upd H a ob) h' a ob) :
  Inv X pins σ (upd H a ob) { s with heap:=h',toks:=t' } :=
 I.write (x:=a) (e:=a) f (.inl rfl) (λb q M z=>(G.2 b M).trans z) he new
theorem Bd{vs:List (Key×Value)}(z:kvs.length<=LK)(hd:(a == sysModules)=false)(rel:KV kvs vs)(dd:h'.DictOf (br P w) a vs) :
  bp P w H' h' a (.dK kvs):=⟨z,hd,vs,rel,dd⟩
theorem Bh{Q:Unit->Shared->Prop}(T:A.units+1<cLine)(I:Inv X pins σ H s)(g:DPut H a y v H')(J:RelV y u)(rv:RelV v r)(h:∀ s',Inv X pins σ H' s'->Q () s') :
  wpAny (model X.prog X.w) A (setItem (.ref a) u r) Q E s:=by
 rcases g with⟨m,k,e,ey,l,eH⟩ | ⟨m,k,b,e,ey,B,l,eH⟩
 .subst ey eH;obtain⟨z,hd,M,rel,f⟩:=xX I.hok e;have t:M.length<=LK:=by rw[← rel.length];exact z
  have C:(putK m k v).length<=LK:=by have:=cX m k v;omega
  refine wpAny_setItem_pairs (hsz:=t) (uJ J) f λj aa G=>h _ ?_;have i:∃ q,j.get? a=some q:=let ⟨q,_,_,n,_⟩:=aa;⟨q,n⟩;exact qG I (by rw[e];exact True.intro) G i (Bd C hd (rel.put k rv) aa)
 .subst ey eH
  cases (show u=Value.ref b from J)
  obtain⟨z,hd,N,rel,f⟩:=dt_of I.hok e;have t:N.length<=LK:=by rw[← Paired.length rel];exact z
  have C:(putK m k v).length<=LK:=by have:=cX m k v;omega
  refine wpAny_setItem_heap (hsz:=t) (tupleKind_room_in1 T) (rZ I.hok B) f λj aa G=>h _ ?_;obtain⟨q,D,L,n,Y,p,o,_,x⟩:=aa;refine qG I (by rw[e];exact True.intro) G ⟨q,n⟩ ⟨C,hd,_,(rel.put k B rv).keeps λc d O=>?_,q,D,L,n,Y,p,o,x⟩
  rw[ao (xr O e (λz=>nomatch z))];exact O
end
section
variable{X:Cx}{pins:List (Addr×Obj)}{σ:St}{H:Hp}{s:Shared}{a:Addr}{kvs:List (Key×V)}{k:Key}{u:Value}{A:Around}{E:Value->Shared->Prop}
theorem d_pop{more:List Value}(I:Inv X pins σ H s)(e:H a=some (.dK kvs))(M:RelV (kV k) u)(l:valV kvs k=some v)(C:more = []∨∃ x,more = [x])
  (h:∀ w' s',Inv X pins σ (upd H a (.dK (lM kvs k))) s'->RelV v w'->Q w' s'):wpAny (model X.prog X.w) A (call (.builtin "dict.pop") (.ref a::u::more)) Q E s:=by
 obtain⟨z,hd,Y,rel,f⟩:=xX I.hok e;obtain⟨w',c,m⟩:=RelO.some_of (v:=v) (o:=valueAt Y k) (by rw[← l];exact rel.val k)
 have j:(keyPart u).isSome=true:=by
  cases k with
  |inl i=>obtain⟨t,q⟩:=(show ∃ t,u=Value.int i t from M);subst q;rfl
  |inr x=>obtain⟨t,q⟩:=(show ∃ t,u=Value.str x t from M);subst q;rfl
 have D:argsOk "dict.pop" ⟨.ref a::u::more,[]⟩:=by
  rcases C with q | ⟨x,q⟩
  .subst q;exact PySem.F.args_dict_pop_2 _ _
  .subst q;exact PySem.F.args_dict_pop_3 _ _ _
 refine call_meetsIn PySem.F.slot_dict_pop f.typeIs PySem.F.entry_dict_pop D (meets_dict_pop_there (br X.prog X.w) a (uJ M) more C j)
  ⟨Y,w',f,by rw[← rel.length];exact z,c,λL y G=>h w' _ ?_ m⟩
 have r:∃ q,L.get? a=some q:=let ⟨q,_,_,n,_⟩:=y;⟨q,n⟩;exact qG I (by rw[e];exact True.intro) G r (Bd (Hy (Dt kvs k) z) hd (rel.drop k) y)
end
def NoSl(i:Expr):Prop:=∀ y C,subscripted i false y C=operate [y,C] (getItem y C)
theorem ET{prog:Program}{M:Expr}{T id:String}
  (hl:typeLookup (.type T) "__getitem__" = pure (some (.builtin id))) (G:NoSl M)
  (h:wpAny (model prog w) A (eval e env) (λo s₁=>wpAny (model prog w) A (eval M env) (λi s₂=>s₂.TypeIs o T/\wpAny (model prog w) A (getItem o i) Q E s₂) E s₁) E s) :
  wpAny (model prog w) A (eval (.Subscript e M pos) env) Q E s:=by
 refine Subscript_ (LS h (λo s₁ g=>LS g (λi s₂ k=>?_) λ_ _ x=>x) λ_ _ x=>x);obtain⟨l,k⟩:=k;unfold subscriptTail;refine LX ?_;rw[getitemInPython_of_ne l.not_modules];refine LX (Mr l hl ?_);have f:wpAny (model prog w) A (subscripted M false o i) (λr b=>wpAny (model prog w) A (letTemporaryGo e o r >>= λ_=>pure r) Q E b) E s₂:=by
  rw[G o i];exact wpAny_operating (LS k (λr b p=>LX (wpAny_letTemporaryGo (L4 p))) λ_ _ x=>x)
 first
  |exact L4 (LX f)
  |exact LX (L4 (LX f))
  |exact LX f
theorem vk{o:Option V}(I:Inv X L J H s)(g:DGet H a y o):s.TypeIs (.ref a) "dict":=by
 rcases g with⟨m,k,e,_,_⟩ | ⟨m,k,b,e,_,_,_⟩
 .obtain⟨_,_,Y,_,f⟩:=xW I.hok e;exact f.typeIs
 .obtain⟨_,_,N,_,f⟩:=xV I.hok e;exact f.typeIs
def tDGet(b ty:TE):TE:=λO H Q=>b O H λx l=>ty O l λy N=>∃ a v,x=.ref a/\DGet N a y (some v)/\Q v N
def ES(ty b:TE):TE:=λO H Q=>ty O H λy l=>b O l λx N=>∃ a o,x=.ref a/\DGet N a y o/\Q (.bl (!o.isSome)) N
def sDPut(b ty e:TE):TS:=λD O H=>e O H λv l=>b O l λx N=>ty O N λy q=>∃ a E,x=.ref a/\DPut q a y v E/\D.nx O E
section
variable{X:Cx}{o i e value:Expr}{pos pos' tpos:Pos}{td ty tv:TE}
theorem jd(T:X.A.units+1<cLine)(c:PE X o td)(hi:PE X i ty)(G:NoSl i):PE X (.Subscript o i pos) (tDGet td ty):=by
 intro B s O H Q I h;refine ET PySem.F.slot_dict_getitem.lookup G (thn (c B s O H _ I h) λu r ⟨x,l,f,d,L⟩=>thn (hi B r O l _ f L) λe b ⟨y,N,w,D,a,v,k,g,Y⟩=>?_);subst k;obtain rfl:u=Value.ref a:=d;exact⟨vk w g,Br T w g D λC m n t=>⟨v,N,n,t,Y⟩⟩
theorem m7(T:X.A.units+1<cLine)(hi:PE X i ty)(c:PE X o td):PC X .NotIn i o (ES ty td):=by
 intro B s O H Q I h;refine thn (hi B s O H _ I h) λC r ⟨y,l,f,D,L⟩=>thn (c B r O l _ f L) λu b z=>?_;obtain⟨x,N,w,d,a,ov,k,g,Y⟩:=z;subst k;obtain rfl:u=Value.ref a:=d;exact F4 T w g D λm n=>⟨.bl (!ov.isSome),N,n,rfl,Y⟩
theorem kM(T:X.A.units+1<cLine)(c:PE X o td)(hi:PE X i ty)(p:PE X value tv)(G:swapsWith value (some (.Subscript o i pos')) pos.line X.env=pure false) :
  PS X (.Assign [.Subscript o i pos'] value pos) (sDPut td ty tv):=by
 intro B s O H D I h;refine wpAny_Assign_Subscript (thn (p B s O H _ I h) λr J ⟨v,l,f,rv,L⟩=>thn (c B J O l _ f L) λu b ⟨x,N,w,d,Y⟩=>thn (hi B b O N _ w Y) λC m ⟨y,q,n,M,a,E,k,g,t⟩=>?_) G;subst k;obtain rfl:u=Value.ref a:=d;exact Bh T n g M rv λe z=>⟨O,E,z,t⟩
end
theorem wQ(h:Heap)(M:sysModules<h.objs.size):bp P w H (h.push { cls:=.type "dict",data:=.dict #[] }) h.objs.size (.dK []) :=
 ⟨Hq _,beq_eq_false_iff_ne.mpr (Ne.symm (G0 M)),[],.nil,Heap.DictOf.new h⟩
def tDNewK:TE:=λ_ H Q=>∀ p,H p=none->Q (.ref p) (upd H p (.dK []))
theorem mh:PE X (.Dict [] [] pos) tDNewK:=λB s O H Q I h =>
 wpAny_Dict_empty ⟨.ref s.heap.objs.size,_,I.laid (a:=s.heap.objs.size) (o:=.dK []) (t':=s.toks) (λ_ _ q=>L5 _ q) (Gy _) (wQ s.heap I.big),rfl,h _ (I.hok.fresh (Gy _))⟩
def yH:List (TE×TE)->St->Hp->(List (V×V)->Hp->Prop)->Prop
 |[],_,H,Q=>Q [] H
 | (M,e)::r,O,H,Q=>M O H λx l=>e O l λy N=>yH r O N λi q=>Q ((x,y)::i) q
abbrev VV:List (V×V)->List (Value×Value)->Prop:=Paired λp q=>RelV p.1 q.1/\RelV p.2 q.2
def PPs(X:Cx)(pos:Pos)(v:List (Option Expr))(t:List Expr)(E:List (TE×TE)):Prop :=
 ∀(B:List (Addr×Obj))(s:Shared)(O:St)(H:Hp)(Q:List (V×V)->Hp->Prop),Inv X B O H s->yH E O H Q ->
  wpAny (model X.prog X.w) X.A (evalPairs (pairTrees v t X.env pos)) (λY L=>∃ i j,Inv X B O j L/\VV i Y/\Q i j) X.xe s
theorem ua:PPs X pos [] [] []:=λB s O H Q I h=>pairTrees_nil_walk ⟨[],H,I,.nil,h⟩
theorem pG{k v:Expr}{ks:List (Option Expr)}{vs:List Expr}{tk e:TE}{E:List (TE×TE)}(G:PE X k tk)(p:PE X v e)(hr:PPs X pos ks vs E) :
  PPs X pos (some k::ks) (v::vs) ((tk,e)::E):=λB s O H Q I h =>
 pairTrees_cons_walk (thn (G B s O H _ I h) λu g ⟨x,l,i,d,L⟩=>thn (p B g O l _ i L) λc b ⟨y,N,w,D,Y⟩ =>
  thn (hr B b O N _ w Y) λa m ⟨J,q,n,rel,t⟩=>⟨(x,y)::J,q,n,.cons ⟨d,D⟩ rel,t⟩)
def fj(kvs more:List (Key×V)):List (Key×V):=more.foldl (λp o=>putK p o.1 o.2) kvs
theorem KV.merge:∀{more:List (Key×V)}{rs:List (Key×Value)}{kvs:List (Key×V)}{vs:List (Key×Value)},KV more rs->KV kvs vs->KV (fj kvs more) (merged vs rs):=by
 intro more rs kvs vs r;unfold KV at r;induction r generalizing kvs vs with
 |nil=>intro q;exact q
 | @cons p q i c h t D =>
  intro j;have e:KV (putK kvs p.1 p.2) (stored vs q.1 q.2):=by
   have:=j.put p.1 h.2;rw[← h.1];exact this
  exact D e
theorem jU:∀(more kvs:List (Key×V)),(fj kvs more).length<=kvs.length+more.length
 |[],kvs=>by show kvs.length<=kvs.length+0;omega
 |p::r,kvs=>by
  have J:=jU r (putK kvs p.1 p.2);have Y:=cX kvs p.1 p.2;show(fj (putK kvs p.1 p.2) r).length<=_;rw[GX];omega
theorem oI{P:Program}{w:World}:∀{kvs:List (Key×V)}{k:List (Value×Value)},VV (kvs.map λo=>(kV o.1,o.2)) k->∃ rs,Carries (br P w) k rs/\KV kvs rs
 |[],_,r=>by rw[JL]at r;cases r;exact⟨[],True.intro,.nil⟩
 |p::kvs,_,r=>by
  rw[G7]at r
  cases r with
  | @cons a b as bs h t =>
   obtain⟨rs,c,q⟩:=oI (P:=P) (w:=w) t;obtain⟨b1,b2⟩:=b;exact⟨(p.1,b2)::rs,⟨uJ h.1,rfl,c⟩,.cons ⟨rfl,h.2⟩ q⟩
def tDisp(E:List (TE×TE)):TE:=λO H Q=>∀ p,H p=none->yH E O (upd H p (.dK [])) λi N=>N p=some (.dK [])/\∃ m:List (Key×V),i=m.map (λo=>(kV o.1,o.2))/\m.length<=15/\Q (.ref p) (upd N p (.dK (fj [] m)))
theorem ui{v:List (Option Expr)}{t:List Expr}{E:List (TE×TE)}(h:PPs X pos v t E)(x:v.all (·.isSome)=true)(hl:v.length=t.length)(d:v≠[])
  (D:v.length<=15):PE X (.Dict v t pos) (tDisp E):=by
 intro B s O H Q I q;have T:=I.hok.fresh (Gy s.heap.objs.size);have i:=I.laid (a:=s.heap.objs.size) (o:=.dK []) (h':=s.heap.push { cls:=.type "dict",data:=.dict #[] }) (t':=s.toks) (λ_ _ q=>L5 _ q) (Gy _) (wQ s.heap I.big);refine wpAny_Dict_walk (knd:=br X.prog X.w) x hl d D (thn (h B _ O _ _ i (q _ T)) λk b ⟨f,N,p,rel,e,m,L,u,Y⟩=>?_);subst L;obtain⟨l,c,A⟩:=oI (P:=X.prog) (w:=X.w) rel;obtain⟨z,hd,M,j,C⟩:=xX p.hok e
 cases j
 refine⟨l,c,C,λh' y G=>⟨.ref s.heap.objs.size,_,?_,rfl,Y⟩⟩;have g:(fj [] m).length<=LK:=by
  have J:=jU m [];rw[IL]at J;rw[sizeLine_eq];omega
 have r:∃ q,h'.get? s.heap.objs.size=some q:=let ⟨q,_,_,n,_⟩:=y;⟨q,n⟩;exact qG p (by rw[e];exact True.intro) G r (Bd g hd (A.merge .nil) y)
structure M1(X:Cx)(o:Expr)(m:Str)(apos:Pos)(e:Expr)(cpos:Pos):Prop where
 base:attributeBase o m X.env (eval o X.env)=eval o X.env
 few:((backTo cpos (LR [e] X.env)).all (λx=>!x.1)&&(backToKw cpos (keywordEach [] X.env)).all (λx=>x.1.isSome)
  && decide (([e]:List Expr).length+([]:List Keyword).length+(if([]:List Keyword).isEmpty then 0 else 1)<30))=true
 line:(apos.endLine == cpos.line)=true
 trees:backTo cpos (LR [e] X.env) = [(false,eval e X.env)]
structure M2(X:Cx)(o:Expr)(m:Str)(apos:Pos)(e f:Expr)(cpos:Pos):Prop where
 base:attributeBase o m X.env (eval o X.env)=eval o X.env
 few:((backTo cpos (LR [e,f] X.env)).all (λx=>!x.1)&&(backToKw cpos (keywordEach [] X.env)).all (λx=>x.1.isSome)
  && decide (([e,f]:List Expr).length+([]:List Keyword).length+(if([]:List Keyword).isEmpty then 0 else 1)<30))=true
 line:(apos.endLine == cpos.line)=true
 trees:backTo cpos (LR [e,f] X.env) = [(false,eval e X.env),(false,eval f X.env)]
def IsD(H:Hp)(a:Addr):Prop:=(∃ m,Rd H a (.dK m))∨∃ m,Rd H a (.dT m)
theorem Ek(I:Inv X L J H s)(d:IsD H a) :
  s.TypeIs (.ref a) "dict"/\(∀ b,Value.ref a=.ref b->∃ ob,s.heap.get? b=some ob/\ob.dict=none)/\(a == sysModules)=false:=by
 rcases d with⟨m,e⟩ | ⟨m,e⟩
 .obtain⟨_,hd,M,_,f⟩:=xW I.hok e;refine⟨f.typeIs,λb q=>?_,hd⟩
  cases q
  obtain⟨ob,_,_,k,Y,_⟩:=f;exact⟨ob,k,Y.2.1⟩
 .obtain⟨_,hd,N,_,f⟩:=xV I.hok e;refine⟨f.typeIs,λb q=>?_,hd⟩
  cases q
  obtain⟨ob,_,_,k,Y,_⟩:=f;exact⟨ob,k,Y.2.1⟩
section
variable{X:Cx}{pins:List (Addr×Obj)}{σ:St}{H:Hp}{s:Shared}{a:Addr}{y d:V}{u r:Value}{o:Option V}{A:Around}{E:Value->Shared->Prop}
theorem d_get2(T:A.units+1<cLine)(I:Inv X pins σ H s)(g:DGet H a y o)(D:RelV y u)(c:RelV d r)(h:∀ w' s',Inv X pins σ H s'->RelV (o.getD d) w'->Q w' s') :
  wpAny (model X.prog X.w) A (call (.builtin "dict.get") [.ref a,u,r]) Q E s:=by
 rcases g with⟨m,k,e,M,l⟩ | ⟨m,k,b,e,M,B,l⟩
 .subst M;obtain⟨z,hd,Y,rel,f⟩:=xW I.hok e;refine call_meetsIn Kr f.typeIs PySem.F.entry_dict_get (LD _ _ _) (meets_dict_get_default (br X.prog X.w) a (uJ D) hd r) ⟨_,f.mapOf,h _ _ (I.tok _) ?_⟩;rw[l];exact(rel.val k).getD c
 .subst M
  cases (show u=Value.ref b from D)
  obtain⟨z,hd,N,rel,f⟩:=xV I.hok e;refine call_meetsIn Kr f.typeIs PySem.F.entry_dict_get (LD _ _ _) (meetsH_dict_get_default (tupleKind (br X.prog X.w)) a b hd r) ⟨tupleKind_room_in1 T,k,N,rZ I.hok B,f,h _ _ (I.tok _) ?_⟩;rw[l];exact(rel.val k).getD c
end
def tDGet2(b ty e:TE):TE:=λO H Q=>b O H λx l=>∃ a,x=.ref a/\IsD l a/\ty O l λy N=>e O N λz q=>∃ o,DGet q a y o/\Q (o.getD z) q
def tDPop1(b ty:TE):TE:=λO H Q=>b O H λx l=>∃ a,x=.ref a/\IsD l a/\ty O l λy N=>∃ m k v,N a=some (.dK m)/\y=kV k/\valV m k=some v/\Q v (upd N a (.dK (lM m k)))
section
variable{X:Cx}{o e f:Expr}{apos cpos:Pos}{td ty tx:TE}
theorem Cf(T:X.A.units+1<cLine)(D:PE X o td)(he:PE X e ty)(E:PE X f tx) (m:M2 X o "get" apos e f cpos):PE X (.Call (.Attribute o "get" apos) [e,f] [] cpos) (tDGet2 td ty tx):=by
 intro B s O H Q I h;refine wpAny_Call_method m.base m.few m.line Kj Kr PySem.F.type_dict_get (thn (D B s O H _ I h) λu r ⟨x,l,i,w,a,k,d,L⟩=>?_);subst k;obtain rfl:u=Value.ref a:=w;obtain⟨t1,j,_⟩:=Ek i d;refine⟨t1,j,?_⟩;rw[m.trees]
 refine Mo rfl (Calls.evalArgs_plain (Mg (thn (he B r O l _ i L) λiv b ⟨y,N,p,M,Y⟩ =>
  Mg (thn (E B b O N _ p Y) λfv c ⟨z,q,n,rz,ov,g,J⟩=>Mf ?_))))
 exact d_get2 T n g M rz λC v G t=>⟨_,q,G,t,J⟩
theorem Ce(A:PE X o td)(he:PE X e ty) (m:M1 X o "pop" apos e cpos):PE X (.Call (.Attribute o "pop" apos) [e] [] cpos) (tDPop1 td ty):=by
 intro B s O H Q I h;refine wpAny_Call_method m.base m.few m.line Kj PySem.F.slot_dict_pop PySem.F.type_dict_pop (thn (A B s O H _ I h) λu g ⟨x,J,i,w,a,p,d,L⟩=>?_);subst p;obtain rfl:u=Value.ref a:=w;obtain⟨q,c,_⟩:=Ek i d;refine⟨q,c,?_⟩;rw[m.trees];refine Mo rfl (Calls.evalArgs_plain (Mg (thn (he B g O J _ i L) λf b ⟨y,N,z,D,n,k,v,G,M,l,Y⟩=>Mf ?_)));subst M;exact d_pop z G D l (.inl rfl) λC r j t=>⟨v,_,j,t,Y⟩
end
section
variable{X:Cx}{pins:List (Addr×Obj)}{σ:St}{H:Hp}{s:Shared}{a:Addr}{kvs:List (Key×V)}{A:Around}{E:Value->Shared->Prop}
end
section
variable{X:Cx}{pins:List (Addr×Obj)}{σ:St}{H:Hp}{s:Shared}{a:Addr}{y:V}{u:Value}{A:Around}{E:Value->Shared->Prop}
end
section
variable{κ:Type} [DecidableEq κ]
theorem vL{kvs:List (κ×V)}{k:κ}(h:valV kvs k=none):¬ k∈kvs.map (·.1):=by
 intro m;obtain⟨p,j,e⟩:=Hn.mp m;have q:(kvs.any λo=>decide (o.1=k))=true:=List.any_eq_true.mpr ⟨p,j,Mq e⟩;rw[fA,h]at q;exact Nh q (by simp)
theorem ux:∀{l:List κ}{k:κ},l.Nodup->¬ k∈l->(l++[k]).Nodup
 |[],k,_,_=>by simp
 |a::r,k,h,G=>by
  obtain⟨J,Y⟩:=Hj.mp h;show(a::(r++[k])).Nodup;refine Hj.mpr ⟨λm=>?_,ux Y λm=>G (GG.mpr (Or.inr m))⟩;rcases GU.mp m with q | q
  .exact J q
  .exact G (GG.mpr (Or.inl (GJ.mp q).symm))
theorem Fv{kvs:List (κ×V)}{k:κ}(v:V)(T:(kvs.map (·.1)).Nodup)(h:valV kvs k=none):((putK kvs k v).map (·.1)).Nodup:=by
 rw[pF v h,GK];exact ux T (vL h)
theorem Bb{p:κ×V}{r:List (κ×V)}{k:κ}(e:p.1=k):lM (p::r) k=lM r k:=by
 unfold lM;rw[Km,Ng (by simp[e])]
theorem Bc{p:κ×V}{r:List (κ×V)}{k:κ}(e:¬ p.1=k):lM (p::r) k=p::lM r k:=by
 unfold lM;rw[Km,Nf (by simp[e])]
end
def clOf(env:Env)(fr:List (Str×Nat)):List (Str×Addr):=fr.map λp=>(p.1,(env.cells.lookup p.1).getD 0)
def frOf(fr:List (Str×Nat))(O:St):St:=fr.map λp=>(O[p.2]?).join
theorem iX{env:Env}:∀{fr:List (Str×Nat)}{y:Str}{c:Addr},(clOf env fr).lookup y=some c->y∈fr.map (·.1)/\c=(env.cells.lookup y).getD 0
 |[],_,_,h=>by cases h
 |p::r,y,c,h=>by
  unfold clOf at h;rw[G7,List.lookup_cons]at h
  cases e:y == p.1 with
  |true =>
   rw[e]at h;have M:y=p.1:=eq_of_beq e
   cases h
   exact⟨by rw[M];exact GN,by rw[M]⟩
  |false =>
   rw[e]at h;obtain⟨a,b⟩:=iX (env:=env) (fr:=r) h;exact⟨GD _ a,b⟩
theorem dZ{env:Env}:∀{fr:List (Str×Nat)}{y:Str},y∈fr.map (·.1)->(clOf env fr).lookup y=some ((env.cells.lookup y).getD 0)
 |[],_,h=>by cases h
 |p::r,y,h=>by
  unfold clOf;rw[G7,List.lookup_cons]
  cases e:y == p.1 with
  |true =>
   have M:y=p.1:=eq_of_beq e;rw[M]
  |false =>
   have a:y≠p.1:=λz=>by rw[z]at e;simp at e
   rcases GG.mp h with z | z
   .exact Nh z a
   .exact dZ (env:=env) (fr:=r) z
section
variable{X:Cx}{pins:List (Addr×Obj)}{σ:St}{H:Hp}{s:Shared}{scope:Scope}{fr:List (Str×Nat)}{x:Str}
end
def vO(c:TE)(f:St)(J:It)(H1:Hp)(QQ:List V->Hp->Prop):Prop :=
 ∃ W:Nat->Nat->List V->Hp->Prop,(∃ m,W 0 m [] H1)/\∀ i m d H,W i m d H->d.length<=LK /\
  ((J.stop i H/\QQ d H)∨(J.go i H/\∃ N:V->Hp->Prop,(∀ y g,N y g->∃ Q,Q<m/\W (i+1) Q (d++[y]) g)/\∀ x j,J.yld i H x j->c (some x::f) j N))
section
variable{X:Cx}{scope:Scope}{fr:List (Str×Nat)}{x:Str}{elt iter:Expr}{px pos:Pos}{te:TE}{wi:TI}
end
theorem Bx{c:TE}(Pv:Nat->List V->Hp->Prop)(hz:xs.length<=LK)(w:Pv 0 [] H1)(hl:∀ i ys H,i<=xs.length->Pv i ys H->SqL K H a xs)
  (G:∀ i x ys H,xs[i]?=some x->Pv i ys H->c (some x::J) H λy H2=>Pv (i+1) (ys++[y]) H2) (hd:∀ ys H,ys.length=xs.length->Pv xs.length ys H->QQ ys H)
  : vO c J (Itl K a) H1 QQ:=by
 refine⟨λi m ys H=>m=xs.length-i/\i<=xs.length/\ys.length=i/\Pv i ys H,⟨xs.length,by simp,Hq _,rfl,w⟩,?_⟩
 rintro i m ys H ⟨rfl,T,Q,p⟩;have q:=hl i ys H T p;refine⟨∅,?_⟩
 by_cases f:i<xs.length
 .refine .inr ⟨⟨xs,xs[i],q,by simp[f]⟩,λy H2=>Pv (i+1) (ys++[y]) H2,λy H2 C=>⟨xs.length-(i+1),∅,rfl,f,by rw[Gx,Q];rfl,C⟩,λx j y=>?_⟩
  obtain⟨e,y⟩:=y;subst e;exact G i x ys _ (y xs q) p
 .have e:i=xs.length:=by omega
  subst e;exact .inl ⟨⟨xs,q,Gy _⟩,hd ys H Q p⟩
theorem yg{lo:Int}{c:TE}(Pv:Nat->List V->Hp->Prop)(hz:n<=LK)(w:Pv 0 [] H1)
  (G:∀ i ys H,i<n->Pv i ys H->c (some (.int (lo+i))::J) H λy H2=>Pv (i+1) (ys++[y]) H2) (hd:∀ ys H,ys.length=n->Pv n ys H->QQ ys H)
  : vO c J (Itr lo n) H1 QQ:=by
 refine⟨λi m ys H=>m=n-i/\i<=n/\ys.length=i/\Pv i ys H,⟨n,by simp,Hq _,rfl,w⟩,?_⟩
 rintro i m ys H ⟨rfl,T,Q,p⟩;refine⟨∅,?_⟩
 by_cases f:i<n
 .refine .inr ⟨f,λy H2=>Pv (i+1) (ys++[y]) H2,λy H2 C=>⟨n-(i+1),∅,rfl,f,by rw[Gx,Q];rfl,C⟩,λx j y=>?_⟩
  obtain⟨e,y⟩:=y;subst e y;exact G i ys _ f p
 .have e:i=n:=by omega
  subst e;exact .inl ⟨Gy _,hd ys H Q p⟩
theorem sR:LO "int" = some (.type "int"):=by decide
theorem Gd:LO "bool" = some (.type "bool"):=by decide
theorem kX:LO "list" = some (.type "list"):=by decide
theorem bT:LO "len" = some (.builtin "len"):=by decide
theorem bX:LO "isinstance" = some (.builtin "isinstance"):=by decide
theorem nK:LO "sorted" = some (.builtin "sorted"):=by decide
theorem vG:LO "reversed" = some (.type "reversed"):=by decide
theorem sS:LO "enumerate" = some (.type "enumerate"):=by decide
structure Cal(P:Program)(w:World)(K:Gw)(mg:Str->Option Value)(base:Heap)(k:Nat)(x:Str)(ps:List Str)(sp:Sp)(f:Addr)(fd:FuncData):Prop where
 ok:FnOk P w K mg base CX0 k f fd ps sp
 bn:dA K fd ps []
 mg:mg x=some (.ref f)
 kp:Hw K (.ref f)=true
structure Mak(P:Program)(w:World)(K:Gw)(mg:Str->Option Value)(base:Heap)(k:Nat)(x:Str)(ps:List Str)(sp:Sp)(C f:Addr)(fd:FuncData):Prop where
 mkc:Mk K C f
 ok:FnOk P w K mg base CX0 k f fd ps sp
 bn:dA K fd ps []
 mg:mg x=some (.ref C)
structure Met(P:Program)(w:World)(K:Gw)(mg:Str->Option Value)(base:Heap)(k:Nat)(C:Addr)(m:Str)(ps:List Str)(sp:Sp)(f:Addr)(fd:FuncData):Prop where
 me:Meth K C m f
 ok:FnOk P w K mg base CX0 k f fd ps sp
 bn:dA K fd ps []
theorem fM{a:List Stmt}{t t2:TS}(h:PSs X a t)(i:∀ D O H,t2 D O H->t D O H):PSs X a t2:=λB s O H D I q=>h B s O H D I (i D O H q)
inductive rIsi(K:Gw)(xs:List V)(H:L2.Hp)(Q:L2.VK):Prop
 |mk (x c t b u:_) (h0_:xs = [x,c])(h1_:TyOf K H x t)(h2_:((∃ n,c=.ty n/\u=Value.type n)∨∃ a,c=.ref a/\u=Value.ref a))(h3_:HG K t u=some b)(h4_:Q (.bl b) H)
theorem wX:gy X (.builtin "isinstance") (rIsi X.K):=by
 intro B s O H N J Q I r h;obtain⟨x,c,t,b,u,rfl,ty,T,e,q⟩:=h;obtain⟨k,g,rfl,j,o⟩:=yB r;have f:g=u:=by
  rcases T with⟨n,rfl,rfl⟩ | ⟨a,rfl,rfl⟩
  .exact o
  .exact o
 subst f;exact AA I j ty e λl=>⟨.bl b,H,I.tok l,rfl,q⟩
theorem kit_bb(K:Gw):HG K (.type "bool") (.type "bool")=some true:=by with_unfolding_all rfl
inductive RdD(K:Gw)(H:Hp):V->PyData->Prop where
 |non:RdD K H .non .none
 |bl (b:Bool):RdD K H (.bl b) (.bool b)
 |int (i:Int):RdD K H (.int i) (.int i)
 |lst {a:Addr} {xs:List V} {ds:List PyData} (h:SqL K H a xs) (hl:xs.length=ds.length) (r:∀(i:Nat)(x:V)(d:PyData),xs[i]?=some x->ds[i]?=some d->RdD K H x d):RdD K H (.ref a) (.list ds)
 |tup {a:Addr} {xs:List V} {ds:List PyData} (h:SqT K H a xs) (hl:xs.length=ds.length) (r:∀(i:Nat)(x:V)(d:PyData),xs[i]?=some x->ds[i]?=some d->RdD K H x d):RdD K H (.ref a) (.tuple ds)
theorem jb{h:Heap}:∀{xs:List V}{us:List Value}{ds:List PyData},Vals xs us->xs.length=ds.length->(∀(i:Nat) x d,xs[i]?=some x->ds[i]?=some d->∀ u,RelV x u->∃ as,Reads h u d as)->∃ as,ReadsAll h us ds as
 |_,_,[],.nil,_,_=>⟨_,.nil⟩
 |_,_,_::_,.nil,e,_=>by cases e
 |_,_,[],.cons _ _,e,_=>by cases e
 |_,_,d::ds,.cons r b,e,k=>by
  obtain⟨A,L⟩:=k 0 _ d rfl rfl _ r;obtain⟨I,Y⟩:=jb b (K6 e) λi x j O f=>k (i+1) x j O f;exact⟨_,.cons L Y⟩
theorem RdD.reads(I:Inv X L J H s){x:V}{d:PyData}(r:RdD X.K H x d):∀ u,RelV x u->∃ as,Reads s.heap u d as:=by
 induction r with
 |non=>intro u T;cases T;exact⟨_,.none⟩
 |bl b=>intro u T;cases T;exact⟨_,.bool b⟩
 |int i=>intro u T;obtain⟨t,rfl⟩:=T;exact⟨_,.int i t⟩
 |lst h C r D =>
  intro u T
  cases T
  obtain⟨E,rv,p,_⟩:=I.list h;obtain⟨as,q⟩:=jb (h:=s.heap) rv C D;obtain⟨o,n,e,c,_,d⟩:=p;exact⟨_,.list e c d (by simpa using q)⟩
 |tup h C r D =>
  intro u T
  cases T
  obtain⟨E,rv,p,_⟩:=I.tuple h;obtain⟨as,q⟩:=jb (h:=s.heap) rv C D;obtain⟨o,e,c,n,d⟩:=p;exact⟨_,.tuple e c d (by simpa using q)⟩
inductive rSame(b:Bool)(K:Gw)(x:L2.V)(y:L2.V)(H:L2.Hp)(Q:L2.VK):Prop
 |mk (d:_) (h0_:RdD K H x d)(h1_:RdD K H y d)(h2_:SeqAt.shaped d=true)(h3_:Q (.bl b) H)
theorem op_neD(T:X.A.units+64<cLine):OpR X (LU .NotEq) (rSame false X.K):=by
 intro B s O H x y v u Q I w D h;obtain⟨d,j,o,G,q⟩:=h;obtain⟨as,L⟩:=j.reads I v w;obtain⟨bs,Y⟩:=o.reads I u D;refine ne_dataH L Y G G T ?_;rw[SeqAt.eqv_refl d (SeqAt.canLay_of_shaped G)];exact⟨.bl false,H,I,rfl,q⟩
section
variable{X:Cx}{tg:Expr}
end
section
variable{P:Program}{w:World}{H:Hp}{h:Heap}{a:Addr}{o:HO}
theorem bp.get(x:bp P w H h a o):∃ ob,h.get? a=some ob:=by
 cases o with
 |lst N=>obtain⟨_,_,_,_,e⟩:=x;exact⟨_,e⟩
 |tup N=>obtain⟨_,_,_,ob,e,_⟩:=x;exact⟨_,e⟩
 |dK m=>obtain⟨_,_,_,_,o,_,_,e,_⟩:=x;exact⟨_,e⟩
 |dT m=>obtain⟨_,_,_,_,o,_,_,e,_⟩:=x;exact⟨_,e⟩
 |set S n=>obtain⟨o,_,_,_,e,_⟩:=x;exact⟨_,e⟩
 |ins C g fs=>obtain⟨_,_,_,e,_⟩:=x;exact⟨_,e⟩
 |own y=>exact x
 |xd fs=>obtain⟨_,⟨_,_,_,e,_⟩,_⟩:=x;exact⟨_,e⟩
 |rng lo T=>obtain⟨_,_,_,e⟩:=x;exact⟨_,e⟩
 |frz ob u=>exact⟨_,x.1⟩
 |tbl i=>exact⟨_,(show h.get? a=some _ from x)⟩
 |met f y=>exact⟨_,(show h.get? a=some _ from x)⟩
 |ext l=>exact x.2.1
theorem HOk.none_of(x:HOk P w H h)(e:h.get? a=none):H a=none:=by
 cases q:H a with
 |none=>rfl
 |some u =>
  obtain⟨L,z⟩:=(x a u q).get;rw[e]at z
  cases z
end
structure XOk(X:Cx)(pins:List (Addr×Obj))(H:Hp)(b:Addr):Prop where
 old:X.s₀.heap.get? b=none
 trk:H b=none
 nl:b≠X.env.locals
 nc:∀ x c,X.env.cells.lookup x=some c->c≠b
 np:∀ p∈X.pn++pins,p.1≠b
section
variable{X:Cx}{pins:List (Addr×Obj)}{σ:St}{H H':Hp}{s s':Shared}{b:Addr}
theorem Inv.xok(I:Inv X pins σ H s)(L:X.ex = [])(e:s.heap.get? b=none)(n:H' b=none):XOk X pins H' b:=by
 refine⟨?_,n,λz=>?_,λx c q z=>?_,λp j z=>?_⟩
 .cases q:X.s₀.heap.get? b with
  |none=>rfl
  |some o =>
   obtain⟨B,Q⟩:=I.base.there b o q (by rw[L];simp)
   rw[e]at Q
   cases Q
 .obtain⟨m,⟨o,_,_,A,_⟩,_⟩:=I.loc;rw[z,A]at e
  cases e
 .obtain⟨v,o,A,_⟩:=I.cell x c q;rw[z,e]at A
  cases A
 .have:=(I.pin p j).1
  rw[z,e]at this
  cases this
theorem Inv.xstep(I:Inv X pins σ H s)(a:∀ b∈ch,XOk X pins H b)
  (keep:∀ b o,s.heap.get? b=some o->b∉ch->b∉frs X.stack->h'.get? b=some o)
  (slot:∀ b o,s.heap.get? b=some o->b∉ch->b∈frs X.stack->∃ sl,h'.get? b=some { o with slots:=sl }):Inv X pins σ H { s with heap:=h' }:=by
 have any:∀ b o,s.heap.get? b=some o->b∉ch->∃ sl,h'.get? b=some { o with slots:=sl }:=λb o e t=>by
  by_cases M:b∈frs X.stack
  .exact slot b o e t M
  .exact⟨o.slots,keep b o e t M⟩
 have Q:∀ b,b∈frs X.stack->b≠X.env.locals->b∈X.fs:=λb M n=>(GG.mp (I.stkSub b M)).elim (λz=>Nh z n) λz=>z;have Y:∀ b o,X.s₀.heap.get? b=some o->b≠X.env.locals:=λb o e=>G0 (Hg (LL e) I.ok.above);have E:∀ b o,X.s₀.heap.get? b=some o->b∉ch:=λb o e M=>by
  have:=(a b M).old;rw[e]at this
  cases this
 have J:∀ x c,X.env.cells.lookup x=some c->∀ v,s.heap.IsCell c v->h'.IsCell c v:=λx c e v ⟨o,A,hd⟩=>by
  obtain⟨sl,q⟩:=any c o A λz=>(a c z).nc x c e rfl;exact⟨_,q,hd⟩
 refine⟨I.ok,I.os,I.bare,⟨λb o e n M L=>?_,λb o e n M L=>?_,I.base.free,λb o e L=>?_,I.base.tups,I.base.frzs,I.base.tbls⟩,?_,λx c e=>?_,I.free,I.freeC,λp j=>?_,λb u e=>?_,I.len⟩
 .exact keep b o (I.base.keep b o e n M L) (E b o e) λz=>M (Q b z (Y b o e))
 .obtain⟨sl,O⟩:=I.base.slot b o e n M L;obtain⟨g,f⟩:=any b _ O (E b o e);exact⟨g,f⟩
 .obtain⟨B,O⟩:=I.base.there b o e L;obtain⟨sl,f⟩:=any b _ O (E b o e);exact⟨_,f⟩
 .obtain⟨m,⟨o,D,N,A,r⟩,C⟩:=I.loc;obtain⟨sl,f⟩:=any _ o A λz=>(a _ z).nl rfl;refine⟨m,⟨_,D,N,f,r⟩,λi x v O f G=>?_⟩;obtain⟨u,r,l⟩:=C i x v O f G;refine⟨u,r,?_⟩;rcases l with l | ⟨k,c,e,z⟩
  .exact .inl l
  .exact .inr ⟨k,c,e,J x c e _ z⟩
 .obtain⟨v,z⟩:=I.cell x c e;exact⟨v,J x c e v z⟩
 .obtain⟨e,n,ne,h,d⟩:=I.pin p j;exact⟨keep p.1 p.2 e (λz=>(a p.1 z).np p j rfl) λz=>h (Q p.1 z ne),n,ne,h,d⟩
 .have w:∀ c y,H c=some y->c∉ch/\c∉frs X.stack:=λc y q=>⟨λz=>(by rw[(a c z).trk]at q;exact nomatch q),λz=>(by rw[I.stkFree c z]at q;exact nomatch q)⟩
  refine(I.hok b u e).stay (λc v t q=>?_) (λ_ q=>q) λ_ _ q=>q;rcases t with z | z
  .rw[z]at q ⊢;exact keep b v q (w b u e).1 (w b u e).2
  .exact keep c v q (w c _ z).1 (w c _ z).2
theorem Inv.xtrack{o:HO}(I:Inv X pins σ H s)(f:XOk X pins H a)(new:bp X.prog X.w (upd H a o) s.heap a o):Inv X pins σ (upd H a o) s:=by
 have ne:∀ b u,H b=some u->b≠a:=λb u e=>ax e f.trk;have d:∀ b u,s.heap.get? b=some u->b≠a->H b=none->upd H a o b=none:=λb u _ n q=>by rw[ao n];exact q
 refine⟨I.ok,I.os,I.bare,⟨I.base.keep,I.base.slot,λb k e n L=>?_,I.base.there,λb N e=>?_,λb k N e=>?_,λb i e=>?_⟩,I.loc,I.cell,?_,λx c e=>?_,λp j=>?_,λb u e=>?_,I.len⟩
 .rw[ao (λz=>by rw[z,f.old]at e;cases e)]
  exact I.base.free b k e n L
 .have:=I.base.tups b N e
  rw[ao (ne _ _ this)];exact this
 .have:=I.base.frzs b k N e
  rw[ao (ne _ _ this)];exact this
 .obtain⟨m,q⟩:=I.base.tbls b i e;exact⟨m,by rw[ao (ne _ _ q)];exact q⟩
 .rw[ao (Ne.symm f.nl)];exact I.free
 .rw[ao (f.nc x c e)];exact I.freeC x c e
 .obtain⟨e,n,r⟩:=I.pin p j;exact⟨e,by rw[ao (f.np p j)];exact n,r⟩
 .by_cases M:b=a
  .rw[M,af]at e
   cases e
   rw[M];exact new
  .rw[ao M]at e;exact(I.hok b u e).stay (λc v _ q=>q) (λc q=>by rw[ao (ne c _ q)];exact q) λc N q=>by rw[ao (ne c _ q)];exact q
end
def Trc(h:Heap)(x:Addr)(C:Value)(T:Addr):Prop :=
 ∃ i Y c O j,h.get? x=some i/\i.cls=C/\Y[0]?=some c/\i.data=.fields Y/\Y[1]?=some (.ref T)/\T≠x/\h.get? T=some O/\O.data=.fields j/\j[3]?=some .none
def Xnw(h:Heap)(x:Addr)(C:Value):Prop:=∃ i Y c,h.get? x=some i/\i.cls=C/\i.data=.fields Y/\Y[0]?=some c/\Y[1]?=some .none
def XA(X:Cx)(B:List (Addr×Obj))(H:Hp)(s:Shared)(x:Addr)(C:Value):Prop:=XOk X B H x/\(Xnw s.heap x C∨∃ T,XOk X B H T/\Trc s.heap x C T)
section
variable{X:Cx}{pins:List (Addr×Obj)}{σ:St}{H:Hp}{s:Shared}{x:Addr}{C:Value}{E:Value->Shared->Prop}
abbrev hidX(X:Cx)(h:Heap)(ch:List Addr):Heap:=PySem.W.hideAll h (ch++frs X.stack)
theorem Inv.hidF(I:Inv X pins σ H s)(ch:List Addr):s.heap.FunFrames (hidX X s.heap ch) X.stack :=
 PySem.W.funFrames_hide I.stack λd r a D=>Hh _ (KQ.mpr ⟨d,r,D⟩)
theorem AK(ch:List Addr)(h:Heap):(hidX X h ch).StaysIn h:=λ_ _ e=>PySem.W.of_hideAll _ e
theorem jW{b:Addr}(M:b∈ch):(hidX X h ch).get? b=none:=PySem.W.hideAll_none _ (Hu _ M)
theorem Inv.left{c:Value}(I:Inv X pins σ H s)(L:X.ex = [])(a:∀ b∈ch,XOk X pins H b)(k:(hidX X s.heap ch).StaysIn h')(t:h'.TracedW (hidX X s.heap ch) x C c)(u:s.heap.UpToSlots h') :
  Inv X pins σ H { s with heap:=h' }/\∃ T,XOk X pins H T/\Trc h' x C T:=by
 have O:∀ b o,s.heap.get? b=some o->b∈frs X.stack->∃ p,h'.get? b=some { o with slots:=p }:=λb o e M=>by
  obtain⟨_,B,A,hd⟩:=I.stack.mem M;rw[e]at A
  cases A
  exact u b o e hd
 refine⟨I.xstep a (λb o e E G=>k b o (KI _ e λz=>(GU.mp z).elim E G)) λb o e _ M=>O b o e M,?_⟩;obtain⟨i,Y,T,m,j,r,⟨d,w⟩,hd,J,n,h,l,v,g⟩:=t;refine⟨T,?_,i,Y,c,m,j,r,d,w,hd,J,h,l,v,g⟩
 cases q:s.heap.get? T with
 |none=>exact I.xok L q (I.hok.none_of q)
 |some o =>
  by_cases z:T∈ch
  .exact a T z
  .by_cases N:T∈frs X.stack
   .obtain⟨_,B,A,f⟩:=I.stack.mem N;obtain⟨p,e⟩:=O T o q N;rw[l]at e
    cases e
    rw[q]at A
    cases A
    exact Nh v (f j)
   .have:=KI (ch++frs X.stack) q λD=>(GU.mp D).elim z N
    rw[n]at this
    cases this
theorem Inv.leave{Q:Unit->Shared->Prop}(I:Inv X pins σ H s)(D:X.ex = [])(y:X.stack=X.env::X.outer)(f:X.env.frame=some X.env.locals)(xa:XA X pins H s x C)
  (h:∀ h' T,Inv X pins σ H { s with heap:=h' }->XOk X pins H x->XOk X pins H T->Trc h' x C T->Q () { s with heap:=h' }):wpAny (model X.prog X.w) X.A (leaving X.env (.ref x)) Q E s:=by
 obtain⟨o,q⟩:=xa;have z:X.A.frames=some (X.env::X.outer):=by rw[← y];exact I.ok.frames
 rcases q with⟨i,Y,c,r,t,hd,m,J⟩ | ⟨T,G,i,Y,c,O,j,r,t,m,hd,J,u,l,v,g⟩
 .have a:∀ b∈[x],XOk X pins H b:=λb M=>by
   have e:b=x:=by simpa using M
   rw[e];exact o
  refine wpAny_leaving_firstW (base:=hidX X s.heap [x]) z (y▸I.hidF [x]) f r (AK _ _) (jW (by simp)) hd J m λh' L=>?_
  obtain⟨d,_,k,B⟩:=L;obtain⟨p,T,G,n⟩:=I.left D a d k B;rw[t]at n;exact h h' T p o G n
 .have a:∀ b∈[x,T],XOk X pins H b:=λb M=>by
   rcases GG.mp M with e | M
   .rw[e];exact o
   .have e:b=T:=by simpa using M
    rw[e];exact G
  refine wpAny_leaving_nextW (base:=hidX X s.heap [x,T]) z (y▸I.hidF [x,T]) f ⟨i,Y,T,O,j,r,⟨t,m⟩,hd,J,jW (by simp),u,l,v,g⟩ (AK _ _) (jW (by simp)) λh' L=>?_
  obtain⟨d,_,k,B⟩:=L;obtain⟨p,T',N,n⟩:=I.left D a d k B;exact h h' T' p o N n
end
section
variable{X:Cx}{k:Nat}{f C:Addr}{fd:FuncData}{ps:List Str}{sp:Sp}{dvs:List V}{ds:List Value}{W:WK}{x m:Str}{p pos apos:Pos}{e o:Expr}{es:List Expr}{ta:TE}{t:TA}
end
abbrev veM:List Value:=[.type "ValueError",.type "Exception",.type "BaseException",.type "object"]
abbrev ExC(K:Gw)(C:Addr):Prop:=KN K C veM "ValueError.__new__" = true
theorem A7(e:ExC K C)(X:K.In h):∃ bm N nm o bs hdct sn sub ab col dd k0 k1 k2 k3 k5 mN,h.get? C=some (excClassObj nm o C N bs bm hdct sn sub ab col dd k0 k1 k2 k3 k5 "ValueError.__new__")/\h.Ns N mN/\mN "__init__" = none/\OwnTail h veM bm/\∀ B b,HV K C B=some b->(Value.ref C::bm).contains B=b:=by
 have z:=e;unfold ExC KN at z;split at z
 .rename_i u v w L;split at z
  .rename_i Cx q c I Q d i j D f;have t:=z;simp only[JP,beq_iff_eq,Bool.not_eq_true']at t;obtain⟨⟨⟨⟨⟨y,E⟩,r⟩,k⟩,s⟩,m⟩:=t;subst y;subst E;obtain⟨l⟩:=w;have g:l = [c,I,Q,d,some (.builtin "ValueError.__new__"),j]:=f;subst g;obtain⟨nm,bs,A,x,o,hd,sn,sub,ab,col,del⟩:=v;have n:A=.ref Cx::q:=D;have p:del=false:=r;subst n p;refine⟨q,x,nm,o,bs,hd,sn,sub,ab,col,u,c,I,Q,d,j,_,X _ _ L,.of_isNs (PySem.W.isNs_of_in X s),PySem.W.nsMap_none_of_in X s m,PySem.W.tail_of_in X k,λB b a=>?_⟩;unfold HV Lz at a;rw[L]at a;simpa using a
  .cases z
 .cases z
section
variable{X:Cx}{pins:List (Addr×Obj)}{σ:St}{H:Hp}{s:Shared}{x:Addr}{C:Value}
def Cx.marked(X:Cx)(v:Value):Cx:={ X with A:=X.A.mark (some v),calm:=false,xe:=λ_ _=>False }
theorem Inv.marked(I:Inv X pins σ H s)(v:Value):Inv (X.marked v) pins σ H s :=
 ⟨⟨I.ok.mod,I.ok.kind,I.ok.glob,I.ok.blt,I.ok.above,I.ok.inj,I.ok.has,I.ok.cab,λz=>(by cases z),I.ok.frames,I.ok.stk,I.ok.exf,I.ok.bs,I.ok.bsz,I.ok.noex,I.ok.exfs,I.ok.funs,I.ok.frf⟩,I.os,I.bare,I.base,I.loc,I.cell,I.free,I.freeC,I.pin,I.hok,I.len⟩
theorem Inv.unmarked{hd:X.calm=true->X.A.handled=none}{fr:X.A.frames=some X.stack}{v:Value}(I:Inv (X.marked v) pins σ H s):Inv X pins σ H s :=
 ⟨⟨I.ok.mod,I.ok.kind,I.ok.glob,I.ok.blt,I.ok.above,I.ok.inj,I.ok.has,I.ok.cab,hd,fr,I.ok.stk,I.ok.exf,I.ok.bs,I.ok.bsz,I.ok.noex,I.ok.exfs,I.ok.funs,I.ok.frf⟩,I.os,I.bare,I.base,I.loc,I.cell,I.free,I.freeC,I.pin,I.hok,I.len⟩
theorem Inv.gone{n:Str}{m:Str->Option Value}{v:Option Value}(I:Inv X pins σ H s)(g:X.N.Nodup)(hi:X.N[i]?=some n)(C:s.heap.Ns X.env.locals m/\∀ (i:Nat) (x:Str) (v:V),X.N[i]?=some x->σ[i]?=some (some v)->Vis X.env.scope x->∃ u,RelV v u/\Look X.env s.heap m x u)
  (T:h'.Ns X.env.locals (λy=>if y=n then v else m y)) (G:LQ X.env.locals s.heap h'):Inv X pins (σ.set i none) H { s with heap:=h',toks:=tk }:=by
 have lo:∀ b o,X.s₀.heap.get? b=some o->b≠X.env.locals:=λb o e=>G0 (Hg (LL e) I.ok.above);obtain⟨oL,_,_,J,_⟩:=id C.1;refine⟨I.ok,I.os,I.bare,⟨λb o e E M L=>(G.2 b (lo b o e)).trans (I.base.keep b o e E M L),λb o e E M L=>?_,I.base.free,λb o e L=>?_,I.base.tups,I.base.frzs,I.base.tbls⟩,⟨_,T,λj y h O f Q=>?_⟩,λy c e=>?_,I.free,I.freeC,λp D=>?_,λb u e=>?_,by simpa using I.len⟩
 .obtain⟨l,q⟩:=I.base.slot b o e E M L;exact⟨l,(G.2 b (lo b o e)).trans q⟩
 .obtain⟨Y,q⟩:=I.base.there b o e L;exact⟨Y,(G.2 b (lo b o e)).trans q⟩
 .by_cases B:j=i
  .subst B;rw[Jp]at f;split at f
   .split at f<;>cases f
   .rename_i z;exact Nh rfl z
  .rw[HI (Ne.symm B)]at f;obtain⟨u',a,A⟩:=C.2 j y h O f Q;refine⟨u',a,?_⟩;rcases A with⟨k,e⟩ | ⟨k,c,e,z⟩
   .refine .inl ⟨k,?_⟩;have ny:y≠n:=λq=>B (pX g O (q▸hi));show(if y=n then v else m y)=some u';rw[Ng ny];exact e
   .exact .inr ⟨k,c,e,z.sameBut G (I.cne y c e)⟩
 .obtain⟨w2,z⟩:=I.cell y c e;exact⟨w2,z.sameBut G (I.cne y c e)⟩
 .obtain⟨e,E,ne,r,d⟩:=I.pin p D;exact⟨(G.2 p.1 ne).trans e,E,ne,r,d⟩
 .refine(I.hok b u e).stay (λc v2 t q=>(G.2 c λz=>?_).trans q) (λ_ q=>q) λ_ _ q=>q;have w:=I.free;rcases t with y | y
  .rw[← y,z,w]at e;cases e
  .rw[z,w]at y;cases y
end
section
variable{M:Model}{A:Around}{E:Value->Shared->Prop}{h:Heap}{g:Array GenState}{d:Drawn}{t:Nat}{os:OsState}
end
def Cx.tried(X:Cx)(B:List (Addr×Obj))(E:Value->Shared->Prop):Cx:={ X with pn:=X.pn++B,xe:=E }
section
variable{X:Cx}{pins pins':List (Addr×Obj)}{σ:St}{H:Hp}{s:Shared}{E:Value->Shared->Prop}{b:Addr}
theorem Inv.tried(I:Inv X pins σ H s):Inv (X.tried pins E) [] σ H s :=
 ⟨⟨I.ok.mod,I.ok.kind,I.ok.glob,I.ok.blt,I.ok.above,I.ok.inj,I.ok.has,I.ok.cab,I.ok.hd,I.ok.frames,I.ok.stk,I.ok.exf,I.ok.bs,I.ok.bsz,I.ok.noex,I.ok.exfs,I.ok.funs,I.ok.frf⟩,I.os,I.bare,I.base,I.loc,I.cell,I.free,I.freeC,λp j=>I.pin p (by rw[JB]at j;exact j),I.hok,I.len⟩
theorem Inv.untried(I:Inv (X.tried pins E) pins' σ H s):Inv X pins σ H s :=
 ⟨⟨I.ok.mod,I.ok.kind,I.ok.glob,I.ok.blt,I.ok.above,I.ok.inj,I.ok.has,I.ok.cab,I.ok.hd,I.ok.frames,I.ok.stk,I.ok.exf,I.ok.bs,I.ok.bsz,I.ok.noex,I.ok.exfs,I.ok.funs,I.ok.frf⟩,I.os,I.bare,I.base,I.loc,I.cell,I.free,I.freeC,λp j=>I.pin p (Hu _ j),I.hok,I.len⟩
theorem XOk.untried(x:XOk (X.tried pins E) pins' H b):XOk X pins H b:=⟨x.old,x.trk,x.nl,x.nc,λp j=>x.np p (Hu _ j)⟩
theorem SP.untried{D:Ends}{f:Flow}(h:SP (X.tried pins E) [] D f s):SP X pins D f s:=by
 cases f with
 |next=>obtain⟨z,j,I,q⟩:=h;exact⟨z,j,I.untried,q⟩
 |brk=>obtain⟨z,j,I,q⟩:=h;exact⟨z,j,I.untried,q⟩
 |cont=>obtain⟨z,j,I,q⟩:=h;exact⟨z,j,I.untried,q⟩
 |ret u=>obtain⟨v,z,j,I,r,q⟩:=h;exact⟨v,z,j,I.untried,r,q⟩
end
section
variable{X:Cx}{k:Nat}{f:Addr}{fd:FuncData}{ps:List Str}{sp:Sp}{dvs:List V}{ds:List Value}{W:WK}{x:Str}{p pos:Pos}{e:Expr}{es:List Expr}{t:TA}
end
section
variable{prog:Program}{w:World}{A:Around}{E:Value->Shared->Prop}{s:Shared}
theorem Al:typeLookup (.type "list_reverseiterator") "__len__" = pure none:=by rw[typeLookup_type,builtinLookup_eq_fast];kernel_rfl
theorem CU:typeLookup (.type "list_reverseiterator") "__length_hint__" = pure (some (.builtin "list_reverseiterator.__length_hint__")):=by rw[typeLookup_type,builtinLookup_eq_fast];kernel_rfl
theorem C8{r:Addr}{Q:Bool->Shared->Prop} (l:s.TypeIs (.ref r) "list_reverseiterator") (h:Q false s):wpAny (model prog w) A (Ms (.ref r)) Q E s:=by
 unfold Ms;refine LX (Mr l Al ?_);wp_delta;refine Mt (λm=>Nh m (by decide)) (λ_=>?_)
 refine Mt (λm=>Nh m (by decide)) (λ_=>?_)
 refine LX (Mr l CU ?_);generalize a:("list_reverseiterator.__length_hint__" : String)=c;wp_delta;rw[show splitId c=some ("list_reverseiterator","__length_hint__") from by subst a;decide]
 subst a;refine LX (Mu (T:="list_reverseiterator") (b:=true) l (by rw[isSubtype_type];kernel_rfl) ?_)
 refine Mt (λm=>Nh m (by decide)) (λ_=>?_)
 refine Mt (λ_=>?_) (λm=>Nh (by decide) m)
 refine Mt (λm=>Nh m (by decide)) (λ_=>?_)
 exact L4 h
end
theorem Inv.track{o:HO}(I:Inv X L J H s)(f:FpOk X L H a)(new:bp X.prog X.w (upd H a o) s.heap a o):Inv X L J (upd H a o) s:=by
 obtain⟨r,y,g,G,d,x⟩:=f;have ne:∀ b u,H b=some u->b≠a:=λb u e=>ax e r;refine I.step (g':=s.gens) (t':=s.toks) (d':=s.drawn) (h':=s.heap) (ch:=[a]) (λb M=>?_) (λb o _ _ _ e _=>e) (λb o _ _ _ e _=>⟨o.slots,e⟩) (λb o t e n=>?_) (λb o _ e=>⟨o,e⟩) (λb N e=>by rw[ao (ne b _ e)];exact e) (λb o u e=>by rw[ao (ne b _ e)];exact e)
  (λb i e=>⟨#[],by rw[ao (ne b _ e),e];simp⟩) (λm C=>C) (λb u e=>?_) I.bare
 .have B:b=a:=by simpa using M
  rw[B];exact⟨G,y,d,x⟩
 .rw[ao (λz=>t (by simp[z]))]
  exact n
 .by_cases M:b=a
  .rw[M,af]at e
   cases e
   rw[M];exact new
  .rw[ao M]at e;exact(I.hok b u e).stay (λc v _ q=>q) (λc q=>by rw[ao (ne c _ q)];exact q) λc N q=>by rw[ao (ne c _ q)];exact q
theorem Inv.turnedL(I:Inv X L J H s)(k:∀ b o,b∉fp->s.heap.get? b=some o->h'.get? b=some o)(E:∀ b∈fp,FpOk X L H b):Inv X L J H { s with heap:=h',toks:=t' }:=by
 have a:∀ b u,H b=some u->b∉fp:=λb u e z=>by rw[(E b z).1]at e;cases e
 refine I.step (g':=s.gens) (d':=s.drawn) (ch:=fp) (λb M=>?_) (λb o _ _ t e _=>k b o t e) (λb o _ _ t e _=>⟨o.slots,k b o t e⟩) (λ_ _ _ _ n=>n)
  (λb o t e=>⟨o,k b o t e⟩) (λ_ _ e=>e) (λ_ _ _ e=>e) (λb i e=>⟨#[],by rw[e];simp⟩) (λm C=>?_) (λb u e=>?_) I.bare
 .obtain⟨h,y,g,G,d,x⟩:=E b M;exact⟨G,y,d,x⟩
 .obtain⟨o,D,N,A,r⟩:=C;exact⟨o,D,N,k _ o (λz=>(E _ z).2.1 rfl) A,r⟩
 .refine(I.hok b u e).stay (λc v t q=>k c v ?_ q) (λ_ q=>q) λ_ _ q=>q;rcases t with z | z
  .rw[z];exact a b u e
  .exact a c _ z
def Ite(K:Gw)(a:Addr):It :=
 ⟨λi H=>∃ N x,SqL K H a N/\N[i]?=some x,λi H v j=>∃ T x,H T=none/\v=.ref T/\j=upd H T (.tup [.int (i:Int),x])/\∀ N,SqL K H a N->N[i]?=some x,λi H=>∃ N,SqL K H a N/\N.length<=i⟩
theorem yF{es:List Expr}{k:Nat}(a e it:Addr)(aL:e≠it):Turn P w K (.Tuple es k pos) (Ite K a) [e,it] e (λi h=>(∃ ab,IsEnum h e it ((i:Nat):Int) ab)/\h.IsListIter it a i) where
 mem:=by simp
 obj:=λi h st b M=>by
  obtain⟨⟨ab,r⟩,o,f,c,d⟩:=st;rcases GG.mp M with rfl | M
  .exact⟨_,r,λv z=>by
    have z':Data.fields _=Data.cell v:=z
    cases z'⟩
  .have e3:b=it:=by simpa using M
   subst e3;exact⟨o,f,λv z=>by rw[d]at z;cases z⟩
 keep:=λi h h' st y=>by
  obtain⟨⟨ab,r⟩,aa⟩:=st;exact⟨⟨ab,y e (by simp) _ r⟩,aa.at λo q=>y it (by simp) o q⟩
 item:=by
  intro X hP hw hK t i B s O H E I D st j;subst hP hw hK;obtain⟨N,x,n,L⟩:=j;obtain⟨m,rv,p,hz⟩:=I.list n;obtain⟨u,g,ru⟩:=rv.get L;obtain⟨⟨ab,r⟩,aa⟩:=st;refine wpAny_pyNext_enum_item r aa p.isList (x:=u) (by simpa using g) aL λh' A aO l ac G=>?_
  refine⟨_,rfl,?_⟩;refine wpAny_letOwnedTupleGo_enum A λY aR an=>?_;have al:LQ e h' Y:=an;have aS:e<s.heap.objs.size:=LL r;have ap:it<s.heap.objs.size:=by obtain⟨_,q,_⟩:=aa;exact LL q
  have am:H s.heap.objs.size=none:=I.hok.fresh (Gy _);have I0:Inv X B O (upd H s.heap.objs.size (.tup [.int (i:Int),x])) { s with heap:=s.heap.push { cls:=.type "tuple",data:=.seq #[.int (i:Int) s.toks,u] },toks:=s.toks+1 } :=
   I.laid (t':=s.toks+1) (λb u e=>L5 _ e) (Gy _) ⟨by show 2<=LK;decide,[.int (i:Int) s.toks,u],.cons ⟨_,rfl⟩ (.cons ru .nil),⟨_,L6 _ rfl,rfl,_,rfl⟩⟩
  have aI:∀ b∈[e,it],b<s.heap.objs.size:=λb M=>by
   rcases GG.mp M with rfl | M
   .exact aS
   .have e3:b=it:=by simpa using M
    rw[e3];exact ap
  have T:∀ b∈[e,it],upd H s.heap.objs.size (.tup [.int (i:Int),x]) b=none:=λb M=>by
   rw[ao (G0 (aI b M))];exact(D b M).1
  have I2:Inv X B O (upd H s.heap.objs.size (.tup [.int (i:Int),x])) { s with heap:=Y,toks:=s.toks+1 }:=Inv.turnedL (s:={ s with heap:=s.heap.push { cls:=.type "tuple",data:=.seq #[.int (i:Int) s.toks,u] },toks:=s.toks+1 }) (h':=Y) I0 (t':=s.toks+1) (fp:=[e,it]) (λb o M q=>by
   have nb:b≠e:=λz=>M (by simp[z])
   have aT:b≠it:=λz=>M (by simp[z])
   refine(al.2 b nb).trans ?_;rcases Heap.get?_push_cases q with⟨z1,z2⟩ | q
   .rw[z1,z2];exact l
   .exact G b o nb aT q) λb M=>⟨T b M,(D b M).2⟩
  refine⟨.ref s.heap.objs.size,_,I2,rfl,⟨s.heap.objs.size,x,am,rfl,rfl,λJ Q=>by rw[I.list_inj Q n];exact L⟩,?_,T⟩
  refine⟨⟨u,?_⟩,aO.at λo q=>(al.2 it (Ne.symm aL)).trans q⟩;have e4:(((i+1:Nat):Nat):Int)=(i:Int)+1:=by omega
  rw[e4];exact aR
 done:=by
  intro X hP hw hK t i B s O H E I D st j;subst hP hw hK;obtain⟨N,n,L⟩:=j;obtain⟨m,rv,p,hz⟩:=I.list n;obtain⟨⟨ab,r⟩,aa⟩:=st;have C:=rv.length;obtain⟨f0,f1,f2,f3,f4,f5⟩:=D it (by simp)
  exact wpAny_pyNext_enum_end (I.ok.hd t) r aa p.isList (by simp;omega) λh' eb=>⟨rfl,I.turned (t':=s.toks) (λb o M e=>eb b o M e) f0 f1 f3 f4 f5⟩
 self:=λ_ _ _ _ _ st h=>by
  obtain⟨⟨ab,r⟩,_⟩:=st;exact wpAny_pyIter_enum r h
def iEnum(K:Gw)(T:TA):TI:=λO H R=>T O H λY l=>∃ a,Y = [.ref a]/\(∃ N,SqL K l a N)/\R (Ite K a) l
theorem fO{l:Expr}{T:TA}{es:List Expr}{k:Nat}{tp p:Pos} (j:Gl X "enumerate") (C:X.mg "enumerate" = none) (D:PA X [l] T) (x:LR [l] X.env = [(false,eval l X.env)]:=by rfl) :
  PI X (.Tuple es k tp) (.Call (.Name "enumerate" p) [l] [] pos) (iEnum X.K T):=by
 intro B s O H R I h;refine Call_ (gX I j C sS (L7 (thn (D pos B s O H _ I h) λz g ⟨Y,J,i,f,L⟩=>?_) x rfl));obtain⟨a,e,⟨N,n⟩,q⟩:=L;subst e;obtain⟨u,rfl,d⟩:=i3 f
 cases d
 obtain⟨E,rv,p,t⟩:=i.list n;refine call_enumerate_list p.isList λA r c y G=>?_;refine wpAny_pyIter_enum r ?_;refine⟨g.heap.objs.size+1,[g.heap.objs.size+1,g.heap.objs.size],_,_,J,rfl,i.kept (t':=g.toks) G,yF a _ _ (Nat.succ_ne_self _),⟨⟨_,r⟩,c⟩,λb M=>?_,q⟩;have m:g.heap.objs.size<=b:=by
  rcases GG.mp M with rfl | M
  .exact IG _
  .have Q:b=g.heap.objs.size:=by simpa using M
   rw[Q];exact Gy _
 exact i.fpOk m (i.hok.fresh m)
theorem mE{g:TG}{tb:TS}{D:Ends}(Pv:Nat->St->Hp->Prop)(w:Pv 0 J H)(hl:∀ i J H,i<=xs.length->Pv i J H->SqL K H a xs)
  (G:∀ i x J H T,xs[i]?=some x->Pv i J H->H T=none->g (.ref T) J (upd H T (.tup [.int (i:Int),x])) λh H2=>tb { D with nx:=Pv (i+1),ct:=Pv (i+1),bk:=D.nx } h H2) (hd:∀ J H,Pv xs.length J H->D.nx J H) :
  ∃ W:Nat->Nat->St->Hp->Prop,(∃ m,W 0 m J H)/\∀ i m J H,W i m J H ->
   ((Ite K a).stop i H/\D.nx J H)∨((Ite K a).go i H/\∃ N:St->Hp->Prop,(∀ σ' H',N σ' H'->∃ Q,Q<m/\W (i+1) Q σ' H')/\∀ x H',(Ite K a).yld i H x H'->g x J H' λh H2=>tb { D with nx:=N,ct:=N,bk:=D.nx } h H2):=by
 refine⟨λi m J H=>m=xs.length-i/\i<=xs.length/\Pv i J H,⟨xs.length,by simp,Hq _,w⟩,?_⟩
 rintro i m J H ⟨rfl,o,p⟩;have q:=hl i J H o p;by_cases f:i<xs.length
 .refine .inr ⟨⟨xs,xs[i],q,by simp[f]⟩,Pv (i+1),λσ' H' A=>⟨xs.length-(i+1),∅,rfl,f,A⟩,λv H' y=>?_⟩
  obtain⟨T,x,l,rfl,rfl,y⟩:=y;exact G i x J _ T (y xs q) p l
 .have e:i=xs.length:=by omega
  subst e;exact .inl ⟨⟨xs,q,Gy _⟩,hd J H p⟩
theorem qi(h:j<n):ixN n (j:Int)=some j:=by
 unfold ixN;rw[Nf ∅,Nf ∅]
 rfl
theorem ic:∀{ds:List PyData},(∀ d∈ds,d.canLay0=true)->PyData.canLayAll0 ds=true
 |[],_=>by simp[PyData.canLayAll0]
 |d::ds,h=>by
  rw[PyData.canLayAll0,h d (by simp),ic λx L=>h x (by simp[L])]
  rfl
theorem jy{n:Nat}:∀{ds:List PyData},(∀ d∈ds,d.depth<=n)->PyData.depthAll ds<=n
 |[],_=>by simp[PyData.depthAll]
 |d::ds,h=>by
  have J:=h d (by simp)
  have Y:=jy (ds:=ds) λx L=>h x (GD _ L);rw[PyData.depthAll];omega
theorem mP{ds:List PyData}(h:∀ d∈ds,d.canLay0=true/\d.depth<=10):SeqAt.shaped (.list ds)=true:=by
 have J:=ic λd hd=>(h d hd).1;have Y:=jy λd hd=>(h d hd).2;have g:Mv (.list ds)<=64:=by simp only[Mv];omega
 show(Mw (.list ds)&&decide (Mv (.list ds)<=64))=true;rw[JP];exact⟨by simp only[Mw];exact J,Mq g⟩
def cxG(X:Cx)(scope:Scope)(fr:List (Str×Nat))(xs:List Str)(C:Addr)(ex:List Addr)(s:Shared)(H:Hp):Cx where
 prog:=X.prog
 w:=X.w
 K:=X.K
 mg:=X.mg
 base:=X.base
 A:=X.A
 N:=xs++fr.map (·.1)
 s₀:=s
 H₀:=H
 env:=compEnvC scope (clOf X.env fr) C X.env
 outer:=X.stack
 stack:=X.stack
 ex:=ex
 fn:=λ_=>false
 calm:=X.calm
 pn:=[]
 xe:=λ_ _=>False
structure lR(X:Cx)(scope:Scope)(fr:List (Str×Nat))(xs:List Str):Prop where
 clos:closureFor scope X.env=pure (clOf X.env fr)
 cell:∀ y∈scope.names,y.2≠.cell
 kind:scope.kind=.function
 names:∀ y∈scope.names,y.2=.local->scope.names.lookup y.1=some .local
 slot:∀ p∈fr,X.N[p.2]?=some p.1/\X.env.kindOf p.1=some .cell
 has:∀ y∈(relabel scope X.env).names,(y.2=.cell∨y.2=.free)->y.1∈fr.map (·.1)
 frk:∀ p∈fr,(relabel scope X.env).names.lookup p.1=some .cell
theorem lR.of{xs:List Str}(clos:closureFor scope X.env=pure (clOf X.env fr))(cell:∀ y∈scope.names,y.2≠.cell)(kind:scope.kind=.function)(names:∀ y∈scope.names,y.2=.local->scope.names.lookup y.1=some .local)
  (slot:∀ p∈fr,X.N[p.2]?=some p.1/\X.env.kindOf p.1=some .cell) (h:∀ z∈scope.names,z.2=.free->z.1∈fr.map (·.1)) (frk:∀ p∈fr,(relabel scope X.env).names.lookup p.1=some .cell):lR X scope fr xs where
 clos:=clos
 cell:=cell
 kind:=kind
 names:=names
 slot:=slot
 has:=λz g G=>by
  obtain⟨⟨n,k⟩,C,e⟩:=Hn.mp (show z∈scope.names.map _ from g);have Y:=cell _ C;dsimp only at e Y;have T:z.1=n:=by rw[← e];split<;>rfl
  have D:k=.free:=by
   by_cases q:k=.free
   .exact q
   .have M:(k == NameKind.free)=false:=by simpa using q
    rw[M]at e;simp only[HM,HL,if_false]at e;subst e;exact(G.elim Y q).elim
  have:=h _ C D;rw[T];exact this
 frk:=frk
abbrev nons(xs:List Str):St:=GH xs.length none
section
variable{X:Cx}{pins:List (Addr×Obj)}{σ:St}{H:Hp}{s:Shared}{scope:Scope}{fr:List (Str×Nat)}{xs:List Str}
theorem lR.cells(O:lR X scope fr xs)(I:Inv X pins σ H s){y:Str}{c:Addr}(h:(clOf X.env fr).lookup y=some c):X.env.cells.lookup y=some c:=by
 obtain⟨C,e⟩:=iX h;obtain⟨p,j,N⟩:=Hn.mp C;have k:=(O.slot p j).2;rw[N]at k;obtain⟨L,Q⟩:=I.ok.has y (.inl k);rw[Q]at e;rw[Q,e];rfl
theorem AD(O:lR X scope fr xs)(I:Inv X pins σ H s)(E:∀ b∈fp,FpOk X pins H b)(an:∀ b∈fp,b<s.heap.objs.size){g:Heap}(N:g=s.heap.push (Mx []))
  (G:∀ b o,g.get? b=some o->h'.get? b=some o) (hC:h'.Ns g.objs.size λ_=>none) :
  Inv (cxG X scope fr xs g.objs.size (s.heap.objs.size::fp) { s with heap:=g } H) (X.pn++pins++[(s.heap.objs.size,Mx [])]) (nons xs++frOf fr σ) H { s with heap:=h',toks:=tk }:=by
 have aa:g.objs.size=s.heap.objs.size+1:=by rw[N,Me]
 have kp:∀ b o,s.heap.get? b=some o->g.get? b=some o:=λb o e=>by rw[N];exact L5 _ e
 have ap:∀ b o,s.heap.get? b=some o->h'.get? b=some o:=λb o e=>G b o (kp b o e);have aT:h'.get? s.heap.objs.size=some (Mx []):=G _ _ (by rw[N];exact L6 _ rfl)
 have ac:∀ b,b<s.heap.objs.size->b≠g.objs.size:=λb e=>by rw[aa];exact G0 (Ik e)
 have aI:s.heap.objs.size≠g.objs.size:=by rw[aa];exact G0 (HB _)
 have al:H g.objs.size=none:=I.hok.fresh (by rw[aa];exact IG _)
 have a0:H s.heap.objs.size=none:=I.hok.fresh (Gy _);have cne:∀ y c,X.env.cells.lookup y=some c->c<s.heap.objs.size:=λy c e=>by
  obtain⟨v,q⟩:=I.cell y c e;exact q.lt
 have aO:∀ b,b≠X.env.locals->b∉X.fs->b∉frs X.stack:=λb J Y z=>(GG.mp (I.stkSub b z)).elim J Y;have aL:s.heap.objs.size∉frs X.stack:=aO _ (HY I.lt) (I.nofs (Gy _));refine⟨⟨I.ok.mod,O.kind,I.ok.glob,I.ok.blt,Gy _,?_,?_,λ_ _ z _=>(by cases z),I.ok.hd,I.ok.frames,.inl rfl,?_,?_,?_,?_,?_,?_,I.stkFree⟩,rfl,I.bare,Un.kept G,?_,?_,al,?_,?_,I.hok.kept ap,?_⟩
 .intro y z c J Y;exact I.ok.inj y z c (O.cells I J) (O.cells I Y)
 .intro y Q;have x:y∈fr.map (·.1):=by
   rcases Q with Q | Q
   .exact O.has (y,_) (IJ Q) (.inl rfl)
   .exact O.has (y,_) (IJ Q) (.inr rfl)
  exact⟨_,dZ x⟩
 .intro b M;rcases GG.mp M with rfl | M
  .exact⟨aI,λy c e=>G0 (cne y c (O.cells I e))⟩
  .exact⟨ac b (an b M),λy c e=>(E b M).2.2.2.2.1 y c (O.cells I e)⟩
 .intro b o e;exact⟨kp b o (I.bs b o e).1,(I.bs b o e).2⟩
 .show X.base.objs.size<=g.objs.size;rw[aa];exact KY (Hy I.ok.bsz I.sz)
 .intro b o e M;rcases GG.mp M with z | M
  .have:=LL (I.bs b o e).1
   rw[z]at this;exact HF _ this
  .rcases(E b M).2.2.2.1 with z | z
   .exact I.ok.noex b o e z
   .exact Nh (Hg (LL (I.ok.bs b o e).1) z) (HF _)
 .intro b M;rcases GG.mp M with z | M
  .rw[z];exact aL
  .exact aO b (E b M).2.1 (E b M).2.2.1
 .exact(I.kept (h':=g) (t':=s.toks) kp).stack
 .refine⟨_,hC,λi y v A f h=>?_⟩;have aR:(xs++fr.map (·.1))[i]?=some y:=A;by_cases T:i<xs.length
  .rw[GB (by simpa using T)]at f
   rw[Ia,Nf T]at f
   cases f
  .have ab:(fr.map (·.1))[i-xs.length]?=some y:=by
    rw[Gz ∅]at aR
    exact aR
   have am:(frOf fr σ)[i-xs.length]?=some (some v):=by
    rw[Gz (by simp;omega)]at f
    simpa using f
   generalize i-xs.length=k at ab am;unfold frOf at am;rw[GC]at ab am
   cases q:fr[k]? with
   |none=>rw[q]at ab;cases ab
   |some p =>
    rw[q]at ab am;have ey:p.1=y:=G3 ab;have ev:(σ[p.2]?).join=some v:=G3 am;have j:p∈fr:=Gv q;obtain⟨B,hK⟩:=O.slot p j;have aS:=O.frk p j;rw[ey]at B hK aS;have a1:σ[p.2]?=some (some v):=by
     cases a:σ[p.2]? with
     |none=>rw[a]at ev;cases ev
     |some w=>rw[a]at ev;exact congrArg some ev
    obtain⟨m,t,C⟩:=I.loc;obtain⟨u,r,l⟩:=C p.2 y v B a1 (.inr (.inl hK));refine⟨u,r,?_⟩;rcases l with⟨k1,_⟩ | ⟨_,c,ec,z⟩
    .rw[hK]at k1;cases k1
    .have x:y∈fr.map (·.1):=by rw[← ey];exact Hn.mpr ⟨p,j,rfl⟩
     have el:=dZ (env:=X.env) x;rw[ec]at el;exact .inr ⟨.inl aS,c,el,by obtain⟨o,D,hd⟩:=z;exact⟨o,ap _ _ D,hd⟩⟩
 .intro y c e;obtain⟨v,o,D,hd⟩:=I.cell y c (O.cells I e);exact⟨v,o,ap _ _ D,hd⟩
 .intro y c e;exact I.freeC y c (O.cells I e)
 .intro p j;rcases GU.mp j with j | j
  .cases j
  .rcases GU.mp j with j | j
   .obtain⟨e,n,ne,nf,d⟩:=I.pin p j;exact⟨ap _ _ e,n,ac _ (LL e),aO _ ne nf,d⟩
   .have L:p=(s.heap.objs.size,Mx []):=by simpa using j
    subst L;exact⟨aT,a0,aI,aL,λv z=>by cases z⟩
 .show(nons xs++frOf fr σ).length=(xs++fr.map (·.1)).length;unfold frOf;simp
theorem qj{g:Heap}{σ':St}(I:Inv X pins σ H s)(D:∀ b∈fp,FpOk X pins H b)(N:g=s.heap.push (Mx []))
  (J:Inv (cxG X scope fr xs g.objs.size (s.heap.objs.size::fp) { s with heap:=g } H) (X.pn++pins++[(s.heap.objs.size,Mx us)]) σ' H' s') (p:Vals ys us) (hl:ys.length<=LK) :
  Inv X pins σ (upd H' s.heap.objs.size (.lst ys)) s'/\H' s.heap.objs.size=none/\FpOk X pins (upd H' s.heap.objs.size (.lst ys)) g.objs.size/\∃ m,s'.heap.Ns g.objs.size m:=by
 have y:g.objs.size=s.heap.objs.size+1:=by rw[N,Me]
 have d:∀ b o,s.heap.get? b=some o->g.get? b=some o:=λb o e=>by rw[N];exact L5 _ e
 obtain⟨t,h,_,_,_⟩:=J.pin (s.heap.objs.size,Mx us) (by simp)
 have k:g.objs.size≠s.heap.objs.size:=by rw[y];exact HY (HB _)
 have j:∀ b u,H' b=some u->b≠s.heap.objs.size:=λb u e z=>by rw[z]at e;rw[e]at h;cases h
 have L:∀ b o,s.heap.get? b=some o->b∉fp->b∉s.heap.objs.size::fp:=λb o e M z=>by
  rcases GG.mp z with z | z
  .have:=LL e
   rw[z]at this;exact HF _ this
  .exact M z
 have l:Un (frs X.stack) (s.heap.objs.size::fp) H H' g s'.heap:=J.base;have x:∀ b o,s.heap.get? b=some o->b≠s.heap.objs.size:=λb o e=>G0 (LL e);have un:Un (frs X.stack) fp H (upd H' s.heap.objs.size (.lst ys)) s.heap s'.heap:=by
  refine⟨λb o e n M r=>l.keep b o (d b o e) n M (L b o e r),λb o e n M r=>l.slot b o (d b o e) n M (L b o e r),λb o e n r=>?_,λb o e r=>l.there b o (d b o e) (L b o e r),λb xs e=>?_,λb o u e=>?_,λb i e=>?_⟩
  .rw[ao (x b o e)];exact l.free b o (d b o e) n (L b o e r)
  .have q:=l.tups b xs e
   rw[ao (j b _ q)];exact q
  .have q:=l.frzs b o u e
   rw[ao (j b _ q)];exact q
  .obtain⟨f,q⟩:=l.tbls b i e;exact⟨f,by rw[ao (j b _ q)];exact q⟩
 have a:HOk X.prog X.w (upd H' s.heap.objs.size (.lst ys)) s'.heap:=λb u e=>by
  by_cases M:b=s.heap.objs.size
  .rw[M,af]at e
   cases e
   rw[M];exact⟨hl,us,us.length,p,t⟩
  .rw[ao M]at e;exact(J.hok b u e).stay (λc v _ q=>q) (λc q=>by rw[ao (j c _ q)];exact q) λc xs q=>by rw[ao (j c _ q)];exact q
 have os:s'.os=s.os:=J.os;refine⟨I.call' os un a J.bare λb M=>⟨(D b M).2.2.2.1,(D b M).2.1,(D b M).2.2.2.2⟩,h,?_,?_⟩
 .refine I.fpOk (H':=upd H' s.heap.objs.size (.lst ys)) (b:=g.objs.size) (by rw[y];exact IG _) ?_
  rw[ao k];exact J.free
 .obtain⟨m,T,_⟩:=J.loc;exact⟨m,T⟩
end
def PTs(X:Cx)(i:List Expr)(t:TT):Prop :=
 ∀(B:List (Addr×Obj))(s:Shared)(O:St)(H:Hp)(Q:Bool->Hp->Prop),Inv X B O H s->t O H Q ->
  wpAny (model X.prog X.w) X.A (forIn i true λc r=>if r=true then do let ok ← isTrue c X.env (eval c X.env);pure (ForInStep.yield ok) else pure (ForInStep.yield r)) (λb L=>∃ j,Inv X B O j L/\Q b j) X.xe s
def tYes:TT:=λ_ H Q=>Q true H
theorem E5:PTs X [] tYes:=λ_ _ _ H _ I h=>wpAny_tests_nil ⟨H,I,h⟩
theorem kL{c:Expr}{t:TT}(h:PT X c t):PTs X [c] t:=λB s O H Q I q=>wpAny_tests_one (h B s O H Q I q)
section
variable{prog:Program}{w:World}{A:Around}{s:Shared}
theorem By{l a d:Expr}{i:List Expr}{it:Value}(I:Nat->Shared->Prop)
  (turn:∀ n s,I n s->wpAny (model prog w) A (pyNext it) (λr s₁=>match r with
   |none=>R (.ok .next) s₁
   |some v=>wpAny (model prog w) A (letOwnedTupleGo a it v) (λ_ s₀=>wpAny (model prog w) A (assign a env v) (λ_ s₂ =>
     wpAny (model prog w) A (forIn i true λc r=>if r=true then do let ok ← isTrue c env (eval c env);pure (ForInStep.yield ok) else pure (ForInStep.yield r)) (λok b=>if ok=true then wpAny (model prog w) A (eval l env) (λx f =>
      wpAny (model prog w) A (call (.builtin "list.append") [u,x]) (λ_ o=>∃ m,m<n/\I m o) (notedBy (model prog w) A env λe s'=>R (.error e) s') f) (notedBy (model prog w) A env λe s'=>R (.error e) s') b
      else ∃ m,m<n/\I m b) (notedBy (model prog w) A env λe s'=>R (.error e) s') s₂)
     (notedBy (model prog w) A env λe s'=>R (.error e) s') s₀) (notedBy (model prog w) A env λe s'=>R (.error e) s') s₁) (notedBy (model prog w) A env λe s'=>R (.error e) s') s)
  (n:Nat) (h:I n s):Md (model prog w) A (.compLoop (.ListComp l [⟨a,d,i,0⟩] scope pos) 0 it u env) R s:=by
 refine codeAny_loop rfl I (λn s z=>?_) n h;show wpAny _ A ((compTurn (.ListComp l [⟨a,d,i,0⟩] scope pos) 0 it u env).onRaise (λx=>do noteFrame x env;theTreesLotGoes x)) _ _ s
 refine wpAny_noted ?_;rw[compTurn_list];refine LX (wpAny_standAt (LX (LS (turn n s z) (λr s₁ g=>?_) λ_ _ j=>j)))
 cases r with
 |none=>exact L4 g
 |some v =>
  refine LX (LS g (λ_ s₀ q=>?_) λ_ _ j=>j);refine LX (LS q (λ_ s₂ k=>?_) λ_ _ j=>j);refine LX (LS k (λB b p=>?_) λ_ _ j=>j)
  cases B with
  |false=>exact L4 ⟨rfl,p⟩
  |true=>exact LX (LX (LS p (λx f t=>LX (LS t (λ_ o y=>L4 (L4 ⟨rfl,y⟩)) λ_ _ j=>j)) λ_ _ j=>j))
end
def gD(g:TG)(r:TT)(c:TE)(n:Nat)(f:St)(J:It)(H1:Hp)(QQ:List V->Hp->Prop):Prop :=
 ∃ W:Nat->Nat->List V->Hp->Prop,(∃ m,W 0 m [] H1)/\∀ i m d H,W i m d H->d.length<=LK /\
  ((J.stop i H/\QQ d H)∨(J.go i H/\∃ N:List V->Hp->Prop,(∀ M a,N M a->∃ Q,Q<m/\W (i+1) Q M a) /\
   ∀ x j,J.yld i H x j->g x (GH n none++f) j λh a=>h.drop n=f/\r h a λb q=>if b=true then c h q (λy E=>N (d++[y]) E) else N d q))
section
variable{X:Cx}{scope:Scope}{fr:List (Str×Nat)}{xs:List Str}{elt iter tg:Expr}{ifs:List Expr}{pos:Pos}{te:TE}{tt:TT}{tgt:TG}{wi:TI}
theorem oH{d:St}{tn:Nat->Heap->Prop}{J:It}{RR:Value->Addr->Result->Shared->Prop}(Y:X.calm=true)(O:lR X scope fr xs)
  (aL:∀ C ex s H,PG (cxG X scope fr xs C ex s H) tg tgt) (ht:∀ C ex s H,PTs (cxG X scope fr xs C ex s H) ifs tt) (he:∀ C ex s H,PE (cxG X scope fr xs C ex s H) elt te) (I:Inv X L d H s) (T:Turn X.prog X.w X.K tg J fp it tn) (st:tn 0 s.heap) (hf:∀ b∈fp,FpOk X L H b) (hq:gD tgt tt te xs.length (frOf fr d) J H QQ)
  (aa:∀ D C H4 ys s4 m,Inv X L d (upd H4 D (.lst ys)) s4->H4 D=none->FpOk X L (upd H4 D (.lst ys)) C->s4.heap.Ns C m->QQ ys H4->RR (.ref D) C (.ok .next) s4) :
  wpAny (model X.prog X.w) X.A (newList []) (λab am=>wpAny (model X.prog X.w) X.A (newFunctionEnv scope X.env.globals (clOf X.env fr) [] X.env.qual none .none (some X.env)) (λa9 aT =>
   Md (model X.prog X.w) X.A (.compStart (.ListComp elt [⟨tg,iter,ifs,0⟩] scope pos) 0 (.ref it) ab { a9 with scope:=relabel scope X.env }) (RR ab a9.locals) aT) E am) E s:=by
 obtain⟨W,⟨m0,w0⟩,turn⟩:=hq;have a0:∀ b∈fp,b<s.heap.objs.size:=λb M=>by
  obtain⟨o,e,_⟩:=T.obj 0 s.heap st b M;exact LL e
 refine My (wpAny_newFunctionEnv O.cell (by intro y k;simp at k) (λal aO aR=>?_) O.kind)
 dsimp only at aO aR ⊢;generalize bn:s.heap.push { cls:=.type "list",dict:=none,data:=.seq ([]:List Value).toArray }=g at aO aR ⊢;have hg:g=s.heap.push (Mx []):=bn.symm;have hsz:g.objs.size=s.heap.objs.size+1:=by rw[hg,Me]
 have G:∀ b o,g.get? b=some o->al.get? b=some o:=λb o e=>aR.extBut b o (G0 (LL e)) (L5 _ e);have kp:∀ b o,s.heap.get? b=some o->al.get? b=some o:=λb o e=>G b o (by rw[hg];exact L5 _ e)
 have J0:=AD (h':=al) (tk:=s.toks+([]:List (Str×Value)).length) O I hf a0 hg G aO;have an:∀{H':Hp}{us:List Value},(∀ b∈fp,H' b=none)->∀ b∈fp,FpOk (cxG X scope fr xs g.objs.size (s.heap.objs.size::fp) { s with heap:=g } H) (X.pn++L++[(s.heap.objs.size,Mx us)]) H' b:=λ{H' us} f b M=>by
  obtain⟨_,f1,f2,f3,f4,f5⟩:=hf b M;refine⟨f b M,?_,λz=>(GG.mp (I.stkSub b z)).elim f1 f2,.inl (GD _ M),λy c e=>f4 y c (O.cells I e),λp j=>?_⟩
  .show b≠g.objs.size;rw[hsz];exact G0 (Ik (a0 b M))
  .rcases GU.mp j with j | j
   .cases j
   .rcases GU.mp j with j | j
    .exact f5 p j
    .have ep:p=(s.heap.objs.size,Mx us):=by simpa using j
     rw[ep];exact HY (a0 b M)
 have ba:Md (model X.prog X.w) X.A (.compLoop (.ListComp elt [⟨tg,iter,ifs,0⟩] scope pos) 0 (.ref it) (.ref s.heap.objs.size) (compEnvC scope (clOf X.env fr) g.objs.size X.env))
   (RR (.ref s.heap.objs.size) g.objs.size) { s with heap:=al,toks:=s.toks+([]:List (Str×Value)).length }:=by
  refine By (λn s'=>∃ i ys us H',Inv (cxG X scope fr xs g.objs.size (s.heap.objs.size::fp) { s with heap:=g } H) (X.pn++L++[(s.heap.objs.size,Mx us)]) (nons xs++frOf fr d) H' s'/\Vals ys us/\tn i s'.heap/\(∀ b∈fp,H' b=none)/\W i n ys H') ?_ m0
   ⟨0,[],[],H,J0,.nil,T.keep 0 s.heap al st λb _ o e=>kp b o e,λb M=>(hf b M).1,w0⟩
  rintro n s3 ⟨i,ys,us,H3,J3,hv,a1,a2,w3⟩;obtain⟨ac,hh⟩:=turn i n ys H3 w3;have none_err:∀{α:Type}{t:Sem α}{Q:α->Shared->Prop}{E':Value->Shared->Prop}{s:Shared},wpAny (model X.prog X.w) X.A t Q (λ_ _=>False) s->wpAny (model X.prog X.w) X.A t Q E' s:=λh=>LS h (λ_ _ q=>q) λ_ _ z=>z.elim;have a3:∀{aI:St},aI.length=(nons xs++frOf fr d).length->aI.drop xs.length=frOf fr d->∀(i:Nat) v,(nons xs++frOf fr d)[i]?=some (some v)->aI[i]?=some (some v):=λ{aI} a4 e6 i v e=>by
   by_cases a:i<xs.length
   .rw[GB (by simpa using a),Ia,Nf a]at e
    cases e
   .rw[Gz (by simp;omega),← e6,KR]at e
    have:xs.length+(i-(nons xs).length)=i:=by simp;omega
    rw[this]at e;exact e
  rcases hh with⟨stop,qn⟩ | ⟨go,N,hN,step⟩
  .refine none_err (thn (T.done (cxG X scope fr xs g.objs.size (s.heap.objs.size::fp) { s with heap:=g } H) rfl rfl rfl Y i _ s3 _ H3 _ J3 (an a2) a1 stop) λr s4 ⟨B,J4⟩=>?_);subst B;obtain⟨I4,nD,fC,m,f⟩:=qj I hf hg J4 hv ac;exact aa _ _ H3 ys s4 m I4 nD fC f qn
  .refine none_err (thn (T.item (cxG X scope fr xs g.objs.size (s.heap.objs.size::fp) { s with heap:=g } H) rfl rfl rfl Y i _ s3 _ H3 _ J3 (an a2) a1 go) λr s4 ⟨u,B,h4⟩=>?_);subst B;refine none_err (thn h4 λ_ s5 ⟨v,H5,J5,r5,y5,ap,bb⟩=>?_);have bo:=J5.pinned (an bb) (T.obj _ _ ap);refine none_err (thn (aL _ _ _ _ _ s5 _ H5 v u _ bo r5 (step v H5 y5)) λ_ s6 ⟨aI,H6,J6,e6,q6⟩=>?_);refine none_err (thn (ht _ _ _ _ _ s6 aI H6 _ J6 q6) λb be ⟨a5,bd,a6⟩=>?_);have a4:aI.length=(nons xs++frOf fr d).length:=J6.len.trans J3.len.symm
   cases b with
   |false =>
    rw[Ng G4]at a6 ⊢;obtain⟨m',x,w7⟩:=hN ys a5 a6;have aS:∀ b∈fp,∀ o,s5.heap.get? b=some o->be.heap.get? b=some o/\a5 b=none:=λb M o e=>by
     obtain⟨l,q2,_⟩:=bd.pin (b,o) (Hh _ (Hh _ (iG M e)));exact⟨l,q2⟩
    refine⟨m',x,i+1,ys,us,a5,bd.unpinned.weak (σ':=nons xs++frOf fr d) a4.symm (a3 a4 e6),hv,T.keep _ _ _ ap λb M o e=>(aS b M o e).1,λb M=>?_,w7⟩;obtain⟨o,e,_⟩:=T.obj _ _ ap b M;exact(aS b M o e).2
   |true =>
    rw[Nf rfl]at a6 ⊢;refine none_err (thn (he _ _ _ _ _ be _ a5 _ bd a6) λu7 s7 ⟨v7,H7,J7,r7,q7⟩=>?_);obtain⟨m',x,w7⟩:=hN _ H7 q7;obtain⟨eD,nD,dC,dF,dd⟩:=J7.pin (s.heap.objs.size,Mx us) (Hh _ (Hu _ (Hh _ (by simp))))
    have bg:=hv.length;refine append_at (hsz:=by show us.toArray.size<=LK;rw[GQ,← bg];exact ac) eD λh8 bi a7=>?_
    have bm:∀ p∈X.pn++L,p.1≠s.heap.objs.size:=λp j z=>by
     have:=LL (I.pin p j).1;rw[z]at this;exact HF _ this
    have bu:Inv (cxG X scope fr xs g.objs.size (s.heap.objs.size::fp) { s with heap:=g } H) (X.pn++L) _ H7 s7:=J7.pins_of λp j=>J7.pin p (Hh _ (Hu _ (Hu _ j)))
    have J8:Inv (cxG X scope fr xs g.objs.size (s.heap.objs.size::fp) { s with heap:=g } H) (X.pn++L) _ H7 { s7 with heap:=h8 }:=bu.turned (t':=s7.toks) (λb o M e=>(bi.2 b M).trans e) nD dC (.inl GN) (λy c e z=>by
     obtain⟨w',q⟩:=I.cell y c (O.cells I e);have:=q.lt;rw[z]at this
     exact HF _ this) (λp j=>(GU.mp j).elim (λz=>by cases z) (bm p))
    have J9:Inv (cxG X scope fr xs g.objs.size (s.heap.objs.size::fp) { s with heap:=g } H) (X.pn++L++[(s.heap.objs.size,Mx (us++[u7]))]) _ H7 { s7 with heap:=h8 }:=J8.pins_of λp j=>by
     rcases GU.mp j with j | j
     .exact J8.pin p (Hh _ j)
     .have ep:p=(s.heap.objs.size,Mx (us++[u7])):=by simpa using j
      subst ep;exact⟨a7.trans (congrArg some (LCg.lst_snoc us u7)),nD,dC,dF,λv z=>by cases z⟩
    have bv:=J9.weak (σ':=nons xs++frOf fr d) a4.symm (a3 a4 e6);have aS:∀ b∈fp,∀ o,s5.heap.get? b=some o->s7.heap.get? b=some o/\H7 b=none:=λb M o e=>by
     obtain⟨l,q2,_⟩:=J7.pin (b,o) (Hh _ (Hh _ (iG M e)));exact⟨l,q2⟩
    refine⟨m',x,i+1,ys++[v7],us++[u7],H7,bv,hv.append (.cons r7 .nil),T.keep _ _ _ ap λb M o e=>(bi.2 b (G0 (a0 b M))).trans (aS b M o e).1,λb M=>?_,w7⟩;obtain⟨o,e,_⟩:=T.obj _ _ ap b M;exact(aS b M o e).2
 exact codeAny_compStart_list ba (T.self X.A 0 _ _ _ (T.keep 0 s.heap al st λb _ o e=>kp b o e) ba)
def DQ(wi:TI)(g:TG)(tt:TT)(te:TE)(n:Nat)(fr:List (Str×Nat)):TE:=λO H Q=>wi O H λJ l=>gD g tt te n (frOf fr O) J l λd N=>∀ D,N D=none->Q (.ref D) (upd N D (.lst d))
theorem Cg(t:X.calm=true)(O:lR X scope fr xs)(hi:PI X tg iter wi)(L:∀ C ex s H,PG (cxG X scope fr xs C ex s H) tg tgt)(ht:∀ C ex s H,PTs (cxG X scope fr xs C ex s H) ifs tt)(he:∀ C ex s H,PE (cxG X scope fr xs C ex s H) elt te)(G:∀ x,L8 iter X.env x=pure x:=by intro _;rfl) :
  PE X (.ListComp elt [⟨tg,iter,ifs,0⟩] scope pos) (DQ wi tgt tt te xs.length fr):=by
 intro B s d H Q I h;rw[eval_ListComp];refine wpAny_comprehension_free (use:=none) rfl G O.clos O.kind O.names (thn (hi B s d H _ I h) λxv g k=>thn k λaa l Y=>?_);obtain⟨it,fp,tn,J,N,e,z,T,i,q,a⟩:=Y;subst e;refine oH (RR:=λp C=>compPost (model X.prog X.w) X.A X.xe none (EP X B d Q) p C) t O L ht he z T i q a ?_;intro D C E n v m r nD fC y q4;refine⟨m,y,λj ab=>?_⟩;obtain⟨g0,u,c,f,g4,g5⟩:=fC;exact⟨.ref D,_,r.turned (t':=v.toks) (λb o M e=>(ab.2 b M).trans e) g0 u f g4 g5,rfl,q4 D nD⟩
def qZ(i:Nat)(wi:TI)(g:TG)(tt:TT)(te:TE)(n:Nat)(fr:List (Str×Nat)):TS:=λD O H=>wi O H λJ l=>gD g tt te n (frOf fr O) J l λd N=>∀ a,N a=none->D.nx (O.set i (some (.ref a))) (upd N a (.lst d))
theorem t6{y:Str}{py am:Pos}(t:X.calm=true)(hN:X.N.Nodup)(ab:X.N[i]?=some y)(q:X.env.scope.names.lookup y=some .local)(O:lR X scope fr xs)(hi:PI X tg iter wi)(al:∀ C ex s H,PG (cxG X scope fr xs C ex s H) tg tgt)(ht:∀ C ex s H,PTs (cxG X scope fr xs C ex s H) ifs tt)(he:∀ C ex s H,PE (cxG X scope fr xs C ex s H) elt te)
  (aI:swapsWith (.ListComp elt [⟨tg,iter,ifs,0⟩] scope pos) (some (.Name y py)) am.line X.env=pure true:=by rfl) (G:∀ x,L8 iter X.env x=pure x:=by intro _;rfl) :
  PS X (.Assign [.Name y py] (.ListComp elt [⟨tg,iter,ifs,0⟩] scope pos) am) (qZ i wi tgt tt te xs.length fr):=by
 intro B s d H D I h;rw[exec_Assign_Name_used _ _ _ _ aI];refine LX (wpAny_standAt (LX ?_));show wpAny _ X.A (do let _ ← comprehension (.ListComp elt [⟨tg,iter,ifs,0⟩] scope pos) scope X.env _ (newList []) false (eval iter X.env) (some (assign (.Name y py) X.env))) _ _ s
 refine LX (thn (wpAny_comprehension_free (use:=some (assign (.Name y py) X.env)) (Q:=λ_ L=>SP X B D .next L) rfl G O.clos O.kind O.names (thn (hi B s d H _ I h) λxv r k=>thn k λan u Y=>?_)) λ_ L c=>L4 (L4 c));obtain⟨it,fp,tn,J,g,e,I2,T,ac,f2,q2⟩:=Y;subst e;refine oH (RR:=λaa C=>compPost (model X.prog X.w) X.A X.xe (some (assign (.Name y py) X.env)) (λ_ L=>SP X B D .next L) aa C) t O al ht he I2 T ac f2 q2 ?_;intro a C H4 l s4 m I4 nD fC f q4;obtain⟨g0,g1,g2,g3,g4,g5⟩:=fC;obtain⟨oC,eC,aL⟩:=LCg.ns_obj f;have I5:Inv X (B++[(C,oC)]) d (upd H4 a (.lst l)) s4:=I4.pins_of λp j=>by
  rcases GU.mp j with j | j
  .exact I4.pin p (Hh _ j)
  .have ep:p=(C,oC):=by simpa using j
   subst ep;obtain⟨n,aO,hd,_⟩:=aL;exact⟨eC,g0,g1,g2,λv z=>by rw[hd]at z;cases z⟩
 show wpAny _ X.A (assign (.Name y py) X.env (.ref a)) _ _ _;refine wpAny_assign_Name (lV I5 hN ab (.inl q) (v:=.ref a) rfl (λs6 I6=>?_) (.inr q));obtain⟨e6,_⟩:=I6.pin (C,oC) (Hh _ (Hh _ (by simp)))
 refine⟨m,aL.ns e6,λE ap=>?_⟩;exact⟨_,_,I6.unpinned.turned (t':=s6.toks) (λb o M e=>(ap.2 b M).trans e) g0 g1 g3 g4 g5,q4 a nD⟩
end
theorem cD{g:TG}{r:TT}{c:TE}(Pv:Nat->List V->Hp->Prop)(hz:xs.length<=LK)(w:Pv 0 [] H1)(hl:∀ i ys H,i<=xs.length->Pv i ys H->SqL K H a xs)
  (G:∀ i x ys H,xs[i]?=some x->Pv i ys H->g x (GH n none++J) H λh H2=>h.drop n=J/\r h H2 λb H3=>if b=true then c h H3 (λy E=>Pv (i+1) (ys++[y]) E) else Pv (i+1) ys H3) (hd:∀ ys H,Pv xs.length ys H->QQ ys H) (Q:∀ i ys H,Pv i ys H->ys.length<=i)
  : gD g r c n J (Itl K a) H1 QQ:=by
 refine⟨λi m ys H=>m=xs.length-i/\i<=xs.length/\Pv i ys H,⟨xs.length,by simp,Hq _,w⟩,?_⟩
 rintro i m ys H ⟨rfl,T,p⟩;have q:=hl i ys H T p;have s:=Q i ys H p;refine⟨∅,?_⟩
 by_cases f:i<xs.length
 .refine .inr ⟨⟨xs,xs[i],q,by simp[f]⟩,λM H2=>Pv (i+1) M H2,λM H2 C=>⟨xs.length-(i+1),∅,rfl,f,C⟩,λx j y=>?_⟩
  obtain⟨e,y⟩:=y;subst e;exact G i x ys _ (y xs q) p
 .have e:i=xs.length:=by omega
  subst e;exact .inl ⟨⟨xs,q,Gy _⟩,hd ys H p⟩
theorem gn{lo:Int}{k:Nat}{g:TG}{r:TT}{c:TE}(Pv:Nat->List V->Hp->Prop)(hz:k<=LK)(w:Pv 0 [] H1)
  (G:∀ i ys H,i<k->Pv i ys H->g (.int (lo+i)) (GH n none++J) H λh H2=>h.drop n=J/\r h H2 λb H3=>if b=true then c h H3 (λy E=>Pv (i+1) (ys++[y]) E) else Pv (i+1) ys H3) (hd:∀ ys H,Pv k ys H->QQ ys H) (Q:∀ i ys H,Pv i ys H->ys.length<=i)
  : gD g r c n J (Itr lo k) H1 QQ:=by
 refine⟨λi m ys H=>m=k-i/\i<=k/\Pv i ys H,⟨k,by simp,Hq _,w⟩,?_⟩
 rintro i m ys H ⟨rfl,T,p⟩;have s:=Q i ys H p;refine⟨∅,?_⟩
 by_cases f:i<k
 .refine .inr ⟨f,λM H2=>Pv (i+1) M H2,λM H2 C=>⟨k-(i+1),∅,rfl,f,C⟩,λx j y=>?_⟩
  obtain⟨e,y⟩:=y;subst e y;exact G i ys _ f p
 .have e:i=k:=by omega
  subst e;exact .inl ⟨Gy _,hd ys H p⟩
theorem fx{g:TG}{r:TT}{c:TE}(Pv:Nat->List V->Hp->Prop)(hz:xs.length<=LK)(w:Pv 0 [] H1)(hl:∀ i ys H,i<=xs.length->Pv i ys H->SqL K H a xs)
  (G:∀ i x ys H T,xs[i]?=some x->Pv i ys H->H T=none->g (.ref T) (GH n none++J) (upd H T (.tup [.int (i:Int),x])) λh H2=>h.drop n=J/\r h H2 λb H3=>if b=true then c h H3 (λy E=>Pv (i+1) (ys++[y]) E) else Pv (i+1) ys H3) (hd:∀ ys H,Pv xs.length ys H->QQ ys H) (Q:∀ i ys H,Pv i ys H->ys.length<=i)
  : gD g r c n J (Ite K a) H1 QQ:=by
 refine⟨λi m ys H=>m=xs.length-i/\i<=xs.length/\Pv i ys H,⟨xs.length,by simp,Hq _,w⟩,?_⟩
 rintro i m ys H ⟨rfl,o,p⟩;have q:=hl i ys H o p;have s:=Q i ys H p;refine⟨∅,?_⟩
 by_cases f:i<xs.length
 .refine .inr ⟨⟨xs,xs[i],q,by simp[f]⟩,λM H2=>Pv (i+1) M H2,λM H2 C=>⟨xs.length-(i+1),∅,rfl,f,C⟩,λv j y=>?_⟩
  obtain⟨T,x,l,rfl,rfl,y⟩:=y;exact G i x ys _ T (y xs q) p l
 .have e:i=xs.length:=by omega
  subst e;exact .inl ⟨⟨xs,q,Gy _⟩,hd ys H p⟩
theorem C4(h:X.K=K):IxR X (rIxL K):=h▸qg
theorem FP(h:X.K=K):IxR X (rIxT K):=h▸Ej
theorem dv{es:List Expr}{k:Nat}{t:TGs}(m:X.K=K)(Y:X.calm=true)(h:PGs X es t)(T:(LW es X.env).length=n:=by rfl)(y:(LW es X.env).findIdx? (·.1)=none:=by rfl):PG X (.Tuple es k pos) (gTup K n t):=m▸mZ Y h T y
theorem yo(h:X.K=K):gy X (.type "list") (λxs H Q=>∃ p ys,xs = [.ref p]/\(SqL K H p ys∨SqT K H p ys)/\∀ l,H l=none->Q (.ref l) (upd H l (.lst ys))):=h▸ig
theorem uh{f:Str}{T:TE}(h:X.K=K)(he:PE X e T)(M:attributeBase e f X.env (eval e X.env)=eval e X.env):PE X (.Attribute e f pos) (tFld K T f):=h▸a8 he M
inductive E2(x:L2.V)(vs:List V)(H:L2.Hp)(Q:L2.VK):Prop
 |mk (l xs k y:_) (h0_:x=.ref l)(h1_:vs = [.int k,y])(h2_:H l=some (.lst xs))(h3_:0<=k)(h4_:k<=xs.length)(h5_:xs.length<LK)(h6_:Q .non (upd H l (.lst (xs.take k.toNat++y::xs.drop k.toNat))))
theorem Ac:MtM X "list.insert" E2:=by
 intro B s O H x Y v J Q I d rv h;obtain⟨l,N,k,y,rfl,rfl,L,w,G,g,q⟩:=h
 cases d
 obtain⟨b,i,rfl,j,o⟩:=rv.two;obtain⟨t,rfl⟩:=j;obtain⟨z,E,n,r,C,e⟩:=I.lstM L;have T:=oA;have a:¬ (!Builtin.List.listFitsIndex k)=true:=by
  rw[fitsIndex_both ∅ ∅]
  exact G4
 refine call_meets F.slot_list_insert ⟨_,e,rfl⟩ F.entry_list_insert (F.args_list_insert_3 _ _ _) (AutoListH.list_insert_list_int_val_1 l E.toArray n k t i a (by rw[GQ];omega)) ⟨e,?_⟩
 refine⟨.non,_,I.lset (its':=E.take k.toNat++i::E.drop k.toNat) L e ?_ ((r.take _).append (.cons o (r.drop _))) ?_,rfl,q⟩
 .dsimp only;rw[Ng ∅,GQ,Kt ∅]
  simp;exact Jh (by rw[Iv];omega)
 .rw[Gx,GX,Hs,Iv];omega
theorem jV:∀{ns:List Int}{us:List Value},Vals (ns.map V.int) us->Mp us ns
 |[],_,.nil=>.nil
 |n::ns,_,.cons r b=>by
  obtain⟨t,rfl⟩:=r;exact .cons n t (jV b)
theorem mG(t:X.calm=true):gy X (.builtin "sum") (λxs H Q=>∃(p:Addr)(ns:List Int),xs = [.ref p]/\SqL X.K H p (ns.map V.int)/\Q (.int ns.sum) H):=by
 intro B s O H xs J Q I r h;obtain⟨p,ns,rfl,n,q⟩:=h;obtain⟨u,rfl,D⟩:=i3 r
 cases D
 obtain⟨E,rv,y,g⟩:=I.list n;have T:=jV rv;obtain⟨M,e⟩:=T.allInts.items;have m:(numsOf E)=ns:=T.numsOf;have C:s.heap.IsList p (intItems M):=by rw[← e];exact y.isList
 refine sum_intListG (I.ok.hd t) C λj l t' G=>⟨.int ns.sum,H,I.kept (t':=l) G,⟨t',?_⟩,q⟩;have Y:numsOf (intItems M).toList=ns:=by rw[← e];exact m
 rw[nums_intItems]at Y;rw[preSum_eq,Jh (by simp),← Y]
theorem mI:∀{ps:List Nat},(∀ p∈ps,p<1000)->PyData.weightAll ((ps.map λ(p:Nat)=>((p:Nat):Int)).map PyData.int)<=12*ps.length
 |[],_=>by simp[PyData.weightAll]
 |p::ps,h=>by
  have D:=mI (ps:=ps) λx L=>h x (GD _ L);have j:=h p (by simp)
  have c:PyData.weight (.int (p:Int))<=11:=by
   rw[PyData.weight];split
   .exact Hq _
   .rename_i z;have T:p≠0:=λe=>z (by rw[e];rfl)
    have e:((p:Int)).natAbs=p:=rfl;rw[e];have:=(Nat.log2_lt T).mpr (show p<2^10 by omega)
    omega
  rw[G7,G7,PyData.weightAll,GX];omega
theorem CY(h:∀ p∈ps,p<1000)(hl:ps.length<=1000):PyData.layable0 (.list ((ps.map λ(p:Nat)=>((p:Nat):Int)).map PyData.int))=true:=by
 have J:=PySem.W.shaped_ints (ps.map λ(p:Nat)=>((p:Nat):Int));have Y:=mI h;have g:PyData.weight (.list ((ps.map λ(p:Nat)=>((p:Nat):Int)).map PyData.int))<=2^20:=by
  rw[PyData.weight];ac_rfl
 unfold PyData.layable0;unfold SeqAt.shaped at J;rw[J,Mq g];rfl
inductive rIndex(K:Gw)(x:L2.V)(vs:List V)(H:L2.Hp)(Q:L2.VK):Prop
 |mk (l:Addr)(ps:List Nat)(k:Nat) (h0_:x=.ref l)(h1_:vs = [.int (k:Int)])(h2_:SqL K H l (ps.map λ(p:Nat)=>V.int (p:Int)))(h3_:(∀ p∈ps,p<1000))(h4_:ps.length<=1000)(h5_:k∈ps)(h6_:Q (.int ((ps.idxOf k:Nat):Int)) H)
theorem C6{k:Nat}:(ps.map λ(p:Nat)=>((p:Nat):Int)).idxOf (k:Int)=ps.idxOf k:=by
 induction ps with
 |nil=>rfl
 |cons p ps D =>
  rw[G7,Lh,Lh,D];have e:(((p:Nat):Int) == (k:Int))=(p == k):=by
   by_cases h:p=k
   .subst h;simp
   .have Y:¬ (p:Int)=(k:Int):=λz=>h ∅
    rw[beq_eq_false_iff_ne.mpr h,beq_eq_false_iff_ne.mpr Y]
  rw[e]
theorem CK:MtM X "list.index" (rIndex X.K):=by
 intro B s O H x Y v z Q I d rv h;obtain⟨l,i,k,rfl,rfl,n,J,C,G,q⟩:=h
 cases d
 obtain⟨u,rfl,D⟩:=rv.one;obtain⟨t,rfl⟩:=D;have e:(i.map λ(p:Nat)=>V.int (p:Int))=(i.map λ(p:Nat)=>((p:Nat):Int)).map V.int:=by rw[IU];rfl
 rw[e]at n;obtain⟨E,r,y,g⟩:=I.list n;refine index_list_ints y.isList (jV r) (CY J C) (Hn.mpr ⟨k,G,rfl⟩) ?_;rw[C6];exact⟨.int _,H,I.tok _,⟨_,rfl⟩,q⟩
theorem tK:∀{us:List Value}{ns:List Int},Mp us ns->Vals (ns.map V.int) us
 |_,_,.nil=>.nil
 |_,_,.cons _ t r=>.cons ⟨t,rfl⟩ (tK r)
inductive zr(K:Gw)(xs:List V)(H:L2.Hp)(Q:L2.VK):Prop
 |mk (p:Addr)(ns:List Int) (h0_:xs = [.ref p])(h1_:SqL K H p (ns.map V.int))(h2_:ns.length<64)(h3_:∀(l:Addr)(out:List Int),H l=none->out.Perm ns->out.Pairwise (·<=·)->Q (.ref l) (upd H l (.lst (out.map V.int))))
theorem vE:gy X (.builtin "sorted") (zr X.K):=by
 intro B s O H N J Q I r h;obtain⟨p,x,rfl,n,a,q⟩:=h;obtain⟨u,rfl,D⟩:=i3 r
 cases D
 obtain⟨E,rv,m,g⟩:=I.list n;have T:=jV rv;have C:=rv.length;rw[Gu]at C;refine sorted_ints m.isList T ∅ λG c A l b=>?_
 obtain⟨e,y⟩:=sortedAll_at s.heap E G;refine⟨.ref (s.heap.objs.size+1),_,I.laid (t':=s.toks) (λ_ _=>sortedAll_old) (IG _) (show bp X.prog X.w _ _ _ (.lst (c.map V.int)) from⟨?_,G.toList,e,tK A,?_⟩),rfl,q _ c (I.hok.fresh (IG _)) l b⟩
 .rw[Gu,l.length_eq];exact G6 (ar ∅)
 .exact y
theorem sP(h:X.K=K):gy X (.builtin "sorted") (zr K):=h▸vE
theorem BE:LO "min" = some (.builtin "min"):=by decide
inductive rCatS(K:Gw)(x:L2.V)(y:L2.V)(H:L2.Hp)(Q:L2.VK):Prop
 |mk (l b xs zs:_) (h0_:x=.ref l)(h1_:y=.ref b)(h2_:SqL K H l xs)(h3_:SqL K H b zs)(h4_:xs.length+zs.length<=LK)(h5_:∀ p,H p=none->Q (.ref p) (upd H p (.lst (xs++zs))))
theorem Fd:OpR X (L9 .Add) (rCatS X.K):=by
 intro B s O H x y v u Q I w D h;obtain⟨l,b,N,M,rfl,rfl,L,a,g,q⟩:=h
 cases w
 cases D
 obtain⟨E,r,m,_⟩:=I.list L;obtain⟨T,o,c,_⟩:=I.list a;obtain⟨⟨cls,C,k,p⟩,A,t,n,hd⟩:=m.isList;obtain⟨⟨aa,i,data2,j⟩,e,Y,G,J⟩:=c.isList;simp only at t hd Y J;subst t hd Y J;have z:E.toArray++T.toArray=(E++T).toArray:=by simp
 have d:=r.length;have f:=o.length;refine concat_meets ⟨_,A,rfl⟩ ⟨_,e,rfl⟩ noFill_list_add seq_list_add PySem.F.slot_list_add PySem.F.entry_list_add (PySem.F.args_list_add_2 _ _) (list_addW l b E.toArray T.toArray n G C i p j (by rw[GQ,GQ];omega)) ⟨A,e,?_⟩
 rw[z];exact⟨.ref _,_,I.lnew (t':=s.toks) (r.append o) (by rw[Gx];omega),rfl,q _ I.fresh⟩
theorem wB:∀{ns:List Int}{us:List Value},Vals (ns.map V.int) us->Mp us ns
 |[],_,.nil=>.nil
 |n::ns,_,.cons r b=>by
  obtain⟨t,rfl⟩:=r;exact .cons n t (wB b)
theorem sQ:LO "sum" = some (.builtin "sum"):=by decide
theorem yesT{A B:Hp->Prop}(h:A H):tYes J H λb H3=>if b=true then A H3 else B H3 :=
 show(if true=true then A H else B H) from iteT (B:=B H) h
theorem bt_zip:LO "zip" = some (.type "zip"):=by decide
def Itz(K:Gw)(a b:Addr):It :=
 ⟨λi H=>∃ N d x y,SqL K H a N/\SqL K H b d/\N[i]?=some x/\d[i]?=some y,
  λi H v j=>∃ T x y,H T=none/\v=.ref T/\j=upd H T (.tup [x,y])/\(∀ N,SqL K H a N->N[i]?=some x)/\∀ d,SqL K H b d->d[i]?=some y,
  λi H=>∃ N d,SqL K H a N/\SqL K H b d/\(N.length<=i∨d.length<=i)⟩
theorem BW{es:List Expr}{k:Nat}(a b z TI TO i1 i2:Addr)(D:ZipApart z TI TO i1 i2 a b):Turn P w K (.Tuple es k pos) (Itz K a b) [z,TI,TO,i1,i2] z
  (λi h=>IsZip h z TI TO .none/\IsPair h TI (.ref i1) (.ref i2)/\(∃ u v,IsPair h TO u v)/\h.IsListIter i1 a i/\h.IsListIter i2 b i) where
 mem:=by simp
 obj:=λi h st c t=>by
  obtain⟨kz,kI,⟨u,v,kO⟩,⟨o1,l,c1,d1⟩,⟨o2,q2,c2,d2⟩⟩:=st;simp only[GG,Jt,or_false]at t;rcases t with rfl | rfl | rfl | rfl | rfl
  .exact⟨_,kz,λv z=>by have z':Data.fields _=Data.cell v:=z;cases z'⟩
  .exact⟨_,kI,λv z=>by have z':Data.seq _ _=Data.cell v:=z;cases z'⟩
  .exact⟨_,kO,λv z=>by have z':Data.seq _ _=Data.cell v:=z;cases z'⟩
  .exact⟨o1,l,λv z=>by rw[d1]at z;cases z⟩
  .exact⟨o2,q2,λv z=>by rw[d2]at z;cases z⟩
 keep:=λi h h' st g=>by
  obtain⟨kz,kI,⟨u,v,kO⟩,k1,k2⟩:=st;exact⟨g _ (by simp) _ kz,g _ (by simp) _ kI,⟨u,v,g _ (by simp) _ kO⟩,k1.at λo q=>g i1 (by simp) o q,k2.at λo q=>g i2 (by simp) o q⟩
 item:=by
  intro X hP hw hK t i B s O H E I r st j;subst hP hw hK;obtain⟨N,d,x,y,n,M,L,Q⟩:=j;obtain⟨m,rv,p,hz⟩:=I.list n;obtain⟨aa,an,p2,aL⟩:=I.list M;obtain⟨u,J,ru⟩:=rv.get L;obtain⟨u2,aO,aI⟩:=an.get Q;obtain⟨kz,kI,⟨o1,o2,kO⟩,k1,k2⟩:=st;refine wpAny_pyNext_zip_item D kz kI kO k1 k2 p.isList p2.isList (x:=u) (y:=u2) (by simpa using J) (by simpa using aO) λh' A a2 a3 a4 a5 a6 G=>?_
  refine⟨_,rfl,?_⟩;refine wpAny_letOwnedTupleGo_zip A λY g1 al=>?_;have ab:LQ z h' Y:=al;have lz:z<s.heap.objs.size:=LL kz;have lI:TI<s.heap.objs.size:=LL kI;have lO:TO<s.heap.objs.size:=LL kO;have l1:i1<s.heap.objs.size:=by obtain⟨_,q,_⟩:=k1;exact LL q
  have l2:i2<s.heap.objs.size:=by obtain⟨_,q,_⟩:=k2;exact LL q
  have ac:H s.heap.objs.size=none:=I.hok.fresh (Gy _);have I0:Inv X B O (upd H s.heap.objs.size (.tup [x,y])) { s with heap:=s.heap.push { cls:=.type "tuple",data:=.seq #[u,u2] },toks:=s.toks } :=
   I.laid (t':=s.toks) (λb u e=>L5 _ e) (Gy _) ⟨by show 2<=LK;decide,[u,u2],.cons ru (.cons aI .nil),⟨_,L6 _ rfl,rfl,_,rfl⟩⟩
  have ap:∀ c∈[z,TI,TO,i1,i2],c<s.heap.objs.size:=λc t=>by
   simp only[GG,Jt,or_false]at t;rcases t with rfl | rfl | rfl | rfl | rfl<;>assumption
  have T:∀ c∈[z,TI,TO,i1,i2],upd H s.heap.objs.size (.tup [x,y]) c=none:=λc t=>by
   rw[ao (G0 (ap c t))];exact(r c t).1
  have I2:Inv X B O (upd H s.heap.objs.size (.tup [x,y])) { s with heap:=Y,toks:=s.toks }:=Inv.turnedL (s:={ s with heap:=s.heap.push { cls:=.type "tuple",data:=.seq #[u,u2] },toks:=s.toks }) (h':=Y) I0 (t':=s.toks) (fp:=[z,TI,TO,i1,i2]) (λc o t q=>by
   have n1:c≠z:=λe=>t (by simp[e])
   have n3:c≠TO:=λe=>t (by simp[e])
   have n4:c≠i1:=λe=>t (by simp[e])
   have n5:c≠i2:=λe=>t (by simp[e])
   refine(ab.2 c n1).trans ?_;rcases Heap.get?_push_cases q with⟨z1,z2⟩ | q
   .rw[z1,z2];exact a5
   .exact G c o n1 n3 n4 n5 q) λc t=>⟨T c t,(r c t).2⟩
  refine⟨.ref s.heap.objs.size,_,I2,rfl,⟨s.heap.objs.size,x,y,ac,rfl,rfl,λf h=>by rw[I.list_inj h n];exact L,λf h=>by rw[I.list_inj h M];exact Q⟩,?_,T⟩
  refine⟨g1,(ab.2 TI D.TIz).trans (G _ _ D.TIz D.TITO D.TIi1 D.TIi2 kI),⟨_,_,(ab.2 TO D.TOz).trans a2⟩,a3.at λo q=>(ab.2 i1 D.i1z).trans q,a4.at λo q=>(ab.2 i2 D.i2z).trans q⟩
 done:=by
  intro X hP hw hK t i B s O H E I r st j;subst hP hw hK;obtain⟨N,d,n,M,L⟩:=j;obtain⟨m,rv,p,hz⟩:=I.list n;obtain⟨aa,an,p2,aL⟩:=I.list M;obtain⟨kz,kI,⟨o1,o2,kO⟩,k1,k2⟩:=st;have C:=rv.length;have am:=an.length;refine wpAny_pyNext_zip_end (I.ok.hd t) D kz kI kO k1 k2 p.isList p2.isList ?_ λh' eb=>⟨rfl,Inv.turnedL I (t':=s.toks) (λc o t e=>eb c o (λe=>t (by simp[e])) (λe=>t (by simp[e])) (λe=>t (by simp[e])) (λe=>t (by simp[e])) e) r⟩
  rcases L with L | L
  .exact .inl (by simp;omega)
  .exact .inr (by simp;omega)
 self:=λ_ _ _ _ _ st h=>wpAny_pyIter_zip st.1 h
theorem cR(x y:Nat)(h:¬ x=y):@Ne Addr x y:=h
theorem yw(n a b:Nat)(E:a<n)(M:b<n):ZipApart (n+4) (n+2) (n+3) n (n+1) a b :=
 ⟨cR _ _ ∅,cR _ _ ∅,cR _ _ ∅,cR _ _ ∅,cR _ _ ∅,cR _ _ ∅,cR _ _ ∅,cR _ _ ∅,cR _ _ ∅,
  cR _ _ ∅,cR _ _ ∅,cR _ _ ∅,cR _ _ ∅,cR _ _ ∅,cR _ _ ∅,cR _ _ ∅,cR _ _ ∅,cR _ _ ∅⟩
def iZip(K:Gw)(T:TA):TI:=λO H R=>T O H λY l=>∃ a b,Y = [.ref a,.ref b]/\(∃ N,SqL K l a N)/\(∃ d,SqL K l b d)/\R (Itz K a b) l
theorem zH{l1 v:Expr}{T:TA}{es:List Expr}{k:Nat}{tp p:Pos} (j:Gl X "zip") (C:X.mg "zip" = none) (D:PA X [l1,v] T) (J:LR [l1,v] X.env=(false,eval l1 X.env)::LR [v] X.env:=by rfl) (aa:(backTo pos (LR [v] X.env)).any (·.1)=false:=by rfl) :
  PI X (.Tuple es k tp) (.Call (.Name "zip" p) [l1,v] [] pos) (iZip X.K T):=by
 intro B s O H R I h;refine Call_ (gX I j C bt_zip (L7 (thn (D pos B s O H _ I h) λz g ⟨Y,l,i,f,L⟩=>?_) J aa));obtain⟨a,b,e,⟨N,n⟩,⟨d,M⟩,q⟩:=L;subst e;obtain⟨u,u2,rfl,x,al⟩:=yB f
 cases x
 cases al
 obtain⟨E,rv,p,m⟩:=i.list n;obtain⟨Q,ac,o,am⟩:=i.list M;have la:a<g.heap.objs.size:=by obtain⟨_,_,q,_⟩:=p;exact LL q
 have lb:b<g.heap.objs.size:=by obtain⟨_,_,q,_⟩:=o;exact LL q
 refine call_zip_2 p.isList o.isList λA kz kI kO r w y G=>?_;refine wpAny_pyIter_zip kz ?_
 refine⟨g.heap.objs.size+4,[g.heap.objs.size+4,g.heap.objs.size+2,g.heap.objs.size+3,g.heap.objs.size,g.heap.objs.size+1],_,_,l,rfl,i.kept (t':=g.toks) G,
  BW a b (g.heap.objs.size+4) (g.heap.objs.size+2) (g.heap.objs.size+3) g.heap.objs.size (g.heap.objs.size+1) (yw _ a b la lb),⟨kz,kI,⟨_,_,kO⟩,r,w⟩,λc t=>?_,q⟩
 have ab:g.heap.objs.size<=c:=by
  simp only[GG,Jt,or_false]at t;rcases t with rfl | rfl | rfl | rfl | rfl
  .exact JN _ _
  .exact JN _ _
  .exact JN _ _
  .exact Gy _
  .exact JN _ _
 exact i.fpOk ab (i.hok.fresh ab)
theorem sN{b:Addr}{g:TG}{r:TT}{c:TE}(Pv:Nat->List V->Hp->Prop)(hz:xs.length<=LK)(he:zs.length=xs.length)(w:Pv 0 [] H1)(hl:∀ i ys H,i<=xs.length->Pv i ys H->SqL K H a xs/\SqL K H b zs)
  (G:∀ i x z ys H T,xs[i]?=some x->zs[i]?=some z->Pv i ys H->H T=none->g (.ref T) (GH n none++J) (upd H T (.tup [x,z])) λh H2=>h.drop n=J/\r h H2 λb H3=>if b=true then c h H3 (λy E=>Pv (i+1) (ys++[y]) E) else Pv (i+1) ys H3) (hd:∀ ys H,Pv xs.length ys H->QQ ys H) (Q:∀ i ys H,Pv i ys H->ys.length<=i)
  : gD g r c n J (Itz K a b) H1 QQ:=by
 refine⟨λi m ys H=>m=xs.length-i/\i<=xs.length/\Pv i ys H,⟨xs.length,by simp,Hq _,w⟩,?_⟩
 rintro i m ys H ⟨rfl,o,p⟩;have q:=hl i ys H o p;have s:=Q i ys H p;refine⟨∅,?_⟩
 by_cases f:i<xs.length
 .have d:i<zs.length:=by omega
  refine .inr ⟨⟨xs,zs,xs[i],zs[i],q.1,q.2,by simp[f],by simp[d]⟩,λzs H2=>Pv (i+1) zs H2,λzs H2 C=>⟨xs.length-(i+1),∅,rfl,f,C⟩,λv j y=>?_⟩
  obtain⟨T,x,z,l,rfl,rfl,I,N⟩:=y;exact G i x z ys _ T (I xs q.1) (N zs q.2) p l
 .have e:i=xs.length:=by omega
  subst e;exact .inl ⟨⟨xs,zs,q.1,q.2,.inl (Gy _)⟩,hd ys H p⟩
inductive rMinL(K:Gw)(xs:List V)(H:L2.Hp)(Q:L2.VK):Prop
 |mk (p:Addr)(ns:List Int) (h0_:xs = [.ref p])(h1_:SqL K H p (ns.map V.int))(h2_:0<ns.length)(h3_:∀ m:Int,m∈ns->(∀ x∈ns,m<=x)->Q (.int m) H)
theorem BB(E:X.calm=true):gy X (.builtin "min") (rMinL X.K):=by
 intro B s O H N z Q I r h;obtain⟨p,x,rfl,n,c,q⟩:=h;obtain⟨u,rfl,f⟩:=i3 r
 cases f
 obtain⟨m,rv,y,g⟩:=I.list n;have T:=wB rv;obtain⟨M,e⟩:=T.allInts.items;have C:s.heap.IsList p (intItems M):=by rw[← e];exact y.isList
 have d:x=M.toList.map (·.1):=by
  rw[← nums_intItems,← e];exact(show numsOf m.toArray.toList=x from T.numsOf).symm
 subst d;rw[Gu,Hd]at c;refine min_intList (I.ok.hd E) C c λv A l k G=>?_;obtain⟨t,rfl⟩:=intItems_at k;obtain⟨J,Y⟩:=argBest_lt (numAt M) (M.size-1);refine⟨.int _,H,I.kept (t':=l) G,⟨t,rfl⟩,q _ ?_ λa D=>?_⟩
 .rw[numAt_eq];exact PySem.getD_mem (by rw[Gu,Hd];omega)
 .obtain⟨j,b,rfl⟩:=PySem.mem_getD D;rw[Gu,Hd]at b;rw[← numAt_eq];exact Y j ∅
def LsAt{α:Type}(R:Hp->V->α->Prop)(H:Hp)(ys:List V)(xs:List α):Prop:=ys.length=xs.length/\∀(i:Nat)(x:α),xs[i]?=some x->∃ y,ys[i]?=some y/\R H y x
theorem LsAt.nil{R:Hp->V->α->Prop}:LsAt R H [] []:=⟨rfl,λi x e=>by simp at e⟩
theorem LsAt.imp{R c:Hp->V->α->Prop}{xs:List α}(h:LsAt R H ys xs)(m:∀ y x,R H y x->c H' y x):LsAt c H' ys xs:=⟨h.1,λi x e=>by
 obtain⟨y,a,b⟩:=h.2 i x e
 exact⟨y,a,m y x b⟩⟩
theorem LsAt.snoc{R:Hp->V->α->Prop}{xs:List α}{x:α}(h:LsAt R H ys xs)(r:R H y x):LsAt R H (ys++[y]) (xs++[x]):=by
 refine⟨by rw[Gx,Gx,h.1];rfl,λj k e=>?_⟩
 by_cases B:j<xs.length
 .rw[GB B]at e;obtain⟨p,u,I⟩:=h.2 j k e;exact⟨p,by rw[GB (by rw[h.1];exact B)];exact u,I⟩
 .rw[Gz ∅]at e
  have c:j=xs.length:=by
   have:=(Gn.mp e).1;rw[GO]at this;omega
  subst c;rw[Hl]at e
  cases e
  exact⟨y,by rw[← h.1,Gz (Gy _),Hl];rfl,r⟩
theorem LsAt.get{R:Hp->V->α->Prop}{xs:List α}(h:LsAt R H ys xs)(e:ys[i]?=some y):∃ x,xs[i]?=some x/\R H y x:=by
 have T:i<xs.length:=by rw[← h.1];exact(Gn.mp e).1
 obtain⟨z,a,b⟩:=h.2 i _ (Gs T);rw[e]at a
 cases a
 exact⟨_,Gs T,b⟩
theorem yA:∀{ys:List V}{us:List Value},ys.length=us.length->(∀(i:Nat)(y:V)(u:Value),ys[i]?=some y->us[i]?=some u->RelV y u)->Vals ys us
 |[],[],_,_=>.nil
 |[],_::_,e,_=>by cases e
 |_::_,[],e,_=>by cases e
 |y::ys,u::us,e,h=>.cons (h 0 y u rfl rfl) (yA (K6 e) λi y u a b=>h (i+1) y u a b)
theorem rL{te:TE}{p p2 ab:Pos}(Y:X.calm=true) (N:Gl X "list") (C:X.mg "list" = none) (al:Gl X "range") (ac:X.mg "range" = none) (he:PE X e te)
  (J:LR [.Call (.Name "range" p2) [e] [] ab] X.env = [(false,eval (.Call (.Name "range" p2) [e] [] ab) X.env)]:=by rfl) (h2:LR [e] X.env=(false,eval e X.env)::LR [] X.env:=by rfl) :
  PE X (.Call (.Name "list" p) [.Call (.Name "range" p2) [e] [] ab] [] pos) (λO H Q=>te O H λx H1=>∃ n:Nat,x=.int (n:Int)/\n<=1000/\∀ q,H1 q=none->Q (.ref q) (upd H1 q (.lst ((GW n).map λ(i:Nat)=>V.int ((i:Nat):Int))))):=by
 intro B s O H Q I h;refine Mi (gX I N C kX ?_);refine L7 ?_ J rfl;rw[J];refine Mg ?_;refine Mi (gX I al ac boot_range ?_);refine L7 ?_ h2 rfl;rw[h2];refine Mg (thn (he B s O H _ I h) λu g ⟨x,H1,c,r,L⟩=>?_);obtain⟨n,rfl,f,q⟩:=L;obtain⟨t,rfl⟩:=r;refine Mf ?_;refine call_range_1 ?_;refine Mf ?_;have w:Inv X B O H1 { g with heap:=g.heap.push { cls:=.type "range",data:=.fields #[.int 0 g.toks,.int (n:Int) t,.int 1 (g.toks+1)] },toks:=g.toks+1+1 }:=c.kept λb o e=>L5 _ e;refine call_list_range (n:=n) (I.ok.hd Y) (IsRange.new ..) (small_one ∅ ∅ ∅ ∅) (by rw[rangeSize_one];split<;>omega) ∅ λz M m d G v E=>?_
 have I3:Inv X B O H1 { g with heap:=z,toks:=M }:=w.kept (t':=M) λb o e=>G b o e;have fS:=w.fpOk (H':=H1) (Gy _) (w.hok.fresh (Gy _));have D:((GW n).map λ(i:Nat)=>V.int ((i:Nat):Int)).length<=LK:=by
  rw[Gu,Hc];exact Hy f (by decide)
 have k:Vals ((GW n).map λ(i:Nat)=>V.int ((i:Nat):Int)) m.toList:=by
  refine yA (by rw[Gu,Hc,Hd,E.1]) λi y u a b=>?_
  rw[Hv]at b;obtain⟨aa,e⟩:=E.2 i u b;rw[GC]at a;obtain⟨j,A,l⟩:=G5.mp a;have T:i<n:=by
   have:=(Gn.mp A).1;rwa[Hc]at this
  rw[HZ T]at A
  cases A
  subst l;subst e;exact⟨aa,by rw[IF,Int.mul_one]⟩
 have I4:=I3.track (o:=.lst ((GW n).map λ(i:Nat)=>V.int ((i:Nat):Int))) fS ⟨D,m.toList,d,k,by rw[Array.toArray_toList];exact v⟩
 exact⟨.ref _,_,I4,rfl,q _ fS.1⟩
theorem op_neG(T:X.A.units+64<cLine):OpR X (LU .NotEq) (λx y H Q=>∃ d1 d2,RdD X.K H x d1/\RdD X.K H y d2/\SeqAt.shaped d1=true/\SeqAt.shaped d2=true/\Q (.bl (!PyData.eqv d1 d2)) H):=by
 intro B s O H x y v u Q I d D h;obtain⟨d1,d2,j,o,J,Y,q⟩:=h;obtain⟨as,L⟩:=j.reads I v d;obtain⟨bs,a⟩:=o.reads I u D;exact ne_dataH L a J Y T ⟨.bl _,H,I,rfl,q⟩
theorem nB:∀(a b:List Int),PyData.eqvAll (a.map PyData.int) (b.map PyData.int)=decide (a=b)
 |[],[]=>by simp[PyData.eqvAll]
 |[],y::b=>by simp[PyData.eqvAll]
 |x::a,[]=>by simp[PyData.eqvAll]
 |x::a,y::b=>by
  rw[G7,G7];simp only[PyData.eqvAll,PyData.eqv,nB a b];by_cases h:x=y
  .by_cases Y:a=b
   .simp[h,Y]
   .simp[h,Y]
  .simp[h]
theorem Dn(a b:List Int):PyData.eqv (.list (a.map PyData.int)) (.list (b.map PyData.int))=decide (a=b):=by
 rw[← nB];simp only[PyData.eqv]
section
variable{X:Cx}{tg:Expr}
end
theorem Ew:LO "all" = some (.builtin "all"):=by decide
section
variable{prog:Program}{w:World}{A:Around}{E:Value->Shared->Prop}{s:Shared}{d:Addr}
def Ent(h:Heap)(d:Addr)(es:Array DictEntry)(ep:Nat):Prop:=∃ o,h.get? d=some o/\o.ExactDict/\o.data=.dict es ep
theorem Ent.ty{es:Array DictEntry}(x:Ent s.heap d es ep):s.TypeIs (.ref d) "dict":=by
 obtain⟨o,J,Y,_⟩:=x;exact⟨o,J,Y.1⟩
theorem Dp(hd:(d == sysModules)=false):MeetsIn prog w (Builtin.«dict.items» ⟨[.ref d],[]⟩) (λ_ R s=>(∃ es ep,Ent s.heap d es ep)/\R (.ok (.ret (.ref s.heap.objs.size))) { s with heap:=s.heap.push { cls:=.type "dict_items",data:=.fields #[.ref d] } }) :=
 .of_wp λA R s ⟨⟨es,ep,C⟩,h⟩=>by
  unfold Builtin.«dict.items» Builtin.Dict.noArgs;refine LX (LX (wpAny_notOrdered_dict C.ty ?_));show wpAny _ _ (pure d) _ _ s;refine L4 ?_;show wpAny _ _ (Builtin.Dict.showsAll d >>= _) _ _ s;unfold Builtin.Dict.showsAll;rw[Ng (by simp[hd])]
  exact LX (L4 (LX (My (L4 ⟨_,rfl,h⟩))))
theorem Dq{v:Addr}{es:Array DictEntry}(p:s.heap.IsItemsView v d)(C:Ent s.heap d es ep)
  (h:Q (.ref s.heap.objs.size) { s with heap:=s.heap.push { cls:=.type "dict_itemiterator",data:=.fields #[.none,.bool false,.ref d,.int 0 0,.int es.size 0,.int ep 0,.none,.none] } }) :
  wpAny (model prog w) A (pyIter (.ref v)) Q E s:=by
 obtain⟨y,J,Y,g⟩:=id p;obtain⟨o,O,f,G⟩:=C;refine wpAny_pyIter_slot p.typeIs F.slot_dict_items_iter (Mz F.slot_dict_items_iter p.typeIs F.entry_dict_items_iter ?_ (F.args_dict_items_iter_1 _));show wpAny _ _ (Builtin.«dict_items.__iter__» _) _ _ s;unfold Builtin.«dict_items.__iter__» Builtin.Dict_items.dictOf Builtin.Dict_items.newIterator;refine LX (L4 (LX (LX (wpAny_field J g (x:=.ref d) rfl (L4 (LX (LX (wpAny_dictEntries O G (LX (wpAny_dictEpoch O G ?_))))))))));simp only[show MA "dict_itemiterator" = true by decide,if_true]
 refine My (L4 ⟨_,rfl,"dict_itemiterator",_,⟨_,L6 _ rfl,rfl⟩,F.slot_dict_itemiterator_next.lookup,?_⟩)
  (by simp only[sizeOk,Builtin.Dict_items.ownedTupleFields,GQ,Gx,GX,IL,sizeLine_eq];omega)
 simpa[rawInt,Builtin.Dict_items.ownedTupleFields] using h
theorem A9{es:Array DictEntry}{ok ov:Value}{Q:Option Value->Shared->Prop}(j:IsItemIter s.heap it d i es.size ep ok ov)(C:Ent s.heap d es ep)(k:A.handled=none)
  (g:∀ e,es[i]?=some e->∀ h',IsItemIterOut h' it d (i+1) es.size ep e.key e.val s.heap.objs.size->h'.get? s.heap.objs.size=some { cls:=.type "tuple",data:=.seq #[e.key,e.val] }->(∀ b o,b≠it->s.heap.get? b=some o->h'.get? b=some o)->Q (some (.ref s.heap.objs.size)) { s with heap:=h' })
  (hE:es[i]?=none->∀ h',Heap.ExtBut it s.heap h'->Q none { s with heap:=h' }):wpAny (model prog w) A (pyNext (.ref it)) Q E s:=by
 obtain⟨o,O,f,G⟩:=C;have l:s.TypeIs (.ref it) "dict_itemiterator":=⟨_,j,rfl⟩;have own:MA "dict_itemiterator" = true:=by decide
 unfold pyNext;refine LX (wpAny_attempt (MB (name:=Str.ofString "__next__") l F.slot_dict_itemiterator_next (Mz F.slot_dict_itemiterator_next l F.entry_dict_itemiterator_next ?_ (F.args_dict_itemiterator_next_1 _))));refine LX (L4 (LX (LX (LX (MC l (L4 ?_))))));refine LX (wpAny_fieldsOf j rfl ?_);simp only[own,if_true];show wpAny _ _ (if(Value.ref d == Value.none)=true then _ else _) _ _ _;rw[Ng (show ¬ ((Value.ref d == Value.none)=true) from G4)];refine LX (L4 (LX (wpAny_dictEntries O G ?_)));rw[Ng (by simp)]
 refine LX (L4 (LX (wpAny_dictEpoch O G ?_)));rw[Ng (by simp)]
 refine L4 ?_;have n0:¬ ((i:Int)<0):=by omega
 simp only[n0,if_false,GA]
 cases r:es[i]? with
 |none =>
  refine LX (LX (MC l (L4 ?_)));show wpAny _ _ (setField (.ref it) 2 .none >>= _) _ _ s;refine LX (wpAny_setField j rfl (by simp) ?_)
  show wpAny _ _ (newExc (.type "StopIteration") [] >>= _) _ _ _;refine LX ?_;simp only[newExc,newTuple];refine LX (My (LX (m:=firstArgMember _ _) (wpAny_of_eq (a:=Value.none) (by first | rfl | (simp only[firstArgMember];rfl)) (My ?_ (by size_fits)))) (by size_fits))
  simp only[raiseNew];refine LX (wpAny_handled ?_);rw[show A.in1.handled=none from k];refine LX (L4 (wpAny_throw ?_));refine LX (Mu (T:="StopIteration") (b:=true) ⟨_,L6 _ rfl,rfl⟩ isSubtype_stop (L4 ?_));exact hE r _ (((MD ..).extBut.push _).push _)
 |some e =>
  refine LX (LX (MC l (L4 ?_)));refine LX (ME l ?_);show wpAny _ _ (setField (.ref it) 3 (rawInt ((i:Int)+1)) >>= _) _ _ s;refine LX (MF j (by simp) λB L I=>?_)
  have c1:((i+1:Nat):Int)=(i:Int)+1:=by omega
  have n:IsItemIter B it d (i+1) es.size ep ok ov:=by
   unfold IsItemIter;rw[c1];simpa[rawInt] using L
  have lt:it<s.heap.objs.size:=LL j;have u:B.objs.size=s.heap.objs.size:=I.1;have p:Shared.TypeIs { s with heap:=B } (.ref it) "dict_itemiterator":=⟨_,n,rfl⟩;refine LX (LY (LX (ME p (LX (ME p ?_)))));show wpAny _ _ (MG (.ref it) 6 e.key e.val) _ _ { s with heap:=B };unfold MG Builtin.Dict_items.ownedTupleIsFree;refine LX (wpAny_newTuple ?_);have Y:IsItemIter (B.push { cls:=.type "tuple",data:=.seq #[e.key,e.val] }) it d (i+1) es.size ep ok ov:=L5 _ n;have z:(B.push { cls:=.type "tuple",data:=.seq #[e.key,e.val] }).get? s.heap.objs.size=some { cls:=.type "tuple",data:=.seq #[e.key,e.val] }:=by rw[← u];exact L6 _ rfl
  have N:∀ b o,b≠it->s.heap.get? b=some o->(B.push { cls:=.type "tuple",data:=.seq #[e.key,e.val] }).get? b=some o:=λb o M q=>L5 _ (I.extBut b o M q);rw[u];generalize B.push { cls:=.type "tuple",data:=.seq #[e.key,e.val] }=v at Y z N;show wpAny _ _ (_ >>= _) _ _ { s with heap:=v };refine LX (LX (wpAny_field Y rfl (x:=.none) rfl (L4 ?_)));simp only[if_true];refine LX (wpAny_field Y rfl (x:=ok) rfl (LX (wpAny_field Y rfl (x:=ov) rfl ?_)));refine LX (MF Y (by simp) λH J y=>?_)
  replace J:IsItemIter H it d (i+1) es.size ep e.key ov:=J;refine LX (MF J (by simp) λh D k4=>?_)
  replace D:IsItemIter h it d (i+1) es.size ep e.key e.val:=D;refine LX (MF D (by simp) λg5 t k5=>?_)
  replace t:IsItemIterOut g5 it d (i+1) es.size ep e.key e.val s.heap.objs.size:=t;refine LX (MF t (by simp) λg6 c k6=>?_)
  replace c:IsItemIterOut g6 it d (i+1) es.size ep e.key e.val s.heap.objs.size:=c;have up:∀ b o,b≠it->v.get? b=some o->g6.get? b=some o:=λb o M q=>k6.extBut b o M (k5.extBut b o M (k4.extBut b o M (y.extBut b o M q)));exact LX (MH (L4 (L4 ⟨_,rfl,L4 (g e r g6 c (up _ _ (HY lt) z) λb o M q=>up b o M (N b o M q))⟩)))
end
def wF(v d:Addr):HO:=.ext λh=>h.IsItemsView v d
def KvA(H:Hp)(u:HO)(i:Nat)(x y:V):Prop:=(∃ m k,u=.dK m/\m[i]?=some (k,y)/\x=kV k)∨∃ m k t,u=.dT m/\m[i]?=some (k,y)/\x=.ref t/\H t=some (.tup (k.map kV))
def dlen:HO->Nat
 |.dK m=>m.length
 |.dT m=>m.length
 |_=>0
def xE:HO->Prop
 |.dK _=>True
 |.dT _=>True
 |_=>False
theorem ml{α j:Type}{F:α->j->Prop}:∀{c:List α}{d:List j},Paired F c d->∀{i:Nat}{b:j},d[i]?=some b->∃ a,c[i]?=some a/\F a b
 |_,_,.nil,i,b,e=>by simp at e
 |_,_,.cons r t,0,b,e=>⟨_,rfl,by cases e;exact r⟩
 |_,_,.cons r t,i+1,b,e=>ml t (i:=i) e
theorem Ba{d:Addr}{u:HO}(hd:xE u)(x:bp P w H h d u):(d == sysModules)=false/\∃ es ep,Ent h d es ep/\es.size=dlen u/\∀ i e,es[i]?=some e->∃ x y,KvA H u i x y/\RelV x e.key/\RelV y e.val:=by
 cases u with
 |dK m =>
  obtain⟨a,lo,M,l,o,es,ep,J,Y,g,b,s,C⟩:=x;have B:m.length=M.length:=Paired.length l;have sz:es.size=M.length:=by rw[← s.length,Hd]
  refine⟨lo,es,ep,⟨o,J,Y,g⟩,by rw[sz];exact B.symm,λi e c=>?_⟩
  have T:i<M.length:=by
   have:i<es.size:=(JX.mp c).1;omega
  obtain⟨⟨k,v⟩,p⟩:∃ q,M[i]?=some q:=⟨_,Gs T⟩;obtain⟨G,aa⟩:=s.get? (e:=e) (by rw[Hv];exact c) p
  obtain⟨⟨A,y⟩,Q,E,D⟩:=ml l p;have I:A=k:=E;subst I;refine⟨kV A,y,.inl ⟨m,A,rfl,Q,rfl⟩,?_,by rw[aa];exact D⟩
  rcases aW (show nX A e.key=true from G) with⟨j,t,O,f⟩ | ⟨z,t,O,f⟩
  .rw[O,f];exact⟨t,rfl⟩
  .rw[O,f];exact⟨t,rfl⟩
 |dT m =>
  obtain⟨a,lo,N,r,o,es,ep,J,Y,g,b,s⟩:=x;have sz:es.size=N.length:=by rw[← Hd,b,Gu]
  refine⟨lo,es,ep,⟨o,J,Y,g⟩,by rw[sz];exact r.length.symm,λi e c=>?_⟩
  have O:es.toList[i]?=some e:=by rw[Hv];exact c
  rw[b,GC]at O
  cases L:N[i]? with
  |none=>rw[L]at O;cases O
  |some q =>
   rw[L]at O
   cases O
   obtain⟨⟨k,y⟩,Q,E,n,D⟩:=ml r L;exact⟨.ref q.2.1,y,.inr ⟨m,k,q.2.1,rfl,Q,rfl,n⟩,rfl,D⟩
 |_=>exact hd.elim
section
variable{X:Cx}{pins:List (Addr×Obj)}{σ:St}{H:Hp}{s:Shared}{d:Addr}{u:HO}{o:Obj}
theorem xE.notT(h:xE u):(∀ xs,u≠.tup xs)/\(∀ o v,u≠.frz o v)/\(∀ ps,u≠.tbl ps)/\∀ a,u≠.own a:=by
 cases u<;>first | exact h.elim | exact⟨λ_=>by simp,λ_ _=>by simp,λ_=>by simp,λ_=>by simp⟩
theorem HOk.frz{P:Program}{w:World}{h:Heap}(x:HOk P w H h)(hd:H d=some u)(T:xE u)(e:h.get? d=some o):HOk P w (upd H d (.frz o u)) h:=λb v q=>by
 obtain⟨E,G,m,f⟩:=T.notT;have g:∀ c y,H c=some (.own y)->upd H d (.frz o u) c=some (.own y):=λc y r=>by rw[ao (xr r hd λz=>f y z.symm)];exact r
 have a:∀ c N,H c=some (.tup N)->upd H d (.frz o u) c=some (.tup N):=λc N r=>by rw[ao (xr r hd λz=>E N z.symm)];exact r
 by_cases M:b=d
 .subst M;rw[af]at q
  cases q
  exact⟨e,(x b u hd).stay (λ_ _ _ r=>r) (λc r=>g c b r) a⟩
 .rw[ao M]at q;exact(x b v q).stay (λ_ _ _ r=>r) (λc r=>g c b r) a
theorem Inv.freeze(I:Inv X pins σ H s)(hd:H d=some u)(T:xE u)(e:s.heap.get? d=some o):Inv X pins σ (upd H d (.frz o u)) s:=by
 obtain⟨E,G,x,f⟩:=T.notT;exact I.step (H':=upd H d (.frz o u)) (h':=s.heap) (g':=s.gens) (d':=s.drawn) (t':=s.toks) (ch:=[]) (λ_ z=>nomatch z) (λb _ _ _ _ q _=>q) (λb L _ _ _ q _=>⟨L.slots,q⟩)
  (λb _ _ _ n=>by rw[ao (ax hd n).symm];exact n) (λb L _ q=>⟨L,q⟩) (λb N r=>by rw[ao (xr r hd λz=>E N z.symm)];exact r)
  (λb L v r=>by rw[ao (xr r hd λz=>G L v z.symm)];exact r) (λb i r=>⟨#[],by rw[ao (xr r hd λz=>x i z.symm),r];simp⟩) (λ_ q=>q) (I.hok.frz hd T e) I.bare
theorem CJ:MtR X "dict.items" (λx xs H Q=>∃ d u,x=.ref d/\xs = []/\H d=some u/\xE u/\∀ v,H v=none->Q (.ref v) (upd H v (wF v d))):=by
 intro pins s σ H x xs v z Q I w rv h;obtain⟨d,u,rfl,rfl,hd,T,q⟩:=h
 cases w
 have c:=rv.zero;subst c;obtain⟨lo,D,N,C,_⟩:=Ba T (I.hok d _ hd);refine call_meetsIn LB C.ty PySem.F.entry_dict_items (PySem.F.args_dict_items_1 _) (Dp lo) ⟨⟨D,N,C⟩,?_⟩;have p:(s.heap.push { cls:=.type "dict_items",data:=.fields #[.ref d] }).IsItemsView s.heap.objs.size d:=⟨_,L6 _ rfl,rfl,rfl⟩;refine⟨.ref s.heap.objs.size,_,I.laid (t':=s.toks) (λb o e=>L5 _ e) (Gy _) ?_,rfl,q _ (I.hok.fresh (Gy _))⟩;exact⟨p,⟨_,L6 _ rfl⟩,λJ Y x k=>let ⟨o,A,r⟩:=x;⟨o,k _ A,r⟩⟩
end
section
open PySem.W
def KOk{α:Type}(n:Nat):KasT α->(α->Prop)->Prop
 |.ret a,P=>P a
 |.ask i j k,P=>i<n/\j<n/\∀ b,KOk n (k b) P
theorem KOk.bind{α j:Type}{n:Nat}{f:α->KasT j}{P:j->Prop}:∀{t:KasT α},KOk n t (λa=>KOk n (f a) P)->KOk n (t.bind f) P
 |.ret _,h=>h
 |.ask _ _ _,h=>⟨h.1,h.2.1,λb=>KOk.bind (h.2.2 b)⟩
theorem KOk.imp{α:Type}{n:Nat}{P c:α->Prop}(hp:∀ a,P a->c a):∀{t:KasT α},KOk n t P->KOk n t c
 |.ret _,h=>hp _ h
 |.ask _ _ _,h=>⟨h.1,h.2.1,λb=>KOk.imp hp (h.2.2 b)⟩
theorem KOk.wp{α:Type}{n:Nat}{P:α->Prop}{s:Shared}{c:Nat->Nat->(Bool->Shared->Prop)->Shared->Prop}{Q:α->Shared->Prop}(Y:∀ i j C,i<n->j<n->(∀ b,C b s)->c i j C s)(hq:∀ a,P a->Q a s):∀{t:KasT α},KOk n t P->t.kasWp c Q s
 |.ret _,h=>hq _ h
 |.ask i j k,h=>Y i j _ h.1 h.2.1 λb=>KOk.wp Y hq (h.2.2 b)
def Ltn(n:Nat)(p:Array Nat):Prop:=p.size=n/\∀ x∈p.toList,x<n
theorem Ltn.at{p:Array Nat}(y:0<n)(h:Ltn n p)(i:Nat):p.getD i 0<n:=by
 by_cases T:i<p.size
 .have:p.getD i 0=p[i]:=by simp[JS,T]
  rw[this];exact h.2 _ (Array.getElem_mem_toList T)
 .have:p.getD i 0=0:=by simp[JS,T]
  rw[this];exact y
theorem Ltn.perm{p q:Array Nat}(h:Ltn n p)(hp:q.Perm p):Ltn n q:=by
 have a:=Array.perm_iff_toList_perm.mp hp;exact⟨by rw[← h.1];exact hp.size_eq,λx L=>h.2 x (a.mem_iff.mp L)⟩
theorem Ltn.rev{p:Array Nat}(h:Ltn n p)(i j:Nat):Ltn n (kas_rev p i j):=h.perm (mirror_perm _ _ _ _)
theorem FO{n:Nat}{p:Array Nat}(T:0<n)(h:Ltn n p):∀ f m,KOk n (kas_asc p f m) λ_=>True
 |0,_=>trivial
 |f+1,m=>⟨h.at T _,h.at T _,λb=>by
  cases b with
  |true=>exact trivial
  |false=>exact FO T h f (m+1)⟩
theorem wD{n:Nat}(T:0<n):∀ f p m q,Ltn n p->KOk n (kas_desc f p m q) λr=>Ltn n r.1
 |0,_,_,_,h=>h
 |f+1,p,m,q,h=>⟨h.at T _,h.at T _,λb=>by
  cases b with
  |true =>
   show KOk n (if q > 0 then _ else _) _;split
   .exact wD T f _ _ _ (h.rev _ _)
   .exact wD T f _ _ _ h
  |false=>exact⟨h.at T _,h.at T _,λd=>by
    cases d with
    |true=>exact h
    |false=>exact wD T f _ _ _ h⟩⟩
theorem Eg{p:Array Nat}(T:0<n)(h:Ltn n p)(a b:Nat):KOk n (kas_tail3 a b p) λr=>Ltn n r.2 :=
 KOk.bind ((FO T (h.rev 0 a) _ _).imp λ_ _=>h.rev 0 a)
theorem Eh{p:Array Nat}(T:0<n)(h:Ltn n p)(a b:Nat):KOk n (kas_descPart a b p) λr=>Ltn n r.2 :=
 KOk.bind ((wD T _ _ _ _ h).imp λr B=>by
  show KOk n (if r.2.2 > 0 then _ else _) _;split
  .exact Eg T (B.rev _ _) _ _
  .exact Eg T B _ _)
theorem FN{p:Array Nat}(T:0<n)(h:Ltn n p)(a:Nat):KOk n (kas_count a p) λr=>Ltn n r.2 :=
 KOk.bind ((FO T h _ _).imp λm _=>by
  show KOk n (if(m == a)=true then _ else if m > 1 then _ else _) _;split
  .exact h
  .split
   .exact⟨h.at T _,h.at T _,λb=>by
     cases b with
     |true=>exact h
     |false=>exact Eh T (h.rev _ _) _ _⟩
   .exact Eh T h _ _)
theorem uI{n:Nat}{p:Array Nat}(T:0<n)(h:Ltn n p)(k:Nat):∀ f l r,KOk n (kas_place p k f l r) λ_=>True
 |0,_,_=>trivial
 |f+1,l,r=>by
  show KOk n (if l ≥ r then _ else _) _;split
  .exact trivial
  .exact⟨h.at T _,h.at T _,λb=>by
    cases b with
    |true=>exact uI T h k f _ _
    |false=>exact uI T h k f _ _⟩
theorem k_bin{n:Nat}(T:0<n):∀ f p k,Ltn n p->KOk n (kas_bin f p k) λr=>Ltn n r
 |0,_,_,h=>h
 |f+1,p,k,h=>KOk.bind ((uI T h k _ _ _).imp λl _=>k_bin T f _ _ (h.perm (bubble_perm _ _ _)))
theorem k_sort(T:0<n):KOk n (kas_sort n) (Ltn n):=by
 have h:Ltn n (List.toArray (GW n)):=⟨by simp,λx L=>by simpa using L⟩
 exact KOk.bind ((FN T h n).imp λr B=>by
  show KOk n (if r.1<n then _ else _) _;split
  .exact k_bin T _ _ _ B
  .exact B)
end
section
open PySem.W
variable{prog:Program}{w:World}{A:Around}{E:Value->Shared->Prop}{s:Shared}
def PrV(h:Heap)(v:Value):Prop:=∃ a o n x y e ty,v=.ref a/\h.get? a=some o/\o.cls=.type "tuple"/\o.data=.seq #[.int x e,.int y ty] n
theorem PrV.keep{v:Value}(p:PrV h v)(k:∀ b o,v=.ref b->h.get? b=some o->h'.get? b=some o):PrV h' v:=by
 obtain⟨a,o,n,x,y,e,ty,rfl,J,r⟩:=p;exact⟨a,o,n,x,y,e,ty,rfl,k _ _ rfl J,r⟩
theorem cH{v:Value}{b:Bool}{Q:Bool->Shared->Prop}(T:PrV s.heap u)(p:PrV s.heap v)(M:b=true)(h:∀ c,Q c s):wpAny (model prog w) A (keyLt' (tuples' b) u v) Q E s:=by
 obtain⟨a,o,n,x,y,e,ty,rfl,J,Y,g⟩:=T;obtain⟨l,B,i,H,q,d,f,rfl,I,N,t⟩:=p;subst M;refine kat_lt J g I t ?_;refine kat_cons (wpAny_eqBool_int ?_);refine kat_go (λ_=>kat_yes (kat_cons (wpAny_eqBool_int (kat_go (λ_=>kat_yes (kat_nil (h _))) λ_=>kat_no ?_)))) λ_=>kat_no (oneLt_int (h _));exact kat_one _ _ (PyProof.Rows.lt_int (show PySem.W.BoolBack Q (.bool _) s from h _))
theorem wo{M:Model}:∀{vs:List Value},(∀ v∈vs,PrV s.heap v)->∃ fs,KatTups s.heap vs fs/\fs.length=vs.length/\∀ v∈fs,Looks M s.heap (typeOf v) (.type "int")
 |[],_=>⟨[],trivial,rfl,λv p=>nomatch p⟩
 |v::vs,h=>by
  obtain⟨fs,J,Y,g⟩:=wo (M:=M) (vs:=vs) λu T=>h u (GD _ T);obtain⟨a,o,n,x,y,e,ty,rfl,I,N,t⟩:=h v (GN ..);refine⟨.int x e::fs,KatTups.cons I N t rfl J,by rw[GX,GX,Y],λu T=>?_⟩
  rcases GG.mp T with rfl | T
  .exact .now
  .exact g u T
theorem xb{P:PySem.Fin->Shared->Prop} (c:s.heap.get? a=some (MI "list" vs.toArray n)) (hp:∀ v∈vs,PrV s.heap v) (ac:vs.length<64)
  (h:∀ out:List Value,out.length=vs.length->(∀ v∈out,v∈vs)->P (.done (.ret .none)) { s with heap:=sortedHeap s.heap a vs out.toArray }):wpAny (model prog w) A (Builtin.«list.sort» ⟨[.ref a],[]⟩) P E s:=by
 have D:a<s.heap.objs.size:=LL c;have line:vs.length<=LK:=by rw[sizeLine_eq];omega
 obtain⟨O,an⟩:∃ O,(s.heap.update a (Ml λ_=>(#[]:Array Value))).get? a=some (MI "list" #[] O):=⟨_,MJ c λ_=>#[]⟩;have am:(((s.heap.update a (Ml λ_=>(#[]:Array Value))).push (MI "tuple" vs.toArray 0)).push (MI "list" #[] 0)).get? a=some (MI "list" #[] O):=L5 _ (L5 _ an);have al:∀ v∈vs,PrV (((s.heap.update a (Ml λ_=>(#[]:Array Value))).push (MI "tuple" vs.toArray 0)).push (MI "list" #[] 0)) v:=λv k=>by
  have pv:=hp v k;refine pv.keep λb o eb e=>L5 _ (L5 _ ?_);have nb:b≠a:=λz=>by
   obtain⟨a',o',n',x,y,tx,ty,rfl,l,d,_⟩:=pv
   cases eb
   rw[z,c]at l
   cases l
   exact Nh d (by intro N;have:=Value.type.inj N;exact Nh this (by decide))
  rw[Heap.get?_update_ne _ _ _ _ nb];exact e
 rw[list_sort_plain];refine LX (listItems_at c rfl (LX (listUpdate_at c rfl (LX (seqEpoch_at an rfl (LX (wpAny_newTuple (LX (MN (LY ?_) (Hq _))) line)))) (by rw[GQ];exact line) (Hq _))))
 show wpAny (model prog w) A _ P E { s with heap:=((s.heap.update a (Ml λ_=>(#[]:Array Value))).push (MI "tuple" vs.toArray 0)).push (MI "list" #[] 0) };have f:∀ out:List Value,sortedHeap s.heap a vs out.toArray=(((s.heap.update a (Ml λ_=>(#[]:Array Value))).push (MI "tuple" vs.toArray 0)).push (MI "list" #[] 0)).update a (Ml λ_=>out.toArray):=λ_=>rfl;generalize ((s.heap.update a (Ml λ_=>(#[]:Array Value))).push (MI "tuple" vs.toArray 0)).push (MI "list" #[] 0)=h6 at am al f;dsimp only;by_cases Y:vs.toArray.size<2
 .rw[Nf Y,Nf Y];refine LX (L4 ?_);rw[StateT.run_pure];refine LX (L4 (LX (seqEpoch_at am rfl ?_)));dsimp only;have eo:(arrOf (SortSt.mk' general' (vs.toArray.zip vs.toArray) #[] 7 none)).map (·.2)=vs.toArray:=by
   show(vs.toArray.zip vs.toArray).map (·.2)=vs.toArray;apply Array.ext
   .simp
   .intro i J Y;simp
  rw[eo];refine LX (listUpdate_at am rfl ?_ (Hq _) (by rw[GQ];exact KY line))
  simp only[bne_self_eq_false,HL,if_false];refine L4 ?_;have:=h vs rfl λv k=>k;rw[f]at this;exact this
 .rw[Ng Y,Ng Y];rw[GQ]at Y;obtain⟨fs,H,q,t⟩:=wo (s:={ s with heap:=h6 }) (M:=model prog w) al;refine LX (kat_kind H ∅ t (by decide) ?_)
  have ap:(Value.type "int" != Value.type "tuple")=true:=by decide
  refine LX (LS (kat_run (ks:=vs) (vs:=vs) (Q:=λab L=>L={ s with heap:=h6 }/\failedOf ab=none/\∃ p:Array Nat,Ltn vs.length p/\arrOf ab=p.map (kas_item (vs.toArray.zip vs.toArray))) (G:=λp L=>L={ s with heap:=h6 }/\Ltn vs.length p) rfl ∅ ac (λp ab L u I a3 a4=>⟨a4.1,a3,p,a4.2,I⟩) (KOk.wp (λi j C T B hC=>?_) (λp m=>⟨rfl,m⟩) (k_sort ∅))) ?_ λ_ _ e=>e)
  .have gi:vs.getD i Value.none∈vs:=by rw[GP,Gs T];exact Ii T
   have gj:vs.getD j Value.none∈vs:=by rw[GP,Gs B];exact Ii B
   exact cH (al _ gi) (al _ gj) ap hC
  .rintro⟨⟨⟩,ab⟩ L ⟨rfl,r,p,aa,aL⟩;dsimp only;have aI:=kat_snds (ks:=vs) (vs:=vs) rfl aL;rw[aI];have g:(p.toList.map λi=>vs.getD i Value.none).length=vs.length:=by rw[Gu,Hd,aa.1]
   refine LX (seqEpoch_at am rfl (LX (listUpdate_at am rfl ?_ (Hq _) (by rw[GQ,g];exact KY line))))
   rw[r];simp only[bne_self_eq_false,HL,if_false];refine L4 ?_;have:=h _ g λv k=>by
    obtain⟨i,T,rfl⟩:=Hn.mp k;have lt:=aa.2 i T;rw[GP,Gs lt];exact Ii lt
   rw[f]at this;exact this
theorem rj{l:Addr}(hl:s.heap.IsList l vs.toArray)(hp:∀ v∈vs,PrV s.heap v)(a:vs.length<64)
  (h:∀ out:List Value,out.length=vs.length->(∀ v∈out,v∈vs)->Q (.ref (s.heap.objs.size+1)) { s with heap:=sortedAll s.heap vs out.toArray }):wpAny (model prog w) A (call (.builtin "sorted") [.ref l]) Q E s:=by
 refine Calls.call_function_entry kind_sorted plain_sorted entry_sorted (args_sorted1 _) ?_;unfold Builtin.«sorted»;refine LX (m:=checkCount "sorted" 1 1 _) (L4 ?_);refine LX (collect_list hl ?_ (by rw[sizeLine_eq];omega))
 refine LX (MN ?_ (by rw[sizeLine_eq];omega))
 have y:((s.heap.push (MI "list" #[] 0)).update s.heap.objs.size (Ml (·++vs.toArray))).objs.size=s.heap.objs.size+1:=by rw[MO,size_push']
 have J:(((s.heap.push (MI "list" #[] 0)).update s.heap.objs.size (Ml (·++vs.toArray))).push (MI "list" vs.toArray 0)).get? (s.heap.objs.size+1)=some (MI "list" vs.toArray 0):=by rw[← y];exact L6 _ rfl
 show wpAny _ _ _ _ _ { s with heap:=((s.heap.push (MI "list" #[] 0)).update s.heap.objs.size (Ml (·++vs.toArray))).push (MI "list" vs.toArray 0) };rw[y];refine LX (LY (Mz slot_list_sort ⟨_,J,rfl⟩ entry_list_sort (xb J (λv p=>(hp v p).keep λb o _ q=>?_) a λout u I=>⟨_,rfl,?_⟩) (args_list_sort _)))
 .have f:b<s.heap.objs.size:=LL q
  rw[Heap.get?_push_ne _ _ _ (by rw[y];exact G0 (Ik f)),Heap.get?_update_ne _ _ _ _ (G0 f),Heap.get?_push_ne _ _ _ (G0 f)]
  exact q
 .exact L4 ⟨_,rfl,h out u I⟩
end
inductive rSortP(K:Gw)(xs:List V)(H:L2.Hp)(Q:L2.VK):Prop
 |mk (p:Addr)(ys:List V) (h0_:xs = [.ref p])(h1_:SqL K H p ys)(h2_:(∀ y∈ys,∃ t i j,y=.ref t/\H t=some (.tup [.int i,.int j])))(h3_:ys.length<64)(h4_:∀(l:Addr)(out:List V),H l=none->out.length=ys.length->(∀ y∈out,y∈ys)->Q (.ref l) (upd H l (.lst out)))
theorem oP:∀{ys:List V}{us:List Value},Vals ys us->∀ u∈us,∃ y∈ys,RelV y u
 |_,_,.nil,u,h=>nomatch h
 |_,_,.cons (a:=y) r t,u,h=>by
  rcases GG.mp h with rfl | h
  .exact⟨y,GN ..,r⟩
  .obtain⟨z,g,b⟩:=oP t u h;exact⟨z,GD _ g,b⟩
theorem qW{ys:List V}{us:List Value}(r:Vals ys us):∀{out:List Value},(∀ u∈out,u∈us)->∃ zs,Vals zs out/\zs.length=out.length/\∀ z∈zs,z∈ys
 |[],_=>⟨[],.nil,rfl,λz h=>nomatch h⟩
 |u::out,h=>by
  obtain⟨zs,j,N,n⟩:=qW r (out:=out) λx L=>h x (GD _ L);obtain⟨y,Q,D⟩:=oP r u (h u (GN ..))
  exact⟨y::zs,.cons D j,by rw[GX,GX,N],λz g=>by
   rcases GG.mp g with rfl | g
   .exact Q
   .exact n z g⟩
theorem yk:gy X (.builtin "sorted") (rSortP X.K):=by
 intro B s O H N J Q I r h;obtain⟨p,d,rfl,n,a,aa,q⟩:=h;obtain⟨u,rfl,f⟩:=i3 r
 cases f
 obtain⟨E,rv,m,g⟩:=I.list n;have C:=rv.length;refine rj m.isList (λv k=>?_) ∅ λG o1 o2=>?_
 .obtain⟨y,ab,D⟩:=oP rv v k;obtain⟨t,i,j,rfl,l⟩:=a y ab
  cases D
  obtain⟨_,T,o,L,b1,b2,x,b3⟩:=(show bp X.prog X.w H s.heap t (.tup [.int i,.int j]) from I.hok t _ l);obtain⟨b,u2,rfl,⟨Y,rfl⟩,⟨z,rfl⟩⟩:=yB o;exact⟨t,L,x,i,j,Y,z,rfl,b1,b2,b3⟩
 .obtain⟨M,A,l3,m3⟩:=qW rv o2;obtain⟨e,c⟩:=sortedAll_at s.heap E G.toArray;refine⟨.ref (s.heap.objs.size+1),_,I.laid (t':=s.toks) (λ_ _=>sortedAll_old) (IG _) (show bp X.prog X.w _ _ _ (.lst M) from⟨?_,G,e,A,c⟩),rfl,q _ M (I.hok.fresh (IG _)) ∅ m3⟩
  exact G6 (ar ∅)
inductive rAllB(K:Gw)(xs:List V)(H:L2.Hp)(Q:L2.VK):Prop
 |mk (p:Addr)(bs:List Bool) (h0_:xs = [.ref p])(h1_:SqL K H p (bs.map V.bl))(h2_:Q (.bl (bs.all id)) H)
theorem sO(t:X.calm=true):gy X (.builtin "all") (rAllB X.K):=by
 intro B s O H N J Q I r h;obtain⟨p,bs,rfl,n,q⟩:=h;obtain⟨u,rfl,D⟩:=i3 r
 cases D
 obtain⟨E,rv,y,g⟩:=I.list n;have aa:=rv.length;rw[Gu]at aa;have f:p<s.heap.objs.size:=by obtain⟨_,_,q,_⟩:=y;exact LL q
 refine call_all_walk (wpAny_pyIter_list y.isList ?_);refine⟨s.heap.objs.size,[s.heap.objs.size,p],[s.heap.objs.size],E.toArray.size,_,_,λi=>bs.getD i true,rfl,Walks.list (A:=X.A.in1) (I.ok.hd t) _ p (G0 f) E.toArray,⟨⟨_,L6 _ rfl,rfl,rfl⟩,y.isList.push _⟩,λi v L Q' E' a d=>?_,λj l G=>?_⟩
 .have k:E[i]?=some v:=by simpa using a
  have T:i<bs.length:=by have:=(Gn.mp k).1;omega
  obtain⟨w,c,m⟩:=rv.get (i:=i) (x:=.bl bs[i]) (by rw[GC,Gs T];rfl)
  rw[k]at c
  cases c
  cases m
  replace d:Q' (bs.getD i true) L:=d;rw[show bs.getD i true=bs[i] by rw[GP,Gs T];rfl]at d
  exact LV d
 .have z:((GW E.toArray.size).all λi=>bs.getD i true)=bs.all id:=by
   rw[GQ,← aa,JV,JO,JO];constructor
   .intro h b M;obtain⟨i,T,rfl⟩:=Ij M;have:=h i (Hk.mpr T);rw[GP,Gs T]at this;exact this
   .intro h i T;have Y:=Hk.mp T;rw[GP,Gs Y];exact h _ (Ii Y)
  rw[z];refine⟨.bl _,H,I.kept (t':=l) (λb o e=>G b o (λC=>?_) (L5 _ e)),rfl,q⟩;rw[GJ.mp C]at e;exact HF _ (LL e)
section
variable{prog:Program}{w:World}{K:Type} [DecidableEq K] {knd:KeyKind prog w K} {A:Around} {E:Value->Shared->Prop} {s:Shared}
end
section
variable{X:Cx}{o e f:Expr}{apos cpos:Pos}{td ty tx:TE}
end
def Itk(o:Obj)(kvs:List (Key×V))(d:Addr):It :=
 ⟨λi H=>H d=some (.frz o (.dK kvs))/\i<kvs.length,λi H v j=>∃ k y,kvs[i]?=some (k,y)/\v=kV k/\j=H,λi H=>H d=some (.frz o (.dK kvs))/\kvs.length<=i⟩
theorem AU{d:Addr}{es:Array DictEntry}(x:bp P w H h d (.frz o (.dK kvs)))(he:o.data=.dict es ep):(d == sysModules)=false/\∃ vs,KV kvs vs/\h.DictAt (br P w) d vs ep:=by
 obtain⟨B,t,lo,vs,A,p,i,f,J,Y,g,r⟩:=x;rw[B]at J
 cases J
 rw[he]at g
 cases g
 exact⟨lo,vs,A,o,es,B,Y,he,r⟩
theorem yE{tg:Expr}(o:Obj)(kvs:List (Key×V))(d it:Addr)(es:Array DictEntry)(ep:Nat)(he:o.data=.dict es ep):Turn P w K tg (Itk o kvs d) [it] it (λi h=>h.IsKeyIter it d i kvs.length ep) where
 mem:=by simp
 obj:=λi h st b M=>by
  have e:b=it:=by simpa using M
  subst e;obtain⟨o,e,c,d⟩:=st;exact⟨o,e,λv z=>by rw[d]at z;cases z⟩
 keep:=λi h A st k=>by
  obtain⟨o,e,r⟩:=st;exact⟨o,k it (by simp) o e,r⟩
 item:=by
  intro X hP n hK Y i B s O H E I D st N;subst hP n hK;obtain⟨hd,T⟩:=N;obtain⟨lo,g,rk,ab⟩:=AU (I.hok d _ hd) he;have C:kvs.length=g.length:=Paired.length rk;obtain⟨f0,u,m,L,f4,f5⟩:=D it (by simp)
  obtain⟨⟨k,v⟩,p⟩:∃ q,g[i]?=some q:=⟨_,Gs ∅⟩
  obtain⟨⟨k',y⟩,a,ek,J⟩:=ml rk p;have ac:k'=k:=ek;subst ac;refine wpAny_pyNext_dict_item (C▸st) ab p λx A G aa sb=>?_;have f:Inv X B O H { s with heap:=A }:=I.turned (t':=s.toks) (λb o M e=>(sb.2 b M).trans e) f0 u L f4 f5;obtain⟨o2,e,c,dd⟩:=id aa;refine⟨x,rfl,FU (s:={ s with heap:=A }) e c dd (by decide) ⟨kV k',H,f,?_,⟨k',y,a,rfl,rfl⟩,C.symm▸aa,λb M=>(D b M).1⟩⟩
  rcases aW (show nX k' x=true from G) with⟨j,t,rfl,rfl⟩ | ⟨z,t,rfl,rfl⟩
  .exact⟨t,rfl⟩
  .exact⟨t,rfl⟩
 done:=by
  intro X hP n hK Y i B s O H E I D st N;subst hP n hK;obtain⟨hd,T⟩:=N;obtain⟨lo,g,rk,ab⟩:=AU (I.hok d _ hd) he;have C:kvs.length=g.length:=Paired.length rk;obtain⟨f0,u,m,L,f4,f5⟩:=D it (by simp)
  exact wpAny_pyNext_dict_end (I.ok.hd Y) (C▸st) ab (Io ∅) λA eb=>⟨rfl,I.turned (t':=s.toks) (λb o M e=>eb b o M e) f0 u L f4 f5⟩
 self:=λ_ _ s Q _ st h=>by
  have l:s.TypeIs (.ref it) "dict_keyiterator":=st.typeIs;refine wpAny_pyIter_slot l F.slot_dict_keyiterator_iter (Mz F.slot_dict_keyiterator_iter l F.entry_dict_keyiterator_iter ?_ (F.args_dict_keyiterator_iter_1 _));show wpAny _ _ (ret (.ref it)) _ _ s;exact L4 ⟨_,rfl,"dict_keyiterator",_,l,F.slot_dict_keyiterator_next.lookup,h⟩
def iKeys(c:TE):TI:=λO H R=>c O H λx l=>∃ d m,x=.ref d/\l d=some (.dK m)/\∀ o,R (Itk o m d) (upd l d (.frz o (.dK m)))
theorem E7{c:TE}{k:Expr}(he:PE X e c):PI X k e (iKeys c):=by
 intro B s O H R I h;refine thn (he B s O H _ I h) λv g z=>?_;obtain⟨x,l,i,f,L⟩:=z;obtain⟨d,m,rfl,hd,q⟩:=L
 cases f
 obtain⟨_,p,N,j,sz,_⟩:=Ba (u:=.dK m) True.intro (i.hok d _ hd);obtain⟨o,L,a,J⟩:=id j;have w:=i.freeze hd True.intro L;obtain⟨lo,Y,A,n⟩:=AU (w.hok d _ af) J;have C:m.length=Y.length:=Paired.length A;refine wpAny_pyIter_dict lo n ?_;refine⟨g.heap.objs.size,[g.heap.objs.size],_,_,upd l d (.frz o (.dK m)),rfl,w.kept (t':=g.toks) λb u e=>L5 _ e,yE o m d _ p N J,⟨_,L6 _ rfl,rfl,by rw[C];rfl⟩,λb M=>?_,q o⟩
 rw[GJ.mp M];exact w.fpOk (Gy _) (w.hok.fresh (Gy _))
section
variable{prog:Program}{w:World}{A:Around}{E:Value->Shared->Prop}{s:Shared}{T:String}{r d:Addr}{n:Nat}{P:Nat->Value->Prop}{OK:Heap->Prop}
end
section
variable{prog:Program}{w:World}{A:Around}{E:Value->Shared->Prop}{s:Shared}
end
abbrev oB(p:Pos):Arguments:={ posonlyargs:=[],args:=[{ arg:="each",annotation:=none,pos:=p }],vararg:=none,kwonlyargs:=[],kw_defaults:=[],kwarg:=none,defaults:=[] }
abbrev uE:Scope:={ kind:=.function,names:=[("each",.local),("told",.free)],isGenerator:=false,isCoroutine:=false,more:=[] }
abbrev xD(p1 C p:Pos):Expr:=.Subscript (.Name "told" p1) (.Name "each" C) p
section
variable{prog:Program}{w:World}{A:Around}{E:Value->Shared->Prop}{s:Shared}
theorem FF{c' ct t:Addr}{g:Str}{p0 p1 C p:Pos}{h v:Value}{its:Array Value}{k:Int}{tk:Tok}
  (n:A.depth<recursionLimit) (D:s.heap.get? f=some (Kq "<lambda>" g (oB p0) (xD p1 C p) uE [("told",ct)] u c' h)) (q:s.heap.CodeRec (.ref c') g) (i:s.heap.NoLimit)
  (Y:s.heap.IsCell ct (some (.ref t))) (hl:s.heap.IsList t its) (k0:0<=k) (r:k<2^63) (j:its[k.toNat]?=some v)
  (d:∀ h' G,(∀ b o,s.heap.get? b=some o->h'.get? b=some o)->Q v { s with heap:=h',toks:=G }) :
  wpAny (model prog w) A (call (.ref f) [.int k tk]) Q E s:=by
 refine wpAny_call (PySem.W.kla_callFunE n D rfl rfl rfl rfl q ?_);have M:bindArgs (PySem.W.kla_fn "<lambda>" g (oB p0) (xD p1 C p) uE [("told",ct)] u (.ref c') h) ⟨[.int k tk],[]⟩=(pure [(("each" : Str),Value.int k tk)]:Sem (List (Str×Value))):=rfl;rw[M];refine L4 (wpAny_newFunctionEnv (λx L=>?_) (λx L=>?_) (λJ m y=>?_) rfl)
 .have l:x=(("each" : Str),NameKind.local)∨x=(("told" : Str),NameKind.free):=by simpa using L
  rcases l with rfl | rfl<;>exact λz=>by cases z
 .rw[GJ.mp L];rfl
 have a:∀ b o,s.heap.get? b=some o->J.get? b=some o:=λb o e=>y.extBut b o (G0 (LL e)) (L5 _ e);refine⟨i.keeps a,PySem.W.kla_codeExpr ?_⟩;refine Subscript_ (wpAny_Name (wpAny_loadName_free (c:=ct) rfl rfl rfl (Y.keeps a) ?_));refine wpAny_Name (wpAny_loadName_local rfl rfl m rfl ?_);exact item_listR (hl.at λo e=>a _ _ e) k0 r j (d _ _ a)
abbrev Kp(h h':Heap):Prop:=∀ b o,h.get? b=some o->h'.get? b=some o
theorem Kp.but{g:Heap}(k:Kp g h)(n:g.get? I=none)(m:∀ b o,b∉[I]->h.get? b=some o->h'.get? b=some o):Kp g h':=λb o e=>m b o (λz=>by rw[GJ.mp z,n]at e;cases e) (k b o e)
theorem Kp.same{g:Heap}{S:Addr}(k:Kp g h)(n:g.get? S=none)(m:LQ S h h'):Kp g h':=λb o e=>(m.2 b (λz=>by rw[z,n]at e;cases e)).trans (k b o e)
theorem CM{S:Addr}{P:Nat->Value->Prop}{St:Nat->Heap->Prop}{g:Heap}(W:Walks prog w A.in1 a fp [a] n P St)(gJ:g.get? a=none)(gS:g.get? S=none)(an:S≠a)(al:S∉fp)
  (turn:∀ i v,i<n->P i v->∀(h:Heap)(tk:Nat)(Q:Value->Shared->Prop)(E:Value->Shared->Prop),Kp g h->(∀ nv t h' G,Kp h h'->Q (.int nv t) { s with heap:=h',toks:=G })->wpAny (model prog w) A.in1 (call (.ref q) [v]) Q E { s with heap:=h,toks:=tk })
  (f:∀ i v h' G,i<n->P i v->Kp g h'->R (.ok (.ret v)) { s with heap:=h',toks:=G }) :
  ∀(r j i:Nat)(h:Heap)(tk:Nat)(vb:Value)(x:Int)(tb:Tok)(c:Nat),n-(j+1)=r->j+1<=n->Kp g h->h.get? S=some (MI "list" #[vb,.int x tb] c)->St (j+1) h->i<n->P i vb ->
   Md (model prog w) A (.builtin "min.loop" ⟨[.ref a,.ref q,.ref S],[]⟩) R { s with heap:=h,toks:=tk }:=by
 have nm:(toString "min"++toString ".loop" : String) = "min.loop":=by decide
 intro r;induction r with
 |zero =>
  intro j i h tk vb x tb c er B kg H st T L;have d:j+1=n:=by omega
  refine MP IP ?_;rw[MQ Hr _];refine LX (m:=seqItems? (.ref S)) (MR H rfl ?_);show wpAny _ A.in1 (tryCatch (pyNext (.ref a)) _ >>= _) _ _ _;refine LX (MT (W.done _ _ _ (by rw[← d];exact st) λh' G y=>?_))
  have aI:=kg.but gJ y;have l:=y S _ (by simpa using an) H
  have su:=MD h' S (Ml λ_=>(#[]:Array Value));refine LX (m:=MU S λ_=>#[]) (MV l rfl (LX (MH (L4 ?_))));exact f i vb _ _ T L (aI.same gS su)
 |succ r D =>
  intro j i h tk vb x tb c er B kg H st T L;have lt:j+1<n:=by omega
  refine MP IP ?_;rw[MQ Hr _];refine LX (m:=seqItems? (.ref S)) (MR H rfl ?_);show wpAny _ A.in1 (tryCatch (pyNext (.ref a)) _ >>= _) _ _ _;refine LX (MT (W.item (j+1) _ _ _ lt st λv k am p C I=>?_));have aa:=kg.but gJ I;have u:=I S _ (by simpa using an) H
  show wpAny _ A.in1 (tryCatch (holding [v] (call (.ref q) [v])) _ >>= _) _ _ _;refine LX (MT (LY (turn (j+1) v lt p k am _ _ aa λnv t Y aL N=>?_)));have ap:Kp g Y:=λb o e=>N b o (aa b o e);have ab:=N _ _ u;have O:=W.frame _ _ Y C λb _ o e=>N b o e;show wpAny _ A.in1 (tryCatch (holding [v,.int nv t] (richCompare .Lt (.int nv t) (.int x tb) >>= _)) _ >>= _) _ _ _;refine LX (MT (LY (LX (CmpOf.ints_lt (prog:=prog) (w:=w) (A:=A.in1) (P:=λ(i:Nat) v=>∃ t,v=.int (if i=0 then nv else x) t) (λi=>if i=0 then nv else x) (λi v h=>h) 0 1 _ _ _ _ _ ⟨t,rfl⟩ ⟨tb,rfl⟩ ?_))));refine LX (LY (LV (LX (MH (L4 ?_)))));by_cases cc:nv<x
  .have su:=MD Y S (Ml λ_=>#[v,.int nv t])
   obtain⟨c2,ac⟩:∃ c2,(Y.update S (Ml λ_=>#[v,.int nv t])).get? S=some (MI "list" #[v,.int nv t] c2):=⟨_,MJ ab λ_=>#[v,.int nv t]⟩;simp[cc];refine LX (MV ab rfl (LX (MH ?_)));refine L4 ⟨MX Hr _,D (j+1) (j+1) _ _ v nv t c2 ∅ lt (ap.same gS su) ac (W.frame _ _ _ O λb M o e=>(su.2 b (λz=>al (z▸M))).trans e) lt p⟩
  .simp[cc];refine LX (MH (L4 ?_));refine⟨MX Hr _,D (j+1) i _ _ vb x tb c ∅ lt ap ab O T L⟩
theorem Fw{d:Addr}{KK:Type} [DecidableEq KK] {knd:PySem.KeyKind prog w KK} {kvs:List (KK×Value)}   (j:A.handled=none) (hd:Heap.DictAt knd s.heap d kvs ep) (ds:(d == sysModules)=false) (c:0<kvs.length)
  (turn:∀(i:Nat)(v:Value)(k:KK)(x:Value),kvs[i]?=some (k,x)->knd.is k v=true->∀(h:Heap)(tk:Nat)(Q:Value->Shared->Prop)(E:Value->Shared->Prop),Kp s.heap h->(∀ l t h' G,Kp h h'->Q (.int l t) { s with heap:=h',toks:=G })->wpAny (model prog w) A.in1 (call (.ref q) [v]) Q E { s with heap:=h,toks:=tk })
  (D:∀(i:Nat)(v:Value)(k:KK)(x:Value)(h':Heap)(G:Nat),kvs[i]?=some (k,x)->knd.is k v=true->Kp s.heap h'->Q v { s with heap:=h',toks:=G }) :
  wpAny (model prog w) A (call (.builtin "min") [.ref d] [(Str.ofString "key",.ref q)]) Q E s:=by
 have nm:(toString "min"++toString ".loop" : String) = "min.loop":=by decide
 obtain⟨r,_,aI,_⟩:=id hd;have dl:d<s.heap.objs.size:=LL aI;refine kmk_tree PySem.F.kind_min PySem.F.plain_min PySem.F.entry_min (kmk_min_key _ _) ?_;show wpAny _ A.in1 (MY "min" ["key","default"] 0 ⟨[],[(Str.ofString "key",.ref q)]⟩ >>= _) _ _ s;refine LX (wpAny_of_eq (show MY "min" ["key","default"] 0 ⟨[],[(Str.ofString "key",.ref q)]⟩=pure [some (.ref q),none] from rfl) (LX (L4 (LX (wpAny_pyIter_dict ds hd ?_)))));refine LX (MN ?_ (Hq _));rw[nm];obtain⟨L,ac⟩:∃ L:Obj,L={ cls:=Value.type "dict_keyiterator",data:=Data.fields #[Value.ref d,Value.int 0 0,Value.int (kvs.length:Int) 0,Value.int (ep:Int) 0] }:=⟨_,rfl⟩;rw[← ac];have sz:(s.heap.push L).objs.size=s.heap.objs.size+1:=by rw[Me]
 have am:(s.heap.push L).objs.size≠s.heap.objs.size:=by omega
 have aO:d≠s.heap.objs.size:=G0 dl;have fr:∀ b,s.heap.objs.size<=b->s.heap.get? b=none:=λb M=>LP M;have a:Kp s.heap ((s.heap.push L).push (MI "list" #[] 0)):=λb o e=>L5 _ (L5 _ e);have H:((s.heap.push L).push (MI "list" #[] 0)).get? (s.heap.push L).objs.size=some (MI "list" #[] 0):=L6 _ rfl;have hJ:((s.heap.push L).push (MI "list" #[] 0)).get? s.heap.objs.size=some L:=L5 _ (L6 _ (by rw[ac];rfl))
 have W:=Walks.dictKeys (prog:=prog) (w:=w) (knd:=knd) (A:=A.in1) j s.heap.objs.size d aO kvs ep;have an:∀(i:Nat)(v:Value),i<kvs.length->(∃ k x,kvs[i]?=some (k,x)/\knd.is k v=true)->∀(h:Heap)(tk:Nat)(Q:Value->Shared->Prop)(E:Value->Shared->Prop),Kp s.heap h->(∀ l t h' G,Kp h h'->Q (.int l t) { s with heap:=h',toks:=G })->wpAny (model prog w) A.in1 (call (.ref q) [v]) Q E { s with heap:=h,toks:=tk }:=λi v _ ⟨k,x,O,f⟩=>turn i v k x O f;refine L4 ⟨MX Hr _,MP IP ?_⟩;rw[MQ Hr _];refine LX (m:=seqItems? (.ref (s.heap.push L).objs.size)) (MR H rfl ?_);show wpAny _ A.in1 (tryCatch (pyNext (.ref s.heap.objs.size)) _ >>= _) _ _ _;refine LX (MT (W.item 0 _ _ _ c ⟨⟨L,hJ,by rw[ac],by rw[ac];rfl⟩,hd.at' λo e=>a _ _ e⟩ λv J al p C I=>?_))
 have B:=a.but (fr _ (Gy _)) I;have u:=I _ _ (by simpa using am) H
 show wpAny _ A.in1 (tryCatch (holding [v] (call (.ref q) [v])) _ >>= _) _ _ _;refine LX (MT (LY (an 0 v c p J al _ _ B λl t Y aL N=>?_)));have ap:Kp s.heap Y:=λb o e=>N b o (B b o e);have aa:=N _ _ u;have g:=W.frame _ _ Y C λb _ o e=>N b o e;have su:=MD Y (s.heap.push L).objs.size (Ml λ_=>#[v,.int l t]);obtain⟨c2,ab⟩:∃ c2,(Y.update (s.heap.push L).objs.size (Ml λ_=>#[v,.int l t])).get? (s.heap.push L).objs.size=some (MI "list" #[v,.int l t] c2):=⟨_,MJ aa λ_=>#[v,.int l t]⟩;have n:(s.heap.push L).objs.size∉[s.heap.objs.size,d]:=λz=>by
  rcases GG.mp z with z | z
  .exact am z
  .have T:=GJ.mp z
   exact Nh dl (by rw[← T,sz];exact Js (IG _))
 refine LX (m:=MU _ λ_=>#[v,.int l t]) (MV aa rfl ?_);rw[nm];refine L4 ⟨MX Hr _,CM W (fr _ (Gy _)) (fr _ ∅) am n an (λi v h' G _ ⟨k,x,O,f⟩ y=>D i v k x h' G O f y) _ 0 0 _ _ v l t c2 rfl c (ap.same (fr _ ∅) su) ab (W.frame _ _ _ g λb M o e=>(su.2 b (λz=>n (z▸M))).trans e) c p⟩
end
section
variable{X:Cx}{pins:List (Addr×Obj)}{σ:St}{H:Hp}{s:Shared}{h':Heap}{T:Addr}{ps more:Array Value}{t':Nat}
theorem Inv.tab(I:Inv X pins σ H s)(e:H T=some (.tbl ps))(L:∀ b o,b≠T->s.heap.get? b=some o->h'.get? b=some o)(l:h'.get? T=some { cls:=.none,data:=.fields (ps++more) }) :
  Inv X pins σ (upd H T (.tbl (ps++more))) { s with heap:=h',toks:=t' }:=by
 have ne:∀{b:Addr}{o:Option HO},H b=o->o≠some (.tbl ps)->b≠T:=λq n z=>n (by rw[← q,z,e])
 refine I.un ⟨λb o g n _ _=>L b o (ne n (by simp)) g,λb o g n _ _=>⟨o.slots,L b o (ne n (by simp)) g⟩,λb o g n _=>?_,λb o g _=>?_,λb N q=>?_,λb o u q=>?_,λb p q=>?_⟩ λb u q=>?_
 .rw[ao (ne n (by simp))]
  exact n
 .by_cases z:b=T
  .rw[z];exact⟨_,l⟩
  .exact⟨o,L b o z g⟩
 .rw[ao (ne q (by simp))]
  exact q
 .rw[ao (ne q (by simp))]
  exact q
 .by_cases z:b=T
  .subst z;rw[e]at q
   cases q
   exact⟨more,af⟩
  .exact⟨#[],by rw[ao z,q];simp⟩
 .by_cases z:b=T
  .subst z;rw[af]at q
   cases q
   exact l
  .rw[ao z]at q;refine(I.hok b u q).stay (λc o t g=>L c o (λy=>?_) g) (λc g=>?_) λc o g=>?_
   .rcases t with Q | Q
    .exact z (Q▸y)
    .rw[y,e]at Q;cases Q
   .rw[ao (ne g (by simp))];exact g
   .rw[ao (ne g (by simp))];exact g
end
def codO(c:Addr)(q:Str):HO:=.ext λh=>h.CodeRec (.ref c) q
def Tb(q:Str)(f:Pos)(T:Addr)(H:Hp):Prop:=H T=some (.tbl #[])∨∃ c,H T=some (.tbl #[rawInt f.line,rawInt f.col,.ref c])/\H c=some (codO c q)
def TbS(T:Addr)(H H':Hp):Prop:=∀ b o,b≠T->H b=some o->H' b=some o
structure Lam(X:Cx)(c T ct:Addr)(lq:Str):Prop where
 code:X.env.code=.ref c
 hd:Jf X.base c T
 bm:∃ bm o,X.mg "__builtins__" = some (.ref bm)/\bm≠builtinsNs/\X.base.get? bm=some o/\o.cls=.type "module"/\o.dict=some builtinsNs/\o.data=.plain
 kind:X.env.kindOf "told" = some .cell
 cl:closureFor uE X.env=pure [(("told" : Str),ct)]
 cell:X.env.cells.lookup ("told" : Str)=some ct
 q:X.env.qual++"<lambda>" = lq
theorem FJ{a:Type}:∀{kvs:List (a×V)}{vs:List (a×Value)},KV kvs vs->∀{i:Nat}{k:a}{y:Value},vs[i]?=some (k,y)->∃ o,o∈kvs/\k=o.1
 |_,_,.nil,i,k,y,e=>by simp at e
 |p::_,q::_,.cons h r,0,k,y,e=>by
  cases e
  exact⟨p,GN ..,h.1.symm⟩
 |p::_,_::_,.cons _ r,i+1,k,y,e=>by
  obtain⟨o,m,E⟩:=FJ r (show _=some (k,y) from e);exact⟨o,GD _ m,E⟩
def tMinK(b:Str)(f:Pos)(T:Addr)(it:Nat)(t:TA):TE:=λO H Q=>t O H λY l=>∃ d m a N,Y = [.ref d]/\l d=some (.dK m)/\m≠[]/\O[it]?=some (some (.ref a))/\l a=some (.lst N)/\Tb b f T l /\
 (∀ o∈m,∃(k:Nat)(n:Int),o.1=.inl (k:Int)/\N[k]?=some (.int n))/\∀ o∈m,∀ j,TbS T l j->Tb b f T j->Q (kV o.1) j
theorem E8{c T ct:Addr}{lq:Str}{it:Nat}{t:TA}{np xp p0 p1 p2 p3 lp kp:Pos}(L:Lam X c T ct lq)(D:X.ex = [])(hc:X.calm=true)(hr:Room 0 X.A) (hN:X.N[it]?=some ("told" : Str)) (hv:Vis X.env.scope "told") (hg:Gl X "min") (hm:X.mg "min" = none) (ha:PA X [.Name x xp] t) :
  PE X (.Call (.Name "min" np) [.Name x xp] [⟨some "key",.Lambda (oB p0) (xD p1 p2 p3) uE lp,kp⟩] pos) (tMinK lq lp T it t):=by
 intro B s O H Q I h;refine Mi (gX I hg hm BE ?_);refine callWith_kw (thn (ha pos B s O H _ I h) λus r ⟨vs,l,I1,r1,q1⟩=>?_);obtain⟨d,kvs,a,E,rfl,hd,ab,bb,C,tb,G,q⟩:=q1;obtain⟨u,rfl,ru⟩:=i3 r1
 cases ru
 refine kws_cons (PySem.W.kla_eval rfl ?_);rw[L.q];have bv:0<kvs.length:=List.length_pos_iff.mpr ab;have go:∀(g:Hp)(s2:Shared)(f c':Addr)(pm aI:Value),Inv X B O g s2->s2.heap.get? f=some (Kq "<lambda>" lq (oB p0) (xD p1 p2 p3) uE [("told",ct)] pm c' aI)->s2.heap.CodeRec (.ref c') lq->g d=some (.dK kvs)->g a=some (.lst E)->(∀ kv∈kvs,Q (kV kv.1) g) ->
   wpAny (model X.prog X.w) X.A (call (.builtin "min") [.ref d] [(Str.ofString "key",.ref f)]) (EP X B O Q) X.xe s2:=by
  intro g s2 f c' pm aI I2 hf a4 aL aR q2;obtain⟨_,ds,vs,aS,od,M,ep,a5⟩:=xX I2.hok aL;have vl:=aS.length;refine Fw (knd:=br X.prog X.w) (kvs:=vs) (ep:=ep) (I2.ok.hd hc) ⟨od,M,a5⟩ ds ∅ ?_ ?_
  .intro i v k y e1 p h' tk Q' E' kk bd;obtain⟨⟨k1,w1⟩,m1,ek⟩:=FJ aS e1;obtain⟨j,n,ej,hn⟩:=G _ m1;have a0:k=.inl (j:Int):=ek.trans ej;subst a0;have sh:∃ t,v=Value.int (j:Int) t:=by
    rcases aW (show nX (.inl (j:Int)) v=true from p) with⟨i',t',z1,z2⟩ | ⟨_,_,z1,_⟩
    .cases z1;exact⟨t',z2⟩
    .cases z1
   obtain⟨tv,rfl⟩:=sh;obtain⟨hz,its,bu,rv,be⟩:=I2.hok a _ aR;obtain⟨wv,bg,bi⟩:=rv.get hn;obtain⟨tn,rfl⟩:=bi;have jl:j<E.length:=(Gn.mp hn).1;have bx:=oA;obtain⟨m,a1,a6⟩:=I2.loc;obtain⟨u,ru,lk⟩:=a6 it "told" (.ref a) hN bb hv
   cases ru
   have ap:s2.heap.IsCell ct (some (.ref a)):=by
    rcases lk with⟨kl,_⟩ | ⟨_,c2,ec,z⟩
    .exact Nh kl (by rw[L.kind];intro z;cases z)
    .rw[L.cell]at ec;cases ec;exact z
   refine FF (A:=X.A.in1) (f:=f) (c':=c') (t:=a) (its:=its.toArray) (k:=(j:Int)) ?_ (kk _ _ hf) (a4.keeps kk) (I2.nolimit.keeps kk) (ap.keeps kk) ⟨_,kk _ _ be,rfl,_,rfl⟩ ∅ ∅ (by rw[GA];simpa using bg) λh3 bB k3=>bd _ _ _ _ k3
   have:=hr.dp;show X.A.depth<recursionLimit;omega
  .intro i v k y h' tk e1 p kk;obtain⟨kv,m1,ek⟩:=FJ aS e1;refine⟨kV k,g,I2.kept kk,?_,by rw[ek];exact q2 kv m1⟩
   rcases aW (show nX k v=true from p) with⟨i',t',rfl,rfl⟩ | ⟨y',t',rfl,rfl⟩
   .exact⟨t',rfl⟩
   .exact⟨t',rfl⟩
 have a7:r.heap.BuiltinsAt X.mg T:=by
  obtain⟨bm,o,b1,b2,b3,b4,b5,b6⟩:=L.bm;obtain⟨o1,al,bn,g1,g2,_⟩:=id I1.mod.glob;have hT:l T≠none:=by
   rcases tb with z | ⟨_,z,_⟩<;>rw[z]<;>simp
  refine⟨bm,o,b1,b2,λz=>?_,λz=>?_,I1.bk _ _ b3,b4,b5,b6⟩
  .rw[z,g1]at b3;cases b3;rw[g2]at b6;cases b6
  .rw[z]at b3;exact hT (I1.bs _ _ b3).2
 have neT:LN≠T:=λz=>by
  obtain⟨o1,al,bn,g1,g2,_⟩:=id I1.mod.glob;have:=(I1.bs _ _ g1).2;rw[z]at this;rcases tb with y | ⟨_,y,_⟩<;>rw[y]at this<;>cases this
 have a9:=I1.mod.glob.keeps I1.bk;rcases tb with hT | ⟨c',hT,ba⟩
 .have gT:r.heap.get? T=some (Lp #[]):=I1.hok T _ hT
  refine PySem.W.kla_makeFunction (mg:=X.mg) L.cl I1.ok.glob a9 L.code (L.hd.keeps I1.bk) gT trivial rfl neT a7 λc' aI h' tk bo a2 aa an am=>kws_nil ?_;have cT:c'≠T:=λz=>by
   have:=LL gT;rw[← z]at this;exact Nh this (Js a2)
  have I2:=I1.tab (more:=#[rawInt lp.line,rawInt lp.col,.ref c']) (t':=tk) hT (λb o n e=>bo b o n e) (by simpa using am)
  have e0:(#[]:Array Value)++#[rawInt lp.line,rawInt lp.col,.ref c']=#[rawInt lp.line,rawInt lp.col,.ref c']:=by simp
  rw[e0]at I2;have fr:r.heap.get? c'=none:=LP a2;have a3:l c'=none:=I1.hok.none_of fr;obtain⟨c3,oc,bD,t3,ec,g1,g2,g3⟩:=id an
  cases ec
  have I3:=I2.xtrack (a:=c') (o:=codO c' lq) (I1.xok D fr (by rw[ao cT];exact a3)) ⟨an,⟨oc,g1⟩,λJ Y ⟨c4,o4,v4,t4,z1,z2,z3,z4⟩ kk=>by cases z1;exact⟨_,o4,v4,t4,rfl,kk o4 z2,z3,z4⟩⟩
  have aO:Kp h' (h'.push (Kq "<lambda>" lq (oB p0) (xD p1 p2 p3) uE [("told",ct)] ((X.mg "__name__").getD .none) c' aI)):=λb o e=>L5 _ e;have I4:=I3.kept (t':=tk) aO;have dT:d≠T:=λz=>by rw[z,hT]at hd;cases hd
  have aT:a≠T:=λz=>by rw[z,hT]at C;cases C
  have dc:d≠c':=λz=>by rw[z,a3]at hd;cases hd
  have ac:a≠c':=λz=>by rw[z,a3]at C;cases C
  have sm:TbS T l (upd (upd l T (.tbl #[rawInt lp.line,rawInt lp.col,.ref c'])) c' (codO c' lq)):=λb o n e=>by
   rw[ao (λz=>by rw[z,a3]at e;cases e),ao n]
   exact e
  refine go _ _ h'.objs.size c' _ _ I4 (L6 _ rfl) (an.keeps aO) (sm _ _ dT hd) (sm _ _ aT C) λkv m=>q kv m _ sm (.inr ⟨c',by rw[ao (Ne.symm cT)];exact af,af⟩)
 .have gT:r.heap.get? T=some (Lp #[rawInt lp.line,rawInt lp.col,.ref c']):=I1.hok T _ hT
  obtain⟨an,_,_⟩:=(show bp X.prog X.w l r.heap c' (codO c' lq) from I1.hok c' _ ba);refine PySem.W.kla_makeFunctionHit (mg:=X.mg) (cv:=.ref c') L.cl I1.ok.glob a9 L.code (L.hd.keeps I1.bk) gT trivial (by simp[codeAmong,rawInt]) a7 λaI h' tk kk sz=>kws_nil ?_
  have aO:Kp r.heap (h'.push (Kq "<lambda>" lq (oB p0) (xD p1 p2 p3) uE [("told",ct)] ((X.mg "__name__").getD .none) c' aI)):=λb o e=>L5 _ (kk b o e);have I4:=I1.kept (t':=tk) aO;exact go _ _ h'.objs.size c' _ _ I4 (L6 _ rfl) (an.keeps aO) hd C λkv m=>q kv m _ (λb o _ e=>e) (.inr ⟨c',hT,ba⟩)
abbrev Bm(mg:Str->Option Value)(h:Heap):Prop:=∃ a o,mg "__builtins__" = some (.ref a)/\a≠builtinsNs/\h.get? a=some o/\o.cls=.type "module"/\o.dict=some builtinsNs/\o.data=.plain
theorem Aq{mb:Str->Option Value}{CX:CXT}{k:Nat}{c T:Addr}
  (KX:K.In s.heap) (N:s.heap.Ns LN mg) (M:s.heap.Ns builtinsNs mb) (a0:∀ x:Str,x≠"__name__"->mb x=LO x) (am:s.heap.NoLimit) (gens:s.gens=#[])
  (t:Jf s.heap c T) (i:s.heap.get? T=some (Lp #[])) (nT:K.lookup T=none) (an:Bm mg s.heap)
  (E:s.heap.get? a=some { cls:=.type "list",data:=.seq vs.toArray }) (hi:Mp vs ns) (hl:ns.length<=LK) (hr:Room k callerA)
  (F:∀ base:Heap,K.In base->base.Ns LN mg->Jf base c T->Bm mg base->FnOk P w K mg base CX k p fd [x] sp) (bind:∀(s:Shared)(u:Value),BindsTo s fd ⟨[u],[]⟩ [(x,u)])
  (ac:∀ H:Hp,H T=some (.tbl #[])->SqL K H a (ns.map V.int)->sp [.ref a] H (λv _=>v=.bl true) λ_ _ _=>False)
  (aL:∀ H e s',CX [] H s (λ_ _ _=>False) e s'->False) :
  Md (model P w) callerA (.call (.ref p) ⟨[.ref a],[]⟩) (λr s'=>r=.ok (.ret (.bool true))/\OldK s.heap s'.heap/\s'.os=s.os/\AllBare s'.gens) s:=by
 have rv:=qX hi;have aT:a≠T:=λz=>by rw[z,i]at E;cases E
 obtain⟨H,eT,eS,aa,only,frz⟩:∃ H:Hp,H T=some (.tbl #[])/\SqL K H a (ns.map V.int)/\HOk P w H s.heap/\(∀ b,H b≠none->(b=T∨b=a)/\K.lookup b=none)/\(∀ b u,H b=some u->b≠T->∃ o l,u=.frz o (.lst l)):=by
  cases G:K.lookup a with
  |some o =>
   have e:=KX a o G;rw[E]at e
   cases e
   refine⟨upd (λ_=>none) T (.tbl #[]),af,.inr ⟨_,vs.toArray,_,G,rfl,rfl,rfl,by rw[GQ,hi.length];exact hl,by simpa using rv⟩,λb u z=>?_,λb z=>?_,λb u z n=>?_⟩
   .by_cases y:b=T
    .subst y;rw[af]at z;cases z;exact i
    .rw[ao y]at z;cases z
   .by_cases y:b=T
    .exact⟨.inl y,y▸nT⟩
    .rw[ao y]at z;exact Nh rfl z
   .rw[ao n]at z;cases z
  |none =>
   refine⟨upd (upd (λ_=>none) a (.frz { cls:=.type "list",data:=.seq vs.toArray } (.lst (ns.map V.int)))) T (.tbl #[]),af,.inl (.inr ⟨{ cls:=.type "list",data:=.seq vs.toArray },by rw[ao aT];exact af⟩),λb u z=>?_,λb z=>?_,λb u z n=>?_⟩
   .by_cases y:b=T
    .subst y;rw[af]at z;cases z;exact i
    .rw[ao y]at z;by_cases Q:b=a
     .subst Q;rw[af]at z;cases z;exact⟨E,by rw[Gu];exact hl,vs,_,rv,E⟩
     .rw[ao Q]at z;cases z
   .by_cases y:b=T
    .exact⟨.inl y,y▸nT⟩
    .rw[ao y]at z;by_cases Q:b=a
     .exact⟨.inr Q,Q▸G⟩
     .rw[ao Q]at z;exact Nh rfl z
   .rw[ao n]at z;by_cases Q:b=a
    .subst Q;rw[af]at z;cases z;exact⟨_,_,rfl⟩
    .rw[ao Q]at z;cases z
 have aR:∀{b:Addr}{o:Obj},s.heap.get? b=some o->o.cls≠.none->o.cls≠.type "list"->H b=none:=λ{b o} e n1 n2=>by
  cases q:H b with
  |none=>rfl
  |some u =>
   rcases(only b (by rw[q];simp)).1 with z | z
   .rw[z,i]at e;cases e;exact Nh rfl n1
   .rw[z,E]at e;cases e;exact Nh rfl n2
 have a1:∀{b:Addr}{o:Obj}{D:Array DictEntry}{L:Nat},s.heap.get? b=some o->o.data=.dict D L->H b=none:=λ{b o D L} e d=>by
  cases q:H b with
  |none=>rfl
  |some u =>
   rcases(only b (by rw[q];simp)).1 with z | z
   .rw[z,i]at e;cases e;cases d
   .rw[z,E]at e;cases e;cases d
 have ap:∀{b:Addr}{m:Str->Option Value},s.heap.Ns b m->(hidT s.heap H).Ns b m:=λ{b m} ⟨o,D,L,e,d,r⟩=>⟨o,D,L,mq e (a1 e d),d,r⟩
 have kB:K.In (hidT s.heap H):=λb o e=>mq (KX b o e) (by
  cases q:H b with
  |none=>rfl
  |some u=>rw[(only b (by rw[q];simp)).2]at e;cases e)
 have cB:Jf (hidT s.heap H) c T:=by
  obtain⟨o,v2,aS,tf,aO,tg,a2,text,tt,O,f,r⟩:=t;exact⟨o,v2,aS,tf,aO,tg,a2,text,tt,mq O (aR O (by rw[f];simp) (by rw[f];simp)),f,r⟩
 have bB:Bm mg (hidT s.heap H):=by
  obtain⟨bm,o,b1,b2,b3,b4,r⟩:=an;exact⟨bm,o,b1,b2,mq b3 (aR b3 (by rw[b4];simp) (by rw[b4];simp)),b4,r⟩
 have md:Mod K mg (hidT s.heap H):=⟨kB,ap N,⟨mb,ap M,a0⟩,let ⟨mc,J,Y⟩:=am;⟨mc,ap J,Y⟩⟩;have e0:Env0 P w K mg (hidT s.heap H) callerA [] s H:=⟨rfl,md,λb o e=>Ft e,Nat.le_of_eq (AL _ _),trivial,λb z=>Nh (show b∈([]:List Addr) from z) (by simp),aa,.of_eq gens⟩
 refine Mh ((F _ kB (ap N) cB bB).run callerA [] s H ⟨[.ref a],[]⟩ [.ref a] [.ref a] _ _ hr e0 (bind s (.ref a)) (.cons rfl .nil) (ac H eT eS)) λr s' h=>?_
 cases r with
 |error e=>exact(aL H e s' h).elim
 |ok fl =>
  cases fl with
  |next=>exact False.elim h
  |brk=>exact False.elim h
  |cont=>exact False.elim h
  |ret u =>
   obtain⟨v,j,os,al,un,aI,C,q⟩:=h;have q':v=.bl true:=q;subst q';obtain rfl:u=Value.bool true:=C;have nil:∀ b:Addr,b∉frs []:=λb z=>Nh (show b∈([]:List Addr) from z) (by simp)
   have gT:∃ ab,s'.heap.get? T=some { cls:=.none,data:=.fields (#[]++ab) }:=by
    obtain⟨ab,e⟩:=un.tbls T _ eT;exact⟨ab,aI T _ e⟩
   have kp:∀ b o,b≠T->s.heap.get? b=some o->s'.heap.get? b=some o:=λb o n e=>by
    cases q:H b with
    |none=>exact un.keep b o e q (nil b) (by simp)
    |some u =>
     obtain⟨I,l,rfl⟩:=frz b u q n;have A:=un.frzs b I _ q;obtain⟨B,_⟩:=aa b _ q;obtain⟨g2,_⟩:=aI b _ A;rw[e]at B;cases B;exact g2
   refine⟨rfl,⟨λb o e=>?_,λb o e=>?_⟩,os,al⟩
   .by_cases z:b=T
    .subst z;rw[i]at e
     cases e
     obtain⟨ab,g⟩:=gT;exact .inr (.inl ⟨(t.tab i).isCodeTable,rfl,#[],ab,rfl,g⟩)
    .exact .inl (kp b o z e)
   .by_cases z:b=T
    .subst z;obtain⟨ab,g⟩:=gT;exact⟨_,g⟩
    .exact⟨o,kp b o z e⟩
theorem walk_ofT{l:Lg}{k:Nat}{q:Program}{t:List Str}{XP:(Str->Option Value)->Heap->Prop}{YP:World->Heap->Prop}{d df:DefRec}{K:Params->Gw}{CX:CXT}{sp:Gw->Addr->Sp}{fn:Str}
  (y:l.most=some n) (ac:n<=LK) (ab:d.params.defaults = []) (hr:Room k callerA) (hY:∀(w:World)(h:Heap),YP w h->(K w.params).In h)
  (p:(recsOf q).find? (λe=>e.name == fn)=some df)
  (F:∀(w:World)(mg:Str->Option Value)(E:Addr)(h:Heap),(K w.params).In h->h.Ns LN mg->mg d.name=some (.ref E)->∃ fd:FuncData,(∀(s:Shared)(u:Value),BindsTo s fd ⟨[u],[]⟩ [(x,u)]) /\
   ∃ c T,Jo (K w.params) fn=some (c,T)/\(K w.params).lookup T=none/\∀ base:Heap,(K w.params).In base->base.Ns LN mg->Jf base c T->Bm mg base->FnOk l.prog w (K w.params) mg base CX k E fd [x] (sp (K w.params) T))
  (C:∀(K:Gw)(T:Addr)(H:Hp)(a:Addr)(ns:List Int),ns.length<=n->H T=some (.tbl #[])->SqL K H a (ns.map V.int)->sp K T [.ref a] H (λv _=>v=.bl true) λ_ _ _=>False)
  (am:∀(H:Hp)(s:Shared)(e:Value)(s':Shared),CX [] H s (λ_ _ _=>False) e s'->False) :
  PySem.W.WalkO q t XP YP l.row.toRowW d [] (λf vs=>PySem.call f vs):=by
 refine Att.attach_call y ab λw an i mg mb E o r cd j a vs ns G Y A hd z al L aa D N=>?_;have KX:=hY w _ Y;obtain⟨fd,M,c,T,O,nT,I⟩:=F w mg E _ KX G.T.g al;obtain⟨Q,m⟩:=PySem.W.tab_of G.T KX p O;exact Aq KX G.T.g G.T.b G.T.builtins G.T.nolimit N Q m nT G.T.bmain L aa (Hy D ac) hr I M (λH J B=>C _ T H a ns D J B) λH e s'=>am H i e s'
theorem op_neE(T:X.A.units+64<cLine):OpR X (LU .NotEq) (λx y H Q=>∃ a b kvs,x=.ref a/\y=.ref b/\H a=some (.dK kvs)/\H b=some (.dK [])/\Q (.bl (!kvs.isEmpty)) H):=by
 intro B s O H x y v u Q I w D h;obtain⟨a,b,kvs,rfl,rfl,E,M,q⟩:=h
 cases w
 cases D
 obtain⟨_,g,Y,o,C⟩:=xX I.hok E;obtain⟨_,l,k,c,i⟩:=xX I.hok M;have N:=o.length;have j:=c.length;have f:k = []:=Je j.symm;subst f;refine PySem.W.keq_ne (r:=true) g l C i ∅ (λe=>?_) ⟨.bl (!(Y.length == 0&&true)),H,I,rfl,?_⟩
 .have d:Y = []:=Je e
  subst d;exact .nil
 .cases kvs with
  |nil =>
   cases Y with
   |nil=>exact q
   |cons p r=>cases N
  |cons p r =>
   cases Y with
   |nil=>cases N
   |cons p r=>exact q
def lexB:List (Int×Int)->Bool
 |[]=>false
 | (x,y)::r=>if x=y then lexB r else decide (x<y)
section
variable{prog:Program}{w:World}{A:Around}{E:Value->Shared->Prop}{s:Shared}
def Ps:List (Value×Value)->List (Int×Int)->Prop
 |[],[]=>True
 | (u,v)::r,(x,y)::q=>(∃ t,u=.int x t)/\(∃ t,v=.int y t)/\Ps r q
 |_,_=>False
theorem EK{b:Addr}{oa:Obj}{us vs:Array Value}{ps:List (Int×Int)}{P:PySem.Fin->Shared->Prop}(D:s.heap.get? a=some oa)(p:oa.data=.seq us N)(H:s.heap.get? b=some ob) (k:ob.cls=.type "tuple") (C:ob.data=.seq vs j)
  (hp:Ps (us.toList.zip vs.toList) ps) (hl:us.size=vs.size) (h:P (.done (.ret (.bool (lexB ps)))) s):wpAny (model prog w) A (Builtin.«tuple.__lt__» ⟨[.ref a,.ref b],[]⟩) P E s:=by
 show wpAny _ _ (isInstance (.ref b) (.type "tuple") >>= _) _ _ s;refine LX (Mu (T:="tuple") ⟨ob,H,k⟩ isSubtype_tuple_tuple ?_);simp only[Kk,HL,if_false];refine LX (wpAny_tupleItemsOf D p (LX (wpAny_tupleItemsOf H C (LX ?_))));refine wpAny_forIn_list _ (λrest r L=>r.1=none/\L=s/\∃ q,Ps rest q/\lexB q=lexB ps) _ ?_ ?_ _ _ ⟨rfl,rfl,ps,hp,rfl⟩
 .rintro⟨u,v⟩ rest r L ⟨B,rfl,q,n,e⟩;match q,n with
  | (x,y)::q,⟨⟨t,J⟩,⟨m,Y⟩,d⟩ =>
   subst J;subst Y;refine LX (wpAny_eqBool_int ?_);by_cases c:x=y
   .have:(x == y)=true:=by simp[c]
    rw[this];simp only[Kk,HL,if_false];refine L4 ⟨rfl,rfl,q,d,?_⟩;rw[← e];show lexB q=if x=y then lexB q else decide (x<y);rw[Nf c]
   .have:(x == y)=false:=by simp[c]
    rw[this];simp only[Bool.not_false,if_true];have f:lexB ps=decide (x<y):=by
     rw[← e];show(if x=y then lexB q else decide (x<y))=_;rw[Ng c]
    rw[f]at h;refine LX (wpAny_rule (LX (CmpOf.ints_lt (prog:=prog) (w:=w) (A:=A) (P:=λ(i:Nat) v=>∃ t,v=.int (if i=0 then x else y) t) (λi=>if i=0 then x else y) (λi v h=>h) 0 1 _ _ _ _ _ ⟨t,rfl⟩ ⟨m,rfl⟩ ?_)));exact LX (L4 (L4 (L4 h)))
 .rintro⟨g,o⟩ L ⟨B,rfl,q,n,e⟩;simp only at B;subst B;have l:q = []:=by
   cases q with
   |nil=>rfl
   |cons z q=>exact n.elim
  subst l;have G:Builtin.Tuple.tupleCompareSizes CmpOp.Lt us.size vs.size=Value.bool (lexB ps):=by
   rw[← e,hl];show Value.bool (decide (vs.size<vs.size))=Value.bool false;rw[LJ (HF _)]
  show wpAny _ _ (ret (Builtin.Tuple.tupleCompareSizes CmpOp.Lt us.size vs.size)) _ _ _;rw[G];exact L4 h
theorem tup_lt{b:Addr}{oa:Obj}{us vs:Array Value}{ps:List (Int×Int)}(D:s.heap.get? a=some oa) (ca:oa.cls=.type "tuple") (g:oa.data=.seq us N) (H:s.heap.get? b=some ob) (k:ob.cls=.type "tuple") (l:ob.data=.seq vs i)
  (hp:Ps (us.toList.zip vs.toList) ps) (hl:us.size=vs.size) (M:A.units<cLine) (h:Q (.bool (lexB ps)) s):wpAny (model prog w) A (richCompare .Lt (.ref a) (.ref b)) Q E s:=by
 refine wpAny_richCompare_same_room (op:=.Lt) (T:="tuple") ⟨oa,D,ca⟩ ⟨ob,H,k⟩ PySem.F.slot_tuple_lt (Mz PySem.F.slot_tuple_lt ⟨oa,D,ca⟩ PySem.F.entry_tuple_lt ?_ (PySem.F.args_tuple_lt_2 _ _)) M;exact EK D g H k l hp hl ⟨_,rfl,(λz=>by cases z),h⟩
theorem Af{S:Addr}{P:Nat->Value->Prop}{St:Nat->Heap->Prop}{g:Heap}(W:Walks prog w A.in1 a fp [a] n P St)(bt:Nat->Nat->Bool)(gJ:g.get? a=none)(gS:g.get? S=none)(ab:S≠a)(N:S∉fp)
  (aa:∀ i j u v,i<n->j<n->P i u->P j v->∀(h:Heap)(tk:Nat)(Q:Value->Shared->Prop)(E:Value->Shared->Prop),Kp g h->Q (.bool (bt i j)) { s with heap:=h,toks:=tk }->wpAny (model prog w) A.in1 (richCompare .Lt u v) Q E { s with heap:=h,toks:=tk })
  (f:∀ v h' G,P (argBest bt (n-1)) v->Kp g h'->R (.ok (.ret v)) { s with heap:=h',toks:=G }) :
  ∀(r j:Nat)(h:Heap)(tk:Nat)(x:Value)(c:Nat),n-(j+1)=r->j+1<=n->Kp g h->h.get? S=some (MI "list" #[x,x] c)->St (j+1) h->P (argBest bt j) x->argBest bt j<n ->
   Md (model prog w) A (.builtin "min.loop" ⟨[.ref a,.none,.ref S],[]⟩) R { s with heap:=h,toks:=tk }:=by
 intro r;induction r with
 |zero =>
  intro j h tk x c er B kg H st L M;have d:j+1=n:=by omega
  refine MP IP ?_;rw[MQ Hr _];refine LX (m:=seqItems? (.ref S)) (MR H rfl ?_);show wpAny _ A.in1 (tryCatch (pyNext (.ref a)) _ >>= _) _ _ _;refine LX (MT (W.done _ _ _ (by rw[← d];exact st) λh' G y=>?_))
  have ac:=kg.but gJ y;have l:=y S _ (by simpa using ab) H
  have O:=MD h' S (Ml λ_=>(#[]:Array Value));refine LX (m:=MU S λ_=>#[]) (MV l rfl (LX (MH (L4 ?_))));exact f x _ _ (by rw[← d];exact L) (ac.same gS O)
 |succ r D =>
  intro j h tk x c er B kg H st L M;have lt:j+1<n:=by omega
  refine MP IP ?_;rw[MQ Hr _];refine LX (m:=seqItems? (.ref S)) (MR H rfl ?_);show wpAny _ A.in1 (tryCatch (pyNext (.ref a)) _ >>= _) _ _ _;refine LX (MT (W.item (j+1) _ _ _ lt st λv k T p C I=>?_));have t:=kg.but gJ I;have q:=I S _ (by simpa using ab) H
  show wpAny _ A.in1 (tryCatch (holding [v,v] (richCompare .Lt v x >>= _)) _ >>= _) _ _ _;refine LX (MT (LY (LX (aa (j+1) (argBest bt j) v x lt M p L k T _ _ t ?_))));refine LX (LY (LV (LX (MH (L4 ?_)))));have eA:argBest bt (j+1)=if bt (j+1) (argBest bt j)=true then j+1 else argBest bt j:=rfl
  cases cc:bt (j+1) (argBest bt j) with
  |true =>
   have O:=MD k S (Ml λ_=>#[v,v]);obtain⟨c2,Y⟩:∃ c2,(k.update S (Ml λ_=>#[v,v])).get? S=some (MI "list" #[v,v] c2):=⟨_,MJ q λ_=>#[v,v]⟩;simp;refine LX (MV q rfl (LX (MH ?_)));rw[Nf cc]at eA;refine L4 ⟨MX Hr _,D (j+1) _ _ v c2 ∅ lt (t.same gS O) Y (W.frame _ _ _ C λb M o e=>(O.2 b (λz=>N (z▸M))).trans e) (by rw[eA];exact p) (by rw[eA];exact lt)⟩
  |false =>
   simp;rw[Ng (by rw[cc];simp)]at eA
   refine LX (MH (L4 ?_));refine⟨MX Hr _,D (j+1) _ _ x c ∅ lt t q C (by rw[eA];exact L) (by rw[eA];exact M)⟩
theorem CN{l:Addr}(bt:Nat->Nat->Bool)(k:A.handled=none)(hl:s.heap.IsList l vs.toArray)(c:0<vs.length)
  (aa:∀(i j:Nat)(u v:Value),vs[i]?=some u->vs[j]?=some v->∀(h:Heap)(tk:Nat)(Q:Value->Shared->Prop)(E:Value->Shared->Prop),Kp s.heap h->Q (.bool (bt i j)) { s with heap:=h,toks:=tk }->wpAny (model prog w) A.in1 (richCompare .Lt u v) Q E { s with heap:=h,toks:=tk })
  (f:∀ v h' G,vs[argBest bt (vs.length-1)]?=some v->Kp s.heap h'->Q v { s with heap:=h',toks:=G }) :
  wpAny (model prog w) A (call (.builtin "min") [.ref l]) Q E s:=by
 have d:(toString "min"++toString ".loop" : String) = "min.loop":=by decide
 obtain⟨ol,ac,_⟩:=id hl;have ll:l<s.heap.objs.size:=LL ac;refine kmk_tree PySem.F.kind_min PySem.F.plain_min PySem.F.entry_min (PySem.F.args_min1 _) ?_;show wpAny _ A.in1 (MY "min" ["key","default"] 0 ⟨[],[]⟩ >>= _) _ _ s;refine LX (wpAny_of_eq (show MY "min" ["key","default"] 0 ⟨[],[]⟩=pure [none,none] from rfl) (LX (L4 (LX (wpAny_pyIter_list hl ?_)))));refine LX (MN ?_ (Hq _));rw[d];obtain⟨L,r⟩:∃ L:Obj,L={ cls:=Value.type "list_iterator",data:=Data.fields #[Value.ref l,Value.int 0 0] }:=⟨_,rfl⟩;rw[← r];have sz:(s.heap.push L).objs.size=s.heap.objs.size+1:=by rw[Me]
 have D:(s.heap.push L).objs.size≠s.heap.objs.size:=by omega
 have N:l≠s.heap.objs.size:=G0 ll;have O:∀ b,s.heap.objs.size<=b->s.heap.get? b=none:=λb M=>LP M;have a:Kp s.heap ((s.heap.push L).push (MI "list" #[] 0)):=λb o e=>L5 _ (L5 _ e);have H:((s.heap.push L).push (MI "list" #[] 0)).get? (s.heap.push L).objs.size=some (MI "list" #[] 0):=L6 _ rfl;have hJ:((s.heap.push L).push (MI "list" #[] 0)).get? s.heap.objs.size=some L:=L5 _ (L6 _ (by rw[r];rfl))
 have W:=Walks.list (prog:=prog) (w:=w) (A:=A.in1) k s.heap.objs.size l N vs.toArray;have al:vs.toArray.size=vs.length:=GQ ..;rw[al]at W;have ab:∀ i j u v,i<vs.length->j<vs.length->vs.toArray[i]?=some u->vs.toArray[j]?=some v->∀(h:Heap)(tk:Nat)(Q:Value->Shared->Prop)(E:Value->Shared->Prop),Kp s.heap h->Q (.bool (bt i j)) { s with heap:=h,toks:=tk }->wpAny (model prog w) A.in1 (richCompare .Lt u v) Q E { s with heap:=h,toks:=tk }:=λi j u v _ _ J Y=>aa i j u v (by simpa using J) (by simpa using Y)
 refine L4 ⟨MX Hr _,MP IP ?_⟩;rw[MQ Hr _];refine LX (m:=seqItems? (.ref (s.heap.push L).objs.size)) (MR H rfl ?_);show wpAny _ A.in1 (tryCatch (pyNext (.ref s.heap.objs.size)) _ >>= _) _ _ _;refine LX (MT (W.item 0 _ _ _ c ⟨⟨L,hJ,by rw[r],by rw[r];rfl⟩,hl.at λo e=>a _ _ e⟩ λv J B p C I=>?_))
 have t:=a.but (O _ (Gy _)) I;have q:=I _ _ (by simpa using D) H
 have x:=MD J (s.heap.push L).objs.size (Ml λ_=>#[v,v]);obtain⟨c2,g⟩:∃ c2,(J.update (s.heap.push L).objs.size (Ml λ_=>#[v,v])).get? (s.heap.push L).objs.size=some (MI "list" #[v,v] c2):=⟨_,MJ q λ_=>#[v,v]⟩;have n:(s.heap.push L).objs.size∉[s.heap.objs.size,l]:=λz=>by
  rcases GG.mp z with z | z
  .exact D z
  .have T:=GJ.mp z
   exact Nh ll (by rw[← T,sz];exact Js (IG _))
 refine LX (m:=MU _ λ_=>#[v,v]) (MV q rfl ?_);rw[d];refine L4 ⟨MX Hr _,Af W bt (O _ (Gy _)) (O _ ∅) D n ab (λv h' G e y=>f v h' G (by simpa using e) y) _ 0 _ _ v c2 rfl c (t.same (O _ ∅) x) g (W.frame _ _ _ C λb M o e=>(x.2 b (λz=>n (z▸M))).trans e) p c⟩
end
abbrev T3:=Int×Int×Int
def TrA(H:Hp)(v:V)(t:T3):Prop:=∃ a,v=.ref a/\H a=some (.tup [.int t.1,.int t.2.1,.int t.2.2])
def lt3(a b:T3):Bool:=lexB [(a.1,b.1),(a.2.1,b.2.1),(a.2.2,b.2.2)]
theorem lt3_le{a b:T3}(h:lt3 a b=true):a.1<=b.1:=by
 unfold lt3 lexB at h;by_cases c:a.1=b.1
 .omega
 .rw[Ng c]at h;have:=MZ h;omega
theorem lt3_ge{a b:T3}(h:lt3 a b=false):b.1<=a.1:=by
 unfold lt3 lexB at h;by_cases c:a.1=b.1
 .omega
 .rw[Ng c]at h;have:=of_decide_eq_false h;omega
theorem best3(W:Nat->T3):∀ k,argBest (λi j=>lt3 (W i) (W j)) k<=k/\∀ j,j<=k->(W (argBest (λi j=>lt3 (W i) (W j)) k)).1<=(W j).1
 |0=>by
  refine⟨Gy _,λj B=>?_⟩;have e:j=0:=by omega
  rw[e];exact IM _
 |k+1=>by
  obtain⟨J,Y⟩:=best3 W k;have e:argBest (λi j=>lt3 (W i) (W j)) (k+1)=if lt3 (W (k+1)) (W (argBest (λi j=>lt3 (W i) (W j)) k))=true then k+1 else argBest (λi j=>lt3 (W i) (W j)) k:=rfl;rw[e]
  cases c:lt3 (W (k+1)) (W (argBest (λi j=>lt3 (W i) (W j)) k)) with
  |true =>
   rw[Nf rfl];have g:=lt3_le c;refine⟨Gy _,λj B=>?_⟩;by_cases z:j=k+1
   .subst z;exact IM _
   .have:=Y j ∅;omega
  |false =>
   rw[Ng G4];have g:=lt3_ge c;refine⟨∅,λj B=>?_⟩
   by_cases z:j=k+1
   .subst z;exact g
   .exact Y j ∅
inductive rMin3(K:Gw)(xs:List V)(H:L2.Hp)(Q:L2.VK):Prop
 |mk (p ys ws:_) (h0_:xs = [.ref p])(h1_:SqL K H p ys)(h2_:LsAt TrA H ys ws)(h3_:ws≠[])(h4_:∀(i:Nat)(y:V)(t:T3),ys[i]?=some y->ws[i]?=some t->(∀ t'∈ws,t.1<=t'.1)->Q y H)
theorem BC(Y:X.calm=true)(M:X.A.units+64<cLine):gy X (.builtin "min") (rMin3 X.K):=by
 intro B s O H N J Q I r h;obtain⟨p,d,k,rfl,G,hL,aa,q⟩:=h;obtain⟨u,rfl,w⟩:=i3 r
 cases w
 obtain⟨E,rv,pl,_⟩:=I.list G;have yl:=hL.1;have il:=rv.length;have wp:0<k.length:=List.length_pos_iff.mpr aa;let W:Nat->T3:=λi=>k.getD i (0,0,0);have Wi:∀ i t,k[i]?=some t->W i=t:=λi t e=>by show k.getD i (0,0,0)=t;rw[GP,e];rfl
 have look:∀(i:Nat)(v:Value),E[i]?=some v->∃ a o y1 y2 y3 n,v=.ref a/\s.heap.get? a=some o/\o.cls=.type "tuple"/\o.data=.seq #[y1,y2,y3] n/\(∃ t,y1=.int (W i).1 t)/\(∃ t,y2=.int (W i).2.1 t)/\(∃ t,y3=.int (W i).2.2 t):=λi v e=>by
  have T:i<d.length:=by rw[il];exact(Gn.mp e).1
  obtain⟨t,l,a,ea,D⟩:=hL.get (Gs T);obtain⟨v',ev,al⟩:=rv.get (Gs T);rw[e]at ev
  cases ev
  rw[ea]at al;obtain rfl:v=.ref a:=al;obtain⟨_,aI,rt,o,c,ab,n,hd⟩:=I.hok a _ D;rw[Wi i t l];obtain⟨y1,u1,rfl,g,c1⟩:=Vals.unc rt;obtain⟨y2,u2,rfl,r2,c2⟩:=Vals.unc c1;obtain⟨y3,u3,rfl,r3,c3⟩:=Vals.unc c2;cases c3
  exact⟨a,o,y1,y2,y3,n,rfl,c,ab,hd,g,r2,r3⟩
 refine CN (vs:=E) (λi j=>lt3 (W i) (W j)) (I.ok.hd Y) pl.isList ∅ ?_ ?_
 .intro i j u v an ac h tk Q' E' y hQ;have am:X.A.in1.units<cLine:=by
   have e:X.A.in1.units<=X.A.units+64:=by simp[Around.in1]
   omega
  obtain⟨a,oa,y1,y2,y3,n,rfl,ga,ca,da,g,r2,r3⟩:=look i u an;obtain⟨b,ob,z1,x,z3,m,rfl,gb,cb,db,L,C,q3⟩:=look j v ac;exact tup_lt (y _ _ ga) ca da (y _ _ gb) cb db (ps:=[((W i).1,(W j).1),((W i).2.1,(W j).2.1),((W i).2.2,(W j).2.2)]) ⟨g,L,r2,C,r3,q3,trivial⟩ rfl am hQ
 .intro v z tk e y;obtain⟨b1,b2⟩:=best3 W (E.length-1);have T:argBest (λi j=>lt3 (W i) (W j)) (E.length-1)<d.length:=by omega
  obtain⟨t,l,_⟩:=hL.get (Gs T);obtain⟨v',ev,al⟩:=rv.get (Gs T);rw[e]at ev
  cases ev
  refine⟨_,H,I.kept y,al,q _ _ t (Gs T) l λt' ap=>?_⟩;obtain⟨j,f,ej⟩:=Ij ap;have:=b2 j ∅
  rw[Wi _ t l,Wi j t' (by rw[Gs f,ej])]at this
  exact this
theorem DG{xs:Array Nat}(G:xs.toList.Pairwise (· < ·)):∀(l lo hi:Nat),hi-lo<=l->lo<=hi->hi<=xs.size->(∀ i,i<lo->xs.getD i j<j)->(∀ i,hi<=i->i<xs.size->j<=xs.getD i j) ->
  (∀ i,i<SetTable.below.go xs j l lo hi->xs.getD i j<j)/\(∀ i,SetTable.below.go xs j l lo hi<=i->i<xs.size->j<=xs.getD i j)/\SetTable.below.go xs j l lo hi<=xs.size:=by
 have up:∀ a b,a<b->b<xs.size->xs.getD a j<xs.getD b j:=λa b m M=>by
  have E:a<xs.size:=IT m M;have:=IA.mp G a b (by simpa using E) (by simpa using M) m
  simpa[JS,E,M] using this
 intro l;induction l with
 |zero =>
  intro lo hi J Y g o s;have:lo=hi:=by omega
  subst this;exact⟨o,s,g⟩
 |succ l D =>
  intro lo hi J Y g o s;unfold SetTable.below.go;by_cases c:lo<hi
  .rw[Nf c];have n:lo<=(lo+hi)/2:=by omega
   have x:(lo+hi)/2<hi:=by omega
   dsimp only;by_cases d:xs.getD ((lo+hi)/2) j<j
   .rw[Nf d];refine D _ _ ∅ ∅ g (λi f=>?_) s
    by_cases e:i=(lo+hi)/2
    .rw[e];exact d
    .exact IT (up i _ ∅ ∅) d
   .rw[Ng d];refine D _ _ ∅ ∅ ∅ o λi f C=>?_
    by_cases e:i=(lo+hi)/2
    .rw[e];omega
    .have:=up _ i (show(lo+hi)/2<i by omega) C
     omega
  .rw[Ng c];have:lo=hi:=by omega
   subst this;exact⟨o,s,g⟩
theorem wY{xs:Array Nat}(G:xs.toList.Pairwise (· < ·))(j:Nat):(∀ i,i<M0 xs j->xs.getD i j<j)/\(∀ i,M0 xs j<=i->i<xs.size->j<=xs.getD i j)/\M0 xs j<=xs.size :=
 DG G xs.size 0 xs.size ∅ (Hq _) (Gy _) (λi h=>Nh h (Ir _)) λi J Y=>Nh Y ∅
def SetT(t:SetTable):Prop:=t.place.toList.Pairwise (· < ·)/\t.dummies=#[]
theorem SetT.fresh(a b:Nat)(j:Bool):SetT (.fresh a b j):=⟨JH,rfl⟩
theorem SetT.standIn(t:SetTable)(n:Nat):SetT (t.standIn n):=⟨by
 show(Array.range n).toList.Pairwise (· < ·);rw[Array.toList_range]
 exact List.pairwise_lt_range,rfl⟩
theorem AN(j:Nat):SetTable.has #[] j=false:=by
 unfold SetTable.has;simp
theorem SetT.put{t:SetTable}(h:SetT t)(B:t.slot j=.empty):SetT (t.put j).1:=by
 obtain⟨G,hd⟩:=h;obtain⟨b1,b2,b3⟩:=wY G j;have ne:t.place[M0 t.place j]?≠some j:=λz=>by
  unfold SetTable.slot at B;dsimp only at B;rw[z]at B;simp at B
 refine⟨?_,?_⟩
 .show(SetTable.insertAt t.place (M0 t.place j) j).toList.Pairwise (· < ·);rw[SetTable.toList_insertAt];have c:∀ a∈t.place.toList.take (M0 t.place j),a<j:=λa E=>by
   obtain⟨i,T⟩:=Il.mp E;have m:i<M0 t.place j:=by
    have:=(Gn.mp T).1;rw[Hs]at this;omega
   rw[List.getElem?_take,Nf m]at T;have:=b1 i m;rw[Hv]at T;rw[JW,T]at this;exact this
  have f:∀ b∈t.place.toList.drop (M0 t.place j),j<b:=λb M=>by
   obtain⟨i,T⟩:=Il.mp M;rw[KR,Hv]at T;have m:M0 t.place j+i<t.place.size:=by
    obtain⟨z,_⟩:=JX.mp T;exact z
   have J:=b2 _ (JN _ i) m;rw[JW,T]at J;have d:j<=b:=J;rcases Nat.lt_or_ge j b with z | z
   .exact z
   .have e:b=j:=by omega
    subst e;by_cases g:i=0
    .subst g;exact Nh T ne
    .have w:=b2 (M0 t.place b) (Gy _) ∅
     have:=IA.mp G (M0 t.place b) (M0 t.place b+i) (by simp;omega) (by simpa using m) ∅
     obtain⟨u,N⟩:=JX.mp T;have L:t.place.getD (M0 t.place b) b=t.place[M0 t.place b]'∅:=by rw[JW,HS];rfl
     rw[L]at w;simp only[Array.getElem_toList]at this;rw[N]at this;omega
  refine Ky.mpr ⟨G.sublist (List.take_sublist _ _),KP.mpr ⟨f,G.sublist (List.drop_sublist _ _)⟩,λa E b M=>?_⟩;rcases GG.mp M with z | z
  .rw[z];exact c a E
  .exact IT (c a E) (f b z)
 .show(if SetTable.has t.dummies j=true then SetTable.eraseAt t.dummies (M0 t.dummies j) else t.dummies)=#[];rw[hd,AN,Ng G4]
theorem Cc{t:SetTable}{f:Nat->Int}{h:Int}(hd:t.dummies=#[]):∀(l:Nat)(p:SetTable.Probe),p.dummy=none->∀ j d,SetTable.probe.go t f h l p=some (.empty j d)->t.slot j=.empty/\d=none:=by
 intro l;have H:∀ j,t.slot j≠.dummy:=λj z=>by
  unfold SetTable.slot at z;rw[hd,AN]at z;simp only[HL,if_false]at z;split at z<;>cases z
 induction l with
 |zero=>intro p _ j d e;cases e
 |succ l D =>
  intro p u j d e;have a:(t.advance p).dummy=none:=by
   unfold SetTable.advance;split<;>exact u
  unfold SetTable.probe.go at e;split at e
  .rename_i G
   cases e
   exact⟨G,u⟩
  .rename_i G;exact Nh G (H _)
  .split at e
   .cases e
   .exact D _ a j d e
theorem SetT.layNew{t:SetTable}(h:SetT t)(es:Array (Int×Value))(k:Int)(x:Value):SetT (layNew t es k x).2.1/\(layNew t es k x).2.1.led=t.led:=by
 unfold PySem.layNew;split
 .rename_i a b e;unfold SetTable.freeSlot at e;split at e
  .rename_i j c f;obtain⟨u,N⟩:=Cc h.2 _ _ rfl j c f;subst N;have G:(j,false)=(a,b):=G3 e
   cases G
   dsimp only;unfold SetTable.orStandIn;split
   .exact⟨h.put u,rfl⟩
   .exact⟨SetT.standIn _ _,rfl⟩
  .cases e
 .exact⟨SetT.standIn _ _,rfl⟩
theorem uX(n:Nat)(g:Nat->Option Nat):(((GW n).filterMap λj=>(g j).map (j,·)).map (·.1)).Pairwise (· < ·):=by
 have:((GW n).filterMap λj=>(g j).map (j,·)).map (·.1)=(GW n).filter λj=>(g j).isSome:=by
  induction (GW n) with
  |nil=>rfl
  |cons a l D =>
   cases e:g a with
   |none=>simp[e,D]
   |some b=>simp[e,D]
 rw[this];exact List.pairwise_lt_range.filter _
theorem SetT.relayAll(t:SetTable)(es:Array (Int×Value))(a:Nat):SetT (relayAll t es a).2.1/\(relayAll t es a).2.1.led=t.led:=by
 unfold PySem.relayAll;split
 .rename_i m b e;dsimp only;split
  .unfold SetTable.relaid SetTable.laid at e
   cases A:SetTable.layClean (SetTable.sizeAbove a-1) (es.map (·.1)) with
   |none=>rw[A]at e;cases e
   |some c =>
    rw[A]at e
    cases e
    refine⟨⟨?_,rfl⟩,rfl⟩;show(List.toArray _).toList.Pairwise (· < ·);rw[List.toList_toArray];exact uX _ _
  .exact⟨SetT.standIn _ _,rfl⟩
 .exact⟨SetT.standIn _ _,rfl⟩
theorem nu(p:us.Perm vs):∀{ns:List Int},Mp vs ns->∃ ms,Mp us ms/\ms.Perm ns:=by
 have go:∀{us vs:List Value},us.Perm vs->∀{ns:List Int},Mp us ns->∃ ms,Mp vs ms/\ms.Perm ns:=by
  intro us vs p;induction p with
  |nil=>exact λh=>⟨_,h,.rfl⟩
  |cons x _ D =>
   intro ns h
   cases h with
   |cons n t h =>
    obtain⟨ms,J,Y⟩:=D h;exact⟨n::ms,.cons n t J,Y.cons n⟩
  |swap x y l =>
   intro ns h
   cases h with
   |cons n t h =>
    cases h with
    |cons i m h=>exact⟨i::n::_,.cons i m (.cons n t h),List.Perm.swap _ _ _⟩
  |trans _ _ a b =>
   intro ns h;obtain⟨ms,J,Y⟩:=a h;obtain⟨u,g,o⟩:=b J;exact⟨u,g,o.trans Y⟩
 exact λ{ns} h=>go p.symm h
theorem AE(h:Mp vs ns)(k:Int)(t:Tok):Mp (vs++[.int k t]) (ns++[k]):=by
 induction h with
 |nil=>exact .cons k t .nil
 |cons n m _ D=>exact .cons n m D
theorem wG(h:Mp vs ns):(∀ v∈vs,∃ n t,v=.int n t/\n∈ns)/\∀ n∈ns,∃ t,Value.int n t∈vs:=by
 induction h with
 |nil=>exact⟨λv p=>(nomatch p),λn T=>(nomatch T)⟩
 |cons n t _ D =>
  refine⟨λv p=>?_,λm C=>?_⟩
  .rcases GG.mp p with z | z
   .exact⟨n,t,z,GN ..⟩
   .obtain⟨a,b,c,d⟩:=D.1 v z;exact⟨a,b,c,GD _ d⟩
  .rcases GG.mp C with z | z
   .subst z;exact⟨t,GN ..⟩
   .obtain⟨b,c⟩:=D.2 m z;exact⟨b,GD _ c⟩
def byT(w:World):Bool:=w.params.followText "set-order"
def SetG(P:Program)(w:World)(h:Heap)(a:Addr)(l:List Int):Prop:=∃ o D N t,h.get? a=some o/\o.ExactSet/\o.data=.set D N t/\ElemsOf (intKind P w) D.toList/\(∃ x,Mp (D.toList.map (·.2)) x/\x.Perm l)/\l.Nodup/\D.size<scanBound/\t.fits D.size=true/\SetT t/\t.led = !byT w
theorem SetG.keeps{l:List Int}(g:SetG P w h a l)(k:∀ o,h.get? a=some o->h'.get? a=some o):SetG P w h' a l:=by
 obtain⟨o,D,N,t,B,r⟩:=g;exact⟨o,D,N,t,k o B,r⟩
def addN(l:List Int)(k:Int):List Int:=if k∈l then l else l++[k]
theorem vU{es i:Array (Int×Value)}{t t':SetTable}{l:List Int}(go:h.get? a=some o)(m:o.ExactSet)(gd:o.data=.set es ep t)(n:ElemsOf (intKind P w) i.toList)(G:∃ ns,Mp (i.toList.map (·.2)) ns/\ns.Perm l)(nd:l.Nodup)(sz:i.size<scanBound)(O:t'.fits i.size=true)(C:SetT t')(ld:t'.led = !byT w) :
  SetG P w (h.update a (Obj.putSet i t')) a l/\∃ b,(h.update a (Obj.putSet i t')).get? a=some b/\b.ExactSet/\b.data=.set i (ep+1) t':=by
 have N:=Mm (Obj.putSet i t') go (by rw[putSet_of i t' gd];rfl)
 rw[putSet_of i t' gd]at N;exact⟨⟨_,i,ep+1,t',N,m,rfl,n,G,nd,sz,O,C,ld⟩,_,N,m,rfl⟩
section
variable{prog:Program}{w:World}{A:Around}{E:Value->Shared->Prop}{s:Shared}
theorem putInS{l:List Int}{k:Int}{tk:Tok}{Q:Bool->Shared->Prop}(g:SetG prog w s.heap a l)(aS:l.length+1<scanBound)
  (q:∀(b:Bool)(h':Heap),LQ a s.heap h'->SetG prog w h' a (addN l k)->Q b { s with heap:=h' }):wpAny (model prog w) A (setAddHashed a (.int k tk) ((intKind prog w).hash k)) Q E s:=by
 obtain⟨o,D,ep,t,go,gx,gd,el,⟨ns,ia,pm⟩,nd,sz,ft,tg,ld⟩:=id g;have aT:(intKind prog w).is k (.int k tk)=true:=intKind_is _ _ _ _;have len:D.size=l.length:=by
  have J:∀{y:List Value}{ns:List Int},Mp y ns->y.length=ns.length:=λh=>by
   induction h with
   |nil=>rfl
   |cons _ _ _ B=>rw[GX,GX,B]
  have:=J ia;rw[Gu,Hd,pm.length_eq]at this;exact this
 have gw:∀(b:Bool){aa:Shared}{Q':Unit->Shared->Prop},Q' () aa->wpAny (model prog w) A (match b with | true=>rule "set.scan.the-table-gave-way" | false=>pure ()) Q' E aa:=λb=>by
  intro c Q' v
  cases b
  .exact L4 v
  .exact wpAny_rule v
 unfold setAddHashed setAddHashedIn;refine LY (LX (M7 go gd ft ?_));dsimp only;rw[byScan_of (knd:=intKind prog w) rfl sz el];simp only[↓reduceIte];unfold setAddByScan;refine LX (LX (wpAny_rule (LX (wpAny_setScan_of (knd:=intKind prog w) aT go gd ft el ?_))))
 cases fr:List.findIdx? (λe=>(intKind prog w).is k e.2) D.toList with
 |some j =>
  obtain⟨jl,jp,_⟩:=List.findIdx?_eq_some_iff_getElem.mp fr;have al:k∈l:=by
   obtain⟨n,t',O,G⟩:=(wG ia).1 _ (List.mem_map_of_mem (f:=(·.2)) (Ii jl));have T:(D.toList[j]).2=.int n t':=O;rw[T]at jp;have:k=n:=(intKind prog w).inj _ k n jp (intKind_is _ _ _ _);rw[this];exact pm.mem_iff.mp G
  refine L4 (L4 ?_);have e:addN l k=l:=Nf al;have:=q false s.heap (Heap.SameBut.refl a s.heap) (by rw[e];exact g)
  exact this
 |none =>
  have ap:k∉l:=λz=>by
   obtain⟨t',m⟩:=(wG ia).2 k (pm.mem_iff.mpr z);obtain⟨e,i,G⟩:=Hn.mp m;have:=List.findIdx?_eq_none_iff.mp fr e i;rw[G,intKind_is]at this
   cases this
  have ea:addN l k=l++[k]:=Ng ap;have a0:(l++[k]).Nodup:=HR.mpr ⟨nd,Hj.mpr ⟨Jt,IW⟩,λa d b M e=>ap (by rw[GJ.mp M]at e;exact e▸d)⟩
  have u:=layNew_perm t D ((intKind prog w).hash k) (.int k tk);have I:=layNew_fits t D ((intKind prog w).hash k) (.int k tk);obtain⟨H,C⟩:=tg.layNew D ((intKind prog w).hash k) (.int k tk);dsimp only;generalize layNew t D ((intKind prog w).hash k) (.int k tk)=N at u I H C ⊢;obtain⟨ab,t1,wd,gv⟩:=N;dsimp only at u I H C ⊢;rw[K4]at u;have a1:ElemsOf (intKind prog w) ab.toList:=(el.push aT rfl).perm u;have a2:∃ ms,Mp (ab.toList.map (·.2)) ms/\ms.Perm (l++[k]):=by
   have p2:=u.map (·.2);rw[GK]at p2;obtain⟨ms,J,Y⟩:=nu p2 (AE ia k tk);exact⟨ms,J,Y.trans (pm.append_right _)⟩
  have aI:ab.size<scanBound:=by rw[← Hd,u.length_eq,Gx,Hd,len];exact aS
  have a9:t1.led = !byT w:=C.trans ld;refine LX (gw _ ?_)
  have am:∀ t2:SetTable,t2.fits ab.size=true->SetT t2->t2.led = !byT w->wpAny (model prog w) A (do
    storeSet a ab t2
    if(!wd&&t2.tooFull)=true then do
      (match(relayAll t2 ab (M8 ab.size)).2.2 with | true=>rule "set.scan.the-table-gave-way" | false=>pure ())
      storeSet a (relayAll t2 ab (M8 ab.size)).1 (relayAll t2 ab (M8 ab.size)).2.1
      pure (some true)
     else pure (some true)) (λr L=>∃ b:Bool,r=some b/\Q b L) E s:=by
   intro t2 f2 g2 l2;obtain⟨G1,o2,a3,ba,a4⟩:=vU (P:=prog) (w:=w) go gx gd a1 a2 a0 aI f2 g2 l2;have a5:=MD s.heap a (Obj.putSet ab t2);refine LX (wpAny_storeSet_of go gd ?_ (fits_of_scanBound aI));split
   .have ac:=relayAll_perm t2 ab (M8 ab.size)
    have aL:=relayAll_fits t2 ab (M8 ab.size);obtain⟨aO,an⟩:=SetT.relayAll t2 ab (M8 ab.size);generalize relayAll t2 ab (M8 ab.size)=N2 at ac aL aO an ⊢;obtain⟨a6,t3,bd⟩:=N2;dsimp only at ac aL aO an ⊢;have bb:∃ ms,Mp (a6.toList.map (·.2)) ms/\ms.Perm (l++[k]):=by
     obtain⟨m1,J,Y⟩:=a2;obtain⟨ms,p,h4⟩:=nu (ac.map (·.2)) J;exact⟨ms,p,h4.trans Y⟩
    have a7:a6.size<scanBound:=by rw[← Hd,ac.length_eq,Hd];exact aI
    refine LX (gw _ (LX (wpAny_storeSet_of a3 a4 ?_ (fits_of_scanBound a7))));obtain⟨G2,_⟩:=vU (P:=prog) (w:=w) a3 ba a4 (a1.perm ac) bb a0 a7 aL aO (an.trans l2);refine L4 ⟨true,rfl,?_⟩;exact q true _ (a5.trans (MD _ a _)) (by rw[ea];exact G2)
   .refine L4 ⟨true,rfl,?_⟩;exact q true _ a5 (by rw[ea];exact G1)
  have all:=am t1 I H a9
  have step:∀(r:Option Bool)(L:Shared),(∃ b:Bool,r=some b/\Q b L)->wpAny (model prog w) A (match r with
    |some aR=>pure aR
    |none=>setAddHashedIn a (Value.int k tk) ((intKind prog w).hash k) 99999) Q E L:=λr L ⟨b,e,z⟩=>by
   subst e;exact L4 z
  split
  .refine LX ?_;rw[hashByValue_scannable 8 (x:=Value.int k tk) rfl];refine L4 ?_;exact LS all step λ_ _ z=>z
  .refine LX (L4 ?_);exact LS all step λ_ _ z=>z
theorem w4(l:List Int)(k:Int):(addN l k).length<=l.length+1:=by
 unfold addN;split
 .omega
 .rw[Gx];exact Gy _
theorem BU{S:Addr}{wr:List Addr}{P:Nat->Value->Prop}{St:Nat->Heap->Prop}(W:Walks prog w A.in1 I fp wr n P St)(H:S∉fp)(ns:List Int)(O:ns.length=n)(p:∀ i v,P i v->∃ t,v=.int (ns.getD i 0) t)(M:n+1<scanBound) :
  ∀(r i:Nat)(h:Heap)(tk:Nat)(l:List Int),n-i=r->i<=n->St i h->SetG prog w h S l->l.length<=i ->
   (∀ h' G,(∀ b o,b≠S->b∉wr->h.get? b=some o->h'.get? b=some o)->SetG prog w h' S ((ns.drop i).foldl addN l)->R (.ok (.ret .none)) { s with heap:=h',toks:=G }) ->
   Md (model prog w) A (.builtin "set.update.loop" ⟨[.ref S,.ref I],[]⟩) R { s with heap:=h,toks:=tk }:=by
 have L:S∉wr:=λz=>H (W.sub _ z);intro r;induction r with
 |zero =>
  intro i h tk l j T st g x f;have ei:i=n:=by omega
  subst ei;refine MP PyProof.Rows.F.entry_set_update_loop ?_;rw[MQ M9 _];show wpAny _ A.in1 (pyNext (.ref I) >>= _) _ _ _;refine LX (W.done _ _ _ st λh' G y=>?_);show wpAny _ A.in1 (ret Value.none) _ _ _;refine L4 (f h' G (λb o _ c e=>y b o c e) ?_);rw[List.drop_of_length_le ∅]
  exact g.keeps λo e=>y _ _ L e
 |succ r D =>
  intro i h tk l j T st g x f;have m:i<n:=by omega
  refine MP PyProof.Rows.F.entry_set_update_loop ?_;rw[MQ M9 _];show wpAny _ A.in1 (pyNext (.ref I) >>= _) _ _ _;refine LX (W.item i _ _ _ m st λv J a pv C d=>?_);obtain⟨t,rfl⟩:=p i v pv;have B:=g.keeps λo e=>d _ _ L e;show wpAny _ A.in1 (holding [Value.int (ns.getD i 0) t] (setAdd S (.int (ns.getD i 0) t)) >>= _) _ _ _;refine LX (LY ?_);unfold setAdd;refine LY (LX ((intKind prog w).pyHash (k:=ns.getD i 0) (intKind_is _ _ _ _) ?_));refine putInS (l:=l) B ∅ λb Y u q=>?_
  have N:∀ b o,b≠S->J.get? b=some o->Y.get? b=some o:=λb o n e=>(u.2 b n).trans e;have E:ns.drop i=ns.getD i 0::ns.drop (i+1):=by
   rw[Ka ∅,GP,Gs ∅]
   rfl
  refine L4 ⟨MX M9 _,D (i+1) _ _ (addN l (ns.getD i 0)) ∅ m (W.frame _ _ _ C λb M o e=>N b o (λz=>H (z▸M)) e) q (by have:=w4 l (ns.getD i 0);omega) λh' G y Q=>?_⟩
  refine f h' G (λb o n c e=>y b o n c (N b o n (d b o c e))) ?_;rw[E,Kv];exact Q
theorem uw(a:Value){Q₁:Value->Shared->Prop}
  (h:Q₁ (.ref s.heap.objs.size) { s with heap:=s.heap.push { cls:=.type "set",dict:=none,data:=.set #[] 0 (.fresh 0 0 (!byT w)) } }) :
  Md (model prog w) A (.call (.builtin "set.__new__") ⟨[.type "set",a],[]⟩) (wants Q₁ E) s:=by
 refine codeAny_of_tree ?_;show wpAny _ A.in1 (do checkBuiltinCall "set.__new__" ⟨[.type "set",a],[]⟩;again (.builtin "set.__new__" ⟨[.type "set",a],[]⟩)) _ _ s
 refine LX (wpAny_of_eq (PySem.F.newCall_set_1 a) (L4 ⟨MX PySem.F.plain_set_new _,MP PySem.F.entry_set_new ?_⟩));rw[MQ PySem.F.plain_set_new _];unfold Builtin.«set.__new__» Builtin.Frozenset.newClass;have b:=PySem.sub_set_self;obtain⟨j,Q,f,l,os⟩:=s;dsimp only;wp_walk;refine Na (L4 ?_);dsimp only;simp only[newObj];exact LX (wpAny_alloc (L4 (L4 h)))
theorem d9:∀{vs:List Value}{ns:List Int},Mp vs ns->vs.length=ns.length/\∀(i:Nat)(v:Value),vs[i]?=some v->∃ t,v=.int (ns.getD i 0) t
 |_,_,.nil=>⟨rfl,λi v e=>by simp at e⟩
 |_,_,.cons n t r=>by
  obtain⟨J,Y⟩:=d9 r;refine⟨by rw[GX,GX,J],λi v e=>?_⟩
  match i,e with
  |0,e=>cases e;exact⟨t,rfl⟩
  |i+1,e=>exact Y i v e
abbrev newO(w:World):Obj:={ cls:=.type "set",dict:=none,data:=.set #[] 0 (.fresh 0 0 (!byT w)) }
theorem newG(e:h.get? a=some (newO w)):SetG P w h a [] :=
 ⟨_,#[],0,_,e,⟨rfl,rfl,rfl⟩,rfl,λx L=>by simp at L,⟨[],.nil,.rfl⟩,IW,by decide,rfl,SetT.fresh _ _ _,rfl⟩
theorem tR{lst:Addr}{its:Array Value}(k:A.handled=none)(hl:s.heap.IsList lst its)(H:Mp its.toList ns)(M:its.size+1<scanBound)
  (q:∀(h':Heap)(tk:Nat),SetG prog w h' s.heap.objs.size (ns.foldl addN [])->(∀ b o,s.heap.get? b=some o->h'.get? b=some o)->Q (.ref s.heap.objs.size) { s with heap:=h',toks:=tk }) :
  wpAny (model prog w) A (call (.type "set") [.ref lst]) Q E s:=by
 obtain⟨n,tl,D⟩:=PySem.F.called_set.mro;have al:=PySem.F.called_set.made;have aa:=PySem.F.called_set.sub;obtain⟨h,C⟩:=d9 H;have J:ns.length=its.size:=by rw[← h,Hd]
 refine wpAny_call (codeAny_of_tree ?_);show wpAny _ _ (callAny (.type "set") _) _ _ _;refine L4 ⟨Code.quiet_builtin _ (by decide),MP PySem.F.entry_type_call ?_⟩
 rw[Around.under_plain (weight_type_call_type "set" [.ref lst] []) rfl];have u:=PySem.F.called_set.notType;have g:=PySem.F.called_set.canCreate;have L:=PySem.F.typeCall_set_1 (.ref lst);repeat (any_goals (first | assumption | wp_step))
 refine Mh (uw (.ref lst) (E:=E) (Q₁:=λt c=>t=.ref s.heap.objs.size/\c={ s with heap:=s.heap.push (newO w) }) ⟨rfl,rfl⟩) λr c B=>?_
 cases r with
 |error e=>exact B
 |ok l =>
  cases l with
  |next=>exact B.elim
  |brk=>exact B.elim
  |cont=>exact B.elim
  |ret t =>
   obtain⟨rfl,rfl⟩:=B;have I:(s.heap.push (newO w)).get? s.heap.objs.size=some (newO w):=L6 _ rfl;have f:Shared.TypeIs { s with heap:=s.heap.push (newO w) } (.ref s.heap.objs.size) "set":=⟨_,I,rfl⟩;have d:=PySem.F.called_set.init.lookup;have x:=PySem.F.called_set.init.bind (.ref s.heap.objs.size);repeat (any_goals (first | assumption | wp_step))
   refine Mh (codeAny_call_builtin (R:=wants (λr j=>r=.none/\∃ h' tk,j={ s with heap:=h',toks:=tk }/\SetG prog w h' s.heap.objs.size (ns.foldl addN [])/\∀ b o,s.heap.get? b=some o->h'.get? b=some o) E) PySem.F.called_set.init.plain PySem.F.entry_set_init (check_set_init_1 f ?_)) λab j a=>?_
   .obtain⟨N,go,gc,O,gd⟩:=hl;obtain⟨c0,T,ap,p⟩:=N;simp only at gc gd;subst gc;subst gd;have am:(s.heap.push (newO w)).get? lst=some { cls:=.type "list",dict:=T,data:=.seq its O,slots:=p }:=L5 _ go;have f6:=PySem.F.sub_list_set;have f7:=PySem.F.sub_list_frozenset;have f8:(Value.type "list" == Value.type "dict")=false:=by decide
    have ac:(s.heap.push (newO w)).IsList lst its:=⟨_,am,rfl,O,rfl⟩;unfold Builtin.«set.__init__» noKeywords Builtin.Frozenset.updateFrom;generalize eP:pyIter=PI;wp_walk;subst eP;refine wpAny_pyIter_list ac (LX (wpAny_runValue ?_));have lS:lst<s.heap.objs.size:=LL go;have nI:lst≠(s.heap.push (newO w)).objs.size:=by rw[Me];exact G0 (Ik lS)
    have nS:s.heap.objs.size∉[(s.heap.push (newO w)).objs.size,lst]:=by
     rw[Me];intro z;rcases GG.mp z with z | z
     .exact Nh z (G0 (HB _))
     .rw[GJ]at z;exact Nh z.symm (G0 lS)
    have an:A.in1.in1.in1.handled=none:=by simp[k]
    refine BU (s:=s) (Walks.list an _ lst nI its) nS ns J (λi v pv=>C i v (by rw[Hv];exact pv)) M its.size 0 _ s.toks [] ∅ (Hq _) ⟨⟨_,L6 _ rfl,rfl,rfl⟩,ac.push _⟩ (newG (L5 _ I)) (Gy _) λh' G y gg=>?_
    refine L4 ?_;show wpAny _ _ (ret Value.none) _ _ _;refine L4 ⟨rfl,h',G,rfl,gg,λb o e=>?_⟩;have bl:=LL e;refine y b o (G0 bl) (λz=>?_) (L5 _ (L5 _ e));rw[GJ,Me]at z;exact Nh z (G0 (Ik bl))
   .cases ab with
    |error e=>exact a
    |ok Y =>
     cases Y with
     |next=>exact a.elim
     |brk=>exact a.elim
     |cont=>exact a.elim
     |ret r =>
      obtain⟨rfl,h',tk,rfl,g',m⟩:=a;repeat (any_goals (first | assumption | wp_step))
      exact q _ _ g' m
end
theorem bt_set:LO "set" = some (.type "set"):=by decide
theorem vh:entryFor table "set.__iter__" = some Builtin.«frozenset.__iter__»:=entryFor_alias (id':="frozenset.__iter__") (by kernel_rfl) rfl (by decide) (by kernel_rfl)
theorem cS:Slot "set_iterator" "__next__" "set_iterator.__next__" :=
 Slot.of (owner:="set_iterator") (n:="__next__") (by rw[typeLookup_type,builtinLookup_eq_fast];kernel_rfl) (by decide) (by decide) (by decide) (by first | exact .inl (by decide) | exact .inr (by decide)) (by rw[isSubtype_type];kernel_rfl)
theorem oF:entryFor table "set_iterator.__next__" = some Builtin.«set_iterator.__next__»:=entryFor_of_tree (by kernel_rfl)
theorem ow_si:Manifest.owners.lookup (String.ofList ['r','o','t','a','r','e','t','i','_','t','e','s'].reverse)=some Manifest.sig_set_iterator:=by kernel_rfl
theorem oJ(a:Value):argsOk "set_iterator.__next__" ⟨[a],[]⟩:=by
 unfold argsOk;rw[signature?_of (id:="set_iterator.__next__") (n:=['_','_','t','x','e','n','_','_']) (o:=['r','o','t','a','r','e','t','i','_','t','e','s']) (by kernel_rfl) ow_si]
 kernel_rfl
theorem oi:Slot "set_iterator" "__iter__" "set_iterator.__iter__" :=
 Slot.of (owner:="set_iterator") (n:="__iter__") (by rw[typeLookup_type,builtinLookup_eq_fast];kernel_rfl) (by decide) (by decide) (by decide) (by first | exact .inl (by decide) | exact .inr (by decide)) (by rw[isSubtype_type];kernel_rfl)
theorem xU:entryFor table "set_iterator.__iter__" = some Builtin.«dict_keyiterator.__iter__»:=entryFor_alias (id':="dict_keyiterator.__iter__") (by kernel_rfl) rfl (by decide) (by kernel_rfl)
theorem yq(a:Value):argsOk "set_iterator.__iter__" ⟨[a],[]⟩:=by
 unfold argsOk;rw[signature?_of (id:="set_iterator.__iter__") (n:=['_','_','r','e','t','i','_','_']) (o:=['r','o','t','a','r','e','t','i','_','t','e','s']) (by kernel_rfl) ow_si]
 kernel_rfl
theorem vf{α:Type}:∀{l:List α}{i:Nat}(h:i<l.length),(l[i]::l.eraseIdx i).Perm l
 |x::l,0,_=>List.Perm.refl _
 |x::l,i+1,h=>by
  have D:=vf (l:=l) (i:=i) (by simpa using h)
  show(l[i]'(by simpa using h)::x::l.eraseIdx i).Perm (x::l)
  exact(List.Perm.swap x _ _).trans (D.cons x)
theorem zG{α:Type}(next:Nat->Nat):∀(l k:Nat)(left:List α)(out:Array α),left.length=l->(pickOrder.go next l k left out).toList.Perm (out.toList++left)
 |0,k,left,out,h=>by
  have:left = []:=Jc.mp h;subst this;unfold pickOrder.go;rw[JB]
 |l+1,k,left,out,h=>by
  have C:next k%left.length<left.length:=Lw _ ∅
  unfold pickOrder.go;rw[Gs C];dsimp only;refine(zG next l (k+1) _ _ (by rw[Ln C];omega)).trans ?_
  rw[K4,Ib];refine List.Perm.append_left _ ?_;exact vf C
theorem rK(next:Nat->Nat)(xs:Array α):(pickOrder next xs).toList.Perm xs.toList:=by
 have:=zG next xs.size 0 xs.toList #[] (by simp)
 simpa[pickOrder] using this
section
variable{prog:Program}{w:World}{A:Around}{E:Value->Shared->Prop}{s:Shared}
theorem yi{a:Source}{Q:Nat->Shared->Prop}(T:n≠0)(h:∀ i d,i<n->Q i { s with drawn:=d }):wpAny (model prog w) A (choose a n) Q E s:=λ_ _ _=>⟨T,h _ _ (Lw _ (Nat.pos_of_ne_zero T))⟩
theorem wO{α:Type}:∀(n:Nat)(xs:List α)(s:Shared)(Q:List α->Shared->Prop),xs.length=n->(∀ ys d,ys.Perm xs->Q ys { s with drawn:=d })->wpAny (model prog w) A (drawOrder n xs) Q E s
 |0,xs,s,Q,h,q=>by
  have:xs = []:=Jc.mp h;subst this;unfold drawOrder;exact L4 (q [] s.drawn .rfl)
 |n+1,[],s,Q,h,q=>by cases h
 |n+1,x::xs,s,Q,h,q=>by
  unfold drawOrder;refine LX (yi (by simp) λi d T=>?_)
  rw[Gs T];dsimp only;refine LX (wO n _ _ _ (by rw[Ln T];simp at h ⊢;omega) λys d2 p=>L4 ?_)
  exact q _ d2 ((p.cons _).trans (vf T))
end
def slA(t:SetTable)(i:Nat):Nat:=if i=0 then 0 else t.place.getD (i-1) 0+1
def ItAt(P:Program)(w:World)(h:Heap)(I a tp:Addr)(ord:List Int)(i:Nat):Prop:=∃ o D N t first Y,h.get? a=some o/\o.ExactSet/\o.data=.set D N t/\t.fits D.size=true/\SetT t/\t.led = !byT w /\
 h.get? I=some { cls:=.type "set_iterator",data:=.fields #[first,rawInt (i:Int),.ref a,rawInt (D.size:Int),rawInt (N:Int)] }/\Mp Y ord/\Y.length=D.size /\
 ((byT w=true/\(∃ z:Nat,first=rawInt (z:Int))/\Y=(pickOrder (w.params.setOrder a N) D).toList.map (·.2)) ∨
  (byT w=false/\(!t.plain&&decide (D.size > 1))=false/\first=rawInt (slA t i:Int)/\Y=D.toList.map (·.2)) ∨
  (byT w=false/\∃(y:List Nat)(d:Obj)(c:Nat),first=.ref tp/\tp≠I/\tp≠a/\h.get? tp=some d/\d.data=.seq (y.map λp:Nat=>rawInt (p:Int)).toArray c/\y.length=D.size/\∀(j p:Nat),y[j]?=some p->∃ x,D[p]?=some x/\Y[j]?=some x.2))
section
variable{prog:Program}{w:World}{A:Around}{E:Value->Shared->Prop}{s:Shared}
theorem se{es:Array (Int×Value)}{l:List Int}(G:Mp (es.toList.map (·.2)) ns)(i:ns.Perm l){ys:List (Int×Value)}(p:ys.Perm es.toList):∃ ms,Mp (ys.map (·.2)) ms/\ms.Perm l:=by
 obtain⟨ms,J,Y⟩:=nu (p.map (·.2)) G;exact⟨ms,J,Y.trans i⟩
theorem B4{l:List Int}(g:SetG prog w s.heap a l)
  (q:∀(I tp:Addr)(h':Heap)(d:_)(ord:List Int),(∀ b o,s.heap.get? b=some o->h'.get? b=some o)->s.heap.objs.size<=I->I<h'.objs.size->s.heap.objs.size<=tp->tp<h'.objs.size->ord.Perm l->ItAt prog w h' I a tp ord 0->Q (.ref I) { s with heap:=h',drawn:=d }) :
  wpAny (model prog w) A (pyIter (.ref a)) Q E s:=by
 obtain⟨o,D,N,t,go,c,gd,n,⟨x,G,r⟩,H,sz,O,C,ld⟩:=id g;have f:s.TypeIs (.ref a) "set":=⟨o,go,c.1⟩;have al:a<s.heap.objs.size:=LL go;have aa:=(d9 G).1;have h:D.size<=LK:=G6 (IT sz (by decide))
 refine wpAny_pyIter_slot f PySem.F.slot_set_iter (Mz PySem.F.slot_set_iter f vh ?_ (PySem.F.args_set_iter_1 _));unfold Builtin.«frozenset.__iter__» Builtin.Frozenset.slot0 slotArgs;simp only[La,Kk,HL,↓reduceIte,bind_assoc,IL,bne_self_eq_false];unfold Builtin.Frozenset.addrOf Builtin.Frozenset.sizeOf;refine LX (L4 ?_);try dsimp only
 refine LX (L4 (LX (LX (wpAny_setEntries_of go gd O (L4 ?_)))));unfold setDrawn setsByText;refine LX (LX (M7 go gd O ?_));dsimp only;refine LX (LX (Na (L4 (L4 ?_))));have n0:∀ I:Addr,s.heap.objs.size<=I->a≠I:=λI hI z=>Nh al (by rw[z];exact Js hI)
 split
 .rename_i ab;have L:(!byT w&&(!t.plain&&decide (D.size > 1)))=true:=ab;have bt:byT w=false:=by
   cases y:byT w with
   |false=>rfl
   |true=>rw[y]at L;cases L
  refine LX (wO D.size (GW D.size) _ _ Hc λk d p=>?_);have v:k.length=D.size:=by rw[p.length_eq,Hc]
  refine LX (wpAny_newTuple ?_ (by rw[Gu,v];exact h))
  unfold setEpoch;have u:(s.heap.push { cls:=.type "tuple",data:=.seq (k.map λi:Nat=>rawInt (i:Int)).toArray }).get? a=some o:=L5 _ go;refine LX (LX (M7 u gd O (L4 ?_)));unfold newFields;refine LX (My ?_ (by size_fits))
  have em:(GW D.size).map (λj=>D.getD j (0,Value.none))=D.toList:=by
   refine List.ext_getElem (by simp) λj J Y=>?_
   have B:j<D.size:=by simpa using Y
   simp[JS,B]
  have pv:(k.map λj=>D.getD j (0,Value.none)).Perm D.toList:=by
   rw[← em];exact p.map _
  obtain⟨T,i1,i2⟩:=se G r pv;refine L4 ⟨_,rfl,"set_iterator",_,⟨_,L6 _ rfl,rfl⟩,cS.lookup,?_⟩;refine q _ s.heap.objs.size _ d T (λb o e=>L5 _ (L5 _ e)) (by rw[Me];exact IG _) (LL (L6 _ rfl)) (Gy _) (by rw[Me,Me];exact Ik (HB _)) i2 ?_
  refine⟨o,D,N,t,_,(k.map λj=>D.getD j (0,Value.none)).map (·.2),L5 _ u,c,gd,O,C,ld,L6 _ rfl,i1,by rw[Gu,Gu,v],.inr (.inr ⟨bt,k,_,_,rfl,?_,HY al,L5 _ (L6 _ rfl),rfl,v,λj M B=>?_⟩)⟩
  .rw[Me];exact G0 (HB _)
  .have m:M<D.size:=Hk.mp (p.mem_iff.mp (Gv B))
   refine⟨D[M],HS m,?_⟩;rw[GC,GC,B];show some (D.getD M (0,Value.none)).2=_;simp[JS,m]
 .rename_i ab;have L:¬ (!byT w&&(!t.plain&&decide (D.size > 1)))=true:=ab;refine LX (L4 ?_);unfold setEpoch;refine LX (LX (M7 go gd O (L4 ?_)));unfold newFields;refine LX (My ?_ (by size_fits))
  refine L4 ⟨_,rfl,"set_iterator",_,⟨_,L6 _ rfl,rfl⟩,cS.lookup,?_⟩
  cases bt:byT w with
  |true =>
   obtain⟨T,i1,i2⟩:=se G r (rK (w.params.setOrder a N) D);refine q _ s.heap.objs.size _ s.drawn T (λb o e=>L5 _ e) (Gy _) (by rw[Me];exact HB _) (Gy _) (by rw[Me];exact HB _) i2 ?_
   exact⟨o,D,N,t,_,_,L5 _ go,c,gd,O,C,ld,L6 _ rfl,i1,by rw[Gu,(rK _ _).length_eq,Hd],.inl ⟨bt,⟨0,rfl⟩,rfl⟩⟩
  |false =>
   rw[bt]at L;have c2:(!t.plain&&decide (D.size > 1))=false:=by
    cases y:(!t.plain&&decide (D.size > 1)) with
    |false=>rfl
    |true=>exact Nh (by rw[y];rfl) L
   refine q _ s.heap.objs.size _ s.drawn x (λb o e=>L5 _ e) (Gy _) (by rw[Me];exact HB _) (Gy _) (by rw[Me];exact HB _) r ?_
   exact⟨o,D,N,t,_,_,L5 _ go,c,gd,O,C,ld,L6 _ rfl,G,by rw[Gu,Hd],.inr (.inl ⟨bt,c2,rfl,rfl⟩)⟩
theorem sk{t:SetTable}(h:t.fits n=true):t.place.size=n:=by
 unfold SetTable.fits at h;rw[JP]at h;exact eq_of_beq h.1
theorem sZ{t:SetTable}(C:SetT t)(hi:i<=t.place.size):M0 t.place (slA t i)=i:=by
 obtain⟨b1,b2,b3⟩:=wY C.1 (slA t i);have up:∀ a b,a<b->b<t.place.size->t.place.getD a (slA t i)<t.place.getD b (slA t i):=λa b m M=>by
  have E:a<t.place.size:=IT m M;have:=IA.mp C.1 a b (by simpa using E) (by simpa using M) m
  simpa[JS,E,M] using this
 have p:∀ k,i=k+1->slA t i=t.place.getD k (slA t i)+1:=λk e=>by
  have G:k<t.place.size:=by omega
  have O:slA t i=t.place.getD k 0+1:=by
   unfold slA;rw[Ng ∅,e,KO]
  have f:t.place.getD k 0=t.place.getD k (slA t i):=by simp[JS,G]
  rw[← f];exact O
 generalize M:M0 t.place (slA t i)=b at b1 b2 b3;rcases Kf b i with z | z | z
 .obtain⟨k,rfl⟩:∃ k,i=k+1:=⟨i-1,∅⟩
  have J:=b2 b (Gy _) ∅
  have Y:=p k rfl;by_cases e:b=k
  .subst e;omega
  .have:=up b k ∅ ∅
   omega
 .exact z
 .have J:=b1 i z
  cases i with
  |zero=>have e:slA t 0=0:=rfl;rw[e]at J;omega
  |succ k =>
   have Y:=p k rfl;have:=up k (k+1) ∅ ∅
   omega
theorem vV{J h2:Heap}(x:LQ I h J)(y:LQ I J h2):LQ I h h2:=⟨y.1.trans x.1,λb M=>(y.2 b M).trans (x.2 b M)⟩
theorem FQ{n:Int}{Q:Option Value->Shared->Prop}(h:ItAt prog w s.heap I a tp ord i)(T:ord[i]?=some n)(aI:a≠I)
  (q:∀(t:Tok)(h':Heap),ItAt prog w h' I a tp ord (i+1)->LQ I s.heap h'->Q (some (.int n t)) { s with heap:=h' }):wpAny (model prog w) A (pyNext (.ref I)) Q E s:=by
 obtain⟨o,es,N,t,first,M,go,m,gd,O,C,ld,H,G,D,md⟩:=h;have f:s.TypeIs (.ref I) "set_iterator":=⟨_,H,rfl⟩;unfold pyNext;refine LX (wpAny_attempt (MB (name:=Str.ofString "__next__") f cS (Mz cS f oF ?_ (oJ _))));unfold Builtin.«set_iterator.__next__» slotArgs;simp only[La,Kk,HL,↓reduceIte,bind_assoc,IL,bne_self_eq_false];refine LX (L4 ?_);try dsimp only
 refine LX (wpAny_fieldsOf H rfl ?_);dsimp only[rawInt];refine LX (wpAny_setEntries_of go gd O ?_);rw[Ng (by simp)]
 have l:i<ord.length:=(Gn.mp T).1;have ol:=(d9 G).1;have ab:i<M.length:=by omega
 obtain⟨tk,p⟩:∃ tk,M[i]?=some (.int n tk):=by
  obtain⟨tk,e⟩:=(d9 G).2 i _ (Gs ab);refine⟨tk,?_⟩;rw[Gs ab,e,GP,T];rfl
 have ap:=sk O;have ci:((i:Int)+1)=((i+1:Nat):Int):=by omega
 rcases md with⟨bt,⟨z,rfl⟩,rfl⟩ | ⟨bt,dr,rfl,rfl⟩ | ⟨bt,y,ot,c,rfl,tI,d,gt,ac,an,al⟩
 .dsimp only[rawInt];unfold setNext setsByText setWalk setsByText;refine LX (LX (M7 go gd O ?_));dsimp only;refine LX (LX (Na (L4 ?_)));have r:w.params.followText "set-order" = true:=bt;rw[show(Setting.params ⟨(model prog w).prog,(model prog w).w.params⟩).followText "set-order" = true from r,Nf rfl,Ng (by simp)]
  refine LX (LX (M7 go gd O ?_));dsimp only;refine LX (LX (Na (L4 ?_)));rw[show(Setting.params ⟨(model prog w).prog,(model prog w).w.params⟩).followText "set-order" = true from r,Nf rfl];refine LX (Na (L4 (L4 ?_)));have j:(pickOrder (w.params.setOrder a N) es)[i]?.map (·.2)=some (.int n tk):=by rw[← Hv,← GC];exact p
  obtain⟨x,L,k⟩:=G5.mp j;rw[GA,GA,show(pickOrder ((Setting.params ⟨(model prog w).prog,(model prog w).w.params⟩).setOrder a N) es)[i]?=some x from L];dsimp only[Option.map];refine LX (MF H (by simp) λJ B g=>?_)
  refine LX (MF (s:={ s with heap:=J }) B (by simp) λY v b=>?_)
  have u:=vV g b;rw[k];refine L4 ⟨_,rfl,L4 (q tk Y ?_ u)⟩;refine⟨o,es,N,t,_,_,(u.2 a aI).trans go,m,gd,O,C,ld,v.trans ?_,G,D,.inl ⟨bt,⟨z,rfl⟩,rfl⟩⟩;rw[ci];rfl
 .dsimp only[rawInt];unfold setNext setsByText;refine LX (LX (M7 go gd O ?_));dsimp only;refine LX (LX (Na (L4 ?_)));have r:w.params.followText "set-order" = false:=bt;rw[show(Setting.params ⟨(model prog w).prog,(model prog w).w.params⟩).followText "set-order" = false from r,Ng (by simp)]
  refine Mt (λc=>Nh (show(!t.plain&&decide (es.size > 1))=true from c) (by rw[dr];simp)) λ_=>?_
  have aa:t.led=true:=by rw[ld,bt];rfl
  refine LX ?_;show wpAny _ _ (if(!t.led&&!es.isEmpty)=true then _ else _) _ _ _;rw[aa];refine L4 (L4 ?_);rw[GA,sZ C ∅]
  have ie:i<es.size:=by omega
  have ip:i<t.place.size:=by omega
  have k:es[i].2=.int n tk:=by
   rw[GC,Hv,HS ie]at p;exact G3 p
  rw[HS ie,HS ip];dsimp only;refine LX (MF H (by simp) λJ B g=>?_)
  refine LX (MF (s:={ s with heap:=J }) B (by simp) λY v b=>?_)
  have u:=vV g b;rw[k];refine L4 ⟨_,rfl,L4 (q tk Y ?_ u)⟩;refine⟨o,es,N,t,_,_,(u.2 a aI).trans go,m,gd,O,C,ld,v.trans ?_,G,D,.inr (.inl ⟨bt,dr,rfl,rfl⟩)⟩;have es:slA t (i+1)=t.place[i]+1:=by
   unfold slA;rw[Ng ∅,KO]
   simp[JS,ip]
  rw[ci,es];rfl
 .dsimp only[rawInt];refine LX (MR gt ac ?_);dsimp only;have ip:i<y.length:=by omega
  obtain⟨x,L,am⟩:=al i _ (Gs ip);have k:x.2=.int n tk:=G3 (am.symm.trans p);rw[GA,List.getElem?_toArray,GC,Gs ip];dsimp only[Option.map,rawInt];unfold setNextDrawn;refine LX (LX (M7 go gd O ?_));dsimp only;rw[GA,GA,Ng (by simp),L]
  refine L4 ?_;refine LX (MF H (by simp) λJ B g=>?_)
  rw[k];refine L4 ⟨_,rfl,L4 (q tk J ?_ g)⟩;refine⟨o,es,N,t,_,M,(g.2 a aI).trans go,m,gd,O,C,ld,B.trans ?_,G,D,.inr (.inr ⟨bt,y,ot,c,rfl,tI,d,(g.2 tp tI).trans gt,ac,an,al⟩)⟩;rw[ci];rfl
theorem tL{k:Nat}{Q:Option Value->Shared->Prop}{vs:Array Value}(j:A.handled=none) (H:s.heap.get? I=some { cls:=.type "set_iterator",data:=.fields vs }) (G:k<vs.size)
  (q:∀(h':Heap),Heap.ExtBut I s.heap h'->Q none { s with heap:=h' }) :
  wpAny (model prog w) A.in1 (setField (.ref I) k .none >>= λ_=>newExc (.type "StopIteration") [] >>= λe=>raiseNew e) (λ(f:Fin) s'=>∃ v,f=Fin.done (Flow.ret v)/\wpAny (model prog w) A (pure (some v)) Q E s')
  (λe s'=>wpAny (model prog w) A (do if ← isInstance e (.type "StopIteration") then pure none else throw e) Q E s') s:=by
 refine LX (wpAny_setField H rfl G ?_);refine LX ?_;simp only[newExc,newTuple];refine LX (My ?_ (by size_fits))
 refine LX (m:=firstArgMember _ _) (wpAny_of_eq (a:=Value.none) (by first | rfl | (simp only[firstArgMember];rfl)) ?_)
 refine My ?_ (by size_fits)
 simp only[raiseNew];refine LX (wpAny_handled ?_);rw[show A.in1.handled=none from j];refine LX (L4 (wpAny_throw ?_));refine LX (Mu (T:="StopIteration") (b:=true) ⟨_,L6 _ rfl,rfl⟩ isSubtype_stop ?_);exact L4 (q _ (((MD ..).extBut.push _).push _))
theorem FR{Q:Option Value->Shared->Prop}(k:A.handled=none)(h:ItAt prog w s.heap I a tp ord i)(T:i=ord.length)(p:a≠I)
  (q:∀(h':Heap),Heap.ExtBut I s.heap h'->Q none { s with heap:=h' }):wpAny (model prog w) A (pyNext (.ref I)) Q E s:=by
 obtain⟨o,es,N,t,first,Y,go,m,gd,O,C,ld,H,G,D,n⟩:=h;have f:s.TypeIs (.ref I) "set_iterator":=⟨_,H,rfl⟩;unfold pyNext;refine LX (wpAny_attempt (MB (name:=Str.ofString "__next__") f cS (Mz cS f oF ?_ (oJ _))));unfold Builtin.«set_iterator.__next__» slotArgs;simp only[La,Kk,HL,↓reduceIte,bind_assoc,IL,bne_self_eq_false];refine LX (L4 ?_);try dsimp only
 refine LX (wpAny_fieldsOf H rfl ?_);dsimp only[rawInt];refine LX (wpAny_setEntries_of go gd O ?_);rw[Ng (by simp)]
 have v:=(d9 G).1;have l:i=Y.length:=by omega
 have ac:=sk O;rcases n with⟨bt,⟨z,rfl⟩,rfl⟩ | ⟨bt,dr,rfl,rfl⟩ | ⟨bt,y,ot,c,rfl,tI,d,gt,u,ab,aa⟩
 .dsimp only[rawInt];unfold setNext setsByText setWalk setsByText;refine LX (LX (M7 go gd O ?_));dsimp only;refine LX (LX (Na (L4 ?_)));have r:w.params.followText "set-order" = true:=bt;rw[show(Setting.params ⟨(model prog w).prog,(model prog w).w.params⟩).followText "set-order" = true from r,Nf rfl,Ng (by simp)]
  refine LX (LX (M7 go gd O ?_));dsimp only;refine LX (LX (Na (L4 ?_)));rw[show(Setting.params ⟨(model prog w).prog,(model prog w).w.params⟩).followText "set-order" = true from r,Nf rfl];refine LX (Na (L4 (L4 ?_)));have L:(pickOrder (w.params.setOrder a N) es)[i]?=none:=by
   rw[JF];rw[l,Gu,Hd];exact Gy _
  rw[GA,GA,show(pickOrder ((Setting.params ⟨(model prog w).prog,(model prog w).w.params⟩).setOrder a N) es)[i]?=none from L];exact tL k H (by simp) q
 .dsimp only[rawInt];unfold setNext setsByText;refine LX (LX (M7 go gd O ?_));dsimp only;refine LX (LX (Na (L4 ?_)));have r:w.params.followText "set-order" = false:=bt;rw[show(Setting.params ⟨(model prog w).prog,(model prog w).w.params⟩).followText "set-order" = false from r,Ng (by simp)]
  refine Mt (λc=>Nh (show(!t.plain&&decide (es.size > 1))=true from c) (by rw[dr];simp)) λ_=>?_
  have j:t.led=true:=by rw[ld,bt];rfl
  refine LX ?_;show wpAny _ _ (if(!t.led&&!es.isEmpty)=true then _ else _) _ _ _;rw[j];refine L4 (L4 ?_);have ie:i=es.size:=by omega
  rw[GA,sZ C ∅]
  rw[JF (by omega:es.size<=i),JF (by omega:t.place.size<=i)]
  exact tL k H (by simp) q
 .dsimp only[rawInt];refine LX (MR gt u ?_);dsimp only;have ip:y.length<=i:=by omega
  rw[GA,List.getElem?_toArray,GC,Io ip];dsimp only[Option.map];refine LX (MF H (by simp) λJ B g=>?_)
  exact tL (s:={ s with heap:=J }) k B (by simp) λh' x=>q h' λb o M e=>x b o M ((g.2 b M).trans e)
theorem Az(x:ItAt prog w h I a tp ord i)(k:∀ b∈[I,a,tp],∀ o,h.get? b=some o->h'.get? b=some o):ItAt prog w h' I a tp ord i:=by
 obtain⟨o,D,N,t,first,Y,go,m,gd,O,C,ld,H,G,f,n⟩:=x;refine⟨o,D,N,t,first,Y,k a (by simp) _ go,m,gd,O,C,ld,k I (by simp) _ H,G,f,?_⟩
 rcases n with z | z | ⟨bt,y,d,c,e,j,T,g,r⟩
 .exact .inl z
 .exact .inr (.inl z)
 .exact .inr (.inr ⟨bt,y,d,c,e,j,T,k tp (by simp) _ g,r⟩)
theorem C5(k:A.handled=none)(I a tp:Addr)(p:a≠I)(ord:List Int):Walks prog w A I [I,a,tp] [I] ord.length (λi v=>∃ t n,ord[i]?=some n/\v=.int n t) (λi h=>ItAt prog w h I a tp ord i) where
 sub:=λb M=>by simp at M;simp[M]
 frame:=λ_ _ _ st G=>Az st G
 item:=λi s Q E T st d=>by
  refine FQ st (Gs T) p λt j q u=>?_;exact d _ j s.toks ⟨t,_,Gs T,rfl⟩ q λb o M e=>u.extBut b o (λh=>M (by simp[h])) e
 done:=λs Q E st d=>FR k st rfl p λj B=>d j s.toks λb o M e=>B b o (λh=>M (by simp[h])) e
 self:=λ_ s Q _ st h=>by
  obtain⟨o,D,N,t,first,Y,go,m,gd,O,C,ld,c,H,f,g⟩:=st;have l:s.TypeIs (.ref I) "set_iterator":=⟨_,c,rfl⟩;refine wpAny_pyIter_slot l oi (Mz oi l xU ?_ (yq _));show wpAny _ _ (ret (.ref I)) _ _ s;exact L4 ⟨_,rfl,"set_iterator",_,l,cS.lookup,h⟩
theorem C7{r:Addr}{Q:Bool->Shared->Prop} (l:s.TypeIs (.ref r) "set") (h:Q false s):wpAny (model prog w) A (Ms (.ref r)) Q E s:=by
 unfold Ms;refine LX (Mr l PySem.F.slot_set_len.lookup ?_);generalize a:("set.__len__" : String)=c;wp_delta;rw[show splitId c=some ("set","__len__") from by subst a;decide]
 subst a;refine LX (Mu (T:="set") (b:=true) l (by rw[isSubtype_type];kernel_rfl) ?_)
 refine Mt (λm=>Nh m (by decide)) (λ_=>?_)
 refine Mt (λ_=>?_) (λm=>Nh (by decide) m)
 refine LX (wpAny_typeOf l ?_);exact L4 h
theorem SetG.len{l:List Int}(g:SetG prog w h a l):l.length<scanBound:=by
 obtain⟨o,D,N,t,go,m,gd,n,⟨x,G,i⟩,H,sz,O,C,ld⟩:=g;have:=(d9 G).1;rw[Gu,Hd,i.length_eq]at this;omega
theorem SetG.typ{l:List Int}(g:SetG prog w s.heap a l):s.TypeIs (.ref a) "set":=by
 obtain⟨o,D,N,t,go,m,r⟩:=g;exact⟨o,go,m.1⟩
theorem SetG.lt{l:List Int}(g:SetG prog w h a l):a<h.objs.size:=by
 obtain⟨o,D,N,t,go,m,r⟩:=g;exact LL go
theorem vC{l:List Int}{Q:List Value->Shared->Prop}(k:A.handled=none)(g:SetG prog w s.heap a l)
  (h:∀(h':Heap)(tk:Nat)(d:Drawn)(p:Array Value)(ord:List Int),(∀ b o,s.heap.get? b=some o->h'.get? b=some o)->s.heap.objs.size<h'.objs.size->ord.Perm l->ItemsOf (λi v=>∃ t n,ord[i]?=some n/\v=.int n t) p ord.length->Q p.toList { s with heap:=h',toks:=tk,drawn:=d }):wpAny (model prog w) A (collect (.ref a)) Q E s:=by
 unfold collect;refine LX (wpAny_runValue (MP entry_proto_collect' ?_));show wpAny _ _ (do again (.builtin "list.__iadd__" ⟨[← newList [],.ref a],[]⟩)) _ _ s
 refine LX (MN (L4 ⟨Code.quiet_builtin _ (by decide),MP entry_list_iadd' ?_⟩))
 rw[MQ PySem.F.plain_list_iadd _];show wpAny _ A.in1 (Nb (.ref s.heap.objs.size) (.ref a) (.ref s.heap.objs.size)) _ _ { s with heap:=s.heap.push (MI "list" #[] 0) };have B:SetG prog w (s.heap.push (MI "list" #[] 0)) a l:=g.keeps λo e=>L5 _ e;have aS:s.heap.objs.size≠a:=HY g.lt;have H:(s.heap.push (MI "list" #[] 0)).get? s.heap.objs.size=some { cls:=.type "list",data:=.seq #[] 0 }:=L6 _ rfl;unfold Nb;refine LX (wpAny_typeOf (T:="set") B.typ ?_);have J:Nc (.ref s.heap.objs.size) (.ref a)=false:=by simp[Nc,aS]
 simp only[J,show(Value.type "set" == Value.type "list")=false by decide,show(Value.type "set" == Value.type "tuple")=false by decide,LH,HL,if_false]
 refine LX (B4 B λI tp Y d ord k2 lI sI lt st pm it=>?_);have j:(s.heap.push (MI "list" #[] 0)).objs.size=s.heap.objs.size+1:=Me ..;rw[j]at lI lt;have SI:s.heap.objs.size≠I:=G0 lI;have ST:s.heap.objs.size≠tp:=G0 lt;have aI:a≠I:=G0 (IT g.lt lI);have aL:s.heap.objs.size∉[I,a,tp]:=by simp only[GG,Jt,or_false,not_or];exact⟨SI,aS,ST⟩
 have y:ord.length<=LK:=by
  rw[pm.length_eq];exact G6 (IT g.len (by decide))
 have aa:∀(u:Heap)(an tk:Nat),ItAt prog w u I a tp ord 0->(∀ b o,b≠s.heap.objs.size->Y.get? b=some o->u.get? b=some o) ->
   u.get? s.heap.objs.size=some { cls:=.type "list",data:=.seq #[] an }->Md (model prog w) A (.builtin "list.extend.loop" ⟨[.ref s.heap.objs.size,.ref I,.ref s.heap.objs.size],[]⟩) (λr c=>∃ h' tk d m L,r=.ok (.ret (.ref s.heap.objs.size))/\c={ s with heap:=h',toks:=tk,drawn:=d }/\(∀ b o,s.heap.get? b=some o->h'.get? b=some o)/\h'.get? s.heap.objs.size=some { cls:=.type "list",dict:=none,data:=.seq m L,slots:=#[] }/\ItemsOf (λi v=>∃ t n,ord[i]?=some n/\v=.int n t) m ord.length) { s with heap:=u,toks:=tk,drawn:=d }:=by
  intro u an tk ab G ac;refine codeAny_extend_loopS (C5 (A:=A.in1) k I a tp aI ord).toS y _ aL _ ord.length 0 _ #[] an rfl (Hq _) ab ac (ItemsOf.nil _) λc m L C am x=>?_;rw[Moved.eq_with C];refine⟨c.heap,c.toks,d,m,L,rfl,rfl,λb o e=>C.heap b o (λap=>?_) (G b o (G0 (LL e)) (k2 b o (L5 _ e))),am,x⟩;rcases GG.mp ap with e' | ap
  .exact Nh (LL e) (by rw[e'];exact HF _)
  .exact Nh (LL e) (by rw[GJ.mp ap];exact Js (G6 lI))
 have D:∀(r:Result)(c:Shared),(∃ h' tk d m L,r=.ok (.ret (.ref s.heap.objs.size))/\c={ s with heap:=h',toks:=tk,drawn:=d }/\(∀ b o,s.heap.get? b=some o->h'.get? b=some o)/\h'.get? s.heap.objs.size=some { cls:=.type "list",dict:=none,data:=.seq m L,slots:=#[] }/\ItemsOf (λi v=>∃ t n,ord[i]?=some n/\v=.int n t) m ord.length)->∃ v,r=.ok (.ret v)/\v=.ref s.heap.objs.size/\wpAny (model prog w) A (do
   let o ← load s.heap.objs.size
   match o.data with
   |.seq N _=>pure N.toList
   |_=>unsupported "internal:collect") Q E c:=λr c ⟨h',tk,d,m,L,O,f,G,H,x⟩=>⟨_,O,rfl,by
  subst f;refine LX (wpAny_load H ?_)
  exact L4 (h h' tk d m ord G (LL H) pm x)⟩
 have ac:=k2 _ _ H;have q:SetG prog w Y a l:=B.keeps λo e=>k2 _ _ e;refine LX (LY (C7 (s:={ s with heap:=Y,drawn:=d }) q.typ ?_));refine Mt (λ_=>?_) (λ_=>L4 ⟨MX Iz _,Mh (aa _ 0 _ it (λb o _ e=>e) ac) λr aR q'=>?_⟩);rotate_left
 .obtain⟨v,O,f,z⟩:=D _ _ q'
  cases O
  cases f
  exact z
 refine LX (wpAny_rule ?_);refine LX ?_;show wpAny _ _ (MU s.heap.objs.size (·.push .none) >>= λ_=>MU s.heap.objs.size (·.pop)) _ _ _;refine LX (MV ac rfl ?_);have al:=Mm (Ml (·.push Value.none)) ac rfl;refine MV (hz:=by seq_fits) al rfl ?_
 have aO:=Mm (Ml (·.pop)) al rfl;have oth:∀ b o,b≠s.heap.objs.size->Y.get? b=some o->((Y.update s.heap.objs.size (Ml (·.push Value.none))).update s.heap.objs.size (Ml (·.pop))).get? b=some o:=λb o M e=>(Mn _ _ (Ne.symm M)).trans ((Mn _ _ (Ne.symm M)).trans e);refine L4 ⟨MX Iz _,Mh (aa _ _ _ (Az it λb M o e=>oth b o (λz=>aL (z▸M)) e) oth aO) λr aR q'=>?_⟩;obtain⟨v,O,f,z⟩:=D _ _ q'
 cases O
 cases f
 exact z
end
section
variable{X:Cx}{pins:List (Addr×Obj)}{σ:List (Option V)}{H:Hp}{s:Shared}
theorem Inv.drew{d:Drawn}(I:Inv X pins σ H s):Inv X pins σ H { s with drawn:=d }:=⟨I.ok,I.os,I.bare,I.base,I.loc,I.cell,I.free,I.freeC,I.pin,I.hok,I.len⟩
def setO(P:Program)(w:World)(a:Addr)(l:List Int):HO:=.ext λh=>SetG P w h a l
inductive rSetI(P:Program)(w:World)(K:Gw)(xs:List V)(H:L2.Hp)(Q:L2.VK):Prop
 |mk (p:Addr)(ns:List Int) (h0_:xs = [.ref p])(h1_:SqL K H p (ns.map V.int))(h2_:ns.length+1<4096)(h3_:∀ a:Addr,H a=none->Q (.ref a) (upd H a (setO P w a (ns.foldl addN []))))
theorem BA(E:X.calm=true)(c:X.prog=P)(e:X.w=w)(i:X.K=K):gy X (.type "set") (rSetI P w K):=by
 subst c e i;intro pins s σ H N z Q I r h;obtain⟨p,x,rfl,n,L,q⟩:=h;obtain⟨u,rfl,f⟩:=i3 r
 cases f
 obtain⟨m,rv,y,a⟩:=I.list n;have T:=jV rv;have C:=rv.length;rw[Gu]at C;refine tR (I.ok.hd E) y.isList T (by rw[GQ,← C];exact L) λj l g k=>?_
 refine⟨.ref s.heap.objs.size,_,I.laid (t':=l) k (Gy _) (show bp X.prog X.w _ _ _ (setO X.prog X.w s.heap.objs.size (x.foldl addN [])) from⟨g,?_,λJ Y B d=>B.keeps d⟩),rfl,q _ (I.hok.fresh (Gy _))⟩;obtain⟨o,D,b,t,B,r⟩:=g;exact⟨o,B⟩
theorem wZ(ns:List Int):∀(l:List Int)(x:Int),x∈ns.foldl addN l↔x∈l∨x∈ns:=by
 induction ns with
 |nil=>intro l x;simp
 |cons n ns D =>
  intro l x;rw[Kv,D,GG];unfold addN;split
  .rename_i c;exact⟨λz=>z.elim .inl λy=>.inr (.inr y),λz=>z.elim .inl λy=>y.elim (λe=>.inl (e▸c)) .inr⟩
  .rw[GU,GJ];exact⟨λz=>z.elim (λy=>y.elim .inl λe=>.inr (.inl e)) λy=>.inr (.inr y),λz=>z.elim (λy=>.inl (.inl y)) λy=>y.elim (λe=>.inl (.inr e)) .inr⟩
end
inductive rSortT(P:Program)(w:World)(xs:List V)(H:L2.Hp)(Q:L2.VK):Prop
 |mk (a:Addr)(ms:List Int) (h0_:xs = [.ref a])(h1_:H a=some (setO P w a ms))(h2_:ms.length<64)(h3_:∀(l:Addr)(out:List Int),H l=none->(∀ x,x∈out↔x∈ms)->out.Pairwise (· < ·)->Q (.ref l) (upd H l (.lst (out.map V.int))))
theorem yj(E:X.calm=true)(eP:X.prog=P)(eW:X.w=w):gy X (.builtin "sorted") (rSortT P w):=by
 subst eP eW;intro B s O H N z Q I r h;obtain⟨a,ms,rfl,l,am,q⟩:=h;obtain⟨u,rfl,ru⟩:=i3 r
 cases ru
 obtain⟨g,_,_⟩:=(show bp X.prog X.w H s.heap a (setO X.prog X.w a ms) from I.hok a _ l);have g:SetG X.prog X.w s.heap a ms:=g;have nd:ms.Nodup:=let ⟨_,_,_,_,_,_,_,_,_,nd,_⟩:=g;nd;refine Calls.call_function_entry kind_sorted plain_sorted entry_sorted (args_sorted1 _) ?_;unfold Builtin.«sorted»;refine LX (m:=checkCount "sorted" 1 1 _) (L4 ?_);refine LX (vC (I.ok.hd E) g λL tk d i aO G p pm aa=>?_);have T:Mp i.toList aO:=by
  have all:∀(M:List Value)(ns:List Int),M.length=ns.length->(∀(j:Nat) v,M[j]?=some v->∃ t n,ns[j]?=some n/\v=.int n t)->Mp M ns:=λM=>by
   induction M with
   |nil=>intro ns e _;rw[Je e.symm];exact .nil
   |cons v M D =>
    intro ns e k
    cases ns with
    |nil=>cases e
    |cons n ns =>
     obtain⟨t,m,A,f⟩:=k 0 v rfl
     cases A
     rw[f];exact .cons _ _ (D ns (K6 e) λj v e=>k (j+1) v e)
  exact all _ _ (by rw[Hd];exact aa.1) λj v e=>aa.2 j v (by rw[← Hv];exact e)
 have ab:i.toList.length<=LK:=by
  rw[Hd,aa.1,pm.length_eq];exact G6 (IT g.len (by decide))
 refine LX (MN ?_ ab);have al:(L.push (MI "list" i.toList.toArray 0)).get? L.objs.size=some (MI "list" i.toList.toArray 0):=L6 _ rfl;show wpAny _ _ _ _ _ { s with heap:=L.push (MI "list" i.toList.toArray 0),toks:=tk,drawn:=d };have aI:∀(out:Array Value)(b:Addr)(o:Obj),s.heap.get? b=some o->(sortedHeap (L.push (MI "list" i.toList.toArray 0)) L.objs.size i.toList out).get? b=some o:=λout b o e=>by
  have f:=G b o e;rw[sortedHeap_old (G0 (LL f)) (by rw[Me];exact Ik (LL f))]
  exact L5 _ f
 have ac:s.heap.objs.size<=L.objs.size:=G6 p;refine LX (LY (Mz slot_list_sort ⟨_,al,rfl⟩ entry_list_sort (list_sort_tree al T (by rw[Hd,aa.1,pm.length_eq];exact am) λout ap C a2 a3=>⟨_,rfl,?_⟩) (args_list_sort _)))
 obtain⟨e,c⟩:=sortedHeap_at (out:=out) al;have aL:=a2.trans pm;refine L4 ⟨_,rfl,?_⟩;refine⟨.ref L.objs.size,_,(I.laid (t':=tk) (aI out) ac (show bp X.prog X.w _ _ _ (.lst (ap.map V.int)) from⟨?_,out.toList,e,tK C,?_⟩)).drew,rfl,q _ ap (I.hok.fresh ac) (λx=>aL.mem_iff) ?_⟩
 .rw[Gu,aL.length_eq];exact G6 (IT g.len (by decide))
 .exact c
 .exact(List.Pairwise.and a3 (aL.nodup_iff.mpr nd)).imp λ{x y} ⟨J,Y⟩=>by
   have an:x<=y:=J;omega
end L2
namespace L2.C2
open PySem PySem.Spec PyProof.Rows
section
variable{prog:Program}{w:World}{A:Around}{E:Value->Shared->Prop}{s:Shared}{d:Addr}
theorem tJ{Q:Option Obj->Shared->Prop}(h:Q (s.heap.get? a) s):wpAny (model prog w) A (loadIfAlive a) Q E s:=λb p c=>by
 show Sem.wp _ _ (.loadIfAlive a _) _ _ _ _;rw[Sem.wp_loadIfAlive];exact(L4 (M:=model prog w) (A:=A) (E:=E) h) b p c
def ItAt(h:Heap)(it d:Addr)(i n ep:Nat):Prop:=∃ r y g f,h.get? it=some { cls:=.type "dict_itemiterator",dict:=none,data:=.fields #[r,y,.ref d,.int i 0,.int n 0,.int ep 0,g,f],slots:=#[] }/\((r=.none/\y=.bool false)∨∃(a:Addr)(o:Obj),r=rawInt a/\h.get? a=some o/\a≠it)
theorem ItAt.keep(x:ItAt h it d i n ep)(j:∀ o,h.get? it=some o->h'.get? it=some o)(k:∀ b o,b≠it->h.get? b=some o->∃ B,h'.get? b=some B):ItAt h' it d i n ep:=by
 obtain⟨r,y,g,f,e,c⟩:=x;refine⟨r,y,g,f,j _ e,?_⟩;rcases c with c | ⟨a,o,c1,c2,c3⟩
 .exact .inl c
 .obtain⟨B,q⟩:=k a o c3 c2;exact .inr ⟨a,B,c1,q,c3⟩
theorem Ay{es:Array DictEntry}{Q:Option Value->Shared->Prop}(j:ItAt s.heap it d i es.size ep)(C:Ent s.heap d es ep)(k:A.handled=none)
  (hI:∀ e,es[i]?=some e->∀ h',ItAt h' it d (i+1) es.size ep->h'.get? s.heap.objs.size=some { cls:=.type "tuple",data:=.seq #[e.key,e.val] }->(∀ b o,b≠it->s.heap.get? b=some o->h'.get? b=some o)->Q (some (.ref s.heap.objs.size)) { s with heap:=h' })
  (hE:es[i]?=none->∀ h',Heap.ExtBut it s.heap h'->Q none { s with heap:=h' }):wpAny (model prog w) A (pyNext (.ref it)) Q E s:=by
 obtain⟨h,y,ok,ov,j,c⟩:=j;rcases c with⟨rfl,rfl⟩ | ⟨a,oa,rfl,ab,aa⟩
 .refine A9 (ok:=ok) (ov:=ov) j C k (λe r h' L Y J=>hI e r h' ⟨_,_,_,_,L,.inr ⟨s.heap.objs.size,_,rfl,Y,?_⟩⟩ Y J) hE;exact HY (LL j)
 obtain⟨o,O,f,G⟩:=C;have l:s.TypeIs (.ref it) "dict_itemiterator":=⟨_,j,rfl⟩;have own:MA "dict_itemiterator" = true:=by decide
 unfold pyNext;refine LX (wpAny_attempt (MB (name:=Str.ofString "__next__") l F.slot_dict_itemiterator_next (Mz F.slot_dict_itemiterator_next l F.entry_dict_itemiterator_next ?_ (F.args_dict_itemiterator_next_1 _))));refine LX (L4 (LX (LX (LX (MC l (L4 ?_))))));refine LX (wpAny_fieldsOf j rfl ?_);simp only[own,if_true];show wpAny _ _ (if(Value.ref d == Value.none)=true then _ else _) _ _ _;rw[Ng (show ¬ ((Value.ref d == Value.none)=true) from G4)];refine LX (L4 (LX (wpAny_dictEntries O G ?_)));rw[Ng (by simp)]
 refine LX (L4 (LX (wpAny_dictEpoch O G ?_)));rw[Ng (by simp)]
 refine L4 ?_;have n0:¬ ((i:Int)<0):=by omega
 simp only[n0,if_false,GA]
 cases r:es[i]? with
 |none =>
  refine LX (LX (MC l (L4 ?_)));show wpAny _ _ (setField (.ref it) 2 .none >>= _) _ _ s;refine LX (wpAny_setField j rfl (by simp) ?_)
  show wpAny _ _ (newExc (.type "StopIteration") [] >>= _) _ _ _;refine LX ?_;simp only[newExc,newTuple];refine LX (My (LX (m:=firstArgMember _ _) (wpAny_of_eq (a:=Value.none) (by first | rfl | (simp only[firstArgMember];rfl)) (My ?_ (by size_fits)))) (by size_fits))
  simp only[raiseNew];refine LX (wpAny_handled ?_);rw[show A.in1.handled=none from k];refine LX (L4 (wpAny_throw ?_));refine LX (Mu (T:="StopIteration") (b:=true) ⟨_,L6 _ rfl,rfl⟩ isSubtype_stop (L4 ?_));exact hE r _ (((MD ..).extBut.push _).push _)
 |some e =>
  refine LX (LX (MC l (L4 ?_)));refine LX (ME l ?_);show wpAny _ _ (setField (.ref it) 3 (rawInt ((i:Int)+1)) >>= _) _ _ s;refine LX (MF j (by simp) λB L I=>?_)
  have c1:((i+1:Nat):Int)=(i:Int)+1:=by omega
  have n:B.get? it=some { cls:=.type "dict_itemiterator",dict:=none,data:=.fields #[rawInt a,y,.ref d,.int ((i+1:Nat):Int) 0,.int es.size 0,.int ep 0,ok,ov],slots:=#[] }:=by
   rw[c1];simpa[rawInt] using L
  have lt:it<s.heap.objs.size:=LL j;have u:B.objs.size=s.heap.objs.size:=I.1;have p:Shared.TypeIs { s with heap:=B } (.ref it) "dict_itemiterator":=⟨_,n,rfl⟩;refine LX (LY (LX (ME p (LX (ME p ?_)))));show wpAny _ _ (MG (.ref it) 6 e.key e.val) _ _ { s with heap:=B };unfold MG Builtin.Dict_items.ownedTupleIsFree;refine LX (wpAny_newTuple ?_);have Y:(B.push { cls:=.type "tuple",data:=.seq #[e.key,e.val] }).get? it=some { cls:=.type "dict_itemiterator",dict:=none,data:=.fields #[rawInt a,y,.ref d,.int ((i+1:Nat):Int) 0,.int es.size 0,.int ep 0,ok,ov],slots:=#[] }:=L5 _ n;have z:(B.push { cls:=.type "tuple",data:=.seq #[e.key,e.val] }).get? s.heap.objs.size=some { cls:=.type "tuple",data:=.seq #[e.key,e.val] }:=by rw[← u];exact L6 _ rfl
  have N:∀ b o,b≠it->s.heap.get? b=some o->(B.push { cls:=.type "tuple",data:=.seq #[e.key,e.val] }).get? b=some o:=λb o M q=>L5 _ (I.extBut b o M q);rw[u];generalize B.push { cls:=.type "tuple",data:=.seq #[e.key,e.val] }=v at Y z N;show wpAny _ _ (_ >>= _) _ _ { s with heap:=v };have g:v.get? ((a:Int).toNat)=some oa:=by rw[GA];exact N a oa aa ab
  refine LX (LX (wpAny_field Y rfl (x:=rawInt a) rfl ?_));show wpAny _ _ (loadIfAlive ((a:Int).toNat) >>= _) _ _ { s with heap:=v };refine LX (tJ ?_);show wpAny _ _ (if((v.get? ((a:Int).toNat)).isNone)=true then _ else _) _ _ _;rw[g,Ng (show ¬ (some oa).isNone=true from G4)];have last:∀ H,H.get? it=some { cls:=.type "dict_itemiterator",dict:=none,data:=.fields #[rawInt a,.bool true,.ref d,.int ((i+1:Nat):Int) 0,.int es.size 0,.int ep 0,ok,ov],slots:=#[] }->(∀ b o,b≠it->v.get? b=some o->H.get? b=some o)->Q (some (.ref s.heap.objs.size)) { s with heap:=H }:=λH J t =>
   hI e r H ⟨_,_,_,_,J,.inr ⟨a,oa,rfl,t a oa aa (N a oa aa ab),aa⟩⟩ (t _ _ (HY lt) z) λb o M q=>t b o M (N b o M q)
  refine LX (wpAny_field Y rfl (x:=y) rfl ?_);by_cases D:y=.bool true
  .rw[Ng (by rw[D];decide)]
   refine L4 ?_;subst D;exact L4 (L4 ⟨_,rfl,L4 (last v Y λb o _ q=>q)⟩)
  .rw[Nf (by simpa using D)]
   refine LX (MF Y (by simp) λH J t=>?_)
   exact L4 (L4 (L4 ⟨_,rfl,L4 (last H J λb o M q=>t.extBut b o M q)⟩))
def DL(h₀ h:Heap)(es:Array DictEntry)(p:Array Value)(i:Nat):Prop:=p.size=i/\∀(j:Nat)(v:Value),p[j]?=some v->∃(t:Addr)(e:DictEntry),v=.ref t/\es[j]?=some e/\h₀.objs.size<=t/\h.get? t=some { cls:=.type "tuple",data:=.seq #[e.key,e.val] }
def yu(p:Array Value):Prop:=p.toList.Nodup
theorem A6{S:Addr}{es:Array DictEntry}{res:Value}{h₀:Heap}(f:A.handled=none)(y:es.size<=LK)(aL:S≠it)(an:S≠d)(aR:d≠it) :
  ∀(k i:Nat)(s:Shared)(p:Array Value)(c:Nat),es.size-i=k->i<=es.size->ItAt s.heap it d i es.size ep->Ent s.heap d es ep->s.heap.get? S=some { cls:=.type "list",dict:=none,data:=.seq p c,slots:=#[] }->DL h₀ s.heap es p i->yu p->h₀.objs.size<=s.heap.objs.size ->
  (∀ h' m c',(∀ b o,b≠S->b≠it->s.heap.get? b=some o->h'.get? b=some o)->h'.get? S=some { cls:=.type "list",dict:=none,data:=.seq m c',slots:=#[] }->DL h₀ h' es m es.size->yu m->R (.ok (.ret res)) { s with heap:=h' }) ->
  Md (model prog w) A (.builtin "list.extend.loop" ⟨[.ref S,.ref it,res],[]⟩) R s:=by
 intro k;induction k with
 |zero =>
  intro i s p c G T aa C H x am O g;have ac:i=es.size:=by omega
  subst ac;refine MP F.entry_extend_loop ?_;rw[MQ F.plain_extend_loop _];show wpAny _ A.in1 (pyNext (.ref it) >>= _) _ _ s;refine LX (Ay aa C f (λe r=>?_) λ_ h' q=>?_)
  .rw[JF (Gy _)]at r
   cases r
  .refine L4 (g h' p c (λb o _ M e=>q b o M e) (q S _ aL H) ⟨x.1,λj v B=>?_⟩ am);obtain⟨t,e,u,I,a3,a4⟩:=x.2 j v B;refine⟨t,e,u,I,a3,q t _ (λz=>?_) a4⟩;obtain⟨_,_,_,_,N,_⟩:=aa;rw[z,N]at a4;exact Nh (congrArg Obj.cls (G3 a4)) (by intro z;exact Nh (Value.type.inj z) (by decide))
 |succ k D =>
  intro i s p c G T aa C H x am O g;refine MP F.entry_extend_loop ?_;rw[MQ F.plain_extend_loop _];show wpAny _ A.in1 (pyNext (.ref it) >>= _) _ _ s;refine LX (Ay aa C f (λe r h' L n J=>?_) λr=>Nh r (by rw[HS (show i<es.size by omega)];intro z;cases z))
  have al:=J S _ aL H;have lt:it<s.heap.objs.size:=by obtain⟨_,_,_,_,z,_⟩:=aa;exact LL z
  have aO:=LL H;show wpAny _ A.in1 (MU S (·.push (.ref s.heap.objs.size)) >>= _) _ _ _;refine LX ?_;have aI:∀ b,b≠S->∀ o,h'.get? b=some o->(h'.update S (Ml (·.push (.ref s.heap.objs.size)))).get? b=some o:=λb M o e=>(Mn _ _ (Ne.symm M)).trans e;have l:∀(Y:Heap),(∀ b o,b≠S->h'.get? b=some o->Y.get? b=some o)->DL h₀ Y es (p.push (.ref s.heap.objs.size)) (i+1):=λY h=>by
   refine⟨by rw[Array.size_push,x.1],λj v B=>?_⟩
   rw[Array.getElem?_push]at B;split at B
   .rename_i ej
    cases B
    rw[x.1]at ej;subst ej;refine⟨s.heap.objs.size,e,rfl,r,O,h _ _ (HY aO) n⟩
   .obtain⟨t,Q,u,I,a3,a4⟩:=x.2 j v B;have ti:t≠it:=λz=>by
     obtain⟨_,_,_,_,N,_⟩:=aa;rw[z,N]at a4;exact Nh (congrArg Obj.cls (G3 a4)) (by intro z;exact Nh (Value.type.inj z) (by decide))
    refine⟨t,Q,u,I,a3,h t _ (λz=>?_) (J t _ ti a4)⟩;rw[z,H]at a4;exact Nh (congrArg Obj.cls (G3 a4)) (by intro z;exact Nh (Value.type.inj z) (by decide))
  have ap:yu (p.push (.ref s.heap.objs.size)):=by
   unfold yu;rw[K4];refine HR.mpr ⟨am,by simp,λa E b M e=>?_⟩
   rw[GJ.mp M]at e;subst e;obtain⟨j,B⟩:=HE E;obtain⟨t,Q,u,_,_,a4⟩:=x.2 j _ (by rw[← Hv];exact B)
   cases u
   exact HF _ (LL a4)
  refine MV al rfl (L4 ⟨MX F.plain_extend_loop _,D (i+1) _ (p.push (.ref s.heap.objs.size)) _ ∅ ∅ ?_ ?_ (Mm _ al rfl) (l _ λb o M e=>aI b M o e) ap ?_ λaS m c' m1 m2 m3 m4=>?_⟩)
   (by rw[x.1];omega) (by show(p.push _).size<=LK+1;rw[Array.size_push,x.1];omega)
  .exact L.keep (λo e=>aI it (Ne.symm aL) o e) λb o _ e=>by
    by_cases z:b=S
    .rw[z];exact⟨_,Mm _ al rfl⟩
    .exact⟨o,aI b z o e⟩
  .obtain⟨o,u,I,a3⟩:=C;exact⟨o,aI d (Ne.symm an) o (J d o aR u),I,a3⟩
  .show h₀.objs.size<=(h'.update _ _).objs.size;rw[MO];exact Hy O (G6 (LL n))
  .exact g aS m c' (λb o M ab e=>m1 b o M ab (aI b M o (J b o ab e))) m2 m3 m4
theorem xF{r:Addr}{Q:Bool->Shared->Prop} (l:s.TypeIs (.ref r) "dict_items") (h:Q false s):wpAny (model prog w) A (Ms (.ref r)) Q E s:=by
 unfold Ms;refine LX (Mr l PySem.F.slot_dict_items_len.lookup ?_);generalize a:("dict_items.__len__" : String)=c;wp_delta;rw[show splitId c=some ("dict_items","__len__") from by subst a;decide]
 subst a;refine LX (Mu (T:="dict_items") (b:=true) l (by rw[isSubtype_type];kernel_rfl) ?_)
 refine Mt (λm=>Nh m (by decide)) (λ_=>?_)
 refine Mt (λ_=>?_) (λm=>Nh (by decide) m)
 refine LX (wpAny_typeOf l ?_);exact L4 h
theorem xR{S r:Addr}{es:Array DictEntry}{res:Value}(k:A.handled=none)(p:s.heap.IsItemsView r d)(C:Ent s.heap d es ep)(y:es.size<=LK)(am:S≠r)(aa:S≠d)
  (H:s.heap.get? S=some { cls:=.type "list",dict:=none,data:=.seq #[] N,slots:=#[] })
  (q:∀ h' m c',(∀ b o,b≠S->s.heap.get? b=some o->h'.get? b=some o)->h'.get? S=some { cls:=.type "list",dict:=none,data:=.seq m c',slots:=#[] }->DL s.heap h' es m es.size->yu m->R (.ok (.ret res)) { s with heap:=h' }) :
  wpAny (model prog w) A.in1 (Nb (.ref S) (.ref r) res)
   (λD s'=>match D with | .done f=>R (.ok f) s' | .again c'=>c'.quiet=true/\Md (model prog w) A c' R s') (λe s'=>R (.error e) s') s:=by
 obtain⟨ov,ac,an,al⟩:=id p;obtain⟨O,B,I,ab⟩:=id C;have dl:d<s.heap.objs.size:=LL B;have aI:S≠s.heap.objs.size:=G0 (LL H);have u:∀(g:Heap)(n l:Nat),ItAt g s.heap.objs.size d 0 es.size ep->(∀ b o,b≠S->s.heap.get? b=some o->g.get? b=some o)->s.heap.objs.size<=g.objs.size ->
   g.get? S=some { cls:=.type "list",dict:=none,data:=.seq #[] n,slots:=#[] }->l=s.toks->Md (model prog w) A (.builtin "list.extend.loop" ⟨[.ref S,.ref s.heap.objs.size,res],[]⟩) R { s with heap:=g,toks:=l }:=λg n l L Y t G h=>by
  subst h;refine A6 (h₀:=s.heap) k y aI aa (G0 dl) es.size 0 _ #[] n (Nat.sub_zero _) (Hq _) L ⟨O,Y d O (Ne.symm aa) B,I,ab⟩ G ⟨rfl,λj v e=>by simp at e⟩ (by unfold yu;simp) t λh' m c' Q x m3 m4=>?_
  exact q h' m c' (λb o M e=>Q b o M (G0 (LL e)) (Y b o M e)) x m3 m4
 unfold Nb;refine LX (wpAny_typeOf (T:="dict_items") p.typeIs ?_);have J:Nc (.ref S) (.ref r)=false:=by simp[Nc,am]
 have nl:(Value.type "dict_items" == Value.type "list")=false:=by decide
 have nt:(Value.type "dict_items" == Value.type "tuple")=false:=by decide
 simp only[J,nl,nt,LH,HL,if_false];refine LX (Dq p C ?_);have c:=L5 { cls:=.type "dict_itemiterator",data:=.fields #[.none,.bool false,.ref d,.int 0 0,.int es.size 0,.int ep 0,.none,.none] } H;have ap:ItAt (s.heap.push { cls:=.type "dict_itemiterator",data:=.fields #[.none,.bool false,.ref d,.int 0 0,.int es.size 0,.int ep 0,.none,.none] }) s.heap.objs.size d 0 es.size ep :=
  ⟨_,_,_,_,L6 _ rfl,.inl ⟨rfl,rfl⟩⟩
 have a:∀ b o,s.heap.get? b=some o->(s.heap.push { cls:=.type "dict_itemiterator",data:=.fields #[.none,.bool false,.ref d,.int 0 0,.int es.size 0,.int ep 0,.none,.none] }).get? b=some o:=λb o e=>L5 _ e;have big:s.heap.objs.size<=(s.heap.push { cls:=.type "dict_itemiterator",data:=.fields #[.none,.bool false,.ref d,.int 0 0,.int es.size 0,.int ep 0,.none,.none] }).objs.size:=by rw[Me];exact IG _
 have aL:(⟨s.heap.push { cls:=.type "dict_itemiterator",data:=.fields #[.none,.bool false,.ref d,.int 0 0,.int es.size 0,.int ep 0,.none,.none] },s.gens,s.drawn,s.toks,s.os⟩:Shared).TypeIs (.ref r) "dict_items":=⟨ov,a _ _ ac,an⟩;generalize s.heap.push { cls:=.type "dict_itemiterator",data:=.fields #[.none,.bool false,.ref d,.int 0 0,.int es.size 0,.int ep 0,.none,.none] }=g0 at c ap a big aL;refine LX (LY (xF aL ?_));refine Mt (λ_=>?_) (λ_=>L4 ⟨MX Iz _,u g0 _ s.toks ap (λb o _ e=>a b o e) big c rfl⟩);refine LX (wpAny_rule ?_);refine LX ?_;show wpAny _ _ (MU S (·.push .none) >>= λ_=>MU S (·.pop)) _ _ _;refine LX (MV c rfl ?_);have i:=Mm (Ml (·.push Value.none)) c rfl;refine MV (hz:=by seq_fits) i rfl ?_
 have E:=Mm (Ml (·.pop)) i rfl;have ne:∀ b,b≠S->∀ o,g0.get? b=some o->((g0.update S (Ml (·.push Value.none))).update S (Ml (·.pop))).get? b=some o:=λb M o e=>(Mn _ _ (Ne.symm M)).trans ((Mn _ _ (Ne.symm M)).trans e);refine L4 ⟨MX Iz _,u _ _ s.toks (ap.keep (λo e=>ne _ (Ne.symm aI) o e) λb o _ e=>?_) (λb o M e=>ne b M o (a b o e)) (by rw[MO,MO];exact big) E rfl⟩
 by_cases z:b=S
 .rw[z];exact⟨_,E⟩
 .exact⟨o,ne b z o e⟩
theorem list_itemsT{r:Addr}{es:Array DictEntry}(k:A.handled=none)(p:s.heap.IsItemsView r d)(C:Ent s.heap d es ep)(T:es.size<=LK)
  (h:∀ h' m c',(∀ b o,s.heap.get? b=some o->h'.get? b=some o)->h'.get? s.heap.objs.size=some { cls:=.type "list",dict:=none,data:=.seq m c',slots:=#[] }->(m.size=es.size/\∀(j:Nat)(v:Value),m[j]?=some v->∃(t:Addr)(e:DictEntry),v=.ref t/\es[j]?=some e/\s.heap.objs.size<t/\h'.get? t=some { cls:=.type "tuple",data:=.seq #[e.key,e.val] })->m.toList.Nodup->Q (.ref s.heap.objs.size) { s with heap:=h' }) :
  wpAny (model prog w) A (call (.type "list") [.ref r]) Q E s:=by
 obtain⟨y,L,Y,M⟩:=id p;obtain⟨O,B,J,z⟩:=id C;refine callType_codes (Q₁:=λf c=>f=.ref s.heap.objs.size/\c={ s with heap:=s.heap.push { cls:=.type "list",data:=.seq #[] } }) PySem.F.called_list (LA _) LC
  (code_list_new _ ⟨rfl,rfl⟩) λf c g=>?_
 obtain⟨rfl,rfl⟩:=g;have H:(s.heap.push { cls:=.type "list",data:=.seq #[] }).get? s.heap.objs.size=some { cls:=.type "list",data:=.seq #[] }:=L6 _ rfl;have N:s.heap.objs.size≠r:=HY (LL L);have x:s.heap.objs.size≠d:=HY (LL B);refine⟨⟨_,H,rfl⟩,Lv _ _,?_⟩;show wpAny _ _ (do let a ← Nd (.ref s.heap.objs.size);Builtin.List.listUpdate (.ref s.heap.objs.size) (λ_=>#[]);letGo a.toList.reverse;Nb (.ref s.heap.objs.size) (.ref r) .none) _ _ _
 refine LX ?_;unfold Nd;refine LX (MR H rfl (L4 ?_));show wpAny _ _ (MU s.heap.objs.size (λ_=>#[]) >>= λ_=>letGo (#[]:Array Value).toList.reverse >>= λ_=>Nb (.ref s.heap.objs.size) (.ref r) .none) _ _ _;refine LX (MV H rfl ?_);have i:=Mm (Ml (λ_=>(#[]:Array Value))) H rfl;have oth:∀ b o,s.heap.get? b=some o->((s.heap.push { cls:=.type "list",data:=.seq #[] }).update s.heap.objs.size (Ml (λ_=>(#[]:Array Value)))).get? b=some o :=
  λb o e=>(Mn _ _ (HY (LL e))).trans (L5 _ e)
 refine LX (MH ?_);refine xR (A:=A.in1) k ⟨y,oth _ _ L,Y,M⟩ ⟨O,oth _ _ B,J,z⟩ T N x i λh' m c' G l n D=>?_
 exact⟨rfl,h h' m c' (λb o e=>G b o (G0 (LL e)) (oth b o e)) l ⟨n.1,λj v p=>by
  obtain⟨t,e,I,q,u,x4⟩:=n.2 j v p;refine⟨t,e,I,q,?_,x4⟩;rw[MO,size_push']at u
  exact u⟩ D⟩
end
end L2.C2
namespace L2.AT
open PySem PySem.Spec PyProof.Rows
section
variable{X:Cx}{pins:List (Addr×Obj)}{σ:St}{H H':Hp}{s:Shared}{h':Heap}
theorem Inv.many(I:Inv X pins σ H s)(k:∀ b o,s.heap.get? b=some o->h'.get? b=some o)(T:∀ b,b<s.heap.objs.size->H' b=H b)(new:∀ b u,s.heap.objs.size<=b->H' b=some u->bp X.prog X.w H' h' b u):Inv X pins σ H' { s with heap:=h',toks:=t' }:=by
 have up:∀ b u,H b=some u->H' b=some u:=λb u e=>by rw[T b (I.hok.lt e)];exact e
 refine I.un ⟨λb o e n _ _=>k b o e,λb o e n _ _=>⟨o.slots,k b o e⟩,λb o e n _=>by rw[T b (LL e)];exact n,λb o e _=>⟨o,k b o e⟩,λb N e=>up b _ e,λb o u e=>up b _ e,λb i e=>⟨#[],by rw[up b _ e];simp⟩⟩ λb u e=>?_
 by_cases z:b<s.heap.objs.size
 .rw[T b z]at e;exact(I.hok b u e).stay (λc v _ q=>k c v q) (λc q=>up c _ q) λc N q=>up c _ q
 .exact new b u (JM z) e
theorem CV{l:List (Addr×α)}{x:α}(nd:(l.map (·.1)).Nodup)(h:(a,x)∈l):l.lookup a=some x:=by
 induction l with
 |nil=>cases h
 |cons p r D =>
  rw[G7,Hj]at nd;rcases GG.mp h with e | h
  .subst e;simp[Jm]
  .have ne:(a == p.1)=false:=beq_eq_false_iff_ne.mpr λz=>nd.1 (z▸Hn.mpr ⟨_,h,rfl⟩)
   simp only[Jm,ne];exact D nd.2 h
theorem Am{l:List (Addr×α)}{x:α}(h:l.lookup a=some x):(a,x)∈l:=by
 induction l with
 |nil=>cases h
 |cons p r D =>
  simp only[Jm]at h;split at h
  .rename_i e
   cases h
   have:=beq_iff_eq.mp e;rw[this];exact GN
  .exact GD _ (D h)
def adr:Value->Addr
 |.ref a=>a
 |_=>0
end
end L2.AT
namespace L2
open PySem PySem.Spec PyProof.Rows AT
inductive rListT(xs:List V)(H:L2.Hp)(Q:L2.VK):Prop
 |mk (v d:Addr)(kvs:List (Key×V))(ps:List (Int×Int)) (h0_:xs = [.ref v])(h1_:H v=some (wF v d))(h2_:H d=some (.dK kvs))(h3_:kvs=ps.map (λe=>(Sum.inl e.1,V.int e.2)))(h4_:∀(l:Addr)(out:List V)(H':Hp),(∀ b u,H b=some u->H' b=some u)->H l=none->H' l=some (.lst out)->out.length=ps.length->(∀(i:Nat)(e:Int×Int),ps[i]?=some e->∃ t,out[i]?=some (.ref t)/\H' t=some (.tup [.int e.1,.int e.2]))->Q (.ref l) H')
theorem ym(E:X.calm=true):gy X (.type "list") rListT:=by
 intro B s O H N us Q I r h;obtain⟨v,d,n,ps,rfl,p,hd,ek,q⟩:=h;obtain⟨u,rfl,ru⟩:=i3 r
 cases ru
 obtain⟨vw,_,_⟩:=(show bp X.prog X.w H s.heap v (wF v d) from I.hok v _ p);obtain⟨_,D,ep,aL,aO,aT⟩:=Ba (P:=X.prog) (w:=X.w) (H:=H) (h:=s.heap) (d:=d) (u:=.dK n) True.intro (I.hok d _ hd);obtain⟨hz,_⟩:=(show bp X.prog X.w H s.heap d (.dK n) from I.hok d _ hd);have aR:D.size=ps.length:=by
  rw[aO];show n.length=_;rw[ek,Gu]
 have kl:n.length=ps.length:=by rw[ek,Gu]
 have a0:∀(j:Nat)(e:DictEntry),D[j]?=some e->∃ x tx ty,ps[j]?=some x/\e.key=.int x.1 tx/\e.val=.int x.2 ty:=λj e y=>by
  obtain⟨a,b,c1,c2,c3⟩:=aT j e y;rcases c1 with⟨ab,k,A,f,e3⟩ | ⟨_,_,_,A,_⟩
  .cases A;rw[ek,GC]at f;obtain⟨x,L,e4⟩:=G5.mp f
   cases e4
   subst e3;obtain⟨tx,e5⟩:=(show ∃ t,e.key=Value.int x.1 t from c2);obtain⟨ty,e6⟩:=(show ∃ t,e.val=Value.int x.2 t from c3);exact⟨x,tx,ty,L,e5,e6⟩
  .cases A
 refine C2.list_itemsT (I.ok.hd E) vw aL (by rw[aO];exact hz) λg aa c G hS ap ac=>?_
 have tk:∀ w∈aa.toList,∃(j:Nat)(t:Addr)(x:Int×Int)(tx ty:Tok),aa.toList[j]?=some w/\w=.ref t/\ps[j]?=some x/\s.heap.objs.size<t/\g.get? t=some { cls:=.type "tuple",data:=.seq #[.int x.1 tx,.int x.2 ty] }:=λw hw=>by
  obtain⟨j,hj⟩:=HE hw;obtain⟨t,e,a1,a2,a3,a4⟩:=ap.2 j w (by rw[← Hv];exact hj)
  obtain⟨x,tx,ty,b1,b2,b3⟩:=a0 j e a2;rw[b2,b3]at a4;exact⟨j,t,x,tx,ty,hj,a1,b1,a3,a4⟩
 have al:aa.toList.length=ps.length:=by rw[Hd,ap.1,aR]
 have aI:(aa.toList.map adr).map Value.ref=aa.toList:=by
  rw[IU];refine(Ja (g:=id) λw hw=>?_).trans (List.map_id _);obtain⟨_,t,_,_,_,_,a2,_⟩:=tk w hw;rw[a2];rfl
 have a6:(aa.toList.map adr).Nodup:=by
  rw[← aI]at ac;exact(Kg.mp ac).imp λh e=>h (by rw[e])
 have zk:((aa.toList.map adr).zip ps).map (·.1)=aa.toList.map adr:=List.map_fst_zip (by rw[Gu,al];exact Gy _)
 obtain⟨C,an⟩:∃ C:Hp,C=λb=>if b=s.heap.objs.size then some (.lst ((aa.toList.map adr).map V.ref)) else match((aa.toList.map adr).zip ps).lookup b with | some e=>some (.tup [.int e.1,.int e.2]) | none=>H b:=⟨_,rfl⟩
 have am:∀ b,b<s.heap.objs.size->C b=H b:=λb M=>by
  rw[an];show(if b=s.heap.objs.size then _ else _)=_;rw[Ng (G0 M)]
  cases z:((aa.toList.map adr).zip ps).lookup b with
  |none=>rfl
  |some e =>
   have m:=Am z;obtain⟨w,hw,ew⟩:=Hn.mp (Ku m).1;obtain⟨_,t,_,_,_,_,a2,_,a4,_⟩:=tk w hw;subst a2;have:t=b:=ew;subst this;exact Nh M (Js (G6 a4))
 have aS:∀(i:Nat)(e:Int×Int),ps[i]?=some e->∃ t tx ty,aa.toList[i]?=some (.ref t)/\s.heap.objs.size<t/\C t=some (.tup [.int e.1,.int e.2])/\g.get? t=some { cls:=.type "tuple",data:=.seq #[.int e.1 tx,.int e.2 ty] }:=λi e y=>by
  have T:i<aa.toList.length:=by rw[al];exact(Gn.mp y).1
  obtain⟨j,t,x,tx,ty,a1,a2,a3,a4,a5⟩:=tk _ (Ii T);have ej:i=j:=(List.getElem?_inj T ac).mp ((Gs T).trans a1.symm);subst ej;rw[y]at a3
  cases a3
  rw[a2]at a1;refine⟨t,tx,ty,a1,a4,?_,a5⟩;rw[an];show(if t=s.heap.objs.size then _ else _)=_;rw[Ng (HY a4),CV (by rw[zk];exact a6) (x:=e) (Gv (i:=i) (by rw[Ls];exact⟨by rw[GC,a1];rfl,y⟩))]
 have I2:Inv X B O C { s with heap:=g }:=by
  refine Inv.many (t':=s.toks) I G am λb u M hu=>?_;by_cases zb:b=s.heap.objs.size
  .subst zb;have f:C s.heap.objs.size=some (.lst ((aa.toList.map adr).map V.ref)):=by rw[an];exact Nf rfl
   rw[f]at hu
   cases hu
   refine⟨by rw[Gu,Gu,al,← kl];exact hz,aa.toList,c,?_,?_⟩
   .have:∀ l:List Addr,Vals (l.map V.ref) (l.map Value.ref):=λl=>by
     induction l with
     |nil=>exact .nil
     |cons a l o=>exact .cons rfl o
    have z:=this (aa.toList.map adr);rw[aI]at z;exact z
   .exact hS
  .have f:C b=(match((aa.toList.map adr).zip ps).lookup b with | some e=>some (.tup [.int e.1,.int e.2]) | none=>H b):=by rw[an];exact Ng zb
   rw[f]at hu
   cases z:((aa.toList.map adr).zip ps).lookup b with
   |none =>
    rw[z]at hu;have:=I.hok.lt (show H b=some u from hu);exact Nh M (Nat.not_le_of_lt this)
   |some e =>
    rw[z]at hu
    cases hu
    have m:=Am z;obtain⟨i,T⟩:=HE m;obtain⟨J,Y⟩:=Ls.mp T;rw[GC]at J;obtain⟨t,tx,ty,b1,b2,b3,b4⟩:=aS i e Y;rw[b1]at J
    cases J
    exact⟨(by decide:(2:Nat)<=LK),[.int e.1 tx,.int e.2 ty],.cons ⟨tx,rfl⟩ (.cons ⟨ty,rfl⟩ .nil),_,b4,rfl,_,rfl⟩
 refine⟨.ref s.heap.objs.size,C,I2,rfl,q s.heap.objs.size _ C (λb u e=>by rw[am b (I.hok.lt e)];exact e) (I.hok.fresh (Gy _)) (by rw[an];exact Nf rfl) (by rw[Gu,Gu,al]) λi e y=>?_⟩
 obtain⟨t,_,_,b1,_,b2,_⟩:=aS i e y;exact⟨t,by rw[GC,GC,b1];rfl,b2⟩
end L2
namespace L2
open PySem PySem.Spec PyProof.Rows PySem.Calls Builtin Builtin.ObjectAttr Builtin.Getset_descriptor
def nP(x D:Addr)(h:Heap):Prop:=∃ o,h.get? x=some o/\o.cls=.ref D
theorem nP.type{x D:Addr}(M:Model)(I:nP x D h):Ki M h (typeOf (.ref x)) (.ref D):=by
 obtain⟨o,a,b⟩:=I;exact b▸(PySem.W.Looks.ld a).andThen .now
structure ErC(K:Gw)(D:Addr):Prop where
 ga:GY K (.ref D) "__getattribute__" = some (some (.builtin "BaseException.__getattribute__"))
 gt:GY K (.ref D) "__getattr__" = some none
 hb:HV K D (.type "BaseException")=some true
 hd:II K D=true
 ha:GY K (.ref D) "__class__" = some (some (.builtin "object.__class__"))
 hn:Kc K (.builtin "object.__class__") "__get__" = some (some (.builtin "getset_descriptor.__get__"))
 tk:Ko K (.builtin "object.__class__")=some true
 hm:HV K D (.type "object")=some true
section
variable{prog:Program}{w:World}{A:Around}{E:Value->Shared->Prop}{s:Shared}{K:Gw}{x D:Addr}
theorem FK{M:Model}(X:K.In h)(e:ErC K D):Ki M h (find (.ref x) (.ref D) "__class__") (.bind (.builtin "getset_descriptor.__get__") (.builtin "object.__class__")):=by
 have c:=JQ (M:=M) X e.ha;have L2:=PySem.W.looks_specialIn (M:=M) X e.hn;have f:=PySem.W.looks_takesIn (M:=M) X e.tk;refine c.andThen (L2.andThen ?_);exact(show Ki M h (dataDescriptor? (some (.builtin "object.__class__")) (some (.builtin "getset_descriptor.__get__"))) (some (.builtin "getset_descriptor.__get__",.builtin "object.__class__")) from f.andThen .now).andThen (PySem.W.Looks.tag .now)
theorem kd_get{R:Except Value Flow->Shared->Prop}{tp:Value}(X:K.In s.heap)(I:nP x D s.heap)(e:ErC K D)
  (h:R (.ok (.ret (.ref D))) s):Md (model prog w) A (.call (.builtin "getset_descriptor.__get__") ⟨[.builtin "object.__class__",.ref x,tp],[]⟩) R s:=by
 obtain⟨k,g,E,t,os⟩:=s;have b:=I.type (model prog w);have c:=KH (M:=model prog w) X e.hm;refine codeAny_call_builtin PySem.W.KF.slot_gs.plain PySem.W.KF.entry_gs (PySem.W.KF.slot_gs.check _ _ _ _ _ _ _ _ PySem.W.KF.type_class (PySem.W.KF.args_gs _ _ _) ?_);unfold Builtin.«getset_descriptor.__get__» descrGet;rw[PySem.W.dga_obj];refine LX (L4 ?_);unfold descrGetter descrCheckInstance descrNameAndClass isInstance;simp only[PySem.W.KF.owner_class];repeat lk
 refine⟨Code.quiet_builtin _ (by decide),MP PySem.W.KF.entry_class ?_⟩
 unfold Builtin.«object.__class__» shownTypeOf;repeat lk
 exact h
theorem C1{M:Model}{Q:Unit->Shared->Prop}(X:K.In s.heap)(I:nP x D s.heap)(e:ErC K D)(hq:Q () s):wpAny M A (checkBuiltinCall "BaseException.__getattribute__" ⟨[.ref x,u],[]⟩) Q E s:=by
 obtain⟨k,g,d,t,os⟩:=s;have G:builtinKind "BaseException.__getattribute__" = some .slot:=by decide
 have a:splitId "BaseException.__getattribute__" = some ("BaseException","__getattribute__"):=by decide
 have l:=F.args_bexc_ga (.ref x) u;have b:=I.type M;have c:=KH (M:=M) X e.hb;have f:Ki M k (isInstance (.ref x) (.type "BaseException")) true:=b.andThen c;simp only[checkBuiltinCall,G,a];refine LX (f.at ?_);repeat (first | assumption | wp_step)
theorem CZ{tk:Tok}{Q:Fin->Shared->Prop}(X:K.In s.heap)(I:nP x D s.heap)(e:ErC K D)(h:Q (.done (.ret (.ref D))) s):wpAny (model prog w) A (Builtin.«object.__getattribute__» ⟨[.ref x,.str "__class__" tk],[]⟩) Q E s:=by
 obtain⟨k,g,d,t,os⟩:=s;have b:=I.type (model prog w);have L2:=FK (x:=x) (M:=model prog w) X e;unfold Builtin.«object.__getattribute__»;repeat (first | assumption | with_reducible refine b.at ?_ | with_reducible refine L2.at ?_ | with_reducible refine wpAny_call (kd_get (K:=K) X I e ?_) | wp_step)
theorem C0{Q:Option Value->Shared->Prop}(X:K.In s.heap)(I:nP x D s.heap)(e:ErC K D)(h:Q (some (.ref D)) { s with toks:=s.toks+1 }):wpAny (model prog w) A (getAttr? (.ref x) "__class__") Q E s:=by
 obtain⟨k,g,d,t,os⟩:=s;have b:=I.type (model prog w);have c:=JQ (M:=model prog w) X e.ga;have f:=JQ (M:=model prog w) X e.gt;have G:=F.excAttr_ValueError.ga.bind (.ref x);unfold getAttr? getAttrBy? getAttrBy;refine LX (wpAny_mkText (LX (wpAny_attempt (LY (LX (b.at (LX (c.at ?_))))))));show wpAny _ _ (getAttrByItsOwn _ _ _ _ _ _) _ _ _;unfold getAttrByItsOwn;refine LX (show wpAny _ _ (typeLookup _ _) _ _ _ from f.at ?_);refine LX (wpAny_attempt (LY ?_));show wpAny _ _ (boundAndCalled _ _ _) _ _ _;unfold boundAndCalled;rw[G];refine LX (L4 ?_);refine wpAny_call (codeAny_call_builtin F.excAttr_ValueError.ga.plain F.entry_bexc_ga (C1 (s:=⟨k,g,d,t+1,os⟩) X I e (CZ (s:=⟨k,g,d,t+1,os⟩) X I e ?_)));exact LS (PySem.W.handed_on rfl (Q:=λv L=>v=.ref D/\L=⟨k,g,d,t+1,os⟩) ⟨rfl,rfl⟩) (λv a p=>by obtain⟨rfl,rfl⟩:=p;exact L4 h) (λ_ _ z=>z)
theorem wC(e:ErC K D):PySem.W.KitX K (.ref x) (.ref D) (nP x D) where
 ty:=λM _ _ I=>I.type M
 it:=λ_ _ X _=>by
  obtain⟨i,d,_⟩:=K7 e.hd;unfold Lz at d;split at d
  .rename_i L j l g A;intro m v B c k q;unfold isType loadHead;exact LX (wpAny_loadPart (k _ _ (X _ _ A)) (L4 q))
  .cases d
 ne:=λh a f E n p X b=>by
  obtain⟨i,d,_⟩:=K7 e.hd;refine Bool.eq_false_iff.mpr λq=>?_;have e:D=a:=Value.ref.inj (beq_iff_eq.mp q);subst e;unfold Lz at d;split at d
  .rename_i L j l g A;have z:=(X _ _ A).symm.trans b
   cases z
  .cases d
 ca:=λX I k=>C0 X I e k
end
end L2
namespace L2
open PySem PySem.Spec PyProof.Rows
structure DK(h h':Heap):Prop where
 le:h.objs.size<=h'.objs.size
 d:∀(e:Addr)(o':Obj),e<h.objs.size->h'.get? e=some o'->∃ o,h.get? e=some o/\o'.dict=o.dict
theorem DK.rfl'(h:Heap):DK h h:=⟨Gy _,λ_ B _ q=>⟨B,q,rfl⟩⟩
theorem DK.trans{a b c:Heap}(x:DK a b)(y:DK b c):DK a c:=⟨Hy x.le y.le,λe B r q=>by
 obtain⟨f,L,d1⟩:=y.d e B (Hg r x.le) q;obtain⟨o,l,T⟩:=x.d e f r L
 exact⟨o,l,d1.trans T⟩⟩
theorem DK.upd{f:Obj->Obj}(E:(h.get? a).isSome)(D:∀ o,(f o).dict=o.dict):DK h (h.update a f):=by
 refine⟨Nat.le_of_eq (MO ..).symm,λe B r q=>?_⟩;by_cases z:a=e
 .subst z;obtain⟨o,l⟩:=Kd.mp E;obtain⟨L,_⟩:=Heap.get?_some_iff.mp q;obtain⟨Y,_⟩:=Heap.get?_some_iff.mp l;refine⟨o,l,?_⟩
  cases h
  simp only[Heap.update,Array.getElem?_modify,if_true]at L;simp only at Y;rw[Y]at L
  cases L
  exact D o
 .rw[Mn _ _ z]at q;exact⟨B,q,rfl⟩
theorem DK.psh(h:Heap)(o:Obj):DK h (h.push o):=by
 refine⟨by rw[Me];exact IG _,λe B r q=>?_⟩
 rw[Heap.get?_push_ne _ _ _ (G0 r)]at q;exact⟨B,q,rfl⟩
def aK{α:Type}:Sem α->Prop
 |.pure _=>True
 |.raise _=>True
 |.unsupported _=>True
 |.finish _=>True
 |.rule _ k=>aK (k ())
 |.at _ k=>aK (k ())
 |.load _ _ k=>∀ o,aK (k o)
 |.update _ _ f k=>(∀ o,(f o).dict=o.dict)/\aK (k ())
 |.alloc _ k=>∀ a,aK (k a)
 |.loadIfAlive _ k=>∀ o,aK (k o)
 |.point _ k=>aK (k ())
 |.register _ _=>True
 |.fresh k=>∀ t,aK (k t)
 |.ask k=>∀ t,aK (k t)
 |.choose _ _ k=>∀ t,aK (k t)
 |.os _ _ k=>∀ t,aK (k t)
 |.call _ _ _ _ _=>False
 |.handled _ k=>∀ t,aK (k t)
 |.newGen _ k=>∀ t,aK (k t)
 |.genState _ k=>∀ t,aK (k t)
 |.resume _ _ _ _=>False
 |.yield _ _ _ _=>True
 |.stack k=>∀ t,aK (k t)
 |.fork _ _=>True
 |.thread k=>∀ t,aK (k t)
 |.await _ _ _ _ _=>True
theorem aK.bind{α j:Type}{m:Sem α}{f:α->Sem j}(C:aK m)(E:∀ a,aK (f a)):aK (m >>= f):=by
 show aK (m.bind f);induction m with
 |pure a=>exact E a
 |raise e=>exact True.intro
 |unsupported w=>exact True.intro
 |finish e=>exact True.intro
 |rule t k D=>exact D () C
 | «at» p k D=>exact D () C
 |load a p k D=>exact λo=>D o (C o)
 |update a p g k D=>exact⟨C.1,D () C.2⟩
 |alloc o k D=>exact λa=>D a (C a)
 |loadIfAlive a k D=>exact λo=>D o (C o)
 |point l k D=>exact D () C
 |register a k D=>exact True.intro
 |fresh k D=>exact λo=>D o (C o)
 |ask k D=>exact λo=>D o (C o)
 |choose s n k D=>exact λo=>D o (C o)
 |os q l k D=>exact λo=>D o (C o)
 |call c h g l k D=>exact C.elim
 |handled o k D=>exact λo=>D o (C o)
 |newGen c k D=>exact λo=>D o (C o)
 |genState g k D=>exact λo=>D o (C o)
 |resume g r l k D=>exact C.elim
 |yield v g l k D=>exact True.intro
 |stack k D=>exact λo=>D o (C o)
 |fork c k D=>exact True.intro
 |thread k D=>exact λo=>D o (C o)
 |await a t d l k D=>exact True.intro
theorem Dr{M:Model}{b:PySem.Ctx}(m:Sem α)(C:aK m)(Q:α->Pos->Shared->Prop)(E:Value->Pos->Shared->Prop)(p:Pos)(s:Shared)(h:Sem.wp M b m Q E p s) :
  Sem.wp M b m (λa A s'=>Q a A s'/\DK s.heap s'.heap) (λe A s'=>E e A s'/\DK s.heap s'.heap) p s:=by
 have go:∀{m:Sem α}{p:Pos}{s s1:Shared},DK s.heap s1.heap->Sem.wp M b m (λa A s'=>Q a A s'/\DK s1.heap s'.heap) (λe A s'=>E e A s'/\DK s1.heap s'.heap) p s1->Sem.wp M b m (λa A s'=>Q a A s'/\DK s.heap s'.heap) (λe A s'=>E e A s'/\DK s.heap s'.heap) p s1 :=
  λ{m p s s1} d z=>Sem.wp_mono M b m (λa A s' q=>⟨q.1,d.trans q.2⟩) (λa A s' q=>⟨q.1,d.trans q.2⟩) p s1 z
 induction m generalizing p s with
 |pure a=>rw[Sem.wp]at h ⊢;exact⟨h,DK.rfl' _⟩
 |raise e=>rw[Sem.wp]at h ⊢;exact⟨h,DK.rfl' _⟩
 |unsupported w=>rw[Sem.wp]at h;exact h.elim
 |finish e=>rw[Sem.wp]at h;exact h.elim
 |rule t k D=>rw[Sem.wp]at h ⊢;exact D () C p s h
 | «at» A k D=>rw[Sem.wp]at h ⊢;exact D () C A s h
 |load a pt k D=>rw[Sem.wp]at h ⊢;obtain⟨o,e,h⟩:=h;exact⟨o,e,D o (C o) p s h⟩
 |update a pt g k D=>rw[Sem.wp]at h ⊢;exact⟨h.1,go (DK.upd h.1 C.1) (D () C.2 p _ h.2)⟩
 |alloc o k D=>rw[Sem.wp]at h ⊢;exact go (DK.psh _ _) (D _ (C _) p _ h)
 |loadIfAlive a k D=>rw[Sem.wp]at h ⊢;exact D _ (C _) p s h
 |point l k D=>rw[Sem.wp]at h ⊢;exact D () C p s h
 |register a k D=>rw[Sem.wp]at h;exact h.elim
 |fresh k D=>rw[Sem.wp]at h ⊢;exact D _ (C _) p _ h
 |ask k D=>rw[Sem.wp]at h ⊢;exact D _ (C _) p s h
 |choose f n k D=>rw[Sem.wp]at h ⊢;exact⟨h.1,D _ (C _) p _ h.2⟩
 |os q l k D=>rw[Sem.wp]at h ⊢;exact D _ (C _) p _ h
 |call c j g l k D=>exact C.elim
 |handled o k D=>rw[Sem.wp]at h ⊢;exact D _ (C _) p s h
 |newGen c k D=>rw[Sem.wp]at h ⊢;exact D _ (C _) p _ h
 |genState g k D=>rw[Sem.wp]at h ⊢;obtain⟨o,e,h⟩:=h;exact⟨o,e,D _ (C _) p s h⟩
 |resume g r l k D=>exact C.elim
 |yield v g l k D=>rw[Sem.wp]at h;exact h.elim
 |stack k D=>rw[Sem.wp]at h ⊢;exact D _ (C _) p s h
 |fork c k D=>rw[Sem.wp]at h;exact h.elim
 |thread k D=>rw[Sem.wp]at h ⊢;exact D _ (C _) p s h
 |await a t d l k D=>rw[Sem.wp]at h;exact h.elim
theorem lT{M:Model}{m:Sem α}(C:aK m){Q:α->Shared->Prop}(h:wpAny M A m Q E s):wpAny M A m (λa s'=>Q a s'/\DK s.heap s'.heap) (λe s'=>E e s'/\DK s.heap s'.heap) s :=
 λb p c=>Dr m C _ _ p s (h b p c)
theorem aY(a:α):aK (pure a:Sem α):=True.intro
theorem sE(w:String):aK (PySem.unsupported w:Sem α):=True.intro
theorem cN{c:Prop} [Decidable c] {a b:Sem α} (E:aK a) (M:aK b):aK (if c then a else b):=by split<;>assumption
theorem kU(a:Addr):aK (load a):=λ_=>True.intro
theorem jw:aK stack:=λ_=>True.intro
theorem n6(v:Value):aK (fieldsOf v):=by
 unfold fieldsOf
 cases v with
 |ref a =>
  refine aK.bind (kU a) λo=>?_
  cases o.data<;>exact True.intro
 |_=>exact True.intro
theorem gm(v:Value)(i:Nat):aK (field v i):=by
 unfold field;refine aK.bind (n6 v) λY=>?_
 cases Y[i]?<;>exact True.intro
theorem e9(v:Value)(i:Nat)(x:Value):aK (setField v i x):=by
 unfold setField
 cases v with
 |ref a =>
  show aK (updateField a i x);unfold updateField;refine aK.bind (kU a) λo=>?_
  cases o.data with
  |fields Y =>
   refine cN ?_ (sE _);refine⟨λo=>?_,True.intro⟩;unfold Obj.mapFields;split<;>rfl
  |_=>exact True.intro
 |_=>exact True.intro
theorem eu(e:Value)(f:Option Addr):aK (setFlight e f):=by
 unfold setFlight;refine aK.bind (gm e 1) λd=>?_;exact cN (e9 _ _ _) (aY _)
theorem nC:∀ l:List Env,aK (readyFrames l)
 |[]=>True.intro
 |d::I=>by
  unfold readyFrames
  cases d.frame with
  |none=>exact True.intro
  |some f =>
   refine aK.bind (kU f) λo=>?_;refine cN (aY _) ?_;refine aK.bind ?_ λi=>aK.bind ?_ λb=>aK.bind ⟨λo=>rfl,True.intro⟩ λ_=>nC I
   .unfold behindIsImport;refine cN (aY _) (cN (aY _) (aK.bind (gm _ _) λ_=>aY _))
   .unfold keptBack
    cases I with
    |nil=>exact cN (aY _) (aK.bind (by unfold underTheClaimsCaller;exact aK.bind jw λ_=>aY _) λ_=>aY _)
    |cons c r=>exact aY _
theorem qC(env:Env):aK (Ly env):=by
 unfold Ly frameObject frameEnvs;refine aK.bind (aK.bind jw λ_=>aY _) λl=>aK.bind ?_ λo=>?_
 .cases (l.dropWhile λx=>x.frame != env.frame) with
  |nil=>exact aY _
  |cons e r=>exact aK.bind (nC _) λ_=>aY _
 .cases o<;>exact True.intro
theorem vi(f:Addr)(b:Bool):aK (entryPlaceOf f b):=by
 unfold entryPlaceOf;refine aK.bind jw λa=>?_;split<;>exact True.intro
theorem ib(e:Value)(env:Env):aK (noteFrame e env):=by
 unfold noteFrame
 cases env.frame with
 |none=>exact True.intro
 |some f =>
  refine aK.bind (gm _ _) λc=>?_
  have last:aK (do
    let a ← Ly env
    let y ← entryPlaceOf f (c != .none)
    let b ← EntryCells.newEntry c a .none (rawInt f) .none y
    setField e 1 b):=by
   refine aK.bind (qC env) λa=>aK.bind (vi _ _) λy=>aK.bind ?_ λb=>e9 _ _ _;unfold EntryCells.newEntry newFields newObj;dsimp only;have g:∀ d:Data,aK (newObjAsIs (.type "traceback") d):=λd=>aK.bind (λ_=>True.intro) λ_=>aY _;exact cN (aK.bind (sE _) λ_=>g _) (g _)
  refine cN (aK.bind (gm _ _) λz=>cN (aY _) (aK.bind (e9 _ _ _) λ_=>last)) last
theorem qB(env:Env)(e:Value):aK (leaving env e):=aK.bind (ib e env) λ_=>eu e none
def Xd(h:Heap)(x:Addr)(d:Option Addr):Prop:=∃ i,h.get? x=some i/\i.dict=d
theorem Xd.dk{x:Addr}{d:Option Addr}(z:Xd h x d)(k:DK h h')(ex:∃ o,h'.get? x=some o):Xd h' x d:=by
 obtain⟨i,e,hd⟩:=z;obtain⟨B,Q⟩:=ex;obtain⟨o,f,d2⟩:=k.d x B (LL e) Q;rw[e]at f
 cases f
 exact⟨B,Q,d2.trans hd⟩
theorem Trc.there{x T:Addr}{C:Value}(t:Trc h x C T):∃ o,h.get? x=some o:=by
 obtain⟨i,_,_,_,_,r,_⟩:=t;exact⟨i,r⟩
def CXd(P:Program)(w:World):CXT:=λI H s E e L=>∃(x:Addr)(C:Value)(T:Addr)(j:Hp)(d:Option Addr),e=.ref x/\L.os=s.os/\AllBare L.gens/\Un (frs I) [] H j s.heap L.heap/\HOk P w j L.heap /\
 s.heap.get? x=none/\s.heap.get? T=none/\j x=none/\j T=none/\Trc L.heap x C T/\Xd L.heap x d/\E C d j
abbrev WKD:=Value->Option Addr->St->Hp->Prop
def WshD(X:Cx)(W:WKD):Prop:=∀(B:List (Addr×Obj))(O:St)(H:Hp)(s:Shared)(x:Addr)(C:Value)(d:Option Addr),Inv X B O H s->XA X B H s x C->Xd s.heap x d->W C d O H->X.xe (.ref x) s
theorem tH{N:List Str}{g:Str}{s₀:Shared}{H₀:Hp}{E:XK} :
  WshD (cxOf (CXd P w) P w K mg base N g scope f u A outer s₀ H₀ E) (λC d _ H=>E C d H):=λB O H s x C d I xa z a=>by
 show wpAny (model P w) (A.deeper (envOfC g scope s₀.heap.objs.size f u)) (leaving (envOfC g scope s₀.heap.objs.size f u) (.ref x)) _ _ s;refine LS (lT (qB _ _) (Inv.leave (Q:=λ_ L=>∃ j T,L={ s with heap:=j }/\Inv (cxOf (CXd P w) P w K mg base N g scope f u A outer s₀ H₀ E) B O H { s with heap:=j }/\XOk (cxOf (CXd P w) P w K mg base N g scope f u A outer s₀ H₀ E) B H x/\XOk (cxOf (CXd P w) P w K mg base N g scope f u A outer s₀ H₀ E) B H T/\Trc j x C T) (E:=λ_ _=>False) I rfl rfl rfl xa λj T p o G n=>⟨j,T,rfl,p,o,G,n⟩)) ?_ (λ_ _ q=>q.1.elim);rintro _ L ⟨⟨j,T,rfl,p,o,G,n⟩,dk⟩;exact⟨x,C,T,H,d,rfl,p.os,p.bare,p.base,p.hok,o.old,G.old,o.trk,G.trk,n,z.dk dk n.there,a⟩
structure CalD(P:Program)(w:World)(K:Gw)(mg:Str->Option Value)(base:Heap)(k:Nat)(x:Str)(ps:List Str)(sp:Sp)(f:Addr)(fd:FuncData):Prop where
 ok:FnOk P w K mg base (CXd P w) k f fd ps sp
 bn:dA K fd ps []
 mg:mg x=some (.ref f)
 kp:Hw K (.ref f)=true
theorem Fun.okD{g:Str}{st:Stmt}{N ps:List Str}{k:Nat}(F:Fun K x g st f fd)(S:aw N ps (aq st))(len:∀ vs H Q E,sp vs H Q E->vs.length=ps.length)
  (a:∀(d:Value)(A:Around)(outer:List Env)(s:Shared)(H:Hp)(vs:List V)(Q:VK)(E:XK),Room k (A.deeper (envOfC g (aq st) s.heap.objs.size f d))->sp vs H Q E ->
   ∃ t,PSs (cxOf (CXd P w) P w K mg base N g (aq st) f d A outer s H E) (bS st) t/\t { nx:=λ_ H'=>Q .non H',rt:=Q } (nV N vs) H):FnOk P w K mg base (CXd P w) (k+1) f fd ps sp:=by
 obtain⟨l,O,kV,j,i,m,d,n,b,rfl,u,z⟩:=F.ex;exact FW u z S len λA outer s H vs Q E B C=>a d A outer s H vs Q E B C
section
variable{X:Cx}{k:Nat}{f C:Addr}{fd:FuncData}{ps:List Str}{sp:Sp}{dvs:List V}{ds:List Value}{W:WKD}{x m:Str}{p pos apos:Pos}{e o:Expr}{es:List Expr}{ta:TE}{t:TA}
theorem WshD.of{v:Value}(k:WshD X W)(D:X.ex = [])(I:Inv X L J H s)(h:CXd X.prog X.w X.stack H s (λC d H'=>W C d J H') v s'):X.xe v s':=by
 obtain⟨x,C,T,H',d,rfl,os,a,un,y,i,c,e,f,n,z,q⟩:=h;have p:Inv X L J H' s':=I.call' os un y a λb z=>Nh z (by simp)
 exact k L J H' s' x C d p ⟨I.xok D i e,.inr ⟨T,I.xok D c f,n⟩⟩ z q
theorem E1{Q:VK}{vs:List V}(F:FnOk X.prog X.w X.K X.mg X.base (CXd X.prog X.w) k f fd ps sp)(hr:Room k X.A)(M:dA X.K fd ps ds)(hd:Vals dvs ds)(b:WshD X W)(D:X.ex = [])
  (I:Inv X L J H s) (r:Vals vs us) (h:sp (vs++dvs) H Q (λC d H'=>W C d J H')):wpAny (model X.prog X.w) X.A (call (.ref f) us) (EP X L J Q) X.xe s:=by
 have o:Vals (vs++dvs) (us++ds):=r.append hd;have g:(us++ds).length=ps.length:=by rw[← o.length];exact F.len _ _ _ _ h
 refine wpAny_call (Mh (F.run X.A X.stack s H ⟨us,[]⟩ (us++ds) (vs++dvs) Q _ hr I.env0 (M s us I.kIn g) o h) λr c n=>?_)
 cases r with
 |error e=>exact b.of D I n
 |ok l =>
  cases l with
  |ret u=>exact I.after n
  |next=>exact False.elim n
  |brk=>exact False.elim n
  |cont=>exact False.elim n
def DR(sp:Sp)(dvs:List V)(W:WKD)(t:TA):TE:=λO H Q=>t O H λY l=>sp (Y++dvs) l Q λC d j=>W C d O j
theorem wy(F:FnOk X.prog X.w X.K X.mg X.base (CXd X.prog X.w) k f fd ps sp)(hr:Room k X.A)(N:Gl X x)(C:X.mg x=some (.ref f))(G:Hw X.K (.ref f)=true)(M:dA X.K fd ps ds)(hd:Vals dvs ds)(b:WshD X W)(L:X.ex = [])
  (E:PA X (e::es) t) (v:(x == ("__debug__" : Str))=false:=by decide) (he:LR (e::es) X.env=(false,eval e X.env)::LR es X.env:=by rfl) (m:(backTo pos (LR es X.env)).any (·.1)=false:=by rfl) :
  PE X (.Call (.Name x p) (e::es) [] pos) (DR sp dvs W t):=by
 intro B s O H Q I h;refine Mi (jo I N C ?_ v);refine Jx (h₀:=X.base) I.ok.mod.kin G (thn (E pos B s O H _ I h) λJ g ⟨Y,l,i,r,q⟩=>⟨i.kIn,?_⟩) he m;exact E1 F hr M hd b L i r q
end
def EO(C:Addr)(W:WKD)(t:TA):TS:=λ_ O H=>t O H λY l=>Y.length<=LK/\W (.ref C) none O l
theorem zx{es:List Expr}{t:TA}{W:WKD}{u c:Pos}(f:ExC X.K C)(j:X.mg x=some (.ref C))(p:Gl X x)(k:WshD X W)(L:X.ex = [])(Y:X.calm=true)(E:PA X (e::es) t)
  (he:LR (e::es) X.env=(false,eval e X.env)::LR es X.env:=by rfl) (m:(backTo c (LR es X.env)).any (·.1)=false:=by rfl) (v:(x == ("__debug__" : Str))=false:=by decide) :
  PS X (.Raise (some (.Call (.Name x u) (e::es) [] c)) none pos) (EO C W t):=by
 intro B s O H D I h;obtain⟨tl,N,nm,o,bs,hdct,sn,sub,ab,col,dd,k0,k1,k2,k3,k5,mN,hC,a,G,T,_⟩:=A7 f I.ok.mod.kin;have aa:(backTo c (LR (e::es) X.env)).any (·.1)=false:=by
  rw[he];show(false||(backTo c (LR es X.env)).any (·.1))=false
  rw[m];rfl
 refine wpAny_Raise_call_subT (C:=C) (nm:=nm) (q:=o) (N:=N) (bs:=bs) (bm:=tl) (hdct:=hdct) (sn:=sn) (sub:=sub) (ab:=ab) (col:=col) (dd:=dd) (k0:=k0) (k1:=k1) (k2:=k2) (k3:=k3) (k5:=k5) Lm (mN:=mN) (T.hasType Lm.hasBase) (I.ok.hd Y) aa G (jo I p j ⟨rfl,?_⟩ v);have z:=E c B s O H _ I h;rw[he]at z ⊢;refine Calls.evalArgs_plain (LS z (λJ b zz=>?_) λ_ _ y=>y);obtain⟨M,l,w,r,g,q⟩:=zz;refine⟨rfl,by rw[← r.length];exact g,w.bk _ _ hC,a.keeps w.bk,T.keeps w.bk,λA Q i=>?_⟩
 obtain⟨t0,d,_,_⟩:=i.there;have n:Inv X B O l { b with heap:=A }:=w.kept (t':=b.toks) i.keeps;exact k B O l _ Q (.ref C) none n ⟨w.xok L i.new (w.hok.none_of i.new),.inl ⟨_,_,_,d,rfl,rfl,rfl,rfl⟩⟩ ⟨_,d,rfl⟩ q
def WshTD(X:Cx)(W:WKD):Prop:=∀(B:List (Addr×Obj))(O:St)(H:Hp)(s:Shared)(x T:Addr)(C:Value)(d:Option Addr),Inv X B O H s->XOk X B H x->XOk X B H T->Trc s.heap x C T->Xd s.heap x d->W C d O H->X.xe (.ref x) s
section
variable{X:Cx}{k:Nat}{f:Addr}{fd:FuncData}{ps:List Str}{sp:Sp}{dvs:List V}{ds:List Value}{W:WKD}{x:Str}{p pos:Pos}{e:Expr}{es:List Expr}{t:TA}
theorem rM(F:FnOk X.prog X.w X.K X.mg X.base (CXd X.prog X.w) k f fd ps sp)(hr:Room k X.A)(N:Gl X x)(j:X.mg x=some (.ref f))(G:Hw X.K (.ref f)=true)(M:dA X.K fd ps ds)(hd:Vals dvs ds)(m:WshTD X W)(L:X.ex = [])
  (E:PA X (e::es) t) (v:(x == ("__debug__" : Str))=false:=by decide) (he:LR (e::es) X.env=(false,eval e X.env)::LR es X.env:=by rfl) (aa:(backTo pos (LR es X.env)).any (·.1)=false:=by rfl) :
  PE X (.Call (.Name x p) (e::es) [] pos) (DR sp dvs W t):=by
 intro B s O H Q I h;refine Mi (jo I N j ?_ v);refine Jx (h₀:=X.base) I.ok.mod.kin G (thn (E pos B s O H _ I h) λJ o ⟨Y,l,i,r,q⟩=>⟨i.kIn,?_⟩) he aa;have D:Vals (Y++dvs) (J++ds):=r.append hd;have g:(J++ds).length=ps.length:=by rw[← D.length];exact F.len _ _ _ _ q
 refine wpAny_call (Mh (F.run X.A X.stack o l ⟨J,[]⟩ (J++ds) (Y++dvs) Q _ hr i.env0 (M o J i.kIn g) D q) λr c n=>?_)
 cases r with
 |error e =>
  obtain⟨x,C,T,a,d,rfl,os,ab,un,y,nx,nT,tx,tT,tr,z,q'⟩:=n;have I':Inv X B O a c:=i.call' os un y ab λb z=>Nh z (by simp)
  exact m B O a c x T C d I' (i.xok L nx tx) (i.xok L nT tT) tr z q'
 |ok fl =>
  cases fl with
  |ret u=>exact i.after n
  |next=>exact False.elim n
  |brk=>exact False.elim n
  |cont=>exact False.elim n
end
section
variable{M:Model}{A:Around}{E:Value->Shared->Prop}{h:Heap}{g:Array GenState}{d:Drawn}{t:Nat}{os:OsState}
theorem F2{D:Addr}{p q:Str}{r l:List Value}{c:Bool}{s:List Str}{m:List Value}{v:Bool}{n:Option Bool}{i:Option Addr}{z o w B G:Option Value}{y:String}{x:Addr}{Q:Bool->Shared->Prop}
  (e:h.get? D=some (excClassObj p q D a r l c s m v n i z o w B G y)) (f:h.get? x=some ob) (b:ob.cls=.ref C)
  (k:(Value.ref D::l).contains (.type "BaseException")=true) (u:Ki M h (isSubtype (.ref C) (.ref D)) true) (hq:Q true ⟨h,g,d,t,os⟩):wpAny M A (excMatches (.ref x) (.ref D)) Q E ⟨h,g,d,t,os⟩:=by
 have j:=tc_notTuple;unfold excMatches;repeat (first | (with_reducible refine wpAny_loadPart_at f ?_;rw[b]) | with_reducible refine wpAny_loadPart_at e ?_ | (with_reducible refine wpAny_isSubtype_exc e ?_;rw[k]) | with_reducible refine u.at ?_ | wp_step)
 exact hq
end
def excD(x C:Addr)(d:Option Addr):HO:=.ext λh=>∃ o,h.get? x=some o/\o.cls=.ref C/\o.dict=d/\Lq o=true
def EN(ie:Nat)(Cs:Addr->Prop)(tb:WKD->TS)(ts:TS):TS:=λb O H=>tb (λC d a l=>∃ c,C=.ref c/\Cs c/\∀ x,l x=none->ts { nx:=λh N=>b.nx (h.set ie none) N,rt:=λ_ _=>False } (a.set ie (some (.ref x))) (upd l x (excD x c d))) b O H
theorem zw{ab:List Stmt}{b0:Stmt}{aR:List Stmt}{dn en:Str}{np a3:Pos}{D:Addr}{ie:Nat}{Cs:Addr->Prop}{tb:WKD->TS}{ts:TS}(L:X.ex = [])(ac:X.stack=X.env::X.outer)(aL:X.env.frame=some X.env.locals)(hN:X.N.Nodup)(hi:X.N[ie]?=some en)(hl:X.env.kindOf en=some .local)
  (bo:Gl X dn) (bu:X.mg dn=some (.ref D)) (eD:ExC X.K D) (a7:∀ c,Cs c->HV X.K c (.ref D)=some true)
  (M:∀ B XE W,WshTD (X.tried B XE) W->PSs (X.tried B XE) ab (tb W)) (i:∀ v,PSs (X.marked v) (b0::aR) ts) (al:(dn == ("__debug__" : Str))=false:=by decide) :
  PS X (.Try ab [.ExceptHandler (some (.Name dn np)) (some en) (b0::aR) a3] [] [] pos) (EN ie Cs tb ts):=by
 intro B s O H Ds I h;refine wpAny_Try_except ?_;refine LS (M B (λe aa=>wpAny (model X.prog X.w) X.A (noteFrame e X.env) (λ_ an=>wpAny (model X.prog X.w) X.A (setFlight e none) (λ_ am=>wpAny (model X.prog X.w) X.A (handleBy e X.env [.ExceptHandler (some (.Name dn np)) (some en) (b0::aR) a3]) (SP X B Ds) X.xe am) X.xe an) X.xe aa) _ ?_ [] s O H Ds I.tried h) (λf s1 q=>?_) λ_ _ z=>z
 .intro bv aI l s1 x T C d n xx xT tr zd hw;obtain⟨c,rfl,t,a1⟩:=hw;have I2:Inv X B aI l s1:=n.untried;have x2:XOk X B l x:=xx.untried;have T2:XOk X B l T:=xT.untried;have a2:X.A.frames=some (X.env::X.outer):=by rw[← ac];exact I2.ok.frames
  have bd:∀{h:Heap}{T:Addr},Inv X B aI l { s1 with heap:=h }->Trc h x (.ref c) T->∃ a0,Heap.FlyingW (hidX X h [x,T]) (X.env::X.outer) x (.ref c) a0 h:=λ{h T} J tr=>by
   obtain⟨oe,g,a0,oT,ts,r,aO,h0,hd,k,aT,hT,aS,h3⟩:=tr;exact⟨a0,AK _ _,jW (by simp),ac▸J.hidF [x,T],⟨oe,g,T,oT,ts,r,⟨aO,h0⟩,hd,k,jW (by simp),aT,hT,aS,h3⟩⟩
  have two:∀{T:Addr},XOk X B l T->∀ b∈[x,T],XOk X B l b:=λ{T} hT b M=>by
   rcases GG.mp M with e | M
   .rw[e];exact x2
   .have e:b=T:=by simpa using M
    rw[e];exact hT
  obtain⟨a0,fl⟩:=bd (h:=s1.heap) I2 tr;refine LS (lT (ib _ _) (wpAny_looks_onW (Q:=λ_ s'=>∃ h4,s'={ s1 with heap:=h4 }/\Heap.HeldW (hidX X s1.heap [x,T]) (X.env::X.outer) x (.ref c) a0 X.env.locals h4/\s1.heap.UpToSlots h4) (E:=λ_ _=>False) a2 aL fl λh4 a b=>⟨h4,rfl,a,b⟩)) ?_ (λ_ _ q=>q.1.elim);rintro _ s4 ⟨⟨h4,rfl,a9,bx⟩,bB⟩;refine LS (lT (eu _ _) (wpAny_landsW (Q:=λ_ s'=>∃ h5,s'={ s1 with heap:=h5 }/\Heap.FlyingW (hidX X s1.heap [x,T]) (X.env::X.outer) x (.ref c) a0 h5/\h4.UpToSlots h5) (E:=λ_ _=>False) a9 λh5 a b=>⟨h5,rfl,a,b⟩)) ?_ (λ_ _ q=>q.1.elim);rintro _ s5 ⟨⟨h5,rfl,be,bD⟩,bP⟩;obtain⟨I5,T5,bQ,ba⟩:=I2.left L (two T2) be.1 be.2.2.2 (bx.trans bD);have z5:Xd h5 x d:=zd.dk (DK.trans (b:=h4) bB bP) ba.there;refine wpAny_handleBy_cons (codeAny_handlers_test (Calls.Name_function_global I5.ok.kind bo (Calls.loadGlobal_global (by rw[I5.ok.glob];exact I5.mod.glob.keeps I5.bk) bu ?_) al)) (by intro q;cases q)
  obtain⟨_,_,_,_,_,_,_,_,_,_,_,_,_,_,_,_,_,hD,_,_,TD,_⟩:=A7 eD I5.kIn;have a6:=TD.hasType (X:="BaseException") (b:=true) rfl;obtain⟨ob,_,_,_,_,a4,aO,_⟩:=id ba;refine F2 hD a4 aO (by rw[List.contains_cons,a6,Bool.or_true]) (KH I5.kIn (a7 c t)) ?_
  refine codeAny_handlers_suite_as ?_;obtain⟨a5,bg⟩:=bd I5 ba;refine LS (lT (eu _ _) (lands_againW (Q:=λ_ s'=>∃ h6,s'={ s1 with heap:=h6 }/\Heap.FlyingW (hidX X h5 [x,T5]) (X.env::X.outer) x (.ref c) a5 h6/\h5.UpToSlots h6) (E:=λ_ _=>False) (s:={ s1 with heap:=h5 }) bg λh6 a b=>⟨h6,rfl,a,b⟩)) ?_ (λ_ _ q=>q.1.elim);rintro _ s6 ⟨⟨h6,rfl,bi,bR⟩,bU⟩;obtain⟨I6,T6,cb,bm⟩:=I5.left L (two bQ) bi.1 bi.2.2.2 bR;have z6:Xd h6 x d:=z5.dk bU bm.there;obtain⟨oe,cc,_,_,_,r,bn,_,ap,_⟩:=id bm;have bY:Lq oe=true:=by unfold Lq;rw[ap]
  have bZ:oe.dict=d:=by
   obtain⟨o2,G,d2⟩:=z6;rw[r]at G
   cases G
   exact d2
  have I7:=I6.xtrack (o:=excD x c d) x2 ⟨⟨oe,r,bn,bZ,bY⟩,⟨oe,r⟩,λk Y ⟨o,z1,z2⟩ p=>⟨o,p o z1,z2⟩⟩;refine lV I7 hN hi (.inl hl) (v:=.ref x) rfl (λs8 I8=>?_) (.inr hl);refine LS (i (.ref x) B s8 _ _ _ (I8.marked _) (a1 x x2.trk)) (λf s9 q9=>?_) λ_ _ z=>z.elim
  cases f with
  |next =>
   obtain⟨b6,H9,I9,q9⟩:=q9;have bb:Inv X B b6 H9 s9:=Inv.unmarked (hd:=I2.ok.hd) (fr:=I2.ok.frames) I9;obtain⟨m,j⟩:=bb.loc;refine wpAny_nameGoes_keeps hl j.1 (by rw[bb.ok.kind];rfl) λh' v y ca=>?_
   exact⟨_,_,bb.gone hN hi j y ca,q9⟩
  |brk=>obtain⟨_,_,_,z⟩:=q9;exact z.elim
  |cont=>obtain⟨_,_,_,z⟩:=q9;exact z.elim
  |ret u=>obtain⟨_,_,_,_,_,z⟩:=q9;exact z.elim
 .have q':=SP.untried q
  cases f with
  |next=>exact wpAny_execs_nil q'
  |brk=>exact q'
  |cont=>exact q'
  |ret u=>exact q'
end L2
namespace L2
open PySem PySem.Spec PyProof.Rows PySem.Calls Builtin Builtin.ObjectAttr
section
variable{prog:Program}{w:World}{A:Around}{E:Value->Shared->Prop}{h:Heap}{g:Array GenState}{d:Drawn}{t:Nat}{os:OsState}
variable{nm q:Str}{C N:Addr}{bs bm bmB:List Value}{hdct:Bool}{sn:List Str}{sub:List Value}{ab:Bool}{col:Option Bool}{dd:Option Addr}{k0 k1 k2 k3 k5:Option Value}{B newId initId:String}
end
section
variable{prog:Program}{w:World}{A:Around}{E:Value->Shared->Prop}{s:Shared}{K:Gw}{x C fI:Addr}{name:Str}{v:Value}
end
section
variable{X:Cx}{pins:List (Addr×Obj)}{σ:St}{H:Hp}{s:Shared}{A:Around}{E:Value->Shared->Prop}{a C fI:Addr}{f:Str}
end
section
variable{prog:Program}{w:World}{A:Around}{E:Value->Shared->Prop}{s:Shared}{env:Env}
variable{nm q:Str}{C N:Addr}{bs bm bmB:List Value}{hdct:Bool}{sn:List Str}{sub:List Value}{ab:Bool}{col:Option Bool}{dd:Option Addr}{k0 k1 k2 k3 k5:Option Value}{B newId initId:String}
end
theorem nJ:gy X (.builtin "isinstance") (λxs H Q=>∃ x c n d b,xs = [.ref x,.ref d]/\H x=some (excD x c n)/\ErC X.K c/\HG X.K (.ref c) (.ref d)=some b/\Q (.bl b) H):=by
 intro B s O H xs J Q I r h;obtain⟨x,c,n,d,b,rfl,L,f,E,q⟩:=h;obtain⟨k,g,rfl,j,D⟩:=yB r
 cases j
 cases D
 obtain⟨⟨o,i,C,_⟩,_,_⟩:=(show bp X.prog X.w H s.heap x (excD x c n) from I.hok x _ L);exact HW (wC f) I.kIn ⟨o,i,C⟩ E (λz=>nomatch z) λl=>⟨.bl b,H,I.tok l,rfl,q⟩
theorem yn:gy X (.builtin "isinstance") (λxs H Q=>∃ x c n T b,xs = [.ref x,.ty T]/\H x=some (excD x c n)/\ErC X.K c/\HG X.K (.ref c) (.type T)=some b/\Q (.bl b) H):=by
 intro B s O H xs J Q I r h;obtain⟨x,c,n,T,b,rfl,L,f,E,q⟩:=h;obtain⟨k,g,rfl,j,D⟩:=yB r
 cases j
 cases D
 obtain⟨⟨o,i,C,_⟩,_,_⟩:=(show bp X.prog X.w H s.heap x (excD x c n) from I.hok x _ L);exact HW (wC f) I.kIn ⟨o,i,C⟩ E (λz=>nomatch z) λl=>⟨.bl b,H,I.tok l,rfl,q⟩
end L2
namespace L2
open PySem PySem.Spec PyProof.Rows
theorem vO.g{c:TE}{f:St}{J:It}(h:vO c f J H1 QQ):gD (kc 0) tYes c 1 f J H1 QQ:=by
 obtain⟨W,u,st⟩:=h;refine⟨W,u,λi m d H w=>?_⟩;obtain⟨l,h⟩:=st i m d H w;refine⟨l,h.imp id λ⟨go,N,k,h⟩=>⟨go,λM a=>∃ y,M=d++[y]/\N y a,λM a ⟨y,e,n⟩=>e▸k y a n,λx j v=>⟨rfl,yesT ?_⟩⟩⟩
 have e:(λy E=>∃ q,d++[y]=d++[q]/\N q E)=N:=funext λy=>funext λE=>propext ⟨λ⟨q,e,n⟩=>by
  have:y=q:=by simpa using e
  rw[this];exact n,λn=>⟨y,rfl,n⟩⟩
 rw[e];exact h x j v
theorem cC{c:TE}(Pv:Nat->List V->Hp->Prop)(hz:xs.length<=LK)(w:Pv 0 [] H1)(hl:∀ i ys H,i<=xs.length->Pv i ys H->SqL K H a xs)
  (G:∀ i x ys H,xs[i]?=some x->Pv i ys H->c (some x::J) H λy H2=>Pv (i+1) (ys++[y]) H2) (hd:∀ ys H,ys.length=xs.length->Pv xs.length ys H->QQ ys H):gD (kc 0) tYes c 1 J (Itl K a) H1 QQ:=(Bx Pv hz w hl G hd).g
theorem cY{lo:Int}{c:TE}(Pv:Nat->List V->Hp->Prop)(hz:n<=LK)(w:Pv 0 [] H1)
  (G:∀ i ys H,i<n->Pv i ys H->c (some (.int (lo+i))::J) H λy H2=>Pv (i+1) (ys++[y]) H2) (hd:∀ ys H,ys.length=n->Pv n ys H->QQ ys H):gD (kc 0) tYes c 1 J (Itr lo n) H1 QQ:=(yg Pv hz w G hd).g
section
variable{X:Cx}{scope:Scope}{fr:List (Str×Nat)}{xs:List Str}{elt iter tg:Expr}{ifs:List Expr}{pos:Pos}{tt:TT}{tgt:TG}{wi:TI}{te:TE}
end
section
variable{prog:Program}{w:World}{A:Around}{E:Value->Shared->Prop}{s:Shared}
theorem Ap{Pv:Nat->Value->Prop}{Sq:Nat->Heap->Prop}{T:String}(W:Walks prog w A.in1.in1 I fp [I] n Pv Sq)(y:n<=LK)(st:Sq 0 s.heap)(z:I∈fp)(aa:∀ b∈fp,b<s.heap.objs.size)
  (l:∀ h,Sq 0 h->∃ o,h.get? I=some o/\o.cls=.type T) (t1:(Value.type T == Value.type "list")=false) (t2:(Value.type T == Value.type "tuple")=false)
  (hint:∀(h:Heap)(v:Bool->Shared->Prop)(B:Value->Shared->Prop),Sq 0 h->(∀ tk,v false { s with heap:=h,toks:=tk })->wpAny (model prog w) A.in1.in1 (Ms (.ref I)) v B { s with heap:=h })
  (d:∀ h' tk m c',(∀ b o,b≠I->s.heap.get? b=some o->h'.get? b=some o)->h'.get? s.heap.objs.size=some { cls:=.type "list",dict:=none,data:=.seq m c',slots:=#[] }->ItemsOf Pv m n->Q (.ref s.heap.objs.size) { s with heap:=h',toks:=tk }) :
  wpAny (model prog w) A (call (.type "list") [.ref I]) Q E s:=by
 refine callType_codes (Q₁:=λt c=>t=.ref s.heap.objs.size/\c={ s with heap:=s.heap.push { cls:=.type "list",data:=.seq #[] } }) PySem.F.called_list (LA _) LC
  (code_list_new _ ⟨rfl,rfl⟩) λt c g=>?_
 obtain⟨rfl,rfl⟩:=g;have H:(s.heap.push { cls:=.type "list",data:=.seq #[] }).get? s.heap.objs.size=some { cls:=.type "list",data:=.seq #[] }:=L6 _ rfl;have N:s.heap.objs.size∉fp:=λC=>HF _ (aa _ C);refine⟨⟨_,H,rfl⟩,Lv _ _,?_⟩;show wpAny _ _ (Nd (.ref s.heap.objs.size) >>= λa=>Builtin.List.listUpdate (.ref s.heap.objs.size) (λ_=>#[]) >>= λ_=>letGo a.toList.reverse >>= λ_=>Nb (.ref s.heap.objs.size) (.ref I) .none) _ _ _;refine LX ?_;unfold Nd;refine LX (MR H rfl (L4 ?_));show wpAny _ _ (MU s.heap.objs.size (λ_=>#[]) >>= λ_=>letGo (#[]:Array Value).toList.reverse >>= λ_=>Nb (.ref s.heap.objs.size) (.ref I) .none) _ _ _;refine LX (MV H rfl ?_);have k:=Mm (Ml (λ_=>(#[]:Array Value))) H rfl;have oth:∀ b o,s.heap.get? b=some o->((s.heap.push { cls:=.type "list",data:=.seq #[] }).update s.heap.objs.size (Ml (λ_=>(#[]:Array Value)))).get? b=some o:=λb o e=>(Mn _ _ (HY (LL e))).trans (L5 _ e);refine LX (MH ?_);generalize ((s.heap.push { cls:=.type "list",data:=.seq #[] }).update s.heap.objs.size (Ml (λ_=>(#[]:Array Value))))=Y at k oth;have O:=W.frame 0 s.heap Y st λb _ o e=>oth b o e;have u:∀(h:Heap)(c1 tk:Nat),(∀ b o,s.heap.get? b=some o->h.get? b=some o)->h.get? s.heap.objs.size=some { cls:=.type "list",data:=.seq #[] c1 }->Md (model prog w) A.in1 (.builtin "list.extend.loop" ⟨[.ref s.heap.objs.size,.ref I,.none],[]⟩) (wants (λr j=>r=Value.none/\Q (.ref s.heap.objs.size) j) E) { s with heap:=h,toks:=tk }:=by
  intro h c1 tk G q;refine codeAny_extend_loopS W.toS y s.heap.objs.size N .none n 0 _ #[] c1 rfl (Hq _) (W.frame 0 s.heap h st λb _ o e=>G b o e) q (ItemsOf.nil _) λL m c' C f x=>?_;rw[Moved.eq_with C];refine⟨rfl,d L.heap L.toks m c' (λb o M e=>C.heap b o (λp=>?_) (G b o e)) f x⟩;rcases GG.mp p with i | p
  .exact G0 (LL e) i
  .exact M (GJ.mp p)
 unfold Nb;refine LX (wpAny_typeOf (T:=T) (l _ O) ?_);have J:Nc (.ref s.heap.objs.size) (.ref I)=false:=by
  have:s.heap.objs.size≠I:=λe=>N (e▸z);simp[Nc,this]
 simp only[J,t1,t2,LH,HL,if_false];refine LX (W.self 0 _ _ _ O (LX (LY (hint _ _ _ O λtk=>?_))));refine Mt (λ_=>?_) (λ_=>L4 ⟨MX Iz _,u _ _ _ oth k⟩);refine LX (wpAny_rule (LX ?_));show wpAny _ _ (MU s.heap.objs.size (·.push .none) >>= λ_=>MU s.heap.objs.size (·.pop)) _ _ _;refine LX (MV k rfl ?_);have D:=Mm (Ml (·.push Value.none)) k rfl;refine MV (hz:=by seq_fits) D rfl ?_
 have ab:=Mm (Ml (·.pop)) D rfl;exact L4 ⟨MX Iz _,u _ _ _ (λb o e=>(Mn _ _ (HY (LL e))).trans ((Mn _ _ (HY (LL e))).trans (oth b o e))) ab⟩
end
theorem EJ{p:Array Value}(rv:Vals ys its)(h:ItemsOf (λi v=>its.toArray[its.toArray.size-1-i]?=some v) p its.toArray.size):Vals ys.reverse p.toList:=by
 have e:p.toList=its.reverse:=by
  apply List.ext_getElem?;intro i;by_cases T:i<its.length
  .have x:i<p.size:=by rw[h.1];simpa using T
   have q:=h.2 i p[i] (HS x);rw[Hv,HS x,List.getElem?_reverse T,← q];simp
  .rw[Io (by rw[Hd,h.1];simpa using T),Io (by rw[Jb];omega)]
 rw[e];exact rv.reverse
theorem m5{te:TE}{p p2 ac:Pos}(t:X.calm=true) (N:Gl X "list") (C:X.mg "list" = none) (am:Gl X "reversed") (al:X.mg "reversed" = none) (he:PE X e te)
  (J:LR [.Call (.Name "reversed" p2) [e] [] ac] X.env = [(false,eval (.Call (.Name "reversed" p2) [e] [] ac) X.env)]:=by rfl) (h2:LR [e] X.env=(false,eval e X.env)::LR [] X.env:=by rfl) :
  PE X (.Call (.Name "list" p) [.Call (.Name "reversed" p2) [e] [] ac] [] pos) (λO H Q=>te O H λx H1=>∃ l ys,x=.ref l/\SqL X.K H1 l ys/\∀ q,H1 q=none->Q (.ref q) (upd H1 q (.lst ys.reverse))):=by
 intro B s O H Q I h;refine Mi (gX I N C kX ?_);refine L7 ?_ J rfl;rw[J];refine Mg ?_;refine Mi (gX I am al vG ?_);refine L7 ?_ h2 rfl;rw[h2];refine Mg (thn (he B s O H _ I h) λu g ⟨x,H1,i,r,L⟩=>?_);obtain⟨l,ys,rfl,m,q⟩:=L
 cases r
 refine Mf ?_;obtain⟨E,rv,pl,D⟩:=i.list m;have y:E.toArray.size=ys.length:=by rw[GQ,rv.length]
 refine call_reversed_list pl.isList ?_;refine Mf ?_;have f:l<g.heap.objs.size:=by
  obtain⟨o,n,d,_⟩:=pl;exact LL d
 have w:Inv X B O H1 { g with heap:=g.heap.push (revObj l ((E.toArray.size:Int)-1)) }:=i.kept (t':=g.toks) λb o e=>L5 _ e;have ab:(g.heap.push (revObj l ((E.toArray.size:Int)-1))).IsRevIter g.heap.objs.size l ((E.toArray.size:Int)-1):=⟨_,L6 _ rfl,rfl,rfl⟩;refine Ap (T:="list_reverseiterator") (Walks.listRev (A:=X.A.in1.in1) (I.ok.hd t) g.heap.objs.size l (G0 f) E.toArray) (by rw[y];exact D) ⟨Hq _,by simpa using ab,pl.isList.push _⟩ (by simp) (λb M=>?fp) (λh z=>let ⟨o,c,t,_⟩:=z.2.1;⟨o,c,t⟩) (by decide) (by decide) (λh Q' E' z k=>C8 z.2.1.typeIs (k g.toks)) λj tk a Y G v aa=>?_
 case fp =>
  rw[Me];rcases GG.mp M with e | e
  .rw[e];exact HB _
  .rw[GJ.mp e];exact Ik f
 obtain⟨f0,f1,f2,f3,f4,f5⟩:=i.fpOk (H':=H1) (Gy _) (i.hok.fresh (Gy _));have I3:Inv X B O H1 { g with heap:=j,toks:=tk }:=w.turned (t':=tk) (λb o M e=>G b o M e) f0 f1 f3 f4 f5;have fS:=w.fpOk (H':=H1) (Gy _) (w.hok.fresh (Gy _));have I4:=I3.track (o:=.lst ys.reverse) fS ⟨by rw[Jb];exact D,a.toList,Y,EJ rv aa,by rw[Array.toArray_toList];exact v⟩
 exact⟨.ref _,_,I4,rfl,q _ fS.1⟩
section
variable{X:Cx}{k n:Nat}{f:Addr}{fd:FuncData}{ps:List Str}{sp:Sp}{x:Str}{p pos:Pos}{e:Expr}{es:List Expr}{t:TA}
theorem Cal.c(G:Cal X.prog X.w X.K X.mg X.base k x ps sp f fd)(hr:Room n X.A)(E:PA X (e::es) t)(N:Gl X x:=by rfl)(hl:k<=n:=by first | decide | omega) (v:(x == ("__debug__" : Str))=false:=by decide)
  (he:LR (e::es) X.env=(false,eval e X.env)::LR es X.env:=by rfl) (m:(backTo pos (LR es X.env)).any (·.1)=false:=by rfl):PE X (.Call (.Name x p) (e::es) [] pos) (BZ sp [] E0 t) :=
 E9 G.ok (hr.mono hl) N G.mg G.kp G.bn .nil fR E v he m
theorem Cal.d(G:Cal X.prog X.w X.K X.mg X.base k x ps sp f fd)(hr:Room n X.A)(N:Gl X x:=by rfl)(hl:k<=n:=by first | decide | omega) (v:(x == ("__debug__" : Str))=false:=by decide):PE X (.Call (.Name x p) [] [] pos) (BZ sp [] E0 tNil) :=
 Ci G.ok (hr.mono hl) N G.mg G.kp G.bn .nil fR v
end
section
variable{X:Cx}{a b:Expr}{ta tb:TE}{pos:Pos}
theorem bH(E:PE X a ta)(M:PE X b tb)(G:nO b:=by exact λ_ _=>rfl):PE X (.Subscript a b pos) (tOp (rIxL X.K) ta tb):=xo qg E M G
theorem dw(E:PE X a ta)(M:PE X b tb)(G:nO b:=by exact λ_ _=>rfl):PE X (.Subscript a b pos) (tOp (rIxT X.K) ta tb):=xo Ej E M G
theorem zM(K:Gw)(E:PE X a ta)(M:PE X b tb)(G:nO b:=by exact λ_ _=>rfl)(h:X.K=K:=by rfl):PE X (.Subscript a b pos) (tOp (rIxL K) ta tb):=xo (C4 h) E M G
theorem nW(K:Gw)(E:PE X a ta)(M:PE X b tb)(G:nO b:=by exact λ_ _=>rfl)(h:X.K=K:=by rfl):PE X (.Subscript a b pos) (tOp (rIxT K) ta tb):=xo (FP h) E M G
theorem ay(i:Nat){c:TE}{a:Pos}(k:X.N.Nodup)(he:PE X e c)(hi:X.N[i]?=some x:=by rfl)(L:Loc X.env.scope x:=by first | exact .inl rfl | exact .inr rfl)(G:swapsWith e (some (.Name x a)) pos.line X.env=pure false:=by rfl)(D:X.fn x=true∨X.env.scope.names.lookup x=some .local:=by first | exact .inl rfl | exact .inr rfl | assumption) :
  PS X (.Assign [.Name x a] e pos) (tAsg c (kc i)):=ps_set k hi L he G D
theorem cJ(i:Nat)(k:X.N.Nodup)(hi:X.N[i]?=some x:=by rfl)(L:Loc X.env.scope x:=by first | exact .inl rfl | exact .inr rfl)(D:X.fn x=true∨X.env.scope.names.lookup x=some .local:=by first | exact .inl rfl | exact .inr rfl | assumption):PG X (.Name x pos) (kc i):=aV k hi L D
end
def AllL{α:Type}(Q:α->Prop):List α->Prop
 |[]=>True
 |x::r=>Q x/\AllL Q r
theorem AllL.mem{α:Type}{Q:α->Prop}:∀{l:List α},AllL Q l->∀ x∈l,Q x
 |_::_,h,_,.head _=>h.1
 |_::_,h,_,.tail _ m=>AllL.mem h.2 _ m
section
variable{X:Cx}{scope:Scope}{elt iter tg:Expr}{ifs:List Expr}{pos:Pos}{tt:TT}{tgt:TG}{wi:TI}{te:TE}
theorem lR.au{xs:List Str}(clos:closureFor scope X.env=pure (clOf X.env fr):=by rfl)(cell:∀ y∈scope.names,y.2≠.cell:=by decide)(kind:scope.kind=.function:=by rfl)(names:∀ y∈scope.names,y.2=.local->scope.names.lookup y.1=some .local:=by decide)
  (slot:AllL (λp=>X.N[p.2]?=some p.1/\X.env.kindOf p.1=some .cell) fr:=by repeat (first | exact True.intro | refine⟨⟨rfl,rfl⟩,?_⟩)) (h:∀ z∈scope.names,z.2=.free->z.1∈fr.map (·.1):=by decide) (frk:AllL (λp=>(relabel scope X.env).names.lookup p.1=some .cell) fr:=by repeat (first | exact True.intro | refine⟨rfl,?_⟩)):lR X scope fr xs :=
 .of clos cell kind names slot.mem h frk.mem
theorem dU(fr:List (Str×Nat))(xs:List Str)(hi:PI X tg iter wi)(L:∀ C ex s H,PG (cxG X scope fr xs C ex s H) tg tgt)(ht:∀ C ex s H,PTs (cxG X scope fr xs C ex s H) ifs tt)(he:∀ C ex s H,PE (cxG X scope fr xs C ex s H) elt te)(t:X.calm=true:=by rfl)(O:lR X scope fr xs:=by exact .au)(G:∀ x,L8 iter X.env x=pure x:=by intro _;rfl):PE X (.ListComp elt [⟨tg,iter,ifs,0⟩] scope pos) (DQ wi tgt tt te xs.length fr) :=
 Cg t O hi L ht he G
theorem mY(i:Nat)(fr:List (Str×Nat))(xs:List Str){y:Str}{b a:Pos}(k:X.N.Nodup)(hi:PI X tg iter wi)(L:∀ C ex s H,PG (cxG X scope fr xs C ex s H) tg tgt)(ht:∀ C ex s H,PTs (cxG X scope fr xs C ex s H) ifs tt)(he:∀ C ex s H,PE (cxG X scope fr xs C ex s H) elt te)
  (t:X.calm=true:=by rfl) (Y:X.N[i]?=some y:=by rfl) (Q:X.env.scope.names.lookup y=some .local:=by rfl) (O:lR X scope fr xs:=by exact .au) (c:swapsWith (.ListComp elt [⟨tg,iter,ifs,0⟩] scope pos) (some (.Name y b)) a.line X.env=pure true:=by rfl) (G:∀ x,L8 iter X.env x=pure x:=by intro _;rfl) :
  PS X (.Assign [.Name y b] (.ListComp elt [⟨tg,iter,ifs,0⟩] scope pos) a) (qZ i wi tgt tt te xs.length fr) :=
 t6 t k Y Q O hi L ht he c G
theorem pg_c{xs:List Str}(k:(xs++fr.map (·.1)).Nodup:=by decide)(w:(xs++fr.map (·.1))[0]?=some x:=by rfl)(L:∀ C ex s H,Loc (cxG X scope fr xs C ex s H).env.scope x:=by exact λ_ _ _ _=>.inl rfl)(D:∀ C ex s H,(cxG X scope fr xs C ex s H).fn x=true∨(cxG X scope fr xs C ex s H).env.scope.names.lookup x=some .local:=by exact λ_ _ _ _=>.inr rfl) :
  ∀ C ex s H,PG (cxG X scope fr xs C ex s H) (.Name x pos) (kc 0):=λC ex s H=>aV (X:=cxG X scope fr xs C ex s H) k w (L C ex s H) (D C ex s H)
theorem pt_c{xs:List Str}:∀ C ex s H,PTs (cxG X scope fr xs C ex s H) [] tYes:=λ_ _ _ _=>E5
end
end L2
namespace K2
def S:List Nat->Nat
 |[]=>0
 |p::r=>2^p+S r
theorem Gi{p:Nat}(h:n.testBit p=false)(i:Nat):(n+2^p).testBit i=(n.testBit i||decide (i=p)):=by
 have e:n+2^p=n|||2^p:=by
  have g:n&&&2^p=0:=by
   apply HD;intro j;rw[Jk,Hf,HP];by_cases B:p=j
   .subst B;simp[h]
   .simp[B]
  have q:∀ m k:Nat,(m|||k)+(m&&&k)=m+k:=by
   intro m;induction m using Nat.strongRecOn with
   |ind m D =>
    intro n;by_cases w:m=0
    .subst w;simp
    .have a:=D (m/2) ∅ (n/2)
     rw[← Nat.or_div_two,← Nat.and_div_two]at a;have f:=@Nat.or_mod_two_eq_one m n;have u:=@Nat.and_mod_two_eq_one m n;omega
  have:=q n (2^p);rw[g]at this;omega
 rw[e,Jg,Hf];congr 1;exact decide_eq_decide.mpr ⟨λh=>h.symm,λh=>h.symm⟩
theorem S_bit:∀{D:List Nat},D.Nodup->∀ i,(S D).testBit i=decide (i∈D)
 |[],_,i=>by simp[S]
 |p::r,H,i=>by
  have ⟨J,Y⟩:=Hj.mp H;have j:(S r).testBit p=false:=by rw[S_bit Y];exact LJ J
  have e:S (p::r)=S r+2^p:=Nat.add_comm _ _;rw[e,Gi j,S_bit Y];by_cases a:i=p<;>by_cases b:i∈r<;>simp[a,b]
def bitsF(k n:Nat):List Nat:=if h:n=0 then[] else(if n%2=1 then[k] else[])++bitsF (k+1) (n/2)
termination_by n
decreasing_by omega
theorem bitsF_zero(k:Nat):bitsF k 0 = []:=by rw[bitsF];simp
theorem bitsF_odd{k:Nat}(h:n%2=1):bitsF k n=k::bitsF (k+1) (n/2):=by
 rw[bitsF,dif_neg ∅,Nf h];rfl
theorem bitsF_even{k:Nat}(w:n≠0)(h:¬ n%2=1):bitsF k n=bitsF (k+1) (n/2):=by
 rw[bitsF,dif_neg w,Ng h];rfl
theorem qQ:∀(f n k:Nat),n<=f->∀ p∈bitsF k n,k<=p
 |0,n,k,h=>by
  have z:n=0:=by omega
  subst z;rw[bitsF_zero];intro p j;cases j
 |f+1,n,k,h=>by
  intro p j;by_cases z:n=0
  .subst z;rw[bitsF_zero]at j;cases j
  .by_cases o:n%2=1
   .rw[bitsF_odd o]at j;rcases GG.mp j with e | j
    .omega
    .have:=qQ f (n/2) (k+1) ∅ p j;omega
   .rw[bitsF_even z o]at j;have:=qQ f (n/2) (k+1) ∅ p j;omega
theorem bitsF_sorted:∀(f n k:Nat),n<=f->(bitsF k n).Pairwise (· < ·)
 |0,n,k,h=>by
  have z:n=0:=by omega
  subst z;rw[bitsF_zero];exact JH
 |f+1,n,k,h=>by
  by_cases z:n=0
  .subst z;rw[bitsF_zero];exact JH
  .by_cases o:n%2=1
   .rw[bitsF_odd o];exact List.Pairwise.cons (λp j=>qQ f (n/2) (k+1) ∅ p j) (bitsF_sorted f (n/2) (k+1) ∅)
   .rw[bitsF_even z o];exact bitsF_sorted f (n/2) (k+1) ∅
theorem bitsF_sum:∀(f n k:Nat),n<=f->S (bitsF k n)=n*2^k
 |0,n,k,h=>by
  have z:n=0:=by omega
  subst z;rw[bitsF_zero];simp[S]
 |f+1,n,k,h=>by
  by_cases z:n=0
  .subst z;rw[bitsF_zero];simp[S]
  .have D:=bitsF_sum f (n/2) (k+1) ∅
   have e:n/2*2^(k+1)=(2*(n/2))*2^k:=by rw[Nat.pow_succ,Nat.mul_comm (2^k) 2,← Nat.mul_assoc,Nat.mul_comm (n/2) 2]
   by_cases o:n%2=1
   .rw[bitsF_odd o];show 2^k+S (bitsF (k+1) (n/2))=_;rw[D,e];have:n=2*(n/2)+1:=by omega
    have G:n*2^k=(2*(n/2)+1)*2^k:=by rw[← this]
    rw[G,Nat.add_mul,Nat.one_mul];omega
   .rw[bitsF_even z o,D,e];have:n=2*(n/2):=by omega
    have G:n*2^k=(2*(n/2))*2^k:=by rw[← this]
    rw[G]
theorem bitsF_lt:∀(m n k:Nat),n<2^m->∀ p∈bitsF k n,p<k+m
 |0,n,k,h=>by
  have z:n=0:=by omega
  subst z;rw[bitsF_zero];intro p j;cases j
 |m+1,n,k,h=>by
  intro p j;have Y:n/2<2^m:=by rw[Nat.pow_succ]at h;omega
  by_cases z:n=0
  .subst z;rw[bitsF_zero]at j;cases j
  .by_cases o:n%2=1
   .rw[bitsF_odd o]at j;rcases GG.mp j with e | j
    .omega
    .have:=bitsF_lt m (n/2) (k+1) Y p j;omega
   .rw[bitsF_even z o]at j;have:=bitsF_lt m (n/2) (k+1) Y p j;omega
theorem bitsF_len:∀(m n k:Nat),n<2^m->(bitsF k n).length<=m
 |0,n,k,h=>by
  have z:n=0:=by omega
  subst z;rw[bitsF_zero];exact Gy _
 |m+1,n,k,h=>by
  have Y:n/2<2^m:=by rw[Nat.pow_succ]at h;omega
  by_cases z:n=0
  .subst z;rw[bitsF_zero];exact Hq _
  .by_cases o:n%2=1
   .rw[bitsF_odd o];have:=bitsF_len m (n/2) (k+1) Y;show _+1<=_;omega
   .rw[bitsF_even z o];have:=bitsF_len m (n/2) (k+1) Y;omega
theorem nodup_of_lt(h:l.Pairwise (· < ·)):l.Nodup:=h.imp λh=>G0 h
end K2
namespace KF
open PySem L2
def top(i:Nat):Stmt:=PySem.Challenge.pw_spinfloor_k74_rough_webs_refused.main.body.getD i (.Pass ⟨0,0,0,0⟩)
abbrev jL:Stmt:=top 16
abbrev l7:Stmt:=top 18
abbrev iD:Stmt:=top 19
abbrev gK:Stmt:=top 20
abbrev lX:Stmt:=top 21
abbrev pj:Stmt:=top 22
abbrev vY:Stmt:=top 11
abbrev vX:Stmt:=top 12
abbrev B8:Stmt:=top 13
abbrev jM:Stmt:=top 14
abbrev c6:Stmt:=top 26
abbrev fL:Stmt:=top 27
abbrev bL:Stmt:=top 28
abbrev fK:Stmt:=top 29
abbrev lY:Stmt:=top 30
abbrev jK:Stmt:=top 31
abbrev jN:Stmt:=top 32
abbrev jO:Stmt:=top 40
abbrev lZ:Stmt:=top 41
abbrev pC:Stmt:=top 42
abbrev iC:Stmt:=top 25
abbrev pB:Stmt:=top 34
abbrev l4:Stmt:=top 35
abbrev fJ:Stmt:=top 36
abbrev jP:Stmt:=top 37
abbrev iE:Stmt:=top 38
abbrev Lk:=Nat×Nat×Int
def bey(l:Lk)(r:Nat):Nat:=if r=l.1 then l.2.1 else l.1
def lL(l:Lk)(r:Nat):Prop:=r=l.1∨r=l.2.1
theorem qR{l:Lk}{r:Nat}(h:lL l r):lL l (bey l r):=by
 unfold bey;split
 .exact .inr rfl
 .exact .inl rfl
theorem nL{l:Lk}{r:Nat}(h:lL l r):bey l (bey l r)=r:=by
 unfold bey;by_cases c:r=l.1
 .rw[Nf c];by_cases d:l.2.1=l.1
  .rw[Nf d];omega
  .rw[Ng d];exact c.symm
 .rw[Ng c,Nf rfl];rcases h with h | h
  .exact Nh h c
  .exact h.symm
theorem bey_lt{l:Lk}{r:Nat}(J:l.1<n)(h2:l.2.1<n):bey l r<n:=by
 unfold bey;split<;>assumption
inductive Up(ls:List Lk)(vv:List (Option Nat))(s:Nat):Nat->Nat->Prop where
 |root:Up ls vv s 0 s
 |step {j r k:Nat} {l:Lk} (hv:vv[r]?=some (some k)) (hl:ls[k]?=some l) (h:Up ls vv s j (bey l r)):Up ls vv s (j+1) r
theorem Up.uniq{ls:List Lk}{b:List (Option Nat)}{s:Nat}(w:b[s]?=some none):∀{j i r:Nat},Up ls b s j r->Up ls b s i r->j=i
 |_,_,_,.root,.root=>rfl
 |_,_,_,.root,.step p _ _=>by rw[w]at p;cases p
 |_,_,_,.step p _ _,.root=>by rw[w]at p;cases p
 |_,_,_,.step p C h,.step a H A=>by
  rw[p]at a;cases a;rw[C]at H;cases H;rw[Up.uniq w h A]
theorem Up.lt{ls:List Lk}{s r:Nat}(w:O[s]?=some none)(h:Up ls O s j r):r<O.length:=by
 cases h with
 |root=>exact(Gn.mp w).1
 |step p _ _=>exact(Gn.mp p).1
theorem Up.chain{ls:List Lk}{b:List (Option Nat)}{s:Nat}(w:b[s]?=some none):∀{j r:Nat},Up ls b s j r->∃ c:List Nat,c.length=j+1/\c.Nodup/\∀ x∈c,x<b.length/\∃ i,i<=j/\Up ls b s i x
 |_,_,.root=>⟨[s],rfl,Hj.mpr ⟨(by simp),IW⟩,λx L=>by rw[GJ.mp L];exact⟨Up.lt (ls:=ls) w .root,0,Gy _,.root⟩⟩
 |j+1,r,.step p C h=>by
  obtain⟨c,u,H,t⟩:=Up.chain w h;have d:Up ls b s (j+1) r:=.step p C h;refine⟨r::c,by rw[GX,u],Hj.mpr ⟨λB=>?_,H⟩,λx L=>?_⟩
  .obtain⟨_,i,T,M⟩:=t r B;have:=Up.uniq w d M;omega
  .rcases GG.mp L with rfl | L
   .exact⟨Up.lt w d,j+1,Gy _,d⟩
   .obtain⟨a,i,T,M⟩:=t x L;exact⟨a,i,∅,M⟩
theorem jT:∀(n:Nat)(c:List Nat),c.Nodup->(∀ x∈c,x<n)->c.length<=n
 |0,c,_,h=>by
  cases c with
  |nil=>exact Gy _
  |cons x r=>exact Nh (h x (GN ..)) (Ir _)
 |n+1,c,H,h=>by
  have J:=jT n (c.erase n) (H.erase _) λx L=>by
   have C:=List.mem_of_mem_erase L;have:=h x C;have:x≠n:=λe=>by rw[e]at L;exact Nh L (List.Nodup.not_mem_erase H)
   omega
  have Y:c.length<=(c.erase n).length+1:=by rw[KZ];split<;>omega
  omega
theorem Up.short{ls:List Lk}{s r:Nat}(w:O[s]?=some none)(h:Up ls O s j r):j+1<=O.length:=by
 obtain⟨c,u,H,t⟩:=Up.chain w h;rw[← u];exact jT _ c H λx L=>(t x L).1
def cOf(o:Option Int):Nat:=if o.isSome then 1 else 0
def cnt(T:List (Option Int)):Nat:=(T.map cOf).sum
def vOf(B:Nat)(o:Option Int):Nat:=match o with | none=>B | some x=>x.toNat
def wgt(B:Nat)(T:List (Option Int)):Nat:=(T.map (vOf B)).sum
theorem oQ{α:Type}(f:α->Nat):∀(l:List α)(i:Nat)(x y:α),l[i]?=some x->((l.set i y).map f).sum+f x=(l.map f).sum+f y
 |a::l,0,x,y,e=>by
  cases e
  rw[List.set_cons_zero,G7,G7,HH,HH];omega
 |a::l,i+1,x,y,e=>by
  have:=oQ f l i x y e;rw[List.set_cons_succ,G7,G7,HH,HH];omega
 |[],i,x,y,e=>by cases i<;>cases e
theorem Es:∀(T:List (Option Int)){i:Nat},T[i]?=some none->cnt T+1<=T.length
 |[],i,e=>by cases i<;>cases e
 |a::T,0,e=>by
  cases e
  have:∀ T:List (Option Int),cnt T<=T.length:=λT=>by
   induction T with
   |nil=>exact Gy _
   |cons b T D =>
    have O:cnt (b::T)=cOf b+cnt T:=by unfold cnt;rw[G7,HH]
    have f:cOf b<=1:=by unfold cOf;split<;>omega
    rw[O,GX];omega
  have O:cnt (none::T)=cOf none+cnt T:=by unfold cnt;rw[G7,HH]
  have f:cOf none=0:=rfl;have:=this T;rw[O,GX];omega
 |a::T,i+1,e=>by
  have D:=Es T (i:=i) e;have O:cnt (a::T)=cOf a+cnt T:=by unfold cnt;rw[G7,HH]
  have f:cOf a<=1:=by unfold cOf;split<;>omega
  rw[O,GX];omega
structure FI(n:Nat)(ls:List Lk)(s:Nat)(M:Nat)(T:List (Option Int))(vv:List (Option Nat))(W:List Nat)(ex:Nat->Nat->Prop):Prop where
 w0:∀ l∈ls,0<=l.2.2/\l.2.2<=(M:Int)
 tl:T.length=n
 vl:vv.length=n
 st:T[s]?=some (some 0)
 vs:vv[s]?=some none
 nn:∀(r:Nat)(x:Int),T[r]?=some (some x)->0<=x
 bd:∀(r:Nat)(x:Int),T[r]?=some (some x)->x+(M:Int)<=(cnt T:Int)*(M:Int)
 pr:∀(r k:Nat),vv[r]?=some (some k)->∃(l:Lk)(x y:Int),ls[k]?=some l/\lL l r/\T[r]?=some (some x)/\T[bey l r]?=some (some y)/\y+l.2.2<=x
 up:∀(r:Nat)(x:Int),T[r]?=some (some x)->∃ j,Up ls vv s j r
 rl:∀(r:Nat)(x:Int)(i:Nat)(l:Lk),T[r]?=some (some x)->r∉W->ls[i]?=some l->lL l r->ex r i∨∃ y:Int,T[bey l r]?=some (some y)/\y<=x+l.2.2
 wk:∀ r∈W,∃ x:Int,T[r]?=some (some x)
theorem rB{l:List α}{x:α}(hi:i<l.length):(l.set i x)[j]?=if i=j then some x else l[j]?:=by
 rw[Jp];by_cases c:i=j
 .rw[Nf c,Nf c,Nf hi]
 .rw[Ng c,Ng c]
theorem FI.mend{ls:List Lk}{s:Nat}{W':List Nat}(I:FI n ls s M T O W ex){k:Nat}{l:Lk}{x:Int}{o:Option Int}
  (hl:ls[k]?=some l) (C:lL l m) (L:T[m]?=some (some x)) (A:T[bey l m]?=some o) (a:∀ y,o=some y->x+l.2.2<y)
  (hW:∀ r,r∈W'↔r∈W∨r=bey l m) (ac:∀ r i,ex r i->ex' r i∨(r=m/\i=k)) :
  FI n ls s M (T.set (bey l m) (some (x+l.2.2))) (O.set (bey l m) (some k)) W' ex':=by
 obtain⟨w,hM⟩:=I.w0 l (Gv hl);have tt:bey l m<T.length:=(Gn.mp A).1;have tl:=I.tl;have vl:=I.vl;have x0:=I.nn m x L;have E:bey l m≠s:=λe=>by
  rw[e,I.st]at A
  cases A
  have:=a 0 rfl;omega
 have nm:bey l m≠m:=λe=>by
  rw[e,L]at A
  cases A
  have:=a x rfl;omega
 have gT:∀ r:Nat,(T.set (bey l m) (some (x+l.2.2)))[r]?=if bey l m=r then some (some (x+l.2.2)) else T[r]?:=λr=>rB tt;have gV:∀ r:Nat,(O.set (bey l m) (some k))[r]?=if bey l m=r then some (some k) else O[r]?:=λr=>rB ∅
 have ab:∀(r:Nat)(y:Int),T[r]?=some (some y)->∃ z:Int,(T.set (bey l m) (some (x+l.2.2)))[r]?=some (some z)/\z<=y:=λr y e=>by
  rw[gT];by_cases c:bey l m=r
  .rw[Nf c];rw[← c,A]at e
   cases e
   exact⟨_,rfl,Int.le_of_lt (a y rfl)⟩
  .rw[Ng c];exact⟨y,e,IM _⟩
 have keep:∀{j r:Nat},Up ls O s j r->∀ y,T[r]?=some (some y)->(∀ z,o=some z->y<z)->Up ls (O.set (bey l m) (some k)) s j r:=by
  intro j r h;induction h with
  |root=>intro _ _ _;exact .root
  | @step j r k' l' p H h D =>
   intro y Q t;have ne:bey l m≠r:=λe=>by
    rw[e,Q]at A
    cases A
    exact Nh (t y rfl) (Int.lt_irrefl _)
   obtain⟨l2,q,N,d,f,G,e4,e5⟩:=I.pr r k' p;rw[H]at d;cases d;rw[Q]at G;cases G;have w0:=(I.w0 l' (Gv H)).1;refine .step (by rw[gV,Ng ne];exact p) H (D N e4 λz al=>?_)
   have:=t z al;omega
 obtain⟨jm,um⟩:=I.up m x L;have am:=keep um x L λz t=>by have:=a z t;omega
 have ut:Up ls (O.set (bey l m) (some k)) s (jm+1) (bey l m):=.step (by rw[gV,Nf rfl]) hl (by rw[nL C];exact am)
 have all:∀{j r:Nat},Up ls O s j r->∃ i,Up ls (O.set (bey l m) (some k)) s i r:=by
  intro j r h;induction h with
  |root=>exact⟨0,.root⟩
  | @step j r k' l' p H h D =>
   by_cases c:bey l m=r
   .rw[← c];exact⟨_,ut⟩
   .obtain⟨i,v⟩:=D;exact⟨i+1,.step (by rw[gV,Ng c];exact p) H v⟩
 have cs:=oQ cOf T (bey l m) o (some (x+l.2.2)) A;have c1:cOf (some (x+l.2.2))=1:=rfl;have cc:cnt (T.set (bey l m) (some (x+l.2.2)))+cOf o=cnt T+1:=by unfold cnt;rw[c1]at cs;exact cs
 have an:cnt T<=cnt (T.set (bey l m) (some (x+l.2.2))):=by
  have:cOf o<=1:=by unfold cOf;split<;>omega
  omega
 have mul_le:(cnt T:Int)*(M:Int)<=(cnt (T.set (bey l m) (some (x+l.2.2))):Int)*(M:Int):=Int.mul_le_mul_of_nonneg_right ∅ ∅
 have bm:=I.bd m x L;refine⟨I.w0,by rw[Hx];exact tl,by rw[Hx];exact vl,by rw[gT,Ng E];exact I.st,by rw[gV,Ng E];exact I.vs,λr y e=>?_,λr y e=>?_,λr k' e=>?_,λr y e=>?_,λr y i l' e B H aa=>?_,λr B=>?_⟩
 .rw[gT]at e;by_cases c:bey l m=r
  .rw[Nf c]at e;cases e;omega
  .rw[Ng c]at e;exact I.nn r y e
 .rw[gT]at e;by_cases c:bey l m=r
  .rw[Nf c]at e;cases e
   cases o with
   |none =>
    have d:cnt (T.set (bey l m) (some (x+l.2.2)))=cnt T+1:=by have:cOf none=0:=rfl;omega
    rw[d];have:((cnt T+1:Nat):Int)*(M:Int)=(cnt T:Int)*(M:Int)+(M:Int):=by push_cast;rw[Int.add_mul,Int.one_mul]
    omega
   |some z =>
    have:=a z rfl;have:=I.bd (bey l m) z A;omega
  .rw[Ng c]at e;have:=I.bd r y e;omega
 .rw[gV]at e;by_cases c:bey l m=r
  .rw[Nf c]at e;cases e;refine⟨l,x+l.2.2,x,hl,c▸qR C,by rw[gT,Nf c],?_,IM _⟩
   rw[← c,nL C,gT,Ng nm];exact L
  .rw[Ng c]at e;obtain⟨l2,q,N,d,f,G,e4,e5⟩:=I.pr r k' e;obtain⟨z,e6,e7⟩:=ab _ _ e4;exact⟨l2,q,z,d,f,by rw[gT,Ng c];exact G,e6,∅⟩
 .rw[gT]at e;by_cases c:bey l m=r
  .rw[← c];exact⟨_,ut⟩
  .rw[Ng c]at e;obtain⟨j,u⟩:=I.up r y e;exact all u
 .have nr:r∉W/\r≠bey l m:=⟨λz=>B ((hW r).mpr (.inl z)),λz=>B ((hW r).mpr (.inr z))⟩
  rw[gT,Ng (Ne.symm nr.2)]at e;rcases I.rl r y i l' e nr.1 H aa with h | ⟨z,J,Y⟩
  .rcases ac r i h with h | ⟨J,Y⟩
   .exact .inl h
   .subst J;subst Y;rw[hl]at H;cases H;rw[L]at e;cases e;exact .inr ⟨x+l.2.2,by rw[gT,Nf rfl],IM _⟩
  .obtain⟨z',g,b⟩:=ab _ _ J;exact .inr ⟨z',g,∅⟩
 .rcases(hW r).mp B with h | h
  .obtain⟨y,e⟩:=I.wk r h;obtain⟨z,g,_⟩:=ab _ _ e;exact⟨z,g⟩
  .rw[h];exact⟨_,by rw[gT,Nf rfl]⟩
theorem FI.leave{ls:List Lk}{s:Nat}(I:FI n ls s M T O W ex){k:Nat}{l:Lk}{x y:Int}
  (hl:ls[k]?=some l) (L:T[m]?=some (some x)) (Q:T[bey l m]?=some (some y)) (b:y<=x+l.2.2) (c:∀ r i,ex r i->ex' r i∨(r=m/\i=k)):FI n ls s M T O W ex' :=
 ⟨I.w0,I.tl,I.vl,I.st,I.vs,I.nn,I.bd,I.pr,I.up,λr z i A e B H a=>by
  rcases I.rl r z i A e B H a with h | h
  .rcases c r i h with h | ⟨J,Y⟩
   .exact .inl h
   .subst J;subst Y;rw[hl]at H;cases H;rw[L]at e;cases e;exact .inr ⟨y,Q,b⟩
  .exact .inr h,I.wk⟩
theorem BS{ls:List Lk}{s:Nat}(I:FI n ls s M T O W ex){t:Nat}{x w:Int}{o:Option Int}(c:0<=w)(h:w<=(M:Int))(L:T[m]?=some (some x))(A:T[t]?=some o)(a:∀ y,o=some y->x+w<y) :
  wgt (n*M+1) (T.set t (some (x+w)))+1<=wgt (n*M+1) T:=by
 have e:=oQ (vOf (n*M+1)) T t o (some (x+w)) A;have p:=I.nn m x L;have b:=I.bd m x L;have d:vOf (n*M+1) (some (x+w))=(x+w).toNat:=rfl;unfold wgt;rw[d]at e
 cases o with
 |none =>
  have u:=Es T A;have f:vOf (n*M+1) none=n*M+1:=rfl;rw[f]at e;have J:cnt T*M<=n*M:=Kx M (by rw[I.tl]at u;omega)
  have Y:x+(M:Int)<=((n*M:Nat):Int):=by
   have:((cnt T*M:Nat):Int)<=((n*M:Nat):Int):=by exact_mod_cast J
   have g:((cnt T*M:Nat):Int)=(cnt T:Int)*(M:Int):=by push_cast;rfl
   omega
  omega
 |some z =>
  have:=a z rfl;have f:vOf (n*M+1) (some z)=z.toNat:=rfl;rw[f]at e;omega
theorem FI.first{ls:List Lk}{s:Nat}(u:∀ l∈ls,0<=l.2.2/\l.2.2<=(M:Int))(G:s<n):FI n ls s M ((GH n none).set s (some 0)) (GH n none) [s] (λ_ _=>False):=by
 have f:∀ r:Nat,((GH n (none:Option Int)).set s (some 0))[r]?=if s=r then some (some 0) else(GH n none)[r]?:=λr=>rB (by rw[Im];exact G)
 have d:∀{b:Type}(r:Nat)(x:b),(GH n (none:Option b))[r]?≠some (some x):=λr x e=>by
  have:=Gv e;have:=(JZ.mp this).2
  cases this
 have one:∀(r:Nat)(x:Int),((GH n (none:Option Int)).set s (some 0))[r]?=some (some x)->r=s/\x=0:=λr x e=>by
  rw[f]at e;by_cases c:s=r
  .rw[Nf c]at e;cases e;exact⟨c.symm,rfl⟩
  .rw[Ng c]at e;exact Nh e (d r x)
 refine⟨u,by rw[Hx,Im],Im,by rw[f,Nf rfl],by rw[Ia,Nf G],λr x e=>?_,λr x e=>?_,λr k e=>Nh e (d r k),λr x e=>?_,λr x i l e B=>?_,λr B=>?_⟩
 .rw[(one r x e).2];exact IM _
 .rw[(one r x e).2];have a:=oQ cOf (GH n (none:Option Int)) s none (some 0) (by rw[Ia,Nf G])
  have c1:cOf (some 0)=1:=rfl;have c0:cOf none=0:=rfl;have:1<=cnt ((GH n (none:Option Int)).set s (some 0)):=by unfold cnt;omega
  have Y:1*M<=cnt ((GH n (none:Option Int)).set s (some 0))*M:=Kx M this;have g:((1*M:Nat):Int)<=((cnt ((GH n (none:Option Int)).set s (some 0))*M:Nat):Int):=by exact_mod_cast Y
  push_cast at g;omega
 .rw[(one r x e).1];exact⟨0,.root⟩
 .rw[(one r x e).1]at B;exact Nh (GJ.mpr rfl) B
 .rw[GJ.mp B];exact⟨0,by rw[f,Nf rfl]⟩
theorem FI.take{ls:List Lk}{s:Nat}{W':List Nat}(I:FI n ls s M T O W (λ_ _=>False))(b:∀ r,r∈W'↔r∈W/\r≠m):FI n ls s M T O W' (λr _=>r=m) :=
 ⟨I.w0,I.tl,I.vl,I.st,I.vs,I.nn,I.bd,I.pr,I.up,λr x i l e B C a=>by
  by_cases c:r=m
  .exact .inl c
  .rcases I.rl r x i l e (λz=>B ((b r).mpr ⟨z,c⟩)) C a with h | h
   .exact h.elim
   .exact .inr h,λr B=>I.wk r ((b r).mp B).1⟩
theorem FI.exw{ls:List Lk}{s:Nat}(I:FI n ls s M T O W ex)(h:∀ r i l,ls[i]?=some l->lL l r->ex r i->ex' r i):FI n ls s M T O W ex' :=
 ⟨I.w0,I.tl,I.vl,I.st,I.vs,I.nn,I.bd,I.pr,I.up,λr x i l e B C a=>by
  rcases I.rl r x i l e B C a with z | z
  .exact .inl (h r i l C a z)
  .exact .inr z,I.wk⟩
theorem ai(h:H p=none)(o:HO):Same H (upd H p o):=λb u q=>by rw[ao (ax q h)];exact q
theorem aH{l:Addr}(h:Same H H2)(hl:H l=none)(o:HO):Same H (upd H2 l o):=λb u q=>by rw[ao (ax q hl)];exact h b u q
theorem dP(s:Same H H')(h:H' p=none):H p=none:=by
 cases y:H p with
 |none=>rfl
 |some o=>rw[s _ _ y]at h;cases h
def iV(p:Nat):V:=.int (p:Int)
theorem at0{x:V}:atI [x,y] 0=some x:=rfl
theorem at1{x:V}:atI [x,y] 1=some y:=rfl
theorem a30{x:V}:atI [x,y,z] 0=some x:=rfl
theorem a31{x:V}:atI [x,y,z] 1=some y:=rfl
theorem a32{x:V}:atI [x,y,z] 2=some z:=rfl
def LkAt(H:Hp)(v:V)(l:Lk):Prop:=∃ t,v=.ref t/\H t=some (.tup [.int (l.1:Int),.int (l.2.1:Int),.int l.2.2])
def LnAt(H:Hp)(v:V)(ls:List Lk):Prop:=∃ a d,v=.ref a/\H a=some (.lst d)/\LsAt LkAt H d ls
theorem LkAt.mono{p:Lk}(h:LkAt H v p)(s:Same H H'):LkAt H' v p:=by
 obtain⟨t,e,z⟩:=h;exact⟨t,e,s _ _ z⟩
theorem LnAt.mono{H H':Hp}{v:V}{r:List Lk}(h:LnAt H v r)(s:Same H H'):LnAt H' v r:=by
 obtain⟨a,d,e,z,l⟩:=h;exact⟨a,d,e,s _ _ z,l.imp λ_ _ q=>q.mono s⟩
def MM:Nat:=10^31
structure Lok(n:Nat)(ls:List Lk):Prop where
 n1:n<=40
 l9:ls.length<=60
 sm:∀ l∈ls,l.1<n/\l.2.1<n
 w0:∀ l∈ls,0<=l.2.2/\l.2.2<=(MM:Int)
def bw(S:Addr->Prop)(H:Hp)(xs:List V)(ts:List (List Nat)):Prop:=xs.length=ts.length/\∀(i:Nat)(l:List Nat),ts[i]?=some l->∃ p,xs[i]?=some (.ref p)/\¬ S p/\H p=some (.lst (l.map iV))
theorem bw.mono{S:Addr->Prop}(h:bw S H xs ts)(s:∀ b u,¬ S b->H b=some u->H' b=some u):bw S H' xs ts:=⟨h.1,λi e q=>by
 obtain⟨p,a,n,b⟩:=h.2 i e q
 exact⟨p,a,n,s _ _ n b⟩⟩
theorem bw.snoc{S:Addr->Prop}(h:bw S H xs ts)(n:¬ S q)(e:H q=some (.lst (l.map iV))):bw S H (xs++[.ref q]) (ts++[l]):=by
 refine⟨by rw[Gx,Gx,h.1];rfl,λj k d=>?_⟩
 by_cases B:j<ts.length
 .rw[GB B]at d;obtain⟨p,u,I⟩:=h.2 j k d;exact⟨p,by rw[GB (by rw[h.1];exact B)];exact u,I⟩
 .rw[Gz (JM B)]at d;have c:j=ts.length:=by
   have:=(Gn.mp d).1;rw[GO]at this;omega
  subst c;rw[Hl]at d
  cases d
  exact⟨q,by rw[← h.1,Gz (Gy _),Hl];rfl,n,e⟩
def Dist(xs:List V):Prop:=∀(i j:Nat)(p:Addr),xs[i]?=some (.ref p)->xs[j]?=some (.ref p)->i=j
theorem bw.set{S:Addr->Prop}(h:bw S H xs ts)(D:Dist xs)(e:xs[i]?=some (.ref p)):bw S (upd H p (.lst (l'.map iV))) xs (ts.set i l'):=by
 refine⟨by rw[Hx];exact h.1,λj l z=>?_⟩
 have T:i<ts.length:=by rw[← h.1];exact(Gn.mp e).1
 rw[Jp]at z;by_cases B:i=j
 .subst B;rw[Nf rfl,Nf T]at z
  cases z
  obtain⟨A,u,I,b⟩:=h.2 i _ (Gs T);rw[e]at u
  cases u
  exact⟨p,e,I,af⟩
 .rw[Ng B]at z;obtain⟨A,u,I,b⟩:=h.2 j l z;exact⟨A,u,I,by rw[ao (λy=>by rw[y]at u;exact B (D i j p e u))];exact b⟩
theorem kf{S:Addr->Prop}(h:bw S H xs ts)(D:Dist xs)(hq:H q=none):Dist (xs++[.ref q]):=by
 have a:∀ i p,xs[i]?=some (V.ref p)->p≠q:=λi p e z=>by
  have T:i<ts.length:=by rw[← h.1];exact(Gn.mp e).1
  obtain⟨A,u,_,b⟩:=h.2 i _ (Gs T);rw[e]at u;cases u;rw[z,hq]at b;cases b
 have k:∀ i p,(xs++[V.ref q])[i]?=some (V.ref p)->(xs[i]?=some (V.ref p))∨(i=xs.length/\p=q):=λi p e=>by
  by_cases c:i<xs.length
  .rw[GB c]at e;exact .inl e
  .rw[Gz (JM c)]at e;have Y:=(Gn.mp e).1;rw[GO]at Y;have g:i-xs.length=0:=by omega
   rw[g]at e
   cases e
   exact .inr ⟨∅,rfl⟩
 intro i j p O f;rcases k i p O with J | ⟨J,d⟩
 .rcases k j p f with Y | ⟨Y,l⟩
  .exact D i j p J Y
  .exact Nh l (a i p J)
 .rcases k j p f with Y | ⟨Y,l⟩
  .exact Nh d (a j p Y)
  .omega
structure AtM(n c:Nat)(rows:List (List Nat))(mem:Nat->Nat->Prop):Prop where
 len:rows.length=n
 mm:∀(r:Nat)(row:List Nat),rows[r]?=some row->∀ j,j∈row↔mem r j
 few:∀ row∈rows,row.length<=c
theorem AtM.put{c:Nat}{rows:List (List Nat)}{mem:Nat->Nat->Prop}(h:AtM n c rows mem){a:Nat}(hl:rows[a]?=some l):AtM n (c+1) (rows.set a (l++[i])) (λr j=>mem r j∨(r=a/\j=i)):=by
 have E:=(Gn.mp hl).1;refine⟨by rw[Hx];exact h.len,λr row e j=>?_,λrow B=>?_⟩
 .rw[rB E]at e;by_cases z:a=r
  .rw[Nf z]at e
   cases e
   subst z;rw[GU,GJ,h.mm a l hl j];exact⟨λy=>y.imp id λy=>⟨rfl,y⟩,λy=>y.imp id λy=>y.2⟩
  .rw[Ng z]at e;rw[h.mm r row e j];exact⟨.inl,λy=>y.elim id λy=>Nh y.1.symm z⟩
 .rcases J2 B with y | y
  .have:=h.few row y;omega
  .have:=h.few l (Gv hl)
   rw[y,Gx,GO];omega
def memL(ls:List Lk)(r j:Nat):Prop:=∃ l,ls[j]?=some l/\lL l r
structure Txt(mg:Str->Option Value):Prop where
 n_len:mg "len" = none
 n_int:mg "int" = none
 n_bool:mg "bool" = none
 n_list:mg "list" = none
 n_tuple:mg "tuple" = none
 n_range:mg "range" = none
 n_min:mg "min" = none
 n_abs:mg "abs" = none
 n_enumerate:mg "enumerate" = none
 n_isinstance:mg "isinstance" = none
inductive EW(vs:List L2.V)(H:L2.Hp)(Q:L2.VK)(x3_:L2.XK):Prop
 |mk (v:V)(l:Lk)(r:Nat) (h0_:vs = [v,.int (r:Int)])(h1_:LkAt H v l)(h2_:Q (.int ((bey l r:Nat):Int)) H)
inductive spAt(vs:List L2.V)(H:L2.Hp)(Q:L2.VK)(x3_:L2.XK):Prop
 |mk (v:V)(n:Nat)(ls:List Lk) (h0_:vs = [.int (n:Int),v])(h1_:LnAt H v ls)(h2_:Lok n ls)(h3_:∀(p:Addr)(ys:List V)(rows:List (List Nat)) H',Same H H'->H p=none->H' p=some (.lst ys)->bw (λq=>q=p∨H q≠none) H' ys rows->AtM n 120 rows (memL ls)->Q (.ref p) H')
theorem za:aw ["link","room"] ["link","room"] (aq l7):=by ac_nf
theorem ok_bey (F:Fun K "beyond" "beyond" l7 f fd):FnOk P w K mg base CX0 1 f fd ["link","room"] EW:=by
 refine F.ok za (by walk_at "l") λd A I s H Y Q E B h=>?_
 obtain⟨v,l,r,rfl,⟨t,rfl,n⟩,q⟩:=h;refine⟨_,(ak (aF (fQ (aB cj (pv 1) (dw (pv 0) aj) (aC _)) (dw (pv 0) aj) (dw (pv 0) aj)))),?_⟩;refine⟨_,rfl,_,rfl,t,_,0,_,rfl,rfl,SqT.of n,a30,rfl,_,rfl,?_⟩;refine ite2 (λc=>?_) (λc=>?_)
 .have L:r=l.1:=by have:=V.int.inj (MZ c);omega
  have e:bey l r=l.2.1:=by unfold bey;rw[Nf L]
  rw[e]at q;exact⟨_,rfl,t,_,1,_,rfl,rfl,SqT.of n,a31,q⟩
 .have L:¬ r=l.1:=λz=>c (Mq (congrArg V.int ∅))
  have e:bey l r=l.1:=by unfold bey;rw[Ng L]
  rw[e]at q;exact⟨_,rfl,t,_,0,_,rfl,rfl,SqT.of n,a30,q⟩
theorem fB:aw ["many","links","at","number","link"] ["many","links"] (aq iD):=by ac_nf
theorem ok_at (F:Fun K "links_at" "links_at" iD f fd) (T:Txt mg):FnOk P w K mg base CX0 1 f fd ["many","links"] spAt:=by
 refine F.ok fB (by walk_at "l") λt A I s H k Q E B h=>?_
 obtain⟨v,n,ls,rfl,⟨a,xs,rfl,hA,hL⟩,ok,q⟩:=h;have n1:=ok.n1;have l9:=ok.l9;have xl:=hL.1
 refine⟨_,(ag (mY 2 [] ["room"] fB.nd (aZ rfl T.n_range (ae (pv 0) ah)) pg_c pt_c (λC ex s H=>(bN ah)))
   (ag (bM PassesOwn.never rfl (fO rfl T.n_enumerate (ae (pv 1) ah)) (mZ rfl (aE (cJ 3 fB.nd) (aE (cJ 4 fB.nd) bC))) (ag (aP (dW GZ G9 G8 aQ (bH (pv 2) (dw (pv 4) aj)) (ae (pv 3) ah)))
   (ak (aP (dW GZ G9 G8 aQ (bH (pv 2) (dw (pv 4) aj)) (ae (pv 3) ah))))))
   (ak (aF (pv 2))))),?_⟩
 refine⟨_,rfl,_,rfl,∅,∅,cY (n:=(n:Int).toNat) (λi d N=>Same H N/\bw (λp=>H p≠none) N d (GH i [])/\Dist d) (by rw[GA];exact G6 (ar ∅)) ⟨λ_ _ e=>e,⟨rfl,λi l e=>by simp at e⟩,λi j p e=>by simp at e⟩ ?_ ?_⟩
 .rintro i d N m ⟨G,rx,D⟩;refine⟨(by show 0<=LK;decide),λl g=>?_⟩
  have s3:=ai g (.lst []);refine⟨G.trans s3,?_,kf rx D g⟩;rw[IH];exact(rx.mono λb u _ z=>s3 _ _ z).snoc (λz=>z (dP G g)) af
 rintro d N a7 ⟨G,rx,D⟩ pn ap;rw[GA]at rx;have s3:=ai ap (.lst d);have bb:H pn=none:=dP G ap
 have bd:bw (λp=>p=pn∨H p≠none) (upd N pn (.lst d)) d (GH n []):=⟨rx.1,λi l z=>by
  obtain⟨p,a1,a2,a3⟩:=rx.2 i l z;have n2:p≠pn:=ax a3 ap
  exact⟨p,a1,by rintro(y | y);exact n2 y;exact a2 y,s3 _ _ a3⟩⟩
 have m0:AtM n 0 (GH n []) (memL (ls.take 0)):=⟨Im,λr row e j=>by
  have:=(JZ.mp (Gv e)).2;subst this
  exact⟨(λz=>nomatch z),λ⟨l,z,_⟩=>by rw[Lr]at z;cases z⟩,λrow B=>by rw[(JZ.mp B).2];exact Gy _⟩
 refine⟨_,rfl,a,rfl,⟨_,SqL.of ((G.trans s3) _ _ hA)⟩,mE (K:=K) (xs:=xs) (λi O H5=>∃ v4 v5 rows,O = [some (.int (n:Int)),some (.ref a),some (.ref pn),v4,v5]/\Same H H5/\H5 pn=some (.lst d)/\bw (λp=>p=pn∨H p≠none) H5 d rows/\AtM n (2*i) rows (memL (ls.take i)))
  ⟨_,_,_,rfl,G.trans s3,af,bd,m0⟩ (λi O H5 _ ac=>by obtain⟨_,_,_,_,z,_⟩:=ac;exact SqL.of (z _ _ hA)) ?_ ?_⟩
 .rintro i x O H5 T2 L ⟨v4,v5,rows,rfl,s5,aO,aR,am⟩ aa;obtain⟨l,g,p,rfl,M⟩:=hL.get L;obtain⟨b1,b2⟩:=ok.sm l (Gv g);have sT:=ai aa (.tup [.int (i:Int),.ref p]);have s6:=s5.trans sT;have a9:=s6 _ _ M;have a6:=am.len;have bu:i<ls.length:=(Gn.mp g).1;obtain⟨r1,al⟩:∃ r,rows[l.1]?=some r:=⟨_,Gs ∅⟩
  have ba:bw (λp=>p=pn∨H p≠none) (upd H5 T2 (.tup [.int (i:Int),.ref p])) d rows:=aR.mono λb u _ z=>sT _ _ z;obtain⟨p1,y1,y2,y3⟩:=ba.2 _ _ al;have aT:∀{p:Addr},¬ (p=pn∨H p≠none)->H p=none/\p≠pn:=λ{p} n=>by
   refine⟨?_,λz=>n (.inl z)⟩
   cases y:H p with
   |none=>rfl
   |some o=>exact Nh (.inr (by rw[y];exact λz=>nomatch z)) n
  obtain⟨ab,be⟩:=aT y2;have f1:=am.few r1 (Gv al);have a0:=sT _ _ aO;refine⟨T2,_,rfl,SqT.of af,rfl,_,_,rfl,_,_,rfl,rfl,?_⟩;refine⟨_,rfl,_,rfl,p,_,0,_,rfl,rfl,SqT.of a9,a30,pn,d,_,_,rfl,rfl,SqL.of a0,aG y1,.inl ⟨rfl,_,SqL.of y3⟩,_,rfl,p1,_,_,rfl,rfl,y3,ar (by rw[Gu];omega),?_⟩
  have aL:(r1.map iV)++[V.int (i:Int)]=(r1++[i]).map iV:=by rw[GK];rfl
  rw[aL];have bm:=ba.set D y1 (l':=r1++[i]);have bn:=am.put (i:=i) al;have s7:Same H (upd (upd H5 T2 (.tup [.int (i:Int),.ref p])) p1 (.lst ((r1++[i]).map iV))):=aH s6 ab _;have bo:=s7 _ _ M;have a4:(upd (upd H5 T2 (.tup [.int (i:Int),.ref p])) p1 (.lst ((r1++[i]).map iV))) pn=some (.lst d):=by rw[ao be.symm];exact a0
  obtain⟨r2,aI⟩:∃ r,(rows.set l.1 (r1++[i]))[l.2.1]?=some r:=⟨_,Gs (by rw[Hx];omega)⟩
  obtain⟨p2,z1,z2,z3⟩:=bm.2 _ _ aI;obtain⟨an,bg⟩:=aT z2;have f2:=bn.few r2 (Gv aI);refine⟨_,rfl,_,rfl,p,_,1,_,rfl,rfl,SqT.of bo,a31,pn,d,_,_,rfl,rfl,SqL.of a4,aG z1,.inl ⟨rfl,_,SqL.of z3⟩,_,rfl,p2,_,_,rfl,rfl,z3,ar (by rw[Gu];omega),?_⟩
  have aS:(r2.map iV)++[V.int (i:Int)]=(r2++[i]).map iV:=by rw[GK];rfl
  rw[aS];have bi:=bn.put (i:=i) aI;refine⟨_,_,(rows.set l.1 (r1++[i])).set l.2.1 (r2++[i]),rfl,aH s7 an _,by rw[ao bg.symm];exact a4,bm.set D z1,bi.len,λr row e j=>?_,λrow B=>?_⟩
  .rw[bi.mm r row e j];unfold memL;rw[He,g];have a5:(ls.take i).length=i:=by rw[Hs];omega
   constructor
   .rintro((⟨l',J,Y⟩ | ⟨J,Y⟩) | ⟨J,Y⟩)
    .exact⟨l',by rw[GB (Gn.mp J).1];exact J,Y⟩
    .subst Y;exact⟨l,by rw[Gz ∅,a5,Hl];rfl,.inl J⟩
    .subst Y;exact⟨l,by rw[Gz ∅,a5,Hl];rfl,.inr J⟩
   .rintro⟨l',J,Y⟩;by_cases c:j<i
    .rw[GB ∅]at J
     exact .inl (.inl ⟨l',J,Y⟩)
    .rw[Gz ∅]at J
     have h3:=(Gn.mp J).1;have h4:j=i:=by
      have:(Option.toList (some l)).length=1:=rfl;omega
     subst h4;rw[a5,Hl]at J
     cases J
     rcases Y with Y | Y
     .exact .inl (.inr ⟨Y,rfl⟩)
     .exact .inr ⟨Y,rfl⟩
  .have:=bi.few row B;omega
 .rintro O H5 ⟨v4,v5,rows,rfl,s5,aO,aR,am⟩;rw[xl,Hi]at am;exact⟨_,rfl,q pn d rows H5 s5 bb aO aR ⟨am.len,am.mm,λrow B=>by have:=am.few row B;omega⟩⟩
inductive k7(vs:List L2.V)(H:L2.Hp)(Q:L2.VK)(x3_:L2.XK):Prop
 |mk (n:Int) (h0_:vs = [.int n])(h1_:0<=n)(h2_:n<1208925819614629174706176)(h3_:∀ r H',Same H H'->H r=none->H' r=some (.lst ((K2.bitsF 0 n.toNat).map iV))->Q (.ref r) H')
theorem kA:aw ["mask","numbers","number","rest"] ["mask"] (aq vY):=by ac_nf
theorem ok_bits (F:Fun K "bits" "bits" vY f fd):FnOk P w K mg base CX0 1 f fd ["mask"] k7:=by
 refine F.ok kA (by walk_at "l") λd A I s H Y Q E B h=>?_
 obtain⟨n,rfl,m,J,k⟩:=h
 refine⟨_,(ag (ay 1 kA.nd (bN ah))
   (ag (ay 2 kA.nd aj)
   (ag (ay 3 kA.nd (pv 0))
   (ag (fN PassesOwn.never (aB zR (pv 3) aj (aC _)) (ag (bG (aB cj (av b8 (pv 3) aj) aj (aC _)) (ak (aP (dW GZ G9 G8 aQ (pv 1) (ae (pv 2) ah)))) aJ)
   (ag (ay 3 kA.nd (av cg (pv 3) aj))
   (ak (ay 2 kA.nd (av b9 (pv 2) aj))))))
   (ak (aF (pv 1))))))),?_⟩
 refine⟨(by show 0<=LK;decide),λl C=>?_⟩
 have aa:(2:Nat)^80=1208925819614629174706176:=by decide
 have D:(K2.bitsF 0 n.toNat).length<=80:=K2.bitsF_len 80 n.toNat 0 ∅
 refine⟨_,rfl,iA (λO N=>∃(kn t:Nat)(g:List Nat),O = [some (.int n),some (.ref l),some (.int (kn:Int)),some (.int (t:Int))]/\N l=some (.lst (g.map iV))/\g++K2.bitsF kn t=K2.bitsF 0 n.toNat/\Same H N)
  (λO _=>match O with | [_,_,_,some (.int r)]=>r.toNat | _=>0) ⟨0,n.toNat,[],?_,af,rfl,ai C _⟩ ?_ ?_⟩
 .have e:((n.toNat:Nat):Int)=n:=by omega
  rw[e];rfl
 .rintro O N ⟨kn,t,g,rfl,u,M,x⟩;refine⟨_,rfl,_,_,rfl,rfl,_,rfl,?_⟩;refine ite2 (λc=>?_) (λc=>?_)
  .have L:(0:Int)<(t:Int):=MZ c
   have d2:((t:Int)/2)=((t/2:Nat):Int):=by omega
   have ab:g.length<=80:=by
    have:=congrArg List.length M;rw[Gx]at this;omega
   walk_at "rd";refine ite2 (λo=>?_) (λo=>?_)
   .have p:(t:Int)%2=1:=V.int.inj (MZ o)
    refine⟨_,rfl,.inl ⟨rfl,_,SqL.of u⟩,_,rfl,l,_,_,rfl,rfl,u,ar (by rw[Gu];omega),?_⟩
    walk_at "rd";refine⟨⟨kn+1,t/2,g++[kn],?_,?_,?_,?_⟩,?_⟩
    .show[some (V.int n),some (V.ref l),some (V.int ((kn:Int)+1)),some (V.int ((t:Int)/2))]=_;rw[d2];rfl
    .rw[af,GK];rfl
    .rw[Ib,← M];have z:=K2.bitsF_odd (k:=kn) (n:=t) ∅
     rw[z];rfl
    .exact aH x C _
    .show((t:Int)/2).toNat<((t:Nat):Int).toNat;omega
   .have p:¬ (t:Int)%2=1:=λz=>o (Mq (congrArg V.int z))
    walk_at "rd";refine⟨⟨kn+1,t/2,g,?_,u,?_,x⟩,?_⟩
    .show[some (V.int n),some (V.ref l),some (V.int ((kn:Int)+1)),some (V.int ((t:Int)/2))]=_;rw[d2];rfl
    .rw[← M,K2.bitsF_even (k:=kn) (n:=t) ∅ ∅]
    .show((t:Int)/2).toNat<((t:Nat):Int).toNat;omega
  .have L:¬ (0:Int)<(t:Int):=λz=>c (Mq z)
   have z:t=0:=by omega
   subst z;rw[K2.bitsF_zero,JB]at M;refine⟨_,rfl,?_⟩;exact k l N x C (by rw[u,M])
 .rintro O N Q1 Q2 T ⟨v,e,i,j,a,b,y,G,q⟩;exact⟨v,e,i,j,a,b,y,G,T _ _ q⟩
def flat(PL:List (Nat×Nat)):List Nat:=PL.flatMap λp=>[p.1,p.2]
def cst(d:Nat->Nat->Int)(PL:List (Nat×Nat)):Int:=(PL.map λp=>d p.1 p.2).sum
def Cs(d:Nat->Nat->Int)(S:List Nat)(c:Int):Prop:=∃ j,(flat j).Perm S/\cst d j=c
structure Met(n:Nat)(d:Nat->Nat->Int):Prop where
 sy:∀ a b,d a b=d b a
 nn:∀ a b,0<=d a b
 tr:∀ a b c,a<n->b<n->c<n->d a c<=d a b+d b c
theorem flat_cons(p:Nat×Nat)(PL:List (Nat×Nat)):flat (p::PL)=p.1::p.2::flat PL:=rfl
theorem kh(d:Nat->Nat->Int)(p:Nat×Nat)(PL:List (Nat×Nat)):cst d (p::PL)=d p.1 p.2+cst d PL:=by unfold cst;rw[G7,HH]
theorem Cs.perm{d:Nat->Nat->Int}{S:List Nat}{c:Int}(h:Cs d S c)(p:S.Perm l):Cs d l c:=by
 obtain⟨j,J,Y⟩:=h;exact⟨j,J.trans p,Y⟩
theorem part0{d:Nat->Nat->Int}(sy:∀ a b,d a b=d b a){a:Nat}:∀{PL:List (Nat×Nat)},a∈flat PL->∃ e g,(flat PL).Perm (a::e::flat g)/\cst d PL=d a e+cst d g
 |[],h=>nomatch h
 | (x,y)::PL,h=>by
  rw[flat_cons]at h;by_cases c1:a=x
  .subst c1;exact⟨y,PL,.refl _,kh ..⟩
  by_cases c2:a=y
  .subst c2;exact⟨x,PL,.swap _ _ _,by rw[kh];show d x a+_=_;rw[sy x a]⟩
  have j:a∈flat PL:=by
   rcases GG.mp h with h | h
   .exact Nh h c1
   .rcases GG.mp h with h | h
    .exact Nh h c2
    .exact h
  obtain⟨e,g,p,f⟩:=part0 sy j;refine⟨e,(x,y)::g,?_,by rw[kh,kh,f];omega⟩
  rw[flat_cons,flat_cons];have i:(x::y::flat PL).Perm (x::y::a::e::flat g):=(p.cons y).cons x;refine i.trans ?_;have L:([x,y]++([a,e]++flat g)).Perm ([a,e]++([x,y]++flat g)):=by
   rw[← Ib,← Ib];exact(List.perm_append_comm).append_right _
  exact L
theorem Cs.part{d:Nat->Nat->Int}(sy:∀ a b,d a b=d b a){S:List Nat}{c:Int}{a:Nat}(h:Cs d S c)(E:a∈S):∃ e R c0,S.Perm (a::e::R)/\Cs d R c0/\c=d a e+c0:=by
 obtain⟨j,p,f⟩:=h;obtain⟨e,g,A,i⟩:=part0 sy (p.mem_iff.mpr E);exact⟨e,flat g,cst d g,p.symm.trans A,⟨g,.refl _,rfl⟩,by rw[← f,i]⟩
theorem Cs.add{d:Nat->Nat->Int}{R:List Nat}{c0:Int}(a e:Nat)(h:Cs d R c0):Cs d (a::e::R) (d a e+c0):=by
 obtain⟨j,p,f⟩:=h;exact⟨(a,e)::j,by rw[flat_cons];exact(p.cons e).cons a,by rw[kh,f]⟩
def tog(S:List Nat)(a:Nat):List Nat:=if a∈S then S.erase a else a::S
theorem tog_nd{S:List Nat}(h:S.Nodup)(a:Nat):(tog S a).Nodup:=by
 unfold tog;split
 .exact h.erase _
 .exact Hj.mpr ⟨by assumption,h⟩
theorem vN{S:List Nat}(p:S.Perm l)(a:Nat):(tog S a).Perm (tog l a):=by
 unfold tog;by_cases c:a∈S
 .rw[Nf c,Nf (p.mem_iff.mp c)];exact p.erase a
 .rw[Ng c,Ng (λz=>c (p.mem_iff.mpr z))];exact p.cons a
theorem EL{S:List Nat}(h:S.Nodup)(a:Nat):(tog (tog S a) a).Perm S:=by
 by_cases c:a∈S
 .have e:tog S a=S.erase a:=by unfold tog;rw[Nf c]
  have n:a∉S.erase a:=h.not_mem_erase;have f:tog (S.erase a) a=a::S.erase a:=by unfold tog;rw[Ng n]
  rw[e,f];exact(List.perm_cons_erase c).symm
 .have e:tog S a=a::S:=by unfold tog;rw[Ng c]
  have f:tog (a::S) a=S:=by unfold tog;rw[Nf (GN ..),Jq]
  rw[e,f]
theorem Fx{S:List Nat}(h:S.Nodup){a x:Nat}:x∈tog S a↔(x∈S/\x≠a)∨(x=a/\a∉S):=by
 unfold tog;by_cases c:a∈S
 .rw[Nf c,h.mem_erase_iff];exact⟨λz=>.inl ⟨z.2,z.1⟩,λz=>z.elim (λy=>⟨y.2,y.1⟩) λy=>Nh c y.2⟩
 .rw[Ng c,GG];constructor
  .rintro(z | z)
   .exact .inr ⟨z,c⟩
   .exact .inl ⟨z,λy=>c (y▸z)⟩
  .rintro(z | z)
   .exact .inr z.1
   .exact .inl z.1
theorem Cs.two{d:Nat->Nat->Int}(M:Met n d){S:List Nat}{c:Int}(nd:S.Nodup)(lt:∀ x∈S,x<n)(h:Cs d S c){a b:Nat}(E:a<n)(g:b<n):∃ c',Cs d (tog (tog S a) b) c'/\c'<=c+d a b:=by
 have r:=M.nn a b;by_cases t:a=b
 .subst t;exact⟨c,h.perm (EL nd a).symm,∅⟩
 by_cases m:a∈S
 .obtain⟨e,R,c0,p,w,O⟩:=h.part M.sy m;have G:tog S a=S.erase a:=by unfold tog;rw[Nf m]
  have i:(S.erase a).Perm (e::R):=by
   have:=p.erase a;rw[Jq]at this;exact this
  have l:e<n:=lt e (p.mem_iff.mpr (GD _ (GN ..)));rw[G];by_cases k:b∈S.erase a
  .have B:tog (S.erase a) b=(S.erase a).erase b:=by unfold tog;rw[Nf k]
   rw[B];by_cases s:e=b
   .subst s;have C:=i.erase e;rw[Jq]at C;refine⟨c0,w.perm C.symm,?_⟩;have:=M.nn a e;omega
   .have v:b∈R:=by
     rcases GG.mp (i.mem_iff.mp k)with z | z
     .exact Nh z.symm s
     .exact z
    obtain⟨f,R2,c1,q,J,y⟩:=w.part M.sy v;have flt:f<n:=lt f (p.mem_iff.mpr (GD _ (GD _ (q.mem_iff.mpr (GD _ (GN ..))))));have C:((S.erase a).erase b).Perm (e::f::R2):=by
     have u:(S.erase a).Perm (b::e::f::R2):=i.trans ((q.cons e).trans (.swap _ _ _));have N:=u.erase b;rw[Jq]at N;exact N
    refine⟨d e f+c1,(J.add e f).perm C.symm,?_⟩;have Q:=M.tr e a f l E flt;have j:=M.tr a b f E g flt;have o:=M.sy e a;omega
  .have B:tog (S.erase a) b=b::S.erase a:=by unfold tog;rw[Ng k]
   rw[B];refine⟨d b e+c0,(w.add b e).perm (i.symm.cons b),?_⟩;have Q:=M.tr b a e g E l;have o:=M.sy b a;omega
 .have G:tog S a=a::S:=by unfold tog;rw[Ng m]
  rw[G];by_cases k:b∈S
  .have B:tog (a::S) b=a::S.erase b:=by
    unfold tog;rw[Nf (GD _ k),List.erase_cons_tail (by simpa using t)]
   rw[B];obtain⟨e,R,c0,p,w,O⟩:=h.part M.sy k;have i:(S.erase b).Perm (e::R):=by
    have:=p.erase b;rw[Jq]at this;exact this
   have l:e<n:=lt e (p.mem_iff.mpr (GD _ (GN ..)));refine⟨d a e+c0,(w.add a e).perm (i.symm.cons a),?_⟩;have Q:=M.tr a b e E g l;omega
  .have B:tog (a::S) b=b::a::S:=by
    unfold tog;rw[Ng (λz=>by rcases GG.mp z with z | z;exact t z.symm;exact k z)]
   rw[B];refine⟨d b a+c,h.add b a,?_⟩;have:=M.sy b a;omega
end KF
variable{ls:List KF.Lk}
namespace KF
open PySem L2
def lpF:Pos:=⟨70,32,70,55⟩
theorem Fun.okT{g:Str}{st:Stmt}{c TT:Addr}{N ps:List Str}{k:Nat}(F:Fun K x g st f fd)(S:aw N ps (aq st))(ht:Jo K x=some (c,TT))(T:Hm K LN x=some (some (.ref f)))
  (len:∀ vs H Q E,sp vs H Q E->vs.length=ps.length)
  (a:∀(A:Around)(outer:List Env)(s:Shared)(H:Hp)(vs:List V)(Q:VK)(E:XK),Room k (A.deeper (PyProof.Rows.envOfC g (aq st) s.heap.objs.size f (.ref c)))->sp vs H Q E ->
   ∃ t,PSs (cxOf CX0 P w K mg base N g (aq st) f (.ref c) A outer s H E).nox (bS st) t/\t { nx:=λ_ H'=>Q .non H',rt:=Q } (nV N vs) H):FnOk P w K mg base CX0 (k+1) f fd ps sp:=by
 obtain⟨l,O,kV,j,i,m,d,n,b,rfl,u,z⟩:=F.ex;have e:d=.ref c:=by
  unfold Jo at ht;rw[T]at ht;simp only[u]at ht
  cases d<;>first | (cases ht;done) | skip
  simp only at ht;split at ht
  .split at ht
   .cases ht;rfl
   .cases ht
  .cases ht
 subst e;refine FW u z S len λA outer s H vs Q E B C=>?_;obtain⟨t,h,q⟩:=a A outer s H vs Q E B C;exact⟨t,h.nox,q⟩
def oV:Option Int->V | none=>.non | some x=>.int x
def oN:Option Nat->V | none=>.non | some k=>.int (k:Int)
def kw(r:Nat):Key×V:=(Sum.inl (r:Int),.bl true)
def lqF:Str:=("fares" : Str)++".<locals>."++"<lambda>"
def sF(T va wd TT p:Addr):Prop:=p=TT∨p=T∨p=va∨p=wd
def KpS(S:Addr->Prop)(H H':Hp):Prop:=∀ b o,¬ S b->H b=some o->H' b=some o
theorem KpS.upd{S:Addr->Prop}(a:KpS S H H1)(hp:S p)(o:HO):KpS S H (L2.upd H1 p o):=λc u n h=>by
 rw[ao (λz=>n (by rw[z];exact hp))]
 exact a c u n h
inductive spFares(TT:Addr)(vs:List L2.V)(H:L2.Hp)(Q:L2.VK)(x3_:L2.XK):Prop
 |mk (v:V)(n s:Nat)(ls:List Lk) (h0_:vs = [.int (n:Int),v,.int (s:Int)])(h1_:LnAt H v ls)(h2_:Lok n ls)(h3_:s<n)(h4_:Tb lqF lpF TT H)(h5_:∀(t ta va:Addr)(TL:List (Option Int))(VL:List (Option Nat)) H',TbS TT H H'->Tb lqF lpF TT H'->H ta=none->H va=none->H' t=some (.tup [.ref ta,.ref va])->H' ta=some (.lst (TL.map oV))->H' va=some (.lst (VL.map oN))->FI n ls s MM TL VL [] (λ_ _=>False)->Q (.ref t) H')
structure FH(ta va wd TT:Addr)(n s:Nat)(ls:List Lk)(H1:Hp)(TL:List (Option Int))(VL:List (Option Nat))(W:List Nat)(ex:Nat->Nat->Prop)(H:Hp):Prop where
 kp:KpS (sF ta va wd TT) H1 H
 ht:H ta=some (.lst (TL.map oV))
 hv:H va=some (.lst (VL.map oN))
 hw:H wd=some (.dK (W.map kw))
 tb:Tb lqF lpF TT H
 fi:FI n ls s MM TL VL W ex
 nd:W.Nodup
def vW(n:Nat)(v:V):Nat:=match v with | .int x=>x.toNat | _=>n*MM+1
def mesH(n:Nat)(T wd:Addr)(H:Hp):Nat:=match H T,H wd with
 |some (.lst N),some (.dK m)=>(N.map (vW n)).sum*(n+1)+m.length
 |_,_=>0
theorem FH.mes{TT:Addr}{s:Nat}(h:FH a va wd TT n s ls H1 T O W ex H):mesH n a wd H=wgt (n*MM+1) T*(n+1)+W.length:=by
 unfold mesH wgt;rw[h.ht,h.hw];have e:(T.map oV).map (vW n)=T.map (vOf (n*MM+1)):=by
  rw[IU];refine Ja λo _=>?_
  cases o<;>rfl
 show((T.map oV).map (vW n)).sum*(n+1)+(W.map kw).length=_;rw[e,Gu]
theorem FH.wlen{TT:Addr}{s:Nat}(h:FH a va wd TT n s ls H1 T O W ex H):W.length<=n :=
 jT n W h.nd λx L=>by
  obtain⟨y,Q⟩:=h.fi.wk x L;have:=(Gn.mp Q).1;rw[h.fi.tl]at this;exact this
theorem Ef{r s:Nat}(h:(kw r).1=(kw s).1):r=s:=by
 have:(r:Int)=(s:Int):=by injection h
 omega
theorem yC{r:Nat}:∀{W:List Nat},r∈W->valV (W.map kw) (.inl (r:Int))=some (.bl true)
 |w::W,h=>by
  rw[G7];by_cases c:(kw w).1=Sum.inl (r:Int)
  .rw[bc c];rfl
  .rw[bf c];refine yC ?_;rcases GG.mp h with h | h
   .exact Nh (by rw[h];rfl) c
   .exact h
theorem no_kw{r:Nat}:∀{W:List Nat},r∉W->valV (W.map kw) (.inl (r:Int))=none
 |[],_=>rfl
 |w::W,h=>by
  rw[G7,bf (λc=>h (by rw[Ef (r:=w) (s:=r) c];exact GN ..))]
  exact no_kw λz=>h (GD _ z)
theorem vj(r:Nat):∀ W:List Nat,lM (W.map kw) (.inl (r:Int))=(W.filter (λx=>decide (x≠r))).map kw
 |[]=>rfl
 |w::W=>by
  rw[G7];by_cases c:w=r
  .rw[Bb (by rw[c];rfl),vj r W,JA (by simpa using c)]
  .rw[Bc (k:=Sum.inl (r:Int)) (λz=>c (Ef (r:=w) (s:=r) z)),vj r W,Jz (by simpa using c),G7]
theorem put_kw{t:Nat}(nd:W.Nodup):∃ W':List Nat,putK (W.map kw) (.inl (t:Int)) (.bl true)=W'.map kw/\W'.Nodup/\∀ r,r∈W'↔r∈W∨r=t:=by
 by_cases c:t∈W
 .refine⟨W,?_,nd,λr=>⟨.inl,λz=>z.elim id λz=>z▸c⟩⟩;unfold putK;rw[fA,yC c,Option.isSome_some,Nf rfl];rw[IU];refine Ja λx _=>?_;show(if(kw x).1=Sum.inl (t:Int) then((kw x).1,V.bl true) else kw x)=kw x;split<;>rfl
 .refine⟨W++[t],by rw[pF _ (no_kw c),GK];rfl,ux nd c,λr=>by rw[GU,GJ]⟩
structure Sg(la aa ta va wd TT:Addr)(n s:Nat)(ls:List Lk)(xs ys:List V)(rows:List (List Nat))(H1:Hp):Prop where
 hA:H1 la=some (.lst xs)
 hL:LsAt LkAt H1 xs ls
 ok:Lok n ls
 hR:H1 aa=some (.lst ys)
 rx:bw (sF ta va wd TT) H1 ys rows
 am:AtM n 120 rows (memL ls)
 nla:¬ sF ta va wd TT la
 naa:¬ sF ta va wd TT aa
 tt:∀ t o,H1 t=some (.tup o)->¬ sF ta va wd TT t
 ntv:ta≠va
 ntw:ta≠wd
 nvw:va≠wd
 nTt:ta≠TT
 nTv:va≠TT
 nTw:wd≠TT
theorem mM{q:Str}{f:Pos}{TT:Addr}(h:Tb q f TT H)(k:∀ b,(b=TT∨∃ c,H b=some (codO c q))->H' b=H b):Tb q f TT H':=by
 rcases h with h | ⟨c,J,Y⟩
 .exact .inl ((k TT (.inl rfl)).trans h)
 .exact .inr ⟨c,(k TT (.inl rfl)).trans J,(k c (.inr ⟨c,Y⟩)).trans Y⟩
theorem FH.new{TT:Addr}{s:Nat}(h:FH a va wd TT n s ls H1 T O W ex H)(hp:H p=none)(o:HO):FH a va wd TT n s ls H1 T O W ex (upd H p o):=by
 have sm:=ai hp o;refine⟨λb u x e=>sm _ _ (h.kp b u x e),sm _ _ h.ht,sm _ _ h.hv,sm _ _ h.hw,mM h.tb λb M=>ao λz=>?_,h.fi,h.nd⟩;subst z;rcases M with M | ⟨c,M⟩
 .subst M;rcases h.tb with y | ⟨_,y,_⟩<;>rw[hp]at y<;>cases y
 .rw[hp]at M;cases M
theorem FH.tab{TT:Addr}{s:Nat}(h:FH a va wd TT n s ls H1 T O W ex H)(d:a≠TT)(f:va≠TT)(c:wd≠TT)(sm:TbS TT H H')(tb:Tb lqF lpF TT H'):FH a va wd TT n s ls H1 T O W ex H' :=
 ⟨λb u x e=>sm _ _ (λz=>x (.inl z)) (h.kp b u x e),sm _ _ d h.ht,sm _ _ f h.hv,sm _ _ c h.hw,tb,h.fi,h.nd⟩
def FrI(b f T va wd TT:Addr)(n s:Nat)(ls:List Lk)(H1:Hp)(O:St)(H:Hp):Prop:=∃(e g d a:Option V)(L:List (Option Int))(c:List (Option Nat))(W:List Nat),
 O = [some (.int (n:Int)),some (.ref b),some (.int (s:Int)),some (.ref f),some (.ref T),some (.ref va),some (.ref wd),e,g,d,a]/\FH T va wd TT n s ls H1 L c W (λ_ _=>False) H
def InI(b f T va wd TT:Addr)(n s:Nat)(ls:List Lk)(row:List Nat)(m u o:Nat)(H1:Hp)(i:Nat)(O:St)(H:Hp):Prop:=∃(g d a:Option V)(L:List (Option Int))(c:List (Option Nat))(W:List Nat),
 O = [some (.int (n:Int)),some (.ref b),some (.int (s:Int)),some (.ref f),some (.ref T),some (.ref va),some (.ref wd),some (.int (m:Int)),g,d,a]/\FH T va wd TT n s ls H1 L c W (λr j=>r=m/\j∉row.take i) H/\(∃ x,L[m]?=some (some x)) /\
 ((wgt (n*MM+1) L=u/\W.length<o)∨wgt (n*MM+1) L<u)
inductive restF(la TT:Addr)(n s:Nat)(ls:List Lk)(D:L2.Ends)(σ:L2.St)(H:L2.Hp):Prop
 |mk (aa ta va wd:Addr)(xs ys:List V)(rows:List (List Nat))(H1:Hp)(v8 v9 v10:Option V)(TL:List (Option Int))(VL:List (Option Nat))(W:List Nat)(m l0:Nat) (h0_:Sg la aa ta va wd TT n s ls xs ys rows H1)(h1_:σ = [some (.int (n:Int)),some (.ref la),some (.int (s:Int)),some (.ref aa),some (.ref ta),some (.ref va),some (.ref wd),some (.int (m:Int)),v8,v9,v10])(h2_:FH ta va wd TT n s ls H1 TL VL W (λr _=>r=m) H)(h3_:(∃ x,TL[m]?=some (some x)))(h4_:W.length<l0)(h5_:∀ σ' H',FrI la aa ta va wd TT n s ls H1 σ' H'->mesH n ta wd H'<wgt (n*MM+1) TL*(n+1)+l0->D.nx σ' H')
inductive restM(la TT:Addr)(n s:Nat)(ls:List Lk)(D:L2.Ends)(σ:L2.St)(H:L2.Hp):Prop
 |mk (aa ta va wd:Addr)(xs ys:List V)(rows:List (List Nat))(H1:Hp)(TL:List (Option Int))(VL:List (Option Nat))(W:List Nat)(m w0 l0 i k:Nat)(row:List Nat)(l:Lk)(x:Int)(o:Option Int) (h0_:Sg la aa ta va wd TT n s ls xs ys rows H1)(h1_:σ = [some (.int (n:Int)),some (.ref la),some (.int (s:Int)),some (.ref aa),some (.ref ta),some (.ref va),some (.ref wd),some (.int (m:Int)),some (.int (k:Int)),some (.int ((bey l m:Nat):Int)),some (.int (x+l.2.2))])(h2_:FH ta va wd TT n s ls H1 TL VL W (λr j=>r=m/\j∉row.take i) H)(h3_:ls[k]?=some l)(h4_:lL l m)(h5_:TL[m]?=some (some x))(h6_:TL[bey l m]?=some o)(h7_:(∀ y,o=some y->x+l.2.2<y))(h8_:row[i]?=some k)(h9_:((wgt (n*MM+1) TL=w0/\W.length<l0)∨wgt (n*MM+1) TL<w0))(h10_:∀ σ' H',InI la aa ta va wd TT n s ls row m w0 l0 H1 (i+1) σ' H'->D.nx σ' H')
theorem A8{row:List Nat}{k:Nat}(G:row[i]?=some k):∀ r j,(r=m/\j∉row.take i)->(r=m/\j∉row.take (i+1))∨(r=m/\j=k):=λr j ⟨J,Y⟩=>by
 by_cases c:j=k
 .exact .inr ⟨J,c⟩
 .refine .inl ⟨J,λz=>?_⟩;rw[He,G]at z;rcases GU.mp z with z | z
  .exact Y z
  .exact c (GJ.mp z)
theorem uv{r:Nat}{o:Option Int}(h:T[r]?=some o):(T.map oV)[r]?=some (oV o):=by rw[GC,h];rfl
theorem dG:aw ["many","links","start","at","told","via","waiting","room","number","there","fare"] ["many","links","start"] (aq gK):=by ac_nf
theorem ok_fares{f2 c TT:Addr} (F:Fun K "fares" "fares" gK f fd) (T:Txt mg) (ht:Jo K "fares" = some (c,TT)) (hn:Hm K LN "fares" = some (some (.ref f))) (a0:Jf base c TT) (bU:Bm mg base)
  (bg:Cal P w K mg base 1 "links_at" ["many","links"] spAt I G) (a7:Cal P w K mg base 1 "beyond" ["link","room"] EW f2 Y):FnOk P w K mg base CX0 2 f fd ["many","links","start"] (spFares TT):=by
 refine Fun.okT F dG ht hn (λvs H Q E h=>?_) (λA ab s H vs Q E B h=>?_)
 .obtain⟨v,n,aO,ls,rfl,_⟩:=h;rfl
 obtain⟨v,n,aO,ls,rfl,⟨la,xs,rfl,hA,hL⟩,ok,hs,be,kk⟩:=h;have hu:=sf B;have a9:=B.units;have n1:=ok.n1;have l9:=ok.l9;have LM:∀ N,Lam (cxOf CX0 P w K mg base N "fares" (aq gK) f (.ref c) A ab s H E).nox c TT (s.heap.objs.size+1) lqF:=λN=>⟨rfl,a0,bU,rfl,rfl,rfl,rfl⟩
 refine⟨_,(ag (ay 3 dG.nd (bg.c B (ae (pv 0) (ae (pv 1) ah))))
   (ag (ay 4 dG.nd (dU [] ["room"] (aZ rfl T.n_range (ae (pv 0) ah)) pg_c pt_c (λC ex s H=>lg)))
   (ag (mY 5 [] ["room"] dG.nd (aZ rfl T.n_range (ae (pv 0) ah)) pg_c pt_c (λC ex s H=>lg))
   (ag (zy aj (zJ (pv 4) (pv 2) pd))
   (ag (ay 6 dG.nd (ui (pG (pv 2) lG ua) rfl rfl (λz=>by cases z) (by decide)))
   (ag (fN PassesOwn.never (aB (op_neE a9) (pv 6) mh (aC _)) (ag (ay 7 dG.nd (E8 (it:=4) (LM _) rfl rfl (B.mono (by decide)) rfl (Or.inr (Or.inl rfl)) rfl T.n_min (ae (pv 6) ah)))
   (ag (aP (Ce (pv 6) (pv 7) ⟨rfl,rfl,rfl,rfl⟩))
   (fM (t2:=restF la TT n aO ls) (ak (bM PassesOwn.never rfl (aU (bH (pv 3) (pv 7))) (cJ 8 dG.nd) (ag (ay 9 dG.nd (a7.c B (ae (bH (pv 1) (pv 8)) (ae (pv 7) ah))))
   (ag (ay 10 dG.nd (av b9 (bH (pv 4) (pv 7)) (dw (bH (pv 1) (pv 8)) aj)))
   (ak (bG (PW.pt (zt (aB D9 (bH (pv 4) (pv 9)) lg (aC _)) (we (aB uo (pv 10) (bH (pv 4) (pv 9)) (aC _))))) (fM (t2:=restM la TT n aO ls) (ag (zy (pv 10) (zJ (pv 4) (pv 9) pd))
   (ag (zy (pv 8) (zJ (pv 5) (pv 9) pd))
   (ak (kM hu (pv 6) (pv 9) lG rfl)))) (λD0 S0 H0 h0=>?restm)) aJ)))))) (λD0 S0 H0 h0=>?restf)))))
   (ak (aF (dB (ae (pv 4) (ae (pv 5) ah))))))))))),?_⟩
 case restm =>
  obtain⟨aa,ta,va,wd,xs,ys,bd,H1,TL,VL,W,m,w0,l0,i,k,row,l,x,o,sg,rfl,fh,j,hm,L,ho,al,u,bu,kn⟩:=h0;have tl:=fh.fi.tl;have vl:=fh.fi.vl;have tt:bey l m<n:=by rw[← tl];exact(Gn.mp ho).1
  have ce:=(fh.fi.w0 l (Gv j));have bQ:=sg.ntv;have bi:=sg.ntw;have bv:=sg.nvw;have bD:=sg.nTt;have bP:=sg.nTv;have bo:=sg.nTw;refine⟨_,rfl,_,rfl,_,rfl,ta,_,_,bey l m,rfl,rfl,fh.ht,qi (by rw[Gu];omega),?_⟩
  refine⟨_,rfl,_,rfl,_,rfl,va,_,_,bey l m,rfl,rfl,by rw[ao (Ne.symm bQ)];exact fh.hv,qi (by rw[Gu];omega),?_⟩
  have cn:(upd (upd H0 ta (.lst ((TL.map oV).set (bey l m) (.int (x+l.2.2))))) va (.lst ((VL.map oN).set (bey l m) (.int (k:Int))))) wd=some (.dK (W.map kw)):=by rw[ao (Ne.symm bv),ao (Ne.symm bi)];exact fh.hw
  have wl:=fh.wlen;refine⟨_,rfl,_,rfl,wd,_,rfl,DPut.k (k:=.inl ((bey l m:Nat):Int)) (v:=.bl true) cn (by rw[Gu];exact ar ∅),?_⟩
  obtain⟨W',eW,co,mW⟩:=put_kw (t:=bey l m) fh.nd;rw[eW];have e1:(TL.map oV).set (bey l m) (.int (x+l.2.2))=(TL.set (bey l m) (some (x+l.2.2))).map oV:=by rw[List.map_set];rfl
  have e2:(VL.map oN).set (bey l m) (.int (k:Int))=(VL.set (bey l m) (some k)).map oN:=by rw[List.map_set];rfl
  rw[e1,e2];have cp:=fh.fi.mend (W':=W') j hm L ho al mW (A8 u);have ct:=BS fh.fi ce.1 ce.2 L ho al;have nm:bey l m≠m:=λe=>by
   rw[e,L]at ho
   cases ho
   have:=al x rfl;omega
  refine kn _ _ ⟨_,_,_,_,_,W',rfl,⟨((fh.kp.upd (.inr (.inl rfl)) _).upd (.inr (.inr (.inl rfl))) _).upd (.inr (.inr (.inr rfl))) _,?_,?_,af,?_,cp,co⟩,⟨x,by rw[rB ∅,Ng nm];exact L⟩,.inr (by rcases bu with d | d<;>omega)⟩
  .rw[ao bi,ao bQ];exact af
  .rw[ao bv];exact af
  .refine mM fh.tb λb M=>?_;rw[ao (λz=>?_),ao (λz=>?_),ao (λz=>?_)]
   .rcases M with M | ⟨c',M⟩
    .exact bD (z▸M)
    .rw[z,fh.ht]at M;cases M
   .rcases M with M | ⟨c',M⟩
    .exact bP (z▸M)
    .rw[z,fh.hv]at M;cases M
   .rcases M with M | ⟨c',M⟩
    .exact bo (z▸M)
    .rw[z,fh.hw]at M;cases M
 case restf =>
  obtain⟨aa,ta,va,wd,xs,ys,bd,H1,v8,v9,aT,TL,VL,W,m,l0,sg,rfl,fh,⟨x,L⟩,ch,kn⟩:=h0;have mn:m<n:=by rw[← fh.fi.tl];exact(Gn.mp L).1
  have rl:=sg.am.len;obtain⟨row,a5⟩:∃ row,bd[m]?=some row:=⟨_,Gs ∅⟩
  obtain⟨pr,r1,r2,r3⟩:=sg.rx.2 _ _ a5;have hR:=fh.kp _ _ sg.naa sg.hR;have cs:=fh.kp _ _ r2 r3;have aI:=sg.am.few row (Gv a5);refine⟨_,rfl,_,rfl,aa,_,_,_,rfl,rfl,SqL.of hR,aG r1,pr,rfl,⟨_,SqL.of cs⟩,cf (K:=K) (xs:=row.map iV) (InI la aa ta va wd TT n aO ls row m (wgt (n*MM+1) TL) l0 H1) ⟨_,_,_,TL,VL,W,rfl,⟨fh.kp,fh.ht,fh.hv,fh.hw,fh.tb,fh.fi.exw λr i l _ _ z=>⟨z,by rw[Lr];exact λy=>nomatch y⟩,fh.nd⟩,⟨x,L⟩,.inl ⟨rfl,ch⟩⟩ (λi O g _ z=>?_) ?_ ?_⟩
  .obtain⟨_,_,_,_,_,_,_,f2,_⟩:=z;exact SqL.of (f2.kp _ _ r2 r3)
  .rintro i y O g hy ⟨v8,v9,aT,bm,bR,W2,rfl,f2,⟨x2,bn⟩,bu⟩;rw[GC]at hy;obtain⟨k,u,rfl⟩:=G5.mp hy;obtain⟨l,j,aR⟩:=(sg.am.mm m row a5 k).mp (Gv u);obtain⟨lv,b0,ba⟩:=sg.hL.2 k l j;obtain⟨lt,rfl,ca⟩:=ba;have cb:=f2.kp _ _ (sg.tt _ _ ca) ca;have ci:=f2.kp _ _ sg.nla sg.hA;obtain⟨b1,b2⟩:=sg.ok.sm l (Gv j);have tt:bey l m<n:=bey_lt b1 b2;have cv:=f2.fi.tl;obtain⟨o,ho⟩:∃ o,bm[bey l m]?=some o:=⟨_,Gs ∅⟩
   refine⟨_,rfl,_,rfl,la,_,_,_,rfl,rfl,SqL.of ci,aG b0,_,rfl,.ref lt,l,m,rfl,⟨lt,rfl,cb⟩,?_⟩;refine⟨_,rfl,_,rfl,ta,_,_,_,rfl,rfl,SqL.of f2.ht,aG (uv bn),_,rfl,_,rfl,la,_,_,_,rfl,rfl,SqL.of ci,aG b0,lt,_,2,_,rfl,rfl,SqT.of cb,a32,_,_,rfl,rfl,?_⟩;refine⟨_,rfl,_,rfl,ta,_,_,_,rfl,rfl,SqL.of f2.ht,aG (uv ho),rfl,_,rfl,?_⟩
   cases o with
   |none =>
    refine iteT (iteT ?_);exact⟨aa,ta,va,wd,xs,ys,bd,H1,bm,bR,W2,m,wgt (n*MM+1) TL,l0,i,k,row,l,x2,none,sg,rfl,f2,j,aR,bn,ho,(λy e=>nomatch e),u,bu,λan H' z=>z⟩
   |some y0 =>
    refine iteF ?_;refine⟨_,rfl,_,rfl,_,rfl,ta,_,_,_,rfl,rfl,SqL.of f2.ht,aG (uv ho),_,_,rfl,rfl,_,rfl,?_⟩;refine ite2 (λc=>?_) (λc=>?_)
    .have c':x2+l.2.2<y0:=MZ c
     exact⟨aa,ta,va,wd,xs,ys,bd,H1,bm,bR,W2,m,wgt (n*MM+1) TL,l0,i,k,row,l,x2,some y0,sg,rfl,f2,j,aR,bn,ho,(λy e=>by cases e;exact c'),u,bu,λan H' z=>z⟩
    .have c':¬ x2+l.2.2<y0:=λz=>c (Mq z)
     exact⟨_,_,_,bm,bR,W2,rfl,⟨f2.kp,f2.ht,f2.hv,f2.hw,f2.tb,f2.fi.leave j bn ho ∅ (A8 u),f2.nd⟩,⟨x2,bn⟩,bu⟩
  .rintro O g ⟨v8,v9,aT,bm,bR,W2,rfl,f2,_,bu⟩
   have ap:FH ta va wd TT n aO ls H1 bm bR W2 (λ_ _=>False) g:=⟨f2.kp,f2.ht,f2.hv,f2.hw,f2.tb,f2.fi.exw λr i l j aR ⟨z1,z2⟩=>by
    subst z1;rw[Gu,Hi]at z2
    exact z2 ((sg.am.mm r row a5 i).mpr ⟨l,j,aR⟩),f2.nd⟩
   refine kn _ _ ⟨_,_,_,_,bm,bR,W2,rfl,ap⟩ ?_;rw[ap.mes];have wl:=ap.wlen;rcases bu with⟨d1,d2⟩ | d
   .rw[d1];omega
   .have J:(wgt (n*MM+1) bm+1)*(n+1)<=wgt (n*MM+1) TL*(n+1):=Kx _ d
    rw[Nat.add_mul,Nat.one_mul]at J;omega
 refine⟨_,rfl,_,rfl,.ref la,n,ls,rfl,⟨la,xs,rfl,hA,hL⟩,ok,λaa ys bd Ha sa ck cl rx am=>?_⟩;refine⟨_,rfl,_,rfl,∅,∅,cY (n:=(n:Int).toNat) (λi zs g=>g=Ha/\zs=GH i V.non) (by rw[GA];exact G6 (ar ∅)) ⟨rfl,rfl⟩ ?_ ?_⟩
 .rintro i zs g hi ⟨rfl,rfl⟩;exact⟨rfl,by rw[IH]⟩
 rintro zs g _ ⟨rfl,rfl⟩ ta aS;rw[GA];have z1:=ai aS (.lst (GH n V.non));refine⟨_,rfl,_,rfl,∅,∅,cY (n:=(n:Int).toNat) (λi zs H3=>H3=upd g ta (.lst (GH n V.non))/\zs=GH i V.non) (by rw[GA];exact G6 (ar ∅)) ⟨rfl,rfl⟩ ?_ ?_⟩
 .rintro i zs H3 hi ⟨rfl,rfl⟩;exact⟨rfl,by rw[IH]⟩
 rintro zs H3 _ ⟨rfl,rfl⟩ va a1;rw[GA];have bQ:ta≠va:=λz=>by rw[← z,af]at a1;cases a1
 have z2:=ai a1 (.lst (GH n V.non));refine⟨_,rfl,_,rfl,ta,_,_,aO,rfl,rfl,by rw[ao bQ];exact af,qi (by rw[Im];exact hs),?_⟩
 intro wd b6;refine⟨_,rfl,af,[kw aO],rfl,(by show 1<=15;decide),?_⟩
 have bi:ta≠wd:=λz=>by rw[← z,af]at b6;cases b6
 have bY:g va=none:=dP z1 a1;have bZ:(upd (upd g ta (.lst (GH n V.non))) va (.lst (GH n V.non))) wd=none:=by rw[ao (Ne.symm bi)]at b6;exact b6
 have bv:va≠wd:=λz=>by rw[← z,af]at bZ;cases bZ
 have bB:g wd=none:=dP (z1.trans z2) bZ;have cc:H TT≠none:=by rcases be with y | ⟨_,y,_⟩<;>rw[y]<;>simp
 have aL:g TT≠none:=by
  cases y:H TT with
  |none=>exact Nh y cc
  |some o=>rw[sa _ _ y];simp
 have bD:ta≠TT:=λz=>aL (z▸aS);have bP:va≠TT:=λz=>aL (z▸bY);have bo:wd≠TT:=λz=>aL (z▸bB);have bx:Same g (upd (upd (upd (upd (upd g ta (.lst (GH n V.non))) va (.lst (GH n V.non))) ta (.lst ((GH n V.non).set aO (.int 0)))) wd (.dK [])) wd (.dK (fj [] [kw aO]))):=aH (aH (aH (z1.trans z2) aS _) bB _) bB _;have eT:((GH n V.non).set aO (.int 0))=((GH n (none:Option Int)).set aO (some 0)).map oV:=by rw[List.map_set,List.map_replicate];rfl
 have eV:(GH n V.non)=(GH n (none:Option Nat)).map oN:=by rw[List.map_replicate];rfl
 have g1:(upd (upd (upd (upd (upd g ta (.lst (GH n V.non))) va (.lst (GH n V.non))) ta (.lst ((GH n V.non).set aO (.int 0)))) wd (.dK [])) wd (.dK (fj [] [kw aO]))) ta=some (.lst (((GH n (none:Option Int)).set aO (some 0)).map oV)):=by
  rw[ao bi,ao bi,← eT];exact af
 have g2:(upd (upd (upd (upd (upd g ta (.lst (GH n V.non))) va (.lst (GH n V.non))) ta (.lst ((GH n V.non).set aO (.int 0)))) wd (.dK [])) wd (.dK (fj [] [kw aO]))) va=some (.lst ((GH n (none:Option Nat)).map oN)):=by
  rw[ao bv,ao bv,ao (Ne.symm bQ),← eV];exact af
 have g3:(upd (upd (upd (upd (upd g ta (.lst (GH n V.non))) va (.lst (GH n V.non))) ta (.lst ((GH n V.non).set aO (.int 0)))) wd (.dK [])) wd (.dK (fj [] [kw aO]))) wd=some (.dK ([aO].map kw)):=af;generalize (upd (upd (upd (upd (upd g ta (.lst (GH n V.non))) va (.lst (GH n V.non))) ta (.lst ((GH n V.non).set aO (.int 0)))) wd (.dK [])) wd (.dK (fj [] [kw aO])))=H1 at bx g1 g2 g3;have sH:Same H H1:=sa.trans bx;have nS:∀ b,g b≠none->b≠TT->¬ sF ta va wd TT b:=λb M nT z=>by
  rcases z with z | z | z | z
  .exact nT z
  .exact M (z▸aS)
  .exact M (z▸bY)
  .exact M (z▸bB)
 have sg:Sg la aa ta va wd TT n aO ls xs ys bd H1:=⟨sH _ _ hA,hL.imp λ_ _ q=>q.mono sH,ok,bx _ _ cl,⟨rx.1,λi l e=>by
   obtain⟨p,p1,p2,p3⟩:=rx.2 i l e;exact⟨p,p1,nS p (by rw[p3];simp) (λz=>p2 (.inr (z▸cc))),bx _ _ p3⟩⟩,am,nS la (by rw[sa _ _ hA];simp) (λz=>by rcases be with y | ⟨_,y,_⟩<;>rw[← z,hA]at y<;>cases y),nS aa (by rw[cl];simp) (λz=>cc (z▸ck)),(λt o e z=>by
   rcases z with z | z | z | z
   .rw[z]at e;rcases be with y | ⟨_,y,_⟩<;>rw[sH _ _ y]at e<;>cases e
   .rw[z,g1]at e;cases e
   .rw[z,g2]at e;cases e
   .rw[z,g3]at e;cases e),bQ,bi,bv,bD,bP,bo⟩
 have a3:Tb lqF lpF TT H1:=by
  rcases be with y | ⟨c',y1,y2⟩
  .exact .inl (sH _ _ y)
  .exact .inr ⟨c',sH _ _ y1,sH _ _ y2⟩
 refine iA (FrI la aa ta va wd TT n aO ls H1) (λ_ H'=>mesH n ta wd H') ⟨_,_,_,_,_,_,[aO],rfl,⟨λ_ _ _ e=>e,g1,g2,g3,a3,FI.first ok.w0 hs,Hj.mpr ⟨(by simp),IW⟩⟩⟩ ?_ ?_
 .rintro O H3 ⟨v7,v8,v9,aT,TL,VL,W,rfl,fh⟩;refine⟨_,rfl,λp D=>?_⟩;have a6:=fh.new D (.dK []);refine⟨wd,p,W.map kw,rfl,rfl,a6.hw,af,_,rfl,?_⟩;refine ite2 (λc=>?_) (λc=>?_)
  .have ne:W.map kw≠[]:=λz=>by rw[z]at c;cases c
   refine⟨_,rfl,wd,W.map kw,ta,_,rfl,a6.hw,ne,rfl,a6.ht,a6.tb,λkv cd=>?_,λkv cd H4 bb a4=>?_⟩
   .obtain⟨r,B,rfl⟩:=Hn.mp cd;obtain⟨x,L⟩:=a6.fi.wk r B;exact⟨r,x,rfl,uv L⟩
   obtain⟨r,B,rfl⟩:=Hn.mp cd;have a2:=a6.tab bD bP bo bb a4;obtain⟨x,L⟩:=a2.fi.wk r B;refine⟨_,rfl,wd,rfl,.inl ⟨_,.inl a2.hw⟩,_,rfl,W.map kw,.inl (r:Int),.bl true,a2.hw,rfl,yC B,?_⟩;rw[vj];have mW:∀ y,y∈W.filter (λx=>decide (x≠r))↔y∈W/\y≠r:=λy=>by rw[Iu];simp
   have lW:(W.filter (λx=>decide (x≠r))).length<W.length:=by
    refine Nat.lt_of_le_of_ne (IE _ _) λz=>?_;have:=List.filter_eq_self.mp (List.Sublist.eq_of_length (List.filter_sublist ..) z) r B;simp at this
   refine⟨aa,ta,va,wd,xs,ys,bd,H1,_,_,_,TL,VL,_,r,W.length,sg,rfl,⟨a2.kp.upd (.inr (.inr (.inr rfl))) _,by rw[ao bi];exact a2.ht,by rw[ao bv];exact a2.hv,af,mM a2.tb λb M=>ao λz=>?_,a2.fi.take mW,a2.nd.filter _⟩,⟨x,L⟩,lW,λan H' y1 y2=>⟨y1,by rw[fh.mes];exact y2⟩⟩
   rcases M with M | ⟨c',M⟩
   .exact bo (z▸M)
   .rw[z,a2.hw]at M;cases M
  .have e0:W = []:=by
    cases W with
    |nil=>rfl
    |cons a b=>exact Nh rfl c
   subst e0;refine⟨_,rfl,_,rfl,(by show 2<=LK;decide),λt ht=>?_⟩
   have a2:=a6.new ht (.tup [.ref ta,.ref va]);refine kk t ta va TL VL _ (λb o nb e=>?_) a2.tb (dP sa aS) (dP sa bY) af a2.ht a2.hv a2.fi;exact a2.kp _ _ (nS b (by rw[sa _ _ e];simp) nb) (sH _ _ e)
 .rintro O H4 Q1 Q2 hi ⟨v1,e1,h⟩;refine⟨v1,e1,λp D=>?_⟩;obtain⟨a,b,ac,q1,q2,q3,q4,c',q5,q6⟩:=h p D;exact⟨a,b,ac,q1,q2,q3,q4,c',q5,hi _ _ q6⟩
theorem andN(a b:Nat):Ma (a:Int) (b:Int)=((a&&&b:Nat):Int):=by
 rw[PyProof.Rows.bitAnd_pp (IV _) (IV _),GA,GA]
theorem shlN(p:Nat):(1:Int)*2^((p:Nat):Int).toNat=((2^p:Nat):Int):=by
 rw[Int.one_mul,GA,Lj];rfl
theorem xa(m n:Nat):(m^^^n)+2*(m&&&n)=m+n:=by
 have h:=PyProof.Rows.nat_or_add_and m n;have Y:(m|||n)=(m^^^n)+(m&&&n):=by
  have e:(m^^^n)+(m&&&n)=(m^^^n)|||(m&&&n):=by
   have q:=PyProof.Rows.nat_or_add_and (m^^^n) (m&&&n);have z:(m^^^n)&&&(m&&&n)=0:=by
    apply HD;intro i;simp only[Jk,HK,HP]
    cases m.testBit i<;>cases n.testBit i<;>rfl
   omega
  rw[e];apply HD;intro i;simp only[Jk,HK,Jg]
  cases m.testBit i<;>cases n.testBit i<;>rfl
 omega
theorem xorN(a b:Nat):Mc (a:Int) (b:Int)=((a^^^b:Nat):Int):=by
 rw[PyProof.Rows.bitXor_and,andN];have q:=xa a b;omega
def bl(c:Nat):List Nat:=K2.bitsF 0 c
theorem BG(c:Nat):(bl c).Pairwise (· < ·):=K2.bitsF_sorted c c 0 (Gy _)
theorem bl_nd(c:Nat):(bl c).Nodup:=K2.nodup_of_lt (BG c)
theorem mem_bl{c x:Nat}:x∈bl c↔c.testBit x=true:=by
 have e:K2.S (K2.bitsF 0 c)=c:=by
  have:=K2.bitsF_sum c c 0 (Gy _);rw[this,Nat.pow_zero,Nat.mul_one]
 have b:=K2.S_bit (bl_nd c) x;unfold bl at b ⊢;rw[e]at b;rw[b,decide_eq_true_iff]
theorem og{c x:Nat}(h:c<2^m)(L:x∈bl c):x<m:=by
 have:=K2.bitsF_lt m c 0 h x L;omega
theorem BF:bl 0 = []:=K2.bitsF_zero 0
def cut2(c f t:Nat):Nat:=c^^^2^f^^^2^t
theorem mF{c f t:Nat}(D:f∈bl c)(ht:t∈bl c)(n:f≠t)(x:Nat):x∈bl (cut2 c f t)↔x∈bl c/\x≠f/\x≠t:=by
 rw[mem_bl]at D ht;rw[mem_bl,mem_bl];unfold cut2;rw[HK,HK,Hf,Hf];by_cases c1:x=f
 .subst c1;rw[D];simp[Ne.symm n]
 .by_cases c2:x=t
  .subst c2;rw[ht];simp[n]
  .have a:¬ f=x:=λz=>c1 z.symm
   have b:¬ t=x:=λz=>c2 z.symm;simp[c1,c2,a,b]
theorem Bv{c f t:Nat}{rest:List Nat}(e:bl c=f::rest)(ht:t∈rest):(bl (cut2 c f t)).Perm (rest.erase t):=by
 have H:=bl_nd c;rw[e]at H;obtain⟨E,G⟩:=Hj.mp H;have h:f≠t:=λz=>E (z▸ht);refine(Ic (bl_nd _) (G.erase _)).mpr λx=>?_;rw[mF (by rw[e];exact GN ..) (by rw[e];exact GD _ ht) h,e,G.mem_erase_iff,GG]
 constructor
 .rintro⟨J | J,Y,g⟩
  .exact Nh J Y
  .exact⟨g,J⟩
 .rintro⟨J,Y⟩;exact⟨.inr Y,λz=>E (z▸Y),J⟩
theorem F9{c f t:Nat}(h:c<2^m)(D:f<m)(ht:t<m):cut2 c f t<2^m :=
 Iq (Iq h (Hz (by decide) D)) (Hz (by decide) ht)
def Opt(D:Nat->Nat->Int)(l:List Nat)(t:Int):Prop:=Cs D l t/\∀ c,Cs D l c->t<=c
theorem Opt.nil{D:Nat->Nat->Int}:Opt D [] 0:=by
 refine⟨⟨[],.refl _,rfl⟩,λc h=>?_⟩;obtain⟨j,p,e⟩:=h
 cases j with
 |nil=>rw[← e];exact IM _
 |cons q r=>have:=p.length_eq;cases this
def BtAt(H:Hp)(v:V)(D:Nat->Nat->Int)(m:Nat):Prop:=∃ a d,v=.ref a/\H a=some (.lst d)/\∀ i,i<m->∃ p N,d[i]?=some (.ref p)/\H p=some (.lst N)/\∀ k,k<m->N[k]?=some (.int (D i k))
def yt(H:Hp)(v:V)(t:Int):Prop:=∃ a y z,v=.ref a/\H a=some (.tup [.int t,y,z])
def Ent(H:Hp)(D:Nat->Nat->Int)(m:Nat)(kvs:List (Key×V))(c:Nat)(v:V):Prop:=c<2^m/\((c=0/\yt H v 0)∨∃(t:Int)(f g:Nat)(a:Addr)(j:V),v=.ref a/\H a=some (.tup [.int t,.int (f:Int),.int (g:Int)])/\f∈bl c/\g∈bl c/\f≠g/\valV kvs (.inl ((cut2 c f g:Nat):Int))=some j)
structure TI(H:Hp)(D:Nat->Nat->Int)(m:Nat)(kvs:List (Key×V)):Prop where
 en:∀ k v,valV kvs k=some v->∃ c:Nat,k=.inl (c:Int)/\Ent H D m kvs c v
 z:∃ v,valV kvs (.inl ((0:Nat):Int))=some v
 nd:(kvs.map (·.1)).Nodup
def Grw(kvs b:List (Key×V))(n:Nat):Prop:=(∀ k v,valV kvs k=some v->valV b k=some v)/\∀ c:Nat,valV kvs (.inl (c:Int))=none->valV b (.inl (c:Int))≠none->(bl c).length<=n
def Tps(H H':Hp):Prop:=∀ a N,H a=some (.tup N)->H' a=some (.tup N)
theorem yt.mono{t:Int}(h:yt H v t)(s:Tps H H'):yt H' v t:=by
 obtain⟨a,y,z,e,q⟩:=h;exact⟨a,y,z,e,s _ _ q⟩
theorem Ent.cost{c:Nat}(h:Ent H D m kvs c v):∃ t,yt H v t:=by
 obtain⟨_,⟨rfl,h⟩ | ⟨t,f,g,a,j,O,G,_⟩⟩:=h
 .exact⟨0,h⟩
 .exact⟨t,a,_,_,O,G⟩
theorem Ent.mono{H H':Hp}{D:Nat->Nat->Int}{m c:Nat}{kvs b:List (Key×V)}{v:V}(h:Ent H D m kvs c v)(s:Tps H H')(g:∀ k v,valV kvs k=some v->valV b k=some v):Ent H' D m b c v:=by
 obtain⟨w,⟨e,h⟩ | ⟨t,f,l,a,j,O,G,Q,E,i,d⟩⟩:=h
 .exact⟨w,.inl ⟨e,h.mono s⟩⟩
 .exact⟨w,.inr ⟨t,f,l,a,j,O,s _ _ G,Q,E,i,g _ _ d⟩⟩
theorem TI.mono{H H':Hp}{D:Nat->Nat->Int}{m:Nat}{kvs:List (Key×V)}(h:TI H D m kvs)(s:Tps H H'):TI H' D m kvs:=⟨λk v e=>by
 obtain⟨L,O,f⟩:=h.en k v e
 exact⟨L,O,f.mono s λ_ _ z=>z⟩,h.z,h.nd⟩
theorem TrA.mono{t:T3}(h:TrA H v t)(s:Tps H H'):TrA H' v t:=by
 obtain⟨a,e,q⟩:=h;exact⟨a,e,s _ _ q⟩
theorem TbS.tps(s:TbS tb H H')(ht:H tb=some (.dK kvs)):Tps H H':=λa N q=>s _ _ (λw=>by rw[w,ht]at q;cases q) q
theorem BtAt.mono(h:BtAt H v D m)(ht:H tb=some (.dK kvs))(s:TbS tb H H'):BtAt H' v D m:=by
 obtain⟨a,d,e,q,r⟩:=h;refine⟨a,d,e,s _ _ (λw=>by rw[w,ht]at q;cases q) q,λi T=>?_⟩
 obtain⟨p,N,j,o,A⟩:=r i T;exact⟨p,N,j,s _ _ (λw=>by rw[w,ht]at o;cases o) o,A⟩
theorem rU{α j:Type}{f:α->j}:∀{l:List α},l.Nodup->(∀ a∈l,∀ b∈l,f a=f b->a=b)->(l.map f).Nodup
 |[],_,_=>IW
 |x::l,H,h=>by
  obtain⟨o,G⟩:=Hj.mp H;rw[G7];refine Hj.mpr ⟨λz=>?_,rU G λa E b M=>h a (GD _ E) b (GD _ M)⟩;obtain⟨y,Q,e⟩:=Hn.mp z;exact o (h x (GN ..) y (GD _ Q) e.symm▸Q)
theorem TI.len(h:TI H D m kvs)(C:m<=14):kvs.length<LK:=by
 have u:∀ k∈kvs.map (·.1),∃ c:Nat,k=Sum.inl (c:Int)/\c<2^m:=λk G=>by
  cases p:valV kvs k with
  |none=>exact Nh G (vL p)
  |some v =>
   obtain⟨c,e,q⟩:=h.en k v p;exact⟨c,e,q.1⟩
 have N:((kvs.map (·.1)).map λk:Key=>match k with | .inl i=>i.toNat | .inr _=>0).Nodup:=by
  refine rU h.nd λa E b M e=>?_;obtain⟨c1,rfl,_⟩:=u a E;obtain⟨c2,rfl,_⟩:=u b M;have Q:c1=c2:=by simpa using e
  rw[Q]
 have j:=jT (2^m) _ N λx L=>by
  obtain⟨k,G,rfl⟩:=Hn.mp L;obtain⟨c,rfl,t⟩:=u k G;simpa using t
 rw[Gu,Gu]at j;have:2^m<=2^14:=HC (by decide) C
 have d:(2:Nat)^14=16384:=by decide
 have:=PySem.sizeLine_eq;omega
inductive restR(tb:Addr)(bv:V)(c m:Nat)(D:Nat->Nat->Int)(kvs:List (Key×V))(H0:Hp)(Q:VK)(D0:L2.Ends)(σ:L2.St)(H:L2.Hp):Prop
 |mk (v4 v5 v6 v7 v8:Option V)(kvs':List (Key×V))(v:V) (h0_:σ = [some bv,some (.int (c:Int)),some (.ref tb),v4,v5,v6,v7,v8])(h1_:TbS tb H0 H)(h2_:H tb=some (.dK kvs'))(h3_:TI H D m kvs')(h4_:Grw kvs kvs' (bl c).length)(h5_:valV kvs' (.inl (c:Int))=some v)(h6_:∀ x H',Q x H'->D0.rt x H')
def LpI(l:V)(tb r wa:Addr)(c f m:Nat)(D:Nat->Nat->Int)(kvs:List (Key×V))(rest:List Nat)(Hb:Hp)(i:Nat)(O:St)(H:Hp):Prop:=∃(e g:Option V)(a:List (Key×V))(k:List T3)(d:List V),O = [some l,some (.int (c:Int)),some (.ref tb),some (.ref r),some (.int (f:Int)),some (.ref wa),e,g]/\(∀ b o,b≠tb->b≠wa->Hb b=some o->H b=some o)/\H tb=some (.dK a)/\TI H D m a/\Grw kvs a (rest.length-1)/\H wa=some (.lst d)/\LsAt TrA H d k/\k.length=i /\
 ∀(h t:Nat),(rest.take i)[h]?=some t->∃(n:Int)(j:V),k[h]?=some (D f t+n,(f:Int),(t:Int))/\valV a (.inl ((cut2 c f t:Nat):Int))=some j
inductive spLaid(D:Nat->Nat->Int)(m j:Nat)(vs:List L2.V)(H:L2.Hp)(Q:L2.VK)(x3_:L2.XK):Prop
 |mk (bv:V)(tb:Addr)(c:Nat)(kvs:List (Key×V)) (h0_:vs = [bv,.int (c:Int),.ref tb])(h1_:BtAt H bv D m)(h2_:H tb=some (.dK kvs))(h3_:TI H D m kvs)(h4_:c<2^m)(h5_:m<=14)(h6_:(bl c).length<2*j)(h7_:(bl c).length%2=0)(h8_:∀ v t kvs' H',TbS tb H H'->H' tb=some (.dK kvs')->TI H' D m kvs'->Grw kvs kvs' (bl c).length->valV kvs' (.inl (c:Int))=some v->yt H' v t->Q v H')
theorem bj:aw ["between","chosen","table","numbers","first","ways","mate","rest"] ["between","chosen","table"] (aq bL):=by ac_nf
theorem CA (F:Fun K "laid_in_pairs" "laid_in_pairs" bL f fd) (T:Txt mg) (al:Cal P w K mg base 1 "bits" ["mask"] k7 C G) (ac:Cal P w K mg base (j+2) "laid_in_pairs" ["between","chosen","table"] (spLaid D m j) f fd):FnOk P w K mg base CX0 (j+3) f fd ["between","chosen","table"] (spLaid D m (j+1)):=by
 refine F.ok bj (by walk_at "l") λaa A I s H u Q E B h=>?_
 obtain⟨bv,tb,c,kvs,rfl,hB,hT,ti,Y,bx,len,ev,kk⟩:=h;have hu:=sf B;have aS:=B.units
 refine⟨_,(ag (bG (zv (m7 hu (pv 1) (pv 2))) (ag (ay 3 bj.nd (al.c B (ae (pv 1) ah)))
   (ag (ay 4 bj.nd (bH (pv 3) aj))
   (ag (ay 5 bj.nd (bN ah))
   (ag (bM PassesOwn.never rfl (aU (ma oY (pv 3) (pH aj) pI)) (cJ 6 bj.nd) (ag (ay 7 bj.nd (av dh (av dh (pv 1) (av bF aj (pv 4))) (av bF aj (pv 6))))
   (ak (aP (dW GZ G9 G8 aQ (pv 5) (ae (dB (ae (av b9 (bH (bH (pv 0) (pv 4)) (pv 6)) (dw (ac.c B (ae (pv 0) (ae (pv 7) (ae (pv 2) ah)))) aj)) (ae (pv 4) (ae (pv 6) ah)))) ah))))))
   (ak (kM hu (pv 2) (pv 1) (aD (BC rfl aS) (by rfl) T.n_min BE (ae (pv 5) ah)) rfl)))))) aJ)
   (fM (t2:=restR tb bv c m D kvs H Q) (ak (aF (jd hu (pv 2) (pv 1) (λ_ _=>rfl)))) (λD0 S0 H0 h0=>?restr))),?_⟩
 case restr =>
  obtain⟨v4,v5,v6,v7,v8,ab,v,rfl,sT,a6,a7,gr,hv,kq⟩:=h0;obtain⟨c',e,en⟩:=a7.en _ v hv;have ec:c'=c:=by
   have:((c:Nat):Int)=(c':Int):=by injection e
   omega
  subst ec;obtain⟨t,J⟩:=en.cost;refine⟨_,rfl,_,rfl,tb,v,rfl,by have:=DGet.k (k:=.inl ((c':Nat):Int)) a6;rw[hv]at this;exact this,?_⟩
  exact kq _ _ (kk v t ab H0 sT a6 a7 gr hv J)
 refine⟨_,rfl,_,rfl,tb,_,rfl,DGet.k (k:=.inl ((c:Nat):Int)) hT,_,rfl,?_⟩
 cases hv:valV kvs (.inl ((c:Nat):Int)) with
 |some v =>
  exact iteF ⟨_,_,_,_,_,kvs,v,rfl,(λ_ _ _ e=>e),hT,ti,⟨λ_ _ z=>z,λc' z1 z2=>Nh z1 z2⟩,hv,λ_ _ z=>z⟩
 |none =>
  refine iteT ?_;have c0:c≠0:=λz=>by
   subst z;obtain⟨v0,bi⟩:=ti.z;rw[hv]at bi;cases bi
  obtain⟨f,rest,a0⟩:∃ f rest,bl c=f::rest:=by
   cases q:bl c with
   |cons f rest=>exact⟨f,rest,rfl⟩
   |nil =>
    refine Nh (HD λi=>?_) c0;rw[HP]
    cases z:c.testBit i with
    |false=>rfl
    |true =>
     have:=mem_bl.mpr z;rw[q]at this;cases this
  have nd:=bl_nd c;rw[a0]at nd;obtain⟨nf,c7⟩:=Hj.mp nd;have a3:(bl c).length=rest.length+1:=by rw[a0,GX]
  have flt:f<m:=og Y (by rw[a0];exact GN ..)
  have co:∀ t∈rest,t<m:=λt ht=>og Y (by rw[a0];exact GD _ ht)
  have rm:rest.length+1<=m:=by
   rw[← a3];exact jT m _ (bl_nd c) λx L=>og Y L
  have c8:c<16384:=by
   have:2^m<=2^14:=HC (by decide) bx
   have cn:(2:Nat)^14=16384:=by decide
   omega
  refine⟨_,rfl,(c:Int),rfl,∅,∅,λr l g a9 aL=>?_⟩
  have cs:(K2.bitsF 0 ((c:Nat):Int).toNat).map iV=iV f::rest.map iV:=by
   rw[GA];show(bl c).map iV=_;rw[a0,G7]
  rw[cs]at aL;refine⟨_,rfl,r,_,0,_,rfl,rfl,SqL.of aL,(show atI (iV f::rest.map iV) ((0:Nat):Int)=some (iV f) from aG rfl),?_⟩;refine⟨(by show 0<=LK;decide),λwa bQ=>?_⟩
  have s2:=ai bQ (.lst []);refine⟨_,rfl,_,rfl,r,_,rfl,SqL.of (s2 _ _ aL),λsl bm=>?_⟩;have bR:cutV (iV f::rest.map iV) (some 1) none=rest.map iV:=by
   have d:HT.sIx (iV f::rest.map iV).length 0 (some ((1:Nat):Int))=1:=by rw[HT.sIx_nat,GX,Gu];omega
   unfold cutV;rw[show(some (1:Int))=some ((1:Nat):Int) from rfl,d,HT.sIx_none,List.drop_succ_cons,List.drop_zero,GX];exact Jh ∅
  rw[bR];have s3:=ai bm (.lst (rest.map iV));have ap:Same H (upd (upd l wa (.lst [])) sl (.lst (rest.map iV))):=g.trans (s2.trans s3);have bU:wa≠sl:=λz=>by rw[← z,af]at bm;cases bm
  have g1:(upd (upd l wa (.lst [])) sl (.lst (rest.map iV))) wa=some (.lst []):=by rw[ao bU];exact af
  have g2:=af (H:=upd l wa (.lst [])) (a:=sl) (o:=.lst (rest.map iV));have bn:H wa=none:=dP g bQ;generalize (upd (upd l wa (.lst [])) sl (.lst (rest.map iV)))=Hb at ap g1 g2;have bY:=ap _ _ hT;have bZ:wa≠tb:=λz=>by rw[z,hT]at bn;cases bn
  have b0:sl≠tb:=λz=>by rw[z,bY]at g2;cases g2
  have ct:TbS tb H Hb:=λb o _ e=>ap _ _ e;have cv:TI Hb D m kvs:=ti.mono λa xs q=>ap _ _ q;have c9:BtAt Hb bv D m:=hB.mono hT ct;refine⟨sl,rfl,⟨_,SqL.of g2⟩,cf (K:=K) (xs:=rest.map iV) (LpI bv tb r wa c f m D kvs rest Hb) ⟨_,_,kvs,[],[],rfl,λ_ _ _ _ e=>e,bY,cv,⟨λ_ _ z=>z,λc' z1 z2=>Nh z1 z2⟩,g1,LsAt.nil,rfl,λaT t e=>by simp at e⟩ (λi O N _ aI=>by obtain⟨_,_,_,_,_,_,z,_⟩:=aI;exact SqL.of (z _ _ b0 (Ne.symm bU) g2)) ?_ ?_⟩
  .rintro i x O N L ⟨v7,v8,am,ws,n,rfl,k2,an,bb,bd,a4,hL,wl,done⟩;rw[GC]at L;obtain⟨t,ht,rfl⟩:=G5.mp L;have tm:=Gv ht;have tl:=co t tm;have bB:f≠t:=λz=>nf (z▸tm);have cp:=Bv a0 tm;have cl:(bl (cut2 c f t)).length+1=rest.length:=by
    rw[cp.length_eq,Jw tm];have:=HU tm;omega
   refine⟨_,rfl,_,rfl,_,_,rfl,rfl,⟨by show(0:Int)<=(f:Int);omega,by show(f:Int)<=1000000;omega,by decide⟩,_,_,rfl,rfl,_,rfl,_,_,rfl,rfl,⟨by show(0:Int)<=(t:Int);omega,by show(t:Int)<=1000000;omega,by decide⟩,_,_,rfl,rfl,?_⟩
   have ec:Mc (Mc (c:Int) (1*2^((f:Nat):Int).toNat)) (1*2^((t:Nat):Int).toNat)=((cut2 c f t:Nat):Int):=by rw[shlN,shlN,xorN,xorN];rfl
   simp only[ec];have yl:=hL.1;have upL:∀ b zs,H b=some (.lst zs)->N b=some (.lst zs):=λb zs q=>k2 b _ (λz=>by rw[z,hT]at q;cases q) (λz=>by rw[z,bn]at q;cases q) (ap _ _ q)
   obtain⟨ba,zs,rfl,b6,rr⟩:=id hB
   have cw:BtAt N (.ref ba) D m:=⟨ba,zs,rfl,upL _ _ b6,λi' aR=>by
    obtain⟨p,xs,r1,r2,r3⟩:=rr i' aR
    exact⟨p,xs,r1,upL _ _ r2,r3⟩⟩
   obtain⟨p,xs,r1,r2,r3⟩:=rr f flt;refine⟨_,rfl,.inl ⟨rfl,_,SqL.of a4⟩,_,rfl,_,rfl,ba,_,_,_,rfl,rfl,SqL.of (upL _ _ b6),aG r1,_,rfl,p,_,_,_,rfl,rfl,SqL.of (upL _ _ r2),aG (r3 t tl),_,rfl,_,rfl,_,rfl,.ref ba,tb,cut2 c f t,am,rfl,cw,an,bb,F9 Y flt tl,bx,∅,∅,λv tr ca H3 bD cA cK bP bg cL=>?_⟩
   obtain⟨va,y,z,rfl,aO⟩:=id cL;refine⟨va,_,0,_,rfl,rfl,SqT.of aO,a30,_,_,rfl,rfl,_,rfl,_,rfl,(by show 3<=LK;decide),λt3 a2=>?_⟩
   have s4:=ai a2 (.tup [.int (D f t+tr),.int (f:Int),.int (t:Int)]);have be:H3 wa=some (.lst n):=bD _ _ bZ a4;have da:i<rest.length:=(Gn.mp ht).1;refine⟨wa,n,_,rfl,rfl,s4 _ _ be,ar ∅,?_⟩
   have cb:Tps N H3:=TbS.tps bD an;have bo:Tps H3 (upd (upd H3 t3 (.tup [.int (D f t+tr),.int (f:Int),.int (t:Int)])) wa (.lst (n++[.ref t3]))):=λa xs q=>by
    rw[ao (λz=>by rw[z,be]at q;cases q)]
    exact s4 _ _ q
   have cd:Tps N (upd (upd H3 t3 (.tup [.int (D f t+tr),.int (f:Int),.int (t:Int)])) wa (.lst (n++[.ref t3]))):=λa xs q=>bo _ _ (cb _ _ q);have cM:t3≠wa:=λz=>by rw[z,be]at a2;cases a2
   refine⟨_,_,ca,ws++[(D f t+tr,(f:Int),(t:Int))],n++[.ref t3],rfl,λb o n1 n2 e=>?_,?_,cK.mono bo,⟨λk v z=>bP.1 _ _ (bd.1 _ _ z),λc' y1 y2=>?_⟩,af,?_,by rw[Gx,wl];rfl,λaT t' e=>?_⟩
   .rw[ao n2];exact s4 _ _ (bD _ _ n1 (k2 b o n1 n2 e))
   .rw[ao (Ne.symm bZ)];exact s4 _ _ cA
   .cases q2:valV am (.inl (c':Int)) with
    |none=>have:=bP.2 c' q2 y2;omega
    |some v'=>exact bd.2 c' y1 (by rw[q2];simp)
   .exact(hL.imp λ_ _ q=>TrA.mono q cd).snoc ⟨t3,rfl,by rw[ao cM];exact af⟩
   .have a1:(rest.take i).length=i:=by rw[Hs];omega
    rw[He,ht]at e;by_cases ci:aT<i
    .rw[GB ∅]at e
     obtain⟨cT,vr,d1,d3⟩:=done aT t' e;exact⟨cT,vr,by rw[GB ∅];exact d1,bP.1 _ _ d3⟩
    .rw[Gz ∅]at e
     have h5:=(Gn.mp e).1;have h6:aT=i:=by
      have:(Option.toList (some t)).length=1:=rfl;omega
     subst h6;rw[a1,Hl]at e
     cases e
     exact⟨tr,.ref va,by rw[Gz ∅,wl,Hl];rfl,bg⟩
  .rintro O N ⟨v7,v8,am,ws,n,rfl,k2,an,bb,bd,a4,hL,wl,done⟩;rw[Gu]at wl done;rw[Hi]at done;have rp:1<=rest.length:=by omega
   have cV:ws≠[]:=λz=>by rw[z]at wl;simp at wl;omega
   refine⟨_,rfl,wa,n,ws,rfl,SqL.of a4,hL,cV,λaT y t3 hy a2 cW=>?_⟩;have il:aT<rest.length:=by rw[← wl];exact(Gn.mp a2).1
   obtain⟨t,et⟩:∃ t,rest[aT]?=some t:=⟨_,Gs il⟩;have tm:=Gv et;obtain⟨tr,vr,d1,d3⟩:=done aT t et;rw[a2]at d1
   cases d1
   obtain⟨w',ce,a,rfl,ha⟩:=hL.get hy;rw[a2]at ce
   cases ce
   have bB:f≠t:=λz=>nf (z▸tm);have fb:f∈bl c:=by rw[a0];exact GN ..
   have ch:t∈bl c:=by rw[a0];exact GD _ tm
   have bu:valV am (.inl ((c:Nat):Int))=none:=by
    cases q2:valV am (.inl ((c:Nat):Int)) with
    |none=>rfl
    |some v'=>have:=bd.2 c hv (by rw[q2];simp);omega
   have cne:((cut2 c f t:Nat):Int)≠(c:Int):=λz=>by
    have z':cut2 c f t=c:=by omega
    have:=(mF fb ch bB f).mp (by rw[z'];exact fb)
    exact this.2.1 rfl
   have a5:∀ k v,valV am k=some v->valV (putK am (.inl ((c:Nat):Int)) (.ref a)) k=some v:=λk v e=>by
    rw[fz,Ng (λz=>by rw[z,bu]at e;cases e)]
    exact e
   refine⟨_,rfl,_,rfl,tb,_,rfl,DPut.k (k:=.inl ((c:Nat):Int)) (v:=.ref a) an (bb.len bx),?_⟩;have tp:Tps N (upd N tb (.dK (putK am (.inl ((c:Nat):Int)) (.ref a)))):=λb xs q=>by
    rw[ao (λz=>by rw[z,an]at q;cases q)]
    exact q
   refine⟨_,_,_,_,_,putK am (.inl ((c:Nat):Int)) (.ref a),.ref a,rfl,λb o n1 e=>?_,af,⟨λk v e=>?_,?_,Fv _ bb.nd bu⟩,⟨λk v e=>a5 _ _ (bd.1 _ _ e),λc' y1 y2=>?_⟩,by rw[fz,Nf rfl],λ_ _ z=>z⟩
   .rw[ao n1];exact k2 b o n1 (λz=>by rw[z,bn]at e;cases e) (ap _ _ e)
   .rw[fz]at e;by_cases ck:k=.inl ((c:Nat):Int)
    .rw[Nf ck]at e
     cases e
     exact⟨c,ck,Y,.inr ⟨D f t+tr,f,t,a,vr,rfl,tp _ _ ha,fb,ch,bB,a5 _ _ d3⟩⟩
    .rw[Ng ck]at e;obtain⟨c',d,M⟩:=bb.en k v e;exact⟨c',d,M.mono tp a5⟩
   .obtain⟨v0,bi⟩:=bb.z;exact⟨v0,a5 _ _ bi⟩
   .by_cases cc:c'=c
    .rw[cc];exact Gy _
    .rw[fz,Ng (λz=>cc (by have:(c':Int)=(c:Int):=(by injection z);omega))]at y2
     have:=bd.2 c' y1 y2;omega
theorem ok_laid{f y:Addr}{fd e:FuncData}{D:Nat->Nat->Int}{m:Nat} (F:Fun K "laid_in_pairs" "laid_in_pairs" bL f fd) (T:Txt mg) (b:Cal P w K mg base 1 "bits" ["mask"] k7 y e) (g:dA K fd ["between","chosen","table"] []) (C:mg "laid_in_pairs" = some (.ref f)) (a:Hw K (.ref f)=true):∀ j,FnOk P w K mg base CX0 (j+2) f fd ["between","chosen","table"] (spLaid D m j)
 |0=>⟨λY H Q E h=>by
   obtain⟨l,d,c,n,_,_,_,_,_,_,z,_⟩:=h;omega,λA I s H p J Y Q E _ _ _ _ h=>by
   obtain⟨l,d,c,n,_,_,_,_,_,_,z,_⟩:=h
   omega⟩
 |j+1=>CA F T b ⟨ok_laid F T b g C a j,g,C,a⟩
theorem CG{r:Nat}{o:Option Nat}(h:O[r]?=some o):(O.map oN)[r]?=some (oN o):=by rw[GC,h];rfl
theorem FI.even{s:Nat}(I:FI n ls s M T O [] (λ_ _=>False)){r k:Nat}(h:O[r]?=some (some k)):∃(l:Lk)(x y:Int),ls[k]?=some l/\lL l r/\T[r]?=some (some x)/\T[bey l r]?=some (some y)/\y+l.2.2=x:=by
 obtain⟨l,x,y,d,f,G,E,i⟩:=I.pr r k h;rcases I.rl (bey l r) y k l E (by simp) d (qR f)with j | ⟨H,j,L⟩
 .exact j.elim
 .rw[nL f,G]at j;cases j;exact⟨l,x,y,d,f,G,E,∅⟩
inductive Pth(ls:List Lk)(vv:List (Option Nat))(s:Nat):Nat->List Nat->Prop where
 |root:Pth ls vv s s []
 |step {r k:Nat} {l:Lk} {ks:List Nat} (hv:vv[r]?=some (some k)) (hl:ls[k]?=some l) (h:Pth ls vv s (bey l r) ks):Pth ls vv s r (k::ks)
theorem Up.path{s r:Nat}(h:Up ls O s j r):∃ ks,Pth ls O s r ks/\ks.length=j:=by
 induction h with
 |root=>exact⟨[],.root,rfl⟩
 |step k C _ D =>
  obtain⟨ks,p,e⟩:=D;exact⟨_::ks,.step k C p,by rw[GX,e]⟩
theorem Pth.up{s r:Nat}{ks:List Nat}(h:Pth ls O s r ks):Up ls O s ks.length r:=by
 induction h with
 |root=>exact .root
 |step p C _ D=>exact .step p C D
def lkA(ls:List Lk)(k:Nat):Lk:=ls.getD k (0,0,0)
theorem lkA_is{k:Nat}{l:Lk}(h:ls[k]?=some l):lkA ls k=l:=by unfold lkA;rw[GP,h];rfl
def endX(l:Lk):Nat:=2^l.1^^^2^l.2.1
def oddE(ls:List Lk)(u:Nat):Nat->Nat
 |0=>0
 |i+1=>if u.testBit i=true then oddE ls u i^^^endX (lkA ls i) else oddE ls u i
def cstU(ls:List Lk)(u:Nat):Nat->Int
 |0=>0
 |i+1=>if u.testBit i=true then cstU ls u i+(lkA ls i).2.2 else cstU ls u i
theorem oO(x a:Nat):(bl (x^^^2^a)).Perm (tog (bl x) a):=by
 refine(Ic (bl_nd _) (tog_nd (bl_nd x) a)).mpr λy=>?_;rw[Fx (bl_nd x),mem_bl,HK,Hf,mem_bl,mem_bl];by_cases c:y=a
 .subst c
  cases x.testBit y<;>simp
 .have L:¬ a=y:=λz=>c z.symm
  cases x.testBit y<;>simp[c,L]
theorem low_join{n:Nat}{d:Nat->Nat->Int}(M:Met n d){ls:List Lk}(u:Nat)(hl:∀ l∈ls,l.1<n/\l.2.1<n/\d l.1 l.2.1<=l.2.2):∀ i,i<=ls.length->oddE ls u i<2^n/\∃ c,Cs d (bl (oddE ls u i)) c/\c<=cstU ls u i
 |0,_=>⟨HQ n,0,by show Cs d (bl 0) 0;rw[BF];exact Opt.nil.1,IM _⟩
 |i+1,h=>by
  obtain⟨J,c,Y,g⟩:=low_join M u hl i ∅
  unfold oddE cstU;by_cases b:u.testBit i=true
  .rw[Nf b,Nf b];obtain⟨l,e⟩:∃ l,ls[i]?=some l:=⟨_,Gs ∅⟩
   obtain⟨N,j,q⟩:=hl l (Gv e);rw[lkA_is e];have k:oddE ls u i^^^endX l=oddE ls u i^^^2^l.1^^^2^l.2.1:=by unfold endX;rw[HN]
   rw[k];refine⟨Iq (Iq J (Hz (by decide) N)) (Hz (by decide) j),?_⟩
   obtain⟨G,B,v⟩:=Y.two M (bl_nd _) (λx L=>og J L) N j;refine⟨G,B.perm ?_,∅⟩
   exact((oO _ _).trans (vN (oO _ _) _)).symm
  .rw[Ng b,Ng b];exact⟨J,c,Y,g⟩
theorem oddE_xor(ls:List Lk)(u v:Nat):∀ i,oddE ls (u^^^v) i=oddE ls u i^^^oddE ls v i
 |0=>(JI 0).symm
 |i+1=>by
  unfold oddE;rw[oddE_xor ls u v i,HK];have c:∀ a b e:Nat,(a^^^e)^^^(b^^^e)=a^^^b:=λa b e=>by rw[JY b e,← HN,HN a e e,JI,K5]
  cases u.testBit i<;>cases v.testBit i<;>simp
  .rw[HN]
  .rw[HN,HN,JY (oddE ls v i)]
  .exact(c _ _ _).symm
inductive Wk(ls:List Lk):Nat->Nat->Int->Prop where
 |nil (a:Nat):Wk ls a a 0
 |step {a b i:Nat} {x:Int} {l:Lk} (h:Wk ls a b x) (hl:ls[i]?=some l) (he:lL l b):Wk ls a (bey l b) (x+l.2.2)
theorem Wk.trans{a b c:Nat}{x y:Int}(h:Wk ls a b x)(g:Wk ls b c y):Wk ls a c (x+y):=by
 induction g with
 |nil=>rw[Jn];exact h
 |step _ C r D =>
  rw[← Int.add_assoc];exact .step D C r
theorem Wk.link{a:Nat}{l:Lk}(hl:ls[i]?=some l)(he:lL l a):Wk ls a (bey l a) l.2.2:=by
 have:=Wk.step (.nil a) hl he;rw[IF]at this;exact this
theorem Wk.rev{a b:Nat}{x:Int}(h:Wk ls a b x):Wk ls b a x:=by
 induction h with
 |nil=>exact .nil _
 | @step b i x l h C r D =>
  have g:=Wk.link C (qR r);rw[nL r]at g;rw[Int.add_comm];exact g.trans D
theorem Wk.nn(hw:∀ l∈ls,0<=l.2.2){a b:Nat}{x:Int}(h:Wk ls a b x):0<=x:=by
 induction h with
 |nil=>exact IM _
 |step _ C _ D=>have:=hw _ (Gv C);omega
theorem Wk.rel{s:Nat}(I:FI n ls s M T O [] (λ_ _=>False)){a b:Nat}{x:Int}(h:Wk ls a b x):∀ y,T[a]?=some (some y)->∃ z,T[b]?=some (some z)/\z<=y+x:=by
 induction h with
 |nil=>intro y Q;exact⟨y,Q,∅⟩
 | @step b i x l h C r D =>
  intro y Q;obtain⟨z,J,Y⟩:=D y Q;rcases I.rl b z i l J (by simp) C r with q | ⟨m,g,o⟩
  .exact q.elim
  .exact⟨m,g,∅⟩
theorem Up.wk{s:Nat}(I:FI n ls s M T O [] (λ_ _=>False)){r:Nat}(h:Up ls O s j r):∀ x,T[r]?=some (some x)->Wk ls s r x:=by
 induction h with
 |root=>intro x L;rw[I.st]at L;cases L;exact .nil _
 | @step j r k l p C h D =>
  intro x L;obtain⟨A,H,y,d,f,G,E,i⟩:=I.even p;rw[C]at d;cases d;rw[L]at G;cases G;have g:=Wk.step (D y E) C (qR f);rw[nL f,i]at g;exact g
theorem uD{P:Nat->Prop}(h:∃ n,P n):∃ n,P n/\∀ m,P m->n<=m:=by
 obtain⟨n,T⟩:=h;induction n using Nat.strongRecOn with
 |ind n D =>
  by_cases c:∃ m,m<n/\P m
  .obtain⟨m,J,Y⟩:=c;exact D m J Y
  .exact⟨n,T,λm C=>JM λz=>c ⟨m,z,C⟩⟩
open Classical in
noncomputable def farD (ls:List Lk) (a b:Nat):Int:=if h:∃ x:Nat,Wk ls a b (x:Int) then((Classical.choose (uD h):Nat):Int) else 0
theorem kd(hw:∀ l∈ls,0<=l.2.2){a b:Nat}{x:Int}(h:Wk ls a b x):Wk ls a b (farD ls a b)/\∀ y,Wk ls a b y->farD ls a b<=y:=by
 have p:=h.nn hw;have k:∃ x:Nat,Wk ls a b (x:Int):=⟨x.toNat,by rw[Jv p];exact h⟩
 have e:farD ls a b=((Classical.choose (uD k):Nat):Int):=by unfold farD;rw[dif_pos k]
 obtain⟨c1,c2⟩:=Kw (uD k);rw[e];refine⟨c1,λy Q=>?_⟩;have c:=Q.nn hw;have:=c2 y.toNat (by rw[Jv c];exact Q)
 omega
theorem far_sy(ls:List Lk)(a b:Nat):farD ls a b=farD ls b a:=by
 have e:∀ x:Nat,Wk ls a b (x:Int)=Wk ls b a (x:Int):=λx=>propext ⟨Wk.rev,Wk.rev⟩;have f:(λx:Nat=>Wk ls a b (x:Int))=λx:Nat=>Wk ls b a (x:Int):=funext e;unfold farD;by_cases h:∃ x:Nat,Wk ls a b (x:Int)
 .have j:∃ x:Nat,Wk ls b a (x:Int):=h.imp λx z=>z.rev
  rw[dif_pos h,dif_pos j];have c1:=Kw (uD h);have c2:=Kw (uD j);have N:=c1.2 _ c2.1.rev;have v:=c2.2 _ c1.1.rev;omega
 .have j:¬ ∃ x:Nat,Wk ls b a (x:Int):=λz=>h (z.imp λx y=>y.rev)
  rw[dif_neg h,dif_neg j]
def Conn(n:Nat)(ls:List Lk):Prop:=∀ b,b<n->∃ x,Wk ls 0 b x
theorem Conn.two(h:Conn n ls){a b:Nat}(E:a<n)(M:b<n):∃ x,Wk ls a b x:=by
 obtain⟨x,L⟩:=h a E;obtain⟨y,Q⟩:=h b M;exact⟨_,L.rev.trans Q⟩
theorem far_met(hw:∀ l∈ls,0<=l.2.2)(t:Conn n ls):Met n (farD ls) where
 sy:=far_sy ls
 nn:=λa b=>by
  unfold farD;split
  .omega
  .exact IM _
 tr:=λa b c E M d=>by
  obtain⟨x,L⟩:=t.two E M;obtain⟨y,Q⟩:=t.two M d;exact(kd hw (L.trans Q)).2 _ ((kd hw L).1.trans (kd hw Q).1)
theorem far_link(hw:∀ l∈ls,0<=l.2.2){l:Lk}(hl:l∈ls):farD ls l.1 l.2.1<=l.2.2:=by
 obtain⟨i,T,e⟩:=Ij hl;have g:=Wk.link (ls:=ls) (i:=i) (l:=l) (a:=l.1) (by rw[Gs T,e]) (.inl rfl)
 have b1:bey l l.1=l.2.1:=by unfold bey;rw[Nf rfl]
 rw[b1]at g;exact(kd hw g).2 _ g
theorem FI.is{s:Nat}(I:FI n ls s M T O [] (λ_ _=>False))(t:Conn n ls)(G:s<n){r:Nat}(hr:r<n):T[r]?=some (some (farD ls s r)):=by
 have c:∀ l∈ls,0<=l.2.2:=λl C=>(I.w0 l C).1;obtain⟨x,L⟩:=t.two G hr;obtain⟨z,J,Y⟩:=L.rel I 0 I.st;obtain⟨j,u⟩:=I.up r z J;have a:=u.wk I z J;obtain⟨y,q⟩:=kd c L;obtain⟨m,g,o⟩:=y.rel I 0 I.st;rw[J]at g;cases g;have:=q z a;have e:z=farD ls s r:=by omega
 rw[← e];exact J
def iS(ks:List Nat):Nat:=ks.foldl (λm k=>m|||2^k) 0
theorem gW(ks:List Nat)(i:Nat):(iS ks).testBit i=decide (i∈ks):=by
 have d:∀(ks:List Nat)(m:Nat),(ks.foldl (λm k=>m|||2^k) m).testBit i=(m.testBit i||decide (i∈ks)):=by
  intro ks;induction ks with
  |nil=>intro m;simp
  |cons k ks D =>
   intro m;rw[Kv,D,Jg,Hf];by_cases c:k=i
   .subst c;simp
   .have L:¬ i=k:=λz=>c z.symm
    simp[c,L]
 unfold iS;rw[d];simp
theorem oddE_pow(ls:List Lk)(k:Nat):∀ i,oddE ls (2^k) i=if k<i then endX (lkA ls k) else 0
 |0=>by rw[Ng (Ir _)];rfl
 |i+1=>by
  unfold oddE;rw[oddE_pow ls k i,Hf];by_cases c:k=i
  .subst c;rw[Nf (by simp),Ng (HF _),Nf (HB _),Nat.zero_xor]
  .rw[Ng (by simpa using c)]
   by_cases d:k<i
   .rw[Nf d,Nf ∅]
   .rw[Ng d,Ng ∅]
theorem m8(ls:List Lk):∀ i,oddE ls 0 i=0
 |0=>rfl
 |i+1=>by unfold oddE;rw[HP,Ng G4];exact m8 ls i
theorem Pth.node{s r:Nat}{ks:List Nat}(h:Pth ls O s r ks):∀ k∈ks,∃ q j,O[q]?=some (some k)/\Up ls O s j q/\j<=ks.length:=by
 induction h with
 |root=>intro k G;cases G
 | @step r k l ks p C h D =>
  intro A G;rcases GG.mp G with rfl | G
  .exact⟨r,_,p,.step p C h.up,Gy _⟩
  .obtain⟨q,j,J,Y,g⟩:=D A G;exact⟨q,j,J,Y,by rw[GX];omega⟩
theorem Pth.join{s:Nat}(I:FI n ls s M T O [] (λ_ _=>False)){r:Nat}{ks:List Nat}(h:Pth ls O s r ks) :
  (∀ k∈ks,k<ls.length)/\oddE ls (iS ks) ls.length=2^s^^^2^r:=by
 induction h with
 |root =>
  refine⟨(λk G=>nomatch G),?_⟩;show oddE ls 0 ls.length=_;rw[m8,JI]
 | @step r k l ks p C h D =>
  obtain⟨m,J⟩:=D;obtain⟨Y,x,y,d,f,Q,E,e5⟩:=I.even p;rw[C]at d;cases d;have o:k<ls.length:=(Gn.mp C).1;have me:Up ls O s (ks.length+1) r:=.step p C h.up;have nk:k∉ks:=λz=>by
   obtain⟨q,j,B,v,b⟩:=h.node k z;obtain⟨a,_,_,H,g,_⟩:=I.pr q k B;rw[C]at H;cases H;have t:q≠r:=λw=>by
    subst w;have:=Up.uniq I.vs me v;omega
   have e:bey l q=r:=by
    unfold bey;rcases g with u | u<;>rcases f with N | N
    .exact Nh (u.trans N.symm) t
    .rw[Nf u];exact N.symm
    .rw[Ng (λw=>t (w.trans N.symm))];exact N.symm
    .exact Nh (u.trans N.symm) t
   have:Up ls O s (ks.length+1+1) q:=.step B C (by rw[e];exact me)
   have:=Up.uniq I.vs this v;omega
  have em:iS (k::ks)=iS ks^^^2^k:=HD λi=>by
   rw[gW,HK,gW,Hf];by_cases c:i=k
   .subst c;simp[nk]
   .have L:¬ k=i:=λz=>c z.symm
    simp[c,L]
  rw[em];refine⟨λA G=>?_,?_⟩
  .rcases GG.mp G with rfl | G
   .exact o
   .exact m A G
  .rw[oddE_xor,J,oddE_pow,Nf o,lkA_is C];have ee:endX l=2^bey l r^^^2^r:=by
    unfold endX bey;rcases f with z | z
    .rw[Nf z,z,JY]
    .by_cases w:r=l.1
     .rw[Nf w,w,JY]
     .rw[Ng w,z]
   rw[ee,← HN,HN (2^s),JI,K5]
def vg(l:Lk):Nat:=2^l.1|||2^l.2.1
def one1(m:Nat)(l:Lk):Nat:=if m&&&vg l=0 then m else m|||vg l
def cE(ls:List Lk)(m:Nat):Nat:=ls.foldl one1 m
inductive Run(ls:List Lk):Nat->Nat->Nat->Prop where
 |stop {m:Nat}:Run ls m m m
 |go {m a r:Nat} (h:m≠a) (n:Run ls (cE ls m) m r):Run ls m a r
theorem zT(m:Nat)(l:Lk):m<=one1 m l:=by
 unfold one1;split
 .exact Gy _
 .exact Nat.left_le_or
theorem zS{l:Lk}(h:m<2^n)(J:l.1<n)(h2:l.2.1<n):one1 m l<2^n:=by
 unfold one1 vg;split
 .exact h
 .exact Ke h (Ke (Hz (by decide) J) (Hz (by decide) h2))
theorem rN{l:Lk}(h:ls[i]?=some l):cE (ls.take (i+1)) m=one1 (cE (ls.take i) m) l:=by
 unfold cE;rw[He,h,Kh];rfl
theorem orN(a b:Nat):Mb (a:Int) (b:Int)=((a|||b:Nat):Int):=by
 rw[PyProof.Rows.bitOr_and,andN];have q:=PyProof.Rows.nat_or_add_and a b;omega
theorem endsV(l:Lk):Mb (1*2^((l.1:Nat):Int).toNat) (1*2^((l.2.1:Nat):Int).toNat)=((vg l:Nat):Int):=by rw[shlN,shlN,orN];rfl
def PaAt(H:Hp)(v:V)(l:Lk):Prop:=∃ t,v=.ref t/\H t=some (.tup [.int (l.1:Int),.int (l.2.1:Int)])
theorem oG(a b:Int):decide (V.int a=V.int b)=decide (a=b):=decide_eq_decide.mpr ⟨V.int.inj,congrArg V.int⟩
inductive spReach(vs:List L2.V)(H:L2.Hp)(Q:L2.VK)(x3_:L2.XK):Prop
 |mk (a:Addr)(ys:List V)(n:Nat)(ls:List Lk) (h0_:vs = [.int 0,.ref a])(h1_:H a=some (.lst ys))(h2_:LsAt PaAt H ys ls)(h3_:Lok n ls)(h4_:1<=n)(h5_:∀ r:Nat,Run ls 1 0 r->Q (.int (r:Int)) H)
inductive spWhl(vs:List L2.V)(H:L2.Hp)(Q:L2.VK)(x3_:L2.XK):Prop
 |mk (v:V)(n:Nat)(ls:List Lk) (h0_:vs = [.int (n:Int),v])(h1_:LnAt H v ls)(h2_:Lok n ls)(h3_:1<=n)(h4_:∀(r:Nat) H',Run ls 1 0 r->Same H H'->Q (.bl (decide ((r:Int)=1*2^((n:Nat):Int).toNat-1))) H')
structure TxtR(mg:Str->Option Value):Prop where
 n_list:mg "list" = none
 n_reversed:mg "reversed" = none
theorem cu:aw ["start","pairs","mask","ahead","one","two","ends"] ["start","pairs"] (aq jL):=by ac_nf
def mRz(n:Nat)(O:St):Nat:=match O with | [_,_,some (.int M),some (.int a),_,_,_]=>2*((2^n:Nat)-M).toNat+(if M=a then 0 else 1) | _=>0
theorem ok_reached (F:Fun K "reached" "reached" jL f fd):FnOk P w K mg base CX0 1 f fd ["start","pairs"] spReach:=by
 refine F.ok cu (by walk_at "l") λt A I s H Y Q E B h=>?_
 obtain⟨a,k,n,ls,rfl,hA,hL,ok,n1,o⟩:=h;have ab:=ok.n1
 refine⟨_,(ag (ay 2 cu.nd (av bF aj (pv 0)))
   (ag (ay 3 cu.nd aj)
   (ag (fN PassesOwn.never (aB jR (pv 2) (pv 3) (aC _)) (ag (ay 3 cu.nd (pv 2))
   (ak (bM PassesOwn.never rfl (aU (pv 1)) (mZ rfl (aE (cJ 4 cu.nd) (aE (cJ 5 cu.nd) bC))) (ag (ay 6 cu.nd (av zQ (av bF aj (pv 4)) (av bF aj (pv 5))))
   (ak (bG (aB jR (av gM (pv 2) (pv 6)) aj (aC _)) (ak (ay 2 cu.nd (av zQ (pv 2) (pv 6)))) aJ)))))))
   (ak (aF (pv 2)))))),?_⟩
 refine⟨_,rfl,_,_,rfl,rfl,⟨by decide,by decide,by decide⟩,?_⟩
 refine iA (λO g=>∃(M Ah:Nat),∃ v4 v5 v6,g=H/\O = [some (.int 0),some (.ref a),some (.int (M:Int)),some (.int (Ah:Int)),v4,v5,v6]/\M<2^n/\∀ r,Run ls M Ah r->Run ls 1 0 r)
  (λO _=>mRz n O) ⟨1,0,_,_,_,rfl,rfl,Nat.one_lt_two_pow ∅,λr z=>z⟩ ?_ ?_
 .rintro O g ⟨M,Ah,v4,v5,v6,rfl,rfl,hM,run⟩;refine⟨_,rfl,_,rfl,rfl,_,rfl,?_⟩;by_cases u:M=Ah
  .subst u;refine uN rfl ?_;exact⟨_,rfl,o M (run M .stop)⟩
  refine ite2 (λc=>?_) (λc=>Nh (by rw[oG,LJ (λz=>u ∅)];rfl) c)
  refine⟨_,rfl,?_⟩;refine⟨_,rfl,a,rfl,⟨_,SqL.of hA⟩,cf (K:=K) (xs:=k) (λi O q=>∃ v4 v5 v6,q=g/\O = [some (.int 0),some (.ref a),some (.int ((cE (ls.take i) M:Nat):Int)),some (.int (M:Int)),v4,v5,v6]/\cE (ls.take i) M<2^n/\M<=cE (ls.take i) M) ⟨_,_,_,rfl,rfl,hM,Gy _⟩ (λi O q _ aa=>by obtain⟨_,_,_,z,_⟩:=aa;rw[z];exact SqL.of hA) ?_ ?_⟩
  .rintro i x O q L ⟨v4,v5,v6,rfl,rfl,al,am⟩;obtain⟨l,C,p,rfl,j⟩:=hL.get L;obtain⟨b1,b2⟩:=ok.sm l (Gv C);refine⟨p,_,rfl,SqT.of j,rfl,_,_,rfl,_,_,rfl,rfl,?_⟩;refine⟨_,rfl,_,_,rfl,rfl,⟨∅,∅,by decide⟩,_,rfl,_,_,rfl,rfl,⟨∅,∅,by decide⟩,_,_,rfl,rfl,?_⟩
   simp only[endsV];refine⟨_,rfl,_,rfl,_,_,rfl,rfl,rfl,_,rfl,?_⟩;have J:=rN (m:=M) C;have ac:=zS al b1 b2;have an:=zT (cE (ls.take i) M) l;simp only[andN];by_cases z:cE (ls.take i) M&&&vg l=0
   .refine uN (by rw[z];rfl) ?_
    have e:one1 (cE (ls.take i) M) l=cE (ls.take i) M:=by unfold one1;rw[Nf z]
    exact⟨_,_,_,rfl,by rw[J,e];rfl,by rw[J];exact ac,by rw[J];omega⟩
   .refine ite2 (λ_=>?_) (λc=>Nh (by rw[oG,LJ (λy=>z ∅)];rfl) c)
    have e:one1 (cE (ls.take i) M) l=cE (ls.take i) M|||vg l:=by unfold one1;rw[Ng z]
    refine⟨_,rfl,_,rfl,_,_,rfl,rfl,?_⟩;simp only[orN];exact⟨_,_,_,rfl,by rw[J,e];rfl,by rw[J];exact ac,by rw[J];omega⟩
  .rintro O q ⟨v4,v5,v6,rfl,rfl,al,am⟩;rw[hL.1,Hi]at al am ⊢;refine⟨⟨_,M,_,_,_,rfl,rfl,al,λr z=>run r (.go u z)⟩,?_⟩;show 2*(((2^n:Nat):Int)-((cE ls M:Nat):Int)).toNat+(if((cE ls M:Nat):Int)=(M:Int) then 0 else 1)<2*(((2^n:Nat):Int)-(M:Int)).toNat+(if(M:Int)=(Ah:Int) then 0 else 1);rw[Ng (show ¬ (M:Int)=(Ah:Int) from λz=>u ∅)]
   generalize (2^n:Nat)=N at hM al;split<;>omega
 .rintro O D Q1 Q2 T ⟨v1,d,v2,G,v,b,e4,q'⟩;exact⟨v1,d,v2,G,v,b,e4,T _ _ q'⟩
theorem B5:aw ["many","links"] ["many","links"] (aq pj):=by ac_nf
theorem ok_whl (F:Fun K "whole" "whole" pj f fd) (aa:Cal P w K mg base 1 "reached" ["start","pairs"] spReach q G):FnOk P w K mg base CX0 2 f fd ["many","links"] spWhl:=by
 refine F.ok B5 (by walk_at "l") λd A I s H Y Q E B h=>?_
 obtain⟨v,n,J,rfl,⟨a,xs,rfl,hA,u⟩,ok,o,y⟩:=h;have ac:=ok.n1;have l9:=ok.l9;have xl:=u.1;refine⟨_,(ak (aF (bO cj (aa.c B (ae aj (ae (dU [] ["link"] (aU (pv 1)) pg_c pt_c (λC k s H=>(dB (ae (nW K (pv 0) aj) (ae (nW K (pv 0) aj) ah))))) ah))) (av iW (av bF aj (pv 0)) aj) (aC _)))),?_⟩;refine⟨_,rfl,a,rfl,⟨_,SqL.of hA⟩,cC (K:=K) (xs:=xs) (λi M N=>Same H N/\LsAt PaAt N M (J.take i)) (G6 (ar ∅)) ⟨λ_ _ e=>e,LsAt.nil⟩ (λi M N _ z=>SqL.of (z.1 _ _ hA)) ?_ ?_⟩
 .rintro i x M N L ⟨b,hZ⟩;obtain⟨l,g,p,rfl,j⟩:=u.get L;have ab:=b _ _ j;refine⟨_,rfl,p,_,0,_,rfl,rfl,SqT.of ab,a30,_,rfl,p,_,1,_,rfl,rfl,SqT.of ab,a31,(by show 2<=LK;decide),λt O=>?_⟩
  have m:=ai O (.tup [.int (l.1:Int),.int (l.2.1:Int)]);refine⟨b.trans m,?_⟩;rw[He,g];exact(hZ.imp λ_ _ ⟨t,e,z⟩=>⟨t,e,m _ _ z⟩).snoc ⟨t,rfl,af⟩
 rintro M N _ ⟨b,hZ⟩ D T;rw[xl,Hi]at hZ;have m:=ai T (.lst M);refine⟨D,M,n,J,rfl,af,hZ.imp λ_ _ ⟨t,e,z⟩=>⟨t,e,m _ _ z⟩,ok,o,λr run=>?_⟩;refine⟨_,rfl,_,_,rfl,rfl,⟨∅,∅,by decide⟩,_,_,rfl,rfl,rfl,?_⟩
 rw[oG];exact y r _ run (b.trans m)
structure TxtM(mg:Str->Option Value):Prop where
 most:∃ t,mg "MOST_MARKS" = some (.int 14 t)
theorem BV{p q:Nat}:(M&&&(2^p|||2^q)=0↔M.testBit p=false/\M.testBit q=false)/\(M|||(2^p|||2^q)=M->M.testBit p=true/\M.testBit q=true):=by
 have b1:∀ i,(2^p|||2^q).testBit i=(decide (p=i)||decide (q=i)):=λi=>by rw[Jg,Hf,Hf]
 refine⟨⟨λh=>?_,λ⟨J,Y⟩=>?_⟩,λh=>?_⟩
 .have J:=congrArg (λz=>KJ z p) h
  have Y:=congrArg (λz=>KJ z q) h;simp only[Jk,b1,HP]at J Y;constructor
  .simpa using J
  .simpa using Y
 .refine HD λi=>?_;rw[Jk,b1,HP];by_cases u:p=i
  .subst u;rw[J];rfl
  .by_cases N:q=i
   .subst N;rw[Y];rfl
   .simp[u,N]
 .have J:=congrArg (λz=>KJ z p) h
  have Y:=congrArg (λz=>KJ z q) h;simp only[Jg (x:=M),b1]at J Y;constructor
  .simpa using J.symm
  .simpa using Y.symm
theorem AR(h:M<2^m)(k:∀ p,p<m->M.testBit p=true):M=2^m-1:=by
 refine HD λi=>?_;rw[JU];by_cases z:i<m
 .rw[k i z,Mq z]
 .rw[LJ z];exact JE (Hg h (HC (by decide) ∅))
theorem pP{n:Int}(N:Gl X x)(C:∃ t,X.mg x=some (.int n t)) (hd:(x == ("__debug__" : Str))=false:=by decide):PE X (.Name x pos) (tC (.int n)):=by
 obtain⟨t,h⟩:=C;exact m6 N h ⟨t,rfl⟩ hd
theorem lh:∀ i,m<=cE (ls.take i) m/\cE (ls.take i) m<=cE ls m:=λi=>by
 have le:∀(l:List Lk)(m:Nat),m<=cE l m:=λl=>by
  induction l with
  |nil=>intro m;exact Gy _
  |cons x l D=>intro m;exact Hy (zT m x) (D _)
 refine⟨le _ _,?_⟩;have e:cE ls m=cE (ls.drop i) (cE (ls.take i) m):=by
  unfold cE;rw[← Kh,Jl]
 rw[e];exact le _ _
theorem vD{r:Nat}(h:cE ls r=r){l:Lk}(hl:l∈ls):r.testBit l.1=r.testBit l.2.1:=by
 obtain⟨i,T,e⟩:=Ij hl;have Y:ls[i]?=some l:=by rw[Gs T,e]
 have Q:=lh (ls:=ls) (m:=r) i;have z:=lh (ls:=ls) (m:=r) (i+1);have O:cE (ls.take i) r=r:=by omega
 have f:cE (ls.take (i+1)) r=r:=by omega
 rw[rN Y,O]at f;obtain⟨b1,b2⟩:=BV (M:=r) (p:=l.1) (q:=l.2.1);unfold one1 vg at f;split at f
 .rename_i c;obtain⟨u,N⟩:=b1.mp c;rw[u,N]
 .obtain⟨u,N⟩:=b2 f;rw[u,N]
theorem Run.shut{a r:Nat}(h:Run ls m a r)(hl:∀ l∈ls,l.1<n/\l.2.1<n):(m=a->cE ls m=m)->m<2^n->cE ls r=r/\r<2^n/\(m.testBit 0=true->r.testBit 0=true):=by
 induction h with
 |stop=>intro J Y;exact⟨J rfl,Y,id⟩
 | @go m a r h i D =>
  intro _ Y;have lt:∀(k:List Lk),(∀ l∈k,l.1<n/\l.2.1<n)->∀ m,m<2^n->cE k m<2^n:=λk=>by
   induction k with
   |nil=>intro _ m C;exact C
   |cons x k b =>
    intro G m C;obtain⟨b1,b2⟩:=G x (GN ..);exact b (λl hl=>G l (GD _ hl)) _ (zS C b1 b2)
  have bit:∀(k:List Lk)(m:Nat),m.testBit 0=true->(cE k m).testBit 0=true:=λk=>by
   induction k with
   |nil=>intro m C;exact C
   |cons x k b =>
    intro m C;refine b _ ?_;unfold one1;split
    .exact C
    .rw[Jg,C];rfl
  obtain⟨B,v,H⟩:=D (λe=>by rw[e];exact e) (lt ls hl m Y)
  exact⟨B,v,λz=>H (bit ls m z)⟩
theorem run_full{r:Nat}(h:Run ls 1 0 r)(hl:∀ l∈ls,l.1<n/\l.2.1<n)(n1:1<=n)(t:Conn n ls):r=2^n-1:=by
 obtain⟨B,v,f⟩:=h.shut hl (λz=>by cases z) (Nat.one_lt_two_pow ∅)
 refine AR v λp j=>?_;obtain⟨x,L⟩:=t p j;have d:∀{a b:Nat}{x:Int},Wk ls a b x->r.testBit a=r.testBit b:=λh=>by
  induction h with
  |nil=>rfl
  | @step b i x l A H y D =>
   rw[D];have u:=vD B (Gv H);unfold bey;rcases y with z | z
   .rw[Nf z,z];exact u
   .by_cases w:b=l.1
    .rw[Nf w,w];exact u
    .rw[Ng w,z];exact u.symm
 rw[← d L];exact f (by decide)
inductive spOnes(vs:List L2.V)(H:L2.Hp)(Q:L2.VK)(x3_:L2.XK):Prop
 |mk (n:Nat) (h0_:vs = [.int (n:Int)])(h1_:n<2^40)(h2_:∀ H',Same H H'->Q (.int (((bl n).length:Nat):Int)) H')
inductive EV(vs:List L2.V)(H:L2.Hp)(Q:L2.VK)(x3_:L2.XK):Prop
 |mk (n:Nat) (h0_:vs = [.int (n:Int)])(h1_:n<2^40)(h2_:∀ H',Same H H'->Q (.int (((bl n).length:Nat)%2:Int)) H')
def kY(K:Gw):Sp:=λY H Q _=>∃(a:Addr)(u:List Nat),Y = [.ref a]/\SqL K H a (u.map iV)/\(∀ k∈u,k<80)/\Q (.int ((iS u:Nat):Int)) H
inductive EU(vs:List L2.V)(H:L2.Hp)(Q:L2.VK)(x3_:L2.XK):Prop
 |mk (v:V)(n mk:Nat)(ls:List Lk) (h0_:vs = [.int (n:Int),v,.int (mk:Int)])(h1_:LnAt H v ls)(h2_:Lok n ls)(h3_:1<=n)(h4_:Conn n ls)(h5_:mk<2^n)(h6_:(bl mk).length%2=0)(h7_:(bl mk).length<=14)(h8_:∀ H',Same H H'->Q .non H')
theorem EZ:aw ["mask"] ["mask"] (aq vX):=by ac_nf
theorem ok_ones (F:Fun K "ones" "ones" vX f fd) (T:Txt mg) (b:Cal P w K mg base 1 "bits" ["mask"] k7 a G):FnOk P w K mg base CX0 2 f fd ["mask"] spOnes:=by
 refine F.ok EZ (by walk_at "l") λd A I s H Y Q E B h=>?_
 obtain⟨n,rfl,y,k⟩:=h;have e:(2:Nat)^40=1099511627776:=by decide
 refine⟨_,(ak (aF (aD aA (by rfl) T.n_len bT (ae (b.c B (ae (pv 0) ah)) ah)))),?_⟩
 refine⟨_,rfl,_,rfl,∅,∅,λr l g _ i=>?_⟩
 refine⟨r,_,rfl,.inl (SqL.of i),?_⟩;rw[Gu,GA];exact k _ g
theorem sc_odd:aw ["mask"] ["mask"] (aq B8):=by ac_nf
theorem ok_odd (F:Fun K "odd" "odd" B8 f fd) (j:Cal P w K mg base 2 "ones" ["mask"] spOnes a G):FnOk P w K mg base CX0 3 f fd ["mask"] EV:=by
 refine F.ok sc_odd (by walk_at "l") λd A I s H Y Q E B h=>?_
 obtain⟨n,rfl,T,y⟩:=h;refine⟨_,(ak (aF (av b8 (j.c B (ae (pv 0) ah)) aj))),?_⟩;exact⟨_,rfl,n,rfl,T,λl g=>⟨_,_,rfl,rfl,(by show(0:Int)<2;decide),y _ g⟩⟩
theorem iB:aw ["places","mask","place"] ["places"] (aq jM):=by ac_nf
theorem ok_mask (F:Fun K "mask_of" "mask_of" jM f fd):FnOk P w K mg base CX0 1 f fd ["places"] (kY K):=by
 refine F.ok iB (by walk_at "l") λd A I s H Y Q E B h=>?_
 obtain⟨a,u,rfl,v,c,q⟩:=h
 refine⟨_,(ag (ay 1 iB.nd aj)
   (ag (bM PassesOwn.never rfl (aU (pv 0)) (cJ 2 iB.nd) (ak (ay 1 iB.nd (av zQ (pv 1) (av bF aj (pv 2))))))
   (ak (aF (pv 1))))),?_⟩
 refine⟨_,rfl,a,rfl,⟨_,v⟩,cf (K:=K) (xs:=u.map iV) (λi O N=>∃ g,O = [some (.ref a),some (.int ((iS (u.take i):Nat):Int)),g]/\N=H) ⟨_,rfl,rfl⟩ (λi O N _ ⟨_,_,z⟩=>by rw[z];exact v) ?_ ?_⟩
 .rintro i x O N L ⟨g,rfl,rfl⟩;rw[GC]at L;obtain⟨k,G,rfl⟩:=G5.mp L;have b:=c k (Gv G);refine⟨_,rfl,_,rfl,_,_,rfl,rfl,⟨by show(0:Int)<=(k:Int);omega,by show(k:Int)<=1000000;omega,by decide⟩,_,_,rfl,rfl,?_⟩
  have e:Mb ((iS (u.take i):Nat):Int) (1*2^((k:Nat):Int).toNat)=((iS (u.take (i+1)):Nat):Int):=by
   rw[shlN,orN];unfold iS;rw[He,G,Kh];rfl
  simp only[e];exact⟨_,rfl,rfl⟩
 .rintro O N ⟨g,rfl,rfl⟩;rw[Gu,Hi];exact⟨_,rfl,q⟩
theorem mQ:aw ["many","links","marks"] ["many","links","marks"] (aq c6):=by ac_nf
theorem ok_ref{x:FuncData} (F:Fun K "refuse_marks" "refuse_marks" c6 f fd) (T:TxtM mg) (O:Cal P w K mg base 3 "odd" ["mask"] EV a G) (ab:Cal P w K mg base 2 "whole" ["many","links"] spWhl p Y) (j:Cal P w K mg base 2 "ones" ["mask"] spOnes C x):FnOk P w K mg base CX0 4 f fd ["many","links","marks"] EU:=by
 refine F.ok mQ (by walk_at "l") λd A I s H M Q E B h=>?_
 obtain⟨v,n,mk,J,rfl,D,ok,o,t,u,i,L,y⟩:=h;have k:=ok.n1;have aa:mk<2^40:=Hg u (HC (by decide) k)
 obtain⟨tM,hM⟩:=T.most
 refine⟨_,(ag (bG (aB cj (O.c B (ae (pv 2) ah)) aj (aC _)) (ak cG) aJ)
   (ag (bG (oq (jQ (ab.c B (ae (pv 0) (ae (pv 1) ah))))) (ak cG) aJ)
   (ak (bG (aB zR (j.c B (ae (pv 2) ah)) (pP rfl T.most) (aC _)) (ak cG) aJ)))),?_⟩
 refine⟨_,rfl,mk,rfl,aa,λl g=>?_⟩;refine⟨rfl,_,rfl,ite2 (λz=>Nh (V.int.inj (MZ z)) ∅) (λ_=>?_)⟩
 refine⟨_,rfl,_,rfl,v,n,J,rfl,D.mono g,ok,o,λr N run b=>?_⟩;have er:=run_full run ok.sm o t
 have e:decide ((r:Int)=1*2^((n:Nat):Int).toNat-1)=true:=Mq (by
  rw[shlN,er];have:=HQ n
  omega)
 rw[e];refine⟨_,rfl,iteF ?_⟩;refine⟨_,rfl,mk,rfl,aa,λq m=>?_⟩;refine⟨_,_,rfl,rfl,_,rfl,ite2 (λz=>Nh (MZ z) (by show ¬ (((bl mk).length:Nat):Int) > 14;omega)) (λ_=>?_)⟩
 exact y _ (g.trans (b.trans m))
inductive spRow(vs:List L2.V)(H:L2.Hp)(Q:L2.VK)(x3_:L2.XK):Prop
 |mk (v:V)(va:Addr)(r s:Nat)(ls:List Lk)(VL:List (Option Nat))(ks:List Nat) (h0_:vs = [v,.ref va,.int (r:Int)])(h1_:LnAt H v ls)(h2_:H va=some (.lst (VL.map oN)))(h3_:VL[s]?=some none)(h4_:Pth ls VL s r ks)(h5_:ks.length<=40)(h6_:∀ q H',Same H H'->H' q=some (.lst (ks.reverse.map iV))->Q (.ref q) H')
theorem jF:aw ["links","via","room","back","here"] ["links","via","room"] (aq lX):=by ac_nf
theorem ok_row (F:Fun K "row_to" "row_to" lX f fd) (T:TxtR mg) (al:Cal P w K mg base 1 "beyond" ["link","room"] EW p G):FnOk P w K mg base CX0 2 f fd ["links","via","room"] spRow:=by
 refine F.ok jF (by walk_at "l") λd A I s H Y Q E B h=>?_
 obtain⟨v,va,r,s0,ls,VL,x,rfl,⟨a,J,rfl,hA,hL⟩,ab,an,hP,aT,y⟩:=h
 refine⟨_,(ag (ay 3 jF.nd (bN ah))
   (ag (ay 4 jF.nd (pv 2))
   (ag (fN PassesOwn.never (aB Fb (bH (pv 1) (pv 4)) lg (aC _)) (ag (aP (dW GZ G9 G8 aQ (pv 3) (ae (bH (pv 1) (pv 4)) ah)))
   (ak (ay 4 jF.nd (al.c B (ae (bH (pv 0) (bH (pv 1) (pv 4))) (ae (pv 4) ah)))))))
   (ak (aF (m5 rfl rfl T.n_list rfl T.n_reversed (pv 3))))))),?_⟩
 refine⟨(by show 0<=LK;decide),λl C=>?_⟩
 have lv:l≠va:=λz=>by rw[z,ab]at C;cases C
 refine⟨_,rfl,iA (λO N=>∃(ap:Nat)(ac rest:List Nat),O = [some (.ref a),some (.ref va),some (.int (r:Int)),some (.ref l),some (.int (ap:Int))]/\N l=some (.lst (ac.map iV))/\ac++rest=x/\Pth ls VL s0 ap rest/\Same H N)
  (λ_ N=>match N l with | some (.lst M)=>100-M.length | _=>0) ⟨r,[],x,rfl,af,rfl,hP,ai C _⟩ ?_ ?_⟩
 .rintro O N ⟨ap,ac,rest,rfl,u,aR,t,b⟩;have aa:ac.length+rest.length<=40:=by
   have:=congrArg List.length aR;rw[Gx]at this;omega
  have aL:=b _ _ ab
  cases t with
  |root =>
   refine⟨_,rfl,_,rfl,va,_,_,_,rfl,rfl,SqL.of aL,aG (CG an),rfl,_,rfl,iteF ?_⟩;rw[JB]at aR;subst aR;refine⟨_,rfl,l,_,rfl,SqL.of u,λq n=>?_⟩;refine y q _ (b.trans (ai n _)) ?_;rw[af,K9]
  | @step _ k lk aS g am aI =>
   obtain⟨a0,aO,lt,rfl,D⟩:=hL.2 k lk am;refine⟨_,rfl,_,rfl,va,_,_,_,rfl,rfl,SqL.of aL,aG (CG g),rfl,_,rfl,iteT ?_⟩;rw[GX]at aa;refine⟨_,rfl,.inl ⟨rfl,_,SqL.of u⟩,_,rfl,_,rfl,va,_,_,_,rfl,rfl,SqL.of aL,aG (CG g),l,_,_,rfl,rfl,u,ar (by rw[Gu];omega),?_⟩
   have m:=aH b C (.lst (ac.map iV++[.int (k:Int)]));refine⟨_,rfl,_,rfl,_,rfl,va,_,_,_,rfl,rfl,SqL.of (m _ _ ab),aG (CG g),a,_,_,_,rfl,rfl,SqL.of (m _ _ hA),aG aO,_,rfl,.ref lt,lk,ap,rfl,⟨lt,rfl,m _ _ D⟩,?_⟩;refine⟨⟨bey lk ap,ac++[k],aS,rfl,?_,?_,aI,m⟩,?_⟩
   .rw[af,GK];rfl
   .rw[Ib];exact aR
   .rw[u];show(match(upd N l (.lst (ac.map iV++[.int (k:Int)]))) l with | some (.lst M)=>100-M.length | _=>0)<100-(ac.map iV).length
    rw[af];show 100-(ac.map iV++[V.int (k:Int)]).length<100-(ac.map iV).length;rw[Gx,Gu,GO];omega
 .rintro O N Q1 Q2 o ⟨v',e,i,j,a',b',L,d',f',g',h',i',j',k',l',q⟩;exact⟨v',e,i,j,a',b',L,d',f',g',h',i',j',k',l',o _ _ q⟩
def RM(f:Nat->Nat)(c:Nat):Nat->Nat
 |0=>0
 |i+1=>if c.testBit i=true then RM f c i^^^2^f i else RM f c i
theorem BM(f:Nat->Nat)(u v:Nat):∀ i,RM f (u^^^v) i=RM f u i^^^RM f v i
 |0=>(JI 0).symm
 |i+1=>by
  unfold RM;rw[BM f u v i,HK];have c:∀ a b e:Nat,(a^^^e)^^^(b^^^e)=a^^^b:=λa b e=>by rw[JY b e,← HN,HN a e e,JI,K5]
  cases u.testBit i<;>cases v.testBit i<;>simp
  .rw[HN]
  .rw[HN,HN,JY (RM f v i)]
  .exact(c _ _ _).symm
theorem BN(f:Nat->Nat)(k:Nat):∀ i,RM f (2^k) i=if k<i then 2^f k else 0
 |0=>by rw[Ng (Ir _)];rfl
 |i+1=>by
  unfold RM;rw[BN f k i,Hf];by_cases c:k=i
  .subst c;rw[Nf (by simp),Ng (HF _),Nf (HB _),Nat.zero_xor]
  .rw[Ng (by simpa using c)]
   by_cases d:k<i
   .rw[Nf d,Nf ∅]
   .rw[Ng d,Ng ∅]
theorem BL(f:Nat->Nat):∀ i,RM f 0 i=0
 |0=>rfl
 |i+1=>by unfold RM;rw[HP,Ng G4];exact BL f i
theorem BO{l:List Nat}(nd:l.Nodup)(x:Nat):∀ i,i<=l.length->(RM (λi=>l.getD i 0) (2^l.length-1) i).testBit x=decide (x∈l.take i)
 |0,_=>by rw[Lr];show(0:Nat).testBit x=_;rw[HP];simp
 |i+1,h=>by
  unfold RM;rw[Nf (by rw[JU];exact Mq ∅),HK,BO nd x i ∅,Hf]
  have e:l[i]?=some l[i]:=Gs ∅
  have b:l.getD i 0=l[i]:=by rw[GP,e];rfl
  rw[b];have d:l[i]∉l.take i:=λz=>by
   obtain⟨k,G,E⟩:=Ij z;rw[Hs]at G;rw[List.getElem_take]at E;have:=(List.getElem_inj nd).mp E;omega
  have a:x∈l.take (i+1)↔(x∈l.take i∨x=l[i]):=by
   rw[He,e];exact GU.trans (or_congr Iff.rfl GJ)
  by_cases c:x=l[i]
  .rw[LJ (λz=>d (c▸z)),Mq c.symm,Mq (a.mpr (.inr c))];rfl
  .rw[LJ (show ¬ l[i]=x from λz=>c z.symm),IB];exact decide_eq_decide.mpr ⟨λh=>a.mpr (.inl h),λh=>(a.mp h).resolve_right c⟩
theorem RM_all(mk:Nat):RM (λi=>(bl mk).getD i 0) (2^(bl mk).length-1) (bl mk).length=mk:=HD λx=>by
 rw[BO (bl_nd mk) x _ (Gy _),Hi]
 cases z:mk.testBit x with
 |true=>exact Mq (mem_bl.mpr z)
 |false=>exact LJ λy=>by rw[mem_bl,z]at y;cases y
theorem Bw{c f g:Nat}(D:f∈bl c)(N:g∈bl c)(n:f≠g):cut2 c f g<c:=by
 have sub:cut2 c f g&&&c=cut2 c f g:=HD λi=>by
  rw[Jk]
  cases z:(cut2 c f g).testBit i with
  |false=>rfl
  |true =>
   have:=(mF D N n i).mp (mem_bl.mpr z);rw[mem_bl.mp this.1];rfl
 have le:cut2 c f g<=c:=by rw[← sub];exact Nat.and_le_right
 have ne:cut2 c f g≠c:=λz=>by
  have:=(mF D N n f).mp (by rw[z];exact D)
  exact this.2.1 rfl
 omega
theorem BH(m:Nat):(bl (2^m-1)).Perm (GW m):=by
 refine(Ic (bl_nd _) (Kl)).mpr λx=>?_;rw[mem_bl,JU,Hk,decide_eq_true_iff]
inductive oW(vs:List L2.V)(H:L2.Hp)(Q:L2.VK)(x3_:L2.XK):Prop
 |mk (ta r:Addr)(xs vals:List V)(ks:List Nat) (h0_:vs = [.ref ta,.ref r])(h1_:H ta=some (.lst xs))(h2_:H r=some (.lst (ks.map iV)))(h3_:vals.length=ks.length)(h4_:ks.length<=900)(h5_:(∀(i k:Nat),ks[i]?=some k->∃ y,xs[k]?=some y/\vals[i]?=some y))(h6_:∀ q H',Same H H'->H q=none->H' q=some (.lst vals)->Q (.ref q) H')
def tO:Sp:=λY H Q _=>Y = []/\∀ p t j,Same H j->H p=none->j p=some (.dK [(.inl ((0:Nat):Int),.ref t)])->j t=some (.tup [.int 0,.non,.non])->Q (.ref p) j
theorem rG:aw ["entries","numbers"] ["entries","numbers"] (aq fL):=by ac_nf
theorem ok_chosen (F:Fun K "chosen_of" "chosen_of" fL f fd):FnOk P w K mg base CX0 1 f fd ["entries","numbers"] oW:=by
 refine F.ok rG (by walk_at "l") λd A I s H M Q E B h=>?_
 obtain⟨T,r,xs,v,u,rfl,a,o,D,b,p,g⟩:=h;refine⟨_,(ak (aF (dU [("entries",0)] ["number"] (aU (pv 1)) pg_c pt_c (λC c s H=>(zM K (pv 1) (pv 0)))))),?_⟩;refine⟨_,rfl,r,rfl,⟨_,SqL.of o⟩,cC (K:=K) (xs:=u.map iV) (λi t N=>N=H/\t=v.take i) (G6 (ar (by rw[Gu];omega))) ⟨rfl,rfl⟩ (λi t N _ z=>by rw[z.1];exact SqL.of o) ?_ ?_⟩
 .rintro i x t N L ⟨rfl,rfl⟩;rw[GC]at L;obtain⟨k,G,rfl⟩:=G5.mp L;obtain⟨y,J,Y⟩:=p i k G;refine⟨_,rfl,_,rfl,T,_,_,_,rfl,rfl,SqL.of a,aG J,rfl,?_⟩;rw[He,Y];rfl
 rintro t N _ ⟨rfl,rfl⟩ q n;rw[Gu,← D,Hi];exact g q _ (ai n _) n af
theorem rE:aw [] [] (aq fK):=by ac_nf
theorem ok_table (F:Fun K "new_table" "new_table" fK f fd):FnOk P w K mg base CX0 1 f fd [] tO:=by
 refine F.ok rE (λY H Q E h=>?_) (λd A I s H Y Q E B h=>?_)
 .rw[h.1];rfl
 obtain⟨rfl,y⟩:=h;refine⟨_,(ak (aF (ui (pG aj (dB (ae aj (ae lg (ae lg ah)))) ua) rfl rfl (λz=>by cases z) (by decide)))),?_⟩
 intro p j;refine⟨(by show 3<=LK;decide),λt n=>?_⟩
 have u:=ai j (.dK []);have N:=ai n (.tup [.int 0,.non,.non]);have pt:p≠t:=λz=>by rw[← z,af]at n;cases n
 refine⟨by rw[ao pt];exact af,[(.inl ((0:Nat):Int),.ref t)],rfl,(by show 1<=15;decide),?_⟩
 refine y p t _ (aH (u.trans N) j _) j af ?_;rw[ao (Ne.symm pt)];exact af
def FdAt(n:Nat)(ls:List Lk)(H:Hp)(v:V)(s:Nat):Prop:=∃ t T a L c,v=.ref t/\H t=some (.tup [.ref T,.ref a])/\H T=some (.lst (L.map oV))/\H a=some (.lst (c.map oN))/\FI n ls s MM L c [] (λ_ _=>False)
theorem tb_same{q:Str}{f:Pos}{TT:Addr}(h:Tb q f TT H)(s:Same H H'):Tb q f TT H':=by
 rcases h with y | ⟨L,I,Q⟩
 .exact .inl (s _ _ y)
 .exact .inr ⟨L,s _ _ I,s _ _ Q⟩
theorem tb_ne{q:Str}{f:Pos}{TT:Addr}(h:Tb q f TT H){b:Addr}{o:HO}(e:H b=some o)(n:∀ ps,o≠.tbl ps):b≠TT:=λz=>by
 rw[z]at e;rcases h with y | ⟨_,y,_⟩<;>rw[y]at e<;>cases e<;>exact n _ rfl
def SmT(H H':Hp):Prop:=∀ b o,(∀ i,o≠.tbl i)->H b=some o->H' b=some o
theorem SmT.trans(a:SmT H H1)(b:SmT H1 H2):SmT H H2:=λc o n e=>b c o n (a c o n e)
theorem SmT.of(s:Same H H'):SmT H H':=λc o _ e=>s c o e
theorem TbS.smT{q:Str}{f:Pos}{TT:Addr}(s:TbS TT H H')(h:Tb q f TT H):SmT H H':=λb o n e=>s b o (tb_ne h e n) e
theorem SmT.lst{H H':Hp}(s:SmT H H'){b:Addr}{xs:List V}(e:H b=some (.lst xs)):H' b=some (.lst xs):=s _ _ (λi z=>by cases z) e
theorem SmT.tup{H H':Hp}(s:SmT H H'){b:Addr}{xs:List V}(e:H b=some (.tup xs)):H' b=some (.tup xs):=s _ _ (λi z=>by cases z) e
theorem FdAt.mono{s:Nat}(h:FdAt n ls H v s)(sm:SmT H H'):FdAt n ls H' v s:=by
 obtain⟨t,T,a,L,c,e,J,Y,g,o⟩:=h;exact⟨t,T,a,L,c,e,sm.tup J,sm.lst Y,sm.lst g,o⟩
theorem LnAt.smT{r:List Lk}(h:LnAt H v r)(s:SmT H H'):LnAt H' v r:=by
 obtain⟨a,d,e,z,l⟩:=h;exact⟨a,d,e,s.lst z,l.imp λ_ _ ⟨t,e,q⟩=>⟨t,e,s.tup q⟩⟩
def LT(H H':Hp):Prop:=(∀ b N,H b=some (.lst N)->H' b=some (.lst N))/\∀ b N,H b=some (.tup N)->H' b=some (.tup N)
theorem LT.same(s:Same H H'):LT H H':=⟨λ_ _ e=>s _ _ e,λ_ _ e=>s _ _ e⟩
theorem LT.tbS(s:TbS tb H H')(h:H tb=some (.dK kvs)):LT H H':=⟨λb N e=>s _ _ (λz=>by rw[z,h]at e;cases e) e,λb N e=>s _ _ (λz=>by rw[z,h]at e;cases e) e⟩
theorem FdAt.lt{s:Nat}(h:FdAt n ls H v s)(sm:LT H H'):FdAt n ls H' v s:=by
 obtain⟨t,T,a,L,c,e,J,Y,g,o⟩:=h;exact⟨t,T,a,L,c,e,sm.2 _ _ J,sm.1 _ _ Y,sm.1 _ _ g,o⟩
theorem CO{ks:List Nat}(h:∀ k∈ks,k<N):iS ks<2^N:=Ig _ λi T=>by
 rw[gW];exact LJ λz=>by have:=h i z;omega
theorem Ag(ks:List Nat):iS ks.reverse=iS ks:=HD λi=>by
 rw[gW,gW];exact decide_eq_decide.mpr IS
def PrI(v:V)(n mk m N:Nat)(ls:List Lk)(r E l tb:Addr)(kvs:List (Key×V))(t:Int)(H8:Hp)(O:St)(H:Hp):Prop:=∃(c u:Nat)(a b:Option V)(w:V),O = [some (.int (n:Int)),some v,some (.int (mk:Int)),some (.ref r),some (.ref E),some (.ref l),some (.ref tb),some (.int (c:Int)),some (.int t),some (.int (u:Int)),a,b]/\Same H8 H/\valV kvs (.inl (c:Int))=some w/\u<2^N/\oddE ls u N=mk^^^RM (λi=>(bl mk).getD i 0) c m
inductive spPaired(TT:Addr)(vs:List L2.V)(H:L2.Hp)(Q:L2.VK)(x3_:L2.XK):Prop
 |mk (v:V)(n mk:Nat)(ls:List Lk) (h0_:vs = [.int (n:Int),v,.int (mk:Int)])(h1_:LnAt H v ls)(h2_:Lok n ls)(h3_:1<=n)(h4_:Conn n ls)(h5_:mk<2^n)(h6_:(bl mk).length%2=0)(h7_:(bl mk).length<=14)(h8_:Tb lqF lpF TT H)(h9_:∀(t:Addr)(cost:Int)(u:Nat) H',SmT H H'->Tb lqF lpF TT H'->H' t=some (.tup [.int cost,.int (u:Int)])->u<2^ls.length->oddE ls u ls.length=mk->Q (.ref t) H')
def RwA(ls:List Lk)(mk:Nat)(H:Hp)(v:V)(s:Nat):Prop:=∃ p,v=V.ref p/\H p=some (.lst ((bl mk).map λx=>V.int (farD ls s x)))
noncomputable def dR (ls:List Lk) (mk:Nat) (i j:Nat):Int:=farD ls ((bl mk).getD i 0) ((bl mk).getD j 0)
theorem bz:aw ["many","links","marks","rooms","found","between","table","left","cost","used","first","mate"] ["many","links","marks"] (aq lY):=by ac_nf
def mPz(O:St):Nat:=match O with | [_,_,_,_,_,_,_,some (.int c),_,_,_,_]=>c.toNat | _=>0
theorem ok_paired{TT f2 f3 f4 f5 f6 f7 f8:Addr}{bx bU cw cA dd cK:FuncData} (F:Fun K "paired" "paired" lY f fd) (T:Txt mg) (aL:Cal P w K mg base 4 "refuse_marks" ["many","links","marks"] EU I G) (aI:Cal P w K mg base 1 "bits" ["mask"] k7 f2 Y) (bd:Cal P w K mg base 2 "fares" ["many","links","start"] (spFares TT) f3 bx)
  (aT:Cal P w K mg base 1 "chosen_of" ["entries","numbers"] oW f4 bU) (a0:Cal P w K mg base 1 "new_table" [] tO f5 cw) (GL:∀(D:Nat->Nat->Int)(m:Nat),Cal P w K mg base 10 "laid_in_pairs" ["between","chosen","table"] (spLaid D m 8) f6 cA)
  (ap:Cal P w K mg base 1 "mask_of" ["places"] (kY K) f7 dd) (cc:Cal P w K mg base 2 "row_to" ["links","via","room"] spRow f8 cK):FnOk P w K mg base CX0 11 f fd ["many","links","marks"] (spPaired TT):=by
 refine F.ok bz (by walk_at "l") λab A aa s H vs Q E hr h=>?_
 obtain⟨v,n,mk,ls,rfl,hV,ok,n1,hc,bb,ev,al,bm,kk⟩:=h;have hu:=sf hr;have a9:=ok.n1;have df:=ok.l9;have an:=GL (dR ls mk) (bl mk).length;have ca:mk<1099511627776:=by
  have J:2^n<=2^40:=HC (by decide) a9
  have cp:(2:Nat)^40=1099511627776:=by decide
  omega
 have bo:∀ x∈bl mk,x<n:=λx L=>og bb L
 refine⟨_,(ag (aP (aL.c hr (ae (pv 0) (ae (pv 1) (ae (pv 2) ah)))))
   (ag (ay 3 bz.nd (aI.c hr (ae (pv 2) ah)))
   (ag (mY 4 [("many",0),("links",1)] ["room"] bz.nd (aU (pv 3)) pg_c pt_c (λC ex s H=>(bd.c hr (ae (pv 1) (ae (pv 2) (ae (pv 0) ah))))))
   (ag (mY 5 [("rooms",3)] ["told","via"] bz.nd (aU (pv 4)) (λC ex s H=>(dv (n:=2) (K:=K) rfl rfl (aE (aV (i:=0) (show(["told","via","rooms"]:List Str).Nodup from by decide) rfl (Or.inl rfl)) (aE (aV (i:=1) (show(["told","via","rooms"]:List Str).Nodup from by decide) rfl (Or.inl rfl)) bC)))) pt_c (λC ex s H=>(aT.c hr (ae (pv 0) (ae (pv 2) ah)))))
   (ag (ay 6 bz.nd (a0.d hr))
   (ag (ay 7 bz.nd (av iW (av bF aj (aD aA (by rfl) T.n_len bT (ae (pv 3) ah))) aj))
   (ag (ay 8 bz.nd (dw (an.c hr (ae (pv 5) (ae (pv 7) (ae (pv 6) ah)))) aj))
   (ag (ay 9 bz.nd aj)
   (ag (fN PassesOwn.never (aB jR (pv 7) aj (aC _)) (ag (ay 10 bz.nd (dw (jd hu (pv 6) (pv 7) (λ_ _=>rfl)) aj))
   (ag (ay 11 bz.nd (dw (jd hu (pv 6) (pv 7) (λ_ _=>rfl)) aj))
   (ag (ay 9 bz.nd (av dh (pv 9) (ap.c hr (ae (cc.c hr (ae (pv 1) (ae (dw (bH (pv 4) (pv 10)) aj) (ae (bH (pv 3) (pv 11)) ah)))) ah))))
   (ak (ay 7 bz.nd (av dh (av dh (pv 7) (av bF aj (pv 10))) (av bF aj (pv 11)))))))))
   (ak (aF (dB (ae (pv 8) (ae (pv 9) ah)))))))))))))),?_⟩
 refine⟨_,rfl,_,rfl,_,rfl,v,n,mk,ls,rfl,hV,ok,n1,hc,bb,ev,al,λH1 s1=>?_⟩;refine⟨_,rfl,(mk:Int),rfl,∅,∅,λr N s2 b6 a7=>?_⟩
 rw[GA]at a7;have aO:=s1.trans s2;have cd:=tb_same bm aO;have be:N r=some (.lst ((bl mk).map iV)):=a7;have a6:((bl mk).map iV).length=(bl mk).length:=Gu ..;refine⟨_,rfl,r,rfl,⟨_,SqL.of be⟩,cD (K:=K) (xs:=(bl mk).map iV) (λi zs H3=>SmT N H3/\Tb lqF lpF TT H3/\LsAt (FdAt n ls) H3 zs ((bl mk).take i)) (G6 (ar ∅)) ⟨λ_ _ _ e=>e,cd,LsAt.nil⟩ (λi zs H3 _ z=>SqL.of (z.1.lst be)) ?_ ?_ ?_⟩
 .rintro i x zs H3 L ⟨bB,bg,hZ⟩;rw[GC]at L;obtain⟨k,l,rfl⟩:=G5.mp L;refine⟨rfl,yesT ⟨_,rfl,_,rfl,_,rfl,v,n,k,ls,rfl,LnAt.smT (hV.mono aO) bB,ok,bo k (Gv l),bg,λt ta va TL VL H4 ba a3 _ _ ht aR a1 fi=>?_⟩⟩;have bP:=TbS.smT ba bg;refine⟨bB.trans bP,a3,?_⟩;rw[He,l];exact(hZ.imp λ_ _ q=>q.mono bP).snoc ⟨t,ta,va,TL,VL,rfl,ht,aR,a1,fi⟩
 .rintro zs H3 ⟨bB,bg,hZ⟩ fa bQ;rw[a6,Hi]at hZ;have z4:=ai bQ (.lst zs);have bi:SmT N (upd H3 fa (.lst zs)):=bB.trans (.of z4);have a3:=tb_same bg z4;have bD:LsAt (FdAt n ls) (upd H3 fa (.lst zs)) zs (bl mk):=hZ.imp λ_ _ q=>q.mono (.of z4);have a4:(upd H3 fa (.lst zs)) fa=some (.lst zs):=af;generalize upd H3 fa (.lst zs)=H4 at bi a3 bD a4;have zl:=bD.1;have bu:=bi.lst be;refine⟨_,rfl,fa,rfl,⟨_,SqL.of a4⟩,cD (K:=K) (xs:=zs) (λi ws H5=>Same H4 H5/\LsAt (RwA ls mk) H5 ws ((bl mk).take i)) (G6 (ar ∅)) ⟨λ_ _ e=>e,LsAt.nil⟩ (λi ws H5 _ z=>SqL.of (z.1 _ _ a4)) ?_ ?_ ?_⟩
  .rintro i x ws H5 L ⟨s5,hW⟩;obtain⟨s0,bn,t,ta,va,TL,VL,rfl,ht,aR,a1,fi⟩:=bD.get L;have ce:=bo s0 (Gv bn);refine⟨t,_,rfl,SqT.of (s5 _ _ ht),rfl,_,_,rfl,_,_,rfl,rfl,rfl,yesT ⟨_,rfl,_,rfl,ta,r,_,(bl mk).map λx=>V.int (farD ls s0 x),bl mk,rfl,s5 _ _ aR,s5 _ _ bu,Gu ..,∅,λj k l=>?_,λq H6 s6 di hq=>?_⟩⟩
   .refine⟨.int (farD ls s0 k),?_,by rw[GC,l];rfl⟩
    exact uv (fi.is hc ce (bo k (Gv l)))
   .refine⟨s5.trans s6,?_⟩;rw[He,bn];exact(hW.imp λ_ _ ⟨p,e,z⟩=>⟨p,e,s6 _ _ z⟩).snoc ⟨q,rfl,hq⟩
  .rintro ws H5 ⟨s5,hW⟩ bv cL;rw[zl,Hi]at hW;have z6:=ai cL (.lst ws);refine⟨rfl,λtb t0 H7 s7 ch a2 bY=>?_⟩;have a5:Same H4 H7:=s5.trans (z6.trans s7);have cM:LsAt (RwA ls mk) H7 ws (bl mk):=hW.imp λ_ _ ⟨p,e,z⟩=>⟨p,e,s7 _ _ (z6 _ _ z)⟩;have ci:H7 bv=some (.lst ws):=s7 _ _ af;have ac:∀ i,i<(bl mk).length->(bl mk)[i]?=some ((bl mk).getD i 0):=λi hi=>by rw[GP,Gs hi];rfl
   have bt:BtAt H7 (.ref bv) (dR ls mk) (bl mk).length:=⟨bv,ws,rfl,ci,λi hi=>by
    obtain⟨y,hy,p,rfl,hp⟩:=cM.2 i _ (ac i hi)
    exact⟨p,_,hy,hp,λk l=>by rw[GC,ac k l];rfl⟩⟩
   have ti:TI H7 (dR ls mk) (bl mk).length [(.inl ((0:Nat):Int),.ref t0)]:=⟨(λk w e=>by
    by_cases c:(Sum.inl ((0:Nat):Int):Key)=k
    .rw[bc c]at e
     cases e
     exact⟨0,c.symm,HQ _,.inl ⟨rfl,t0,_,_,rfl,bY⟩⟩
    .rw[bf c]at e
     cases e),⟨_,bc rfl⟩,Hj.mpr ⟨(by simp),IW⟩⟩
   have ck:=a5 _ _ bu;have bR:=tb_same a3 a5;have eL:(1:Int)*2^((((bl mk).map iV).length:Nat):Int).toNat-1=((2^(bl mk).length-1:Nat):Int):=by
    rw[a6,shlN];have:=HQ (bl mk).length;omega
   refine⟨_,rfl,r,_,rfl,.inl (SqL.of ck),_,_,rfl,rfl,⟨∅,by rw[a6];omega,by decide⟩,_,_,rfl,rfl,?_⟩
   simp only[eL];have cl:(bl (2^(bl mk).length-1)).length=(bl mk).length:=by rw[(BH _).length_eq,Hc]
   refine⟨_,rfl,_,rfl,_,rfl,.ref bv,tb,2^(bl mk).length-1,_,rfl,bt,a2,ti,by have:=HQ (bl mk).length;omega,al,by rw[cl];omega,by rw[cl];exact ev,λw t am H8 sT bZ b0 gr hv cv=>?_⟩
   have cn:=LT.tbS sT a2;obtain⟨va,y,z,rfl,a1⟩:=id cv;refine⟨va,_,0,_,rfl,rfl,SqT.of a1,a30,?_⟩;have dj:Tb lqF lpF TT H8:=mM bR λb M=>by
    have hs:∃ o,H7 b=some o/\b≠tb:=by
     rcases M with rfl | ⟨c',M⟩
     .rcases bR with q | ⟨_,q,_⟩
      .exact⟨_,q,λz=>by rw[z,a2]at q;cases q⟩
      .exact⟨_,q,λz=>by rw[z,a2]at q;cases q⟩
     .exact⟨_,M,λz=>by rw[z,a2]at M;cases M⟩
    obtain⟨o,J,B⟩:=hs;rw[J];exact sT _ _ B J
   have cs:SmT H H8:=λb o no e=>by
    have e4:=bi b o no (aO _ _ e);have e7:=a5 _ _ e4;refine sT _ _ (λz=>?_) e7;subst z;have:=dP (s5.trans z6) ch;rw[this]at e4;cases e4
   have dm:LsAt (FdAt n ls) H8 zs (bl mk):=bD.imp λ_ _ q=>(q.lt (LT.same a5)).lt cn;have cW:=cn.1 _ _ (a5 _ _ a4);have dn:=cn.1 _ _ ck;have dp:LnAt H8 v ls:=(LnAt.smT hV cs);refine iA (PrI v n mk (bl mk).length ls.length ls r fa bv tb am t H8) (λO _=>mPz O) ⟨2^(bl mk).length-1,0,_,_,_,rfl,λ_ _ e=>e,hv,HQ _,by rw[m8,RM_all,JI]⟩ ?_ ?_
   .rintro O H9 ⟨c,u,aS,cb,w,rfl,s9,hw,c7,ou⟩;obtain⟨c',ct,c8,en⟩:=b0.en _ _ hw;have dr:c'=c:=by
     have:(c:Int)=(c':Int):=by injection ct
     omega
    subst dr;refine⟨_,rfl,rfl,_,rfl,?_⟩;by_cases c0:c'=0
    .subst c0;refine uN rfl ?_;refine⟨_,rfl,_,rfl,(by show 2<=LK;decide),λt9 ds=>?_⟩
     have z9:=ai ds (.tup [.int t,.int (u:Int)]);refine kk t9 t u _ (cs.trans (.of (s9.trans z9))) (tb_same dj (s9.trans z9)) af c7 ?_;rw[ou,BL,K5]
    .refine ite2 (λ_=>?_) (λz=>Nh (by rw[LJ (λy=>c0 (by have:=V.int.inj y;omega))];rfl) z)
     obtain⟨tt,f,g,a,vr,rfl,ha,hf,hg,fg,dt⟩:∃(t:Int)(f g:Nat)(a:Addr)(vr:V),w=.ref a/\H8 a=some (.tup [.int t,.int (f:Int),.int (g:Int)])/\f∈bl c'/\g∈bl c'/\f≠g/\valV am (.inl ((cut2 c' f g:Nat):Int))=some vr:=by
      rcases en with⟨q,_⟩ | q
      .exact Nh q c0
      .exact q
     have flt:=og c8 hf;have cT:=og c8 hg;have cV:=s9 _ _ bZ;have c9:=s9 _ _ ha;have dg:DGet H9 tb (.int (c':Int)) (some (.ref a)):=by have:=DGet.k (k:=.inl ((c':Nat):Int)) cV;rw[hw]at this;exact this
     refine⟨_,rfl,_,rfl,tb,_,rfl,dg,a,_,1,_,rfl,rfl,SqT.of c9,a31,?_⟩;refine⟨_,rfl,_,rfl,tb,_,rfl,dg,a,_,2,_,rfl,rfl,SqT.of c9,a32,?_⟩;obtain⟨y,hy,tF,dz,du,TL,VL,rfl,dx,dy,da,fi⟩:=dm.2 f _ (ac f flt);have gl:=bo _ (Gv (ac g cT));have fl:=bo _ (Gv (ac f flt));have xg:=fi.is hc fl gl;obtain⟨j,up⟩:=fi.up _ _ xg;obtain⟨ks,db,kl⟩:=up.path;have sh:=up.short fi.vs;have vl:=fi.vl;obtain⟨j1,j2⟩:=db.join fi;refine⟨_,rfl,_,rfl,_,rfl,_,rfl,fa,_,_,_,rfl,rfl,SqL.of (s9 _ _ cW),aG hy,tF,_,1,_,rfl,rfl,SqT.of (s9 _ _ dx),at1,_,rfl,_,rfl,r,_,_,_,rfl,rfl,SqL.of (s9 _ _ dn),aG (show((bl mk).map iV)[g]?=some (V.int (((bl mk).getD g 0:Nat):Int)) by rw[GC,ac g cT];rfl),v,du,(bl mk).getD g 0,(bl mk).getD f 0,ls,VL,ks,rfl,dp.mono s9,s9 _ _ da,fi.vs,db,∅,λq dc co hq=>?_⟩
     refine⟨q,ks.reverse,rfl,SqL.of hq,λk l=>by have:=j1 k (IS.mp l);omega,_,_,rfl,rfl,?_⟩
     have ex:Mc (u:Int) ((iS ks.reverse:Nat):Int)=((u^^^iS ks:Nat):Int):=by rw[Ag,xorN]
     simp only[ex];refine⟨_,rfl,_,rfl,_,_,rfl,rfl,⟨∅,∅,by decide⟩,_,_,rfl,rfl,_,rfl,_,_,rfl,rfl,⟨∅,∅,by decide⟩,_,_,rfl,rfl,?_⟩
     have ec:Mc (Mc (c':Int) (1*2^((f:Nat):Int).toNat)) (1*2^((g:Nat):Int).toNat)=((cut2 c' f g:Nat):Int):=by rw[shlN,shlN,xorN,xorN];rfl
     simp only[ec];refine⟨⟨cut2 c' f g,u^^^iS ks,some (.int (f:Int)),some (.int (g:Int)),vr,rfl,s9.trans co,dt,Iq c7 (CO j1),?_⟩,?_⟩
     .rw[oddE_xor,ou,j2];unfold cut2;rw[BM,BM,BN,BN,Nf flt,Nf cT,HN,HN]
     .show((cut2 c' f g:Nat):Int).toNat<((c':Nat):Int).toNat;have:=Bw hf hg fg;omega
   .rintro O H9 Q1 Q2 hi ⟨v1,e1,e2,b,e3,q⟩;exact⟨v1,e1,e2,b,e3,hi _ _ q⟩
  .rintro i ws H5 ⟨_,hW⟩;rw[hW.1,Hs];omega
 .rintro i zs H3 ⟨_,_,hZ⟩;rw[hZ.1,Hs];omega
theorem Gb{k:Nat}(G:k<m):(bl ((2^m-1)^^^2^k)).length=m-1:=by
 have i:(bl ((2^m-1)^^^2^k)).Perm ((GW m).erase k):=by
  refine(oO _ _).trans ((vN (BH _) k).trans ?_);unfold tog;rw[Nf (Hk.mpr G)]
 rw[i.length_eq,KZ,Nf (Hk.mpr G),Hc]
def XL(l:List Nat):Nat:=l.foldr (λs m=>2^s^^^m) 0
theorem Ez:∀{l:List Nat},l.Nodup->∀ x,(XL l).testBit x=decide (x∈l)
 |[],_,x=>by rw[show XL []=0 from rfl,HP];simp
 |s::l,H,x=>by
  obtain⟨J,Y⟩:=Hj.mp H;show(2^s^^^XL l).testBit x=_;rw[HK,Hf,Ez Y x];by_cases c:s=x
  .subst c;simp[J]
  .have L:¬ x=s:=λz=>c z.symm
   simp[c,L]
theorem XL_bl(m:Nat):XL (bl m)=m:=HD λx=>by
 rw[Ez (bl_nd m)]
 cases h:m.testBit x with
 |true=>exact Mq (mem_bl.mpr h)
 |false=>exact LJ λz=>by rw[mem_bl.mp z]at h;cases h
structure TxtZ(mg:Str->Option Value):Prop extends Txt mg where
 n_zip:mg "zip" = none
def cQ(mk:Nat):Nat:=(bl mk).getD 0 0
theorem pE(h:mk<2^n)(n1:1<=n):cQ mk<n:=by
 unfold cQ;rw[GP]
 cases e:(bl mk)[0]? with
 |none=>exact n1
 |some x=>exact og h (Gv e)
theorem zj(h:mk<2^n)(n1:1<=n)(i:(bl mk).length%2=0)(L:(bl mk).length<=14):(mk^^^2^cQ mk)<2^n/\(bl (mk^^^2^cQ mk)).length<=14/\(bl (mk^^^2^cQ mk)).length%2=1/\1<=(bl (mk^^^2^cQ mk)).length:=by
 have C:=pE h n1;refine⟨Iq h (Hz (by decide) C),?_⟩
 have e:=(oO mk (cQ mk)).length_eq;rw[e];unfold tog;by_cases c:cQ mk∈bl mk
 .rw[Nf c,KZ,Nf c];have:0<(bl mk).length:=HU c;omega
 .rw[Ng c,GX];have O:(bl mk).length=0:=by
   cases z:bl mk with
   |nil=>rfl
   |cons x r =>
    refine Nh ?_ c;unfold cQ;rw[z];exact GN ..
  omega
def TdAt(n:Nat)(ls:List Lk)(H:Hp)(v:V)(s:Nat):Prop:=∃ T L c,v=.ref T/\H T=some (.lst (L.map oV))/\FI n ls s MM L c [] (λ_ _=>False)
theorem TdAt.lt{s:Nat}(h:TdAt n ls H v s)(k:∀ b xs,H b=some (.lst xs)->H' b=some (.lst xs)):TdAt n ls H' v s:=by
 obtain⟨T,L,c,e,J,Y⟩:=h;exact⟨T,L,c,e,k _ _ J,Y⟩
theorem DO{TT:Addr}(h:Tb lqF lpF TT H)(a:H tb=some (.dK kvs))(d:TbS tb H H'):Tb lqF lpF TT H':=mM h λb M=>by
 have G:∃ o,H b=some o/\b≠tb:=by
  rcases M with rfl | ⟨L,M⟩
  .rcases h with q | ⟨_,q,_⟩
   .exact⟨_,q,λz=>by rw[z,a]at q;cases q⟩
   .exact⟨_,q,λz=>by rw[z,a]at q;cases q⟩
  .exact⟨_,M,λz=>by rw[z,a]at M;cases M⟩
 obtain⟨o,J,Y⟩:=G;rw[J];exact d _ _ Y J
noncomputable def dO (ls:List Lk) (l:List Nat) (i j:Nat):Int:=farD ls (l.getD i 0) (l.getD j 0)
def RwO(ls:List Lk)(l:List Nat)(H:Hp)(v:V)(s:Nat):Prop:=∃ p,v=V.ref p/\H p=some (.lst (l.map λx=>V.int (farD ls s x)))
inductive yL(vs:List L2.V)(H:L2.Hp)(Q:L2.VK)(x3_:L2.XK):Prop
 |mk (mk:Nat) (h0_:vs = [.int (mk:Int)])(h1_:mk<1099511627776)(h2_:∀ H',Same H H'->Q (.int ((cQ mk:Nat):Int)) H')
inductive spHts(TT:Addr)(vs:List L2.V)(H:L2.Hp)(Q:L2.VK)(x3_:L2.XK):Prop
 |mk (v:V)(n mk:Nat)(ls:List Lk) (h0_:vs = [.int (n:Int),v,.int (mk:Int)])(h1_:LnAt H v ls)(h2_:Lok n ls)(h3_:1<=n)(h4_:Conn n ls)(h5_:mk<2^n)(h6_:(bl mk).length%2=0)(h7_:(bl mk).length<=14)(h8_:Tb lqF lpF TT H)(h9_:∀(p:Addr)(cs:List Int) H',SmT H H'->Tb lqF lpF TT H'->H' p=some (.lst (cs.map λc=>V.int (cs.getD (cQ mk) 0-c)))->cs.length=n->Q (.ref p) H')
theorem xf:aw ["marks"] ["marks"] (aq jK):=by ac_nf
theorem ok_root (F:Fun K "root_of" "root_of" jK f fd) (b:Cal P w K mg base 1 "bits" ["mask"] k7 a G):FnOk P w K mg base CX0 2 f fd ["marks"] yL:=by
 refine F.ok xf (by walk_at "l") λd A I s H M Q E B h=>?_
 obtain⟨mk,rfl,m,k⟩:=h;refine⟨_,(ak (aF (fQ (aB jR (pv 0) aj (aC _)) (bH (b.c B (ae (pv 0) ah)) aj) aj))),?_⟩;refine⟨_,rfl,rfl,_,rfl,?_⟩;by_cases c0:mk=0
 .subst c0;refine uN rfl ?_;have e:cQ 0=0:=by unfold cQ;rw[BF];rfl
  have:=k H λ_ _ e=>e;rw[e]at this;exact this
 .refine ite2 (λ_=>?_) (λz=>Nh (by rw[LJ (λy=>c0 (by have:=V.int.inj y;omega))];rfl) z)
  refine⟨_,rfl,(mk:Int),rfl,∅,∅,λr l g _ i=>?_⟩
  rw[GA]at i;obtain⟨x,L⟩:∃ x,(bl mk)[0]?=some x:=by
   cases z:(bl mk)[0]? with
   |some x=>exact⟨x,rfl⟩
   |none =>
    have:bl mk = []:=by rw[List.getElem?_eq_none_iff]at z;exact Je ∅
    have Y:=XL_bl mk;rw[this]at Y;exact Nh Y.symm c0
  have e:cQ mk=x:=by unfold cQ;rw[GP,L];rfl
  have n:atI ((bl mk).map iV) 0=some (iV x):=aG (j:=0) (by rw[GC,L];rfl)
  have:=k l g;rw[e]at this;exact⟨r,_,_,_,rfl,rfl,SqL.of i,n,this⟩
theorem bA:aw ["many","links","marks","root","others","found","between","table","everyone","rests","costs","room"] ["many","links","marks"] (aq jN):=by ac_nf
theorem ok_hts{TT f3 f4 f5 f6 f8:Addr}{bB bY cT cV cW:FuncData} (F:Fun K "heights" "heights" jN f fd) (T:TxtZ mg) (aL:Cal P w K mg base 4 "refuse_marks" ["many","links","marks"] EU a G) (ap:Cal P w K mg base 1 "bits" ["mask"] k7 I Y) (bd:Cal P w K mg base 2 "fares" ["many","links","start"] (spFares TT) f3 bB)
  (aS:Cal P w K mg base 1 "chosen_of" ["entries","numbers"] oW f4 bY) (aT:Cal P w K mg base 1 "new_table" [] tO f5 cT) (GL:∀(D:Nat->Nat->Int)(m:Nat),Cal P w K mg base 10 "laid_in_pairs" ["between","chosen","table"] (spLaid D m 8) f6 cV)
  (a5:Cal P w K mg base 2 "root_of" ["marks"] yL f8 cW):FnOk P w K mg base CX0 11 f fd ["many","links","marks"] (spHts TT):=by
 refine F.ok bA (by walk_at "l") λab A aa s H vs Q E B h=>?_
 obtain⟨v,n,mk,ls,rfl,hV,ok,n1,hc,bb,ev,al,bm,kk⟩:=h;have hu:=sf B;have a9:=ok.n1;have dn:=ok.l9;obtain⟨l,el⟩:∃ l,l=bl (mk^^^2^cQ mk):=⟨_,rfl⟩;obtain⟨ob,da,o2,o1⟩:=zj bb n1 ev al;rw[← el]at da o2 o1;have nd:l.Nodup:=by rw[el];exact bl_nd _
 have bo:∀ x∈l,x<n:=λx L=>by rw[el]at L;exact og ob L
 have an:=GL (dO ls l) l.length;have cK:(2:Nat)^40=1099511627776:=by decide
 have J:2^n<=2^40:=HC (by decide) a9
 have cd:mk<1099511627776:=by omega
 have rn:=pE bb n1
 refine⟨_,(ag (aP (aL.c B (ae (pv 0) (ae (pv 1) (ae (pv 2) ah)))))
   (ag (ay 3 bA.nd (a5.c B (ae (pv 2) ah)))
   (ag (ay 4 bA.nd (ap.c B (ae (av dh (pv 2) (av bF aj (pv 3))) ah)))
   (ag (mY 5 [("many",0),("links",1)] ["room"] bA.nd (aU (pv 4)) pg_c pt_c (λC ex s H=>(nW K (bd.c B (ae (pv 1) (ae (pv 2) (ae (pv 0) ah)))) aj)))
   (ag (ay 6 bA.nd (dU [("others",4)] ["told"] (aU (pv 5)) pg_c pt_c (λC ex s H=>(aS.c B (ae (pv 0) (ae (pv 1) ah))))))
   (ag (ay 7 bA.nd (aT.d B))
   (ag (ay 8 bA.nd (av iW (av bF aj (aD aA (by rfl) T.n_len bT (ae (pv 4) ah))) aj))
   (ag (mY 9 [("table",7),("everyone",8),("between",6)] ["number"] bA.nd (aZ rfl T.n_range (ae (aD aA (by rfl) T.n_len bT (ae (pv 4) ah)) ah)) pg_c pt_c (λC ex s H=>(nW K (an.c B (ae (pv 3) (ae (av dh (pv 2) (av bF aj (pv 0))) (ae (pv 1) ah)))) aj)))
   (ag (ay 10 bA.nd (bN ah))
   (ag (bM PassesOwn.never rfl (aZ rfl T.n_range (ae (pv 0) ah)) (cJ 11 bA.nd) (ak (aP (dW GZ G9 G8 aQ (pv 10) (ae (aD (BB rfl) (by rfl) T.n_min BE (ae (dU [("room",11)] ["told","rest"] (zH rfl T.n_zip (ae (pv 5) (ae (pv 9) ah))) (λC ex s H=>(dv (n:=2) (K:=K) rfl rfl (aE (aV (i:=0) (show(["told","rest","room"]:List Str).Nodup from by decide) rfl (Or.inl rfl)) (aE (aV (i:=1) (show(["told","rest","room"]:List Str).Nodup from by decide) rfl (Or.inl rfl)) bC)))) pt_c (λC ex s H=>(av b9 (zM K (pv 0) (pv 2)) (pv 1)))) ah)) ah)))))
   (ak (aF (dU [("root",3),("costs",10)] ["cost"] (aU (pv 10)) pg_c pt_c (λC ex s H=>(av iW (zM K (pv 2) (pv 1)) (pv 0)))))))))))))))),?_⟩
 refine⟨_,rfl,_,rfl,_,rfl,v,n,mk,ls,rfl,hV,ok,n1,hc,bb,ev,al,λH1 s1=>?_⟩;refine⟨_,rfl,mk,rfl,cd,λdz dr=>?_⟩;have ex:Mc (mk:Int) (1*2^((cQ mk:Nat):Int).toNat)=((mk^^^2^cQ mk:Nat):Int):=by rw[shlN,xorN]
 refine⟨_,rfl,_,rfl,_,_,rfl,rfl,⟨∅,∅,by decide⟩,_,_,rfl,rfl,?_⟩
 simp only[ex];refine⟨((mk^^^2^cQ mk:Nat):Int),rfl,∅,∅,λr N s2 cc a7=>?_⟩
 rw[GA]at a7;have be:N r=some (.lst (l.map iV)):=by rw[el];exact a7
 have aO:=s1.trans (dr.trans s2);have ch:=tb_same bm aO;have a6:(l.map iV).length=l.length:=Gu ..;refine⟨_,rfl,r,rfl,⟨_,SqL.of be⟩,cD (K:=K) (xs:=l.map iV) (λi zs H3=>SmT N H3/\Tb lqF lpF TT H3/\LsAt (TdAt n ls) H3 zs (l.take i)) (G6 (ar ∅)) ⟨λ_ _ _ e=>e,ch,LsAt.nil⟩ (λi zs H3 _ z=>SqL.of (z.1.lst be)) ?_ ?_ ?_⟩
 .rintro i x zs H3 L ⟨bD,bg,hZ⟩;rw[GC]at L;obtain⟨k,u,rfl⟩:=G5.mp L;refine⟨rfl,yesT ⟨_,rfl,_,rfl,_,rfl,v,n,k,ls,rfl,LnAt.smT (hV.mono aO) bD,ok,bo k (Gv u),bg,λt ta va TL VL H4 ba a2 _ _ ht aR a0 fi=>?_⟩⟩;have bQ:=TbS.smT ba bg;refine⟨t,_,0,_,rfl,rfl,SqT.of ht,at0,bD.trans bQ,a2,?_⟩;rw[He,u];exact(hZ.imp λ_ _ q=>q.lt λ_ _ e=>bQ.lst e).snoc ⟨ta,TL,VL,rfl,aR,fi⟩
 .rintro zs H3 ⟨bD,bg,hZ⟩ fa bR;rw[a6,Hi]at hZ;have z4:=ai bR (.lst zs);have bi:SmT N (upd H3 fa (.lst zs)):=bD.trans (.of z4);have a2:=tb_same bg z4;have bP:LsAt (TdAt n ls) (upd H3 fa (.lst zs)) zs l:=hZ.imp λ_ _ q=>q.lt λ_ _ e=>z4 _ _ e;have a3:(upd H3 fa (.lst zs)) fa=some (.lst zs):=af;generalize upd H3 fa (.lst zs)=H4 at bi a2 bP a3;have zl:=bP.1;have bu:=bi.lst be;have ac:∀ i,i<l.length->l[i]?=some (l.getD i 0):=λi g=>by rw[GP,Gs g];rfl
  refine⟨_,rfl,fa,rfl,⟨_,SqL.of a3⟩,cC (K:=K) (xs:=zs) (λi ws H5=>Same H4 H5/\LsAt (RwO ls l) H5 ws (l.take i)) (G6 (ar ∅)) ⟨λ_ _ e=>e,LsAt.nil⟩ (λi ws H5 _ z=>SqL.of (z.1 _ _ a3)) ?_ ?_⟩
  .rintro i x ws H5 L ⟨s5,hW⟩;obtain⟨s0,bn,ta,TL,VL,rfl,aR,fi⟩:=bP.get L;have ci:=bo s0 (Gv bn);refine⟨_,rfl,_,rfl,ta,r,_,l.map λx=>V.int (farD ls s0 x),l,rfl,s5 _ _ aR,s5 _ _ bu,Gu ..,∅,λj k u=>?_,λq H6 s6 dp hq=>?_⟩
   .refine⟨.int (farD ls s0 k),?_,by rw[GC,u];rfl⟩
    exact uv (fi.is hc ci (bo k (Gv u)))
   .refine⟨s5.trans s6,?_⟩;rw[He,bn];exact(hW.imp λ_ _ ⟨p,e,z⟩=>⟨p,e,s6 _ _ z⟩).snoc ⟨q,rfl,hq⟩
  .rintro ws H5 _ ⟨s5,hW⟩ bv c7;rw[zl,Hi]at hW;have z6:=ai c7 (.lst ws);refine⟨rfl,λtb t0 H7 s7 ck a1 b0=>?_⟩;have a4:Same H4 H7:=s5.trans (z6.trans s7);have c8:LsAt (RwO ls l) H7 ws l:=hW.imp λ_ _ ⟨p,e,z⟩=>⟨p,e,s7 _ _ (z6 _ _ z)⟩;have cn:H7 bv=some (.lst ws):=s7 _ _ af
   have bt:BtAt H7 (.ref bv) (dO ls l) l.length:=⟨bv,ws,rfl,cn,λi g=>by
    obtain⟨y,hy,p,rfl,M⟩:=c8.2 i _ (ac i g)
    exact⟨p,_,hy,M,λk u=>by rw[GC,ac k u];rfl⟩⟩
   have ti:TI H7 (dO ls l) l.length [(.inl ((0:Nat):Int),.ref t0)]:=⟨(λk w e=>by
    by_cases c:(Sum.inl ((0:Nat):Int):Key)=k
    .rw[bc c]at e
     cases e
     exact⟨0,c.symm,HQ _,.inl ⟨rfl,t0,_,_,rfl,b0⟩⟩
    .rw[bf c]at e
     cases e),⟨_,bc rfl⟩,Hj.mpr ⟨(by simp),IW⟩⟩
   have co:=a4 _ _ bu;have bU:=tb_same a2 a4;have eL:(1:Int)*2^(((l.map iV).length:Nat):Int).toNat-1=((2^l.length-1:Nat):Int):=by
    rw[a6,shlN];have:=HQ l.length;omega
   refine⟨_,rfl,r,_,rfl,.inl (SqL.of co),_,_,rfl,rfl,⟨∅,by rw[a6];omega,by decide⟩,_,_,rfl,rfl,?_⟩
   simp only[eL];refine⟨_,rfl,r,_,rfl,.inl (SqL.of co),_,rfl,∅,∅,gn (k:=(l.map iV).length) (λi ys H9=>∃(aI:List (Key×V))(js:List Int),TbS tb H7 H9/\H9 tb=some (.dK aI)/\TI H9 (dO ls l) l.length aI/\ys=js.map V.int/\js.length=i) (G6 (ar ∅)) ⟨_,[],λ_ _ _ e=>e,a1,ti,rfl,rfl⟩ ?_ ?_ ?_⟩
   .rintro i ys H9 g ⟨aI,js,sT,cL,db,rfl,jl⟩;rw[a6]at g;have e0:(0:Int)+(i:Int)=(i:Int):=IF _;rw[e0];have c9:Mc ((2^l.length-1:Nat):Int) (1*2^((i:Nat):Int).toNat)=(((2^l.length-1)^^^2^i:Nat):Int):=by rw[shlN,xorN]
    refine⟨rfl,yesT ⟨_,rfl,_,rfl,_,rfl,_,_,rfl,rfl,⟨∅,∅,by decide⟩,_,_,rfl,rfl,?_⟩⟩
    simp only[c9];have dc:=Gb g;have p2:=HQ l.length;refine⟨_,rfl,.ref bv,tb,(2^l.length-1)^^^2^i,aI,rfl,bt.mono a1 sT,cL,db,Iq ∅ (Hz (by decide) g),da,by rw[dc];omega,by rw[dc];omega,λw t am H8 ds b6 cb gr hv cv=>?_⟩
    obtain⟨va,y,z,rfl,a0⟩:=id cv;refine⟨va,_,0,_,rfl,rfl,SqT.of a0,a30,am,js++[t],λb o n e=>ds b o n (sT b o n e),b6,cb,by rw[GK];rfl,by rw[Gx,jl];rfl⟩
   .rintro ys H9 ⟨aI,js,sT,cL,db,rfl,jl⟩ ra dt;rw[a6]at jl;have cM:=LT.tbS sT a1;have du:=DO bU a1 sT;have zA:=ai dt (.lst (js.map V.int));have cp:upd H9 ra (.lst (js.map V.int)) ra=some (.lst (js.map V.int)):=af
    have bZ:SmT H (upd H9 ra (.lst (js.map V.int))):=(show SmT H H9 from λb o no e=>by
     have e4:=bi b o no (aO _ _ e);refine sT _ _ (λz=>?_) (a4 _ _ e4);subst z
     rw[dP (s5.trans z6) ck]at e4;cases e4).trans (.of zA)
    have dd:=tb_same du zA;have ct:upd H9 ra (.lst (js.map V.int)) fa=some (.lst zs):=zA _ _ (cM.1 _ _ (a4 _ _ a3));have df:LsAt (TdAt n ls) (upd H9 ra (.lst (js.map V.int))) zs l:=bP.imp λ_ _ q=>q.lt λ_ _ e=>zA _ _ (cM.1 _ _ (a4 _ _ e));generalize upd H9 ra (.lst (js.map V.int))=HA at cp bZ dd ct df;refine⟨(by show 0<=LK;decide),λca dg=>?_⟩
    have zB:=ai dg (.lst []);refine⟨_,rfl,_,rfl,∅,∅,fq (n:=n) (λi O H3=>∃(ce:Option V)(cs:List Int),O = [some (.int (n:Int)),some v,some (.int (mk:Int)),some (.int ((cQ mk:Nat):Int)),some (.ref r),some (.ref fa),some (.ref bv),some (.ref tb),some (.int ((2^l.length-1:Nat):Int)),some (.ref ra),some (.ref ca),ce]/\Same HA H3/\H3 ca=some (.lst (cs.map V.int))/\cs.length=i) ⟨_,[],rfl,zB,af,rfl⟩ ?_ ?_⟩
    .rintro i O H3 g ⟨ce,cs,rfl,s3,bx,cl⟩;have e0:(0:Int)+(i:Int)=(i:Int):=IF _;rw[e0];refine⟨_,rfl,.inl ⟨rfl,_,SqL.of bx⟩,_,rfl,_,rfl,fa,ra,rfl,⟨_,SqL.of (s3 _ _ ct)⟩,⟨_,SqL.of (s3 _ _ cp)⟩,sN (K:=K) (xs:=zs) (zs:=js.map V.int) (λj ys H5=>Same H3 H5/\ys=((GW j).map λk=>farD ls (l.getD k 0) i+js.getD k 0).map V.int) (G6 (ar ∅)) (by rw[Gu];omega) ⟨λ_ _ e=>e,rfl⟩ (λj ys H5 _ z=>⟨SqL.of (z.1 _ _ (s3 _ _ ct)),SqL.of (z.1 _ _ (s3 _ _ cp))⟩) ?_ ?_ ?_⟩
     .rintro j x z ys H5 T5 L hz ⟨cw,rfl⟩ dx;obtain⟨s0,bn,ta,TL,VL,rfl,aR,fi⟩:=df.get L;have ci:=bo s0 (Gv bn);have di:j<js.length:=by
       have:=(Gn.mp hz).1;rw[Gu]at this;exact this
      have ez:z=.int (js.getD j 0):=by
       rw[GC,Gs di]at hz
       cases hz
       rw[GP,Gs di];rfl
      subst ez;have dy:s0=l.getD j 0:=by rw[GP,bn];rfl
      have s6:=ai dx (.tup [.ref ta,.int (js.getD j 0)]);refine⟨T5,_,rfl,SqT.of af,rfl,_,_,rfl,_,_,rfl,rfl,rfl,yesT ⟨_,rfl,_,rfl,ta,_,_,_,rfl,rfl,SqL.of (s6 _ _ (cw _ _ (s3 _ _ aR))),aG (uv (fi.is hc ci g)),_,rfl,_,_,rfl,rfl,cw.trans s6,?_⟩⟩;rw[ID,GK,GK,dy];rfl
     .rintro ys H5 ⟨cw,rfl⟩ q hq;have zq:=ai hq (.lst (((GW zs.length).map λk=>farD ls (l.getD k 0) i+js.getD k 0).map V.int));refine⟨q,_,rfl,SqL.of af,by rw[Gu,Hc,zl];omega,λm dC cA=>?_⟩
      have dj:=zq _ _ (cw _ _ bx);refine⟨ca,_,_,rfl,rfl,dj,ar (by rw[Gu];omega),?_⟩
      refine⟨_,cs++[m],rfl,aH (s3.trans (cw.trans zq)) dg _,by rw[af,GK];rfl,by rw[Gx,cl];rfl⟩
     .rintro j ys H5 ⟨_,rfl⟩;rw[Gu,Gu,Hc];exact Gy _
    .rintro O H3 ⟨ce,cs,rfl,s3,bx,cl⟩;have dm:∀ k,k<n->(cs.map V.int)[k]?=some (.int (cs.getD k 0)):=λk u=>by rw[GC,GP,Gs ∅];rfl
     refine⟨_,rfl,ca,rfl,⟨_,SqL.of bx⟩,cD (K:=K) (xs:=cs.map V.int) (λi zs H4=>H4=H3/\zs=(cs.take i).map λc=>V.int (cs.getD (cQ mk) 0-c)) (G6 (ar (by rw[Gu];omega))) ⟨rfl,rfl⟩ (λi zs H4 _ z=>by rw[z.1];exact SqL.of bx) ?_ ?_ ?_⟩
     .rintro i x zs H4 L ⟨rfl,rfl⟩;rw[GC]at L;obtain⟨k,u,rfl⟩:=G5.mp L;refine⟨rfl,yesT ⟨_,rfl,_,rfl,ca,_,_,_,rfl,rfl,SqL.of bx,aG (dm _ rn),_,rfl,_,_,rfl,rfl,rfl,?_⟩⟩;rw[He,u,GK];rfl
     .rintro zs H4 ⟨rfl,rfl⟩ p M;rw[Gu,Hi];have zp:=ai M (.lst (cs.map λc=>V.int (cs.getD (cQ mk) 0-c)));refine kk p cs _ (bZ.trans (.of (s3.trans zp))) (tb_same dd (s3.trans zp)) af cl
     .rintro i zs H4 ⟨_,rfl⟩;rw[Gu,Hs];omega
   .rintro i ys H9 ⟨aI,js,_,_,_,rfl,jl⟩;rw[Gu,jl];exact Gy _
 .rintro i zs H3 ⟨_,_,hZ⟩;rw[hZ.1,Hs];omega
structure TxtH(mg:Str->Option Value):Prop extends TxtZ mg where
 n_reversed:mg "reversed" = none
 n_sorted:mg "sorted" = none
 n_set:mg "set" = none
abbrev Pr:=Int×Int
def bt(u:Int)(i:Nat):Bool:=decide (Ma (u/2^((i:Nat):Int).toNat) 1=1)
def stepE(e:Int)(l:Lk):Int:=Mc (Mc e (1*2^((l.1:Nat):Int).toNat)) (1*2^((l.2.1:Nat):Int).toNat)
def qA(u:Int)(ls:List Lk):Nat->Int
 |0=>0
 |i+1=>if bt u i=true then stepE (qA u ls i) (lkA ls i) else qA u ls i
def qM(u:Int)(ls:List Lk):Nat->Int
 |0=>0
 |i+1=>if bt u i=true then qM u ls i+(lkA ls i).2.2 else qM u ls i
def jB(ls:List Lk)(m:Nat)(u:Int):Bool:=decide (u/2^((ls.length:Nat):Int).toNat=0)&&decide (qA u ls ls.length=(m:Int))
def cB(n m:Nat)(p:Pr):Bool:=decide (0<=p.1)&&(decide (p.1/2^((n:Nat):Int).toNat=0)&&(decide ((bl (p.1.toNat&&&m)).length%2=1)&&decide (1<=p.2)))
def pT(a b:Nat)(p:Pr):Bool:=decide (Ma (Mc (p.1/2^((a:Nat):Int).toNat) (p.1/2^((b:Nat):Int).toNat)) 1=1)
def paidF(r:List Pr)(a b:Nat):Int:=((r.filter (pT a b)).map (·.2)).sum
def lB(r:List Pr)(l:Lk):Bool:=decide (paidF r l.1 l.2.1<=2*l.2.2)
def exB(n m:Nat)(ls:List Lk)(u:Int)(r:List Pr):Bool:=jB ls m u&&(r.all (cB n m)&&(ls.all (lB r)&&decide ((r.map (·.2)).sum=2*qM u ls ls.length)))
def PrAt(H:Hp)(v:V)(p:Pr):Prop:=∃ t,v=.ref t/\H t=some (.tup [.int p.1,.int p.2])
def PpAt(H:Hp)(v:V)(r:List Pr):Prop:=∃ a d,v=.ref a/\H a=some (.lst d)/\LsAt PrAt H d r
theorem PrAt.mono{p:Pr}(h:PrAt H v p)(s:Same H H'):PrAt H' v p:=by
 obtain⟨t,e,z⟩:=h;exact⟨t,e,s _ _ z⟩
theorem PpAt.mono{H H':Hp}{v:V}{r:List Pr}(h:PpAt H v r)(s:Same H H'):PpAt H' v r:=by
 obtain⟨a,d,e,z,l⟩:=h;exact⟨a,d,e,s _ _ z,l.imp λ_ _ q=>q.mono s⟩
theorem big3{k:Nat}(h:k<=3000):k<=LK:=Hy h (by decide)
structure TxtE(mg:Str->Option Value):Prop extends TxtH mg where
 n_sum:mg "sum" = none
 n_all:mg "all" = none
 n_max:mg "max" = none
inductive yS(vs:List L2.V)(H:L2.Hp)(Q:L2.VK)(x3_:L2.XK):Prop
 |mk (v:V)(u:Int)(ls:List Lk)(n:Nat) (h0_:vs = [v,.int u])(h1_:LnAt H v ls)(h2_:Lok n ls)(h3_:∀ H',Same H H'->Q (.int (qA u ls ls.length)) H')
inductive yR(vs:List L2.V)(H:L2.Hp)(Q:L2.VK)(x3_:L2.XK):Prop
 |mk (v:V)(m:Nat)(u:Int)(ls:List Lk)(n:Nat) (h0_:vs = [v,.int (m:Int),.int u])(h1_:LnAt H v ls)(h2_:Lok n ls)(h3_:∀ H',Same H H'->Q (.bl (jB ls m u)) H')
inductive vR(vs:List L2.V)(H:L2.Hp)(Q:L2.VK)(x3_:L2.XK):Prop
 |mk (n m:Nat)(p:Pr) (h0_:vs = [.int (n:Int),.int (m:Int),.int p.1,.int p.2])(h1_:n<=40)(h2_:∀ H',Same H H'->Q (.bl (cB n m p)) H')
inductive DW(vs:List L2.V)(H:L2.Hp)(Q:L2.VK)(x3_:L2.XK):Prop
 |mk (v pv:V)(l:Lk)(r:List Pr) (h0_:vs = [v,pv])(h1_:LkAt H v l)(h2_:PpAt H pv r)(h3_:r.length<=3000)(h4_:∀ H',Same H H'->Q (.int (paidF r l.1 l.2.1)) H')
inductive yT(vs:List L2.V)(H:L2.Hp)(Q:L2.VK)(x3_:L2.XK):Prop
 |mk (v:V)(u:Int)(ls:List Lk) (h0_:vs = [v,.int u])(h1_:LnAt H v ls)(h2_:ls.length<=60)(h3_:∀ H',Same H H'->Q (.int (qM u ls ls.length)) H')
inductive spExam(vs:List L2.V)(H:L2.Hp)(Q:L2.VK)(x3_:L2.XK):Prop
 |mk (n m:Nat)(lv pv:V)(u:Int)(ls:List Lk)(r:List Pr) (h0_:vs = [.int (n:Int),lv,.int (m:Int),.int u,pv])(h1_:LnAt H lv ls)(h2_:PpAt H pv r)(h3_:Lok n ls)(h4_:r.length<=3000)(h5_:∀ H',Same H H'->Q (.bl (exB n m ls u r)) H')
theorem dN:aw ["links","used","rooms","number","link"] ["links","used"] (aq iC):=by ac_nf
theorem ok_endsX (F:Fun K "odd_ends" "odd_ends" iC f fd) (T:TxtE mg):FnOk P w K mg base CX0 1 f fd ["links","used"] yS:=by
 refine F.ok dN (by walk_at "l") λt A I s H Y Q E B h=>?_
 obtain⟨v,u,J,n,rfl,⟨a,d,rfl,D,g⟩,ok,y⟩:=h;have o:=ok.n1
 refine⟨_,(ag (ay 2 dN.nd aj)
   (ag (bM PassesOwn.never rfl (fO rfl T.n_enumerate (ae (pv 0) ah)) (mZ rfl (aE (cJ 3 dN.nd) (aE (cJ 4 dN.nd) bC))) (ak (bG (aB cj (av gM (av eG (pv 1) (pv 3)) aj) aj (aC _)) (ak (ay 2 dN.nd (av dh (av dh (pv 2) (av bF aj (dw (pv 4) aj))) (av bF aj (dw (pv 4) aj))))) aJ)))
   (ak (aF (pv 2))))),?_⟩
 refine⟨_,rfl,a,rfl,⟨_,SqL.of D⟩,mE (K:=K) (xs:=d) (λi O N=>∃ M k,O = [some (.ref a),some (.int u),some (.int (qA u J i)),M,k]/\Same H N) ⟨_,_,rfl,λ_ _ e=>e⟩ (λi O N _ z=>?_) ?_ ?_⟩
 .obtain⟨_,_,_,b⟩:=z;exact SqL.of (b _ _ D)
 .rintro i x O N r L ⟨M,k,rfl,b⟩ q;obtain⟨l,C,p,rfl,j⟩:=g.get L;obtain⟨b1,b2⟩:=ok.sm l (Gv C);have m:Same H (upd N r (.tup [.int (i:Int),.ref p])):=b.trans (ai q _);refine⟨r,_,rfl,SqT.of af,rfl,_,_,rfl,_,_,rfl,rfl,?_⟩;refine⟨_,rfl,_,rfl,_,_,rfl,rfl,(show(0:Int)<=(i:Int) by omega),_,_,rfl,rfl,rfl,_,rfl,?_⟩
  refine ite2 (λc=>?_) (λc=>?_)
  .have G:bt u i=true:=Mq (V.int.inj (MZ c))
   refine⟨_,rfl,_,rfl,p,_,0,_,rfl,rfl,SqT.of (m _ _ j),a30,_,_,rfl,rfl,⟨∅,∅,by decide⟩,_,_,rfl,rfl,_,rfl,p,_,1,_,rfl,rfl,SqT.of (m _ _ j),a31,_,_,rfl,rfl,⟨∅,∅,by decide⟩,_,_,rfl,rfl,?_⟩
   refine⟨some (.int (i:Int)),some (.ref p),?_,m⟩;rw[qA,Nf G,lkA_is C];rfl
  .have G:¬ bt u i=true:=λz=>c (Mq (congrArg V.int (MZ z)))
   refine⟨some (.int (i:Int)),some (.ref p),?_,m⟩;rw[qA,Ng G];rfl
 .rintro O N ⟨M,k,rfl,b⟩;refine⟨_,rfl,?_⟩;rw[g.1];exact y N b
theorem B6:aw ["links","marks","used"] ["links","marks","used"] (aq pB):=by ac_nf
theorem ok_joins (F:Fun K "joins" "joins" pB f fd) (T:TxtE mg) (b:Cal P w K mg base 1 "odd_ends" ["links","used"] yS p G):FnOk P w K mg base CX0 2 f fd ["links","marks","used"] yR:=by
 refine F.ok B6 (by walk_at "l") λt A I s H Y Q E B h=>?_
 obtain⟨v,m,u,J,n,rfl,i,ok,y⟩:=h;obtain⟨a,d,rfl,D,j⟩:=id i;refine⟨_,(ak (aF (oy (bO cj (av eG (pv 2) (aD aA (by rfl) T.n_len bT (ae (pv 0) ah))) aj (aC _)) (wx (bO cj (b.c B (ae (pv 0) (ae (pv 2) ah))) (pv 1) (aC _)))))),?_⟩
 have O:=oG (u/2^((d.length:Nat):Int).toNat) 0;rw[j.1]at O;refine⟨_,rfl,_,rfl,a,_,rfl,.inl (SqL.of D),_,_,rfl,rfl,(show(0:Int)<=((d.length:Nat):Int) by omega),rfl,_,rfl,?_⟩
 rw[j.1];refine ite2 (λc=>?_) (λc=>?_)
 .have L:=V.int.inj (MZ c)
  refine⟨_,rfl,_,rfl,.ref a,u,J,n,rfl,i,ok,λl g=>⟨_,rfl,rfl,?_⟩⟩;have:=y l g;unfold jB at this;rw[Mq L,Ht]at this;rw[oG];exact this
 .have L:¬ u/2^((J.length:Nat):Int).toNat=0:=λz=>c (Mq (congrArg V.int z))
  have:=y H (λ_ _ e=>e);unfold jB at this;rw[LJ L,HM]at this;exact this
theorem y9:aw ["many","marks","rooms","price"] ["many","marks","rooms","price"] (aq l4):=by ac_nf
theorem ok_counts (F:Fun K "counts" "counts" l4 f fd) (O:Cal P w K mg base 3 "odd" ["mask"] EV a G):FnOk P w K mg base CX0 4 f fd ["many","marks","rooms","price"] vR:=by
 refine F.ok y9 (by walk_at "l") λt A I s H M Q E B h=>?_
 obtain⟨n,m,p,rfl,T,k⟩:=h;obtain⟨x,y⟩:=p;refine⟨_,(ak (aF (oy (bO Cm (pv 2) aj (aC _)) (oy (bO cj (av eG (pv 2) (pv 0)) aj (aC _)) (oy (bO cj (O.c B (ae (av gM (pv 2) (pv 1)) ah)) aj (aC _)) (wx (bO Cm (pv 3) aj (aC _)))))))),?_⟩;refine⟨_,rfl,_,_,rfl,rfl,_,rfl,?_⟩;refine ite2 (λc=>?_) (λc=>?_)
 .have L:0<=x:=MZ c
  refine⟨_,rfl,_,rfl,_,_,rfl,rfl,(show(0:Int)<=(n:Int) by omega),rfl,_,rfl,?_⟩
  refine ite2 (λd=>?_) (λd=>?_)
  .have j:x/2^((n:Nat):Int).toNat=0:=V.int.inj (MZ d)
   obtain⟨o,rfl⟩:∃ o:Nat,x=(o:Int):=⟨x.toNat,∅⟩
   have b:Ma (o:Int) (m:Int)=((o&&&m:Nat):Int):=by
    rw[PyProof.Rows.bitAnd_pp (IV _) (IV _),GA,GA]
   have lt:o&&&m<2^40:=by
    have J:o&&&m<=o:=Nat.and_le_left;have Y:o<2^n:=by
     rw[GA]at j;have d2:o/2^n=0:=by
      have:((o/2^n:Nat):Int)=0:=by push_cast;exact j
      omega
     have q:0<2^n:=Nat.pow_pos (by decide)
     rcases Nat.div_eq_zero_iff.mp d2 with h | h
     .omega
     .exact h
    have u:2^n<=2^40:=HC (by decide) T
    omega
   refine⟨_,rfl,_,rfl,_,_,rfl,rfl,o&&&m,by show[V.int (Ma (o:Int) (m:Int))]=_;rw[b],lt,λl g=>⟨rfl,_,rfl,?_⟩⟩
   refine ite2 (λe=>?_) (λe=>?_)
   .have i:(bl (o&&&m)).length%2=1:=by have:=V.int.inj (MZ e);omega
    refine⟨_,rfl,_,_,rfl,rfl,?_⟩;have:=k l g;unfold cB at this;rw[Mq L,Mq j,GA,Mq i,Ht,Ht,Ht]at this;exact this
   .have i:¬ (bl (o&&&m)).length%2=1:=λz=>e (Mq (congrArg V.int ∅))
    have:=k l g;unfold cB at this;rw[Mq L,Mq j,GA,LJ i,Ht,Ht,HM]at this;exact this
  .have j:¬ x/2^((n:Nat):Int).toNat=0:=λz=>d (Mq (congrArg V.int z))
   have:=k H (λ_ _ e=>e);unfold cB at this;rw[Mq L,LJ j,Ht,HM]at this;exact this
 .have L:¬ 0<=x:=λz=>c (Mq z)
  have:=k H (λ_ _ e=>e);unfold cB at this;rw[LJ L,HM]at this;exact this
theorem rD:aw ["link","paper"] ["link","paper"] (aq fJ):=by ac_nf
theorem ok_paid (F:Fun K "paid_over" "paid_over" fJ f fd) (T:TxtE mg):FnOk P w K mg base CX0 1 f fd ["link","paper"] DW:=by
 refine F.ok rD (by walk_at "l") λJ A I s H Y Q E B h=>?_
 obtain⟨v,pv,l,r,rfl,⟨t,rfl,O⟩,⟨a,d,rfl,u,g⟩,aa,y⟩:=h;have b:=g.1;refine⟨_,(ak (aF (aD (mG rfl) (by rfl) T.n_sum sQ (ae (dU [("link",0)] ["rooms","price"] (aU (pv 1)) (λC k s H=>(dv (n:=2) (K:=K) rfl rfl (aE (aV (i:=0) (show(["rooms","price","link"]:List Str).Nodup from by decide) rfl (Or.inl rfl)) (aE (aV (i:=1) (show(["rooms","price","link"]:List Str).Nodup from by decide) rfl (Or.inl rfl)) bC)))) (λC k s H=>(kL (aB cj (av gM (av dh (av eG (pv 0) (nW K (pv 2) aj)) (av eG (pv 0) (nW K (pv 2) aj))) aj) aj (aC _)))) (λC k s H=>(pv 1))) ah)))),?_⟩
 refine⟨_,rfl,a,rfl,⟨_,SqL.of u⟩,cD (K:=K) (xs:=d) (λi M N=>N=H/\M=(((r.take i).filter (pT l.1 l.2.1)).map (·.2)).map V.int) (big3 ∅) ⟨rfl,rfl⟩ (λi M N _ z=>by rw[z.1];exact SqL.of u) ?_ ?_ ?_⟩
 .rintro i x M N L ⟨rfl,rfl⟩;obtain⟨p,j,q,rfl,m⟩:=g.get L;have o:r.take (i+1)=r.take i++[p]:=by rw[He,j];rfl
  refine⟨q,_,rfl,SqT.of m,rfl,_,_,rfl,_,_,rfl,rfl,rfl,?_⟩;refine⟨_,rfl,_,rfl,t,_,0,_,rfl,rfl,SqT.of O,a30,_,_,rfl,rfl,(show(0:Int)<=(l.1:Int) by omega),_,rfl,_,rfl,t,_,1,_,rfl,rfl,SqT.of O,a31,_,_,rfl,rfl,(show(0:Int)<=(l.2.1:Int) by omega),_,_,rfl,rfl,_,_,rfl,rfl,rfl,_,rfl,?_⟩
  rw[o,Ji];refine ite2 (λc=>?_) (λc=>?_)
  .have G:pT l.1 l.2.1 p=true:=Mq (V.int.inj (MZ c))
   refine⟨_,rfl,rfl,?_⟩;rw[Jz G,GK,GK];rfl
  .have G:¬ pT l.1 l.2.1 p=true:=λz=>c (Mq (congrArg V.int (MZ z)))
   refine⟨rfl,?_⟩;rw[JA G,Li,JB]
 .rintro M N ⟨rfl,rfl⟩ D e;rw[b,Hi];exact⟨D,_,rfl,SqL.of af,y _ (ai e _)⟩
 .rintro i M N ⟨_,rfl⟩;rw[Gu,Gu];exact Hy (IE _ _) (by rw[Hs];omega)
theorem xi:aw ["links","used"] ["links","used"] (aq jP):=by ac_nf
theorem ok_costO (F:Fun K "cost_of" "cost_of" jP f fd) (T:TxtE mg):FnOk P w K mg base CX0 1 f fd ["links","used"] yT:=by
 refine F.ok xi (by walk_at "l") λt A I s H Y Q E B h=>?_
 obtain⟨v,u,J,rfl,⟨a,d,rfl,hA,O⟩,aa,y⟩:=h;have yl:=O.1;refine⟨_,(ak (aF (aD (mG rfl) (by rfl) T.n_sum sQ (ae (dU [("used",1)] ["number","link"] (fO rfl T.n_enumerate (ae (pv 0) ah)) (λC p s H=>(dv (n:=2) (K:=K) rfl rfl (aE (aV (i:=0) (show(["number","link","used"]:List Str).Nodup from by decide) rfl (Or.inl rfl)) (aE (aV (i:=1) (show(["number","link","used"]:List Str).Nodup from by decide) rfl (Or.inl rfl)) bC)))) (λC p s H=>(kL (aB cj (av gM (av eG (pv 2) (pv 0)) aj) aj (aC _)))) (λC p s H=>(nW K (pv 1) aj))) ah)))),?_⟩
 refine⟨_,rfl,a,rfl,⟨_,SqL.of hA⟩,fx (K:=K) (xs:=d) (λi M N=>Same H N/\∃ k:List Int,M=k.map V.int/\k.sum=qM u J i/\k.length<=i) (big3 ∅) ⟨λ_ _ e=>e,[],rfl,rfl,Gy _⟩ (λi M N _ z=>SqL.of (z.1 _ _ hA)) ?_ ?_ ?_⟩
 .rintro i x M N T2 L ⟨b,k,rfl,o,g⟩ j;obtain⟨l,ab,q,rfl,m⟩:=O.get L;have r:=b.trans (ai j (.tup [.int (i:Int),.ref q]));refine⟨T2,_,rfl,SqT.of af,rfl,_,_,rfl,_,_,rfl,rfl,rfl,?_⟩;refine⟨_,rfl,_,rfl,_,_,rfl,rfl,(show(0:Int)<=(i:Int) by omega),_,_,rfl,rfl,rfl,_,rfl,?_⟩
  refine ite2 (λc=>?_) (λc=>?_)
  .have G:bt u i=true:=Mq (V.int.inj (MZ c))
   refine⟨_,rfl,q,_,2,_,rfl,rfl,SqT.of (r _ _ m),a32,r,k++[l.2.2],by rw[GK];rfl,?_,by rw[Gx,GO];omega⟩
   rw[IK,o,qM,Nf G,lkA_is ab,HH,JK,Jn]
  .have G:¬ bt u i=true:=λz=>c (Mq (congrArg V.int (MZ z)))
   refine⟨r,k,rfl,?_,∅⟩
   rw[o,qM,Ng G]
 .rintro M N ⟨b,k,rfl,o,g⟩ D hD;rw[yl]at o;refine⟨D,k,rfl,SqL.of af,?_⟩;rw[o];exact y _ (b.trans (ai hD _))
 .rintro i M N ⟨_,k,rfl,_,g⟩;rw[Gu];exact g
theorem tV:aw ["many","links","marks","used","paper"] ["many","links","marks","used","paper"] (aq iE):=by ac_nf
theorem ok_exam{f2 f3 f4:Addr}{ab al:FuncData} (F:Fun K "examined" "examined" iE f fd) (T:TxtE mg) (aI:Cal P w K mg base 2 "joins" ["links","marks","used"] yR I G) (ap:Cal P w K mg base 4 "counts" ["many","marks","rooms","price"] vR f2 Y) (ac:Cal P w K mg base 1 "paid_over" ["link","paper"] DW f3 ab) (am:Cal P w K mg base 1 "cost_of" ["links","used"] yT f4 al):FnOk P w K mg base CX0 5 f fd ["many","links","marks","used","paper"] spExam:=by
 refine F.ok tV (by walk_at "l") λt A O s H y Q E B h=>?_
 obtain⟨n,m,lv,pv,u,ls,r,rfl,aO,aS,ok,aL,kk⟩:=h;have n1:=ok.n1;have l9:=ok.l9;obtain⟨a,k,rfl,hA,hL⟩:=id aO;obtain⟨b,e,rfl,hB,hM⟩:=id aS;have yl:=hL.1;have zl:=hM.1
 refine⟨_,(ag (bG (oq (jQ (aI.c B (ae (pv 1) (ae (pv 2) (ae (pv 3) ah)))))) (ak (aF lG)) aJ)
   (ag (bG (oq (jQ (aD (sO rfl) (by rfl) T.n_all Ew (ae (dU [("marks",2),("many",0)] ["rooms","price"] (aU (pv 4)) (λC ex s H=>(dv (n:=2) (K:=K) rfl rfl (aE (aV (i:=0) (show(["rooms","price","marks","many"]:List Str).Nodup from by decide) rfl (Or.inl rfl)) (aE (aV (i:=1) (show(["rooms","price","marks","many"]:List Str).Nodup from by decide) rfl (Or.inl rfl)) bC)))) pt_c (λC ex s H=>(ap.c B (ae (pv 3) (ae (pv 2) (ae (pv 0) (ae (pv 1) ah))))))) ah)))) (ak (aF lG)) aJ)
   (ag (bG (oq (jQ (aD (sO rfl) (by rfl) T.n_all Ew (ae (dU [("paper",4)] ["link"] (aU (pv 1)) pg_c pt_c (λC ex s H=>(bO op_le (ac.c B (ae (pv 0) (ae (pv 1) ah))) (av jS aj (nW K (pv 0) aj)) (aC _)))) ah)))) (ak (aF lG)) aJ)
   (ak (aF (bO cj (aD (mG rfl) (by rfl) T.n_sum sQ (ae (dU [] ["rooms","price"] (aU (pv 4)) (λC ex s H=>(dv (n:=2) (K:=K) rfl rfl (aE (aV (i:=0) (show(["rooms","price"]:List Str).Nodup from by decide) rfl (Or.inl rfl)) (aE (aV (i:=1) (show(["rooms","price"]:List Str).Nodup from by decide) rfl (Or.inl rfl)) bC)))) pt_c (λC ex s H=>(pv 1))) ah)) (av jS aj (am.c B (ae (pv 1) (ae (pv 3) ah)))) (aC _))))))),?_⟩
 refine⟨_,rfl,_,rfl,_,rfl,.ref a,m,u,ls,n,rfl,aO,ok,λJ o=>?_⟩;refine⟨_,rfl,?_⟩
 cases j:jB ls m u with
 |false =>
  refine iteT ?_;have:=kk J o;unfold exB at this;rw[j,HM]at this;exact this
 |true =>
  refine iteF ?_;refine⟨_,rfl,b,rfl,⟨_,SqL.of (o _ _ hB)⟩,cD (K:=K) (xs:=e) (λi ws N=>Same H N/\ws=((r.take i).map (cB n m)).map V.bl) (big3 ∅) ⟨o,rfl⟩ (λi ws N _ z=>SqL.of (z.1 _ _ hB)) ?_ ?_ ?_⟩
  .rintro i x ws N L ⟨s2,rfl⟩;obtain⟨p,M,q,rfl,v⟩:=hM.get L;refine⟨q,_,rfl,SqT.of (s2 _ _ v),rfl,_,_,rfl,_,_,rfl,rfl,rfl,yesT ⟨_,rfl,_,rfl,_,rfl,_,rfl,n,m,p,rfl,n1,λH3 s3=>⟨s2.trans s3,?_⟩⟩⟩;rw[He,M,GK,GK];rfl
  .rintro ws N ⟨s2,rfl⟩ D hD;rw[zl,Hi];have sD:=s2.trans (ai hD (.lst ((r.map (cB n m)).map V.bl)));refine⟨D,r.map (cB n m),rfl,SqL.of af,_,rfl,?_⟩;generalize upd N D (.lst ((r.map (cB n m)).map V.bl))=H3 at sD;have ea:(r.map (cB n m)).all id=r.all (cB n m):=by rw[List.all_map];rfl
   rw[ea]
   cases c:r.all (cB n m) with
   |false =>
    refine iteT ?_;have:=kk H3 sD;unfold exB at this;rw[j,c,Ht,HM]at this;exact this
   |true =>
    refine iteF ?_;refine⟨_,rfl,a,rfl,⟨_,SqL.of (sD _ _ hA)⟩,cC (K:=K) (xs:=k) (λi ws H4=>Same H H4/\ws=((ls.take i).map (lB r)).map V.bl) (big3 ∅) ⟨sD,rfl⟩ (λi ws H4 _ z=>SqL.of (z.1 _ _ hA)) ?_ ?_⟩
    .rintro i x ws H4 L ⟨s4,rfl⟩;obtain⟨l,g,aa⟩:=hL.get L;refine⟨_,rfl,_,rfl,x,.ref b,l,r,rfl,aa.mono s4,aS.mono s4,aL,λH5 s5=>?_⟩;obtain⟨q,rfl,v⟩:=aa.mono (s4.trans s5);refine⟨_,rfl,q,_,2,_,rfl,rfl,SqT.of v,a32,_,_,rfl,rfl,.inl ⟨by decide,by decide⟩,_,_,rfl,rfl,s4.trans s5,?_⟩
     rw[He,g,GK,GK];rfl
    rintro ws H4 _ ⟨s4,rfl⟩ D4 aR;rw[yl,Hi];have an:=s4.trans (ai aR (.lst ((ls.map (lB r)).map V.bl)));refine⟨D4,ls.map (lB r),rfl,SqL.of af,_,rfl,?_⟩;generalize upd H4 D4 (.lst ((ls.map (lB r)).map V.bl))=H5 at an;have aT:(ls.map (lB r)).all id=ls.all (lB r):=by rw[List.all_map];rfl
    rw[aT]
    cases d:ls.all (lB r) with
    |false =>
     refine iteT ?_;have:=kk H5 an;unfold exB at this;rw[j,c,d,Ht,Ht,HM]at this;exact this
    |true =>
     refine iteF ?_;refine⟨_,rfl,b,rfl,⟨_,SqL.of (an _ _ hB)⟩,cD (K:=K) (xs:=e) (λi ws H6=>H6=H5/\ws=((r.take i).map (·.2)).map V.int) (big3 ∅) ⟨rfl,rfl⟩ (λi ws H6 _ z=>by rw[z.1];exact SqL.of (an _ _ hB)) ?_ ?_ ?_⟩
     .rintro i x ws H6 L ⟨rfl,rfl⟩;obtain⟨p,M,q,rfl,v⟩:=hM.get L;refine⟨q,_,rfl,SqT.of (an _ _ v),rfl,_,_,rfl,_,_,rfl,rfl,rfl,yesT ⟨_,rfl,rfl,?_⟩⟩;rw[He,M,GK,GK];rfl
     .rintro ws H6 ⟨rfl,rfl⟩ D6 a0;rw[zl,Hi];have s6:=ai a0 (.lst ((r.map (·.2)).map V.int));refine⟨D6,r.map (·.2),rfl,SqL.of af,_,rfl,_,rfl,.ref a,u,ls,rfl,aO.mono (an.trans s6),∅,λH7 s7=>⟨_,_,rfl,rfl,.inl ⟨by decide,by decide⟩,rfl,?_⟩⟩
      have:=kk H7 (an.trans (s6.trans s7));unfold exB at this;rw[j,c,d,Ht,Ht,Ht,← oG]at this;exact this
     .rintro i ws H6 ⟨_,rfl⟩;rw[Gu,Gu,Hs];omega
  .rintro i ws N ⟨_,rfl⟩;rw[Gu,Gu,Hs];omega
theorem tw:∀(ns l:List Int),(ns.foldl addN l).length<=l.length+ns.length
 |[],_=>Gy _
 |k::ns,l=>by
  have:=tw ns (addN l k);have:=w4 l k;rw[Kv,GX];omega
theorem Dd{b:Addr}{g:TG}{tb:TS}{D:Ends}(n:Nat)(Pv:Nat->St->Hp->Prop)(w:Pv 0 J H)(k:n<=xs.length)(u:zs.length=n)(hl:∀ i J H,i<=n->Pv i J H->SqL K H a xs/\SqL K H b zs)
  (G:∀ i x z J H T,xs[i]?=some x->zs[i]?=some z->Pv i J H->H T=none->g (.ref T) J (upd H T (.tup [x,z])) λh H2=>tb { D with nx:=Pv (i+1),ct:=Pv (i+1),bk:=D.nx } h H2) (hd:∀ J H,Pv n J H->D.nx J H) :
  ∃ W:Nat->Nat->St->Hp->Prop,(∃ m,W 0 m J H)/\∀ i m J H,W i m J H ->
   ((Itz K a b).stop i H/\D.nx J H)∨((Itz K a b).go i H/\∃ N:St->Hp->Prop,(∀ σ' H',N σ' H'->∃ Q,Q<m/\W (i+1) Q σ' H')/\∀ x H',(Itz K a b).yld i H x H'->g x J H' λh H2=>tb { D with nx:=N,ct:=N,bk:=D.nx } h H2):=by
 refine⟨λi m J H=>m=n-i/\i<=n/\Pv i J H,⟨n,by simp,Hq _,w⟩,?_⟩
 rintro i m J H ⟨rfl,o,p⟩;obtain⟨L,t⟩:=hl i J H o p;by_cases f:i<n
 .have B:i<xs.length:=by omega
  have q:i<zs.length:=by omega
  refine .inr ⟨⟨xs,zs,xs[i],zs[i],L,t,by simp[B],by simp[q]⟩,Pv (i+1),λσ' H' A=>⟨n-(i+1),∅,rfl,f,A⟩,λv H' y=>?_⟩
  obtain⟨T,x,z,l,rfl,rfl,I,d⟩:=y;exact G i x z J _ T (I xs L) (d zs t) p l
 .have e:i=n:=by omega
  subst e;exact .inl ⟨⟨xs,zs,L,t,.inr ∅⟩,hd J H p⟩
theorem DD(xs:List V):cutV xs (some 1) none=xs.drop 1:=by
 unfold cutV;have q:=HT.sIx_nat xs.length 0 1;rw[show((1:Nat):Int)=(1:Int) from rfl]at q;rw[q,HT.sIx_none];rw[Jh (by rw[Iv];omega)]
 by_cases h:1<=xs.length
 .rw[Kt h]
 .have e:xs = []:=Jc.mp ∅
  subst e;rfl
theorem B7(s:Same H H2){l:Addr}(hl:H l=none)(o:HO):Same H (upd H2 l o):=λb u e=>by
 rw[ao (λz=>by rw[z,hl]at e;cases e)]
 exact s _ _ e
theorem Eb{α:Type} [DecidableEq α]:∀{l ps:List α},l.Nodup->(∀ x∈l,x∈ps)->l.length<=ps.length
 |[],_,_,_=>Hq _
 |x::l,ps,h,k=>by
  obtain⟨J,Y⟩:=Hj.mp h;have m:=k x (GN ..);have:=Eb (l:=l) (ps:=ps.erase x) Y λy Q=>(KA (λ(e:y=x)=>J (by rw[← e];exact Q))).mpr (k y (GD _ Q))
  rw[Jw m]at this;have p:=HU m;rw[GX];omega
def PrM(n:Nat)(H:Hp)(v:V):Prop:=∃(t:Addr)(i:Int)(j:Nat),v=.ref t/\H t=some (.tup [.int i,.int (j:Int)])/\j<2^n
theorem PrM.mono(h:PrM n H v)(s:Same H H'):PrM n H' v:=by
 obtain⟨t,i,j,e,q,l⟩:=h;exact⟨t,i,j,e,s _ _ q,l⟩
inductive spDry(vs:List L2.V)(H:L2.Hp)(Q:L2.VK)(x3_:L2.XK):Prop
 |mk (v:V)(ta:Addr)(n:Nat)(ls:List Lk)(tops:List Int) (h0_:vs = [v,.ref ta])(h1_:LnAt H v ls)(h2_:Lok n ls)(h3_:H ta=some (.lst (tops.map V.int)))(h4_:tops.length=n)(h5_:n+ls.length<64)(h6_:∀(q:Addr)(out:List V) H',Same H H'->H' q=some (.lst out)->out.length=n+ls.length->(∀ y∈out,PrM n H' y)->Q (.ref q) H')
inductive DZ(vs:List L2.V)(H:L2.Hp)(Q:L2.VK)(x3_:L2.XK):Prop
 |mk (p:Addr)(n rm:Nat)(ps:List Nat) (h0_:vs = [.ref p,.int (rm:Int)])(h1_:H p=some (.lst (ps.map iV)))(h2_:ps.length=n)(h3_:(∀ x∈ps,x<2^n))(h4_:rm<2^n)(h5_:n<=40)(h6_:∀(q:Addr)(qs:List Nat) H',Same H H'->H' q=some (.lst (qs.map iV))->qs.length=n->(∀ x∈qs,x<2^n)->Q (.ref q) H')
inductive spHills(TT:Addr)(vs:List L2.V)(H:L2.Hp)(Q:L2.VK)(x3_:L2.XK):Prop
 |mk (v:V)(n mk:Nat)(ls:List Lk) (h0_:vs = [.int (n:Int),v,.int (mk:Int)])(h1_:LnAt H v ls)(h2_:Lok n ls)(h3_:1<=n)(h4_:Conn n ls)(h5_:mk<2^n)(h6_:(bl mk).length%2=0)(h7_:(bl mk).length<=14)(h8_:n+ls.length<64)(h9_:Tb lqF lpF TT H)(h10_:∀(q:Addr)(r:List Pr) H',SmT H H'->Tb lqF lpF TT H'->PpAt H' (.ref q) r->r.length<=2560->(∀ p∈r,0<=p.1/\p.1<2^n)->Q (.ref q) H')
abbrev toI(o:List (Int×Int)):List (Key×V):=o.map λe=>(Sum.inl e.1,V.int e.2)
theorem EM{o:List (Int×Int)}{y x:Int}(h:∀ e∈o,0<=e.1/\e.1<2^n)(Q:0<=y/\y<2^n):∃ a:List (Int×Int),putK (toI o) (.inl y) (.int x)=toI a/\∀ e∈a,0<=e.1/\e.1<2^n:=by
 unfold putK;split
 .refine⟨o.map λe=>if e.1=y then(e.1,x) else e,?_,λe r=>?_⟩
  .unfold toI;rw[IU,IU];refine Ja λe _=>?_;show(if(Sum.inl e.1:Key)=Sum.inl y then((Sum.inl e.1:Key),V.int x) else(Sum.inl e.1,V.int e.2))=_;by_cases z:e.1=y
   .rw[Nf (congrArg _ z)];show _=((Sum.inl (if e.1=y then(e.1,x) else e).1:Key),V.int (if e.1=y then(e.1,x) else e).2);rw[Nf z]
   .rw[Ng (λq=>z (Sum.inl.inj q))];show _=((Sum.inl (if e.1=y then(e.1,x) else e).1:Key),V.int (if e.1=y then(e.1,x) else e).2);rw[Ng z]
  .obtain⟨O,w,rfl⟩:=Hn.mp r;have:=h O w;split
   .exact this
   .exact this
 .refine⟨o++[(y,x)],by unfold toI;rw[GK];rfl,λe r=>?_⟩
  rcases GU.mp r with z | z
  .exact h e z
  .rw[GJ.mp z];exact Q
theorem yG:∀(o:List (Int×Int))(y:Int),∃ x,(valV (toI o) (.inl y)).getD (.int 0)=V.int x
 |[],_=>⟨0,rfl⟩
 |e::r,y=>by
  by_cases z:e.1=y
  .exact⟨e.2,by show(valV ((Sum.inl e.1,V.int e.2)::toI r) (.inl y)).getD (.int 0)=_;rw[bc (p:=(Sum.inl e.1,V.int e.2)) (k:=(Sum.inl y:Key)) (congrArg Sum.inl z)];rfl⟩
  .obtain⟨x,L⟩:=yG r y;exact⟨x,by show(valV ((Sum.inl e.1,V.int e.2)::toI r) (.inl y)).getD (.int 0)=_;rw[bf (p:=(Sum.inl e.1,V.int e.2)) (k:=(Sum.inl y:Key)) (λq=>z (Sum.inl.inj q))];exact L⟩
theorem oo:aw ["links","tops","found"] ["links","tops"] (aq jO):=by ac_nf
theorem ok_dry (F:Fun K "dryings" "dryings" jO f fd) (T:TxtH mg):FnOk P w K mg base CX0 1 f fd ["links","tops"] spDry:=by
 refine F.ok oo (by walk_at "l") λJ A I s H Y Q E B h=>?_
 obtain⟨v,ta,n,ls,aI,rfl,hV,ok,al,tl,ab,p⟩:=h;have an:=ok.n1;have ap:=B.units;obtain⟨la,d,rfl,a1,hL⟩:=id hV
 refine⟨_,(ag (mY 2 [] ["room","top"] oo.nd (fO rfl T.n_enumerate (ae (pv 1) ah)) (λC ex s H=>(dv (n:=2) (K:=K) rfl rfl (aE (aV (i:=0) (show(["room","top"]:List Str).Nodup from by decide) rfl (Or.inl rfl)) (aE (aV (i:=1) (show(["room","top"]:List Str).Nodup from by decide) rfl (Or.inl rfl)) bC)))) pt_c (λC ex s H=>(dB (ae (av jS aj (pv 1)) (ae (av bF aj (pv 0)) ah)))))
   (ag (aP (dW GZ PySem.F.slot_list_extend PySem.F.type_list_extend Ad (pv 2) (ae (dU [("tops",1)] ["one","two","length"] (aU (pv 0)) (λC ex s H=>(dv (n:=3) (K:=K) rfl rfl (aE (aV (i:=0) (show(["one","two","length","tops"]:List Str).Nodup from by decide) rfl (Or.inl rfl)) (aE (aV (i:=1) (show(["one","two","length","tops"]:List Str).Nodup from by decide) rfl (Or.inl rfl)) (aE (aV (i:=2) (show(["one","two","length","tops"]:List Str).Nodup from by decide) rfl (Or.inl rfl)) bC))))) pt_c (λC ex s H=>(dB (ae (av iW (av b9 (zM K (pv 3) (pv 0)) (zM K (pv 3) (pv 1))) (pv 2)) (ae (av zQ (av bF aj (pv 0)) (av bF aj (pv 1))) ah))))) ah)))
   (ak (aF (m5 rfl rfl T.n_list rfl T.n_reversed (aD yk (by rfl) T.n_sorted nK (ae (pv 2) ah))))))),?_⟩
 have a2:(aI.map V.int).length=n:=by rw[Gu,tl]
 refine⟨_,rfl,ta,rfl,⟨_,SqL.of al⟩,fx (K:=K) (xs:=aI.map V.int) (λi M N=>Same H N/\M.length=i/\∀ y∈M,PrM n N y) (G6 (ar ∅)) ⟨λ_ _ e=>e,rfl,λy a=>nomatch a⟩ (λi M N _ z=>SqL.of (z.1 _ _ al)) ?_ ?_ (λi M N z=>by omega)⟩
 .rintro i x M N T2 L ⟨b,zl,hZ⟩ ac;have o:i<n:=by rw[← a2];exact(Gn.mp L).1
  have sT:=ai ac (.tup [.int (i:Int),x]);rw[GC]at L;obtain⟨tp,a0,rfl⟩:=G5.mp L;refine⟨T2,_,rfl,SqT.of af,rfl,_,_,rfl,_,_,rfl,rfl,rfl,yesT ?_⟩;refine⟨_,rfl,_,_,rfl,rfl,.inl ⟨by decide,by decide⟩,_,rfl,_,_,rfl,rfl,⟨∅,∅,by decide⟩,(by show 2<=LK;decide),λt7 aT=>?_⟩
  have s7:=sT.trans (ai aT (.tup [.int (2*tp),.int (1*2^((i:Nat):Int).toNat)]));refine⟨b.trans s7,by rw[Gx,zl];rfl,λy a=>?_⟩
  rcases GU.mp a with a | a
  .exact(hZ y a).mono s7
  .rw[GJ.mp a];refine⟨t7,2*tp,2^i,rfl,?_,Hz (by decide) o⟩
   rw[← shlN i];exact af
 rintro M N ⟨b,zl,hZ⟩ fa aO;rw[a2]at zl;have a7:H fa=none:=dP b aO;have z3:=ai aO (.lst M);have r:=b.trans z3;have a3:∀ y∈M,PrM n (upd N fa (.lst M)) y:=λy a=>(hZ y a).mono z3;have am:(upd N fa (.lst M)) fa=some (.lst M):=af;generalize upd N fa (.lst M)=c at r a3 am;have a4:LsAt LkAt c d ls:=hL.imp λ_ _ y=>y.mono r;have yl:=a4.1;refine⟨_,rfl,.inl ⟨rfl,_,SqL.of am⟩,_,rfl,la,rfl,⟨_,SqL.of (r _ _ a1)⟩,cD (K:=K) (xs:=d) (λi ws H4=>Same c H4/\ws.length=i/\∀ y∈ws,PrM n H4 y) (G6 (ar ∅)) ⟨λ_ _ e=>e,rfl,λy a=>nomatch a⟩ (λi ws H4 _ z=>SqL.of (z.1 _ _ (r _ _ a1))) ?_ ?_ (λi ws H4 z=>by omega)⟩
 .rintro i x ws H4 L ⟨s4,wl,hW⟩;obtain⟨l,g,t,rfl,O⟩:=a4.get L;obtain⟨l1,l2⟩:=ok.sm l (Gv g);have aa:∀ k,k<n->(aI.map V.int)[k]?=some (.int (aI.getD k 0)):=λk G=>by
   rw[GC,GP,Gs ∅]
   rfl
  have aS:=s4 _ _ (r _ _ al);refine⟨t,_,rfl,SqT.of (s4 _ _ O),rfl,_,_,rfl,_,_,rfl,_,_,rfl,rfl,rfl,yesT ?_⟩;refine⟨_,rfl,_,rfl,ta,_,_,_,rfl,rfl,SqL.of aS,aG (aa _ l1),_,rfl,_,rfl,ta,_,_,_,rfl,rfl,SqL.of aS,aG (aa _ l2),_,_,rfl,rfl,_,rfl,_,_,rfl,rfl,?_⟩;refine⟨_,rfl,_,_,rfl,rfl,⟨∅,∅,by decide⟩,_,rfl,_,_,rfl,rfl,⟨∅,∅,by decide⟩,_,_,rfl,rfl,(by show 2<=LK;decide),λt7 aT=>?_⟩
  have ex:Mb (1*2^((l.1:Nat):Int).toNat) (1*2^((l.2.1:Nat):Int).toNat)=((2^l.1|||2^l.2.1:Nat):Int):=by rw[shlN,shlN,orN]
  have s7:=ai aT (.tup [.int (aI.getD l.1 0+aI.getD l.2.1 0-l.2.2),.int (Mb (1*2^((l.1:Nat):Int).toNat) (1*2^((l.2.1:Nat):Int).toNat))]);refine⟨s4.trans s7,by rw[Gx,wl];rfl,λy a=>?_⟩
  rcases GU.mp a with a | a
  .exact(hW y a).mono s7
  .rw[GJ.mp a];refine⟨t7,aI.getD l.1 0+aI.getD l.2.1 0-l.2.2,2^l.1|||2^l.2.1,rfl,?_,Ke (Hz (by decide) l1) (Hz (by decide) l2)⟩
   rw[← ex];exact af
 rintro ws H4 ⟨s4,wl,hW⟩ D hD;have sD:=ai hD (.lst ws);have fD:fa≠D:=λz=>by rw[← z,s4 _ _ am]at hD;cases hD
 have aR:=s4.trans sD;refine⟨fa,D,M,ws,rfl,rfl,aR _ _ am,af,G6 (ar ∅),?_⟩
 have s6:Same H (upd (upd H4 D (.lst ws)) fa (.lst (M++ws))):=B7 (r.trans aR) a7 _;have pk:∀ y,PrM n (upd H4 D (.lst ws)) y->PrM n (upd (upd H4 D (.lst ws)) fa (.lst (M++ws))) y:=λy ⟨t,i,j,e,q,l⟩=>⟨t,i,j,e,by rw[ao (λz=>by rw[z,aR _ _ am]at q;cases q)];exact q,l⟩
 have u:∀ y∈M++ws,PrM n (upd (upd H4 D (.lst ws)) fa (.lst (M++ws))) y:=λy a=>by
  refine pk y ?_;rcases GU.mp a with a | a
  .exact(a3 y a).mono aR
  .exact(hW y a).mono sD
 have a5:(upd (upd H4 D (.lst ws)) fa (.lst (M++ws))) fa=some (.lst (M++ws)):=af;generalize upd (upd H4 D (.lst ws)) fa (.lst (M++ws))=H6 at s6 u a5;have a6:(M++ws).length=n+ls.length:=by rw[Gx,zl,wl,yl]
 refine⟨_,rfl,fa,M++ws,rfl,SqL.of a5,λy a=>?_,∅,λl aL g ol om=>?_⟩
 .obtain⟨t,i,j,e,q,_⟩:=u y a;exact⟨t,i,_,e,q⟩
 have s7:=ai g (.lst aL);refine⟨l,aL,rfl,SqL.of af,λq m=>?_⟩;have s8:=ai m (.lst aL.reverse);exact p q aL.reverse _ (s6.trans (s7.trans s8)) af (by rw[Jb,ol,a6]) λy a=>(u y (om y (IS.mp a))).mono (s7.trans s8)
theorem jI:aw ["pieces","rooms","piece","room"] ["pieces","rooms"] (aq lZ):=by ac_nf
theorem ok_join (F:Fun K "joined" "joined" lZ f fd) (T:Txt mg) (ab:Cal P w K mg base 1 "bits" ["mask"] k7 a G):FnOk P w K mg base CX0 2 f fd ["pieces","rooms"] DZ:=by
 refine F.ok jI (by walk_at "l") λd A I s H Y Q E B h=>?_
 obtain⟨p,n,rm,ps,rfl,j,pl,pb,rb,ap,o⟩:=h;have aI:(2:Nat)^40=1099511627776:=by decide
 have J:2^n<=2^40:=HC (by decide) ap
 refine⟨_,(ag (ay 2 jI.nd (pv 1))
   (ag (bM PassesOwn.never rfl (aU (ab.c B (ae (pv 1) ah))) (cJ 3 jI.nd) (ak (ay 2 jI.nd (av zQ (pv 2) (bH (pv 0) (pv 3))))))
   (ak (aF (dU [("piece",2)] ["room","before"] (fO rfl T.n_enumerate (ae (pv 0) ah)) (λC ex s H=>(dv (n:=2) (K:=K) rfl rfl (aE (aV (i:=0) (show(["room","before","piece"]:List Str).Nodup from by decide) rfl (Or.inl rfl)) (aE (aV (i:=1) (show(["room","before","piece"]:List Str).Nodup from by decide) rfl (Or.inl rfl)) bC)))) pt_c (λC ex s H=>(fQ (aB cj (av gM (av eG (pv 2) (pv 0)) aj) aj (aC _)) (pv 2) (pv 1)))))))),?_⟩
 refine⟨_,rfl,_,rfl,(rm:Int),rfl,∅,∅,λr l g _ an=>?_⟩
 rw[GA]at an;have aL:l r=some (.lst ((bl rm).map iV)):=an;have al:=g _ _ j;have aa:∀ k,k<n->(ps.map iV)[k]?=some (iV (ps.getD k 0))/\ps.getD k 0<2^n:=λk u=>by
  rw[GC,GP,Gs ∅]
  exact⟨rfl,pb _ (Ii _)⟩
 refine⟨r,rfl,⟨_,SqL.of aL⟩,cf (K:=K) (xs:=(bl rm).map iV) (λi O N=>∃(v3:Option V)(pc:Nat),O = [some (.ref p),some (.int (rm:Int)),some (.int (pc:Int)),v3]/\N=l/\pc<2^n) ⟨_,rm,rfl,rfl,rb⟩ (λi O N _ am=>by obtain⟨_,_,_,z,_⟩:=am;rw[z];exact SqL.of aL) ?_ ?_⟩
 .rintro i x O N L ⟨v3,pc,rfl,rfl,aO⟩;rw[GC]at L;obtain⟨k,u,rfl⟩:=G5.mp L;have kn:=og rb (Gv u);obtain⟨a1,a2⟩:=aa k kn;have ex:Mb (pc:Int) ((ps.getD k 0:Nat):Int)=((pc|||ps.getD k 0:Nat):Int):=orN _ _
  refine⟨_,rfl,_,rfl,_,rfl,p,_,_,_,rfl,rfl,SqL.of al,aG a1,_,_,rfl,rfl,?_⟩;simp only[ex];exact⟨_,_,rfl,rfl,Ke aO a2⟩
 rintro O N ⟨v3,pc,rfl,rfl,aO⟩;have aS:(ps.map iV).length=n:=by rw[Gu,pl]
 refine⟨_,rfl,p,rfl,⟨_,SqL.of al⟩,fx (K:=K) (xs:=ps.map iV) (λi t H3=>Same N H3/\∃ qs:List Nat,t=qs.map iV/\qs.length=i/\∀ x∈qs,x<2^n) (G6 (ar ∅)) ⟨λ_ _ e=>e,[],rfl,rfl,λx L=>nomatch L⟩ (λi t H3 _ z=>SqL.of (z.1 _ _ al)) ?_ ?_ (λi t H3 am=>by obtain⟨_,qs,e,ql,_⟩:=am;rw[e,Gu,ql];exact Gy _)⟩
 .rintro i x t H3 T2 L ⟨m,qs,rfl,ql,qb⟩ ac;have v:i<n:=by rw[← aS];exact(Gn.mp L).1
  have sT:=ai ac (.tup [.int (i:Int),x]);rw[GC]at L;obtain⟨b,M,rfl⟩:=G5.mp L;have bb:=pb b (Gv M)
  have step:∀ y:Nat,y<2^n->∃ aR:List Nat,qs.map iV++[iV y]=aR.map iV/\aR.length=i+1/\∀ x∈aR,x<2^n:=λy q=>⟨qs++[y],by rw[GK];rfl,by rw[Gx,ql];rfl,λx L=>by
   rcases GU.mp L with L | L
   .exact qb x L
   .rw[GJ.mp L];exact q⟩
  refine⟨T2,_,rfl,SqT.of af,rfl,_,_,rfl,_,_,rfl,rfl,rfl,yesT ?_⟩;refine⟨_,rfl,_,rfl,_,_,rfl,rfl,(show(0:Int)<=(i:Int) by omega),_,_,rfl,rfl,rfl,_,rfl,ite2 (λc=>?_) (λc=>?_)⟩
  .exact⟨_,rfl,m.trans sT,step pc aO⟩
  .exact⟨_,rfl,m.trans sT,step b bb⟩
 rintro t H3 ⟨m,qs,rfl,ql,qb⟩ D hD;exact o D qs _ (g.trans (m.trans (ai hD _))) af (by rw[ql,aS]) qb
theorem cZ:aw ["many","links","marks","row","root","pieces","prices","drying","lower","levels","piece"] ["many","links","marks"] (aq pC):=by ac_nf
theorem ok_hills{TT f2 f3 f4:Addr}{aS a6:FuncData} (F:Fun K "hills" "hills" pC f fd) (T:TxtH mg) (a7:Cal P w K mg base 11 "heights" ["many","links","marks"] (spHts TT) I G) (a9:Cal P w K mg base 1 "dryings" ["links","tops"] spDry f2 Y) (aI:Cal P w K mg base 2 "root_of" ["marks"] yL f3 aS) (ba:Cal P w K mg base 2 "joined" ["pieces","rooms"] DZ f4 a6):FnOk P w K mg base CX0 12 f fd ["many","links","marks"] (spHills TT):=by
 refine F.ok cZ (by walk_at "l") λaa A D s H vs Q E M h=>?_
 obtain⟨v,n,mk,ls,rfl,hV,ok,n1,hc,aO,ev,fw,ab,aR,kk⟩:=h;have hu:=sf M;have aL:=ok.n1;have bm:(2:Nat)^40=1099511627776:=by decide
 have J:2^n<=2^40:=HC (by decide) aL
 refine⟨_,(ag (ay 3 cZ.nd (a9.c M (ae (pv 1) (ae (a7.c M (ae (pv 0) (ae (pv 1) (ae (pv 2) ah)))) ah))))
   (ag (ay 4 cZ.nd (aI.c M (ae (pv 2) ah)))
   (ag (mY 5 [] ["room"] cZ.nd (aZ rfl T.n_range (ae (pv 0) ah)) pg_c pt_c (λC ex s H=>aj))
   (ag (ay 6 cZ.nd mh)
   (ag (bM PassesOwn.never rfl (zH rfl T.n_zip (ae (pv 3) (ae (ma oY (pv 3) (pH aj) pI) ah))) (mZ rfl (aE (cJ 7 cZ.nd) (aE (cJ 8 cZ.nd) bC))) (ag (ay 5 cZ.nd (ba.c M (ae (pv 5) (ae (dw (pv 7) aj) ah))))
   (ag (ay 9 cZ.nd (av iW (dw (pv 7) aj) (dw (pv 8) aj)))
   (ak (bM PassesOwn.never rfl (aU (aD (yj rfl rfl rfl) (by rfl) T.n_sorted nK (ae (b7 (BA rfl rfl rfl rfl) (by rfl) T.n_set bt_set (ae (pv 5) ah)) ah))) (cJ 10 cZ.nd) (ak (bG (PW.pt (wj (aB zR (pv 9) aj (aC _)) (wj (aB jR (pv 10) aj (aC _)) (zu (aB cj (av gM (av eG (pv 10) (pv 4)) aj) aj (aC _)))))) (ak (kM hu (pv 6) (pv 10) (av b9 (Cf hu (pv 6) (pv 10) aj ⟨rfl,rfl,rfl,rfl⟩) (pv 9)) rfl)) aJ)))))))
   (ak (aF (b7 (ym rfl) (by rfl) T.n_list kX (ae (D5 Kj LB PySem.F.type_dict_items CJ (pv 6)) ah))))))))),?_⟩
 refine⟨_,rfl,_,rfl,_,rfl,_,rfl,v,n,mk,ls,rfl,hV,ok,n1,hc,aO,ev,fw,aR,λp cs r a5 ap u cl=>?_⟩;refine⟨v,p,n,ls,cs.map λc=>cs.getD (cQ mk) 0-c,rfl,hV.smT a5,ok,by rw[u,IU];rfl,by rw[Gu,cl],ab,λq out N s2 hq ol op=>?_⟩
 refine⟨_,rfl,mk,rfl,∅,λH3 s3=>?_⟩
 have rn:=pE aO n1;refine⟨_,rfl,_,rfl,∅,∅,cY (n:=n) (λi zs H4=>H4=H3/\zs=(GH i 0).map iV) (G6 (ar ∅)) ⟨rfl,rfl⟩ ?_ ?_⟩
 .rintro i zs H4 m ⟨rfl,rfl⟩;refine⟨rfl,?_⟩;rw[IH,GK];rfl
 rintro zs H4 _ ⟨rfl,rfl⟩ pp ck;have s5:=ai ck (.lst ((GH n 0).map iV));refine λd hd=>?_;have sd:=ai hd (.dK []);have bn:Same N (upd (upd H4 pp (.lst ((GH n 0).map iV))) d (.dK [])):=s3.trans (s5.trans sd);have an:=bn _ _ hq;have bx:=sd _ _ (show upd H4 pp (.lst ((GH n 0).map iV)) pp=_ from af);have cn:N d=none:=dP (s3.trans s5) hd;have gd:(upd (upd H4 pp (.lst ((GH n 0).map iV))) d (.dK [])) d=some (.dK []):=af;have b0:∀ y∈out,PrM n (upd (upd H4 pp (.lst ((GH n 0).map iV))) d (.dK [])) y:=λy hy=>(op y hy).mono bn;generalize upd (upd H4 pp (.lst ((GH n 0).map iV))) d (.dK [])=H6 at bn an bx gd b0;refine⟨_,rfl,_,rfl,_,rfl,q,_,rfl,SqL.of an,λq7 aT=>?_⟩;rw[DD];have s7:=ai aT (.lst (out.drop 1));have co:q7≠d:=λz=>by rw[z,gd]at aT;cases aT
 have bd:(upd H6 q7 (.lst (out.drop 1))) q7=some (.lst (out.drop 1)):=af;have bo:=s7 _ _ gd;have bQ:=bn.trans s7;have bB:=s7 _ _ bx;have cp:q≠d:=λz=>by rw[z,gd]at an;cases an
 have b6:∀ y∈out,PrM n (upd H6 q7 (.lst (out.drop 1))) y:=λy hy=>(b0 y hy).mono s7;have be:=s7 _ _ an;generalize upd H6 q7 (.lst (out.drop 1))=H7 at s7 bd bo bQ bB b6 be;have dl:(out.drop 1).length=out.length-1:=Iv ..;have bR:∀{i:Nat}{x:V},(out.drop 1)[i]?=some x->x∈out:=λ{i x} e=>Kz (Gv e);have ca:∀{H9:Hp}{x:V},TbS d H7 H9->x∈out->PrM n H9 x:=λ{H9 x} sT L=>by
  obtain⟨t,i,j,e,z,l⟩:=b6 x L;exact⟨t,i,j,e,sT _ _ (λy=>by rw[y,bo]at z;cases z) z,l⟩
 refine⟨q,q7,rfl,⟨_,SqL.of be⟩,⟨_,SqL.of bd⟩,Dd (K:=K) (xs:=out) (zs:=out.drop 1) (out.length-1) (λi O H9=>∃(v7 v8 v9 al:Option V)(pa:Addr)(ps:List Nat)(kv:List (Int×Int)),O = [some (.int (n:Int)),some v,some (.int (mk:Int)),some (.ref q),some (.int ((cQ mk:Nat):Int)),some (.ref pa),some (.ref d),v7,v8,v9,al]/\TbS d H7 H9/\H9 d=some (.dK (toI kv))/\(∀ e∈kv,0<=e.1/\e.1<2^n)/\kv.length<=40*i/\H9 pa=some (.lst (ps.map iV))/\ps.length=n/\∀ x∈ps,x<2^n)
  ⟨_,_,_,_,pp,GH n 0,[],rfl,λ_ _ _ e=>e,bo,(λe he=>by cases he),Gy _,bB,Im,λx L=>by rw[List.eq_of_mem_replicate L];exact HQ n⟩ (Nat.sub_le _ _) dl (λi O H9 _ ac=>by obtain⟨_,_,_,_,_,_,_,_,sT,_⟩:=ac;exact⟨SqL.of (sT _ _ cp be),SqL.of (sT _ _ co bd)⟩) ?_ ?_⟩
 .rintro i x z O H9 T9 L hz ⟨v7,v8,v9,al,pa,ps,kv,rfl,sT,bg,hint,kl,ct,pl,pb⟩ bP;have m:i<out.length-1:=by rw[← dl];exact(Gn.mp hz).1
  obtain⟨tx,ix,jx,rfl,cb,cv⟩:=ca sT (Gv L);obtain⟨tz,iz,jz,rfl,cw,cT⟩:=ca sT (bR hz);have s9:=ai bP (.tup [.ref tx,.ref tz]);refine⟨T9,_,rfl,SqT.of af,rfl,_,_,rfl,_,_,rfl,rfl,?_⟩;refine⟨_,rfl,_,rfl,tx,_,1,_,rfl,rfl,SqT.of (s9 _ _ cb),at1,pa,n,jx,ps,rfl,s9 _ _ ct,pl,pb,cv,aL,λqa qs HA sA bu ql qb=>?_⟩;have bv:=s9.trans sA;refine⟨_,rfl,tx,_,0,_,rfl,rfl,SqT.of (bv _ _ cb),at0,_,rfl,tz,_,0,_,rfl,rfl,SqT.of (bv _ _ cw),at0,_,_,rfl,rfl,?_⟩;have en:qs.map iV=(qs.map λx:Nat=>(x:Int)).map V.int:=by rw[IU];rfl
  have nl:(qs.map λx:Nat=>(x:Int)).length=n:=by rw[Gu,ql]
  refine⟨_,rfl,qa,qs.map λx:Nat=>(x:Int),rfl,SqL.of (by rw[bu,en]),∅,λa ha=>?_⟩
  have bU:HA d=some (.dK (toI kv)):=bv _ _ bg;have bY:((qs.map λx:Nat=>(x:Int)).foldl addN []).length<64:=by
   have:=tw (qs.map λx:Nat=>(x:Int)) [];rw[IL]at this;omega
  refine⟨a,_,rfl,af,bY,λl hs g mem pw=>?_⟩;have ld:l≠d:=λy=>by
   subst y;have B:=(ai ha (setO P w a ((qs.map λx:Nat=>(x:Int)).foldl addN []))) _ _ bU
   cases (g.symm.trans B)
  have qd:qa≠d:=λy=>by
   rw[y,bU]at bu;cases bu
  have bi:hs.length<=n:=by
   have h5:=Eb (l:=hs) (ps:=qs.map λx:Nat=>(x:Int)) (pw.imp λh e=>by omega) λx L=>by
    have:=(mem x).mp L;rw[wZ]at this;rcases this with h | h
    .cases h
    .exact h
   omega
  refine⟨l,rfl,⟨_,SqL.of af⟩,cf (K:=K) (xs:=hs.map V.int) (λj O HX=>∃(al:Option V)(am:List (Int×Int)),O = [some (.int (n:Int)),some v,some (.int (mk:Int)),some (.ref q),some (.int ((cQ mk:Nat):Int)),some (.ref qa),some (.ref d),some (.ref tx),some (.ref tz),some (.int (ix-iz)),al]/\TbS d HA HX/\HX l=some (.lst (hs.map V.int))/\HX d=some (.dK (toI am))/\(∀ e∈am,0<=e.1/\e.1<2^n)/\am.length<=40*i+j) ⟨_,kv,rfl,λb o _ e=>((ai ha _).trans (ai g _)) _ _ e,af,((ai ha _).trans (ai g _)) _ _ bU,hint,kl⟩ (λj O HX _ ac=>by obtain⟨_,_,_,_,z,_⟩:=ac;exact SqL.of z) ?_ ?_⟩
  .rintro j y O HX hy ⟨al,am,rfl,sX,cc,bb,a0,cd⟩;have hj:j<hs.length:=by
    have:=(Gn.mp hy).1;rw[Gu]at this;exact this
   rw[GC]at hy;obtain⟨yv,cA,rfl⟩:=G5.mp hy;have no:∃(al:Option V)(am:List (Int×Int)),[some (V.int (n:Int)),some v,some (.int (mk:Int)),some (.ref q),some (.int ((cQ mk:Nat):Int)),some (.ref qa),some (.ref d),some (.ref tx),some (.ref tz),some (.int (ix-iz)),some (.int yv)] = [some (.int (n:Int)),some v,some (.int (mk:Int)),some (.ref q),some (.int ((cQ mk:Nat):Int)),some (.ref qa),some (.ref d),some (.ref tx),some (.ref tz),some (.int (ix-iz)),al]/\TbS d HA HX/\HX l=some (.lst (hs.map V.int))/\HX d=some (.dK (toI am))/\(∀ e∈am,0<=e.1/\e.1<2^n)/\am.length<=40*i+(j+1):=⟨_,am,rfl,sX,cc,bb,a0,∅⟩
   refine⟨_,rfl,_,_,rfl,rfl,_,rfl,ite2 (λc1=>?_) (λc1=>no)⟩;refine⟨_,rfl,rfl,_,rfl,ite2 (λc2=>?_) (λc2=>no)⟩;refine⟨_,rfl,_,rfl,_,_,rfl,rfl,(show(0:Int)<=((cQ mk:Nat):Int) by omega),_,_,rfl,rfl,rfl,_,rfl,ite2 (λc3=>?_) (λc3=>no)⟩
   obtain⟨xv,bD⟩:=yG am yv;have big:(toI am).length<LK:=by
    rw[Gu];have:am.length<3000:=by omega
    exact IT this (by decide)
   have yb:0<=yv/\yv<2^n:=by
    have:=(mem yv).mp (Gv cA);rw[wZ]at this;rcases this with h | h
    .cases h
    .obtain⟨x,L,rfl⟩:=Hn.mp h;have:=qb x L;exact⟨∅,by exact_mod_cast this⟩
   obtain⟨a4,ce,cK⟩:=EM (x:=xv+(ix-iz)) a0 yb;refine⟨_,rfl,d,rfl,.inl ⟨_,.inl bb⟩,_,rfl,_,DGet.k (k:=.inl yv) bb,_,rfl,_,_,bD,rfl,_,rfl,_,rfl,d,_,rfl,DPut.k (k:=.inl yv) bb big,?_⟩;rw[ce];refine⟨_,a4,rfl,(λb o nb e=>by rw[ao nb];exact sX b o nb e),by rw[ao ld];exact cc,af,cK,?_⟩
   have:=cX (toI am) (.inl yv) (V.int (xv+(ix-iz)));rw[ce,Gu,Gu]at this;omega
  .rintro O HX ⟨al,am,rfl,sX,_,bb,a0,cd⟩;rw[Gu]at cd;exact⟨_,_,_,_,qa,qs,am,rfl,λb o nb e=>sX b o nb (bv _ _ (sT b o nb e)),bb,a0,∅,sX _ _ qd bu,ql,qb⟩
 .rintro O H9 ⟨v7,v8,v9,al,pa,ps,kv,rfl,sT,bg,hint,kl,_⟩;refine⟨_,rfl,.inr (.inr (.inl ⟨rfl,.inl ⟨_,bg⟩⟩)),d,_,rfl,rfl,bg,True.intro,λvw cL=>?_⟩;have sv:=ai cL (wF vw d);refine⟨vw,d,toI kv,kv,rfl,af,sv _ _ bg,rfl,λl ys bZ ch g ci yl cM=>?_⟩;have a3:Tb lqF lpF TT H7:=tb_same (tb_same ap s2) bQ;refine kk l kv bZ (λb o no e=>?_) (tb_same (DO a3 bo sT) (sv.trans ch)) ⟨l,ys,rfl,ci,yl,λi p u=>?_⟩ ∅ hint
  .have e2:=s2 _ _ (a5 b o no e)
   exact ch _ _ (sv _ _ (sT b o (λz=>by rw[z,cn]at e2;cases e2) (bQ _ _ e2)))
  .obtain⟨t,a1,a2⟩:=cM i p u;exact⟨_,a1,t,rfl,a2⟩
end KF
namespace L2
theorem len_0{l:List α}(h:l.length=0):l = []:=Jc.mp h
theorem xC{l:List α}(h:l.length=n+1):∃ x r,l=x::r/\r.length=n:=by
 cases l with
 |nil=>cases h
 |cons x r=>exact⟨x,r,rfl,K6 h⟩
theorem FD{l:List α}(h:l.length=1):∃ a,l = [a]:=by
 obtain⟨a,r,rfl,e⟩:=xC h;exact⟨a,by rw[len_0 e]⟩
theorem FC{l:List α}(h:l.length=2):∃ a b,l = [a,b]:=by
 obtain⟨a,r,rfl,e⟩:=xC h;obtain⟨b,rfl⟩:=FD e;exact⟨a,b,rfl⟩
theorem len_3{l:List α}(h:l.length=3):∃ a b c,l = [a,b,c]:=by
 obtain⟨a,r,rfl,e⟩:=xC h;obtain⟨b,c,rfl⟩:=FC e;exact⟨a,b,c,rfl⟩
theorem FA{l:List α}(h:l.length=4):∃ a b c d,l = [a,b,c,d]:=by
 obtain⟨a,r,rfl,e⟩:=xC h;obtain⟨b,c,d,rfl⟩:=len_3 e;exact⟨a,b,c,d,rfl⟩
theorem len_5{l:List α}(h:l.length=5):∃ a b c d e,l = [a,b,c,d,e]:=by
 obtain⟨a,r,rfl,z⟩:=xC h;obtain⟨b,c,d,e,rfl⟩:=FA z;exact⟨a,b,c,d,e,rfl⟩
theorem len_6{l:List α}(h:l.length=6):∃ a b c d e f,l = [a,b,c,d,e,f]:=by
 obtain⟨a,r,rfl,z⟩:=xC h;obtain⟨b,c,d,e,f,rfl⟩:=len_5 z;exact⟨a,b,c,d,e,f,rfl⟩
end L2
namespace K8
theorem sub_le:∀{a b:List Nat},a.Nodup->(∀ x∈a,x∈b)->a.length<=b.length
 |[],_,_,_=>Hq _
 |x::a,b,H,h=>by
  obtain⟨E,G⟩:=Hj.mp H;have L:=h x (by simp)
  have D:=sub_le (a:=a) (b:=b.erase x) G λy Q=>(KA (λe:y=x=>E (e▸Q))).mpr (h y (GD _ Q));rw[Jw L]at D;have:0<b.length:=HU L;rw[GX];omega
theorem d7{a:List Nat}(nd:a.Nodup)(h:∀ x∈a,x<N):a.length<=N:=by
 have:=sub_le (b:=GW N) nd λx L=>Hk.mpr (h x L);rwa[Hc]at this
theorem Ec(nd:l.Nodup){x:Nat}(hi:l[i]?=some x)(B:l[j]?=some x):i=j:=by
 have p:=IA.mp nd;obtain⟨J,O⟩:=Gn.mp hi;obtain⟨Y,f⟩:=Gn.mp B;rcases Kf i j with z | z | z
 .exact Nh (O.trans f.symm) (p i j J Y z)
 .exact z
 .exact Nh (f.trans O.symm) (p j i Y J z)
abbrev En:=List (Nat×Nat)
structure fe(m:Nat)(es:En)(ts:List (List Nat)):Prop where
 len:ts.length=m
 ends:∀ e∈es,e.1<m/\e.2<m/\e.1≠e.2
 nd:∀(p:Nat)(l:List Nat),ts[p]?=some l->l.Nodup
 mem:∀(p:Nat)(l:List Nat),ts[p]?=some l->∀ t,t∈l↔∃ e,es[t]?=some e/\(e.1=p∨e.2=p)
theorem BX(m:Nat):fe m [] (GH m []) where
 len:=by simp
 ends:=λe h=>by cases h
 nd:=λp l h=>by
  rw[Ia]at h;split at h
  .cases h;exact IW
  .cases h
 mem:=λp l h t=>by
  rw[Ia]at h;split at h
  .cases h;simp
  .cases h
def ins(l:List Nat)(k x:Nat):List Nat:=l.take k++x::l.drop k
theorem AG{k x y:Nat}:y∈ins l k x↔y=x∨y∈l:=by
 unfold ins;rw[GU,GG];have:=Jl k l;constructor
 .rintro(h | h | h)
  .exact .inr (List.mem_of_mem_take h)
  .exact .inl h
  .exact .inr (Kz h)
 .rintro(h | h)
  .exact .inr (.inl h)
  .rw[← this]at h;rcases GU.mp h with z | z
   .exact .inl z
   .exact .inr (.inr z)
theorem El{k x:Nat}(nd:l.Nodup)(h:x∉l):(ins l k x).Nodup:=by
 unfold ins;have e:=Jl k l;rw[← e]at nd;obtain⟨a,b,c⟩:=HR.mp nd;refine HR.mpr ⟨a,Hj.mpr ⟨λz=>h (Kz z),b⟩,λy Q z g=>?_⟩;rcases GG.mp g with q | q
 .intro w;exact h (by rw[← q,← w];exact List.mem_of_mem_take Q)
 .exact c y Q z q
theorem fe.put{es:En}{one two k:Nat}(w:fe m es ts)(J:one<m)(h2:two<m)(T:one≠two)(e1:ts[one]?=some l)(f:ts[two]?=some l') :
  fe m (es++[(one,two)]) ((ts.set one (ins l k es.length)).set two (ins l' j es.length)):=by
 have a:∀{p l},ts[p]?=some l->es.length∉l:=λ{p l} e z=>by
  obtain⟨x,D,_⟩:=(w.mem p l e es.length).mp z;have:=(Gn.mp D).1;omega
 have get:∀ p q,((ts.set one (ins l k es.length)).set two (ins l' j es.length))[p]?=some q->(p=two/\q=ins l' j es.length)∨(p=one/\p≠two/\q=ins l k es.length)∨(p≠one/\p≠two/\ts[p]?=some q):=λp q e=>by
  have L:two<(ts.set one (ins l k es.length)).length:=by rw[Hx,w.len];exact h2
  have c:one<ts.length:=by rw[w.len];exact J
  rw[Jp]at e;by_cases z:two=p
  .rw[Nf z,Nf L]at e;exact .inl ⟨z.symm,(G3 e).symm⟩
  .rw[Ng z,Jp]at e;by_cases y:one=p
   .rw[Nf y,Nf c]at e;exact .inr (.inl ⟨y.symm,Ne.symm z,(G3 e).symm⟩)
   .rw[Ng y]at e;exact .inr (.inr ⟨Ne.symm y,Ne.symm z,e⟩)
 have b:∀ t x,(es++[(one,two)])[t]?=some x↔(es[t]?=some x)∨(t=es.length/\x=(one,two)):=λt x=>by
  by_cases z:t<es.length
  .rw[GB z];constructor
   .exact .inl
   .rintro(y | y)
    .exact y
    .omega
  .rw[Gz ∅]
   constructor
   .intro y;have C:=(Gn.mp y).1;rw[GO]at C;have n:t=es.length:=by omega
    subst n;rw[Hl]at y
    cases y
    exact .inr ⟨rfl,rfl⟩
   .rintro(y | ⟨y,rfl⟩)
    .have:=(Gn.mp y).1;omega
    .rw[y,Hl];rfl
 refine⟨by rw[Hx,Hx];exact w.len,λe r=>?_,λp q e=>?_,λp q e t=>?_⟩
 .rcases GU.mp r with z | z
  .exact w.ends e z
  .have:e=(one,two):=by simpa using z
   subst this;exact⟨J,h2,T⟩
 .rcases get p q e with⟨_,rfl⟩ | ⟨_,_,rfl⟩ | ⟨_,_,y⟩
  .exact El (w.nd two l' f) (a f)
  .exact El (w.nd one l e1) (a e1)
  .exact w.nd p q y
 .rcases get p q e with⟨rfl,rfl⟩ | ⟨rfl,d,rfl⟩ | ⟨E,G,y⟩
  .rw[AG,w.mem p l' f t];constructor
   .rintro(z | ⟨x,D,u⟩)
    .exact⟨(one,p),(b _ _).mpr (.inr ⟨z,rfl⟩),.inr rfl⟩
    .exact⟨x,(b _ _).mpr (.inl D),u⟩
   .rintro⟨x,D,u⟩;rcases(b _ _).mp D with z | ⟨z,_⟩
    .exact .inr ⟨x,z,u⟩
    .exact .inl z
  .rw[AG,w.mem p l e1 t];constructor
   .rintro(z | ⟨x,D,u⟩)
    .exact⟨(p,two),(b _ _).mpr (.inr ⟨z,rfl⟩),.inl rfl⟩
    .exact⟨x,(b _ _).mpr (.inl D),u⟩
   .rintro⟨x,D,u⟩;rcases(b _ _).mp D with z | ⟨z,_⟩
    .exact .inr ⟨x,z,u⟩
    .exact .inl z
  .rw[w.mem p q y t];constructor
   .rintro⟨x,D,u⟩;exact⟨x,(b _ _).mpr (.inl D),u⟩
   .rintro⟨x,D,u⟩;rcases(b _ _).mp D with z | ⟨z,rfl⟩
    .exact⟨x,z,u⟩
    .rcases u with u | u
     .exact Nh u.symm E
     .exact Nh u.symm G
def hd(es:En)(d:Nat):Nat:=match es[d/2]? with | some e=>if d%2=0 then e.2 else e.1 | none=>0
def tl(es:En)(d:Nat):Nat:=match es[d/2]? with | some e=>if d%2=0 then e.1 else e.2 | none=>0
def leave(es:En)(t p:Nat):Nat:=match es[t]? with | some e=>if e.1=p then 2*t else 2*t+1 | none=>0
def nxt(l:List Nat)(t:Nat):Nat:=(l[(l.idxOf t+1)%l.length]?).getD 0
def fol(es:En)(ts:List (List Nat))(d:Nat):Nat:=leave es (nxt ((ts[hd es d]?).getD []) (d/2)) (hd es d)
section
variable{m:Nat}{es:En}{ts:List (List Nat)}
theorem qm{t:Nat}(h:t∈l):l[l.idxOf t]?=some t:=by
 have C:=IZ.mpr h;rw[Gs C,List.getElem_idxOf]
theorem m9{t:Nat}(h:t∈l):l[(l.idxOf t+1)%l.length]?=some (nxt l t):=by
 have C:0<l.length:=HU h;have:=Lw (l.idxOf t+1) C;unfold nxt;rw[Gs this];rfl
theorem fe.at(w:fe m es ts){d:Nat}(h:d<2*es.length):∃ e l,es[d/2]?=some e/\hd es d=(if d%2=0 then e.2 else e.1)/\tl es d=(if d%2=0 then e.1 else e.2)/\hd es d<m/\ts[hd es d]?=some l/\d/2∈l:=by
 have C:d/2<es.length:=by omega
 have O:es[d/2]?=some es[d/2]:=Gs C;have q:=w.ends _ (Gv O);generalize es[d/2]=e at O q;have J:hd es d=(if d%2=0 then e.2 else e.1):=by unfold hd;rw[O]
 have Y:tl es d=(if d%2=0 then e.1 else e.2):=by unfold tl;rw[O]
 have g:hd es d<m:=by rw[J];split<;>omega
 have o:ts[hd es d]?=some (ts[hd es d]'(by rw[w.len];exact g)):=Gs _
 refine⟨e,_,O,J,Y,g,o,(w.mem _ _ o _).mpr ⟨e,O,?_⟩⟩;rw[J];split
 .exact .inr rfl
 .exact .inl rfl
theorem fe.foll(w:fe m es ts){d:Nat}(h:d<2*es.length):∃ l e,ts[hd es d]?=some l/\d/2∈l/\es[nxt l (d/2)]?=some e/\(e.1=hd es d∨e.2=hd es d)/\e.1≠e.2/\fol es ts d=(if e.1=hd es d then 2*nxt l (d/2) else 2*nxt l (d/2)+1)/\fol es ts d<2*es.length/\fol es ts d/2=nxt l (d/2)/\tl es (fol es ts d)=hd es d:=by
 obtain⟨O,l,J,Y,g,o,s,C⟩:=w.at h;have T:=m9 C;obtain⟨e,r,j⟩:=(w.mem _ _ s _).mp (Gv T);have f:=(Gn.mp r).1;have c:=(w.ends e (Gv r)).2.2;have D:fol es ts d=(if e.1=hd es d then 2*nxt l (d/2) else 2*nxt l (d/2)+1):=by
  unfold fol;rw[s];show leave es (nxt l (d/2)) (hd es d)=_;unfold leave;rw[r]
 refine⟨l,e,s,C,r,j,c,D,?_,?_,?_⟩
 .rw[D];split<;>omega
 .rw[D];split<;>omega
 .rw[D];by_cases z:e.1=hd es d
  .have u:2*nxt l (d/2)/2=nxt l (d/2):=by omega
   have I:2*nxt l (d/2)%2=0:=by omega
   rw[Nf z];unfold tl;rw[u,r];show(if 2*nxt l (d/2)%2=0 then e.1 else e.2)=_;rw[Nf I,z]
  .have u:(2*nxt l (d/2)+1)/2=nxt l (d/2):=by omega
   have I:¬ (2*nxt l (d/2)+1)%2=0:=by omega
   rw[Ng z];unfold tl;rw[u,r];show(if(2*nxt l (d/2)+1)%2=0 then e.1 else e.2)=_;rw[Ng I];exact j.elim (λy=>Nh y z) id
theorem fe.inj(w:fe m es ts){a b:Nat}(E:a<2*es.length)(M:b<2*es.length)(h:fol es ts a=fol es ts b):a=b:=by
 obtain⟨l,e,i,C,_,_,_,_,_,p,s⟩:=w.foll E;obtain⟨A,Q,t,Y,_,_,_,_,_,J,D⟩:=w.foll M;have k:hd es a=hd es b:=by rw[← s,← D,h]
 rw[k,t]at i
 cases i
 have L:nxt l (a/2)=nxt l (b/2):=by rw[← p,← J,h]
 have B:=m9 C;have v:=m9 Y;rw[L]at B;have T:=Ec (w.nd _ _ t) B v;have I:=IZ.mpr C;have z:=IZ.mpr Y;have q:l.idxOf (a/2)=l.idxOf (b/2):=by
  generalize l.idxOf (a/2)=x at *;generalize l.idxOf (b/2)=y at *;by_cases u:x+1=l.length
  .by_cases N:y+1=l.length
   .omega
   .rw[u,JJ,Ih ∅]at T;omega
  .by_cases N:y+1=l.length
   .rw[N,JJ,Ih ∅]at T;omega
   .rw[Ih ∅,Ih ∅]at T;omega
 have n:a/2=b/2:=by
  have H:=qm C;have d:=qm Y;rw[q,d]at H;exact(G3 H).symm
 obtain⟨O,_,j,o,_,_,_,_⟩:=w.at E;obtain⟨f,_,g,G,_,_,_,_⟩:=w.at M;rw[n,g]at j;have r:f=O:=G3 j;rw[r]at g G;have c:=(w.ends O (Gv g)).2.2;rw[o,G]at k;have:a%2=b%2:=by
  by_cases u:a%2=0<;>by_cases N:b%2=0
  .omega
  .rw[Nf u,Ng N]at k;exact Nh k.symm c
  .rw[Ng u,Nf N]at k;exact Nh k c
  .omega
 omega
end
structure BP(f:Nat->Nat)(N:Nat):Prop where
 lt:∀ d,d<N->f d<N
 inj:∀ a b,a<N->b<N->f a=f b->a=b
structure Path(f:Nat->Nat)(N first:Nat)(r:List Nat):Prop where
 hd:r[0]?=some first
 lt:∀ d∈r,d<N
 nd:r.Nodup
 nx:∀ i x y,r[i]?=some x->r[i+1]?=some y->y=f x
theorem Cj{f:Nat->Nat}{d:Nat}(h:d<N):Path f N d [d] where
 hd:=rfl
 lt:=λx L=>by have:x=d:=by simpa using L
              rw[this];exact h
 nd:=by simp
 nx:=λi x y J Y=>by
  have:=(Gn.mp Y).1;rw[GO]at this;omega
theorem Path.snoc{f:Nat->Nat}{d x:Nat}{r:List Nat}(p:BP f N)(h:Path f N d (r++[x]))(t:f x≠d):Path f N d (r++[x]++[f x]) where
 hd:=by rw[GB (by rw[Gx,GO];omega)];exact h.hd
 lt:=λy Q=>by
  rcases GU.mp Q with z | z
  .exact h.lt y z
  .have:y=f x:=by simpa using z
   rw[this];exact p.lt x (h.lt x (by simp))
 nd:=by
  refine HR.mpr ⟨h.nd,by simp,λa E b M e=>?_⟩
  have B:b=f x:=by simpa using M
  subst B;obtain⟨i,T⟩:=Il.mp E;rw[e]at T;have c:=(Gn.mp T).1;rw[Gx,GO]at c
  cases i with
  |zero =>
   rw[h.hd]at T;exact t (G3 T).symm
  |succ i =>
   have g:(r++[x])[i]?=some ((r++[x])[i]'(by rw[Gx,GO];omega)):=Gs _
   have:=h.nx i _ _ g T;have l:=h.lt _ (Gv g);have n:=h.lt x (by simp)
   have G:=p.inj _ _ n l this;rw[← G]at g;have m:(r++[x])[r.length]?=some x:=by rw[Gz (Gy _),Hl];rfl
   have:=Ec h.nd g m;omega
 nx:=λi a b J Y=>by
  have k:=(Gn.mp Y).1;rw[Gx,Gx,GO,GO]at k;rw[GB (by rw[Gx,GO];omega)]at J
  by_cases z:i+1<(r++[x]).length
  .rw[GB z]at Y;exact h.nx i a b J Y
  .rw[Gx,GO]at z;have j:i=r.length:=by omega
   subst j;rw[Gz (by rw[Gx,GO];omega)]at Y
   have:r.length+1-(r++[x]).length=0:=by rw[Gx,GO];omega
   rw[this]at Y;rw[Gz (Gy _),Hl]at J;have O:x=a:=G3 J;have G:f x=b:=G3 Y;rw[← G,O]
structure Ring(f:Nat->Nat)(N:Nat)(r:List Nat):Prop where
 lt:∀ d∈r,d<N
 nd:r.Nodup
 ne:0<r.length
 nx:∀ i x,r[i]?=some x->r[(i+1)%r.length]?=some (f x)
theorem Path.ring{f:Nat->Nat}{d x:Nat}{r:List Nat}(p:BP f N)(h:Path f N d (r++[x]))(he:f x=d):Ring f N (r++[x]) where
 lt:=h.lt
 nd:=h.nd
 ne:=by rw[Gx,GO];omega
 nx:=λi y Q=>by
  have C:=(Gn.mp Q).1;by_cases z:i+1=(r++[x]).length
  .rw[z,JJ];have:i=r.length:=by rw[Gx,GO]at z;omega
   subst this;rw[Gz (Gy _),Hl]at Q;have:x=y:=G3 Q;subst this;rw[he];exact h.hd
  .have v:i+1<(r++[x]).length:=by omega
   rw[Ih v];have g:=Gs v;rw[g,h.nx i _ _ Q g]
theorem Ring.back{f:Nat->Nat}{a:Nat}{r:List Nat}(p:BP f N)(h:Ring f N r)(E:a<N)(D:f a∈r):a∈r:=by
 obtain⟨i,T⟩:=Il.mp D;have C:=(Gn.mp T).1;have u:∃ j,j<r.length/\(j+1)%r.length=i:=by
  cases i with
  |zero=>exact⟨r.length-1,by have:=h.ne;omega,by have:=h.ne;rw[show r.length-1+1=r.length by omega,JJ]⟩
  |succ i=>exact⟨i,∅,Ih C⟩
 obtain⟨j,B,d⟩:=u;have g:=Gs B;have q:=h.nx j _ g;rw[d,T]at q;have b:=h.lt _ (Gv g);have:=p.inj _ _ E b (G3 q);rw[this];exact Gv g
structure cP(f:Nat->Nat)(N i:Nat)(rs:List (List Nat)):Prop where
 ring:∀ r∈rs,Ring f N r
 hdl:∀ r∈rs,∀ h,r[0]?=some h->h<i/\∀ d∈r,h<=d
 asc:∀(a b:Nat)(r r':List Nat)(h h':Nat),a<b->rs[a]?=some r->rs[b]?=some r'->r[0]?=some h->r'[0]?=some h'->h<h'
 nd:rs.flatten.Nodup
 all:∀ d,d<i->d∈rs.flatten
theorem xk(f:Nat->Nat)(N:Nat):cP f N 0 [] where
 ring:=λr h=>by cases h
 hdl:=λr h=>by cases h
 asc:=λa b r v h j _ e=>by cases e
 nd:=by simp
 all:=λd h=>by omega
theorem cP.skip{f:Nat->Nat}(w:cP f N i rs)(h:i∈rs.flatten):cP f N (i+1) rs where
 ring:=w.ring
 hdl:=λr B x L=>⟨by have:=(w.hdl r B x L).1;omega,(w.hdl r B x L).2⟩
 asc:=w.asc
 nd:=w.nd
 all:=λd hd=>by
  by_cases z:d=i
  .rw[z];exact h
  .exact w.all d ∅
theorem cP.put{f:Nat->Nat}{r:List Nat}(p:BP f N)(w:cP f N i rs)(h:i∉rs.flatten)(hi:i<N)(hr:Ring f N r)(c:Path f N i r):cP f N (i+1) (rs++[r]):=by
 have apart:∀(k x:Nat),r[k]?=some x->x∉rs.flatten:=λk=>by
  induction k with
  |zero =>
   intro x L;rw[c.hd]at L
   cases L
   exact h
  |succ k D =>
   intro x L z;have C:=(Gn.mp L).1;have g:=Gs (show k<r.length by omega)
   have e:=c.nx k _ _ g L;obtain⟨q,n,j⟩:=HJ.mp z;rw[e]at j;exact D _ g (HJ.mpr ⟨q,n,(w.ring q n).back p (hr.lt _ (Gv g)) j⟩)
 have uD:∀ d∈r,i<=d:=λd hd=>by
  obtain⟨k,G⟩:=Il.mp hd;by_cases z:i<=d
  .exact z
  .exact Nh (w.all d ∅) (apart k d G)
 refine⟨λq n=>?_,λq n x L=>?_,λa b q O x H m E M L l=>?_,?_,λd hd=>?_⟩
 .rcases GU.mp n with z | z
  .exact w.ring q z
  .have:q=r:=by simpa using z
   rw[this];exact hr
 .rcases GU.mp n with z | z
  .have:=w.hdl q z x L
   exact⟨∅,this.2⟩
  .have e:q=r:=by simpa using z
   subst e;rw[c.hd]at L
   cases L
   exact⟨∅,uD⟩
 .have bl:=(Gn.mp M).1
  rw[Gx,GO]at bl;rw[GB ∅]at E
  by_cases z:b<rs.length
  .rw[GB z]at M;exact w.asc a b q O x H m E M L l
  .have B:b=rs.length:=by omega
   subst B;rw[Gz (Gy _),Hl]at M;have e:r=O:=G3 M;subst e;rw[c.hd]at l
   cases l
   exact(w.hdl q (Gv E) x L).1
 .rw[Ju];have e : [r].flatten=r:=by simp
  rw[e];refine HR.mpr ⟨w.nd,hr.nd,λa E b M e=>?_⟩;obtain⟨k,G⟩:=Il.mp M;exact apart k b G (e▸E)
 .rw[Ju,GU];by_cases z:d=i
  .right;rw[z];simp;exact Gv c.hd
  .exact .inl (w.all d ∅)
theorem kS(nd:rs.flatten.Nodup){a b:Nat}{r r':List Nat}{d:Nat}(E:rs[a]?=some r)(M:rs[b]?=some r')(J:d∈r)(h2:d∈r'):a=b:=by
 induction rs generalizing a b with
 |nil=>cases E
 |cons q rs D =>
  rw[K0]at nd;obtain⟨_,G,x⟩:=HR.mp nd
  cases a with
  |zero =>
   cases b with
   |zero=>rfl
   |succ b =>
    have e:q=r:=G3 E;subst e;exact Nh rfl (x d J d (HJ.mpr ⟨r',Gv M,h2⟩))
  |succ a =>
   cases b with
   |zero =>
    have e:q=r':=G3 M;subst e;exact Nh rfl (x d h2 d (HJ.mpr ⟨r,Gv E,J⟩))
   |succ b=>exact congrArg Nat.succ (D G E M)
def chain(f:Nat->Nat):Nat->List Nat->Nat->Prop
 |x,[],z=>f x=z
 |x,y::l,z=>f x=y/\chain f y l z
theorem gp{f:Nat->Nat}:∀{x:Nat}{l:List Nat}{y:Nat}{k:List Nat}{z:Nat},chain f x (l++y::k) z↔chain f x l y/\chain f y k z
 |x,[],y,k,z=>Iff.rfl
 |x,a::l,y,k,z=>by
  show(f x=a/\chain f a (l++y::k) z)↔(f x=a/\chain f a l y)/\chain f y k z;rw[gp,and_assoc]
theorem nG{f:Nat->Nat}{S:Nat->Prop}:∀{x:Nat}{l:List Nat}{z:Nat},chain f x l z->(∀ t∈x::l,S t->S (f t))->S x->S z/\∀ t∈l,S t
 |x,[],z,h,k,s=>⟨by have:=k x (GN ..) s;rwa[show f x=z from h]at this,λt n=>nomatch n⟩
 |x,a::l,z,h,k,s=>by
  have g:S a:=by have:=k x (GN ..) s;rwa[h.1]at this
  obtain⟨J,Y⟩:=nG h.2 (λt n=>k t (GD _ n)) g;refine⟨J,λt n=>?_⟩;rcases GG.mp n with y | y
  .rw[y];exact g
  .exact Y t y
structure CR(f:Nat->Nat)(N:Nat)(r:List Nat):Prop where
 ch:∃ x l,r=x::l/\chain f x l x
 lt:∀ d∈r,d<N
 nd:r.Nodup
theorem CR.closed{f:Nat->Nat}{r:List Nat}(h:CR f N r):∀ d∈r,f d∈r:=by
 obtain⟨x,l,rfl,c⟩:=h.ch;intro d hd;rcases GG.mp hd with y | y
 .subst y
  cases l with
  |nil=>rw[show f d=d from c];exact GN ..
  |cons a l=>rw[c.1];simp
 .obtain⟨A,B,rfl⟩:=List.append_of_mem y;have c2:=(gp.mp c).2
  cases B with
  |nil=>rw[show f d=x from c2];exact GN ..
  |cons a B=>rw[c2.1];simp
theorem CR.sub{f:Nat->Nat}{r:List Nat}{S:Nat->Prop}(h:CR f N r)(k:∀ t∈r,S t->S (f t)){d:Nat}(hd:d∈r)(s:S d):∀ t∈r,S t:=by
 obtain⟨x,l,rfl,c⟩:=h.ch;have a:S x->∀ t∈x::l,S t:=λb t n=>by
  rcases GG.mp n with y | y
  .rw[y];exact b
  .exact(nG c k b).2 t y
 rcases GG.mp hd with y | y
 .exact a (y▸s)
 .obtain⟨A,B,rfl⟩:=List.append_of_mem y;have c2:=(gp.mp c).2;exact a (nG c2 (λt n=>k t (by simp only[GG,GU]at n ⊢;rcases n with z | z<;>simp[z])) s).1
theorem CR.same{f:Nat->Nat}{r r':List Nat}(h:CR f N r)(h':CR f N r'){d:Nat}(J:d∈r)(h2:d∈r'):∀ t∈r,t∈r':=h.sub (S:=λt=>t∈r') (λt _=>h'.closed t) J h2
theorem CR.ne{f:Nat->Nat}{r:List Nat}(h:CR f N r):∃ d,d∈r:=by
 obtain⟨x,l,rfl,_⟩:=h.ch;exact⟨x,GN ..⟩
structure Part(f:Nat->Nat)(N:Nat)(rs:List (List Nat)):Prop where
 cr:∀ r∈rs,CR f N r
 nd:rs.flatten.Nodup
 all:∀ d,d<N->d∈rs.flatten
theorem Part.same:∀{rs qs:List (List Nat)}{f:Nat->Nat}{N:Nat},Part f N rs->Part f N qs->rs.length=qs.length:=by
 have le:∀(k:Nat){rs qs:List (List Nat)}{f:Nat->Nat}{N:Nat},Part f N rs->Part f N qs->rs.length<=qs.length:=by
  intro _ rs qs f N p q;have g:∀ r∈rs,∃ i,i<qs.length/\∃ v,qs[i]?=some v/\∀ t∈v,t∈r:=λr B=>by
   have c:=p.cr r B;obtain⟨d,hd⟩:=c.ne;obtain⟨v,n,x⟩:=HJ.mp (q.all d (c.lt d hd));obtain⟨i,T⟩:=Il.mp n;exact⟨i,(Gn.mp T).1,v,T,(q.cr v n).same c x hd⟩
  have:∀(l:List (List Nat)),(∀ r∈l,r∈rs)->l.flatten.Nodup->∃ is:List Nat,is.length=l.length/\is.Nodup/\∀ i∈is,i<qs.length/\∃ r∈l,∃ v,qs[i]?=some v/\∀ t∈v,t∈r:=λl=>by
   induction l with
   |nil=>intro _ _;exact⟨[],rfl,IW,λi T=>nomatch T⟩
   |cons r l D =>
    intro h H;rw[K0]at H;obtain⟨E,a,m⟩:=HR.mp H;obtain⟨is,O,G,Q⟩:=D (λr B=>h r (GD _ B)) a;obtain⟨i,J,v,Y,u⟩:=g r (h r (GN ..));refine⟨i::is,by simp[O],Hj.mpr ⟨λz=>?_,G⟩,λj b=>?_⟩
    .obtain⟨_,o,x,A,e,s⟩:=Q i z;rw[Y]at e
     cases e
     obtain⟨d,hd⟩:=(q.cr v (Gv Y)).ne;exact m d (u d hd) d (HJ.mpr ⟨o,x,s d hd⟩) rfl
    .rcases GG.mp b with z | z
     .subst z;exact⟨J,r,GN ..,v,Y,u⟩
     .obtain⟨I,o,w,y⟩:=Q j z;exact⟨I,o,GD _ w,y⟩
  obtain⟨is,O,G,Q⟩:=this rs (λ_ h=>h) p.nd;rw[← O];exact d7 G λi T=>(Q i T).1
 intro rs qs f N p q;exact Nat.le_antisymm (le 0 p q) (le 0 q p)
theorem Ring.cr{f:Nat->Nat}{r:List Nat}(h:Ring f N r):CR f N r:=by
 refine⟨?_,h.lt,h.nd⟩;have ne:=h.ne;match r,h,ne with
 |x::l,h,_ =>
  refine⟨x,l,rfl,?_⟩;have u:∀(k i:Nat)(y:Nat),i+k+1=(x::l).length->(x::l)[i]?=some y->chain f y ((x::l).drop (i+1)) x:=λk=>by
   induction k with
   |zero =>
    intro i y T Q;have e:=h.nx i y Q;rw[show(i+1)%(x::l).length=0 by rw[← T];simp]at e
    rw[List.drop_of_length_le ∅]
    exact(G3 e).symm
   |succ k D =>
    intro i y T Q;have e:=h.nx i y Q;rw[Ih ∅]at e
    obtain⟨C,G⟩:=Gn.mp e;rw[Ka C,G];exact⟨rfl,D (i+1) (f y) ∅ e⟩
  exact u l.length 0 x (by simp) rfl
theorem cP.part{f:Nat->Nat}(w:cP f N N rs):Part f N rs:=⟨λr B=>(w.ring r B).cr,w.nd,w.all⟩
theorem AI{A B:List Nat}{t:Nat}(h:t∉A):(A++t::B).idxOf t=A.length:=by
 rw[List.idxOf_append,Ng h,List.idxOf_cons_self,Nat.zero_add]
theorem rT{A B:List Nat}{t:Nat}(h:t∉A):nxt (A++t::B) t=((B++(A++t::B)).head?).getD 0:=by
 unfold nxt;rw[AI h]
 cases B with
 |nil =>
  have e:(A.length+1)%(A++[t]).length=0:=by rw[Gx,GO,JJ]
  rw[e,List.nil_append,List.head?_eq_getElem?]
 |cons b B =>
  have e:(A.length+1)%(A++t::b::B).length=A.length+1:=Ih (by simp)
  rw[e,Gz ∅]
  rw[show A.length+1-A.length=1 by omega]
  rfl
theorem B1{u:Nat}(h:u∈l):∃ A B,l=A++u::B/\u∉A:=by
 induction l with
 |nil=>exact nomatch h
 |cons a l D =>
  by_cases z:a=u
  .subst z;exact⟨[],l,rfl,Jt⟩
  .rcases GG.mp h with y | y
   .exact Nh y.symm z
   .obtain⟨A,B,rfl,k⟩:=D y;exact⟨a::A,B,rfl,λw=>by rcases GG.mp w with w | w;exact z w.symm;exact k w⟩
theorem qv{es:En}{d:Nat}(h:ts[hd es d]?=some l):fol es ts d=leave es (nxt l (d/2)) (hd es d):=by
 unfold fol;rw[h];rfl
def par(S:Nat->Bool):List Nat->Bool
 |[]=>false
 |d::l=>S (d/2) ^^ par S l
theorem aM(S:Nat->Bool)(d:Nat)(l:List Nat):par S (d::l)=(S (d/2) ^^ par S l):=rfl
theorem uk(S:Nat->Bool):∀ a b:List Nat,par S (a++b)=(par S a ^^ par S b)
 |[],b=>by show par S b=(false ^^ par S b);rw[Kb]
 |x::a,b=>by rw[Lb,aM,aM,uk S a b,Lu]
theorem Ck(S:Nat->Bool){a b:List Nat}(p:a.Perm b):par S a=par S b:=by
 induction p with
 |nil=>rfl
 |cons x _ D=>rw[aM,aM,D]
 |swap x y l=>rw[aM,aM,aM,aM,← Lu,← Lu,KS (S (y/2))]
 |trans _ _ a b=>exact a.trans b
def BR(es:En)(S i:Nat->Bool):Prop:=∀(t:Nat)(e:Nat×Nat),es[t]?=some e->S t=(i e.1 ^^ i e.2)
theorem wV{es:En}{S i:Nat->Bool}(h:BR es S i){d:Nat}(f:d<2*es.length):S (d/2)=(i (tl es d) ^^ i (hd es d)):=by
 have O:es[d/2]?=some (es[d/2]'∅):=Gs _
 rw[h _ _ O];unfold tl hd;rw[O];show _=(i (if d%2=0 then es[d/2].1 else es[d/2].2) ^^ i (if d%2=0 then es[d/2].2 else es[d/2].1));split
 .rfl
 .exact KS _ _
theorem wR{m:Nat}{es:En}{ts:List (List Nat)}{S i:Nat->Bool}(w:fe m es ts)(h:BR es S i):∀{x:Nat}{l:List Nat}{z:Nat},chain (fol es ts) x l z->x<2*es.length->(∀ t∈l,t<2*es.length)->z<2*es.length->par S (l++[z])=(i (hd es x) ^^ i (hd es z))
 |x,[],z,c,L,_,g=>by
  obtain⟨_,_,_,_,_,_,_,_,_,_,k⟩:=w.foll L;have G:fol es ts x=z:=c;rw[List.nil_append,aM,wV h g,← G,k];exact IB _
 |x,a::l,z,c,L,C,g=>by
  obtain⟨_,_,_,_,_,_,_,_,_,_,k⟩:=w.foll L;have E:=C a (GN ..);rw[Lb,aM,wR w h c.2 E (λt n=>C t (GD _ n)) g,wV h E,← c.1,k]
  cases i (hd es x)<;>cases i (hd es (fol es ts x))<;>cases i (hd es z)<;>rfl
structure Gr(m:Nat)(es:En)(ts:List (List Nat)):Prop where
 w:fe m es ts
 part:∃ rs,Part (fol es ts) (2*es.length) rs/\m+rs.length=es.length+2
 conn:∀ S:Nat->Prop,(∀ e∈es,S e.1↔S e.2)->∀ p q,p<m->q<m->S p->S q
theorem z8{F:Nat->Nat}{t:Nat}(ht:t∈l)(h:∀ x∈l,F x=F t->x=t):nxt (l.map F) (F t)=F (nxt l t):=by
 obtain⟨A,B,rfl,k⟩:=B1 ht;have N:F t∉A.map F:=λz=>by
  obtain⟨x,L,e⟩:=Hn.mp z;exact k (h x (by simp[L]) e▸L)
 rw[GK,G7,rT N,rT k]
 cases B<;>cases A<;>rfl
section
variable{m:Nat}{es es2:En}{ts ts2:List (List Nat)}{π σ:Nat->Nat}
theorem Ed(w:fe m es ts){p:Nat}(h:ts[p]?=some l){t:Nat}(ht:t∈l):t<es.length:=by
 obtain⟨x,L,_⟩:=(w.mem p l h t).mp ht;exact(Gn.mp L).1
end
end K8
variable{es:K8.En}
namespace K8
open PySem L2
def top(i:Nat):Stmt:=PySem.Challenge.pw_spinfloor_k74_rough_webs_refused.main.body.getD i (.Pass ⟨0,0,0,0⟩)
abbrev jM:Stmt:=top 14
abbrev jL:Stmt:=top 16
abbrev i5:Stmt:=top 44
abbrev pq:Stmt:=top 45
abbrev pz:Stmt:=top 46
abbrev gH:Stmt:=top 47
abbrev fG:Stmt:=top 48
abbrev i7:Stmt:=top 49
abbrev kE:Stmt:=top 51
abbrev kD:Stmt:=top 54
abbrev tZ:Stmt:=top 55
abbrev mX:Stmt:=top 56
abbrev cz:Stmt:=kQ (top 58) 0
abbrev dJ:Stmt:=kQ (top 58) 1
abbrev bq:Stmt:=kQ (top 58) 2
abbrev cy:Stmt:=kQ (top 58) 5
abbrev cU:Stmt:=kQ (top 60) 0
abbrev zf:Stmt:=top 62
abbrev mT:Stmt:=top 63
abbrev kJ:Stmt:=top 64
abbrev gG:Stmt:=top 65
abbrev i6:Stmt:=top 66
abbrev kC:Stmt:=top 67
abbrev fH:Stmt:=top 69
abbrev eY:Stmt:=top 70
abbrev dQ:Stmt:=top 71
abbrev cx:Stmt:=kQ (top 72) 0
abbrev ze:Stmt:=top 74
abbrev kH:Stmt:=top 76
abbrev mU:Stmt:=top 77
abbrev mV:Stmt:=top 78
abbrev i8:Stmt:=top 79
abbrev i9:Stmt:=top 80
abbrev kG:Stmt:=top 81
abbrev pA:Stmt:=top 82
def tf(a b s:Int):List (Str×V):=putF "strength" (.int s) (putF "two" (.int b) (putF "one" (.int a) []))
theorem iT(a b s:Int):(tf a b s).lookup ("one" : Str)=some (.int a):=by
 unfold tf;rw[az,Ng (by decide),az,Ng (by decide),az,Nf rfl]
theorem mJ(a b s:Int):(tf a b s).lookup ("two" : Str)=some (.int b):=by
 unfold tf;rw[az,Ng (by decide),az,Nf rfl]
theorem DN(a b s:Int):(tf a b s).lookup ("strength" : Str)=some (.int s):=by
 unfold tf;rw[az,Nf rfl]
theorem mK(a b s:Int){m:Str} (J:¬ m = "strength") (h2:¬ m = "two") (g:¬ m = "one"):(tf a b s).lookup m=none:=by
 unfold tf;rw[az,Ng J,az,Ng h2,az,Ng g]
 all_goals rfl
theorem f1_len(a:Int):(putF "one" (.int a) []).length<1000:=by show 1<1000;decide
theorem f2_len(a b:Int):(putF "two" (.int b) (putF "one" (.int a) [])).length<1000:=by
 have e:(putF "two" (.int b) (putF "one" (.int a) []):List (Str×V))=([("one",.int a),("two",.int b)]:List (Str×V)):=by
  show(if("one" : Str) = "two" then[(("one" : Str),V.int b)] else(("one" : Str),V.int a)::putF "two" (V.int b) [])=_;rw[Ng (by decide)]
  all_goals rfl
 rw[e];show 2<1000;decide
structure CT(K:Gw)(C:Addr):Prop where
 cl:Cls K C
 n1:eQ K C "one"
 n2:eQ K C "two"
 n3:eQ K C "strength"
inductive kZ(K:Gw)(vs:List L2.V)(H:L2.Hp)(Q:L2.VK)(x3_:L2.XK):Prop
 |mk (p C dx:Addr)(a b s:Int) (h0_:vs = [.ref p,.int a,.int b,.int s])(h1_:H p=some (.ins C dx []))(h2_:CT K C)(h3_:a≠b)(h4_:0<=a)(h5_:0<=b)(h6_:0<=s)(h7_:∀ H',H' p=some (.ins C dx (tf a b s))->(∀ q o,H q=some o->q≠p->H' q=some o)->Q .non H')
theorem ai(h:H p=none)(o:HO):Same H (upd H p o):=λb u q=>by rw[ao (ax q h)];exact q
theorem aH{l:Addr}(h:Same H H2)(hl:H l=none)(o:HO):Same H (upd H2 l o):=λb u q=>by rw[ao (ax q hl)];exact h b u q
def iV(p:Nat):V:=.int (p:Int)
theorem iV_at{k x:Nat}(h:l[k]?=some x):atI (l.map iV) (k:Int)=some (iV x):=aG (by rw[GC,h];rfl)
def nU(H:Hp)(ys:List V)(es:En):Prop:=ys.length=es.length/\∀(i:Nat)(e:Nat×Nat),es[i]?=some e->∃ p,ys[i]?=some (.ref p)/\H p=some (.tup [iV e.1,iV e.2])
theorem nU.mono(h:nU H ys es)(s:Same H H'):nU H' ys es:=⟨h.1,λi e q=>by
 obtain⟨p,a,b⟩:=h.2 i e q
 exact⟨p,a,s _ _ b⟩⟩
def dD(K:Gw)(H:Hp)(xs:List V)(es:En):Prop:=xs.length=es.length/\∀(i:Nat)(e:Nat×Nat),es[i]?=some e->∃ p C n s,xs[i]?=some (.ref p)/\H p=some (.ins C n (tf (e.1:Int) (e.2:Int) s))/\CT K C
theorem dD.mono(t:dD K H xs es)(h:Same H H'):dD K H' xs es:=⟨t.1,λi e q=>by
 obtain⟨p,C,n,s,a,b,d⟩:=t.2 i e q
 exact⟨p,C,n,s,a,h _ _ b,d⟩⟩
def bW(H:Hp)(xs:List V)(ts:List (List Nat)):Prop:=xs.length=ts.length/\∀(i:Nat)(l:List Nat),ts[i]?=some l->∃ p,xs[i]?=some (.ref p)/\H p=some (.lst (l.map iV))
theorem bW.mono(h:bW H xs ts)(s:Same H H'):bW H' xs ts:=⟨h.1,λi e q=>by
 obtain⟨p,a,b⟩:=h.2 i e q
 exact⟨p,a,s _ _ b⟩⟩
theorem bW.snoc(h:bW H xs ts)(e:H q=some (.lst (l.map iV))):bW H (xs++[.ref q]) (ts++[l]):=by
 refine⟨by rw[Gx,Gx,h.1];rfl,λj k d=>?_⟩
 by_cases B:j<ts.length
 .rw[GB B]at d;obtain⟨p,u,I⟩:=h.2 j k d;exact⟨p,by rw[GB (by rw[h.1];exact B)];exact u,I⟩
 .rw[Gz ∅]at d
  have c:j=ts.length:=by
   have:=(Gn.mp d).1;rw[GO]at this;omega
  subst c;rw[Hl]at d
  cases d
  exact⟨q,by rw[← h.1,Gz (Gy _),Hl];rfl,e⟩
def bw(S:Addr->Prop)(H:Hp)(xs:List V)(ts:List (List Nat)):Prop:=xs.length=ts.length/\∀(i:Nat)(l:List Nat),ts[i]?=some l->∃ p,xs[i]?=some (.ref p)/\¬ S p/\H p=some (.lst (l.map iV))
theorem bw.mono{S:Addr->Prop}(h:bw S H xs ts)(s:∀ b u,¬ S b->H b=some u->H' b=some u):bw S H' xs ts:=⟨h.1,λi e q=>by
 obtain⟨p,a,n,b⟩:=h.2 i e q
 exact⟨p,a,n,s _ _ n b⟩⟩
theorem bw.off{S:Addr->Prop}(h:bw S H xs ts):bW H xs ts:=⟨h.1,λi e q=>by
 obtain⟨p,a,n,b⟩:=h.2 i e q
 exact⟨p,a,b⟩⟩
theorem bw.snoc{S:Addr->Prop}(h:bw S H xs ts)(n:¬ S q)(e:H q=some (.lst (l.map iV))):bw S H (xs++[.ref q]) (ts++[l]):=by
 refine⟨by rw[Gx,Gx,h.1];rfl,λj k d=>?_⟩
 by_cases B:j<ts.length
 .rw[GB B]at d;obtain⟨p,u,I⟩:=h.2 j k d;exact⟨p,by rw[GB (by rw[h.1];exact B)];exact u,I⟩
 .rw[Gz ∅]at d
  have c:j=ts.length:=by
   have:=(Gn.mp d).1;rw[GO]at this;omega
  subst c;rw[Hl]at d
  cases d
  exact⟨q,by rw[← h.1,Gz (Gy _),Hl];rfl,n,e⟩
theorem qw{f:Nat->Nat}(w:cP f N i rs):rs.flatten.length<=N:=d7 w.nd λx L=>by
 obtain⟨r,J,Y⟩:=HJ.mp L;exact(w.ring r J).lt x Y
theorem wc{f:Nat->Nat}(w:cP f N i rs):rs.length<=N:=by
 have h:∀(l:List (List Nat)),(∀ r∈l,0<r.length)->l.length<=l.flatten.length:=λl=>by
  induction l with
  |nil=>intro _;exact Gy _
  |cons a l D =>
   intro h;rw[K0,Gx,GX];have J:=h a (GN ..);have Y:=D λr B=>h r (GD _ B);omega
 exact Hy (h rs λr B=>(w.ring r B).ne) (qw w)
structure TT(K:Gw)(H:Hp)(a b:Addr)(m:Nat)(es:En)(ts:List (List Nat)):Prop where
 xs:∃ xs,SqL K H a xs/\dD K H xs es
 ys:∃ ys,SqL K H b ys/\bW H ys ts
 w:fe m es ts
 few:es.length<=62
theorem TT.mono{K:Gw}{H H':Hp}{a b:Addr}{m:Nat}{es:En}{ts:List (List Nat)}(t:TT K H a b m es ts)(s:Same H H'):TT K H' a b m es ts:=by
 obtain⟨⟨N,J,Y⟩,⟨d,g,o⟩,w,f⟩:=t;exact⟨⟨N,s.seq J,Y.mono s⟩,⟨d,s.seq g,o.mono s⟩,w,f⟩
theorem w8(w:fe m es ts)(f:es.length<=62){p:Nat}(h:ts[p]?=some l):(∀ t∈l,t<62)/\l.length<=62:=by
 have a:∀ t∈l,t<es.length:=λt n=>by
  obtain⟨e,r,_⟩:=(w.mem p l h t).mp n;exact(Gn.mp r).1
 exact⟨λt n=>by have:=a t n;omega,Hy (d7 (w.nd p l h) a) f⟩
theorem perm(w:fe m es ts):BP (fol es ts) (2*es.length):=⟨λd h=>by
 obtain⟨_,_,_,_,_,_,_,_,z,_⟩:=w.foll h
 exact z,λa b E M h=>w.inj E M h⟩
inductive D1(K:Gw)(vs:List L2.V)(H:L2.Hp)(Q:L2.VK)(x3_:L2.XK):Prop
 |mk (a:Addr)(xs:List V)(es:En)(d:Nat) (h0_:vs = [.ref a,.int (d:Int)])(h1_:SqL K H a xs)(h2_:dD K H xs es)(h3_:d<2*es.length)(h4_:Q (iV (hd es d)) H)
inductive DX(K:Gw)(vs:List L2.V)(H:L2.Hp)(Q:L2.VK)(x3_:L2.XK):Prop
 |mk (a:Addr)(xs:List V)(es:En)(t p:Nat)(e:Nat×Nat) (h0_:vs = [.ref a,.int (t:Int),.int (p:Int)])(h1_:SqL K H a xs)(h2_:dD K H xs es)(h3_:es[t]?=some e)(h4_:Q (iV (if e.1=p then 2*t else 2*t+1)) H)
inductive spFol(K:Gw)(vs:List L2.V)(H:L2.Hp)(Q:L2.VK)(x3_:L2.XK):Prop
 |mk (a b:Addr)(m:Nat)(es:En)(ts:List (List Nat))(d:Nat) (h0_:vs = [.ref a,.ref b,.int (d:Int)])(h1_:TT K H a b m es ts)(h2_:d<2*es.length)(h3_:Q (iV (fol es ts d)) H)
inductive D2(K:Gw)(vs:List L2.V)(H:L2.Hp)(Q:L2.VK)(x3_:L2.XK):Prop
 |mk (a b:Addr)(m:Nat)(es:En)(ts:List (List Nat))(d:Nat) (h0_:vs = [.ref a,.ref b,.int (d:Int)])(h1_:TT K H a b m es ts)(h2_:d<2*es.length)(h3_:∀ q r H',Same H H'->H q=none->H' q=some (.lst (r.map iV))->Path (fol es ts) (2*es.length) d r->Ring (fol es ts) (2*es.length) r->Q (.ref q) H')
inductive vP(K:Gw)(vs:List L2.V)(H:L2.Hp)(Q:L2.VK)(x3_:L2.XK):Prop
 |mk (a b:Addr)(m:Nat)(es:En)(ts:List (List Nat)) (h0_:vs = [.ref a,.ref b])(h1_:TT K H a b m es ts)(h2_:∀ q ys rs H',Same H H'->H' q=some (.lst ys)->bW H' ys rs->cP (fol es ts) (2*es.length) (2*es.length) rs->Q (.ref q) H')
def gu(H:Hp)(ys:List V)(n:Nat)(rs:List (List Nat)):Prop:=ys.length=n/\∀ i,i<n->∃ p a b r v,ys[i]?=some (.ref p)/\H p=some (.tup [iV a,iV b])/\rs[a]?=some r/\2*i∈r/\rs[b]?=some v/\2*i+1∈v
inductive yJ(K:Gw)(vs:List L2.V)(H:L2.Hp)(Q:L2.VK)(x3_:L2.XK):Prop
 |mk (a b:Addr)(xs ys:List V)(es:En)(f:Nat->Nat)(rs:List (List Nat)) (h0_:vs = [.ref a,.ref b])(h1_:SqL K H a xs)(h2_:dD K H xs es)(h3_:es.length<=62)(h4_:SqL K H b ys)(h5_:bW H ys rs)(h6_:cP f (2*es.length) (2*es.length) rs)(h7_:∀ q zs H',Same H H'->H' q=some (.lst zs)->gu H' zs es.length rs->Q (.ref q) H')
def gq(ns:List Int)(k:Nat):Int:=ns.getD k 0
inductive yU(K:Gw)(vs:List L2.V)(H:L2.Hp)(Q:L2.VK)(x3_:L2.XK):Prop
 |mk (a:Addr)(k:Nat)(ns:List Int) (h0_:vs = [.ref a,.int (k:Int)])(h1_:SqL K H a (ns.map V.int))(h2_:Q (.int (gq ns k)) H)
structure Txt(mg:Str->Option Value):Prop where
 n_len:mg "len" = none
 n_int:mg "int" = none
 n_bool:mg "bool" = none
 n_list:mg "list" = none
 n_tuple:mg "tuple" = none
 n_range:mg "range" = none
 n_enumerate:mg "enumerate" = none
 n_isinstance:mg "isinstance" = none
 n_min:mg "min" = none
 n_sum:mg "sum" = none
 n_sorted:mg "sorted" = none
theorem y8:aw ["ties","dart","tie"] ["ties","dart"] (aq zf):=by ac_nf
theorem Fo (F:Fun K "head" "head" zf f fd):FnOk P w K mg base CX0 1 f fd ["ties","dart"] (D1 K):=by
 refine F.ok y8 (by walk_at "l") λt A I s H Y Q E B h=>?_
 obtain⟨a,N,D,d,rfl,v,l,e,k⟩:=h;have g:d/2<D.length:=by omega
 have O:D[d/2]?=some D[d/2]:=Gs g;obtain⟨p,C,n,L,o,b,u⟩:=l.2 _ _ O;have j:hd D d=if d%2=0 then D[d/2].2 else D[d/2].1:=by unfold hd;rw[O]
 have i:(d:Int)/2=((d/2:Nat):Int):=by omega
 refine⟨_,(ag (ay 2 y8.nd (bH (pv 0) (av cg (pv 1) aj)))
   (ak (aF (fQ (aB cj (av b8 (pv 1) aj) aj (aC _)) (a8 (pv 2) rfl) (a8 (pv 2) rfl))))),?_⟩
 refine⟨_,rfl,_,rfl,_,_,rfl,rfl,⟨by decide,by decide⟩,a,N,_,_,rfl,rfl,v,(by rw[i];exact aG o),?_⟩
 refine⟨_,rfl,_,_,rfl,rfl,(by show(0:Int)<2;decide),rfl,_,rfl,?_⟩
 refine ite2 (λq=>?_) (λq=>?_)
 .have c:(d:Int)%2=0:=V.int.inj (MZ q)
  refine⟨_,rfl,p,C,n,_,_,rfl,b,u.cl,u.n2,mJ _ _ _,?_⟩;rw[j,Nf ∅]at k
  exact k
 .have c:¬ (d:Int)%2=0:=λz=>q (Mq (congrArg V.int z))
  refine⟨_,rfl,p,C,n,_,_,rfl,b,u.cl,u.n1,iT _ _ _,?_⟩;rw[j,Ng ∅]at k
  exact k
theorem xh:aw ["ties","number","place"] ["ties","number","place"] (aq mT):=by ac_nf
theorem xq (F:Fun K "leaving" "leaving" mT f fd):FnOk P w K mg base CX0 1 f fd ["ties","number","place"] (DX K):=by
 refine F.ok xh (by walk_at "l") λd A I s H Y Q E B h=>?_
 obtain⟨a,N,D,t,y,e,rfl,v,l,r,k⟩:=h;obtain⟨p,C,n,L,o,b,u⟩:=l.2 _ _ r;have x:CMul 2 (t:Int):=.inl ⟨by decide,by decide⟩
 refine⟨_,(ak (aF (fQ (aB cj (a8 (bH (pv 0) (pv 1)) rfl) (pv 2) (aC _)) (av jS aj (pv 1)) (av b9 (av jS aj (pv 1)) aj)))),?_⟩;refine⟨_,rfl,_,rfl,a,N,_,_,rfl,rfl,v,aG o,p,C,n,_,_,rfl,b,u.cl,u.n1,iT _ _ _,_,rfl,rfl,_,rfl,?_⟩;refine ite2 (λq=>?_) (λq=>?_)
 .have O:(e.1:Int)=(y:Int):=V.int.inj (MZ q)
  refine⟨_,rfl,_,_,rfl,rfl,x,?_⟩;rw[Nf ∅]at k
  exact k
 .have O:¬ (e.1:Int)=(y:Int):=λz=>q (Mq (congrArg V.int z))
  refine⟨_,rfl,_,_,rfl,rfl,x,_,_,rfl,rfl,?_⟩;rw[Ng ∅]at k
  exact k
theorem fF:aw ["ties","turns","dart","place","about","behind"] ["ties","turns","dart"] (aq kJ):=by ac_nf
theorem uq (F:Fun K "follower" "follower" kJ f fd) (T:Txt mg) (ac:Cal P w K mg base 1 "head" ["ties","dart"] (D1 K) C G) (aa:Cal P w K mg base 1 "leaving" ["ties","number","place"] (DX K) I Y):FnOk P w K mg base CX0 2 f fd ["ties","turns","dart"] (spFol K):=by
 refine F.ok fF (by walk_at "l") λt A O s H g Q E M h=>?_
 obtain⟨a,b,m,D,i,d,rfl,tt,ab,k⟩:=h;obtain⟨⟨N,J,B⟩,⟨n,u,x⟩,w',L⟩:=tt;obtain⟨l,e,p1,o,p3,p4,p5,p6,p7,p8,p9⟩:=w'.foll ab;obtain⟨al,len⟩:=w8 w' L p1;obtain⟨q,y,v⟩:=x.2 _ _ p1;have ed:(d:Int)/2=((d/2:Nat):Int):=by omega
 refine⟨_,(ag (ay 3 fF.nd (ac.c M (ae (pv 0) (ae (pv 2) ah))))
   (ag (ay 4 fF.nd (bH (pv 1) (pv 3)))
   (ag (ay 5 fF.nd (av b8 (av b9 (dW GZ PySem.F.slot_list_index PySem.F.type_list_index CK (pv 4) (ae (av cg (pv 2) aj) ah)) aj) (aD aA (by rfl) T.n_len bT (ae (pv 4) ah))))
   (ak (aF (aa.c M (ae (pv 0) (ae (bH (pv 4) (pv 5)) (ae (pv 3) ah))))))))),?_⟩
 refine⟨_,rfl,_,rfl,a,N,D,d,rfl,J,B,ab,?_⟩;refine⟨_,rfl,_,rfl,b,n,_,_,rfl,rfl,u,aG y,?_⟩;have r:(l.map iV).length=l.length:=Gu _;have am:0<l.length:=HU o;have an:(((l.idxOf (d/2):Nat):Int)+1)%((l.map iV).length:Int)=(((l.idxOf (d/2)+1)%l.length:Nat):Int):=by rw[r];rfl
 refine⟨_,rfl,.inl ⟨rfl,_,SqL.of v⟩,_,rfl,_,_,rfl,rfl,⟨by decide,by decide⟩,q,l,d/2,rfl,congrArg (λz=>[V.int z]) ed,SqL.of v,λp j=>by have:=al p j;omega,∅,o,_,_,rfl,rfl,_,rfl,q,_,rfl,.inl (SqL.of v),_,_,rfl,rfl,(by show(0:Int)<((l.map iV).length:Int);rw[r];omega),?_⟩
 refine⟨_,rfl,_,rfl,_,rfl,q,_,_,_,rfl,rfl,SqL.of v,(by rw[an];exact iV_at (m9 o)),_,rfl,a,N,D,nxt l (d/2),hd D d,e,rfl,J,B,p3,?_⟩
 rw[p6]at k;exact k
theorem dE:aw ["ties","turns","first","row","dart"] ["ties","turns","first"] (aq gG):=by ac_nf
theorem Fp (F:Fun K "round_from" "round_from" gG f fd) (aa:Cal P w K mg base 2 "follower" ["ties","turns","dart"] (spFol K) p G):FnOk P w K mg base CX0 3 f fd ["ties","turns","first"] (D2 K):=by
 refine F.ok dE (by walk_at "l") λt A I s H Y Q E B h=>?_
 obtain⟨a,b,m,D,j,d,rfl,tt,ac,k⟩:=h;have pm:=perm tt.w
 refine⟨_,(ag (ay 3 dE.nd (bN (ae (pv 2) ah)))
   (ag (ay 4 dE.nd (aa.c B (ae (pv 0) (ae (pv 1) (ae (pv 2) ah)))))
   (ag (fN PassesOwn.never (aB jR (pv 4) (pv 2) (aC _)) (ag (aP (dW GZ G9 G8 aQ (pv 3) (ae (pv 4) ah)))
   (ak (ay 4 dE.nd (aa.c B (ae (pv 0) (ae (pv 1) (ae (pv 4) ah))))))))
   (ak (aF (pv 3)))))),?_⟩
 refine⟨_,rfl,(by show 1<=LK;decide),λq n=>?_⟩
 have g:=ai n (.lst [.int (d:Int)]);refine⟨_,rfl,_,rfl,_,rfl,a,b,m,D,j,d,rfl,tt.mono g,ac,?_⟩;refine iA (λO N=>∃(r:List Nat)(x:Nat),O = [some (.ref a),some (.ref b),some (.int (d:Int)),some (.ref q),some (iV (fol D j x))]/\Same H N/\N q=some (.lst ((r++[x]).map iV))/\Path (fol D j) (2*D.length) d (r++[x]))
  (λO N=>match N q with | some (.lst J)=>200-J.length | _=>0) ⟨[],d,rfl,g,af,Cj ac⟩ ?_ ?_
 .rintro O N ⟨r,x,rfl,l,ab,pa⟩;refine⟨_,rfl,_,rfl,rfl,_,rfl,?_⟩;have v:=tt.few;have C:=d7 pa.nd pa.lt;refine ite2 (λc=>?_) (λc=>?_)
  .have L:fol D j x≠d:=λz=>by
    rw[Mq (show iV (fol D j x)=V.int (d:Int) by rw[z];rfl)]at c
    cases c
   have am:=pa.snoc pm L;have an:=d7 am.nd am.lt;have al:fol D j x<2*D.length:=am.lt _ (by simp)
   refine⟨_,rfl,.inl ⟨rfl,_,SqL.of ab⟩,_,rfl,q,_,_,rfl,rfl,ab,ar (by rw[Gu];omega),?_⟩
   have o:=aH l n (.lst ((r++[x]).map iV++[iV (fol D j x)]));refine⟨_,rfl,_,rfl,_,rfl,a,b,m,D,j,fol D j x,rfl,tt.mono o,al,?_⟩;refine⟨⟨r++[x],fol D j x,rfl,o,?_,am⟩,?_⟩
   .rw[af,show((r++[x]++[fol D j x]).map iV)=(r++[x]).map iV++[iV (fol D j x)] from by rw[GK];rfl]
   .show(match(upd N q (.lst ((r++[x]).map iV++[iV (fol D j x)]))) q with | some (.lst J)=>200-J.length | _=>0)<(match N q with | some (.lst J)=>200-J.length | _=>0)
    rw[af,ab];show 200-((r++[x]).map iV++[iV (fol D j x)]).length<200-((r++[x]).map iV).length;rw[Gx,Gu,GO];omega
  .have L:fol D j x=d:=by
    by_cases z:fol D j x=d
    .exact z
    .exact Nh (by rw[LJ (λy=>z (by have:=V.int.inj y;omega))];rfl) c
   refine⟨_,rfl,?_⟩;exact k q _ N l n ab pa (pa.ring pm L)
 .rintro O N Q1 Q2 T ⟨v',e,b',M,u,L,i,q'⟩;exact⟨v',e,b',M,u,L,i,T _ _ q'⟩
theorem cq:aw ["ties","turns","rounds","seen","dart","row","gone"] ["ties","turns"] (aq i6):=by ac_nf
theorem zW (F:Fun K "rounds_of" "rounds_of" i6 f fd) (T:Txt mg) (aI:Cal P w K mg base 3 "round_from" ["ties","turns","first"] (D2 K) C G):FnOk P w K mg base CX0 4 f fd ["ties","turns"] (vP K):=by
 refine F.ok cq (by walk_at "l") λab A I s H vs Q E B h=>?_
 obtain⟨a,b,m,D,ts,rfl,tt,k⟩:=h;have hu:=sf B;have pm:=perm tt.w;have ac:=tt.few;obtain⟨xs,J,Y⟩:=tt.xs
 refine⟨_,(ag (ay 2 cq.nd (bN ah))
   (ag (ay 3 cq.nd mh)
   (ag (bM PassesOwn.never rfl (aZ rfl T.n_range (ae (av jS aj (aD aA (by rfl) T.n_len bT (ae (pv 0) ah))) ah)) (cJ 4 cq.nd) (ak (bG (zv (m7 hu (pv 4) (pv 3))) (ag (ay 5 cq.nd (aI.c B (ae (pv 0) (ae (pv 1) (ae (pv 4) ah)))))
   (ag (aP (dW GZ G9 G8 aQ (pv 2) (ae (pv 5) ah)))
   (ak (bM PassesOwn.never rfl (aU (pv 5)) (cJ 6 cq.nd) (ak (kM hu (pv 3) (pv 6) lG rfl)))))) aJ)))
   (ak (aF (pv 2)))))),?_⟩
 refine⟨(by show 0<=LK;decide),λqr aL=>λqs a0=>?_⟩
 have t:=(ai aL (.lst [])).trans (ai a0 (.dK []));have a2:H qs=none:=by
  cases z:H qs with
  |none=>rfl
  |some o=>rw[ai aL (.lst []) qs o z]at a0;cases a0
 have am:qr≠qs:=λz=>by rw[← z,af]at a0;cases a0
 have ap:xs.length=D.length:=Y.1;have hN:(2*(xs.length:Int)).toNat=2*D.length:=by omega
 refine⟨_,rfl,a,xs,rfl,.inl (t.seq J),_,_,rfl,rfl,.inl ⟨by decide,by decide⟩,_,rfl,∅,∅,fq (n:=(2*(xs.length:Int)).toNat) (λi O N=>∃ v4 v5 v6 ys rs aa,O = [some (.ref a),some (.ref b),some (.ref qr),some (.ref qs),v4,v5,v6]/\Same H N/\N qr=some (.lst ys)/\bw (λp=>p=qr∨p=qs) N ys rs/\N qs=some (.dK aa)/\aa.length<=rs.flatten.length/\(∀ d:Nat,(valV aa (Sum.inl (d:Int))).isSome=true↔d∈rs.flatten)/\cP (fol D ts) (2*D.length) i rs)
  ⟨_,_,_,[],[],[],rfl,t,by rw[ao am,af],⟨rfl,λi l e=>by simp at e⟩,af,Gy _,λd=>by simp[valV],xk _ _⟩ ?_ ?_⟩
 .rintro i O N v ⟨v4,v5,v6,ys,rs,aa,rfl,s2,u,rx,M,kl,km,ro⟩;rw[hN]at v;have e0:(0:Int)+(i:Int)=(i:Int):=IF _;rw[e0];have fl:=qw ro;have rl:=wc ro;refine⟨_,rfl,_,rfl,_,_,rfl,DGet.k (k:=Sum.inl (i:Int)) M,_,rfl,?_⟩;refine ite2 (λc=>?_) (λc=>?_)
  .have a1:i∉rs.flatten:=λz=>by
    rw[(km i).mpr z]at c
    cases c
   refine⟨_,rfl,_,rfl,_,rfl,a,b,m,D,ts,i,rfl,tt.mono s2,v,λq r H3 s3 hq aR pa ri=>?_⟩;have aT:=s2.trans s3;have nq:¬ (q=qr∨q=qs):=by
    rintro(z | z)
    .rw[z,u]at hq;cases hq
    .rw[z,M]at hq;cases hq
   refine⟨_,rfl,.inl ⟨rfl,_,SqL.of (s3 _ _ u)⟩,_,rfl,qr,_,_,rfl,rfl,s3 _ _ u,ar (by rw[rx.1];omega),?_⟩
   have s4:=aH aT aL (.lst (ys++[.ref q]));have a3:∀{H5:Hp},bw (λp=>p=qr∨p=qs) H5 (ys++[.ref q]) (rs++[r])->H5 q=some (.lst (r.map iV)):=λh=>by
    obtain⟨p,z1,_,z2⟩:=h.2 rs.length r (by rw[Gz (Gy _),Hl];rfl)
    rw[← rx.1,Gz (Gy _),Hl]at z1
    cases z1
    exact z2
   have a4:bw (λp=>p=qr∨p=qs) (upd H3 qr (.lst (ys++[.ref q]))) (ys++[.ref q]) (rs++[r]):=by
    refine(rx.mono λp o n z=>?_).snoc nq ?_
    .rw[ao (λz=>n (.inl z))];exact s3 _ _ z
    .rw[ao (λz=>nq (.inl z))];exact aR
   have rl:r.length<=2*D.length:=d7 ri.nd ri.lt
   refine⟨_,rfl,q,rfl,⟨_,SqL.of (a3 a4)⟩,cf (xs:=r.map iV) (λj O H5=>∃ v6 al,O = [some (.ref a),some (.ref b),some (.ref qr),some (.ref qs),some (.int (i:Int)),some (.ref q),v6]/\Same H H5/\H5 qr=some (.lst (ys++[.ref q]))/\bw (λp=>p=qr∨p=qs) H5 (ys++[.ref q]) (rs++[r])/\H5 qs=some (.dK al)/\al.length<=rs.flatten.length+j/\∀ d:Nat,(valV al (Sum.inl (d:Int))).isSome=true↔d∈rs.flatten∨d∈r.take j)
    ⟨_,aa,rfl,s4,af,a4,by rw[ao am.symm];exact s3 _ _ M,kl,λd=>by rw[km d];simp⟩ (λj O H5 _ p=>?_) ?_ ?_⟩
   .obtain⟨_,_,_,_,_,z,_⟩:=p;exact SqL.of (a3 z)
   .rintro j x O H5 L ⟨v6,al,rfl,s5,f1,an,f2,aS,aO⟩;rw[GC]at L;obtain⟨g,hg,rfl⟩:=G5.mp L;have a5:j<r.length:=(Gn.mp hg).1;refine⟨_,rfl,_,rfl,qs,_,rfl,DPut.k (k:=Sum.inl (g:Int)) f2 (ar ∅),?_⟩
    refine⟨_,_,rfl,aH s5 a2 _,by rw[ao am];exact f1,an.mono λp o n z=>by rw[ao (λz=>n (.inr z))];exact z,af,by have:=cX al (Sum.inl (g:Int)) (V.bl true);omega,λd=>?_⟩
    rw[fz];have tk:r.take (j+1)=r.take j++[g]:=by rw[He,hg];rfl
    rw[tk];by_cases z:d=g
    .subst z;simp
    .rw[Ng (λy=>z (by have:=Sum.inl.inj y;omega)),aO d]
     simp[z]
   .rintro O H5 ⟨v6,al,rfl,s5,f1,an,f2,aS,aO⟩;rw[Gu]at aS aO;refine⟨_,_,_,_,rs++[r],al,rfl,s5,f1,an,f2,by rw[Ju,Gx];simpa using aS,λd=>?_,ro.put pm a1 v ri pa⟩
    rw[aO d,Hi,Ju,GU];simp
  .have a6:i∈rs.flatten:=(km i).mp (by
    cases z:(valV aa (Sum.inl (i:Int))).isSome with
    |true=>rfl
    |false=>exact Nh (by rw[z];rfl) c)
   exact⟨_,_,_,ys,rs,aa,rfl,s2,u,rx,M,kl,km,ro.skip a6⟩
 .rintro O N ⟨v4,v5,v6,ys,rs,aa,rfl,s2,u,rx,M,kl,km,ro⟩;rw[hN]at ro;exact⟨_,rfl,k qr ys rs N s2 u rx.off ro⟩
theorem dM:aw ["ties","rounds","number_at","number","row","dart"] ["ties","rounds"] (aq kC):=by ac_nf
theorem Cq (F:Fun K "sides_of" "sides_of" kC f fd) (T:Txt mg):FnOk P w K mg base CX0 1 f fd ["ties","rounds"] (yJ K):=by
 refine F.ok dM (by walk_at "l") λG A I s H M Q E B h=>?_
 obtain⟨a,b,xs,n,o,g,rs,rfl,hS,hT,aa,hB,hR,ro,k⟩:=h;have hu:=sf B;have fl:=qw ro
 refine⟨_,(ag (ay 2 dM.nd mh)
   (ag (bM PassesOwn.never rfl (fO rfl T.n_enumerate (ae (pv 1) ah)) (mZ rfl (aE (cJ 3 dM.nd) (aE (cJ 4 dM.nd) bC))) (ak (bM PassesOwn.never rfl (aU (pv 4)) (cJ 5 dM.nd) (ak (kM hu (pv 2) (pv 5) (pv 3) rfl)))))
   (ak (aF (dU [("number_at",2)] ["i"] (aZ rfl T.n_range (ae (aD aA (by rfl) T.n_len bT (ae (pv 0) ah)) ah)) pg_c pt_c (λC ex s H=>(dB (ae (jd hu (pv 1) (av jS aj (pv 0)) (λ_ _=>rfl)) (ae (jd hu (pv 1) (av b9 (av jS aj (pv 0)) aj) (λ_ _=>rfl)) ah))))))))),?_⟩
 intro q l;have J:=ai l (.dK []);have kF:∀ i,(rs.take i).flatten.length<=rs.flatten.length:=λi=>by
  have:=congrArg (λz=>z.flatten.length) (Jl i rs);simp only[Ju,Gx]at this;omega
 refine⟨_,rfl,b,rfl,⟨_,J.seq hB⟩,mE (K:=K) (xs:=n) (λi O N=>∃ v3 v4 v5 m,O = [some (.ref a),some (.ref b),some (.ref q),v3,v4,v5]/\Same H N/\N q=some (.dK m)/\m.length<=(rs.take i).flatten.length/\∀(d c:Nat)(r:List Nat),c<i->rs[c]?=some r->d∈r->valV m (Sum.inl (d:Int))=some (iV c))
  ⟨_,_,_,[],rfl,J,af,Hq _,λd c r z=>Nh z (Ir _)⟩ (λi O N _ am=>by obtain⟨_,_,_,_,_,s2,_⟩:=am;exact s2.seq hB) ?_ ?_⟩
 .rintro i x O N T2 L ⟨v3,v4,v5,m,rfl,s2,u,kl,km⟩ al;have aS:i<rs.length:=by
   have:=(Gn.mp L).1;rw[hR.1]at this;exact this
  have ac:rs[i]?=some rs[i]:=Gs aS;obtain⟨p,x1,x2⟩:=hR.2 i _ ac;rw[L]at x1
  cases x1
  generalize rs[i]=r at ac x2;have s3:Same H (upd N T2 (.tup [.int (i:Int),.ref p])):=s2.trans (ai al _);have f1:(rs.take (i+1)).flatten=(rs.take i).flatten++r:=by rw[He,ac];simp
  have f2:=kF (i+1);rw[f1,Gx]at f2;refine⟨T2,_,rfl,SqT.of af,rfl,_,_,rfl,_,_,rfl,rfl,?_⟩
  refine⟨_,rfl,p,rfl,⟨_,SqL.of (s3 _ _ x2)⟩,cf (xs:=r.map iV) (λj O H5=>∃ v5 ab,O = [some (.ref a),some (.ref b),some (.ref q),some (.int (i:Int)),some (.ref p),v5]/\Same H H5/\H5 q=some (.dK ab)/\ab.length<=(rs.take i).flatten.length+j/\(∀(d c:Nat)(r:List Nat),c<i->rs[c]?=some r->d∈r->valV ab (Sum.inl (d:Int))=some (iV c))/\∀ d∈r.take j,valV ab (Sum.inl (d:Int))=some (iV i))
   ⟨_,m,rfl,s3,ai al _ _ _ u,kl,km,λd hd=>by simp at hd⟩ (λj O H5 _ am=>by obtain⟨_,_,_,z,_⟩:=am;exact SqL.of (z _ _ x2)) ?_ ?_⟩
  .rintro j x O H5 aI ⟨v5,ab,rfl,s5,g1,aO,aL,aT⟩;rw[GC]at aI;obtain⟨g,hg,rfl⟩:=G5.mp aI;have a0:j<r.length:=(Gn.mp hg).1;refine⟨_,rfl,_,rfl,_,rfl,q,_,rfl,DPut.k (k:=Sum.inl (g:Int)) g1 (ar ∅),?_⟩
   refine⟨_,_,rfl,aH s5 l _,af,by have:=cX ab (Sum.inl (g:Int)) (V.int (i:Int));omega,λd c r' Y aR hd=>?_,λd hd=>?_⟩
   .rw[fz,Ng (λz=>?_)]
    .exact aL d c r' Y aR hd
    .have z':d=g:=by have:=Sum.inl.inj z;omega
     subst z';have:=kS ro.nd aR ac hd (Gv hg);omega
   .rw[fz];by_cases z:d=g
    .subst z;rw[Nf rfl];rfl
    .rw[Ng (λy=>z (by have:=Sum.inl.inj y;omega))]
     refine aT d ?_;rw[He,hg]at hd;simpa[z] using hd
  .rintro O H5 ⟨v5,ab,rfl,s5,g1,aO,aL,aT⟩;rw[Gu]at aO aT;rw[Hi]at aT;refine⟨_,_,_,ab,rfl,s5,g1,by rw[f1,Gx];exact aO,λd c r' Y aR hd=>?_⟩
   by_cases z:c=i
   .subst z;rw[ac]at aR
    cases aR
    exact aT d hd
   .exact aL d c r' ∅ aR hd
 .rintro O N ⟨v3,v4,v5,m,rfl,s2,u,kl,km⟩;rw[hR.1]at km;have get:∀ d,d<2*o.length->∃ c r,rs[c]?=some r/\d∈r/\valV m (Sum.inl (d:Int))=some (iV c):=λd hd=>by
   obtain⟨r,z1,z2⟩:=HJ.mp (ro.all d hd);obtain⟨c,z3⟩:=Il.mp z1;exact⟨c,r,z3,z2,km d c r (Gn.mp z3).1 z3 z2⟩
  have an:xs.length=o.length:=hT.1;refine⟨_,rfl,a,xs,rfl,.inl (s2.seq hS),_,rfl,∅,∅,cY (λi zs H3=>Same N H3/\gu H3 zs i rs) (by rw[GA,an];exact G6 (ar ∅)) ⟨λ_ _ e=>e,rfl,λi v=>Nh v (Ir _)⟩ ?_ ?_⟩
  .rintro i zs H3 v ⟨s3,sd⟩;have e0:(0:Int)+(i:Int)=(i:Int):=IF _;rw[e0];rw[GA,an]at v;obtain⟨c1,r1,z1,z2,z3⟩:=get (2*i) ∅
   obtain⟨c2,r2,y1,y2,y3⟩:=get (2*i+1) ∅
   have m2:CMul 2 (i:Int):=.inl ⟨by decide,by decide⟩
   have d1:DGet H3 q (V.int (2*(i:Int))) (some (iV c1)):=by
    rw[← z3,show((2*i:Nat):Int)=2*(i:Int) by omega]
    exact DGet.k (k:=Sum.inl (2*(i:Int))) (s3 _ _ u)
   have d2:DGet H3 q (V.int (2*(i:Int)+1)) (some (iV c2)):=by
    rw[← y3,show((2*i+1:Nat):Int)=2*(i:Int)+1 by omega]
    exact DGet.k (k:=Sum.inl (2*(i:Int)+1)) (s3 _ _ u)
   refine⟨_,rfl,_,rfl,_,_,rfl,rfl,m2,q,_,rfl,d1,_,rfl,_,rfl,_,_,rfl,rfl,m2,_,_,rfl,rfl,q,_,rfl,d2,(by show 2<=LK;decide),λt ht=>?_⟩
   have s4:=ai ht (.tup [iV c1,iV c2]);refine⟨s3.trans s4,by rw[Gx,sd.1];rfl,λj hj=>?_⟩
   by_cases z:j=i
   .subst z;exact⟨t,c1,c2,r1,r2,by rw[← sd.1,Gz (Gy _),Hl];rfl,af,z1,z2,y1,y2⟩
   .obtain⟨p,a',b',r,r',w1,w2,w3⟩:=sd.2 j ∅
    exact⟨p,a',b',r,r',by rw[GB (by rw[sd.1];omega)];exact w1,s4 _ _ w2,w3⟩
  .rintro zs H3 ap ⟨s3,sd⟩ D hD;rw[GA,an]at sd
   exact k D zs _ ((s2.trans s3).trans (ai hD _)) af ⟨sd.1,λi v=>by
    obtain⟨p,a',b',r,r',w1,w2,w3⟩:=sd.2 i v
    exact⟨p,a',b',r,r',w1,ai hD _ _ _ w2,w3⟩⟩
theorem ph:aw ["self","one","two","strength"] ["self","one","two","strength"] (aq cz):=by ac_nf
theorem Fn (F:Fun K "__init__" "Tie.__init__" cz f fd):FnOk P w K mg base CX0 1 f fd ["self","one","two","strength"] (kZ K):=by
 refine F.ok ph (by walk_at "l") λd A I s H Y Q E B h=>?_
 obtain⟨p,C,n,a,b,st,rfl,j,T,g,D,M,G,k⟩:=h
 refine⟨_,(ag (bG (aB cj (pv 1) (pv 2) (aC _)) (ak cG) aJ)
   (ag (bG (PW.pt (zt (aB uo (pv 1) aj (aC _)) (we (aB uo (pv 2) aj (aC _))))) (ak cG) aJ)
   (ag (bG (aB uo (pv 3) aj (aC _)) (ak cG) aJ)
   (ag (k8 (pv 0) (pv 1) rfl)
   (ag (k8 (pv 0) (pv 2) rfl)
   (ak (k8 (pv 0) (pv 3) rfl))))))),?_⟩
 walk_at "rd";refine ite2 (λc=>Nh (V.int.inj (MZ c)) g) (λ_=>?_);walk_at "rd";refine ite2 (λc=>Nh (MZ c) ∅) (λ_=>?_)
 walk_at "rd";refine ite2 (λc=>Nh (MZ c) ∅) (λ_=>?_)
 walk_at "rd";refine ite2 (λc=>Nh (MZ c) ∅) (λ_=>?_)
 refine⟨_,rfl,_,rfl,p,C,n,[],rfl,j,T.cl,T.n1,(by show 0<1000;decide),?_⟩
 refine⟨_,rfl,_,rfl,p,C,n,_,rfl,af,T.cl,T.n2,f1_len a,?_⟩;refine⟨_,rfl,_,rfl,p,C,n,_,rfl,af,T.cl,T.n3,f2_len a b,?_⟩;exact k _ af λq o e m=>by rw[ao m,ao m,ao m];exact e
theorem tU:aw ["script","k"] ["script","k"] (aq kH):=by ac_nf
theorem Fs (F:Fun K "_law_cell" "_law_cell" kH f fd) (T:Txt mg):FnOk P w K mg base CX0 1 f fd ["script","k"] (yU K):=by
 refine F.ok tU (by walk_at "l") λd A I s H Y Q E B h=>?_
 obtain⟨a,k,x,rfl,v,q⟩:=h
 refine⟨_,(ag (bG (aB uo (pv 1) (aD aA (by rfl) T.n_len bT (ae (pv 0) ah)) (aC _)) (ak (aF (bH (pv 0) (pv 1)))) aJ)
   (ak (aF aj))),?_⟩
 refine⟨_,rfl,_,rfl,a,_,rfl,.inl v,_,_,rfl,rfl,_,rfl,?_⟩;refine ite2 (λc=>?_) (λc=>?_)
 .have L:(k:Int)<((x.map V.int).length:Int):=MZ c
  rw[Gu]at L;have G:k<x.length:=by omega
  have n:atI (x.map V.int) (k:Int)=some (.int (gq x k)):=aG (by rw[GC,Gs G];unfold gq;rw[GP,Gs G];rfl)
  exact⟨_,rfl,_,rfl,a,_,_,_,rfl,rfl,v,n,q⟩
 .have L:¬ (k:Int)<((x.map V.int).length:Int):=λz=>c (Mq z)
  rw[Gu]at L;have e:gq x k=0:=by unfold gq;rw[GP,Io ∅];rfl
  rw[e]at q;exact q
theorem at0{u:V}:atI [u,v] 0=some u:=rfl
theorem at1{u:V}:atI [u,v] 1=some v:=rfl
theorem uy(h:SqL K H a (ps.map iV)):RdD K H (.ref a) (.list ((ps.map λ(p:Nat)=>((p:Nat):Int)).map PyData.int)):=by
 refine RdD.lst h (by simp) λi x d O f=>?_
 rw[GC]at O;rw[GC,GC]at f
 cases z:ps[i]? with
 |none=>rw[z]at O;cases O
 |some n =>
  rw[z]at O f
  cases O
  cases f
  exact .int _
theorem AF(l:List Int):(PyData.list (l.map PyData.int)).canLay0=true/\(PyData.list (l.map PyData.int)).depth<=10:=by
 have J:∀ d∈l.map PyData.int,d.canLay0=true/\d.depth<=1:=λd hd=>by
  obtain⟨x,_,rfl⟩:=Hn.mp hd;exact⟨by simp[Mw],by simp[Mv]⟩
 have Y:=ic λd hd=>(J d hd).1;have g:=jy λd hd=>(J d hd).2;exact⟨by simp only[Mw];exact Y,by simp only[Mv];omega⟩
theorem nj(l:List Int):SeqAt.shaped (.list (l.map PyData.int))=true:=mP λd hd=>by
 obtain⟨x,_,rfl⟩:=Hn.mp hd;exact⟨by simp[Mw],by simp[Mv]⟩
theorem nU.snoc{e:Nat×Nat}(t:nU H xs es)(h:H p=some (.tup [iV e.1,iV e.2])):nU H (xs++[.ref p]) (es++[e]):=by
 refine⟨by rw[Gx,Gx,t.1];rfl,λj k d=>?_⟩
 by_cases B:j<es.length
 .rw[GB B]at d;obtain⟨p,u,I⟩:=t.2 j k d;exact⟨p,by rw[GB (by rw[t.1];exact B)];exact u,I⟩
 .rw[Gz ∅]at d
  have c:j=es.length:=by
   have:=(Gn.mp d).1;rw[GO]at this;omega
  subst c;rw[Hl]at d
  cases d
  exact⟨p,by rw[← t.1,Gz (Gy _),Hl];rfl,h⟩
def Dist(xs:List V):Prop:=∀(i j:Nat)(p:Addr),xs[i]?=some (.ref p)->xs[j]?=some (.ref p)->i=j
theorem bw.set{S:Addr->Prop}(h:bw S H xs ts)(D:Dist xs)(e:xs[i]?=some (.ref p)):bw S (upd H p (.lst (l'.map iV))) xs (ts.set i l'):=by
 refine⟨by rw[Hx];exact h.1,λj l z=>?_⟩
 have T:i<ts.length:=by rw[← h.1];exact(Gn.mp e).1
 rw[Jp]at z;by_cases B:i=j
 .subst B;rw[Nf rfl,Nf T]at z
  cases z
  obtain⟨A,u,I,b⟩:=h.2 i _ (Gs T);rw[e]at u
  cases u
  exact⟨p,e,I,af⟩
 .rw[Ng B]at z;obtain⟨A,u,I,b⟩:=h.2 j l z;exact⟨A,u,I,by rw[ao (λy=>by rw[y]at u;exact B (D i j p e u))];exact b⟩
theorem zg(h:SqL K H a xs)(q:bW H xs ts):RdD K H (.ref a) (.list (ts.map λl=>PyData.list ((l.map λ(p:Nat)=>((p:Nat):Int)).map PyData.int))):=by
 refine RdD.lst h (by rw[Gu];exact q.1) λi x d O f=>?_
 rw[GC]at f;obtain⟨l,C,rfl⟩:=G5.mp f;obtain⟨p,u,I⟩:=q.2 i l C;rw[O]at u
 cases u
 exact uy (SqL.of I)
theorem t5(ts:List (List Nat)):SeqAt.shaped (.list (ts.map λl=>PyData.list ((l.map λ(p:Nat)=>((p:Nat):Int)).map PyData.int)))=true:=mP λd hd=>by
 obtain⟨l,_,rfl⟩:=Hn.mp hd;exact AF _
end K8
namespace K8
open PySem L2
theorem kf{S:Addr->Prop}(h:bw S H xs ts)(D:Dist xs)(hq:H q=none):Dist (xs++[.ref q]):=by
 have a:∀(j:Nat)(p:Addr),j<xs.length->(xs++[V.ref q])[j]?=some (.ref p)->xs[j]?=some (.ref p)/\p≠q:=λj p B e=>by
  rw[GB B]at e;obtain⟨A,u,_,b⟩:=h.2 j _ (Gs (by rw[← h.1];exact B))
  rw[e]at u
  cases u
  exact⟨e,ax b hq⟩
 have new:∀(j:Nat)(p:Addr),¬ j<xs.length->(xs++[V.ref q])[j]?=some (.ref p)->j=xs.length/\p=q:=λj p B e=>by
  have:=(Gn.mp e).1;rw[Gx,GO]at this;have c:j=xs.length:=by omega
  subst c;rw[Gz (Gy _),Hl]at e
  cases e
  exact⟨rfl,rfl⟩
 intro j k p O f;by_cases B:j<xs.length
 .obtain⟨v,i⟩:=a j p B O;by_cases G:k<xs.length
  .exact D j k p v (a k p G f).1
  .exact Nh (new k p G f).2 i
 .obtain⟨v,i⟩:=new j p B O;by_cases G:k<xs.length
  .exact Nh i (a k p G f).2
  .rw[v,(new k p G f).1]
abbrev Kn:=List (Int×Int)
theorem Gr.two(g:Gr m es ts)(h:0<es.length):2<=m:=by
 obtain⟨a,b,c⟩:=g.w.ends _ (Gv (Gs h));omega
theorem AQ(g:Gr m es ts):m<=es.length+2:=by
 obtain⟨r,_,c⟩:=g.part;omega
open KF (andN orN shlN xorN)
theorem oh:∀{a b:List Int},a.Perm b->a.Pairwise (·<=·)->b.Pairwise (·<=·)->a=b
 |[],b,h,_,_=>(List.nil_perm.mp h).symm▸rfl
 |x::a,[],h,_,_=>Nh h.length_eq (by simp)
 |x::a,y::b,h,c,d=>by
  obtain⟨u,I⟩:=KP.mp c;obtain⟨b1,b2⟩:=KP.mp d;have J:x<=y:=by
   rcases GG.mp (h.mem_iff.mpr (GN ..):y∈x::a)with z | z
   .rw[z];exact IM _
   .exact u y z
  have Y:y<=x:=by
   rcases GG.mp (h.mem_iff.mp (GN ..):x∈y::b)with z | z
   .rw[z];exact IM _
   .exact b1 x z
  have e:x=y:=Int.le_antisymm J Y;subst e;rw[oh (List.Perm.cons_inv h) I b2]
def cI(l:List Nat):List Int:=l.map λ(p:Nat)=>((p:Nat):Int)
theorem cI_V(l:List Nat):(cI l).map V.int=l.map iV:=by unfold cI;rw[IU];rfl
theorem EX{r:List Nat}{out:List Int}(hp:out.Perm (cI l))(G:out.Pairwise (·<=·))(O:l.Nodup)(d:r.Pairwise (· < ·))(C:∀ t,t∈l↔t∈r):out=cI r:=by
 have c:r.Nodup:=d.imp λh=>G0 h;have q:(cI l).Perm (cI r):=((Ic O c).mpr C).map _;refine oh (hp.trans q) G ?_;unfold cI;exact List.Pairwise.map _ (λa b h=>by omega) d
theorem AH:ins l l.length n=l++[n]:=by
 unfold ins;rw[Hi,List.drop_length]
inductive yN(K:Gw)(vs:List L2.V)(H:L2.Hp)(Q:L2.VK)(x3_:L2.XK):Prop
 |mk (a:Addr)(xs:List V)(m:Nat)(es:En) (h0_:vs = [.int (m:Int),.ref a])(h1_:SqL K H a xs)(h2_:dD K H xs es)(h3_:(∀ e∈es,e.1<m/\e.2<m))(h4_:Q .non H)
inductive vQ(K:Gw)(vs:List L2.V)(H:L2.Hp)(Q:L2.VK)(x3_:L2.XK):Prop
 |mk (a b:Addr)(xs zs:List V)(m:Nat)(es:En)(ts:List (List Nat)) (h0_:vs = [.int (m:Int),.ref a,.ref b])(h1_:SqL K H a xs)(h2_:dD K H xs es)(h3_:SqL K H b zs)(h4_:bW H zs ts)(h5_:fe m es ts)(h6_:es.length<=34)(h7_:m<=40)(h8_:∀ H',Same H H'->Q .non H')
inductive yM(K:Gw)(vs:List L2.V)(H:L2.Hp)(Q:L2.VK)(x3_:L2.XK):Prop
 |mk (a:Addr)(xs:List V)(m:Nat)(es:En)(ts:List (List Nat)) (h0_:vs = [.int (m:Int),.ref a])(h1_:SqL K H a xs)(h2_:dD K H xs es)(h3_:Gr m es ts)(h4_:2<=m)(h5_:m<=40)(h6_:es.length<=34)(h7_:∀ H',Same H H'->Q .non H')
theorem iU:aw ["many","ties","tie"] ["many","ties"] (aq fH):=by ac_nf
theorem Cu (F:Fun K "refuse_ends" "refuse_ends" fH f fd):FnOk P w K mg base CX0 1 f fd ["many","ties"] (yN K):=by
 refine F.ok iU (by walk_at "l") λt A I s H Y Q E B h=>?_
 obtain⟨a,xs,m,D,rfl,v,l,j,k⟩:=h;refine⟨_,(ak (bM PassesOwn.never rfl (aU (pv 1)) (cJ 2 iU.nd) (ak (bG (PW.pt (zt (aB Cm (a8 (pv 2) rfl) (pv 0) (aC _)) (we (aB Cm (a8 (pv 2) rfl) (pv 0) (aC _))))) (ak cG) aJ)))),?_⟩;refine⟨_,rfl,a,rfl,⟨_,v⟩,cf (K:=K) (xs:=xs) (λi O N=>∃ g,O = [some (.int (m:Int)),some (.ref a),g]/\N=H) ⟨_,rfl,rfl⟩ (λi O N _ ⟨_,_,z⟩=>z▸v) ?_ ?_⟩
 .rintro i x O N L ⟨g,rfl,rfl⟩;have T:i<D.length:=by rw[← l.1];exact(Gn.mp L).1
  obtain⟨e,r⟩:∃ e,D[i]?=some e:=⟨_,Gs T⟩;obtain⟨p,C,n,st,o,q,u⟩:=l.2 i e r;rw[L]at o
  cases o
  obtain⟨d,G⟩:=j e (Gv r);refine⟨_,rfl,p,C,n,_,_,rfl,q,u.cl,u.n1,iT _ _ _,_,rfl,_,_,rfl,rfl,_,rfl,?_⟩;refine ite2 (λc=>Nh (MZ c) ∅) (λ_=>?_)
  refine⟨_,rfl,p,C,n,_,_,rfl,q,u.cl,u.n2,mJ _ _ _,_,rfl,_,_,rfl,rfl,_,rfl,?_⟩;refine ite2 (λc=>Nh (MZ c) ∅) (λ_=>?_)
  exact⟨_,rfl,rfl⟩
 .rintro O N ⟨g,rfl,rfl⟩;exact k
theorem cF:aw ["many","ties","turns","ending","number","tie"] ["many","ties","turns"] (aq eY):=by ac_nf
theorem zV (F:Fun K "refuse_turns" "refuse_turns" eY f fd) (T:Txt mg):FnOk P w K mg base CX0 1 f fd ["many","ties","turns"] (vQ K):=by
 refine F.ok cF (by walk_at "l") λaa A I s H Y Q E B h=>?_
 obtain⟨a,b,xs,zs,m,M,ts,rfl,hS,hT,hB,hR,w',ab,bo,kk⟩:=h;have aO:=B.units
 refine⟨_,(ag (mY 3 [] ["place"] cF.nd (aZ rfl T.n_range (ae (pv 0) ah)) pg_c pt_c (λC ex s H=>(bN ah)))
   (ag (bM PassesOwn.never rfl (fO rfl T.n_enumerate (ae (pv 1) ah)) (mZ rfl (aE (cJ 4 cF.nd) (aE (cJ 5 cF.nd) bC))) (ag (aP (dW GZ G9 G8 aQ (bH (pv 3) (a8 (pv 5) rfl)) (ae (pv 4) ah)))
   (ak (aP (dW GZ G9 G8 aQ (bH (pv 3) (a8 (pv 5) rfl)) (ae (pv 4) ah))))))
   (ak (bG (aB (op_neD aO) (dU [] ["about"] (aU (pv 2)) pg_c pt_c (λC ex s H=>(aD (sP (K:=K) rfl) (by rfl) T.n_sorted nK (ae (pv 0) ah)))) (pv 3) (aC _)) (ak cG) aJ)))),?_⟩
 refine⟨_,rfl,_,rfl,∅,∅,cY (n:=(m:Int).toNat) (λi J N=>Same H N/\bw (λp=>H p≠none) N J (GH i [])/\Dist J) (by rw[GA];exact G6 (ar ∅)) ⟨λ_ _ e=>e,⟨rfl,λi l e=>by simp at e⟩,λi j p e=>by simp at e⟩ ?_ ?_⟩
 .rintro i J N v ⟨s2,rx,D⟩;refine⟨(by show 0<=LK;decide),λl g=>?_⟩
  have s3:=ai g (.lst []);refine⟨s2.trans s3,?_,kf rx D g⟩;rw[IH];refine(rx.mono λb u _ z=>s3 _ _ z).snoc (λz=>z ?_) af
  cases y:H l with
  |none=>rfl
  |some o=>rw[s2 _ _ y]at g;cases g
 rintro J N bd ⟨s2,rx,D⟩ pn aL;rw[GA]at rx;have s3:=ai aL (.lst J);have bg:H pn=none:=by
  cases y:H pn with
  |none=>rfl
  |some o=>rw[s2 _ _ y]at aL;cases aL
 have bi:bw (λp=>p=pn∨H p≠none) (upd N pn (.lst J)) J (GH m []):=⟨rx.1,λi l z=>by
  obtain⟨p,a1,a2,a3⟩:=rx.2 i l z;have n2:p≠pn:=ax a3 aL
  exact⟨p,a1,by rintro(y | y);exact n2 y;exact a2 y,s3 _ _ a3⟩⟩
 refine⟨_,rfl,a,rfl,⟨_,(s2.trans s3).seq hS⟩,mE (K:=K) (xs:=xs) (λi O H5=>∃ v4 v5 rows,O = [some (.int (m:Int)),some (.ref a),some (.ref b),some (.ref pn),v4,v5]/\Same H H5/\H5 pn=some (.lst J)/\bw (λp=>p=pn∨H p≠none) H5 J rows/\fe m (M.take i) rows/\∀ r∈rows,r.Pairwise (· < ·))
  ⟨_,_,_,rfl,s2.trans s3,af,bi,BX m,λr B=>by rw[(JZ.mp B).2];exact JH⟩ (λi O H5 _ ap=>by obtain⟨_,_,_,_,z,_⟩:=ap;exact z.seq hS) ?_ ?_⟩
 .rintro i x O H5 T2 L ⟨v4,v5,rows,rfl,s5,aT,a0,w5,pw⟩ al;have v:i<M.length:=by rw[← hT.1];exact(Gn.mp L).1
  obtain⟨e,he⟩:∃ e,M[i]?=some e:=⟨_,Gs v⟩;obtain⟨p,C,dx,st,x1,x2,x3⟩:=hT.2 i e he;rw[L]at x1
  cases x1
  have sT:=ai al (.tup [.int (i:Int),.ref p]);have s6:=s5.trans sT;have x6:=s6 _ _ x2;obtain⟨d,G,e3⟩:=w'.ends e (Gv he);have ba:(M.take i).length=i:=by rw[Hs];omega
  have bb:=w5.len;obtain⟨l,g⟩:∃ l,rows[e.1]?=some l:=⟨_,Gs ∅⟩
  obtain⟨l',am⟩:∃ l,rows[e.2]?=some l:=⟨_,Gs ∅⟩
  have be:bw (λp=>p=pn∨H p≠none) (upd H5 T2 (.tup [.int (i:Int),.ref p])) J rows:=a0.mono λb u _ z=>sT _ _ z;obtain⟨p1,y1,y2,y3⟩:=be.2 _ _ g;obtain⟨p2,z1,z2,z3⟩:=be.2 _ _ am;have a6:∀{p:Addr},¬ (p=pn∨H p≠none)->H p=none/\p≠pn:=λ{p} n=>by
   refine⟨?_,λz=>n (.inl z)⟩
   cases y:H p with
   |none=>rfl
   |some o=>exact Nh (.inr (by rw[y];exact λz=>nomatch z)) n
  obtain⟨an,bm⟩:=a6 y2;obtain⟨aI,bn⟩:=a6 z2;have bB:p2≠p1:=λy=>by rw[y]at z1;exact e3 (D _ _ p1 y1 z1)
  have ll:∀{q:Nat}{r:List Nat},rows[q]?=some r->∀ t∈r,t<i:=λ{q r} h t ht=>by
   have:=Ed w5 h ht;omega
  have bv:∀{q:Nat}{r:List Nat},rows[q]?=some r->r.length<=34:=λ{q r} h=>by
   have:=d7 (w5.nd _ _ h) (ll h);omega
  have f1:=bv g;have f2:=bv am;have a7:=sT _ _ aT;refine⟨T2,_,rfl,SqT.of af,rfl,_,_,rfl,_,_,rfl,rfl,?_⟩;refine⟨_,rfl,_,rfl,p,C,dx,_,_,rfl,x6,x3.cl,x3.n1,iT _ _ _,pn,J,_,_,rfl,rfl,SqL.of a7,aG y1,.inl ⟨rfl,_,SqL.of y3⟩,_,rfl,p1,_,_,rfl,rfl,y3,ar (by rw[Gu];omega),?_⟩
  have aR:(l.map iV)++[V.int (i:Int)]=(l++[i]).map iV:=by rw[GK];rfl
  rw[aR];have x7:(upd (upd H5 T2 (.tup [.int (i:Int),.ref p])) p1 (.lst ((l++[i]).map iV))) p=some (.ins C dx (tf (e.1:Int) (e.2:Int) st)):=by rw[ao (λz=>by rw[z]at x2;rw[x2]at an;cases an)];exact x6
  have a9:(upd (upd H5 T2 (.tup [.int (i:Int),.ref p])) p1 (.lst ((l++[i]).map iV))) pn=some (.lst J):=by rw[ao bm.symm];exact a7
  have z7:(upd (upd H5 T2 (.tup [.int (i:Int),.ref p])) p1 (.lst ((l++[i]).map iV))) p2=some (.lst (l'.map iV)):=by rw[ao bB];exact z3
  refine⟨_,rfl,_,rfl,p,C,dx,_,_,rfl,x7,x3.cl,x3.n2,mJ _ _ _,pn,J,_,_,rfl,rfl,SqL.of a9,aG z1,.inl ⟨rfl,_,SqL.of z7⟩,_,rfl,p2,_,_,rfl,rfl,z7,ar (by rw[Gu];omega),?_⟩
  have a5:(l'.map iV)++[V.int (i:Int)]=(l'++[i]).map iV:=by rw[GK];rfl
  rw[a5];refine⟨_,_,(rows.set e.1 (l++[i])).set e.2 (l'++[i]),rfl,aH (aH s6 an _) aI _,by rw[ao bn.symm];exact a9,(be.set D y1).set D z1,?_,λr B=>?_⟩
  .have q:=w5.put (k:=l.length) (j:=l'.length) d G e3 g am
   rw[AH,AH,ba]at q;rw[He,he];exact q
  .have bx:∀{q:Nat}{r:List Nat},rows[q]?=some r->(r++[i]).Pairwise (· < ·):=λ{q r} h=>Ky.mpr ⟨pw r (Gv h),LF _ _,λx L y hy=>by
    have:=ll h x L;have:y=i:=by simpa using hy
    omega⟩
   rcases J2 B with z | z
   .rcases J2 z with z | z
    .exact pw r z
    .rw[z];exact bx g
   .rw[z];exact bx am
 rintro O H5 ⟨v4,v5,rows,rfl,s5,aT,a0,w5,pw⟩;rw[hT.1,Hi]at w5;have a4:zs.length=m:=by rw[hR.1,w'.len]
 refine⟨_,rfl,b,rfl,⟨_,s5.seq hB⟩,cC (K:=K) (xs:=zs) (λi Y H6=>Same H5 H6/\bW H6 Y (rows.take i)) (G6 (ar ∅)) ⟨λ_ _ e=>e,rfl,λi l e=>by simp at e⟩ (λi Y H6 _ z=>(s5.trans z.1).seq hB) ?_ ?_⟩
 .rintro i x Y H6 L ⟨s6,rz⟩;have v:i<ts.length:=by rw[← hR.1];exact(Gn.mp L).1
  obtain⟨l,g⟩:∃ l,ts[i]?=some l:=⟨_,Gs v⟩;obtain⟨r,ac⟩:∃ r,rows[i]?=some r:=⟨_,Gs (by rw[w5.len,← w'.len];exact v)⟩
  obtain⟨p,a1,a2⟩:=(hR.mono (s5.trans s6)).2 i l g;rw[L]at a1
  cases a1
  have bP:l.length<=34:=Hy (d7 (w'.nd _ _ g) λt ht=>Ed w' g ht) ab;refine⟨_,rfl,p,cI l,rfl,(by rw[cI_V];exact SqL.of a2),(by unfold cI;rw[Gu];omega),λq aS hq c hs=>?_⟩
  have eo:=EX c hs (w'.nd _ _ g) (pw r (Gv ac)) λt=>(w'.mem i l g t).trans (w5.mem i r ac t).symm;subst eo;have s7:=ai hq (.lst ((cI r).map V.int));refine⟨s6.trans s7,?_⟩;rw[show rows.take (i+1)=rows.take i++[r] by rw[He,ac];rfl]
  exact(rz.mono s7).snoc (by rw[af,cI_V])
 rintro Y H6 _ ⟨s6,rz⟩ D' bD;rw[a4,← w5.len,Hi]at rz;have s7:=ai bD (.lst Y);have bu:=s6.trans s7;refine⟨_,rfl,_,zg (SqL.of af) (rz.mono s7),zg (SqL.of (bu _ _ aT)) (a0.off.mono bu),t5 rows,_,rfl,iteF ?_⟩;exact kk _ (s5.trans bu)
theorem lE:aw ["many","ties"] ["many","ties"] (aq dQ):=by ac_nf
theorem Ct{fr:Addr} (F:Fun K "refuse_parted" "refuse_parted" dQ f fd) (ab:Cal P w K mg base 1 "reached" ["start","pairs"] KF.spReach fr G):FnOk P w K mg base CX0 2 f fd ["many","ties"] (yM K):=by
 refine F.ok lE (by walk_at "l") λd A I s H Y Q E B h=>?_
 obtain⟨a,xs,m,o,ts,rfl,hS,q,g,m2,am,v,k⟩:=h;have an:xs.length=o.length:=q.1;refine⟨_,(ak (bG (aB jR (ab.c B (ae aj (ae (dU [] ["tie"] (aU (pv 1)) pg_c pt_c (λC J s H=>(dB (ae (uh (K:=K) rfl (pv 0) rfl) (ae (uh (K:=K) rfl (pv 0) rfl) ah))))) ah))) (av iW (av bF aj (pv 0)) aj) (aC _)) (ak cG) aJ)),?_⟩;refine⟨_,rfl,a,rfl,⟨_,hS⟩,cC (K:=K) (xs:=xs) (λi t ac=>Same H ac/\nU ac t (o.take i)) (G6 (ar ∅)) ⟨λ_ _ e=>e,rfl,λi l e=>by simp at e⟩ (λi t ac _ z=>z.1.seq hS) ?_ ?_⟩
 .rintro i x t ac L ⟨al,ez⟩;have T:i<o.length:=by rw[← q.1];exact(Gn.mp L).1
  obtain⟨e,y⟩:∃ e,o[i]?=some e:=⟨_,Gs T⟩;obtain⟨p,C,n,st,u,a2,a3⟩:=(q.mono al).2 i e y;rw[L]at u
  cases u
  refine⟨_,rfl,p,C,n,_,_,rfl,a2,a3.cl,a3.n1,iT _ _ _,_,rfl,p,C,n,_,_,rfl,a2,a3.cl,a3.n2,mJ _ _ _,(by show 2<=LK;decide),λg N=>?_⟩
  have aa:=ai N (.tup [iV e.1,iV e.2]);refine⟨al.trans aa,?_⟩;rw[show o.take (i+1)=o.take i++[e] by rw[He,y];rfl]
  exact(ez.mono aa).snoc af
 rintro t ac _ ⟨al,ez⟩ D hD;rw[q.1,Hi]at ez;have aa:=ai hD (.lst t);have O:=ez.mono aa;have mem:∀ l∈o.map (λe=>((e.1,e.2,0):KF.Lk)),l.1<m/\l.2.1<m:=λl j=>by
  obtain⟨e,y,rfl⟩:=Hn.mp j;obtain⟨b1,b2,_⟩:=g.w.ends e y;exact⟨b1,b2⟩
 have cn:KF.Conn m (o.map λe=>((e.1,e.2,0):KF.Lk)):=λb M=>g.conn (λp=>∃ x,KF.Wk (o.map λe=>(e.1,e.2,0)) 0 p x) (λe y=>by
  obtain⟨i,T⟩:=HE y;have lk:=KF.Wk.link (show(o.map λe=>((e.1,e.2,0):KF.Lk))[i]?=some (e.1,e.2,0) by rw[GC,T];rfl) (a:=e.1) (.inl rfl)
  rw[show KF.bey (e.1,e.2,0) e.1=e.2 from Nf rfl]at lk
  exact⟨λ⟨x,h⟩=>⟨_,h.trans lk⟩,λ⟨x,h⟩=>⟨_,h.trans lk.rev⟩⟩) 0 b ∅ M ⟨0,.nil 0⟩
 refine⟨D,t,m,o.map λe=>(e.1,e.2,0),rfl,af,⟨by rw[Gu];exact O.1,λi l j=>?_⟩,⟨am,by rw[Gu];omega,mem,λl j=>?_⟩,∅,λr B=>?_⟩
 .rw[GC]at j;obtain⟨e,y,rfl⟩:=G5.mp j;obtain⟨p,x1,x2⟩:=O.2 i e y;exact⟨_,x1,p,rfl,x2⟩
 .obtain⟨e,y,rfl⟩:=Hn.mp j;exact⟨IM _,IV _⟩
 rw[KF.run_full B mem ∅ cn]
 refine⟨_,rfl,_,_,rfl,rfl,⟨∅,∅,by decide⟩,_,_,rfl,rfl,rfl,_,rfl,?_⟩
 refine uN ?_ (k _ (al.trans aa));show V.int _=V.int _;rw[shlN];have:=HQ m;congr 1;omega
def cls(PL PS:Addr)(c:Bool):Addr:=if c=true then PS else PL
def eF(PL PS:Addr)(H:Hp)(xs:List V)(es:En)(ks:Kn):Prop:=xs.length=es.length/\∀(i:Nat)(e:Nat×Nat)(k:Int×Int),es[i]?=some e->ks[i]?=some k->∃ p n,xs[i]?=some (.ref p)/\H p=some (.ins (cls PL PS (decide (k.1=1))) n (tf (e.1:Int) (e.2:Int) k.2))
theorem eF.mono{PS:Addr}{ks:Kn}(t:eF PL PS H xs es ks)(h:Same H H'):eF PL PS H' xs es ks:=⟨t.1,λi e k q r=>by
 obtain⟨p,n,a,b⟩:=t.2 i e k q r
 exact⟨p,n,a,h _ _ b⟩⟩
structure CW(K:Gw)(C:Addr):Prop where
 cl:Cls K C
 n1:eQ K C "many"
 n2:eQ K C "ties"
 n3:eQ K C "turns"
 n4:eQ K C "rounds"
 n5:eQ K C "sides"
theorem iF(k:Str)(v:V):∀ fs:List (Str×V),(putF k v fs).length<=fs.length+1
 |[]=>Gy _
 | (a,b)::r=>by
  show(if a=k then(a,v)::r else(a,b)::putF k v r).length<=_;have:=iF k v r;split<;>simp only[GX]<;>omega
theorem none_of{b:Addr}(s:Same H H')(z:H' b=none):H b=none:=by
 cases y:H b with
 |none=>rfl
 |some o=>rw[s _ _ y]at z;cases z
structure WebG(S:Addr->Prop)(H:Hp)(fs:List (Str×V))(m:Nat)(es:En)(ts rs:List (List Nat)):Prop where
 many:fs.lookup ("many" : Str)=some (.int (m:Int))
 turns:∃ q z,fs.lookup ("turns" : Str)=some (.ref q)/\¬ S q/\H q=some (.lst z)/\bw S H z ts
 rounds:∃ q z,fs.lookup ("rounds" : Str)=some (.ref q)/\H q=some (.lst z)/\bW H z rs
 sides:∃ q z,fs.lookup ("sides" : Str)=some (.ref q)/\H q=some (.lst z)/\gu H z es.length rs
 part:cP (fol es ts) (2*es.length) (2*es.length) rs
theorem gu.mono{z:List V}(h:gu H z n rs)(s:Same H H'):gu H' z n rs:=⟨h.1,λi T=>by
 obtain⟨t,a,b,r,v,I,Q,d⟩:=h.2 i T
 exact⟨t,a,b,r,v,I,s _ _ Q,d⟩⟩
theorem WebG.mono{S f:Addr->Prop}{H H':Hp}{fs:List (Str×V)}{m:Nat}{es:En}{ts rs:List (List Nat)}(h:WebG S H fs m es ts rs)(s:Same H H')(i:∀ a,f a->S a):WebG f H' fs m es ts rs:=by
 obtain⟨a,⟨q,z,b1,w,b2,b3⟩,⟨O,T,c1,c2,c3⟩,⟨Y,N,d1,d2,D⟩,e⟩:=h;refine⟨a,⟨q,z,b1,λy=>w (i _ y),s _ _ b2,b3.1,λj l y=>?_⟩,⟨O,T,c1,s _ _ c2,c3.mono s⟩,⟨Y,N,d1,s _ _ d2,D.mono s⟩,e⟩;obtain⟨r,I,Q,d⟩:=b3.2 j l y;exact⟨r,I,λx=>Q (i _ x),s _ _ d⟩
inductive mO(K:Gw)(vs:List L2.V)(H:L2.Hp)(Q:L2.VK)(x3_:L2.XK):Prop
 |mk (p C dx qt qh:Addr)(m:Nat)(xs zs:List V)(es:En)(ts:List (List Nat)) (h0_:vs = [.ref p,.int (m:Int),.ref qt,.ref qh])(h1_:H p=some (.ins C dx []))(h2_:CW K C)(h3_:H qt=some (.lst xs))(h4_:dD K H xs es)(h5_:H qh=some (.lst zs))(h6_:bW H zs ts)(h7_:Gr m es ts)(h8_:0<es.length)(h9_:es.length<=34)(h10_:∀(fs:List (Str×V))(q1:Addr)(rs:List (List Nat))(H':Hp),H' p=some (.ins C dx fs)->WebG (λa=>H a≠none) H' fs m es ts rs->H q1=none->fs.lookup ("ties" : Str)=some (.ref q1)->H' q1=some (.lst xs)->(∀ q o,H q=some o->q≠p->H' q=some o)->Q .non H')
theorem dD.keep{G:Hp}(t:dD K H xs es)(hp:H p=some (.ins C f []))(k:∀ q u,q≠p->H q=some u->G q=some u):dD K G xs es:=⟨t.1,λi e z=>by
 obtain⟨q,c,o,s,a,b,d⟩:=t.2 i e z;refine⟨q,c,o,s,a,k _ _ (λz=>?_) b,d⟩;rw[z,hp]at b;have O:([]:List (Str×V))=tf (e.1:Int) (e.2:Int) s:=by
  injection b with b;injection b
 have M:=iT (e.1:Int) (e.2:Int) s;rw[← O]at M
 cases M⟩
theorem jJ:aw ["self","many","ties","turns","rounds"] ["self","many","ties","turns"] (aq cx):=by ac_nf
theorem Cp{f2 f3 f4 f5:Addr}{d1 d2 d4 d5:FuncData} (F:Fun K "__init__" "Web.__init__" cx f fd) (T:Txt mg) (aL:Cal P w K mg base 1 "refuse_ends" ["many","ties"] (yN K) I d1) (aI:Cal P w K mg base 1 "refuse_turns" ["many","ties","turns"] (vQ K) f2 d2) (ap:Cal P w K mg base 2 "refuse_parted" ["many","ties"] (yM K) f3 Y) (aS:Cal P w K mg base 4 "rounds_of" ["ties","turns"] (vP K) f4 d4) (a3:Cal P w K mg base 1 "sides_of" ["ties","rounds"] (yJ K) f5 d5) :
  FnOk P w K mg base CX0 5 f fd ["self","many","ties","turns"] (mO K):=by
 refine F.ok jJ (by walk_at "l") λaa A O s H vs Q E B h=>?_
 obtain⟨p,C,dx,qt,qh,m,xs,zs,es,ts,rfl,M,cw,aT,hT,a7,hR,g,e0,ab,kk⟩:=h;have w':=g.w;have m2:=g.two e0;have mf:=AQ g;have bv:xs.length=es.length:=hT.1;have aR:zs.length=m:=by rw[hR.1,w'.len]
 have pl:∀{q:Addr}{k:List V},H q=some (.lst k)->q≠p:=λ{q k} h z=>by rw[z,M]at h;cases h
 refine⟨_,(ag (aP (aL.c B (ae (pv 1) (ae (pv 2) ah))))
   (ag (aP (aI.c B (ae (pv 1) (ae (pv 2) (ae (pv 3) ah)))))
   (ag (aP (ap.c B (ae (pv 1) (ae (pv 2) ah))))
   (ag (ay 4 jJ.nd (aS.c B (ae (pv 2) (ae (pv 3) ah))))
   (ag (bG (aB jR (av b9 (av iW (pv 1) (aD aA (by rfl) T.n_len bT (ae (pv 2) ah))) (aD aA (by rfl) T.n_len bT (ae (pv 4) ah))) aj (aC _)) (ak cG) aJ)
   (ag (k8 (pv 0) (pv 1) rfl)
   (ag (k8 (pv 0) (b7 ig (by rfl) T.n_list kX (ae (pv 2) ah)) rfl)
   (ag (k8 (pv 0) (dU [] ["about"] (aU (pv 3)) pg_c pt_c (λC ex s H=>(b7 (yo (K:=K) rfl) (by rfl) T.n_list kX (ae (pv 0) ah)))) rfl)
   (ag (k8 (pv 0) (pv 4) rfl)
   (ak (k8 (pv 0) (a3.c B (ae (pv 2) (ae (pv 4) ah))) rfl))))))))))),?_⟩
 refine⟨_,rfl,_,rfl,qt,xs,m,es,rfl,SqL.of aT,hT,λe he=>⟨(w'.ends e he).1,(w'.ends e he).2.1⟩,?_⟩;refine⟨_,rfl,_,rfl,_,rfl,qt,qh,xs,zs,m,es,ts,rfl,SqL.of aT,hT,SqL.of a7,hR,w',ab,∅,λd J=>?_⟩
 refine⟨_,rfl,_,rfl,qt,xs,m,es,ts,rfl,SqL.of (J _ _ aT),hT.mono J,g,m2,∅,ab,λN s2=>?_⟩
 have am:=J.trans s2;refine⟨_,rfl,_,rfl,qt,qh,m,es,ts,rfl,⟨⟨xs,SqL.of (am _ _ aT),hT.mono am⟩,⟨zs,SqL.of (am _ _ a7),hR.mono am⟩,w',∅⟩,λqr vs rs H3 s3 aO a5 ro=>?_⟩
 have an:=am.trans s3;have cnt:m+rs.length=es.length+2:=by
  obtain⟨bx,p',c⟩:=g.part;rw[← p'.same ro.part];exact c
 have be:vs.length=rs.length:=a5.1;refine⟨_,rfl,_,rfl,qt,xs,rfl,.inl (SqL.of (an _ _ aT)),_,_,rfl,rfl,_,rfl,qr,vs,rfl,.inl (SqL.of aO),_,_,rfl,rfl,rfl,_,rfl,?_⟩;refine uN (congrArg V.int ∅) ?_
 have bb:=an _ _ M;refine⟨_,rfl,_,rfl,p,C,dx,[],rfl,bb,cw.cl,cw.n1,(by show 0<1000;decide),?_⟩
 have keep:∀{G:Hp}{o:HO}{q:Addr}{u:HO},q≠p->G q=some u->(upd G p o) q=some u:=λn z=>by rw[ao n];exact z
 refine⟨_,rfl,qt,xs,rfl,.inl (SqL.of (keep (pl aT) (an _ _ aT))),λq1 ac=>?_⟩;have a6:q1≠p:=λz=>by rw[z,af]at ac;cases ac
 have t4:=ai ac (.lst xs);refine⟨_,rfl,p,C,dx,_,rfl,t4 _ _ af,cw.cl,cw.n2,?_,?_⟩
 .have:=iF "many" (.int (m:Int)) ([]:List (Str×V));simp only[IL]at this;omega
 have t1:∀ q u,q≠p->H3 q=some u->(upd (upd (upd H3 p (.ins C dx (putF "many" (.int (m:Int)) []))) q1 (.lst xs)) p (.ins C dx (putF "ties" (.ref q1) (putF "many" (.int (m:Int)) [])))) q=some u:=λq u n z=>keep n (t4 _ _ (keep n z));have bg:(upd (upd (upd H3 p (.ins C dx (putF "many" (.int (m:Int)) []))) q1 (.lst xs)) p (.ins C dx (putF "ties" (.ref q1) (putF "many" (.int (m:Int)) [])))) q1=some (.lst xs):=keep a6 af;have pa:(upd (upd (upd H3 p (.ins C dx (putF "many" (.int (m:Int)) []))) q1 (.lst xs)) p (.ins C dx (putF "ties" (.ref q1) (putF "many" (.int (m:Int)) [])))) p=some (.ins C dx (putF "ties" (.ref q1) (putF "many" (.int (m:Int)) []))):=af;generalize upd (upd (upd H3 p (.ins C dx (putF "many" (.int (m:Int)) []))) q1 (.lst xs)) p (.ins C dx (putF "ties" (.ref q1) (putF "many" (.int (m:Int)) [])))=H4 at t1 bg pa;have lk:(putF "ties" (.ref q1) (putF "many" (.int (m:Int)) []):List (Str×V)).lookup ("ties" : Str)=some (.ref q1):=by rw[az,Nf rfl]
 have ln:(putF "ties" (.ref q1) (putF "many" (.int (m:Int)) []):List (Str×V)).length<=2:=by
  have a1:=iF "many" (.int (m:Int)) ([]:List (Str×V));have a2:=iF "ties" (.ref q1) (putF "many" (.int (m:Int)) ([]:List (Str×V)));simp only[IL]at a1;omega
 have bi:(putF "ties" (.ref q1) (putF "many" (.int (m:Int)) []):List (Str×V)).lookup ("many" : Str)=some (.int (m:Int)):=by rw[az,Ng (by decide),az,Nf rfl]
 generalize (putF "ties" (.ref q1) (putF "many" (.int (m:Int)) []):List (Str×V))=fs at pa lk ln bi;have a9:=t1 _ _ (pl a7) (an _ _ a7);have ba:∀{b:Addr},H4 b=none->H b=none:=λ{b} z=>by
  cases y:H b with
  |none=>rfl
  |some o =>
   by_cases n:b=p
   .rw[n,pa]at z;cases z
   .rw[t1 _ _ n (an _ _ y)]at z;cases z
 have bm:H q1=none:=by
  cases y:H q1 with
  |none=>rfl
  |some o=>rw[keep a6 (an _ _ y)]at ac;cases ac
 refine⟨_,rfl,qh,rfl,⟨_,SqL.of a9⟩,cC (K:=K) (xs:=zs) (λi k H5=>Same H4 H5/\bw (λa=>H a≠none) H5 k (ts.take i)) (G6 (ar ∅)) ⟨λ_ _ e=>e,rfl,λi l e=>by simp at e⟩ (λi _ H5 _ z=>SqL.of (z.1 _ _ a9)) ?_ ?_⟩
 .rintro i x k H5 L ⟨s5,rz⟩;have v:i<ts.length:=by rw[← hR.1];exact(Gn.mp L).1
  obtain⟨l,j⟩:∃ l,ts[i]?=some l:=⟨_,Gs v⟩;obtain⟨r,a1,a2⟩:=hR.2 i l j;rw[L]at a1
  cases a1
  refine⟨_,rfl,r,_,rfl,.inl (SqL.of (s5 _ _ (t1 _ _ (pl a2) (an _ _ a2)))),λg hg=>⟨s5.trans (ai hg _),?_⟩⟩;rw[show ts.take (i+1)=ts.take i++[l] by rw[He,j];rfl]
  exact(rz.mono λb u _ z=>ai hg _ _ _ z).snoc (λz=>z (ba (none_of s5 hg))) af
 rintro k H5 _ ⟨s5,rz⟩ D hD;rw[hR.1,Hi]at rz;have bd:D≠p:=λz=>by rw[z,s5 _ _ pa]at hD;cases hD
 have s6:=s5.trans (ai hD (.lst k));refine⟨_,rfl,p,C,dx,fs,rfl,s6 _ _ pa,cw.cl,cw.n3,∅,?_⟩
 have bR:=iF "turns" (.ref D) fs;have bB:(putF "turns" (.ref D) fs).lookup ("ties" : Str)=some (.ref q1):=by rw[az,Ng (by decide)];exact lk
 refine⟨_,rfl,_,rfl,p,C,dx,_,rfl,af,cw.cl,cw.n4,∅,?_⟩
 have bU:=iF "rounds" (.ref qr) (putF "turns" (.ref D) fs);have bD:(putF "rounds" (.ref qr) (putF "turns" (.ref D) fs)).lookup ("ties" : Str)=some (.ref q1):=by rw[az,Ng (by decide)];exact bB
 have t7:∀ q u,q≠p->H3 q=some u->(upd (upd (upd H5 D (.lst k)) p (.ins C dx (putF "turns" (.ref D) fs))) p (.ins C dx (putF "rounds" (.ref qr) (putF "turns" (.ref D) fs)))) q=some u:=λq u n z=>keep n (keep n (s6 _ _ (t1 q u n z)));have bn:(upd (upd (upd H5 D (.lst k)) p (.ins C dx (putF "turns" (.ref D) fs))) p (.ins C dx (putF "rounds" (.ref qr) (putF "turns" (.ref D) fs)))) q1=some (.lst xs):=keep a6 (keep a6 (s6 _ _ bg));have p7:(upd (upd (upd H5 D (.lst k)) p (.ins C dx (putF "turns" (.ref D) fs))) p (.ins C dx (putF "rounds" (.ref qr) (putF "turns" (.ref D) fs)))) p=some (.ins C dx (putF "rounds" (.ref qr) (putF "turns" (.ref D) fs))):=af;have D7:(upd (upd (upd H5 D (.lst k)) p (.ins C dx (putF "turns" (.ref D) fs))) p (.ins C dx (putF "rounds" (.ref qr) (putF "turns" (.ref D) fs)))) D=some (.lst k):=keep bd (keep bd af);have u7:∀ q u,q≠p->H5 q=some u->(upd (upd (upd H5 D (.lst k)) p (.ins C dx (putF "turns" (.ref D) fs))) p (.ins C dx (putF "rounds" (.ref qr) (putF "turns" (.ref D) fs)))) q=some u:=λq u n z=>keep n (keep n (ai hD _ _ _ z));generalize upd (upd (upd H5 D (.lst k)) p (.ins C dx (putF "turns" (.ref D) fs))) p (.ins C dx (putF "rounds" (.ref qr) (putF "turns" (.ref D) fs)))=H7 at t7 bn p7 D7 u7;have a4:∀{q:Addr}{k:List V},H3 q=some (.lst k)->q≠p:=λ{q k} h z=>by rw[z,bb]at h;cases h
 have bP:bW H7 vs rs:=⟨a5.1,λi l z=>by
  obtain⟨r,a1,a2⟩:=a5.2 i l z
  exact⟨r,a1,t7 _ _ (a4 a2) a2⟩⟩
 have T7:dD K H7 xs es:=(hT.mono an).keep bb t7;refine⟨_,rfl,_,rfl,qt,qr,xs,vs,es,_,rs,rfl,SqL.of (t7 _ _ (pl aT) (an _ _ aT)),T7,∅,SqL.of (t7 _ _ (a4 aO) aO),bP,ro,λq5 z5 H8 s8 al bo=>?_⟩
 refine⟨_,rfl,p,C,dx,_,rfl,s8 _ _ p7,cw.cl,cw.n5,∅,?_⟩
 have bQ:q5≠p:=λz=>by rw[z,s8 _ _ p7]at al;cases al
 have bu:=t7 _ _ (a4 aO) aO;refine kk _ q1 rs _ af ⟨?_,⟨D,k,?_,λz=>z (ba (none_of s5 hD)),keep bd (s8 _ _ D7),rz.1,λi l z=>?_⟩,⟨qr,vs,?_,keep (a4 aO) (s8 _ _ bu),a5.1,λi l z=>?_⟩,⟨q5,z5,?_,keep bQ al,bo.1,λi v=>?_⟩,ro⟩ bm (by rw[az,Ng (by decide)];exact bD) (keep a6 (s8 _ _ bn)) λq o z n=>keep n (s8 _ _ (t7 q o n (an _ _ z)))
 .rw[az,Ng (by decide),az,Ng (by decide),az,Ng (by decide)]
  exact bi
 .rw[az,Ng (by decide),az,Ng (by decide),az,Nf rfl]
 .obtain⟨r,a1,a0,a2⟩:=rz.2 i l z;have nr:r≠p:=λz=>by rw[z,s5 _ _ pa]at a2;cases a2
  exact⟨r,a1,a0,keep nr (s8 _ _ (u7 r _ nr a2))⟩
 .rw[az,Ng (by decide),az,Nf rfl]
 .obtain⟨r,a1,a2⟩:=a5.2 i l z;exact⟨r,a1,keep (a4 a2) (s8 _ _ (t7 _ _ (a4 a2) a2))⟩
 .rw[az,Nf rfl]
 .obtain⟨t,a,b,r,r',y1,y2,y3⟩:=bo.2 i v;exact⟨t,a,b,r,r',y1,keep (λz=>by rw[z,s8 _ _ p7]at y2;cases y2) y2,y3⟩
theorem eF.at{PS:Addr}{ks:Kn}(t:eF PL PS H xs es ks)(o:ks.length=es.length)(L:CT K PL)(TS:CT K PS):dD K H xs es:=⟨t.1,λi e z=>by
 have T:=(Gn.mp z).1;obtain⟨k,G⟩:∃ k,ks[i]?=some k:=⟨_,Gs ∅⟩
 obtain⟨p,n,a,b⟩:=t.2 i e k z G;refine⟨p,_,n,k.2,a,b,?_⟩;unfold cls;split
 .exact TS
 .exact L⟩
def WebF(S:Addr->Prop)(PL PS G:Addr)(H:Hp)(p:Addr)(m:Nat)(es:En)(ts rs:List (List Nat))(ks:Kn):Prop:=∃ n fs L N,H p=some (.ins G n fs)/\WebG S H fs m es ts rs/\¬ S L/\fs.lookup ("ties" : Str)=some (.ref L)/\H L=some (.lst N)/\eF PL PS H N es ks
theorem WebF.mono{S f:Addr->Prop}{PL PS G p:Addr}{H H':Hp}{m:Nat}{es:En}{ts rs:List (List Nat)}{ks:Kn}(h:WebF S PL PS G H p m es ts rs ks)(s:Same H H')(i:∀ a,f a->S a):WebF f PL PS G H' p m es ts rs ks:=by
 obtain⟨g,fs,L,N,a,b,n,c,d,e⟩:=h;exact⟨g,fs,L,N,s _ _ a,b.mono s i,λy=>n (i _ y),c,s _ _ d,e.mono s⟩
open KF (andN orN shlN xorN)
theorem sQ:LO "sum" = some (.builtin "sum"):=by decide
theorem zL{t1 t2:TE}(J:PE X e t1)(h2:PE X e t2):PE X e (λO H Q=>t1 O H Q∨t2 O H Q):=λB s O H Q I h=>h.elim (J B s O H Q I) (h2 B s O H Q I)
def bit(l a:Int):Int:=l/2^a.toNat%2
theorem tG(x y:Int):Ma (Mc x y) 1=(x%2+y%2)%2:=by
 have e:Ma (Mc x y) 1=Mc x y%2:=PySem.W.kbt_mask _ 1;rw[e,PyProof.Rows.bitXor_and];omega
def unp(c:Bool)(a b l:Int):Bool:=!decide (V.int ((bit l a+bit l b)%2)=V.int (if c=true then 1 else 0))
inductive gE(push:Bool)(vs:List L2.V)(H:L2.Hp)(Q:L2.VK)(x3_:L2.XK):Prop
 |mk (p:_) (h0_:vs = [.ref p])(h1_:Q (.int (if push=true then 1 else 0)) H)
def TieAt(H:Hp)(p C:Addr)(a b s:Int):Prop:=∃ n,H p=some (.ins C n (tf a b s))
inductive rh(C:Addr)(push:Bool)(vs:List L2.V)(H:L2.Hp)(Q:L2.VK)(x3_:L2.XK):Prop
 |mk (p a b s l:_) (h0_:vs = [.ref p,.int l])(h1_:TieAt H p C a b s)(h2_:0<=a)(h3_:0<=b)(h4_:Q (.bl (unp push a b l)) H)
def U(es:En)(ks:Kn)(l:Int)(t:Nat):Bool:=match es[t]?,ks[t]? with | some e,some k=>unp (decide (k.1=1)) (e.1:Int) (e.2:Int) l | _,_=>false
theorem U_at{ks:Kn}{l:Int}{t:Nat}{e:Nat×Nat}{k:Int×Int}(J:es[t]?=some e)(h2:ks[t]?=some k):U es ks l t=unp (decide (k.1=1)) (e.1:Int) (e.2:Int) l:=by unfold U;rw[J,h2]
def upL(u:Nat->Bool)(i:Nat):List Nat:=(GW i).filter u
theorem lU(u:Nat->Bool)(i:Nat):upL u (i+1)=if u i=true then upL u i++[i] else upL u i:=by
 unfold upL;rw[ID,Ji];by_cases h:u i=true
 .rw[Nf h];simp[h]
 .rw[Ng h];simp[h]
def xt(ps:List Nat):Nat:=ps.foldl (λm p=>m|||2^p) 0
theorem oz(ps:List Nat)(p:Nat):xt (ps++[p])=xt ps|||2^p:=by unfold xt;rw[Kh];rfl
def MK(u:Nat->Bool):Nat->Nat
 |0=>0
 |i+1=>if u i=true then MK u i|||2^i else MK u i
theorem ng(u:Nat->Bool):∀ i,xt (upL u i)=MK u i
 |0=>rfl
 |i+1=>by
  rw[lU];show _=if u i=true then MK u i|||2^i else MK u i
  split
  .rw[oz,ng u i]
  .exact ng u i
theorem dq(u:Nat->Bool)(k:Nat):∀ i,(MK u i).testBit k=(decide (k<i)&&u k)
 |0=>by show KJ 0 k=_;simp
 |i+1=>by
  show(if u i=true then MK u i|||2^i else MK u i).testBit k=_
  have D:=dq u k i;by_cases h:u i=true
  .rw[Nf h,Jg,D,Hf];by_cases z:i=k
   .subst z;simp[h]
   .by_cases N:k<i
    .simp[N,Ik N,z]
    .have:¬ k<i+1:=by omega
     simp[N,z,this]
  .rw[Ng h,D];by_cases N:k<i
   .simp[N,Ik N]
   .by_cases z:i=k
    .subst z;simp[h]
    .have:¬ k<i+1:=by omega
     simp[N,this]
def stg(ks:Kn)(t:Nat):Int:=match ks[t]? with | some k=>k.2 | none=>0
def prL(ks:Kn)(u:Nat->Bool)(i:Nat):List Int:=(GW i).map λt=>if u t=true then stg ks t else 0
theorem l8(ks:Kn)(u:Nat->Bool)(i:Nat):prL ks u (i+1)=prL ks u i++[if u i=true then stg ks i else 0]:=by
 unfold prL;rw[ID,GK];rfl
theorem bitN(N a:Nat):bit (N:Int) (a:Int)=if N.testBit a=true then 1 else 0:=by
 unfold bit;rw[GA,IX];have e:((N:Int)/2^a%2)=((N/2^a%2:Nat):Int):=by
  rw[Int.natCast_emod,Lc,Lj];rfl
 rw[e];by_cases z:N/2^a%2=1
 .rw[z,Mq rfl];rfl
 .rw[LJ z];have:N/2^a%2=0:=by omega
  rw[this];rfl
def kY(K:Gw):Sp:=λY H Q _=>∃(a:Addr)(i:List Nat),Y = [.ref a]/\SqL K H a (i.map iV)/\(∀ p∈i,p<80)/\Q (.int ((xt i:Nat):Int)) H
structure WebAt(PL PS WC:Addr)(H:Hp)(p:Addr)(es:En)(ks:Kn):Prop where
 w:∃ dx fs q1 xs,H p=some (.ins WC dx fs)/\fs.lookup ("ties" : Str)=some (.ref q1)/\H q1=some (.lst xs)/\eF PL PS H xs es ks
 kl:ks.length=es.length
 few:es.length<=34
inductive DU(PL PS WC:Addr)(vs:List L2.V)(H:L2.Hp)(Q:L2.VK)(x3_:L2.XK):Prop
 |mk (p:Addr)(es:En)(ks:Kn)(l:Int) (h0_:vs = [.ref p,.int l])(h1_:WebAt PL PS WC H p es ks)(h2_:∀ H',Same H H'->Q (.int ((MK (U es ks l) es.length:Nat):Int)) H')
def sm(l:List Nat)(g:Nat->Nat):Nat:=(l.map g).sum
theorem yV(x:Nat)(l:List Nat)(g:Nat->Nat):sm (x::l) g=g x+sm l g:=by unfold sm;rw[G7,HH]
def WebT(PL PS G:Addr)(H:Hp)(p:Addr)(m:Nat)(es:En)(ts:List (List Nat))(ks:Kn):Prop:=∃ n fs L N J D,H p=some (.ins G n fs)/\fs.lookup ("many" : Str)=some (.int (m:Int))/\fs.lookup ("ties" : Str)=some (.ref L)/\H L=some (.lst N)/\eF PL PS H N es ks/\fs.lookup ("turns" : Str)=some (.ref J)/\H J=some (.lst D)/\bW H D ts
theorem WebF.t{S:Addr->Prop}{PS:Addr}{ks:Kn}(h:WebF S PL PS f H p m es ts rs ks):WebT PL PS f H p m es ts ks:=by
 obtain⟨n,fs,L,N,a,b,_,c,d,e⟩:=h;obtain⟨J,D,b1,_,b2,b3⟩:=b.turns;exact⟨n,fs,L,N,J,D,a,b.many,c,d,e,b1,b2,b3.off⟩
theorem tW:aw ["self"] ["self"] (aq dJ):=by ac_nf
theorem Co (F:Fun K "wish" "Tie.wish" dJ f fd):FnOk P w K mg base CX0 1 f fd ["self"] (gE false):=by
 refine F.ok tW (by walk_at "l") λd A I s H Y Q E B h=>?_
 obtain⟨p,rfl,k⟩:=h;exact⟨_,(ak (aF aj)),k⟩
theorem rH:aw ["self"] ["self"] (aq cU):=by ac_nf
theorem Cn (F:Fun K "wish" "Push.wish" cU f fd):FnOk P w K mg base CX0 1 f fd ["self"] (gE true):=by
 refine F.ok rH (by walk_at "l") λd A I s H Y Q E B h=>?_
 obtain⟨p,rfl,k⟩:=h;exact⟨_,(ak (aF aj)),k⟩
def bt(M t:Nat):Nat:=M/2^t%2
theorem BD(M t:Nat):bt M t=if M.testBit t=true then 1 else 0:=by
 unfold bt;rw[IX];by_cases z:M/2^t%2=1
 .rw[z,Mq rfl,Nf rfl]
 .rw[LJ z,Ng G4];omega
theorem Et(M t:Nat):Ma ((M:Int)/2^((t:Nat):Int).toNat) 1=((bt M t:Nat):Int):=by
 have e:Ma ((M:Int)/2^((t:Nat):Int).toNat) 1=((M:Int)/2^((t:Nat):Int).toNat)%2:=PySem.W.kbt_mask _ 1;rw[e,GA];unfold bt;rw[Int.natCast_emod,Lc,Lj];rfl
def parR(M:Nat)(r:List Nat):Nat:=sm r (λd=>bt M (d/2))%2
theorem B0(l:List Nat)(g:Nat->Nat):(l.map λd=>((g d:Nat):Int)).sum=((sm l g:Nat):Int):=by
 induction l with
 |nil=>rfl
 |cons x l D=>rw[G7,HH,D,yV];omega
def aN(ks:Kn)(t:Nat):Bool:=match ks[t]? with | some k=>decide (k.1=1) | none=>false
theorem kK{ks:Kn}{t:Nat}{k:Int×Int}(h:ks[t]?=some k):aN ks t=decide (k.1=1):=by unfold aN;rw[h]
def oddU(M:Nat)(rs:List (List Nat))(k:Nat):Bool:=decide (parR M (rs.getD k [])=1)
theorem mr{k:Nat}{r:List Nat}(h:rs[k]?=some r):rs.getD k []=r:=by rw[GP,h];rfl
def WebR(PL PS G:Addr)(H:Hp)(p:Addr)(es:En)(ks:Kn)(rs:List (List Nat)):Prop:=∃ n fs L N t j,H p=some (.ins G n fs)/\fs.lookup ("ties" : Str)=some (.ref L)/\H L=some (.lst N)/\eF PL PS H N es ks/\fs.lookup ("rounds" : Str)=some (.ref t)/\H t=some (.lst j)/\bW H j rs
theorem WebR.mono{PL PS G:Addr}{H H':Hp}{p:Addr}{es:En}{ks:Kn}{rs:List (List Nat)}(h:WebR PL PS G H p es ks rs)(s:Same H H'):WebR PL PS G H' p es ks rs:=by
 obtain⟨n,fs,L,N,t,j,a,b,c,d,e,f,g⟩:=h;exact⟨n,fs,L,N,t,j,s _ _ a,b,s _ _ c,d.mono s,e,s _ _ f,g.mono s⟩
inductive yO(PL PS WC:Addr)(vs:List L2.V)(H:L2.Hp)(Q:L2.VK)(x3_:L2.XK):Prop
 |mk (p:Addr)(es:En)(ks:Kn)(rs:List (List Nat)) (h0_:vs = [.ref p])(h1_:WebR PL PS WC H p es ks rs)(h2_:ks.length=es.length)(h3_:es.length<=34)(h4_:∀ H',Same H H'->Q (.int ((MK (aN ks) es.length:Nat):Int)) H')
inductive oR(PL PS WC:Addr)(vs:List L2.V)(H:L2.Hp)(Q:L2.VK)(x3_:L2.XK):Prop
 |mk (p:Addr)(M k:Nat)(es:En)(ks:Kn)(rs:List (List Nat))(r:List Nat) (h0_:vs = [.ref p,.int (M:Int),.int (k:Int)])(h1_:WebR PL PS WC H p es ks rs)(h2_:rs[k]?=some r)(h3_:r.length<=900)(h4_:∀ H',Same H H'->Q (.int ((parR M r:Nat):Int)) H')
inductive yP(PL PS WC:Addr)(vs:List L2.V)(H:L2.Hp)(Q:L2.VK)(x3_:L2.XK):Prop
 |mk (p:Addr)(es:En)(ks:Kn)(rs:List (List Nat)) (h0_:vs = [.ref p])(h1_:WebR PL PS WC H p es ks rs)(h2_:ks.length=es.length)(h3_:es.length<=34)(h4_:rs.length<=70)(h5_:(∀ r∈rs,r.length<=900))(h6_:∀ H',Same H H'->Q (.int ((MK (oddU (MK (aN ks) es.length) rs) rs.length:Nat):Int)) H')
theorem WebF.r{S:Addr->Prop}{PS:Addr}{ks:Kn}(h:WebF S PL PS f H p m es ts rs ks):WebR PL PS f H p es ks rs:=by
 obtain⟨n,fs,L,N,a,g,_,b,c,d⟩:=h;obtain⟨t,j,i,s,e⟩:=g.rounds;exact⟨n,fs,L,N,t,j,a,b,c,d,i,s,e⟩
theorem yZ:aw ["web"] ["web"] (aq pq):=by ac_nf
theorem Fi{PS f1:Addr}{d1:FuncData} (F:Fun K "pushes" "pushes" pq f fd) (T:Txt mg) (cw:CW K q) (TL:CT K PL) (TS:CT K PS) (ab:Cal P w K mg base 1 "mask_of" ["places"] (kY K) a G) (u0:Met P w K mg base 1 PL "wish" ["self"] (gE false) I Y) (u1:Met P w K mg base 1 PS "wish" ["self"] (gE true) f1 d1) :
  FnOk P w K mg base CX0 2 f fd ["web"] (yO PL PS q):=by
 refine F.ok yZ (by walk_at "l") λJ A O s H g Q E B h=>?_
 obtain⟨p,o,ks,rs,rfl,⟨m,fs,t,xs,q5,z5,j,an,ac,tk,_⟩,kl,aa,kk⟩:=h;have aL:=TL.cl;have aO:=TS.cl;have aI:xs.length=o.length:=tk.1;refine⟨_,(ak (aF (ab.c B (ae (dU [] ["number","tie"] (fO rfl T.n_enumerate (ae (a8 (pv 0) rfl) ah)) (λC ex s H=>(dv (n:=2) (K:=K) rfl rfl (aE (aV (i:=0) (show(["number","tie"]:List Str).Nodup from by decide) rfl (Or.inl rfl)) (aE (aV (i:=1) (show(["number","tie"]:List Str).Nodup from by decide) rfl (Or.inl rfl)) bC)))) (λC ex s H=>(kL (aB cj (zL (fP (pv 1) aL u0.me u0.ok (B.mono (by decide)) u0.bn .nil fR) (fP (pv 1) aO u1.me u1.ok (B.mono (by decide)) u1.bn .nil fR)) aj (aC _)))) (λC ex s H=>(pv 0))) ah)))),?_⟩
 refine⟨_,rfl,p,q,m,fs,_,rfl,j,cw.cl,cw.n2,an,t,rfl,⟨_,SqL.of ac⟩,fx (K:=K) (xs:=xs) (λi d N=>Same H N/\d=(upL (aN ks) i).map iV) (G6 (ar ∅)) ⟨λ_ _ e=>e,rfl⟩ (λi d N _ z=>SqL.of (z.1 _ _ ac)) ?_ ?_ ?_⟩
 .rintro i x d N T2 L ⟨l,rfl⟩ am;have v:i<o.length:=by rw[← tk.1];exact(Gn.mp L).1
  obtain⟨e,r⟩:∃ e,o[i]?=some e:=⟨_,Gs v⟩;obtain⟨k,u⟩:∃ k,ks[i]?=some k:=⟨_,Gs ∅⟩
  have s3:=l.trans (ai am (.tup [.int (i:Int),x]));obtain⟨p',al,x1,x2⟩:=(tk.mono s3).2 i e k r u;rw[L]at x1
  cases x1
  refine⟨T2,_,rfl,SqT.of af,rfl,_,_,rfl,_,_,rfl,rfl,rfl,?_⟩;have hU:=kK u;have ap:∀ b:Bool,b=aN ks i->(if b=true then tVar 0 ([some (.int (i:Int)),some (.ref p')]:St) (upd N T2 (.tup [.int (i:Int),.ref p'])) (λy H4=>Same H H4/\(upL (aN ks) i).map iV++[y]=(upL (aN ks) (i+1)).map iV) else Same H (upd N T2 (.tup [.int (i:Int),.ref p']))/\(upL (aN ks) i).map iV=(upL (aN ks) (i+1)).map iV):=λb M=>by
   rw[lU,← M]
   cases b with
   |true =>
    refine iteT ⟨_,rfl,s3,?_⟩;rw[Nf rfl,GK];rfl
   |false =>
    refine iteF ⟨s3,?_⟩;rw[Ng (by decide)]
  by_cases c:k.1=1
  .rw[Mq c]at x2 hU;refine .inr ⟨_,rfl,p',al,_,rfl,x2,mK _ _ _ (by decide) (by decide) (by decide),p',rfl,rfl,_,rfl,?_⟩
   exact ap _ hU.symm
  .rw[LJ c]at x2 hU;refine .inl ⟨_,rfl,p',al,_,rfl,x2,mK _ _ _ (by decide) (by decide) (by decide),p',rfl,rfl,_,rfl,?_⟩
   exact ap _ hU.symm
 .rintro d N ⟨l,rfl⟩ D hD;rw[aI];refine⟨D,upL (aN ks) o.length,rfl,SqL.of af,λp j=>?_,?_⟩
  .have:=Hk.mp (Iu.mp j).1;omega
  .rw[ng];exact kk _ (l.trans (ai hD _))
 .rintro i d N ⟨_,rfl⟩;rw[Gu];exact Hy (IE _ _) (by rw[Hc];exact Gy _)
theorem y7:aw ["web","ties","number"] ["web","ties","number"] (aq pz):=by ac_nf
theorem Cv{PS:Addr} (F:Fun K "odd_at" "odd_at" pz f fd) (T:Txt mg) (v:CW K a):FnOk P w K mg base CX0 1 f fd ["web","ties","number"] (oR PL PS a):=by
 refine F.ok y7 (by walk_at "l") λm A I s H Y Q E B h=>?_
 obtain⟨p,M,k,o,u,l,r,rfl,⟨n,fs,t,xs,q5,z5,j,_,_,_,l5,aa,hR⟩,G,g,y⟩:=h;obtain⟨pr,O,q⟩:=hR.2 k r G;refine⟨_,(ak (aF (av b8 (aD (mG rfl) (by rfl) T.n_sum sQ (ae (dU [("ties",1)] ["dart"] (aU (bH (a8 (pv 0) rfl) (pv 2))) pg_c pt_c (λC c s H=>(av gM (av eG (pv 1) (av cg (pv 0) aj)) aj))) ah)) aj))),?_⟩
 refine⟨_,rfl,p,a,n,fs,_,rfl,j,v.cl,v.n4,l5,_,rfl,q5,z5,_,_,rfl,rfl,SqL.of aa,aG O,pr,rfl,⟨_,SqL.of q⟩,cC (K:=K) (xs:=r.map iV) (λi J N=>Same H N/\J=((r.take i).map λd=>((bt M (d/2):Nat):Int)).map V.int) (G6 (ar (by rw[Gu];omega))) ⟨λ_ _ e=>e,rfl⟩ (λi J N _ z=>SqL.of (z.1 _ _ q)) ?_ ?_⟩
 .rintro i x J N L ⟨b,rfl⟩;rw[GC]at L;obtain⟨d,ab,rfl⟩:=G5.mp L;have ed:(d:Int)/2=((d/2:Nat):Int):=by omega
  refine⟨_,rfl,_,rfl,_,_,rfl,rfl,⟨by decide,by decide⟩,_,_,rfl,rfl,(show(0:Int)<=(d:Int)/2 by omega),_,_,rfl,rfl,b,?_⟩
  rw[He,ab,GK,GK];show _++[V.int (Ma ((M:Int)/2^((d:Int)/2).toNat) 1)]=_++[V.int ((bt M (d/2):Nat):Int)];rw[ed,Et]
 rintro J N _ ⟨b,rfl⟩ D hD;rw[Gu,Hi];refine⟨D,_,rfl,SqL.of af,_,_,rfl,rfl,(by show(0:Int)<2;decide),?_⟩
 have e:(r.map λd=>((bt M (d/2):Nat):Int)).sum%2=((parR M r:Nat):Int):=by
  rw[B0 r λd=>bt M (d/2)];unfold parR;omega
 show Q (V.int ((r.map λd=>((bt M (d/2):Nat):Int)).sum%2)) _;rw[e];exact y _ (b.trans (ai hD _))
theorem jG:aw ["web","pushing"] ["web"] (aq gH):=by ac_nf
theorem Fj{fp PS:Addr}{aO:FuncData} (F:Fun K "odd_rounds" "odd_rounds" gH f fd) (T:Txt mg) (cw:CW K I) (ab:Cal P w K mg base 1 "mask_of" ["places"] (kY K) a G) (an:Cal P w K mg base 2 "pushes" ["web"] (yO PL PS I) fp Y) (am:Cal P w K mg base 1 "odd_at" ["web","ties","number"] (oR PL PS I) q aO) :
  FnOk P w K mg base CX0 3 f fd ["web"] (yP PL PS I):=by
 refine F.ok jG (by walk_at "l") λt A O s H y Q E B h=>?_
 obtain⟨p,o,x,rs,rfl,wb,kl,aa,aR,aI,k⟩:=h
 refine⟨_,(ag (ay 1 jG.nd (an.c B (ae (pv 0) ah)))
   (ak (aF (ab.c B (ae (dU [("web",0),("pushing",1)] ["number"] (aZ rfl T.n_range (ae (aD aA (by rfl) T.n_len bT (ae (a8 (pv 0) rfl) ah)) ah)) pg_c (λC ex s H=>(kL (aB cj (am.c B (ae (pv 1) (ae (pv 2) (ae (pv 0) ah)))) aj (aC _)))) (λC ex s H=>(pv 0))) ah))))),?_⟩
 refine⟨_,rfl,p,o,x,rs,rfl,wb,kl,aa,λl g=>?_⟩;have aL:=wb.mono g;obtain⟨n,fs,L,J,q5,z5,j,_,_,_,l5,al,hR⟩:=id aL;have ap:z5.length=rs.length:=hR.1;generalize hM:MK (aN x) o.length=M;rw[hM]at k;refine⟨_,rfl,p,I,n,fs,_,rfl,j,cw.cl,cw.n4,l5,q5,z5,rfl,.inl (SqL.of al),_,rfl,∅,∅,gn (λi d N=>Same l N/\d=(upL (oddU M rs) i).map iV) (G6 (ar ∅)) ⟨λ_ _ e=>e,rfl⟩ ?_ ?_ ?_⟩
 .rintro i d N v ⟨b,rfl⟩;have e0:(0:Int)+(i:Int)=(i:Int):=IF _;rw[e0];obtain⟨r,ac⟩:∃ r,rs[i]?=some r:=⟨_,Gs ∅⟩
  refine⟨rfl,_,rfl,_,rfl,_,rfl,p,M,i,o,x,rs,r,rfl,aL.mono b,ac,aI r (Gv ac),λH3 m=>⟨rfl,_,rfl,?_⟩⟩;have hu:oddU M rs i=decide (parR M r=1):=by unfold oddU;rw[mr ac]
  rw[lU,hu];refine ite2 (λc=>?_) (λc=>?_)
  .have u:parR M r=1:=by have:=V.int.inj (MZ c);omega
   refine⟨_,rfl,b.trans m,?_⟩;rw[Nf (Mq u),GK];rfl
  .have u:¬ parR M r=1:=λz=>c (Mq (congrArg V.int ∅))
   refine⟨b.trans m,?_⟩;rw[Ng (by simpa using u)]
 .rintro d N ⟨b,rfl⟩ D hD;rw[GA,ap];refine⟨D,upL (oddU M rs) rs.length,rfl,SqL.of af,λp j=>?_,?_⟩
  .have:=Hk.mp (Iu.mp j).1;omega
  .rw[ng];exact k _ (g.trans (b.trans (ai hD _)))
 .rintro i d N ⟨_,rfl⟩;rw[Gu];exact Hy (IE _ _) (by rw[Hc];exact Gy _)
structure TxtZ(mg:Str->Option Value):Prop extends Txt mg where
 n_zip:mg "zip" = none
def WebS(PL PS G:Addr)(H:Hp)(p:Addr)(es:En)(ks:Kn)(rs:List (List Nat)):Prop:=∃ n fs L N t j,H p=some (.ins G n fs)/\fs.lookup ("ties" : Str)=some (.ref L)/\H L=some (.lst N)/\eF PL PS H N es ks/\fs.lookup ("sides" : Str)=some (.ref t)/\H t=some (.lst j)/\gu H j es.length rs
def yr(H:Hp)(zs:List V)(n:Nat)(ks:Kn)(rs:List (List Nat)):Prop:=zs.length=n/\∀ i,i<n->∃ k t a b r v,ks[i]?=some k/\zs[i]?=some (.ref t)/\H t=some (.tup [iV a,iV b,.int k.2])/\rs[a]?=some r/\2*i∈r/\rs[b]?=some v/\2*i+1∈v
theorem yr.mono{ks:Kn}(h:yr H zs n ks rs)(s:Same H H'):yr H' zs n ks rs:=⟨h.1,λi T=>by
 obtain⟨k,t,a,b,r,v,c,I,Q,d⟩:=h.2 i T
 exact⟨k,t,a,b,r,v,c,I,s _ _ Q,d⟩⟩
inductive oS(PL PS WC:Addr)(vs:List L2.V)(H:L2.Hp)(Q:L2.VK)(x3_:L2.XK):Prop
 |mk (p:Addr)(es:En)(ks:Kn)(rs:List (List Nat)) (h0_:vs = [.ref p])(h1_:WebS PL PS WC H p es ks rs)(h2_:ks.length=es.length)(h3_:es.length<=62)(h4_:∀ q zs H',Same H H'->H q=none->H' q=some (.lst zs)->yr H' zs es.length ks rs->Q (.ref q) H')
theorem tS:aw ["web"] ["web"] (aq kE):=by ac_nf
theorem Cy{PS:Addr} (F:Fun K "links_of" "links_of" kE f fd) (T:TxtZ mg) (cw:CW K q) (TL:CT K PL) (TS:CT K PS):FnOk P w K mg base CX0 1 f fd ["web"] (oS PL PS q):=by
 refine F.ok tS (by walk_at "l") λm A I s H Y Q E B h=>?_
 obtain⟨p,M,ks,rs,rfl,⟨g,fs,l,xs,q5,z5,u,l1,ab,tk,l5,am,J⟩,kl,aa,kk⟩:=h;have an:xs.length=M.length:=tk.1;have ap:z5.length=M.length:=J.1;have ct:∀ b,CT K (cls PL PS b):=λb=>by
  unfold cls;split
  .exact TS
  .exact TL
 refine⟨_,(ak (aF (dU [] ["sides","tie"] (zH rfl T.n_zip (ae (a8 (pv 0) rfl) (ae (a8 (pv 0) rfl) ah))) (λC ex s H=>(dv (n:=2) (K:=K) rfl rfl (aE (aV (i:=0) (show(["sides","tie"]:List Str).Nodup from by decide) rfl (Or.inl rfl)) (aE (aV (i:=1) (show(["sides","tie"]:List Str).Nodup from by decide) rfl (Or.inl rfl)) bC)))) pt_c (λC ex s H=>(dB (ae (nW K (pv 0) aj) (ae (nW K (pv 0) aj) (ae (uh (K:=K) rfl (pv 1) rfl) ah)))))))),?_⟩
 refine⟨_,rfl,p,q,g,fs,_,rfl,u,cw.cl,cw.n5,l5,_,rfl,p,q,g,fs,_,rfl,u,cw.cl,cw.n2,l1,q5,l,rfl,⟨_,SqL.of am⟩,⟨_,SqL.of ab⟩,sN (K:=K) (xs:=z5) (zs:=xs) (λi d N=>Same H N/\yr N d i ks rs) (G6 (ar ∅)) ∅ ⟨λ_ _ e=>e,rfl,λi v=>by omega⟩ (λi d N _ z=>⟨SqL.of (z.1 _ _ am),SqL.of (z.1 _ _ ab)⟩) ?_ ?_ ?_⟩
 .rintro i x z d N T2 L hz ⟨O,hY⟩ al;have v:i<M.length:=by rw[← ap];exact(Gn.mp L).1
  obtain⟨e,y⟩:∃ e,M[i]?=some e:=⟨_,Gs v⟩;obtain⟨k,G⟩:∃ k,ks[i]?=some k:=⟨_,Gs ∅⟩
  obtain⟨t,a,b,r,r',y1,y2,y3,y4,y5,y6⟩:=J.2 i v;rw[L]at y1
  cases y1
  obtain⟨p',ac,x1,x2⟩:=tk.2 i e k y G;rw[hz]at x1
  cases x1
  have s3:=O.trans (ai al (.tup [.ref t,.ref p']));refine⟨T2,_,rfl,SqT.of af,rfl,_,_,rfl,_,_,rfl,rfl,rfl,yesT ?_⟩;refine⟨_,rfl,t,_,0,_,rfl,rfl,SqT.of (s3 _ _ y2),at0,_,rfl,t,_,1,_,rfl,rfl,SqT.of (s3 _ _ y2),at1,_,rfl,p',_,ac,_,_,rfl,s3 _ _ x2,(ct _).cl,(ct _).n3,DN _ _ _,(by show 3<=LK;decide),λt4 aL=>?_⟩
  have s4:=ai aL (.tup [iV a,iV b,.int k.2]);have aI:=(ai al (.tup [.ref t,.ref p'])).trans s4;have aO:=hY.mono aI;refine⟨O.trans aI,by rw[Gx,hY.1];rfl,λj hj=>?_⟩
  by_cases c:j<i
  .obtain⟨k',t',a',b',w1,w2,v0,v1,v2⟩:=aO.2 j c;exact⟨k',t',a',b',w1,w2,v0,by rw[GB (by rw[hY.1];exact c)];exact v1,v2⟩
  .have:j=i:=by omega
   subst this;exact⟨k,t4,a,b,r,r',G,by rw[← hY.1,Gz (Gy _),Hl];rfl,af,y3,y4,y5,y6⟩
 .rintro d N ⟨O,hY⟩ D hD;rw[ap]at hY;have aR:H D=none:=by
   cases z:H D with
   |none=>rfl
   |some o=>rw[O _ _ z]at hD;cases hD
  exact kk D d _ (O.trans (ai hD _)) aR af (hY.mono (ai hD _))
 .rintro i d N ⟨_,hY⟩;rw[hY.1];exact Gy _
open KF (pP)
theorem uj(S T:Nat->Bool):∀ l:List Nat,par (λt=>S t ^^ T t) l=(par S l ^^ par T l)
 |[]=>rfl
 |d::l=>by
  rw[aM,aM,aM,uj S T l]
  cases S (d/2)<;>cases T (d/2)<;>cases par S l<;>cases par T l<;>rfl
theorem dX{S T:Nat->Bool}:∀{l:List Nat},(∀ d∈l,S (d/2)=T (d/2))->par S l=par T l
 |[],_=>rfl
 |d::l,h=>by rw[aM,aM,h d (GN ..),dX λx L=>h x (GD _ L)]
theorem wA:∀ l:List Nat,par (λ_=>false) l=false
 |[]=>rfl
 |d::l=>by rw[aM,wA l];rfl
theorem zP(i:Nat):∀{l:List Nat},l.Nodup->par (λt=>decide (t=i)) l=(decide (2*i∈l) ^^ decide (2*i+1∈l))
 |[],_=>rfl
 |d::l,H=>by
  obtain⟨E,G⟩:=Hj.mp H;rw[aM,zP i G];by_cases c0:d=2*i
  .subst c0;rw[Mq (show 2*i/2=i by omega),LJ E,Mq (GN ..)]
   have:decide (2*i+1∈2*i::l)=decide (2*i+1∈l):=decide_eq_decide.mpr ⟨λz=>(GG.mp z).elim (λy=>by omega) id,GD _⟩
   rw[this]
   cases decide (2*i+1∈l)<;>rfl
  .have c:decide (2*i∈d::l)=decide (2*i∈l):=decide_eq_decide.mpr ⟨λz=>(GG.mp z).elim (λy=>Nh y.symm c0) id,GD _⟩
   by_cases c1:d=2*i+1
   .subst c1;rw[Mq (show(2*i+1)/2=i by omega),c,LJ E,Mq (GN ..)]
    cases decide (2*i∈l)<;>rfl
   .have u:decide (2*i+1∈d::l)=decide (2*i+1∈l):=decide_eq_decide.mpr ⟨λz=>(GG.mp z).elim (λy=>Nh y.symm c1) id,GD _⟩
    rw[LJ (show ¬ d/2=i by omega),c,u]
    cases decide (2*i∈l)<;>cases decide (2*i+1∈l)<;>rfl
structure Dl(N:Nat)(rs:List (List Nat))(ls:List KF.Lk):Prop where
 nd:rs.flatten.Nodup
 all:∀ d,d<2*N->d∈rs.flatten
 lt:∀ r∈rs,∀ d∈r,d<2*N
 rn:∀ r∈rs,r.Nodup
 ln:ls.length=N
 sd:∀(i:Nat)(l:KF.Lk),ls[i]?=some l->(∃ r,rs[l.1]?=some r/\2*i∈r)/\∃ r,rs[l.2.1]?=some r/\2*i+1∈r
theorem Dl.odd{N:Nat}{rs:List (List Nat)}{ls:List KF.Lk}(D:Dl N rs ls)(u:Nat){a:Nat}{R:List Nat}(q:rs[a]?=some R):∀ i,i<=N->(KF.oddE ls u i).testBit a=par (λt=>u.testBit t&&decide (t<i)) R
 |0,_=>by
  show(0:Nat).testBit a=_;rw[HP];exact((dX λd _=>by rw[LJ (Ir _),Jr]).trans (wA R)).symm
 |i+1,h=>by
  have B:=D.odd u q i ∅
  obtain⟨l,C⟩:∃ l,ls[i]?=some l:=⟨_,Gs (by rw[D.ln];omega)⟩
  obtain⟨⟨r,j,o⟩,⟨v,g,b⟩⟩:=D.sd i l C;have e:=D.rn R (Gv q);have w:decide (2*i∈R)=decide (l.1=a):=decide_eq_decide.mpr ⟨λz=>kS D.nd j q o z,λz=>by rw[z,q]at j;cases j;exact o⟩
  have b1:decide (2*i+1∈R)=decide (l.2.1=a):=decide_eq_decide.mpr ⟨λz=>kS D.nd g q b z,λz=>by rw[z,q]at g;cases g;exact b⟩
  unfold KF.oddE;by_cases c:u.testBit i=true
  .rw[Nf c,HK,B,KF.lkA_is C];unfold KF.endX;rw[HK,Hf,Hf,← w,← b1,← zP i e,← uj];refine dX λd _=>?_;by_cases z:d/2=i
   .rw[z,c,LJ (HF i),Mq rfl,Mq (HB i)];rfl
   .rw[LJ z,IB];congr 1;exact decide_eq_decide.mpr ∅
  .rw[Ng c,B];refine dX λd _=>?_;by_cases z:d/2=i
   .have L:u.testBit i=false:=by cases y:u.testBit i;rfl;exact Nh y c
    rw[z,L];rfl
   .congr 1;exact decide_eq_decide.mpr ∅
theorem Dl.oddN(D:Dl N rs ls)(u:Nat){a:Nat}{R:List Nat}(q:rs[a]?=some R):(KF.oddE ls u N).testBit a=par (λt=>u.testBit t) R:=by
 rw[D.odd u q N (Gy _)];refine dX λd hd=>?_;have:=D.lt R (Gv q) d hd;rw[Mq (show d/2<N by omega),KU]
theorem Dl.rooms(D:Dl N rs ls):∀ l∈ls,l.1<rs.length/\l.2.1<rs.length:=λl C=>by
 obtain⟨i,T⟩:=HE C;obtain⟨⟨_,j,_⟩,⟨_,g,_⟩⟩:=D.sd i l T;exact⟨(Gn.mp j).1,(Gn.mp g).1⟩
theorem rQ{n:Nat}{ls:List KF.Lk}(hl:∀ l∈ls,l.1<n/\l.2.1<n)(u:Nat):∀ i,i<=ls.length->KF.oddE ls u i<2^n
 |0,_=>HQ n
 |i+1,h=>by
  unfold KF.oddE;have D:=rQ hl u i ∅
  split
  .obtain⟨l,e⟩:∃ l,ls[i]?=some l:=⟨_,Gs ∅⟩
   obtain⟨N,v⟩:=hl l (Gv e);rw[KF.lkA_is e];exact Iq D (Iq (Hz (by decide) N) (Hz (by decide) v))
  .exact D
theorem qP{x y:Nat}(L:x<2^n)(Q:y<2^n)(h:∀ a,a<n->x.testBit a=y.testBit a):x=y:=HD λa=>by
 by_cases c:a<n
 .exact h a c
 .rw[JE (Hg L (HC (by decide) ∅)),JE (Hg Q (HC (by decide) ∅))]
def phi(F:Nat->Bool)(x:Nat):Nat->Bool
 |0=>false
 |n+1=>phi F x n ^^ (F n&&x.testBit n)
theorem pN(F:Nat->Bool)(x y:Nat):∀ n,phi F (x^^^y) n=(phi F x n ^^ phi F y n)
 |0=>rfl
 |n+1=>by
  unfold phi;rw[pN F x y n,HK]
  cases phi F x n<;>cases phi F y n<;>cases F n<;>cases x.testBit n<;>cases y.testBit n<;>rfl
theorem pM(F:Nat->Bool):∀ n,phi F 0 n=false
 |0=>rfl
 |n+1=>by unfold phi;rw[pM F n,HP,Jr];rfl
theorem ue(F:Nat->Bool)(a:Nat):∀ n,phi F (2^a) n=(F a&&decide (a<n))
 |0=>by unfold phi;rw[LJ (Ir _),Jr]
 |n+1=>by
  unfold phi;rw[ue F a n,Hf];by_cases c:a=n
  .subst c;rw[LJ (HF _),Mq rfl,Mq (HB _),Jr,Kb]
  .rw[LJ c,Jr,IB];congr 1;exact decide_eq_decide.mpr ∅
theorem zI{n:Nat}{ls:List KF.Lk}(hl:∀ l∈ls,l.1<n/\l.2.1<n)(F:Nat->Bool)(u t:Nat)(I:∀ (i:Nat) (l:KF.Lk),i≠t->ls[i]?=some l->F l.1=F l.2.1){lt:KF.Lk}(ht:ls[t]?=some lt)(T:u.testBit t=true):∀ i,i<=ls.length->phi F (KF.oddE ls u i) n=(decide (t<i)&&(F lt.1 ^^ F lt.2.1))
 |0,_=>by
  show phi F 0 n=_;rw[pM,LJ (Ir _),HM]
 |i+1,h=>by
  have D:=zI hl F u t I ht T i ∅
  obtain⟨l,e⟩:∃ l,ls[i]?=some l:=⟨_,Gs ∅⟩
  obtain⟨N,v⟩:=hl l (Gv e);have a:phi F (KF.endX l) n=(F l.1 ^^ F l.2.1):=by
   unfold KF.endX;rw[pN,ue,ue,Mq N,Mq v,KU,KU]
  unfold KF.oddE;by_cases c:t=i
  .subst c;rw[Nf T,pN,D,KF.lkA_is e,a];rw[ht]at e
   cases e
   rw[LJ (HF _),Mq (HB _),HM,Kb,Ht]
  .have f:decide (t<i+1)=decide (t<i):=decide_eq_decide.mpr ∅
   rw[f];split
   .rw[pN,D,KF.lkA_is e,a,I i l (λz=>c z.symm) e,Bool.xor_self,IB]
   .exact D
theorem wU{S i:Nat->Bool}(w:fe m es ts)(h:BR es S i){r:List Nat}(c:CR (fol es ts) (2*es.length) r):par S r=false:=by
 obtain⟨x,l,rfl,a⟩:=c.ch;have L:=c.lt x (GN ..);have:=wR w h a L (λt n=>c.lt t (GD _ n)) L;rw[uk]at this;rw[aM];have f:par S [x]=S (x/2):=by rw[aM];exact IB _
 rw[f,Bool.xor_self]at this;rw[KS];exact this
theorem Dl.last(D:Dl N rs ls)(w:fe m es ts)(k:es.length=N)(cr:∀ r∈rs,CR (fol es ts) (2*es.length) r)(F:Nat->Bool){t:Nat}{lt:KF.Lk}(ht:ls[t]?=some lt)(I:∀ (i:Nat) (l:KF.Lk),i≠t->ls[i]?=some l->F l.1=F l.2.1):F lt.1=F lt.2.1:=by
 have c:t<N:=by rw[← D.ln];exact(Gn.mp ht).1
 obtain⟨e,y⟩:∃ e,es[t]?=some e:=⟨_,Gs ∅⟩
 obtain⟨_,_,ne⟩:=w.ends e (Gv y);obtain⟨S,H⟩:∃ S:Nat->Bool,BR es S (λp=>decide (p=e.1)):=⟨λs=>match es[s]? with | some x=>(decide (x.1=e.1) ^^ decide (x.2=e.1)) | none=>false,λs x L=>by show(match es[s]? with | some x=>(decide (x.1=e.1) ^^ decide (x.2=e.1)) | none=>false)=_;rw[L]⟩
 have T:(MK S N).testBit t=true:=by
  rw[dq,Mq c,H t e y];show(true&&(decide (e.1=e.1) ^^ decide (e.2=e.1)))=true;rw[Mq rfl,LJ (Ne.symm ne)];rfl
 have f:KF.oddE ls (MK S N) N=0:=by
  refine qP (n:=rs.length) (by rw[← D.ln];exact rQ D.rooms _ _ (Gy _)) (HQ _) λa E=>?_
  have q:=Gs E;rw[D.oddN _ q,HP,← wU w H (cr _ (Gv q))];refine dX λd hd=>?_;have:=D.lt _ (Gv q) d hd;rw[dq,Mq (show d/2<N by omega),Ht]
 have:=zI D.rooms F (MK S N) t I ht T N (by rw[D.ln];exact Gy _)
 rw[f,pM,Mq c,Ht]at this
 cases a:F lt.1<;>cases b:F lt.2.1<;>rw[a,b]at this
 .cases this
 .cases this
def Gk(rs:List (List Nat))(S M:Nat):Prop:=∀(k:Nat)(r:List Nat),rs[k]?=some r->parR S r=parR M r
theorem rO(S:Nat):∀ r:List Nat,par (λt=>S.testBit t) r=decide (parR S r=1)
 |[]=>rfl
 |d::r=>by
  have D:=rO S r;rw[aM,D];unfold parR;rw[yV,BD]
  cases S.testBit (d/2) with
  |true =>
   rw[Nf rfl,Bool.true_xor];by_cases c:sm r (λd=>bt S (d/2))%2=1
   .rw[Mq c,LJ ∅];rfl
   .rw[LJ c,Mq ∅];rfl
  |false =>
   rw[Ng G4,Kb,Nat.zero_add]
theorem pD(nd:l.Nodup){G:Nat->Bool}(h:∀ s∈l,G (nxt l s)=G s):∀{s s':Nat},s∈l->s'∈l->G s=G s':=by
 have u:∀ j,(B:j<l.length)->G l[j]=G (l[0]'∅):=λj=>by
  induction j with
  |zero=>intro _;rfl
  |succ j D =>
   intro B;have C:l[j]'∅∈l:=Ii _
   have e:=m9 C;rw[nd.idxOf_getElem j ∅,Ih B,Gs B]at e
   rw[G3 e,h _ C];exact D ∅
 intro s s' J Y;obtain⟨j,B,rfl⟩:=Ij J;obtain⟨i,T,rfl⟩:=Ij Y;rw[u j B,u i T]
theorem Dl.whole(D:Dl N rs ls)(g:Gr m es ts)(hN:es.length=N)(cr:∀ r∈rs,CR (fol es ts) (2*es.length) r)(F:Nat->Bool)(hF:∀ (i:Nat) (l:KF.Lk),ls[i]?=some l->F l.1=F l.2.1){a b:Nat}(E:a<rs.length)(M:b<rs.length):F a=F b:=by
 have w:=g.w;obtain⟨G,hG⟩:∃ G:Nat->Bool,∀ s l,ls[s]?=some l->G s=F l.1:=⟨λs=>match ls[s]? with | some l=>F l.1 | none=>false,λs l h=>by show(match ls[s]? with | some l=>F l.1 | none=>false)=_;rw[h]⟩
 have c:∀{a:Nat}{r:List Nat}{d:Nat},rs[a]?=some r->d∈r->F a=G (d/2):=λ{a r d} J Y=>by
  have hd:=D.lt r (Gv J) d Y;obtain⟨l,C⟩:∃ l,ls[d/2]?=some l:=⟨_,Gs (by rw[D.ln];omega)⟩
  obtain⟨⟨f,I,A⟩,⟨o,y1,Q⟩⟩:=D.sd _ l C;rw[hG _ l C];by_cases z:d%2=0
  .rw[show 2*(d/2)=d by omega]at A
   rw[kS D.nd J I Y A]
  .rw[show 2*(d/2)+1=d by omega]at Q
   rw[kS D.nd J y1 Y Q,hF _ l C]
 have fl:∀ d,d<2*N->G (fol es ts d/2)=G (d/2):=λd hd=>by
  obtain⟨r,B,al⟩:=HJ.mp (D.all d hd);obtain⟨a,E⟩:=HE B;rw[← c E al,← c E ((cr r B).closed d al)]
 have row:∀{p:Nat}{l:List Nat},ts[p]?=some l->∀ s∈l,G (nxt l s)=G s:=λ{p l} C s x=>by
  obtain⟨e,y,j⟩:=(w.mem p l C s).mp x;have sl:=(Gn.mp y).1;obtain⟨d,d1,d2,d3⟩:∃ d,d/2=s/\hd es d=p/\d<2*es.length:=by
   rcases j with z | z
   .refine⟨2*s+1,∅,?_,∅⟩
    unfold hd;rw[show(2*s+1)/2=s by omega,y]
    show(if(2*s+1)%2=0 then e.2 else e.1)=p;rw[Ng ∅]
    exact z
   .refine⟨2*s,∅,?_,∅⟩
    unfold hd;rw[show 2*s/2=s by omega,y]
    show(if 2*s%2=0 then e.2 else e.1)=p;rw[Nf ∅]
    exact z
  obtain⟨l',_,H,_,_,_,_,_,_,q,_⟩:=w.foll d3;rw[d2,C]at H
  cases H
  rw[← d1,← q];exact fl d ∅
 obtain⟨r0,ac⟩:∃ r,rs[a]?=some r:=⟨_,Gs E⟩;obtain⟨f,aa⟩:∃ r,rs[b]?=some r:=⟨_,Gs M⟩;obtain⟨d0,am⟩:=(cr r0 (Gv ac)).ne;obtain⟨d1,ab⟩:=(cr f (Gv aa)).ne;rw[c ac am,c aa ab];have l0:=D.lt _ (Gv ac) _ am;have l1:=D.lt _ (Gv aa) _ ab;obtain⟨e0,k0,_,_,_,p0,q0,m0⟩:=w.at (d:=d0) ∅
 obtain⟨O,k1,_,_,_,p1,L,m1⟩:=w.at (d:=d1) ∅
 have:=g.conn (λp=>∃ l s,ts[p]?=some l/\s∈l/\G s=G (d0/2)) (λe y=>by
  obtain⟨t,n⟩:=HE y;obtain⟨b1,b2,_⟩:=w.ends e y;obtain⟨u,T⟩:∃ l,ts[e.1]?=some l:=⟨_,Gs (by rw[w.len];exact b1)⟩
  obtain⟨v,k⟩:∃ l,ts[e.2]?=some l:=⟨_,Gs (by rw[w.len];exact b2)⟩
  have tu:=(w.mem _ u T t).mpr ⟨e,n,.inl rfl⟩;have tv:=(w.mem _ v k t).mpr ⟨e,n,.inr rfl⟩;constructor
  .rintro⟨l,s,I,A,x3⟩;rw[T]at I
   cases I
   exact⟨v,t,k,tv,(pD (w.nd _ _ T) (row T) tu A).trans x3⟩
  .rintro⟨l,s,I,A,x3⟩;rw[k]at I
   cases I
   exact⟨u,t,T,tu,(pD (w.nd _ _ k) (row k) tv A).trans x3⟩) (hd es d0) (hd es d1) p0 p1 ⟨k0,_,q0,m0,rfl⟩
 obtain⟨l,s,I,A,x3⟩:=this;rw[L]at I
 cases I
 rw[pD (w.nd _ _ L) (row L) m1 A];exact x3.symm
theorem Dl.conn1(D:Dl N rs ls)(g:Gr m es ts)(k:es.length=N)(cr:∀ r∈rs,CR (fol es ts) (2*es.length) r):KF.Conn rs.length ls:=λb M=>by
 obtain⟨F,I⟩:∃ F:Nat->Bool,∀ b,F b=true↔∃ x,KF.Wk (ls) 0 b x:=⟨λb=>@decide (∃ x,KF.Wk (ls) 0 b x) (JD _),λb=>by rw[@decide_eq_true_iff _ (JD _)]⟩
 have u:∀(i:Nat)(l:KF.Lk),ls[i]?=some l->F l.1=F l.2.1:=λi l B=>by
  have d:F l.1=true->F l.2.1=true:=λz=>by
   obtain⟨x,L⟩:=(I _).mp z;have:=KF.Wk.step L B (.inl rfl);have e:KF.bey l l.1=l.2.1:=by unfold KF.bey;rw[Nf rfl]
   rw[e]at this;exact(I _).mpr ⟨_,this⟩
  have h:F l.2.1=true->F l.1=true:=λz=>by
   obtain⟨x,L⟩:=(I _).mp z;have:=KF.Wk.step L B (.inr rfl);by_cases q:l.2.1=l.1
   .rw[← q];exact z
   .have e:KF.bey l l.2.1=l.1:=by unfold KF.bey;rw[Ng q]
    rw[e]at this;exact(I _).mpr ⟨_,this⟩
  cases p:F l.1 with
  |true=>rw[d p]
  |false =>
   cases q:F l.2.1 with
   |true=>rw[h q]at p;cases p
   |false=>rfl
 have:=D.whole g k cr F u (a:=0) (b:=b) ∅ M
 rw[(I 0).mpr ⟨0,.nil 0⟩]at this;exact(I b).mp this.symm
def UB(es:En)(ks:Kn)(L t:Nat):Bool:=match es[t]? with | some e=>(L.testBit e.1 ^^ L.testBit e.2 ^^ aN ks t) | none=>false
theorem Gj{ks:Kn}{t:Nat}{e:Nat×Nat}(h:es[t]?=some e):UB es ks N t=(N.testBit e.1 ^^ N.testBit e.2 ^^ aN ks t):=by unfold UB;rw[h]
theorem sj:∀ PL:List (Nat×Nat),(KF.flat PL).length%2=0
 |[]=>rfl
 |p::PL=>by
  rw[KF.flat_cons,GX,GX];have:=sj PL;omega
structure Oth(m:Nat)(es:En)(ts:List (List Nat))(ks:Kn)(rs:List (List Nat))(ls:List KF.Lk):Prop where
 g:Gr m es ts
 ro:cP (fol es ts) (2*es.length) (2*es.length) rs
 d:Dl es.length rs ls
 kl:ks.length=es.length
 ws:∀(i:Nat)(l:KF.Lk),ls[i]?=some l->∃ k,ks[i]?=some k/\l.2.2=k.2/\0<=k.2/\k.2<=10^(30:Int).toNat
 m2:2<=m
 few:es.length<=34
theorem Oth.cr{m:Nat}{es:En}{ts:List (List Nat)}{ks:Kn}{rs:List (List Nat)}{ls:List KF.Lk}(O:Oth m es ts ks rs ls):∀ r∈rs,CR (fol es ts) (2*es.length) r:=λr B=>(O.ro.ring r B).cr
theorem Oth.lay{ks:Kn}(O:Oth m es ts ks rs ls)(L:Nat):KF.oddE ls (MK (UB es ks L) es.length) es.length=KF.oddE ls (MK (aN ks) es.length) es.length:=by
 refine qP (n:=rs.length) (by rw[← O.d.ln];exact rQ O.d.rooms _ _ (Gy _)) (by rw[← O.d.ln];exact rQ O.d.rooms _ _ (Gy _)) λa E=>?_
 have q:=Gs E;rw[O.d.oddN _ q,O.d.oddN _ q];have lt:=O.d.lt _ (Gv q);obtain⟨S,H⟩:∃ S:Nat->Bool,BR es S (λp=>L.testBit p):=⟨λs=>match es[s]? with | some x=>(L.testBit x.1 ^^ L.testBit x.2) | none=>false,λs x D=>by show(match es[s]? with | some x=>(L.testBit x.1 ^^ L.testBit x.2) | none=>false)=_;rw[D]⟩
 have b:=wU O.g.w H (O.cr _ (Gv q));have:par (λt=>(MK (UB es ks L) es.length).testBit t) rs[a]=par (λt=>S t ^^ (MK (aN ks) es.length).testBit t) rs[a]:=dX λd hd=>by
  have:=lt d hd;obtain⟨e,r⟩:∃ e,es[d/2]?=some e:=⟨_,Gs ∅⟩
  rw[dq,dq,Mq (show d/2<es.length by omega),Ht,Ht,Gj r,H _ e r]
 rw[this,uj,b,Kb]
theorem Oth.lok1{ks:Kn}(O:Oth m es ts ks rs ls)(y:rs.length<=40):KF.Lok rs.length ls where
 n1:=y
 l9:=by
  have Y:=O.d.ln;have g:=O.few;omega
 sm l hl:=O.d.rooms l hl
 w0 l hl:=by
  obtain⟨i,T⟩:=HE hl;obtain⟨k,_,e,a,b⟩:=O.ws i l T;rw[e];refine⟨a,Int.le_trans b ?_⟩;unfold KF.MM;decide
theorem Oth.evenM{ks:Kn}(O:Oth m es ts ks rs ls)(T:rs.length<=40)(M:Nat):KF.oddE ls M es.length<2^rs.length/\(KF.bl (KF.oddE ls M es.length)).length%2=0:=by
 have ok:=O.lok1 T;have o:∀ l∈ls,0<=l.2.2:=λl C=>(ok.w0 l C).1;have t:=O.d.conn1 O.g rfl O.cr;obtain⟨J,c,⟨j,i,_⟩,_⟩:=KF.low_join (KF.far_met o t) M (λl C=>⟨(ok.sm l C).1,(ok.sm l C).2,KF.far_link o C⟩) ls.length (Gy _);rw[O.d.ln]at J i;refine⟨J,?_⟩;rw[← i.length_eq];exact sj j
theorem Oth.even1{ks:Kn}(O:Oth m es ts ks rs ls)(T:rs.length<=40):KF.oddE ls (MK (aN ks) es.length) es.length<2^rs.length/\(KF.bl (KF.oddE ls (MK (aN ks) es.length) es.length)).length%2=0:=O.evenM T _
theorem er_at{t:Nat}{l:KF.Lk}(hi:i≠t)(h:ls[i]?=some l):∃ j:Nat,(ls.eraseIdx t)[j]?=some l:=by
 by_cases c:i<t
 .exact⟨i,by rw[Ld c];exact h⟩
 .refine⟨i-1,?_⟩;rw[Le ∅,show i-1+1=i by omega]
  exact h
theorem Dl.conn(D:Dl N rs ls)(g:Gr m es ts)(k:es.length=N)(cr:∀ r∈rs,CR (fol es ts) (2*es.length) r){t:Nat}(ht:t<N):KF.Conn rs.length (ls.eraseIdx t):=λb M=>by
 obtain⟨F,I⟩:∃ F:Nat->Bool,∀ b,F b=true↔∃ x,KF.Wk (ls.eraseIdx t) 0 b x:=⟨λb=>@decide (∃ x,KF.Wk (ls.eraseIdx t) 0 b x) (JD _),λb=>by rw[@decide_eq_true_iff _ (JD _)]⟩
 have u:∀(i:Nat)(l:KF.Lk),i≠t->ls[i]?=some l->F l.1=F l.2.1:=λi l T C=>by
  obtain⟨j,B⟩:=er_at T C;have d:F l.1=true->F l.2.1=true:=λz=>by
   obtain⟨x,L⟩:=(I _).mp z;have:=KF.Wk.step L B (.inl rfl);have e:KF.bey l l.1=l.2.1:=by unfold KF.bey;rw[Nf rfl]
   rw[e]at this;exact(I _).mpr ⟨_,this⟩
  have h:F l.2.1=true->F l.1=true:=λz=>by
   obtain⟨x,L⟩:=(I _).mp z;have:=KF.Wk.step L B (.inr rfl);by_cases q:l.2.1=l.1
   .rw[← q];exact z
   .have e:KF.bey l l.2.1=l.1:=by unfold KF.bey;rw[Ng q]
    rw[e]at this;exact(I _).mpr ⟨_,this⟩
  cases p:F l.1 with
  |true=>rw[d p]
  |false =>
   cases q:F l.2.1 with
   |true=>rw[h q]at p;cases p
   |false=>rfl
 obtain⟨lt,f⟩:∃ l,ls[t]?=some l:=⟨_,Gs (by rw[D.ln];exact ht)⟩
 have n:∀(i:Nat)(l:KF.Lk),ls[i]?=some l->F l.1=F l.2.1:=λi l C=>by
  by_cases c:i=t
  .subst c;exact D.last g.w k cr F C u
  .exact u i l c C
 have:=D.whole g k cr F n (a:=0) (b:=b) ∅ M
 rw[(I 0).mpr ⟨0,.nil 0⟩]at this;exact(I b).mp this.symm
theorem Dl.marks(D:Dl N rs ls)(M:Nat):MK (oddU M rs) rs.length=KF.oddE ls M N:=by
 refine qP (n:=rs.length) (Ig _ λi T=>by rw[dq,LJ ∅,HM]) (by rw[← D.ln];exact rQ D.rooms _ _ (Gy _)) λa E=>?_
 have q:=Gs E;rw[D.oddN _ q,rO,dq,Mq E,Ht];unfold oddU;rw[GP,q];rfl
theorem Ao{ks:Kn}(h:yr H zs N ks rs):∃ ls:List KF.Lk,LsAt KF.LkAt H zs ls/\ls.length=N/\∀(i:Nat)(l:KF.Lk),ls[i]?=some l->((∃ r,rs[l.1]?=some r/\2*i∈r)/\∃ r,rs[l.2.1]?=some r/\2*i+1∈r)/\∃ k,ks[i]?=some k/\l.2.2=k.2:=by
 have go:∀ n,n<=N->∃ ls:List KF.Lk,LsAt KF.LkAt H (zs.take n) ls/\ls.length=n/\∀(i:Nat)(l:KF.Lk),ls[i]?=some l->((∃ r,rs[l.1]?=some r/\2*i∈r)/\∃ r,rs[l.2.1]?=some r/\2*i+1∈r)/\∃ k,ks[i]?=some k/\l.2.2=k.2:=λn=>by
  induction n with
  |zero=>exact λ_=>⟨[],LsAt.nil,rfl,λi l z=>by simp at z⟩
  |succ n D =>
   intro T;obtain⟨ls,a,b,c⟩:=D ∅
   obtain⟨k,t,x,y,r,v,w,J,Y,g,o,s,C⟩:=h.2 n ∅
   refine⟨ls++[(x,y,k.2)],?_,by rw[Gx,b];rfl,λi l e=>?_⟩
   .rw[He,J];exact a.snoc ⟨t,rfl,Y⟩
   .by_cases q:i<n
    .rw[GB ∅]at e
     exact c i l e
    .have:i=n:=by
      have:=(Gn.mp e).1;rw[Gx,b]at this;have:i<n+1:=this;omega
     subst this;rw[Gz ∅,b,Hl]at e
     cases e
     exact⟨⟨⟨r,g,o⟩,⟨v,s,C⟩⟩,k,w,rfl⟩
 obtain⟨ls,a,b,c⟩:=go N (Gy _);rw[← h.1,Hi]at a;exact⟨ls,a,b,c⟩
theorem dS(g:Gr m es ts)(d:cP (fol es ts) (2*es.length) (2*es.length) rs):m+rs.length=es.length+2:=by
 obtain⟨a,p,c⟩:=g.part;rw[← p.same d.part];exact c
structure TxtO(mg:Str->Option Value)(TR:Addr):Prop extends TxtZ mg where
 modd:∃ t,mg "MOST_ODD" = some (.int 12 t)
 n_max:mg "max" = none
 g_TooRough:mg "TooRough" = some (.ref TR)
def rgh(ks:Kn)(n:Nat)(rs:List (List Nat)):Nat:=(KF.bl (MK (oddU (MK (aN ks) n) rs) rs.length)).length
inductive tP(TR PL PS WC:Addr)(vs:List L2.V)(H:L2.Hp)(Q:L2.VK)(E:L2.XK):Prop
 |mk (p:Addr)(es:En)(ks:Kn)(rs:List (List Nat)) (h0_:vs = [.ref p])(h1_:WebR PL PS WC H p es ks rs)(h2_:ks.length=es.length)(h3_:es.length<=34)(h4_:rs.length<=34)(h5_:(∀ r∈rs,r.length<=900))(h6_:(12<rgh ks es.length rs->∀ H',Same H H'->E (.ref TR) none H'))(h7_:(rgh ks es.length rs<=12->∀ H',Same H H'->Q (.int ((MK (oddU (MK (aN ks) es.length) rs) rs.length:Nat):Int)) H'))
theorem mR:aw ["web","marks"] ["web"] (aq kD):=by ac_nf
theorem Cw{PS:Addr}{d1 d2:FuncData} (F:Fun K "marks_of" "marks_of" kD f fd) (T:TxtO mg q) (M:ExC K q) (e:Cal P w K mg base 3 "odd_rounds" ["web"] (yP PL PS I) a d1) (j:Cal P w K mg base 2 "ones" ["mask"] KF.spOnes C d2):FnOk P w K mg base (CXd P w) 4 f fd ["web"] (tP q PL PS I):=by
 refine F.okD mR (by walk_at "l") λd A O s H Y Q E B h=>?_
 obtain⟨p,D,u,r,rfl,t,o,L,aa,n,J,k⟩:=h
 refine⟨_,(ag (ay 1 mR.nd (e.c B (ae (pv 0) ah)))
   (ag (bG (aB zR (j.c B (ae (pv 1) ah)) (pP rfl T.modd) (aC _)) (ak (zx M T.g_TooRough rfl tH rfl rfl (ae gL ah))) aJ)
   (ak (aF (pv 1))))),?_⟩
 refine⟨_,rfl,p,D,u,r,rfl,t,o,L,∅,n,λl g=>?_⟩
 have x:=λz N (b:Same l N)=>k z N (g.trans b);have G:=λz N (b:Same l N)=>J z N (g.trans b);have lt:MK (oddU (MK (aN u) D.length) r) r.length<2^r.length:=Ig _ λi v=>by rw[dq,LJ ∅,HM]
 unfold rgh at x G;generalize MK (oddU (MK (aN u) D.length) r) r.length=mk at lt x G ⊢;refine⟨_,rfl,mk,rfl,Hg lt (HC (by decide) ∅),λN b=>?_⟩
 refine⟨_,_,rfl,rfl,_,rfl,ite2 (λz=>⟨(by decide:1<=LK),G (by have:=MZ z;omega) _ b⟩) (λz=>?_)⟩
 exact⟨_,rfl,x (by have m:¬ ((12:Int)<((KF.bl mk).length:Int)):=λy=>z (Mq y);omega) _ b⟩
inductive spRT(PL PS WC:Addr)(vs:List L2.V)(H:L2.Hp)(Q:L2.VK)(x3_:L2.XK):Prop
 |mk (p:Addr)(S:Nat)(es:En)(ks:Kn)(rs:List (List Nat)) (h0_:vs = [.ref p,.int (S:Int)])(h1_:WebR PL PS WC H p es ks rs)(h2_:ks.length=es.length)(h3_:es.length<=34)(h4_:rs.length<=70)(h5_:(∀ r∈rs,r.length<=900))(h6_:Gk rs S (MK (aN ks) es.length))(h7_:∀ H',Same H H'->Q .non H')
inductive spLO(PL PS WC:Addr)(vs:List L2.V)(H:L2.Hp)(Q:L2.VK)(x3_:L2.XK):Prop
 |mk (p:Addr)(S m:Nat)(es:En)(ts:List (List Nat))(ks:Kn)(rs:List (List Nat)) (h0_:vs = [.ref p,.int (S:Int)])(h1_:WebT PL PS WC H p m es ts ks)(h2_:WebR PL PS WC H p es ks rs)(h3_:Gr m es ts)(h4_:cP (fol es ts) (2*es.length) (2*es.length) rs)(h5_:ks.length=es.length)(h6_:0<m)(h7_:m<=40)(h8_:es.length<=34)(h9_:(∀ k∈ks,k.1=0∨k.1=1))(h10_:Gk rs S (MK (aN ks) es.length))(h11_:∀(L:Nat) H',Same H H'->L<2^m->Q (.int (L:Int)) H')
theorem wH{x y:Nat}(h:(Sum.inl (x:Int):Key)=Sum.inl (y:Int)):x=y:=by
 have:=Sum.inl.inj h;omega
def sI(b:Bool):Int:=if b=true then 1 else 0
def kvS(i:Nat->Bool)(ps:List Nat):List (Key×V):=ps.map λ(p:Nat)=>((.inl ((p:Nat):Int):Key),V.int (sI (i p)))
theorem rY{i:Nat->Bool}{p:Nat}(nd:ps.Nodup)(h:p∈ps):valV (kvS i ps) (.inl (p:Int))=some (.int (sI (i p))):=by
 induction ps with
 |nil=>cases h
 |cons x r D =>
  rw[Hj]at nd;show valV (((.inl (x:Int):Key),V.int (sI (i x)))::kvS i r) _=_;rcases GG.mp h with e | h
  .subst e;exact bc rfl
  .have ne:¬ (Sum.inl (x:Int):Key)=Sum.inl (p:Int):=λz=>nd.1 (by rw[wH z];exact h)
   rw[bf ne];exact D nd.2 h
theorem Ar{i:Nat->Bool}{p:Nat}(h:p∉ps):valV (kvS i ps) (.inl (p:Int))=none:=by
 induction ps with
 |nil=>rfl
 |cons x r D =>
  show valV (((.inl (x:Int):Key),V.int (sI (i x)))::kvS i r) _=_;have ne:¬ (Sum.inl (x:Int):Key)=Sum.inl (p:Int):=λz=>h (by rw[← wH z];exact GN ..)
  rw[bf ne];exact D λz=>h (GD _ z)
theorem As{i:Nat->Bool}{p:Nat}(h:p∉ps)(b:Bool):putK (kvS i ps) (.inl (p:Int)) (.int (sI b))=kvS (λz=>if z=p then b else i z) (ps++[p]):=by
 rw[pF _ (Ar h)];unfold kvS;rw[GK];refine congr (congrArg _ (Ja λx L=>?_)) (by simp)
 simp only[Ng (show ¬ x=p from λz=>h (by rw[← z];exact L))]
def oth(e:Nat×Nat)(p:Nat):Nat:=if p=e.1 then e.2 else e.1
structure Met'(m:Nat)(ps wl:List Nat):Prop where
 nd:ps.Nodup
 lt:∀ p∈ps,p<m
 wn:∀ p∈wl,p∈ps
theorem Aa(s:Same H H'){b:Addr}(h:H' b=none):H b=none:=by
 cases z:H b with
 |none=>rfl
 |some u=>rw[s _ _ z]at h;cases h
theorem rV(x:Nat):∀(n:Nat)(ps:List Nat),ps.length=n->(xt ps).testBit x=decide (x∈ps)
 |0,ps,h=>by
  rw[Jc.mp h];show(0:Nat).testBit x=_;rw[HP];rfl
 |n+1,ps,h=>by
  have ne:ps≠[]:=λe=>by rw[e]at h;cases h
  have c:ps.dropLast++[ps.getLast ne]=ps:=JR ne;have C:ps.dropLast.length=n:=by rw[List.length_dropLast,h];rfl
  rw[← c,oz,Jg,rV x n _ C,Hf];generalize ps.dropLast=r;generalize ps.getLast ne=q;by_cases a:x∈r
  .rw[Mq a,Mq (Hu _ a),Bool.true_or]
  .rw[LJ a,Bool.false_or];by_cases b:q=x
   .rw[Mq b,Mq (by rw[b];simp)]
   .rw[LJ b,LJ (by simp only[GU,GJ];exact λz=>z.elim a λy=>b y.symm)]
theorem yh{d:Addr}{g:TG}{r:L2.TT}{c:TE}(Pv:Nat->List V->Hp->Prop)(hz:kvs.length<=LK)(w:Pv 0 [] H1)(hl:∀ i ys H,i<=kvs.length->Pv i ys H->H d=some (.frz o (.dK kvs)))
  (G:∀ i k y ys H,kvs[i]?=some (k,y)->Pv i ys H->g (kV k) (GH n none++J) H λh H2=>h.drop n=J/\r h H2 λb H3=>if b=true then c h H3 (λy E=>Pv (i+1) (ys++[y]) E) else Pv (i+1) ys H3) (hd:∀ ys H,Pv kvs.length ys H->QQ ys H) (Q:∀ i ys H,Pv i ys H->ys.length<=i)
  : gD g r c n J (Itk o kvs d) H1 QQ:=by
 refine⟨λi m ys H=>m=kvs.length-i/\i<=kvs.length/\Pv i ys H,⟨kvs.length,by simp,Hq _,w⟩,?_⟩
 rintro i m ys H ⟨rfl,T,p⟩;have q:=hl i ys H T p;have s:=Q i ys H p;refine⟨∅,?_⟩
 by_cases f:i<kvs.length
 .refine .inr ⟨⟨q,f⟩,λM H2=>Pv (i+1) M H2,λM H2 C=>⟨kvs.length-(i+1),∅,rfl,f,C⟩,λx j y=>?_⟩
  obtain⟨k,y,O,rfl,rfl⟩:=y;exact G i k y ys _ O p
 .have e:i=kvs.length:=by omega
  subst e;exact .inl ⟨⟨q,Gy _⟩,hd ys H p⟩
theorem xor3(a b c:Bool):Mc (Mc (sI a) (if b=true then 1 else 0)) (sI c)=sI (a ^^ b ^^ c):=by cases a<;>cases b<;>cases c<;>decide
theorem bt_sI(S t:Nat):Ma ((S:Int)/2^((t:Nat):Int).toNat) 1=sI (S.testBit t):=by
 rw[Et,BD];unfold sI;split<;>rfl
theorem Ab(nd:ps.Nodup)(h:∀ p∈ps,p<m):ps.length<=m:=d7 nd h
inductive jE(C:Addr)(vs:List L2.V)(H:L2.Hp)(Q:L2.VK)(x3_:L2.XK):Prop
 |mk (p a b s x:_) (h0_:vs = [.ref p,.int x])(h1_:TieAt H p C a b s)(h2_:Q (.int (if x=a then b else a)) H)
theorem Met'.new{wl:List Nat}{y:Nat}(h:Met' m ps wl)(c:y∉ps)(d:y<m):Met' m (ps++[y]) (wl++[y]):=by
 refine⟨HR.mpr ⟨h.nd,by simp,λa E b M z=>c (by rw[← GJ.mp M,← z];exact E)⟩,λy Q=>?_,λy Q=>?_⟩
 .rcases GU.mp Q with z | z
  .exact h.lt y z
  .rw[GJ.mp z];exact d
 .rcases GU.mp Q with z | z
  .exact Hu _ (h.wn y z)
  .exact Hh _ z
theorem eX:aw ["web","ties","pushing","number"] ["web","ties"] (aq fG):=by ac_nf
theorem ok_rt{PS:Addr}{d1 d2:FuncData} (F:Fun K "refuse_ties" "refuse_ties" fG f fd) (T:Txt mg) (cw:CW K q) (ap:Cal P w K mg base 2 "pushes" ["web"] (yO PL PS q) a d1) (am:Cal P w K mg base 1 "odd_at" ["web","ties","number"] (oR PL PS q) C d2):FnOk P w K mg base CX0 3 f fd ["web","ties"] (spRT PL PS q):=by
 refine F.ok eX (by walk_at "l") λd A I s H Y Q E B h=>?_
 obtain⟨p,S,D,x,rs,rfl,wb,kl,aa,aS,aL,ev,k⟩:=h
 refine⟨_,(ag (ay 2 eX.nd (ap.c B (ae (pv 0) ah)))
   (ak (bM PassesOwn.never rfl (aZ rfl T.n_range (ae (aD aA (by rfl) T.n_len bT (ae (a8 (pv 0) rfl) ah)) ah)) (cJ 3 eX.nd) (ak (bG (aB jR (am.c B (ae (pv 0) (ae (pv 1) (ae (pv 3) ah)))) (am.c B (ae (pv 0) (ae (pv 2) (ae (pv 3) ah)))) (aC _)) (ak cG) aJ))))),?_⟩
 refine⟨_,rfl,p,D,x,rs,rfl,wb,kl,aa,λl g=>?_⟩;have aR:=wb.mono g;obtain⟨m,fs,L,J,q5,z5,u,_,_,_,l5,ac,hR⟩:=id aR;have aI:z5.length=rs.length:=hR.1;generalize hM:MK (aN x) D.length=M at *;refine⟨_,rfl,p,q,m,fs,_,rfl,u,cw.cl,cw.n4,l5,q5,z5,rfl,.inl (SqL.of ac),_,rfl,∅,∅,fq (n:=(z5.length:Int).toNat) (λi O N=>∃ v3,O = [some (.ref p),some (.int (S:Int)),some (.int (M:Int)),v3]/\Same l N/\∀ j r,j<i->rs[j]?=some r->parR S r=parR M r) ⟨_,rfl,λ_ _ e=>e,λj r h=>Nh h (Ir _)⟩ ?_ ?_⟩
 .rintro i O N v ⟨v3,rfl,b,al⟩;have e0:(0:Int)+(i:Int)=(i:Int):=IF _;rw[e0];obtain⟨r,ab⟩:∃ r,rs[i]?=some r:=⟨_,Gs ∅⟩
  refine⟨_,rfl,_,rfl,_,rfl,p,S,i,D,x,rs,r,rfl,aR.mono b,ab,aL r (Gv ab),λH3 o=>?_⟩;refine⟨_,rfl,_,rfl,_,rfl,p,M,i,D,x,rs,r,rfl,aR.mono (b.trans o),ab,aL r (Gv ab),λH4 s4=>?_⟩;have aO:=(b.trans o).trans s4;refine⟨rfl,_,rfl,ite2 (λc=>?_) (λc=>?_)⟩
  .have G:parR S r≠parR M r:=λz=>by rw[z,Mq rfl]at c;cases c
   exact Nh (ev i r ab) G
  .have G:parR S r=parR M r:=by
    by_cases z:parR S r=parR M r
    .exact z
    .exact Nh (by rw[LJ (λy=>z (by have:=V.int.inj y;omega))];rfl) c
   refine⟨_,rfl,aO,λj r2 t an=>?_⟩;by_cases e:j=i
   .subst e;rw[ab]at an
    cases an
    exact G
   .exact al j r2 ∅ an
 .rintro O N ⟨v3,rfl,b,al⟩;rw[GA,aI]at al;exact k _ (g.trans b)
theorem pf:aw ["self","place"] ["self","place"] (aq cy):=by ac_nf
theorem rP (F:Fun K "across" "Tie.across" cy f fd) (T:CT K C):FnOk P w K mg base CX0 1 f fd ["self","place"] (jE C):=by
 refine F.ok pf (by walk_at "l") λd A I s H Y Q E B h=>?_
 obtain⟨p,a,b,st,x,rfl,⟨n,j⟩,k⟩:=h;refine⟨_,(ak (aF (fQ (aB cj (pv 1) (a8 (pv 0) rfl) (aC _)) (a8 (pv 0) rfl) (a8 (pv 0) rfl)))),?_⟩;refine⟨_,rfl,_,rfl,p,C,n,_,_,rfl,j,T.cl,T.n1,iT _ _ _,rfl,_,rfl,?_⟩;refine ite2 (λc=>?_) (λc=>?_)
 .refine⟨_,rfl,p,C,n,_,_,rfl,j,T.cl,T.n2,mJ _ _ _,?_⟩;rw[Nf (V.int.inj (MZ c))]at k;exact k
 .refine⟨_,rfl,p,C,n,_,_,rfl,j,T.cl,T.n1,iT _ _ _,?_⟩;rw[Ng (λz=>c (Mq (by rw[z])))]at k
  exact k
theorem bJ:aw ["web","ties","signs","waiting","place","number","tie","there"] ["web","ties"] (aq i7):=by ac_nf
theorem ok_lo{f2 cv cA g0 g1 PS WC:Addr}{d1 d2 cK cL be:FuncData} (F:Fun K "laying_of" "laying_of" i7 f fd) (T:Txt mg) (cw:CW K WC) (TL:CT K PL) (TS:CT K PS) (bo:Cal P w K mg base 3 "refuse_ties" ["web","ties"] (spRT PL PS WC) I d1) (am:Cal P w K mg base 1 "mask_of" ["places"] (kY K) f2 d2)
  (a0:Met P w K mg base 1 PL "across" ["self","place"] (jE PL) cv Y) (a1:Met P w K mg base 1 PS "across" ["self","place"] (jE PS) cA cK) (u0:Met P w K mg base 1 PL "wish" ["self"] (gE false) g0 cL) (u1:Met P w K mg base 1 PS "wish" ["self"] (gE true) g1 be):FnOk P w K mg base CX0 4 f fd ["web","ties"] (spLO PL PS WC):=by
 refine F.ok bJ (by walk_at "l") λab A aa s H vs Q E B h=>?_
 obtain⟨p,S,m,n,ts,ks,rs,rfl,wt,wr,g,ro,kl,m0,cb,al,bg,ev,kk⟩:=h;have hu:=sf B;have bd:=B.units;have bB:=TL.cl;have bD:=TS.cl;have mf:=AQ g;have bR:=wc ro;have bu:∀ r∈rs,r.length<=900:=λr B=>by
  have:=d7 (ro.ring r B).nd (ro.ring r B).lt;omega
 obtain⟨dx,fs,q1,xs,q3,z3,hp,lm,l1,J,tk,l3,h3,cM⟩:=id wt
 refine⟨_,(ag (aP (bo.c B (ae (pv 0) (ae (pv 1) ah))))
   (ag (ay 2 bJ.nd (ui (pG aj aj ua) rfl rfl (λz=>by cases z) (by decide)))
   (ag (ay 3 bJ.nd (bN (ae aj ah)))
   (ag (fN PassesOwn.never (aB (op_neG bd) (pv 3) (bN ah) (aC _)) (ag (ay 4 bJ.nd (D5 GZ PySem.F.slot_list_pop PySem.F.type_list_pop mt_pop (pv 3)))
   (ak (bM PassesOwn.never rfl (aU (bH (a8 (pv 0) rfl) (pv 4))) (cJ 5 bJ.nd) (ag (ay 6 bJ.nd (bH (a8 (pv 0) rfl) (pv 5)))
   (ag (ay 7 bJ.nd (zL (pO (pv 6) bB a0.me a0.ok (B.mono (by decide)) a0.bn .nil fR (ae (pv 4) ah)) (pO (pv 6) bD a1.me a1.ok (B.mono (by decide)) a1.bn .nil fR (ae (pv 4) ah))))
   (ak (bG (zv (m7 hu (pv 7) (pv 2))) (ag (kM hu (pv 2) (pv 7) (av dh (av dh (jd hu (pv 2) (pv 4) (λ_ _=>rfl)) (zL (fP (pv 6) bB u0.me u0.ok (B.mono (by decide)) u0.bn .nil fR) (fP (pv 6) bD u1.me u1.ok (B.mono (by decide)) u1.bn .nil fR))) (av gM (av eG (pv 1) (pv 5)) aj)) rfl)
   (ak (aP (dW GZ G9 G8 aQ (pv 3) (ae (pv 7) ah))))) aJ))))))))
   (ak (aF (am.c B (ae (dU [("signs",2)] ["place"] (E7 (pv 2)) pg_c (λC ex s H=>(kL (aB cj (jd hu (pv 1) (pv 0) (λ_ _=>rfl)) aj (aC _)))) (λC ex s H=>(pv 0))) ah)))))))),?_⟩
 refine⟨_,rfl,_,rfl,p,S,n,ks,rs,rfl,wr,kl,al,∅,bu,ev,λH1 s1=>?_⟩
 intro d hd;refine⟨af,[(.inl ((0:Nat):Int),.int 0)],rfl,(by show 1<=15;decide),?_⟩
 have sd:Same H1 (upd (upd H1 d (.dK [])) d (.dK (fj [] [(.inl ((0:Nat):Int),.int 0)]))):=aH (ai hd _) hd _;have bi:(upd (upd H1 d (.dK [])) d (.dK (fj [] [(.inl ((0:Nat):Int),.int 0)]))) d=some (.dK (kvS (λ_=>false) [0])):=by
  rw[af];rfl
 generalize upd (upd H1 d (.dK [])) d (.dK (fj [] [(.inl ((0:Nat):Int),.int 0)]))=N at sd bi;refine⟨(by show 1<=LK;decide),λq hq=>?_⟩
 have sq:=ai hq (.lst [.int 0]);have bZ:q≠d:=λz=>by rw[z,bi]at hq;cases hq
 have an:H1 q=none:=Aa sd hq;refine⟨λmm O H'=>∃(Pl:Nat->Bool)(ps wl:List Nat)(v4 v5 v6 v7:Option V),mm=2*(m-ps.length)+wl.length/\mm<=80/\O = [some (.ref p),some (.int (S:Int)),some (.ref d),some (.ref q),v4,v5,v6,v7]/\Same H1 H'/\H' d=some (.dK (kvS Pl ps))/\H' q=some (.lst (wl.map iV))/\Met' m ps wl,⟨_,λ_=>false,[0],[0],_,_,_,_,rfl,(by show 2*(m-1)+1<=80;omega),rfl,sd.trans sq,sq _ _ bi,af,⟨(by simp),λx L=>by rw[GJ.mp L];exact m0,λx L=>L⟩⟩,?_⟩
 rintro mm O H3 ⟨Pl,ps,wl,v4,v5,v6,v7,rfl,cT,rfl,s3,bY,bP,mt⟩;refine⟨_,rfl,(by show 0<=LK;exact Hq _),λl hl=>?_⟩
 have sl:=ai hl (.lst []);refine⟨_,_,uy (SqL.of (sl _ _ bP)),uy (ps:=[]) (SqL.of af),nj _,nj _,_,rfl,?_⟩;rw[Dn];have cc:=s3.trans sl;have cd:=sl _ _ bY;have ce:=sl _ _ bP;generalize upd H3 l (.lst [])=H4 at cc cd ce;refine ite2 (λc=>?_) (λc=>?_)
 .have ne:wl≠[]:=λz=>by rw[z,Mq rfl]at c;cases c
  have cp:wl.dropLast++[wl.getLast ne]=wl:=JR ne;obtain⟨x,L⟩:∃ x,x=wl.getLast ne:=⟨_,rfl⟩;obtain⟨a3,hw⟩:∃ a3,a3=wl.dropLast:=⟨_,rfl⟩;rw[← L,← hw]at cp;subst cp;clear L hw ne c;have cs:=mt.wn x (by simp)
  have xm:=mt.lt x cs;obtain⟨row,bb⟩:∃ row,ts[x]?=some row:=⟨_,Gs (by rw[g.w.len];exact xm)⟩
  have cV:=Ab mt.nd mt.lt;refine⟨λac H'=>∃(Pl:Nat->Bool)(aL a2:List Nat)(v4 v5 v6 v7:Option V),2*(m-aL.length)+a2.length<2*(m-ps.length)+(a3++[x]).length/\ac = [some (.ref p),some (.int (S:Int)),some (.ref d),some (.ref q),v4,v5,v6,v7]/\Same H1 H'/\H' d=some (.dK (kvS Pl aL))/\H' q=some (.lst (a2.map iV))/\Met' m aL a2,λac H' ⟨Pl,aL,a2,a4,a5,a6,a7,lt,e1,e2,e3,e4,e5⟩=>⟨_,lt,Pl,aL,a2,a4,a5,a6,a7,rfl,Hy (G6 lt) cT,e1,e2,e3,e4,e5⟩,?_⟩;have ch:((a3++[x]).map iV)[((a3++[x]).map iV).length-1]?=some (iV x):=by
   rw[GK,Gx,Gu];show(a3.map iV++[iV x])[a3.length+1-1]?=_;rw[KO,Gz (by rw[Gu];exact Gy _),Gu,Hl]
   rfl
  refine⟨_,rfl,.inl ⟨rfl,_,SqL.of ce⟩,q,_,iV x,rfl,rfl,ce,ch,?_⟩;have ci:((a3++[x]).map iV).dropLast=a3.map iV:=by
   rw[GK];exact List.dropLast_concat
  rw[ci];have s5:Same H1 (upd H4 q (.lst (a3.map iV))):=aH cc an _;have ct:(upd H4 q (.lst (a3.map iV))) d=some (.dK (kvS Pl ps)):=by rw[ao (Ne.symm bZ)];exact cd
  have aI:(upd H4 q (.lst (a3.map iV))) q=some (.lst (a3.map iV)):=af;generalize upd H4 q (.lst (a3.map iV))=H5 at s5 ct aI;obtain⟨r,r1,r2⟩:=cM.2 x row bb;have ck:=s1.trans s5;have rl:row.length<=n.length:=d7 (g.w.nd x row bb) λt ht=>by
   obtain⟨e,he,_⟩:=(g.w.mem x row bb t).mp ht;exact(Gn.mp he).1
  refine⟨_,rfl,p,WC,dx,fs,_,rfl,ck _ _ hp,cw.cl,cw.n3,l3,_,rfl,q3,z3,_,_,rfl,rfl,SqL.of (ck _ _ h3),aG r1,r,rfl,⟨_,SqL.of (ck _ _ r2)⟩,cf (K:=K) (xs:=row.map iV) (λj O H6=>∃(Pl:Nat->Bool)(aL a2:List Nat)(v5 v6 v7:Option V),O = [some (.ref p),some (.int (S:Int)),some (.ref d),some (.ref q),some (iV x),v5,v6,v7]/\Same H1 H6/\H6 d=some (.dK (kvS Pl aL))/\H6 q=some (.lst (a2.map iV))/\Met' m aL a2/\x∈aL/\2*(m-aL.length)+a2.length<2*(m-ps.length)+(a3++[x]).length) ⟨Pl,ps,a3,_,_,_,rfl,s5,ct,aI,⟨mt.nd,mt.lt,λy hy=>mt.wn y (by simp[hy])⟩,cs,by rw[Gx,GO];omega⟩ (λj O H6 _ aS=>by obtain⟨_,_,_,_,_,_,_,z,_⟩:=aS;exact SqL.of (z _ _ (s1 _ _ r2))) ?_ ?_⟩
  .rintro j v O H6 bv ⟨Pl,aL,a2,v5,v6,v7,rfl,s6,bm,aT,a9,bQ,bU⟩;rw[GC]at bv;obtain⟨t,ht,rfl⟩:=G5.mp bv;obtain⟨e,he,aR⟩:=(g.w.mem x row bb t).mp (Gv ht);obtain⟨k,u⟩:∃ k,ks[t]?=some k:=⟨_,Gs (by have:=(Gn.mp he).1;omega)⟩
   have cn:=s1.trans s6;obtain⟨p',ap,x1,x2⟩:=(tk.mono cn).2 t e k he u;obtain⟨b1,b2,bne⟩:=g.w.ends e (Gv he);have om:oth e x<m:=by unfold oth;split<;>assumption
   have ca:=Ab a9.nd a9.lt;have b6:(if(x:Int)=(e.1:Int) then(e.2:Int) else(e.1:Int))=((oth e x:Nat):Int):=by
    unfold oth;by_cases c:x=e.1
    .rw[Nf ∅,Nf c]
    .rw[Ng ∅,Ng c]
   refine⟨_,rfl,p,WC,dx,fs,_,rfl,cn _ _ hp,cw.cl,cw.n2,l1,_,rfl,q1,xs,_,_,rfl,rfl,SqL.of (cn _ _ J),aG x1,?_⟩;by_cases c:k.1=1
   .rw[Mq c]at x2;refine .inr ⟨_,rfl,p',ap,_,rfl,x2,mK _ _ _ (by decide) (by decide) (by decide),_,rfl,p',_,_,_,(x:Int),rfl,⟨ap,x2⟩,?_⟩
    rw[b6];refine⟨_,rfl,_,rfl,d,_,rfl,.inl ⟨_,.inl ((oth e x:Nat):Int),.inl bm,rfl,rfl⟩,_,rfl,?_⟩;by_cases ba:oth e x∈aL
    .rw[rY a9.nd ba];exact iteF ⟨Pl,aL,a2,_,_,_,rfl,s6,bm,aT,a9,bQ,bU⟩
    .rw[Ar ba];refine iteT ?_;refine⟨_,rfl,_,rfl,d,_,rfl,.inl ⟨_,.inl (x:Int),.inl bm,rfl,(rY a9.nd bQ).symm⟩,?_⟩;refine .inr ⟨_,rfl,p',ap,_,rfl,x2,mK _ _ _ (by decide) (by decide) (by decide),p',rfl,_,_,rfl,rfl,_,rfl,_,rfl,_,_,rfl,rfl,(show(0:Int)<=(t:Int) by omega),_,_,rfl,rfl,_,_,rfl,rfl,?_⟩
     refine⟨_,rfl,_,rfl,d,_,rfl,DPut.k (k:=.inl ((oth e x:Nat):Int)) bm (ar (by unfold kvS;rw[Gu];omega)),?_⟩
     obtain⟨G,b0⟩:∃ G,putK (kvS Pl aL) (.inl ((oth e x:Nat):Int)) (.int (Mc (Mc (sI (Pl x)) (if true=true then 1 else 0)) (Ma ((S:Int)/2^((t:Nat):Int).toNat) 1)))=kvS G (aL++[oth e x]):=⟨_,by rw[bt_sI,xor3];exact As ba _⟩
     have bx:(upd H6 d (.dK (putK (kvS Pl aL) (.inl ((oth e x:Nat):Int)) (.int (Mc (Mc (sI (Pl x)) (if true=true then 1 else 0)) (Ma ((S:Int)/2^((t:Nat):Int).toNat) 1)))))) q=some (.lst (a2.map iV)):=by rw[ao bZ];exact aT
     refine⟨_,rfl,.inl ⟨rfl,_,SqL.of bx⟩,_,rfl,q,_,_,rfl,rfl,bx,ar (by rw[Gu];omega),?_⟩
     refine⟨G,aL++[oth e x],a2++[oth e x],_,_,_,rfl,aH (aH s6 hd _) an _,?_,?_,a9.new ba om,Hu _ bQ,?_⟩
     .rw[ao (Ne.symm bZ),af,b0]
     .rw[af,GK];rfl
     .simp only[Gx,GO]at bU ⊢;have:=Ab (HR.mpr ⟨a9.nd,(by simp),λa ha b M z=>ba (by rw[← GJ.mp M,← z];exact ha)⟩:(aL++[oth e x]).Nodup) (m:=m) (λy hy=>(GU.mp hy).elim (a9.lt y) λz=>by rw[GJ.mp z];exact om)
      rw[Gx,GO]at this;omega
   .rw[LJ c]at x2;refine .inl ⟨_,rfl,p',ap,_,rfl,x2,mK _ _ _ (by decide) (by decide) (by decide),_,rfl,p',_,_,_,(x:Int),rfl,⟨ap,x2⟩,?_⟩
    rw[b6];refine⟨_,rfl,_,rfl,d,_,rfl,.inl ⟨_,.inl ((oth e x:Nat):Int),.inl bm,rfl,rfl⟩,_,rfl,?_⟩;by_cases ba:oth e x∈aL
    .rw[rY a9.nd ba];exact iteF ⟨Pl,aL,a2,_,_,_,rfl,s6,bm,aT,a9,bQ,bU⟩
    .rw[Ar ba];refine iteT ?_;refine⟨_,rfl,_,rfl,d,_,rfl,.inl ⟨_,.inl (x:Int),.inl bm,rfl,(rY a9.nd bQ).symm⟩,?_⟩;refine .inl ⟨_,rfl,p',ap,_,rfl,x2,mK _ _ _ (by decide) (by decide) (by decide),p',rfl,_,_,rfl,rfl,_,rfl,_,rfl,_,_,rfl,rfl,(show(0:Int)<=(t:Int) by omega),_,_,rfl,rfl,_,_,rfl,rfl,?_⟩
     refine⟨_,rfl,_,rfl,d,_,rfl,DPut.k (k:=.inl ((oth e x:Nat):Int)) bm (ar (by unfold kvS;rw[Gu];omega)),?_⟩
     obtain⟨G,b0⟩:∃ G,putK (kvS Pl aL) (.inl ((oth e x:Nat):Int)) (.int (Mc (Mc (sI (Pl x)) (if false=true then 1 else 0)) (Ma ((S:Int)/2^((t:Nat):Int).toNat) 1)))=kvS G (aL++[oth e x]):=⟨_,by rw[bt_sI,xor3];exact As ba _⟩
     have bx:(upd H6 d (.dK (putK (kvS Pl aL) (.inl ((oth e x:Nat):Int)) (.int (Mc (Mc (sI (Pl x)) (if false=true then 1 else 0)) (Ma ((S:Int)/2^((t:Nat):Int).toNat) 1)))))) q=some (.lst (a2.map iV)):=by rw[ao bZ];exact aT
     refine⟨_,rfl,.inl ⟨rfl,_,SqL.of bx⟩,_,rfl,q,_,_,rfl,rfl,bx,ar (by rw[Gu];omega),?_⟩
     refine⟨G,aL++[oth e x],a2++[oth e x],_,_,_,rfl,aH (aH s6 hd _) an _,?_,?_,a9.new ba om,Hu _ bQ,?_⟩
     .rw[ao (Ne.symm bZ),af,b0]
     .rw[af,GK];rfl
     .simp only[Gx,GO]at bU ⊢;have:=Ab (HR.mpr ⟨a9.nd,(by simp),λa ha b M z=>ba (by rw[← GJ.mp M,← z];exact ha)⟩:(aL++[oth e x]).Nodup) (m:=m) (λy hy=>(GU.mp hy).elim (a9.lt y) λz=>by rw[GJ.mp z];exact om)
      rw[Gx,GO]at this;omega
  .rintro O H6 ⟨Pl,aL,a2,v5,v6,v7,rfl,s6,bm,aT,a9,bQ,bU⟩;exact⟨Pl,aL,a2,_,_,_,_,bU,rfl,s6,bm,aT,a9⟩
 .have e0:wl = []:=by
   cases wl with
   |nil=>rfl
   |cons a b=>exact Nh (by rw[LJ (by simp)];rfl) c
  subst e0;refine⟨_,rfl,d,_,rfl,cd,λo=>?_⟩;have ca:=Ab mt.nd mt.lt;refine yh (kvs:=kvS Pl ps) (d:=d) (o:=o) (λi ys H5=>H5=upd H4 d (.frz o (.dK (kvS Pl ps)))/\ys=((ps.take i).filter Pl).map iV) (G6 (ar (by unfold kvS;rw[Gu];omega))) ⟨rfl,rfl⟩ (λi ys H5 _ z=>by rw[z.1];exact af) ?_ ?_ ?_
  .rintro i ky y ys H5 co ⟨rfl,rfl⟩;unfold kvS at co;rw[GC]at co;obtain⟨x,L,e2⟩:=G5.mp co
   cases e2
   have et:ps.take (i+1)=ps.take i++[x]:=by rw[He,L];rfl
   refine⟨rfl,_,rfl,_,rfl,d,_,rfl,.inl ⟨_,.inl (x:Int),.inr ⟨o,af⟩,rfl,(rY mt.nd (Gv L)).symm⟩,rfl,_,rfl,?_⟩
   cases aO:Pl x with
   |true =>
    refine iteT ⟨_,rfl,rfl,?_⟩;rw[et,Ji,GK,Jz aO];rfl
   |false =>
    refine iteF ⟨rfl,?_⟩;rw[et,Ji,GK,JA (by rw[aO];exact G4)]
    simp
  .rintro ys H5 ⟨rfl,rfl⟩ D hD;have el:(kvS Pl ps).length=ps.length:=by unfold kvS;rw[Gu]
   rw[el,Hi];refine⟨D,ps.filter Pl,rfl,SqL.of af,λx L=>?_,?_⟩
   .have:=mt.lt x (Iu.mp L).1
    omega
   .have sF:Same H1 (upd (upd H4 d (.frz o (.dK (kvS Pl ps)))) D (.lst (((ps.filter Pl)).map iV))):=(aH cc hd _).trans (ai hD _)
    exact kk _ _ (s1.trans sF) (Ig _ λx L=>by rw[rV x _ _ rfl];exact LJ λz=>by have:=mt.lt x (Iu.mp z).1;omega)
  .rintro i ys H5 ⟨_,rfl⟩;rw[Gu];exact Hy (IE _ _) (by rw[Hs];exact Nat.min_le_left _ _)
theorem bW.smT(h:bW H xs ts)(s:KF.SmT H H'):bW H' xs ts:=⟨h.1,λi l e=>by
 obtain⟨p,a,b⟩:=h.2 i l e
 exact⟨p,a,s.lst b⟩⟩
theorem eF.smT{PS:Addr}{ks:Kn}(h:eF PL PS H xs es ks)(s:KF.SmT H H'):eF PL PS H' xs es ks:=⟨h.1,λi e k J Y=>by
 obtain⟨p,n,a,b⟩:=h.2 i e k J Y
 exact⟨p,n,a,s _ _ (λf y=>by cases y) b⟩⟩
theorem WebR.smT{PL PS G p:Addr}{H H':Hp}{es:En}{ks:Kn}{rs:List (List Nat)}(h:WebR PL PS G H p es ks rs)(s:KF.SmT H H'):WebR PL PS G H' p es ks rs:=by
 obtain⟨n,fs,L,N,t,j,a,b,c,d,e,f,g⟩:=h;exact⟨n,fs,L,N,t,j,s _ _ (λi y=>by cases y) a,b,s.lst c,d.smT s,e,s.lst f,g.smT s⟩
theorem WebT.smT{PL PS G p:Addr}{H H':Hp}{m:Nat}{es:En}{ts:List (List Nat)}{ks:Kn}(h:WebT PL PS G H p m es ts ks)(s:KF.SmT H H'):WebT PL PS G H' p m es ts ks:=by
 obtain⟨n,fs,L,N,t,D,a,b,c,d,e,f,g,i⟩:=h;exact⟨n,fs,L,N,t,D,s _ _ (λJ y=>by cases y) a,b,c,s.lst d,e.smT s,f,s.lst g,i.smT s⟩
structure WebL(TT PL PS WC:Addr)(H:Hp)(p m:Nat)(es:En)(ts rs:List (List Nat))(ks:Kn):Prop where
 wf:∃ S,WebF S PL PS WC H p m es ts rs ks
 g:Gr m es ts
 kl:ks.length=es.length
 kin:∀ k∈ks,k.1=0∨k.1=1
 kb:∀ k∈ks,0<=k.2/\k.2<=10^(30:Int).toNat
 few:es.length<=34
 e0:0<es.length
 tb:Tb KF.lqF KF.lpF TT H
def RX(a TT:Addr)(ks:Kn)(es:En)(rs:List (List Nat))(H:Hp)(E:XK):Prop:=12<rgh ks es.length rs->∀ j,Same H j->Tb KF.lqF KF.lpF TT j->E (.ref a) none j
inductive yQ(TR TT PL PS WC:Addr)(vs:List L2.V)(H:L2.Hp)(Q:L2.VK)(E:L2.XK):Prop
 |mk (p:Addr)(m:Nat)(es:En)(ts rs:List (List Nat))(ks:Kn) (h0_:vs = [.ref p])(h1_:WebL TT PL PS WC H p m es ts rs ks)(h2_:rs.length+es.length<64)(h3_:RX TR TT ks es rs H E)(h4_:(rgh ks es.length rs<=12->∀ v H',KF.SmT H H'->Tb KF.lqF KF.lpF TT H'->Q v H'))
theorem jH:aw ["web","marks","many","links","found"] ["web"] (aq tZ):=by ac_nf
theorem Cz{TT f3 f4 f5 PS WC:Addr}{d1 d2 d5:FuncData} (F:Fun K "least" "least" tZ f fd) (T:TxtO mg a) (cw:CW K WC) (ac:CalD P w K mg base 4 "marks_of" ["web"] (tP a PL PS WC) C d1) (ap:Cal P w K mg base 1 "links_of" ["web"] (oS PL PS WC) I d2) (aO:Cal P w K mg base 11 "paired" ["many","links","marks"] (KF.spPaired TT) f3 G) (a4:Cal P w K mg base 4 "laying_of" ["web","ties"] (spLO PL PS WC) f4 Y) (be:Cal P w K mg base 12 "hills" ["many","links","marks"] (KF.spHills TT) f5 d5):FnOk P w K mg base (CXd P w) 13 f fd ["web"] (yQ a TT PL PS WC):=by
 refine F.okD jH (by walk_at "l") λaa A e s H vs Q E M h=>?_
 obtain⟨p,m,D,ts,rs,ks,rfl,wl,bb,kx,kk⟩:=h;obtain⟨⟨S,wf⟩,g,kl,aS,kb,ab,e0,tb⟩:=wl;obtain⟨dx,fs,q1,x,n,wg,_,l2,al,tk⟩:=id wf;obtain⟨q5,z5,l5,an,r5⟩:=wg.rounds;obtain⟨q6,z6,l6,aL,r6⟩:=wg.sides;have ro:=wg.part;have cnt:=dS g ro;have m2:=g.two e0;have bv:rs.length<=34:=by omega
 have bg:1<=rs.length:=by
  obtain⟨r,am,_⟩:=HJ.mp (ro.all 0 ∅)
  have:=HU am;omega
 have a0:∀ r∈rs,r.length<=900:=λr M=>by
  have:=d7 (ro.ring r M).nd (ro.ring r M).lt;omega
 have bi:z5.length=rs.length:=r5.1
 refine⟨_,(ag (ay 1 jH.nd (wy ac.ok (M.mono (by decide)) rfl ac.mg ac.kp ac.bn .nil tH rfl (ae (pv 0) ah)))
   (ag (ay 2 jH.nd (aD aA (by rfl) T.n_len bT (ae (a8 (pv 0) rfl) ah)))
   (ag (ay 3 jH.nd (ap.c M (ae (pv 0) ah)))
   (ag (ay 4 jH.nd (aO.c M (ae (pv 2) (ae (pv 3) (ae (pv 1) ah)))))
   (ak (aF (dB (ae (dw (pv 4) aj) (ae (a4.c M (ae (pv 0) (ae (dw (pv 4) aj) ah))) (ae (be.c M (ae (pv 2) (ae (pv 3) (ae (pv 1) ah)))) ah)))))))))),?_⟩
 refine⟨_,rfl,p,D,ks,rs,rfl,wf.r,kl,∅,∅,a0,λz b o=>kx z b o (KF.tb_same tb o),λrg b o=>?_⟩
 have kk:=kk rg;refine⟨_,rfl,p,WC,dx,fs,_,rfl,o _ _ n,cw.cl,cw.n4,l5,q5,z5,rfl,.inl (SqL.of (o _ _ an)),?_⟩;rw[bi];refine⟨_,rfl,p,D,ks,rs,rfl,⟨dx,fs,q1,x,q6,z6,o _ _ n,l2,o _ _ al,tk.mono o,l6,o _ _ aL,r6.mono o⟩,kl,∅,λq zs N s2 nq hq lk=>?_⟩
 obtain⟨ls,a9,ln,lp⟩:=Ao lk
 have O:Oth m D ts ks rs ls:=⟨g,ro,⟨ro.nd,ro.all,λr M=>(ro.ring r M).lt,λr M=>(ro.ring r M).nd,ln,λi l j=>(lp i l j).1⟩,kl,λi l j=>by
  obtain⟨k,J,B⟩:=(lp i l j).2
  exact⟨k,J,B,kb k (Gv J)⟩,m2,ab⟩
 have ba:=O.d.marks (MK (aN ks) D.length);have aI:=o.trans s2;have bd:=KF.tb_same tb aI;have bm:=O.lok1 ∅
 have conn:=O.d.conn1 O.g rfl O.cr;obtain⟨y,v⟩:=O.even1 ∅
 unfold rgh at rg;rw[ba]at rg;rw[ba];have bx:KF.LnAt N (.ref q) ls:=⟨q,zs,rfl,hq,a9⟩;refine⟨_,rfl,_,rfl,_,rfl,.ref q,rs.length,_,ls,rfl,bx,bm,bg,conn,y,v,∅,bd,λr4 c4 u4 H4 aT aR a3 bB bu=>?_⟩
 have a7:=(KF.SmT.of aI).trans aT;have ev:Gk rs u4 (MK (aN ks) D.length):=λk r u=>by
  have a1:=O.d.oddN u4 u;have a2:=O.d.oddN (MK (aN ks) D.length) u;rw[ln]at bu;rw[bu,a2,rO,rO]at a1;have:=decide_eq_decide.mp a1;unfold parR at this ⊢;omega
 refine⟨_,rfl,r4,_,0,_,rfl,rfl,SqT.of a3,at0,_,rfl,_,rfl,r4,_,1,_,rfl,rfl,SqT.of a3,at1,p,u4,m,D,ts,ks,rs,rfl,wf.t.smT a7,wf.r.smT a7,g,ro,kl,∅,∅,∅,aS,ev,λL H5 s5 ly=>?_⟩
 have a6:=KF.tb_same aR s5;have bo:=aT.trans (KF.SmT.of s5);refine⟨_,rfl,_,rfl,_,rfl,.ref q,rs.length,_,ls,rfl,bx.smT bo,bm,bg,conn,y,v,∅,∅,a6,λq7 r7 H7 bD a5 pp rl rb=>?_⟩
 refine⟨(by show 3<=LK;decide),λt ht=>?_⟩
 have st:=ai ht (.tup [.int c4,.int (L:Int),.ref q7]);exact kk _ _ ((KF.SmT.of aI).trans (bo.trans (bD.trans (KF.SmT.of st)))) (KF.tb_same a5 st)
end K8
variable{ks:K8.Kn}
namespace KF
open PySem L2
open KF (andN orN shlN xorN)
theorem Ex(u i:Nat):(Ma ((u:Int)/2^((i:Nat):Int).toNat) 1=1)↔u.testBit i=true:=by
 have O:(u:Int)/2^((i:Nat):Int).toNat=((u/2^i:Nat):Int):=by
  rw[GA];push_cast;rfl
 have f:Ma ((u/2^i:Nat):Int) 1=((u/2^i&&&1:Nat):Int):=andN _ 1;rw[O,f,Nat.and_one_is_mod,IX,decide_eq_true_iff];omega
theorem Eu(u i:Nat):bt (u:Int) i=u.testBit i:=by
 unfold bt
 cases h:u.testBit i with
 |true=>exact Mq ((Ex u i).mpr h)
 |false=>exact LJ λz=>by rw[(Ex u i).mp z]at h;cases h
theorem ends_is(ls:List Lk)(u:Nat):∀ i,qA (u:Int) ls i=((oddE ls u i:Nat):Int)
 |0=>rfl
 |i+1=>by
  rw[qA,Eu,ends_is ls u i];show _=(((if u.testBit i=true then oddE ls u i^^^endX (lkA ls i) else oddE ls u i):Nat):Int);split
  .unfold stepE endX;rw[shlN,shlN,xorN,xorN,HN]
  .rfl
theorem cost_is(ls:List Lk)(u:Nat):∀ i,qM (u:Int) ls i=cstU ls u i
 |0=>rfl
 |i+1=>by
  rw[qM,Eu,cost_is ls u i];rfl
end KF
namespace K8
open PySem L2
theorem BI(L a:Nat):bit (L:Int) (a:Int)=if L.testBit a=true then 1 else 0:=by
 unfold bit;rw[GA];have e:((L:Int)/2^a%2)=((L/2^a%2:Nat):Int):=by push_cast;rfl
 rw[e,IX];have:=Lw (L/2^a) (show 0<2 by decide)
 by_cases z:L/2^a%2=1
 .rw[z,Mq rfl,Nf rfl];rfl
 .rw[LJ z,Ng (by decide)]
  omega
theorem U_nat(o:ks.length=es.length)(a:∀ k∈ks,k.1=0∨k.1=1)(L t:Nat):U es ks (L:Int) t=UB es ks L t:=by
 by_cases c:t<es.length
 .obtain⟨e,r⟩:∃ e,es[t]?=some e:=⟨_,Gs c⟩;obtain⟨k,G⟩:∃ k,ks[t]?=some k:=⟨_,Gs ∅⟩
  rw[U_at r G,Gj r,kK G];unfold unp;rw[BI,BI]
  cases L.testBit e.1<;>cases L.testBit e.2<;>cases decide (k.1=1)<;>decide
 .have J:es[t]?=none:=Io ∅
  unfold U UB;rw[J]
def wor(es:En)(ks:Kn)(L:Nat):Int:=(prL ks (UB es ks L) es.length).sum
theorem Er{ks:Kn}{ls:List KF.Lk}{S:Nat->Bool}{N:Nat}(h:∀ i,i<N->(KF.lkA ls i).2.2=stg ks i):∀ i,i<=N->KF.cstU ls (MK S N) i=(prL ks S i).sum
 |0,_=>rfl
 |i+1,T=>by
  rw[l8,IK,← Er h i ∅]
  show(if(MK S N).testBit i=true then KF.cstU ls (MK S N) i+(KF.lkA ls i).2.2 else KF.cstU ls (MK S N) i)=_;rw[dq,Mq (show i<N by omega),Ht,h i ∅,HH,JK]
  split<;>omega
def dueB(n mk:Nat)(ls:List KF.Lk)(r:List KF.Pr):Bool:=r.all (KF.cB n mk)&&ls.all (KF.lB r)
def o9(es:En)(ks:Kn)(rs:List (List Nat))(ls:List KF.Lk)(L:Nat)(r:List KF.Pr):Bool:=dueB rs.length (KF.oddE ls (MK (aN ks) es.length) es.length) ls r&&decide ((r.map (·.2)).sum=2*wor es ks L)
inductive vS(TT PL PS WC:Addr)(vs:List L2.V)(H:L2.Hp)(Q:L2.VK)(x3_:L2.XK):Prop
 |mk (p:Addr)(m:Nat)(es:En)(ts rs:List (List Nat))(ks:Kn)(L:Nat)(pw:V)(r:List KF.Pr) (h0_:vs = [.ref p,.int (L:Int),pw])(h1_:WebL TT PL PS WC H p m es ts rs ks)(h2_:KF.PpAt H pw r)(h3_:r.length<=3000)(h4_:∀(ls:List KF.Lk)(H':Hp),Same H H'->Oth m es ts ks rs ls->Q (.bl (o9 es ks rs ls L r)) H')
theorem gz:aw ["self","laying","unlike"] ["self","laying"] (aq bq):=by ac_nf
theorem zU{c:Bool} (F:Fun K "unpleased" "Tie.unpleased" bq f fd) (T:CT K C) (g:Met P w K mg base 1 C "wish" ["self"] (gE c) q G):FnOk P w K mg base CX0 2 f fd ["self","laying"] (rh C c):=by
 refine F.ok gz (by walk_at "l") λd A I s H Y Q E B h=>?_
 obtain⟨p,a,b,st,l,rfl,⟨n,j⟩,D,M,k⟩:=h;have i:=T.cl
 refine⟨_,(ag (ay 2 gz.nd (av gM (av dh (av eG (pv 1) (a8 (pv 0) rfl)) (av eG (pv 1) (a8 (pv 0) rfl))) aj))
   (ak (aF (bO jR (pv 2) (fP (pv 0) i g.me g.ok (B.mono (by decide)) g.bn .nil fR) (aC _))))),?_⟩
 refine⟨_,rfl,_,rfl,p,C,n,_,_,rfl,j,T.cl,T.n1,iT _ _ _,_,_,rfl,rfl,D,?_⟩;refine⟨_,rfl,_,rfl,p,C,n,_,_,rfl,j,T.cl,T.n2,mJ _ _ _,_,_,rfl,rfl,M,?_⟩;refine⟨_,_,rfl,rfl,_,_,rfl,rfl,?_⟩;refine⟨_,rfl,_,rfl,p,n,_,rfl,j,mK _ _ _ (by decide) (by decide) (by decide),p,rfl,?_⟩
 refine⟨rfl,?_⟩;have e:=tG (l/2^a.toNat) (l/2^b.toNat);have m:Q (V.bl (unp c a b l)) H:=k;unfold unp bit at m;rw[← e]at m;exact m
theorem rC:aw ["web","laying"] ["web","laying"] (aq i5):=by ac_nf
theorem Fg{PS f1:Addr}{d1:FuncData} (F:Fun K "unpleased" "unpleased" i5 f fd) (T:Txt mg) (cw:CW K q) (TL:CT K PL) (TS:CT K PS) (ab:Cal P w K mg base 1 "mask_of" ["places"] (kY K) a G) (u0:Met P w K mg base 2 PL "unpleased" ["self","laying"] (rh PL false) I Y) (u1:Met P w K mg base 2 PS "unpleased" ["self","laying"] (rh PS true) f1 d1) :
  FnOk P w K mg base CX0 3 f fd ["web","laying"] (DU PL PS q):=by
 refine F.ok rC (by walk_at "l") λJ A O s H g Q E B h=>?_
 obtain⟨p,o,ks,l,rfl,⟨⟨m,fs,t,xs,j,an,ac,tk⟩,kl,aa⟩,kk⟩:=h;have aL:=TL.cl;have aO:=TS.cl;have aI:xs.length=o.length:=tk.1;refine⟨_,(ak (aF (ab.c B (ae (dU [("laying",1)] ["number","tie"] (fO rfl T.n_enumerate (ae (a8 (pv 0) rfl) ah)) (λC ex s H=>(dv (n:=2) (K:=K) rfl rfl (aE (aV (i:=0) (show(["number","tie","laying"]:List Str).Nodup from by decide) rfl (Or.inl rfl)) (aE (aV (i:=1) (show(["number","tie","laying"]:List Str).Nodup from by decide) rfl (Or.inl rfl)) bC)))) (λC ex s H=>(kL (jQ (zL (pO (pv 1) aL u0.me u0.ok (B.mono (by decide)) u0.bn .nil fR (ae (pv 2) ah)) (pO (pv 1) aO u1.me u1.ok (B.mono (by decide)) u1.bn .nil fR (ae (pv 2) ah)))))) (λC ex s H=>(pv 0))) ah)))),?_⟩
 refine⟨_,rfl,p,q,m,fs,_,rfl,j,cw.cl,cw.n2,an,t,rfl,⟨_,SqL.of ac⟩,fx (K:=K) (xs:=xs) (λi d N=>Same H N/\d=(upL (U o ks l) i).map iV) (G6 (ar ∅)) ⟨λ_ _ e=>e,rfl⟩ (λi d N _ z=>SqL.of (z.1 _ _ ac)) ?_ ?_ ?_⟩
 .rintro i x d N T2 L ⟨s2,rfl⟩ am;have v:i<o.length:=by rw[← tk.1];exact(Gn.mp L).1
  obtain⟨e,r⟩:∃ e,o[i]?=some e:=⟨_,Gs v⟩;obtain⟨k,u⟩:∃ k,ks[i]?=some k:=⟨_,Gs ∅⟩
  have s3:=s2.trans (ai am (.tup [.int (i:Int),x]));obtain⟨p',al,x1,x2⟩:=(tk.mono s3).2 i e k r u;rw[L]at x1
  cases x1
  refine⟨T2,_,rfl,SqT.of af,rfl,_,_,rfl,_,_,rfl,rfl,rfl,?_⟩;have hU:=U_at (l:=l) r u;have ap:∀ b:Bool,b=U o ks l i->(if b=true then tVar 0 ([some (.int (i:Int)),some (.ref p'),some (.int l)]:St) (upd N T2 (.tup [.int (i:Int),.ref p'])) (λy H4=>Same H H4/\(upL (U o ks l) i).map iV++[y]=(upL (U o ks l) (i+1)).map iV) else Same H (upd N T2 (.tup [.int (i:Int),.ref p']))/\(upL (U o ks l) i).map iV=(upL (U o ks l) (i+1)).map iV):=λb M=>by
   rw[lU,← M]
   cases b with
   |true =>
    refine iteT ⟨_,rfl,s3,?_⟩;rw[Nf rfl,GK];rfl
   |false =>
    refine iteF ⟨s3,?_⟩;rw[Ng (by decide)]
  by_cases c:k.1=1
  .rw[Mq c]at x2 hU;refine .inr ⟨_,rfl,p',al,_,rfl,x2,mK _ _ _ (by decide) (by decide) (by decide),_,rfl,p',_,_,_,l,rfl,⟨al,x2⟩,∅,∅,_,rfl,?_⟩
   exact ap _ hU.symm
  .rw[LJ c]at x2 hU;refine .inl ⟨_,rfl,p',al,_,rfl,x2,mK _ _ _ (by decide) (by decide) (by decide),_,rfl,p',_,_,_,l,rfl,⟨al,x2⟩,∅,∅,_,rfl,?_⟩
   exact ap _ hU.symm
 .rintro d N ⟨s2,rfl⟩ D hD;rw[aI];refine⟨D,upL (U o ks l) o.length,rfl,SqL.of af,λp j=>?_,?_⟩
  .have:=Hk.mp (Iu.mp j).1;omega
  .rw[ng];exact kk _ (s2.trans (ai hD _))
 .rintro i d N ⟨_,rfl⟩;rw[Gu];exact Hy (IE _ _) (by rw[Hc];exact Gy _)
theorem xj:aw ["web","laying","paper"] ["web","laying","paper"] (aq mX):=by ac_nf
theorem Fq{TT f2 f3 f4 PS WC:Addr}{d1 d2:FuncData} (F:Fun K "certain" "certain" mX f fd) (T:TxtO mg C) (cw:CW K WC) (aS:Cal P w K mg base 5 "examined" ["many","links","marks","used","paper"] KF.spExam I d1) (am:Cal P w K mg base 1 "links_of" ["web"] (oS PL PS WC) f2 d2) (ap:Cal P w K mg base 3 "odd_rounds" ["web"] (yP PL PS WC) f3 G) (aR:Cal P w K mg base 3 "unpleased" ["web","laying"] (DU PL PS WC) f4 Y):FnOk P w K mg base CX0 6 f fd ["web","laying","paper"] (vS TT PL PS WC):=by
 refine F.ok xj (by walk_at "l") λaa A e s H y Q E M h=>?_
 obtain⟨p,m,D,ts,rs,ks,L,pw,r,rfl,wl,pp,r3,kk⟩:=h;obtain⟨⟨S,wf⟩,g,kl,aL,kb,ab,e0,tb⟩:=wl;obtain⟨z,fs,t,x,u,wg,_,l2,ac,tk⟩:=id wf;obtain⟨q5,z5,l5,al,r5⟩:=wg.rounds;obtain⟨q6,z6,l6,aI,r6⟩:=wg.sides;have ro:=wg.part;have cnt:=dS g ro;have m2:=g.two e0;have aO:∀ r∈rs,r.length<=900:=λr M=>by
  have:=d7 (ro.ring r M).nd (ro.ring r M).lt;omega
 have a3:z5.length=rs.length:=r5.1;refine⟨_,(ak (aF (aS.c M (ae (aD aA (by rfl) T.n_len bT (ae (a8 (pv 0) rfl) ah)) (ae (am.c M (ae (pv 0) ah)) (ae (ap.c M (ae (pv 0) ah)) (ae (aR.c M (ae (pv 0) (ae (pv 1) ah))) (ae (pv 2) ah)))))))),?_⟩
 refine⟨_,rfl,p,WC,z,fs,_,rfl,u,cw.cl,cw.n4,l5,q5,z5,rfl,.inl (SqL.of al),?_⟩;rw[a3];refine⟨_,rfl,p,D,ks,rs,rfl,⟨z,fs,t,x,q6,z6,u,l2,ac,tk,l6,aI,r6⟩,kl,∅,λq zs N s2 nq hq lk=>?_⟩
 obtain⟨ls,a0,ln,lp⟩:=Ao lk
 have O:Oth m D ts ks rs ls:=⟨g,ro,⟨ro.nd,ro.all,λr M=>(ro.ring r M).lt,λr M=>(ro.ring r M).nd,ln,λi l v=>(lp i l v).1⟩,kl,λi l v=>by
  obtain⟨k,J,B⟩:=(lp i l v).2
  exact⟨k,J,B,kb k (Gv J)⟩,m2,ab⟩
 have a1:=O.d.marks (MK (aN ks) D.length);refine⟨_,rfl,p,D,ks,rs,rfl,wf.r.mono s2,kl,∅,∅,aO,λH3 s3=>?_⟩
 have a2:=s2.trans s3;refine⟨_,rfl,_,rfl,p,D,ks,(L:Int),rfl,⟨⟨z,fs,t,x,a2 _ _ u,l2,a2 _ _ ac,tk.mono a2⟩,kl,∅⟩,λH4 s4=>?_⟩
 have aT:=a2.trans s4;rw[a1];refine⟨_,rfl,rs.length,_,.ref q,pw,_,ls,r,rfl,(show KF.LnAt N (.ref q) ls from⟨q,zs,rfl,hq,a0⟩).mono (s3.trans s4),pp.mono aT,O.lok1 ∅,r3,λH5 s5=>?_⟩
 have an:=kk ls H5 (aT.trans s5) O;have eU:MK (U D ks (L:Int)) D.length=MK (UB D ks L) D.length:=qP (n:=D.length) (Ig _ λi o=>by rw[dq,LJ ∅,HM]) (Ig _ λi o=>by rw[dq,LJ ∅,HM]) λa b=>by rw[dq,dq,U_nat kl aL]
 have lt:MK (UB D ks L) D.length<2^D.length:=Ig _ λi o=>by rw[dq,LJ ∅,HM]
 have st:∀ i,i<D.length->(KF.lkA ls i).2.2=stg ks i:=λi o=>by
  obtain⟨l,v⟩:∃ l,ls[i]?=some l:=⟨_,Gs ∅⟩
  obtain⟨k,J,B⟩:=(lp i l v).2;rw[KF.lkA_is v,B];unfold stg;rw[J]
 have eq:KF.exB rs.length (KF.oddE ls (MK (aN ks) D.length) D.length) ls ((MK (U D ks (L:Int)) D.length:Nat):Int) r=o9 D ks rs ls L r:=by
  unfold KF.exB o9 dueB;have j:KF.jB ls (KF.oddE ls (MK (aN ks) D.length) D.length) ((MK (U D ks (L:Int)) D.length:Nat):Int)=true:=by
   unfold KF.jB;rw[eU,KF.ends_is,ln,O.lay,GA,Mq rfl,KU];refine Mq ?_;have:(((MK (UB D ks L) D.length:Nat):Int)/2^D.length)=((MK (UB D ks L) D.length/2^D.length:Nat):Int):=by push_cast;rfl
   rw[this,Nat.div_eq_of_lt lt];rfl
  rw[j,Ht,Bool.and_assoc,eU,KF.cost_is,ln,Er st _ (Gy _)];rfl
 show Q (.bl (KF.exB rs.length (KF.oddE ls (MK (aN ks) D.length) D.length) ls ((MK (U D ks (L:Int)) D.length:Nat):Int) r)) H5;rw[eq];exact an
theorem at30{u x:V}:atI [u,v,x] 0=some u:=rfl
theorem at31{u x:V}:atI [u,v,x] 1=some v:=rfl
theorem Fz{R:Hp->V->α->Prop}{xs:List α}(h:LsAt R H ys xs)(t:Nat):LsAt R H (ys.eraseIdx t) (xs.eraseIdx t):=by
 refine⟨by rw[KC,KC,h.1],λi x e=>?_⟩
 by_cases c:i<t
 .rw[Ld c]at e ⊢;exact h.2 i x e
 .rw[Le ∅]at e ⊢
  exact h.2 (i+1) x e
theorem De(mk a b:Nat):(KF.bl (mk^^^2^a^^^2^b)).length<=(KF.bl mk).length+2:=sub_le (b:=a::b::KF.bl mk) (KF.bl_nd _) λx L=>by
 rw[KF.mem_bl,HK,HK,Hf,Hf]at L;by_cases c:a=x
 .rw[c];simp
 by_cases d:b=x
 .rw[d];simp
 rw[LJ c,LJ d,IB,IB]at L;exact GD _ (GD _ (KF.mem_bl.mpr L))
theorem Oth.lokE(O:Oth m es ts ks rs ls)(t:Nat)(T:rs.length<=40):KF.Lok rs.length (ls.eraseIdx t) where
 n1:=T
 l9:=Hy (by rw[KC];split<;>omega) (O.lok1 T).l9
 sm l hl:=(O.lok1 T).sm l (Lx hl)
 w0 l hl:=(O.lok1 T).w0 l (Lx hl)
inductive DV(TR TT PL PS WC:Addr)(vs:List L2.V)(H:L2.Hp)(Q:L2.VK)(E:L2.XK):Prop
 |mk (p:Addr)(t m:Nat)(es:En)(ts rs:List (List Nat))(ks:Kn) (h0_:vs = [.ref p,.int (t:Int)])(h1_:WebL TT PL PS WC H p m es ts rs ks)(h2_:t<es.length)(h3_:RX TR TT ks es rs H E)(h4_:(rgh ks es.length rs<=12->∀ v H',KF.SmT H H'->Tb KF.lqF KF.lpF TT H'->Q v H'))
theorem i4:aw ["web","number","marks","many","links","link","pleased","displeased"] ["web","number"] (aq ze):=by ac_nf
theorem Fh{TT f1 f2 f3 g0 g1 PS WC:Addr}{d1 d2 e1:FuncData} (F:Fun K "roof" "roof" ze f fd) (T:TxtO mg I) (cw:CW K WC) (TL:CT K PL) (TS:CT K PS) (am:CalD P w K mg base 4 "marks_of" ["web"] (tP I PL PS WC) f1 d1) (aO:Cal P w K mg base 1 "links_of" ["web"] (oS PL PS WC) f2 d2) (aT:Cal P w K mg base 11 "paired" ["many","links","marks"] (KF.spPaired TT) f3 G)
  (u0:Met P w K mg base 1 PL "wish" ["self"] (gE false) g0 Y) (u1:Met P w K mg base 1 PS "wish" ["self"] (gE true) g1 e1):FnOk P w K mg base (CXd P w) 12 f fd ["web","number"] (DV I TT PL PS WC):=by
 refine F.okD i4 (by walk_at "l") λab A aa s H vs Q E M h=>?_
 obtain⟨p,t,m,D,ts,rs,ks,rfl,wl,ht,kx,kk⟩:=h;obtain⟨⟨S,wf⟩,g,kl,a1,kb,al,Y,tb⟩:=wl;have a6:=TL.cl;have a7:=TS.cl;obtain⟨dx,fs,q1,xs,n,wg,_,l2,an,tk⟩:=id wf;obtain⟨q5,z5,l5,aL,r5⟩:=wg.rounds;obtain⟨q6,z6,l6,aS,r6⟩:=wg.sides;have ro:=wg.part;have cnt:=dS g ro;have m2:=g.two Y;have bR:rs.length<=34:=by omega
 have bi:1<=rs.length:=by
  obtain⟨r,ap,_⟩:=HJ.mp (ro.all 0 ∅)
  have:=HU ap;omega
 have a4:∀ r∈rs,r.length<=900:=λr M=>by
  have:=d7 (ro.ring r M).nd (ro.ring r M).lt;omega
 have bm:z5.length=rs.length:=r5.1
 refine⟨_,(ag (ay 2 i4.nd (wy am.ok (M.mono (by decide)) rfl am.mg am.kp am.bn .nil tH rfl (ae (pv 0) ah)))
   (ag (ay 3 i4.nd (aD aA (by rfl) T.n_len bT (ae (a8 (pv 0) rfl) ah)))
   (ag (ay 4 i4.nd (aO.c M (ae (pv 0) ah)))
   (ag (ay 5 i4.nd (dW GZ PySem.F.slot_list_pop PySem.F.type_list_pop CI (pv 4) (ae (pv 1) ah)))
   (ag (ay 6 i4.nd (dw (aT.c M (ae (pv 3) (ae (pv 4) (ae (pv 2) ah)))) aj))
   (ag (ay 7 i4.nd (dw (aT.c M (ae (pv 3) (ae (pv 4) (ae (av dh (av dh (pv 2) (av bF aj (dw (pv 5) aj))) (av bF aj (dw (pv 5) aj))) ah)))) aj))
   (ak (aF (fQ (aB cj (zL (fP (xo qg (a8 (pv 0) rfl) (pv 1) (λ_ _=>rfl)) a6 u0.me u0.ok (M.mono (by decide)) u0.bn .nil fR) (fP (xo qg (a8 (pv 0) rfl) (pv 1) (λ_ _=>rfl)) a7 u1.me u1.ok (M.mono (by decide)) u1.bn .nil fR)) aj (aC _)) (dB (ae (pv 6) (ae (pv 7) ah))) (dB (ae (pv 7) (ae (pv 6) ah)))))))))))),?_⟩
 refine⟨_,rfl,p,D,ks,rs,rfl,wf.r,kl,∅,∅,a4,λz L o=>kx z L o (KF.tb_same tb o),λrg L o=>?_⟩
 have kk:=kk rg;refine⟨_,rfl,p,WC,dx,fs,_,rfl,o _ _ n,cw.cl,cw.n4,l5,q5,z5,rfl,.inl (SqL.of (o _ _ aL)),?_⟩;rw[bm];refine⟨_,rfl,p,D,ks,rs,rfl,⟨dx,fs,q1,xs,q6,z6,o _ _ n,l2,o _ _ an,tk.mono o,l6,o _ _ aS,r6.mono o⟩,kl,∅,λq zs N s2 nq hq lk=>?_⟩
 obtain⟨ls,bd,ln,lp⟩:=Ao lk
 have O:Oth m D ts ks rs ls:=⟨g,ro,⟨ro.nd,ro.all,λr M=>(ro.ring r M).lt,λr M=>(ro.ring r M).nd,ln,λi l j=>(lp i l j).1⟩,kl,λi l j=>by
  obtain⟨k,J,B⟩:=(lp i l j).2
  exact⟨k,J,B,kb k (Gv J)⟩,m2,al⟩
 have be:=O.d.marks (MK (aN ks) D.length);obtain⟨l,j⟩:∃ l,ls[t]?=some l:=⟨_,Gs ∅⟩
 obtain⟨y,hy,tt,rfl,bP⟩:=bd.2 t l j;have zl:zs.length=D.length:=by rw[bd.1,ln]
 have b6:=O.d.rooms l (Gv j);have qt:tt≠q:=λz=>by rw[z,hq]at bP;cases bP
 refine⟨_,rfl,.inl ⟨rfl,_,SqL.of hq⟩,_,rfl,q,zs,_,t,_,rfl,rfl,hq,∅,∅,(uM (qi (show t<zs.length by omega))).1,hy,?_⟩
 have bb:(upd N q (.lst (zs.eraseIdx t))) q=some (.lst (zs.eraseIdx t)):=af;have s3:Same L (upd N q (.lst (zs.eraseIdx t))):=aH s2 nq _;have bQ:KF.LnAt (upd N q (.lst (zs.eraseIdx t))) (.ref q) (ls.eraseIdx t):=⟨q,_,rfl,bb,(Fz bd t).imp λv x ⟨a,b,c⟩=>⟨a,b,by rw[ao (λz=>by rw[z,hq]at c;cases c)];exact c⟩⟩
 have bU:(upd N q (.lst (zs.eraseIdx t))) tt=some (.tup [.int (l.1:Int),.int (l.2.1:Int),.int l.2.2]):=by rw[ao qt];exact bP
 generalize upd N q (.lst (zs.eraseIdx t))=H3 at bb s3 bQ bU;have aR:=o.trans s3;have a3:=KF.tb_same tb aR;have bo:=O.lokE t ∅
 have conn:=O.d.conn O.g rfl O.cr ht;obtain⟨e1,e2⟩:=O.evenM ∅ (MK (aN ks) D.length)
 obtain⟨e3,e4⟩:=O.evenM ∅ (MK (aN ks) D.length^^^2^t)
 have bB:KF.oddE ls (MK (aN ks) D.length^^^2^t) D.length=KF.oddE ls (MK (aN ks) D.length) D.length^^^2^l.1^^^2^l.2.1:=by
  rw[KF.oddE_xor,KF.oddE_pow,Nf ∅,KF.lkA_is j,HN]
  rfl
 unfold rgh at rg;rw[be]at rg;rw[be];have f3:=De (KF.oddE ls (MK (aN ks) D.length) D.length) l.1 l.2.1;rw[bB]at e3 e4;generalize KF.oddE ls (MK (aN ks) D.length) D.length=mk at rg e1 e2 e3 e4 f3;refine⟨_,rfl,_,rfl,_,rfl,.ref q,rs.length,mk,ls.eraseIdx t,rfl,bQ,bo,bi,conn,e1,e2,∅,a3,λr4 c4 u4 H4 a2 a0 a5 bZ bD=>?_⟩
 refine⟨r4,_,0,_,rfl,rfl,SqT.of a5,at0,?_⟩;have ex:Mc (Mc ((mk:Nat):Int) (1*2^((l.1:Nat):Int).toNat)) (1*2^((l.2.1:Nat):Int).toNat)=((mk^^^2^l.1^^^2^l.2.1:Nat):Int):=by
  rw[KF.shlN,KF.shlN,KF.xorN,KF.xorN]
 have bY:=a2.tup bU;refine⟨_,rfl,_,rfl,_,rfl,_,rfl,tt,_,0,_,rfl,rfl,SqT.of bY,at30,_,_,rfl,rfl,⟨∅,∅,by decide⟩,_,_,rfl,rfl,_,rfl,tt,_,1,_,rfl,rfl,SqT.of bY,at31,_,_,rfl,rfl,⟨∅,∅,by decide⟩,_,_,rfl,rfl,?_⟩
 dsimp only;rw[ex];refine⟨.ref q,rs.length,_,ls.eraseIdx t,rfl,bQ.smT a2,bo,bi,conn,e3,e4,∅,a0,λr5 c5 u5 H5 bv a9 b0 ca cb=>?_⟩
 refine⟨r5,_,0,_,rfl,rfl,SqT.of b0,at0,?_⟩;have bu:=a2.trans bv;have ins:∀{b C d:Addr}{fs:List (Str×V)},H b=some (.ins C d fs)->H5 b=some (.ins C d fs):=λz=>bu _ _ (λps y=>by cases y) (aR _ _ z)
 have bx:=bu.lst (aR _ _ an);obtain⟨e,he⟩:∃ e,D[t]?=some e:=⟨_,Gs ht⟩;obtain⟨k,u⟩:∃ k,ks[t]?=some k:=⟨_,Gs ∅⟩
 obtain⟨p',aI,x1,x2⟩:=tk.2 t e k he u;have x5:=ins x2;have ba:KF.SmT H H5:=(KF.SmT.of aR).trans bu;have ac:∀(c d:Int)(r6:Addr),H5 r6=none->Q (.ref r6) (upd H5 r6 (.tup [.int c,.int d])):=λc d r6 bg=>kk _ _ (ba.trans (.of (ai bg _))) (KF.tb_same a9 (ai bg _));by_cases c:k.1=1
 .rw[Mq c]at x5;exact .inr ⟨_,rfl,p,WC,dx,fs,_,rfl,ins n,cw.cl,cw.n2,l2,_,rfl,q1,xs,_,_,rfl,rfl,SqL.of bx,aG x1,p',aI,_,rfl,x5,mK _ _ _ (by decide) (by decide) (by decide),p',rfl,rfl,_,rfl,iteF ⟨_,rfl,_,rfl,(by show 2<=LK;decide),λr6 bg=>ac _ _ r6 bg⟩⟩
 .rw[LJ c]at x5;exact .inl ⟨_,rfl,p,WC,dx,fs,_,rfl,ins n,cw.cl,cw.n2,l2,_,rfl,q1,xs,_,_,rfl,rfl,SqL.of bx,aG x1,p',aI,_,rfl,x5,mK _ _ _ (by decide) (by decide) (by decide),p',rfl,rfl,_,rfl,iteT ⟨_,rfl,_,rfl,(by show 2<=LK;decide),λr6 bg=>ac _ _ r6 bg⟩⟩
theorem zo{R:Nat->Nat->Prop}(inj:∀ a l b,R a b->R l b->a=l):∀{A B:List Nat},A.Nodup->(∀ a∈A,∃ b∈B,R a b)->A.length<=B.length
 |[],B,_,_=>Hq _
 |a::A,B,H,h=>by
  obtain⟨E,G⟩:=Hj.mp H;obtain⟨b,M,r⟩:=h a (GN ..);have:=zo inj (A:=A) (B:=B.erase b) G λl d=>by
   obtain⟨c,m,v⟩:=h l (GD _ d);refine⟨c,(KA λz=>?_).mpr m,v⟩;subst z;exact E (inj _ _ _ r v▸d)
  rw[Jw M]at this;have:=HU M;rw[GX];omega
theorem zO{f:Nat->Nat}{qs:List (List Nat)}(p:Part f N rs)(q:Part f N qs){P:List Nat->Bool}(e:∀ a b:List Nat,a.Perm b->P a=P b):((GW rs.length).filter λi=>P (rs.getD i [])).length<=((GW qs.length).filter λi=>P (qs.getD i [])).length:=by
 have perm:∀{i k:Nat}{d:Nat}{r r':List Nat},rs[i]?=some r->qs[k]?=some r'->d∈r->d∈r'->r.Perm r':=λ{i k d r r'} J Y g o=>by
  have c1:=p.cr r (Gv J);have c2:=q.cr r' (Gv Y);exact(Ic c1.nd c2.nd).mpr λd=>⟨c1.same c2 g o d,c2.same c1 o g d⟩
 refine zo (R:=λi k=>∃ r r' d,rs[i]?=some r/\qs[k]?=some r'/\d∈r/\d∈r') (λa l k ⟨r,r',d,J,Y,g,o⟩ ⟨s,L,j,u,v,H,h⟩=>?_) ((Kl).filter _) λi T=>?_
 .rw[Y]at v
  cases v
  exact kS p.nd J u g ((perm u Y H h).mem_iff.mpr o)
 .obtain⟨I,z⟩:=Iu.mp T;have B:=Gs (Hk.mp I);rw[mr B]at z;have c:=p.cr _ (Gv B);obtain⟨d,hd⟩:=c.ne;obtain⟨r',n,x⟩:=HJ.mp (q.all d (c.lt d hd));obtain⟨k,G⟩:=HE n;refine⟨k,Iu.mpr ⟨Hk.mpr (Gn.mp G).1,?_⟩,_,r',d,B,G,hd,x⟩;rw[mr G,← e _ _ (perm B G hd x)];exact z
def prv(n k:Nat):Nat:=if k=0 then n-1 else k-1
theorem cH{k:Nat}(h:k<n):prv n k<n:=by unfold prv;split<;>omega
theorem E6{k:Nat}(B:j<n)(G:k<n)(e:prv n j=prv n k):j=k:=by unfold prv at e;split at e<;>split at e<;>omega
theorem AJ{k:Nat}(h:k<n):(GW n).idxOf k=k:=by
 have a:=qm (Hk.mpr h);have b:(GW n).idxOf k<n:=by
  have:=IZ.mpr (Hk.mpr h);rwa[Hc]at this
 rw[HZ b]at a;exact G3 a
theorem zm(h:i<n):(GW n).reverse[i]?=some (n-1-i):=by
 rw[List.getElem?_reverse (by rw[Hc];exact h),Hc,HZ ∅]
theorem FT{k:Nat}(h:k<n):(GW n).reverse.idxOf k=n-1-k:=by
 have m:k∈(GW n).reverse:=IS.mpr (Hk.mpr h);have a:=qm m;have b:(GW n).reverse.idxOf k<n:=by
  have:=IZ.mpr m;rwa[Jb,Hc]at this
 rw[zm b]at a;have:=G3 a;omega
theorem Fu{k:Nat}(h:k<n):nxt (GW n).reverse k=prv n k:=by
 unfold nxt prv;rw[FT h,Jb,Hc];split
 .rw[show n-1-k+1=n by omega,JJ,zm ∅]
  show n-1-0=n-1;omega
 .rw[Ih ∅,zm ∅]
  show n-1-(n-1-k+1)=k-1;omega
theorem zZ{k:Nat}(h:k<n):nxt (GW n) (prv n k)=k:=by
 unfold nxt;rw[AJ (cH h),Hc];unfold prv;split
 .rw[show n-1+1=n by omega,JJ,HZ ∅]
  show 0=k;omega
 .rw[show k-1+1=k by omega,Ih h,HZ h]
  rfl
theorem bE{t p q:Nat}(h:es[t]?=some (p,q)∨es[t]?=some (q,p))(n:p≠q):leave es t p/2=t/\hd es (leave es t p)=q/\leave es t p≠leave es t q/\∀ d,d/2=t->d=leave es t p∨d=leave es t q:=by
 have i:q≠p:=λz=>n z.symm;have w:(2*t)/2=t/\(2*t)%2=0:=by omega
 have J:(2*t+1)/2=t/\¬ (2*t+1)%2=0:=by omega
 rcases h with h | h
 .have O:leave es t p=2*t:=by unfold leave;rw[h];exact Nf rfl
  have f:leave es t q=2*t+1:=by unfold leave;rw[h];exact Ng n
  rw[O,f];refine⟨w.1,?_,∅,λd hd=>by omega⟩
  unfold hd;rw[w.1,h];exact Nf w.2
 .have O:leave es t p=2*t+1:=by unfold leave;rw[h];exact Ng i
  have f:leave es t q=2*t:=by unfold leave;rw[h];exact Nf rfl
  rw[O,f];refine⟨J.1,?_,∅,λd hd=>by omega⟩
  unfold hd;rw[J.1,h];exact Ng J.2
abbrev Rw:=Nat×Nat×Nat
def qV(es:En)(ts:List (List Nat))(r:Rw):Prop:=(r.2.1=r.1/\(es[r.1]?=some (0,1)∨es[r.1]?=some (1,0)))∨(r.2.1=r.1+1/\2<=r.2.2/\es[r.1]?=some (0,r.2.2)/\es[r.2.1]?=some (r.2.2,1)/\ts[r.2.2]?=some [r.1,r.2.1])
structure Fan(R:List Rw)(m:Nat)(es:En)(ts:List (List Nat)):Prop where
 row:∀ r∈R,qV es ts r
 inc:R.Pairwise λa b=>a.2.1<b.1
 cov:∀ t,t<es.length->∃ r∈R,t=r.1∨t=r.2.1
 mid:∀ p,2<=p->p<m->∃ r∈R,r.2.1=r.1+1/\r.2.2=p
 t0:ts[0]?=some (R.map (·.1))
 t1:ts[1]?=some (R.map (·.2.1)).reverse
 len:ts.length=m
 cnt:m+R.length=es.length+2
def gd(es:En)(r:Rw):List Nat:=leave es r.1 0::if r.2.1=r.1 then[] else[leave es r.2.1 r.2.2]
def cm(es:En)(r:Rw):List Nat:=leave es r.2.1 1::if r.2.1=r.1 then[] else[leave es r.1 r.2.2]
section
variable{R:List Rw}{m:Nat}{es:En}{ts:List (List Nat)}
theorem qV.le{r:Rw}(h:qV es ts r):r.1<=r.2.1/\r.2.1<=r.1+1/\r.2.1<es.length:=by
 rcases h with⟨e,h | h⟩ | ⟨e,_,_,h,_⟩
 .have:=(Gn.mp h).1;omega
 .have:=(Gn.mp h).1;omega
 .have:=(Gn.mp h).1;omega
theorem Fan.one(h:Fan R m es ts){r r':Rw}(hr:r∈R)(hr':r'∈R){t:Nat}(a:t=r.1∨t=r.2.1)(b:t=r'.1∨t=r'.2.1):r=r':=by
 obtain⟨i,T,rfl⟩:=Ij hr;obtain⟨j,B,rfl⟩:=Ij hr';have p:=IA.mp h.inc;have N:=(h.row _ hr).le;have v:=(h.row _ hr').le;rcases Kf i j with z | z | z
 .have:=p i j T B z;omega
 .subst z;rfl
 .have:=p j i B T z;omega
theorem Fan.same(h:Fan R m es ts){k:Nat}(B:j<R.length)(G:k<R.length)(e:R[j]=R[k]):j=k:=by
 have p:=IA.mp h.inc;have N:=(h.row _ (Ii B)).le;have v:=(h.row _ (Ii G)).le;rcases Kf j k with z | z | z
 .have:=p j k B G z;rw[e]at this;omega
 .exact z
 .have:=p k j G B z;rw[e]at this;omega
theorem Fan.turn(h:Fan R m es ts):fe m es ts where
 len:=h.len
 ends e he:=by
  have g:1<m:=by rw[← h.len];exact(Gn.mp h.t1).1
  obtain⟨t,n⟩:=HE he;obtain⟨r,B,c⟩:=h.cov t (Gn.mp n).1;rcases h.row r B with⟨O,z⟩ | ⟨O,C,u,N,D⟩
  .have:t=r.1:=by omega
   subst this;rcases z with z | z<;>rw[n]at z<;>cases z<;>exact⟨∅,∅,by decide⟩
  .have i:r.2.2<m:=by rw[← h.len];exact(Gn.mp D).1
   rcases c with c | c
   .rw[← c,n]at u
    cases u;exact⟨∅,i,by show 0≠r.2.2;omega⟩
   .rw[← c,n]at N
    cases N;exact⟨i,∅,by show r.2.2≠1;omega⟩
 nd p l hl:=by
  have k:=h.inc;match p,hl with
  |0,hl =>
   rw[h.t0]at hl
   cases hl
   refine Kg.mpr (k.imp_of_mem λ{a b} E _ z=>?_);have:=(h.row a E).le;omega
  |1,hl =>
   rw[h.t1]at hl
   cases hl
   refine(List.reverse_perm _).nodup_iff.mpr (Kg.mpr (k.imp_of_mem λ{a b} _ M z=>?_));have:=(h.row b M).le;omega
  |p+2,hl =>
   obtain⟨r,B,O,f⟩:=h.mid (p+2) ∅ (by rw[← h.len];exact(Gn.mp hl).1)
   rcases h.row r B with⟨G,_⟩ | ⟨_,_,_,_,z⟩
   .omega
   .rw[f,hl]at z
    cases z
    have:r.1≠r.2.1:=by omega
    simp[this]
 mem p l hl t:=by
  have q:∀ e,es[t]?=some e->∃ r∈R,t=r.1∨t=r.2.1:=λe he=>h.cov t (Gn.mp he).1;match p,hl with
  |0,hl =>
   rw[h.t0]at hl
   cases hl
   refine⟨λn=>?_,λ⟨e,he,j⟩=>?_⟩
   .obtain⟨r,B,rfl⟩:=Hn.mp n;rcases h.row r B with⟨_,z | z⟩ | ⟨_,_,z,_,_⟩
    .exact⟨_,z,.inl rfl⟩
    .exact⟨_,z,.inr rfl⟩
    .exact⟨_,z,.inl rfl⟩
   .obtain⟨r,B,c⟩:=q e he;rcases h.row r B with⟨G,_⟩ | ⟨G,C,_,z,_⟩
    .exact Hn.mpr ⟨r,B,by show r.1=t;omega⟩
    .rcases c with c | c
     .exact Hn.mpr ⟨r,B,c.symm⟩
     .rw[← c,he]at z
      cases z
      rcases j with j | j
      .have:r.2.2=0:=j
       omega
      .cases j
  |1,hl =>
   rw[h.t1]at hl
   cases hl
   refine⟨λn=>?_,λ⟨e,he,j⟩=>IS.mpr ?_⟩
   .obtain⟨r,B,rfl⟩:=Hn.mp (IS.mp n);rcases h.row r B with⟨y,z | z⟩ | ⟨_,_,_,z,_⟩
    .exact⟨_,by show es[r.2.1]?=_;rw[y];exact z,.inr rfl⟩
    .exact⟨_,by show es[r.2.1]?=_;rw[y];exact z,.inl rfl⟩
    .exact⟨_,z,.inr rfl⟩
   .obtain⟨r,B,c⟩:=q e he;rcases h.row r B with⟨G,_⟩ | ⟨G,C,z,_,_⟩
    .exact Hn.mpr ⟨r,B,by show r.2.1=t;omega⟩
    .rcases c with c | c
     .rw[← c,he]at z
      cases z
      rcases j with j | j
      .cases j
      .have:r.2.2=1:=j
       omega
     .exact Hn.mpr ⟨r,B,c.symm⟩
  |p+2,hl =>
   obtain⟨r,B,O,f⟩:=h.mid (p+2) ∅ (by rw[← h.len];exact(Gn.mp hl).1)
   rcases h.row r B with⟨G,_⟩ | ⟨_,_,u,N,z⟩
   .omega
   rw[f]at z u N;rw[hl]at z
   cases z
   refine⟨λn=>?_,λ⟨e,he,j⟩=>?_⟩
   .rcases GG.mp n with c | c
    .rw[c];exact⟨_,u,.inr rfl⟩
    .rw[GJ.mp c];exact⟨_,N,.inl rfl⟩
   .obtain⟨v,o,c⟩:=q e he;rcases h.row v o with⟨G,y⟩ | ⟨G,C,I,Q,d⟩
    .have:t=v.1:=by omega
     rw[← this,he]at y;rcases y with y | y<;>cases y<;>rcases j with j | j<;>cases j
    .have:v.2.2=p+2:=by
      rcases c with c | c
      .rw[← c,he]at I;cases I;rcases j with j | j
       .cases j
       .exact j
      .rw[← c,he]at Q;cases Q;rcases j with j | j
       .exact j
       .have:1=p+2:=j;omega
     rw[this,hl]at d;simp only[Option.some.injEq,List.cons.injEq,and_true]at d;rcases c with c | c<;>rw[c]
     .rw[← d.1];simp
     .rw[← d.2];simp
def Dts(es:En)(r:Rw):Prop:=(∀ d,d/2=r.1∨d/2=r.2.1->d∈gd es r∨d∈cm es r)/\(∀ d∈gd es r,(d/2=r.1∨d/2=r.2.1)/\d∉cm es r)/\(∀ d∈cm es r,d/2=r.1∨d/2=r.2.1)/\(gd es r).Nodup/\(cm es r).Nodup
theorem zi{r:Rw}(h:qV es ts r):Dts es r:=by
 unfold Dts gd cm;rcases h with⟨e,h⟩ | ⟨e,C,J,Y,_⟩
 .obtain⟨u,_,b,a⟩:=bE h (by decide)
  obtain⟨b1,_,_,_⟩:=bE h.symm (by decide)
  rw[e,Nf rfl];refine⟨λd hd=>?_,λd hd=>?_,λd hd=>?_,by simp,by simp⟩
  .rcases a d ∅with z | z<;>simp[z]
  .rw[GJ.mp hd];exact⟨.inl u,λz=>b (GJ.mp z)⟩
  .rw[GJ.mp hd];exact .inl b1
 .obtain⟨u,_,b,a⟩:=bE (.inl J) (show 0≠r.2.2 by omega)
  obtain⟨g,_,_,_⟩:=bE (.inr J) (show r.2.2≠0 by omega)
  obtain⟨b1,_,b3,b4⟩:=bE (.inl Y) (show r.2.2≠1 by omega)
  obtain⟨c,_,_,_⟩:=bE (.inr Y) (show 1≠r.2.2 by omega)
  rw[Ng ∅,Ng ∅]
  have E:leave es r.1 0≠leave es r.2.1 r.2.2:=λz=>by rw[z]at u;omega
  have G:leave es r.2.1 1≠leave es r.1 r.2.2:=λz=>by rw[z]at c;omega
  have x:leave es r.1 0≠leave es r.2.1 1:=λz=>by rw[z]at u;omega
  have f:leave es r.2.1 r.2.2≠leave es r.1 r.2.2:=λz=>by rw[z]at b1;omega
  refine⟨λd hd=>?_,λd hd=>?_,λd hd=>?_,by simp[E],by simp[G]⟩
  .rcases hd with hd | hd
   .rcases a d hd with z | z<;>simp[z]
   .rcases b4 d hd with z | z<;>simp[z]
  .rcases GG.mp hd with z | z
   .rw[z];exact⟨.inl u,by simp[x,b]⟩
   .rw[GJ.mp z];exact⟨.inr b1,by simp[b3,f]⟩
  .rcases GG.mp hd with z | z
   .rw[z];exact .inr c
   .rw[GJ.mp z];exact .inl g
def atR(R:List Rw)(k:Nat):Rw:=(R[k]?).getD (0,0,0)
theorem bV{k:Nat}(h:k<R.length):R[k]?=some (atR R k)/\atR R k∈R:=by
 have e:=Gs h;unfold atR;rw[e];exact⟨rfl,Ii h⟩
theorem Ai(R:List Rw)(g:Rw->α):R.map g=(GW R.length).map λk=>g (atR R k):=by
 refine List.ext_getElem? λi=>?_;rw[GC,GC];by_cases h:i<R.length
 .rw[(bV h).1,HZ h];rfl
 .rw[Io ∅,Io (by rw[Hc];omega)];rfl
theorem Fan.at_inj(h:Fan R m es ts){k t:Nat}(B:j<R.length)(G:k<R.length)(a:t=(atR R j).1∨t=(atR R j).2.1)(b:t=(atR R k).1∨t=(atR R k).2.1):j=k:=by
 have e:=h.one (bV B).2 (bV G).2 a b;refine h.same B G ?_;have O:=(bV B).1;have f:=(bV G).1;rw[Gs B]at O;rw[Gs G]at f;rw[G3 O,G3 f,e]
theorem Fan.there(h:Fan R m es ts){k:Nat}(G:k<R.length){d:Nat}(J:hd es d=1)(h2:d/2=(atR R k).2.1):fol es ts d=leave es (atR R (prv R.length k)).2.1 1:=by
 rw[qv (by rw[J];exact h.t1),J,h2,Ai,← K9,z8 (F:=λk=>(atR R k).2.1) (t:=k) (IS.mpr (Hk.mpr G)) λx L e=>h.at_inj (Hk.mp (IS.mp L)) G (.inr rfl) (.inr e),Fu G]
theorem Fan.back(h:Fan R m es ts){k:Nat}(G:k<R.length){d:Nat}(J:hd es d=0)(h2:d/2=(atR R (prv R.length k)).1):fol es ts d=leave es (atR R k).1 0:=by
 rw[qv (by rw[J];exact h.t0),J,h2,Ai,z8 (F:=λk=>(atR R k).1) (t:=prv R.length k) (Hk.mpr (cH G)) λx L e=>h.at_inj (Hk.mp L) (cH G) (.inl rfl) (.inl e),zZ G]
theorem zY{f l:Nat}(n:f≠l):nxt [f,l] f=l/\nxt [f,l] l=f:=by
 have O : [f,l].idxOf f=0:=by simp
 have G : [f,l].idxOf l=1:=by simp[Lh,beq_eq_false_iff_ne.mpr n]
 unfold nxt;rw[O,G];exact⟨by simp,by simp⟩
theorem Fan.gch(h:Fan R m es ts){k:Nat}(G:k<R.length):chain (fol es ts) (leave es (atR R k).1 0) (gd es (atR R k)).tail (leave es (atR R (prv R.length k)).2.1 1):=by
 have ok:=h.row _ (bV G).2;have a:=λ{d}=>h.there G (d:=d);generalize atR R k=r at ok a;unfold gd;rcases ok with⟨e,z⟩ | ⟨e,C,J,Y,g⟩
 .obtain⟨u,I,_,_⟩:=bE z (by decide)
  rw[Nf e];exact a I (by rw[u,e])
 .obtain⟨u,I,_,_⟩:=bE (.inl J) (show 0≠r.2.2 by omega)
  obtain⟨b1,b2,_,_⟩:=bE (.inl Y) (show r.2.2≠1 by omega)
  rw[Ng ∅]
  refine⟨?_,a b2 b1⟩;rw[qv (by rw[I];exact g),I,u,(zY (show r.1≠r.2.1 by omega)).1]
theorem Fan.cch(h:Fan R m es ts){k:Nat}(G:k<R.length):chain (fol es ts) (leave es (atR R (prv R.length k)).2.1 1) (cm es (atR R (prv R.length k))).tail (leave es (atR R k).1 0):=by
 have ok:=h.row _ (bV (cH G)).2;have a:=λ{d}=>h.back G (d:=d);generalize atR R (prv R.length k)=r at ok a;unfold cm;rcases ok with⟨e,z⟩ | ⟨e,C,J,Y,g⟩
 .obtain⟨u,I,_,_⟩:=bE z.symm (by decide)
  rw[Nf e,e];exact a I u
 .obtain⟨u,I,_,_⟩:=bE (.inr Y) (show 1≠r.2.2 by omega)
  obtain⟨b1,b2,_,_⟩:=bE (.inr J) (show r.2.2≠0 by omega)
  rw[Ng ∅]
  refine⟨?_,a b2 b1⟩;rw[qv (by rw[I];exact g),I,u,(zY (show r.1≠r.2.1 by omega)).2]
def rgR(R:List Rw)(es:En)(k:Nat):List Nat:=gd es (atR R k)++cm es (atR R (prv R.length k))
theorem Fan.dts(h:Fan R m es ts){k:Nat}(G:k<R.length):Dts es (atR R k):=zi (h.row _ (bV G).2)
theorem Fan.ring_nd(h:Fan R m es ts){k:Nat}(G:k<R.length):(rgR R es k).Nodup:=by
 obtain⟨_,I,_,a,_⟩:=h.dts G;obtain⟨_,_,b3,_,b5⟩:=h.dts (cH G);refine HR.mpr ⟨a,b5,λx L y Q e=>?_⟩;subst e;have:=h.at_inj G (cH G) (I x L).1 (b3 x Q);rw[← this]at Q;exact(I x L).2 Q
theorem Fan.apart(h:Fan R m es ts){k d:Nat}(B:j<R.length)(G:k<R.length)(a:d∈rgR R es j)(b:d∈rgR R es k):j=k:=by
 have c:∀{j k},j<R.length->k<R.length->d∈gd es (atR R j)->d∈cm es (atR R k)->False:=λ{j k} B G a b=>by
  have:=h.at_inj B G ((h.dts B).2.1 d a).1 ((h.dts G).2.2.1 d b);subst this;exact((h.dts B).2.1 d a).2 b
 rcases GU.mp a with a | a<;>rcases GU.mp b with b | b
 .exact h.at_inj B G ((h.dts B).2.1 d a).1 ((h.dts G).2.1 d b).1
 .exact(c B (cH G) a b).elim
 .exact(c G (cH B) b a).elim
 .exact E6 B G (h.at_inj (cH B) (cH G) ((h.dts (cH B)).2.2.1 d a) ((h.dts (cH G)).2.2.1 d b))
theorem Fan.part(h:Fan R m es ts):Part (fol es ts) (2*es.length) ((GW R.length).map (rgR R es)) where
 cr r B:=by
  obtain⟨k,G,rfl⟩:=Hn.mp B;have G:=Hk.mp G;refine⟨⟨leave es (atR R k).1 0,(gd es (atR R k)).tail++cm es (atR R (prv R.length k)),rfl,gp.mpr ⟨h.gch G,h.cch G⟩⟩,λd hd=>?_,h.ring_nd G⟩;rcases GU.mp hd with z | z
  .have:=(h.row _ (bV G).2).le
   have:=((h.dts G).2.1 d z).1;omega
  .have:=(h.row _ (bV (cH G)).2).le
   have:=(h.dts (cH G)).2.2.1 d z;omega
 nd:=by
  refine List.pairwise_flatten.mpr ⟨λl C=>?_,Kg.mpr ((Kl (n:=R.length)).imp_of_mem λ{j k} b G n x L y Q e=>?_)⟩
  .obtain⟨k,G,rfl⟩:=Hn.mp C;exact h.ring_nd (Hk.mp G)
  .subst e;exact n (h.apart (Hk.mp b) (Hk.mp G) L Q)
 all d hd:=by
  obtain⟨r,B,c⟩:=h.cov (d/2) ∅
  obtain⟨k,G⟩:=HE B;have o:=(Gn.mp G).1;have e:atR R k=r:=by have:=(bV o).1;rw[G]at this;exact(G3 this).symm
  subst e;rcases(h.dts o).1 d c with z | z
  .exact HJ.mpr ⟨_,Hn.mpr ⟨k,Hk.mpr o,rfl⟩,Hu _ z⟩
  .obtain⟨j,b,e⟩:∃ j,j<R.length/\prv R.length j=k:=by
    by_cases c:k+1=R.length
    .exact⟨0,∅,by show R.length-1=k;omega⟩
    .exact⟨k+1,∅,by unfold prv;rw[Ng ∅];omega⟩
   exact HJ.mpr ⟨_,Hn.mpr ⟨j,Hk.mpr b,rfl⟩,Hh _ (by rw[e];exact z)⟩
theorem Fan.gr(h:Fan R m es ts)(d:0<R.length):Gr m es ts where
 w:=h.turn
 part:=⟨_,h.part,by rw[Gu,Hc];exact h.cnt⟩
 conn S hS p q j hq:=by
  have i:∀{t:Nat}{e:Nat×Nat},es[t]?=some e->(S e.1↔S e.2):=λz=>hS _ (Gv z);have g:S 0↔S 1:=by
   rcases h.row _ (bV d).2 with⟨_,z | z⟩ | ⟨_,_,u,N,_⟩
   .exact i z
   .exact(i z).symm
   .exact(i u).trans (i N)
  have all:∀ p,p<m->(S p↔S 0):=λp j=>by
   match p,j with
   |0,_=>exact Iff.rfl
   |1,_=>exact g.symm
   |p+2,j =>
    obtain⟨r,B,O,f⟩:=h.mid (p+2) ∅ j
    rcases h.row r B with⟨G,_⟩ | ⟨_,_,z,_,_⟩
    .omega
    .rw[f]at z;exact(i z).symm
  exact λz=>(all q hq).mpr ((all p j).mp z)
def rpB(ks:Kn)(r:Rw):Bool:=aN ks r.1 ^^ (if r.2.1=r.1 then false else aN ks r.2.1)
theorem zh{r:Rw}(h:qV es ts r):par (λt=>(MK (aN ks) es.length).testBit t) (gd es r)=rpB ks r/\par (λt=>(MK (aN ks) es.length).testBit t) (cm es r)=rpB ks r:=by
 have l:=h.le;have b1:(MK (aN ks) es.length).testBit r.1=aN ks r.1:=by rw[dq,Mq ∅,Ht]
 have b2:(MK (aN ks) es.length).testBit r.2.1=aN ks r.2.1:=by rw[dq,Mq ∅,Ht]
 unfold gd cm rpB;rcases h with⟨e,h⟩ | ⟨e,C,J,Y,_⟩
 .obtain⟨u,_,_,_⟩:=bE h (by decide)
  obtain⟨c1,_,_,_⟩:=bE h.symm (by decide)
  rw[Nf e,Nf e,Nf e,e,aM,aM,u,c1,b1];exact⟨rfl,rfl⟩
 .obtain⟨u,_,_,_⟩:=bE (.inl J) (show 0≠r.2.2 by omega)
  obtain⟨I,_,_,_⟩:=bE (.inr J) (show r.2.2≠0 by omega)
  obtain⟨c1,_,_,_⟩:=bE (.inl Y) (show r.2.2≠1 by omega)
  obtain⟨c2,_,_,_⟩:=bE (.inr Y) (show 1≠r.2.2 by omega)
  rw[Ng ∅,Ng ∅,Ng ∅,aM,aM,aM,aM,u,I,c1,c2,b1,b2]
  show(aN ks r.1 ^^ (aN ks r.2.1 ^^ false))=_/\(aN ks r.2.1 ^^ (aN ks r.1 ^^ false))=_;rw[IB,IB];exact⟨rfl,KS _ _⟩
def oddR(ks:Kn)(R:List Rw)(k:Nat):Bool:=rpB ks (atR R k) ^^ rpB ks (atR R (prv R.length k))
theorem Fan.ring_par(h:Fan R m es ts){k:Nat}(G:k<R.length):par (λt=>(MK (aN ks) es.length).testBit t) (rgR R es k)=oddR ks R k:=by
 unfold rgR;rw[uk,(zh (h.row _ (bV G).2)).1,(zh (h.row _ (bV (cH G)).2)).2];rfl
theorem Fan.rgh(h:Fan R m es ts){ks:Kn}{rs:List (List Nat)}(d:cP (fol es ts) (2*es.length) (2*es.length) rs):rgh ks es.length rs=((GW R.length).filter (oddR ks R)).length:=by
 have L:∀ a b:List Nat,a.Perm b->par (λt=>(MK (aN ks) es.length).testBit t) a=par (λt=>(MK (aN ks) es.length).testBit t) b:=λa b p=>Ck _ p;have O:((GW rs.length).filter (oddU (MK (aN ks) es.length) rs))=(GW rs.length).filter λi=>par (λt=>(MK (aN ks) es.length).testBit t) (rs.getD i []):=List.filter_congr λi _=>by
  rw[rO];rfl
 have f:((GW R.length).filter (oddR ks R))=(GW ((GW R.length).map (rgR R es)).length).filter λi=>par (λt=>(MK (aN ks) es.length).testBit t) (((GW R.length).map (rgR R es)).getD i []):=by
  rw[Gu,Hc];refine List.filter_congr λi T=>?_;have T:=Hk.mp T;rw[mr (show((GW R.length).map (rgR R es))[i]?=some (rgR R es i) by rw[GC,HZ T];rfl),h.ring_par T]
 have a:=zO d.part h.part L;have b:=zO h.part d.part L;rw[← O,← f]at a b;have c:(KF.bl (MK (oddU (MK (aN ks) es.length) rs) rs.length)).Perm ((GW rs.length).filter (oddU (MK (aN ks) es.length) rs)):=(Ic (KF.bl_nd _) ((Kl).filter _)).mpr λi=>by
  rw[KF.mem_bl,dq,JP,decide_eq_true_iff,Iu,Hk]
 unfold K8.rgh;rw[c.length_eq];omega
end
def stC(c:Int):Int:=c/60%(10^(30:Int).toNat+1)
inductive DY(PL PS:Addr)(vs:List L2.V)(H:L2.Hp)(Q:L2.VK)(x3_:L2.XK):Prop
 |mk (a b:Nat)(u c:Int) (h0_:vs = [.int (a:Int),.int (b:Int),.int u,.int c])(h1_:a≠b)(h2_:∀ x dx H',Same H H'->H' x=some (.ins (cls PL PS (decide (u=1))) dx (tf (a:Int) (b:Int) (stC c)))->Q (.ref x) H')
theorem oj:aw ["one","two","push","cell","strength"] ["one","two","push","cell"] (aq mU):=by ac_nf
theorem Fl{PS:Addr} (F:Fun K "_law_tie" "_law_tie" mU f fd) (e:Mak P w K mg base 1 "Pull" ["self","one","two","strength"] (kZ K) PL p G) (g:Mak P w K mg base 1 "Push" ["self","one","two","strength"] (kZ K) PS p G) (L:CT K PL) (TS:CT K PS):FnOk P w K mg base CX0 3 f fd ["one","two","push","cell"] (DY PL PS):=by
 refine F.ok oj (by walk_at "l") λd A I s H M Q E B h=>?_
 obtain⟨a,b,u,c,rfl,ne,k⟩:=h;have m:0<=stC c:=JC _ (by decide)
 refine⟨_,(ag (ay 4 oj.nd (av b8 (av cg (pv 3) aj) (av b9 (av D8 aj aj) aj)))
   (ag (bG (aB cj (pv 2) aj (aC _)) (ak (aF (kN g.mkc g.ok (B.mono (by decide)) rfl g.mg g.bn .nil fR (ae (pv 0) (ae (pv 1) (ae (pv 4) ah)))))) aJ)
   (ak (aF (kN e.mkc e.ok (B.mono (by decide)) rfl e.mg e.bn .nil fR (ae (pv 0) (ae (pv 1) (ae (pv 4) ah)))))))),?_⟩
 refine⟨_,rfl,_,_,rfl,rfl,⟨by decide,by decide⟩,_,_,rfl,rfl,⟨by decide,by decide,by decide⟩,_,_,rfl,rfl,_,_,rfl,rfl,(by show(0:Int)<10^(30:Int).toNat+1;decide),?_⟩
 refine⟨_,rfl,rfl,_,rfl,ite2 (λz=>?_) (λz=>?_)⟩
 .have T:u=1:=V.int.inj (MZ z)
  rw[Mq T]at k;refine⟨_,rfl,_,rfl,_,rfl,λx n i l q=>⟨x,PS,n,_,_,_,rfl,af,TS,∅,∅,∅,m,λj J Y=>?_⟩⟩
  exact⟨rfl,k x n j (λb o z=>Y b o (by rw[ao (ax z i),ao (ax z l)];exact z) (ax z i)) J⟩
 .have T:¬ u=1:=λy=>z (Mq (by rw[y]))
  rw[LJ T]at k;refine⟨_,rfl,_,rfl,_,rfl,λx n i l q=>⟨x,PL,n,_,_,_,rfl,af,L,∅,∅,∅,m,λj J Y=>?_⟩⟩
  exact⟨rfl,k x n j (λb o z=>Y b o (by rw[ao (ax z i),ao (ax z l)];exact z) (ax z i)) J⟩
section
variable{R:List Rw}{m:Nat}{es:En}{ts:List (List Nat)}
theorem qV.mono{i:En}{d:List (List Nat)}{r:Rw}(h:qV es ts r)(he:∀ (k:Nat) (e:Nat×Nat),es[k]?=some e->i[k]?=some e)(ht:∀ (p:Nat) (l:List Nat),2<=p->ts[p]?=some l->d[p]?=some l):qV i d r:=by
 rcases h with⟨e,z⟩ | ⟨e,C,J,Y,g⟩
 .exact .inl ⟨e,z.imp (he _ _) (he _ _)⟩
 .exact .inr ⟨e,C,he _ _ J,he _ _ Y,ht _ _ C g⟩
theorem Fan.snoc(h:Fan R m es ts){i:En}{d:List (List Nat)}{r:Rw}(he:∀ (k:Nat) (e:Nat×Nat),es[k]?=some e->i[k]?=some e)(ht:∀ (p:Nat) (l:List Nat),2<=p->ts[p]?=some l->d[p]?=some l)(ok:qV i d r)(f:r.1=es.length)(g:i.length=r.2.1+1)(n:∀ p,m<=p->p<N->r.2.1=r.1+1/\r.2.2=p)(t0:d[0]?=some (R.map (·.1)++[r.1]))(t1:d[1]?=some (r.2.1::(R.map (·.2.1)).reverse))(len:d.length=N)(cnt:N+(R.length+1)=i.length+2):Fan (R++[r]) N i d where
 row v hr':=by
  rcases GU.mp hr' with z | z
  .exact(h.row v z).mono he ht
  .rw[GJ.mp z];exact ok
 inc:=Ky.mpr ⟨h.inc,LF _ _,λa E b M=>by
  rw[GJ.mp M,f]
  exact(h.row a E).le.2.2⟩
 cov t ht:=by
  have l:=ok.le;by_cases c:t<es.length
  .obtain⟨v,a,b⟩:=h.cov t c;exact⟨v,Hu _ a,b⟩
  .exact⟨r,by simp,∅⟩
 mid p h2 hp:=by
  by_cases c:p<m
  .obtain⟨v,a,b⟩:=h.mid p h2 c;exact⟨v,Hu _ a,b⟩
  .exact⟨r,by simp,n p ∅ hp⟩
 t0:=by rw[t0,GK];rfl
 t1:=by rw[t1,GK,List.reverse_append];rfl
 len:=len
 cnt:=by rw[Gx];exact cnt
theorem wm{k2:Kn}(h:i<ks.length):aN (ks++k2) i=aN ks i:=by unfold aN;rw[GB h]
theorem rp_app{k2:Kn}{r:Rw}(h:r.1<ks.length)(h2:r.2.1<ks.length):rpB (ks++k2) r=rpB ks r:=by unfold rpB;rw[wm h,wm h2]
theorem AV:Fan [] 2 [] [[],[]] where
 row r h:=nomatch h
 inc:=.nil
 cov t h:=Nh h (Ir _)
 mid p h2 h:=by omega
 t0:=rfl
 t1:=rfl
 len:=rfl
 cnt:=rfl
theorem Fan.snoc1(h:Fan R m es ts){e:Nat×Nat}(he:e=(0,1)∨e=(1,0)):Fan (R++[(es.length,es.length,0)]) m (es++[e]) ((ts.set 0 (R.map (·.1)++[es.length])).set 1 (es.length::(R.map (·.2.1)).reverse)):=by
 have o:=(Gn.mp h.t0).1;have N:=(Gn.mp h.t1).1;have T:(es++[e])[es.length]?=some e:=by rw[Gz (Gy _),Hl];rfl
 refine h.snoc (λk x L=>by rw[GB (Gn.mp L).1];exact L) (λp l Y C=>by rw[HI ∅,HI ∅];exact C) (.inl ⟨rfl,?_⟩) rfl (by rw[Gx];rfl) (λp a b=>by omega) (by rw[HI ∅,IQ o]) (by rw[IQ (by rw[Hx];exact N)]) (by rw[Hx,Hx];exact h.len) (by have:=h.cnt;rw[Gx];show _=es.length+1+2;omega)
 rcases he with z | z
 .exact .inl (by rw[T,z])
 .exact .inr (by rw[T,z])
theorem Fan.snoc2(h:Fan R m es ts):Fan (R++[(es.length,es.length+1,m)]) (m+1) (es++[(0,m)]++[(m,1)]) ((ts.set 0 (R.map (·.1)++[es.length])++[[es.length,es.length+1]]).set 1 ((es.length+1)::(R.map (·.2.1)).reverse)):=by
 have o:=(Gn.mp h.t0).1;have N:=(Gn.mp h.t1).1;have c:=h.len;refine h.snoc (λk x L=>?_) (λp l Y C=>?_) (.inr ⟨rfl,by show 2<=m;omega,?_,?_,?_⟩) rfl (by simp) (λp a b=>⟨rfl,by show m=p;omega⟩) ?_ ?_ (by simp[c]) (by have:=h.cnt;simp only[Gx,GO];omega)
 .have:=(Gn.mp L).1
  rw[Ib,GB this];exact L
 .have:=(Gn.mp C).1
  rw[HI ∅,GB (by rw[Hx];exact this),HI ∅];exact C
 .show(es++[(0,m)]++[(m,1)])[es.length]?=_;rw[Ib,Gz (Gy _),Hl];rfl
 .show(es++[(0,m)]++[(m,1)])[es.length+1]?=_;rw[Ib,Gz ∅,show es.length+1-es.length=1 by omega];rfl
 .show((ts.set 0 (R.map (·.1)++[es.length])++[[es.length,es.length+1]]).set 1 ((es.length+1)::(R.map (·.2.1)).reverse))[m]?=_;rw[HI ∅,Gz (by rw[Hx];omega),Hx,c,Hl];rfl
 .rw[HI ∅,GB (by rw[Hx];exact o),IQ o]
 .rw[IQ (by rw[Gx,Hx];omega)]
end
theorem eF.put{PS:Addr}{o:HO}(t:eF PL PS H xs es ks)(h:H q=some (.lst zs)):eF PL PS (upd H q o) xs es ks:=⟨t.1,λi e k L r=>by
 obtain⟨p,n,a,b⟩:=t.2 i e k L r
 exact⟨p,n,a,by rw[ao (λz=>by rw[z,h]at b;cases b)];exact b⟩⟩
theorem eF.snoc{PS x:Addr}{e:Nat×Nat}{k:Int×Int}(t:eF PL PS H xs es ks)(d:ks.length=es.length)(h:H x=some (.ins (cls PL PS (decide (k.1=1))) f (tf (e.1:Int) (e.2:Int) k.2))):eF PL PS H (xs++[.ref x]) (es++[e]) (ks++[k]):=by
 refine⟨by rw[Gx,Gx,t.1];rfl,λi Q A r G=>?_⟩
 by_cases c:i<es.length
 .rw[GB c]at r;rw[GB ∅]at G
  obtain⟨p,o,a,b⟩:=t.2 i Q A r G;exact⟨p,o,by rw[GB (by rw[t.1];exact c)];exact a,b⟩
 .have g:i=es.length:=by
   have:=(Gn.mp r).1;rw[Gx,GO]at this;omega
  subst g;rw[Gz (Gy _),Hl]at r;rw[← d,Gz (Gy _),Hl]at G
  cases r
  cases G
  exact⟨x,f,by rw[← t.1,Gz (Gy _),Hl];rfl,h⟩
abbrev FnS(f:Hp)(q pt pb:Addr):Addr->Prop:=λp=>p=q∨p=pt∨p=pb∨f p≠none
structure FnH(H0:Hp)(PL PS q pt pb:Addr)(H:Hp)(us xs:List V)(es:En)(ts:List (List Nat))(ks:Kn)(bs:List Int):Prop where
 s:Same H0 H
 hq:H q=some (.lst us)
 tk:eF PL PS H us es ks
 kl:ks.length=es.length
 kin:∀ k∈ks,k.1=0∨k.1=1
 kb:∀ k∈ks,0<=k.2/\k.2<=10^(30:Int).toNat
 hpt:H pt=some (.lst xs)
 rx:bw (FnS H0 q pt pb) H xs ts
 di:Dist xs
 hpb:H pb=some (.lst (bs.map V.int))
structure FnN(H0:Hp)(q pt pb:Addr):Prop where
 qt:q≠pt
 qb:q≠pb
 tb:pt≠pb
 q0:H0 q=none
 t0:H0 pt=none
 b0:H0 pb=none
section
variable{H0 H:Hp}{PL PS q pt pb:Addr}{us xs:List V}{es:En}{ts:List (List Nat)}{ks:Kn}{bs:List Int}
theorem FnH.row(h:FnH H0 PL PS q pt pb H us xs es ts ks bs)(_:FnN H0 q pt pb)(hl:ts[i]?=some l):∃ p,xs[i]?=some (.ref p)/\H p=some (.lst (l.map iV))/\∀ l':List Nat,FnH H0 PL PS q pt pb (upd H p (.lst (l'.map iV))) us xs es (ts.set i l') ks bs:=by
 obtain⟨p,a,b,c⟩:=h.rx.2 i l hl;have d:H0 p=none:=by
  cases y:H0 p with
  |none=>rfl
  |some o=>exact Nh (.inr (.inr (.inr (by rw[y];exact λz=>nomatch z)))) b
 have e:q≠p:=λz=>b (.inl z.symm);have f:pt≠p:=λz=>b (.inr (.inl z.symm));have x:pb≠p:=λz=>b (.inr (.inr (.inl z.symm)));exact⟨p,a,c,λl'=>⟨aH h.s d _,by rw[ao e];exact h.hq,h.tk.put c,h.kl,h.kin,h.kb,by rw[ao f];exact h.hpt,h.rx.set h.di a,h.di,by rw[ao x];exact h.hpb⟩⟩
theorem FnH.same(h:FnH H0 PL PS q pt pb H us xs es ts ks bs)(s:Same H H'):FnH H0 PL PS q pt pb H' us xs es ts ks bs:=⟨h.s.trans s,s _ _ h.hq,h.tk.mono s,h.kl,h.kin,h.kb,s _ _ h.hpt,h.rx.mono λb u _ z=>s _ _ z,h.di,s _ _ h.hpb⟩
theorem FnH.add(h:FnH H0 PL PS q pt pb H us xs es ts ks bs)(N:FnN H0 q pt pb){pn:Addr}(T:H pn=none):FnH H0 PL PS q pt pb (upd (upd H pn (.lst (l.map iV))) pt (.lst (xs++[.ref pn]))) us (xs++[.ref pn]) es (ts++[l]) ks bs:=by
 have J:=h.same (ai T (.lst (l.map iV)));have f:pn≠pt:=λz=>by rw[z,h.hpt]at T;cases T
 have e:pn≠q:=λz=>by rw[z,h.hq]at T;cases T
 have x:pn≠pb:=λz=>by rw[z,h.hpb]at T;cases T
 refine⟨aH J.s N.t0 _,by rw[ao N.qt];exact J.hq,J.tk.put J.hpt,h.kl,h.kin,h.kb,af,?_,kf h.rx h.di T,by rw[ao N.tb.symm];exact J.hpb⟩
 refine(J.rx.mono λb u n z=>?_).snoc (λz=>?_) (by rw[ao f];exact af)
 .rw[ao (λy=>n (.inr (.inl y)))];exact z
 .rcases z with z | z | z | z
  .exact e z
  .exact f z
  .exact x z
  .exact z (none_of h.s T)
theorem FnH.tie(h:FnH H0 PL PS q pt pb H us xs es ts ks bs)(N:FnN H0 q pt pb){x:Addr}{e:Nat×Nat}{k:Int×Int}(s:Same H H')(L:H' x=some (.ins (cls PL PS (decide (k.1=1))) a (tf (e.1:Int) (e.2:Int) k.2)))(k1:k.1=0∨k.1=1)(k2:0<=k.2/\k.2<=10^(30:Int).toNat):FnH H0 PL PS q pt pb (upd H' q (.lst (us++[.ref x]))) (us++[.ref x]) xs (es++[e]) ts (ks++[k]) bs:=by
 have J:=h.same s;refine⟨aH J.s N.q0 _,af,(J.tk.snoc h.kl L).put J.hq,by rw[Gx,Gx,h.kl];rfl,λy Q=>?_,λy Q=>?_,by rw[ao N.qt.symm];exact J.hpt,J.rx.mono λb u n z=>by rw[ao (λy=>n (.inl y))];exact z,h.di,by rw[ao N.qb.symm];exact J.hpb⟩
 .rcases GU.mp Q with z | z
  .exact h.kin y z
  .rw[GJ.mp z];exact k1
 .rcases GU.mp Q with z | z
  .exact h.kb y z
  .rw[GJ.mp z];exact k2
theorem FnH.bit(h:FnH H0 PL PS q pt pb H us xs es ts ks bs)(N:FnN H0 q pt pb)(b:Int):FnH H0 PL PS q pt pb (upd H pb (.lst (bs.map V.int++[.int b]))) us xs es ts ks (bs++[b]) :=
 ⟨aH h.s N.b0 _,by rw[ao N.qb];exact h.hq,h.tk.put h.hpb,h.kl,h.kin,h.kb,by rw[ao N.tb];exact h.hpt,h.rx.mono λb u n z=>by rw[ao (λy=>n (.inr (.inr (.inl y))))];exact z,h.di,by rw[af,GK];rfl⟩
end
def bI(b:Bool):Int:=if b=true then 1 else 0
theorem at_prv(hl:xs.length=n)(hi:i<n)(h:xs[prv n i]?=some v):atI xs ((i:Int)-1)=some v:=by
 unfold prv at h;split at h
 .rename_i z;subst z;have:xs=xs.dropLast++[v]:=by
   have ne:xs≠[]:=λy=>by rw[y]at hl;simp at hl;omega
   have e:=JR ne;have:xs.getLast ne=v:=by
    rw[List.getLast_eq_getElem];have:=(Gn.mp h).2;rw[← this];congr 1;omega
   rw[this]at e;exact e.symm
  rw[this];exact DH _ _
 .have e:(i:Int)-1=((i-1:Nat):Int):=by omega
  rw[e];exact aG h
def FanI(f:Hp)(PL PS a q pt pb:Addr)(n i:Nat)(O:St)(H:Hp):Prop:=∃(b c e g d:Option V)(J N:List V)(R:List Rw)(m:Nat)(D:En)(j:List (List Nat))(u:Kn),O = [some (.ref a),some (.int (n:Int)),some (.ref q),some (.ref pt),some (.ref pb),b,c,e,g,d,none]/\FnH f PL PS q pt pb H J N D j u (R.map λr=>bI (rpB u r))/\Fan R m D j/\R.length=i/\D.length<=2*i
inductive fanT(H0:Hp)(PL PS a:Addr)(n:Nat)(D:L2.Ends)(σ:L2.St)(H:L2.Hp):Prop
 |mk (v6 v8 v9:Option V)(q pt pb:Addr)(us xs:List V)(R:List Rw)(r:Rw)(i m:Nat)(es:En)(ts:List (List Nat))(ks:Kn) (h0_:σ = [some (.ref a),some (.int (n:Int)),some (.ref q),some (.ref pt),some (.ref pb),some (.int (i:Int)),v6,some (.int (bI (rpB ks r))),v8,v9,none])(h1_:FnN H0 q pt pb)(h2_:FnH H0 PL PS q pt pb H us xs es ts ks (R.map λr=>bI (rpB ks r)))(h3_:ts[1]?=some (R.map (·.2.1)).reverse)(h4_:r.2.1+1=es.length)(h5_:Fan (R++[r]) m es (ts.set 1 (r.2.1::(R.map (·.2.1)).reverse)))(h6_:R.length=i)(h7_:i<17)(h8_:es.length<=2*(i+1))(h9_:∀ σ' H',FanI H0 PL PS a q pt pb n (i+1) σ' H'->D.nx σ' H')
inductive fanC(H0:Hp)(PL PS a:Addr)(n:Nat)(Q:VK)(D:L2.Ends)(σ:L2.St)(H:L2.Hp):Prop
 |mk (v5 v6 v7 v8 v9:Option V)(q pt pb:Addr)(us xs:List V)(R:List Rw)(m:Nat)(es:En)(ts:List (List Nat))(ks:Kn) (h0_:σ = [some (.ref a),some (.int (n:Int)),some (.ref q),some (.ref pt),some (.ref pb),v5,v6,v7,v8,v9,none])(h1_:FnN H0 q pt pb)(h2_:FnH H0 PL PS q pt pb H us xs es ts ks (R.map λr=>bI (rpB ks r)))(h3_:Fan R m es ts)(h4_:R.length=n)(h5_:es.length<=2*n)(h6_:D.rt=Q)
structure FanW(PL PS WC:Addr)(H:Hp)(p:Addr)(n m:Nat)(R:List Rw)(es:En)(ts rs:List (List Nat))(ks:Kn):Prop where
 wf:∃ S,WebF S PL PS WC H p m es ts rs ks
 fan:Fan R m es ts
 rn:R.length=n
 kl:ks.length=es.length
 kin:∀ k∈ks,k.1=0∨k.1=1
 kb:∀ k∈ks,0<=k.2/\k.2<=10^(30:Int).toNat
 few:es.length<=2*n
inductive spFan(K:Gw)(PL PS WC:Addr)(vs:List L2.V)(H:L2.Hp)(Q:L2.VK)(x3_:L2.XK):Prop
 |mk (a:Addr)(n:Nat)(ns:List Int) (h0_:vs = [.ref a,.int (n:Int)])(h1_:SqL K H a (ns.map V.int))(h2_:10<=n)(h3_:n<=17)(h4_:∀(t p:Addr)(m:Nat)(R:List Rw)(es:En)(ts rs:List (List Nat))(ks:Kn)(H':Hp),Same H H'->H' t=some (.tup [.ref p,.int (((GW n).filter (oddR ks R)).length:Int)])->FanW PL PS WC H' p n m R es ts rs ks->Q (.ref t) H')
theorem CB(u:Nat->Bool)(i:Nat):(((GW (i+1)).filter u).length:Int)=(((GW i).filter u).length:Int)+bI (u i):=by
 rw[ID,Ji,Gx];unfold bI
 cases h:u i<;>simp[h]
theorem bh:aw ["script","rows","ties","turns","bits_now","k","cell","push","place","bit","count"] ["script","rows"] (aq mV):=by ac_nf
theorem Fm{PS WC fW:Addr}{d1 d2:FuncData} (F:Fun K "_law_fan" "_law_fan" mV f fd) (T:Txt mg) (an:Cal P w K mg base 1 "_law_cell" ["script","k"] (yU K) C d1) (aT:Cal P w K mg base 3 "_law_tie" ["one","two","push","cell"] (DY PL PS) I d2) (aR:Mak P w K mg base 5 "Web" ["self","many","ties","turns"] (mO K) WC fW Y) (cw:CW K WC) (TL:CT K PL) (TS:CT K PS):FnOk P w K mg base CX0 7 f fd ["script","rows"] (spFan K PL PS WC):=by
 refine F.ok bh (by walk_at "l") λab A aa s H vs Q E M h=>?_
 obtain⟨a,n,ns,rfl,hS,n1,n2,kk⟩:=h
 refine⟨_,(ag (ay 2 bh.nd (bN ah))
   (ag (ay 3 bh.nd (bN (ae (bN ah) (ae (bN ah) ah))))
   (ag (ay 4 bh.nd (bN ah))
   (ag (bM PassesOwn.never rfl (aZ rfl T.n_range (ae (pv 1) ah)) (cJ 5 bh.nd) (ag (ay 6 bh.nd (an.c M (ae (pv 0) (ae (av b9 aj (pv 5)) ah))))
   (ag (ay 7 bh.nd (av b8 (av b9 (pv 5) (b7 ij (by rfl) T.n_int sR (ae (bO cj (av b8 (pv 6) aj) aj (aC _)) ah))) aj))
   (ag (aP (dW GZ G9 G8 aQ (bH (pv 3) aj) (ae (aD aA (by rfl) T.n_len bT (ae (pv 2) ah)) ah)))
   (ag (bG (aB cj (av b8 (av cg (pv 6) aj) aj) aj (aC _)) (ag (ay 8 bh.nd (aD aA (by rfl) T.n_len bT (ae (pv 3) ah)))
   (ag (ay 9 bh.nd (av b8 (av cg (pv 6) aj) aj))
   (ag (aP (dW GZ G9 G8 aQ (pv 3) (ae (bN (ae (aD aA (by rfl) T.n_len bT (ae (pv 2) ah)) (ae (av b9 (aD aA (by rfl) T.n_len bT (ae (pv 2) ah)) aj) ah))) ah)))
   (ag (aP (dW GZ G9 G8 aQ (pv 2) (ae (aT.c M (ae aj (ae (pv 8) (ae (pv 9) (ae (pv 6) ah))))) ah)))
   (ak (aP (dW GZ G9 G8 aQ (pv 2) (ae (aT.c M (ae (pv 8) (ae aj (ae (av dh (pv 7) (pv 9)) (ae (av cg (pv 6) aj) ah))))) ah)))))))) (ak (aP (dW GZ G9 G8 aQ (pv 2) (ae (aT.c M (ae (bH (bN (ae aj (ae aj ah))) (av b8 (av cg (pv 6) aj) aj)) (ae (bH (bN (ae aj (ae aj ah))) (av b8 (av cg (pv 6) aj) aj)) (ae (pv 7) (ae (pv 6) ah))))) ah)))))
   (fM (t2:=fanT H PL PS a n) (ag (aP (dW GZ PySem.F.slot_list_insert PySem.F.type_list_insert Ac (bH (pv 3) aj) (ae aj (ae (av iW (aD aA (by rfl) T.n_len bT (ae (pv 2) ah)) aj) ah))))
   (ak (aP (dW GZ G9 G8 aQ (pv 4) (ae (pv 7) ah))))) (λD0 S0 H0 h0=>?restt)))))))
   (fM (t2:=fanC H PL PS a n Q) (ag (ay 10 bh.nd aj)
   (ag (bM PassesOwn.never rfl (aZ rfl T.n_range (ae (pv 1) ah)) (cJ 5 bh.nd) (ak (ay 10 bh.nd (av b9 (pv 10) (b7 ij (by rfl) T.n_int sR (ae (bO jR (bH (pv 4) (pv 5)) (bH (pv 4) (av iW (pv 5) aj)) (aC _)) ah))))))
   (ak (aF (dB (ae (kN aR.mkc aR.ok (M.mono (by decide)) rfl aR.mg aR.bn .nil fR (ae (aD aA (by rfl) T.n_len bT (ae (pv 3) ah)) (ae (pv 2) (ae (pv 3) ah)))) (ae (pv 10) ah))))))) (λD0 S0 H0 h0=>?restc)))))),?_⟩
 case restc =>
  obtain⟨v5,v6,v7,v8,v9,q,pt,pb,us,xs,R,m,D,ts,ks,rfl,N,fh,aL,rl,am,hQ⟩:=h0;have ul:us.length=D.length:=fh.tk.1;have xl:xs.length=m:=by rw[fh.rx.1,aL.len]
  have bl:(((R.map λr=>bI (rpB ks r)).map V.int)).length=n:=by rw[Gu,Gu,rl]
  have ac:∀ k,k<n->((R.map λr=>bI (rpB ks r)).map V.int)[k]?=some (.int (bI (rpB ks (atR R k)))):=λk d=>by
   rw[GC,GC,(bV ∅).1];rfl
  refine⟨_,rfl,_,rfl,∅,∅,fq (n:=(n:Int).toNat) (λi O g=>∃ v5,O = [some (.ref a),some (.int (n:Int)),some (.ref q),some (.ref pt),some (.ref pb),v5,v6,v7,v8,v9,some (.int (((GW i).filter (oddR ks R)).length:Int))]/\g=H0) ⟨_,rfl,rfl⟩ ?_ ?_⟩
  .rintro i O g v ⟨v5,rfl,rfl⟩;rw[GA]at v;have e0:(0:Int)+(i:Int)=(i:Int):=IF _;rw[e0];refine⟨_,rfl,_,rfl,_,rfl,pb,_,_,_,rfl,rfl,SqL.of fh.hpb,aG (ac i v),_,rfl,_,rfl,_,_,rfl,rfl,pb,_,_,_,rfl,rfl,SqL.of fh.hpb,at_prv bl v (ac _ (cH v)),rfl,.inr ⟨_,rfl,_,_,rfl,rfl,?_⟩⟩;refine⟨some (.int (i:Int)),?_,rfl⟩;rw[CB];have:bI (oddR ks R i)=if(!decide (V.int (bI (rpB ks (atR R i)))=V.int (bI (rpB ks (atR R (prv n i))))))=true then 1 else 0:=by
    unfold oddR;rw[rl]
    cases rpB ks (atR R i)<;>cases rpB ks (atR R (prv n i))<;>rfl
   rw[this];rfl
  rintro O g ⟨v5,rfl,rfl⟩;rw[GA];have r0:0<D.length:=by
   have:=(aL.row _ (bV (k:=0) ∅).2).le
   omega
  refine⟨_,rfl,pt,xs,rfl,.inl (SqL.of fh.hpt),_,rfl,_,rfl,λx dx nx a3 bd=>?_⟩;have up:∀ b o,g b=some o->(upd (upd g dx (.own x)) x (.ins WC dx [])) b=some o:=λb o z=>by rw[ao (ax z nx),ao (ax z a3)];exact z
  refine⟨x,WC,dx,q,pt,m,us,xs,D,ts,(by rw[xl];rfl),af,cw,up _ _ fh.hq,(fh.tk.at fh.kl TL TS).mono up,up _ _ fh.hpt,fh.rx.off.mono up,aL.gr ∅,r0,∅,λfs q1 rs H' J hg hn B h3 h4=>⟨rfl,_,rfl,(by show 2<=LK;decide),λt ht=>?_⟩⟩
  have s5:Same g H':=λb o z=>h4 b o (up _ _ z) (ax z nx);have s6:=ai ht (.tup [.ref x,.int (((GW n).filter (oddR ks R)).length:Int)]);rw[hQ];exact kk t x m R D ts rs ks _ (fh.s.trans (s5.trans s6)) af ⟨⟨_,(show WebF _ PL PS WC H' x m D ts rs ks from⟨dx,fs,q1,us,J,hg,λz=>z hn,B,h3,fh.tk.mono s5⟩).mono s6 (λ_ z=>z)⟩,aL,rl,fh.kl,fh.kin,fh.kb,am⟩
 case restt =>
  obtain⟨v6,v8,v9,q,pt,pb,us,xs,R,r,i,m,D,ts,ks,rfl,N,fh,J,r1,aL,rl,b6,am,kn⟩:=h0;obtain⟨p1,x1,y1,bD⟩:=fh.row N J;have ul:us.length=D.length:=fh.tk.1;have bP:(((R.map (·.2.1)).reverse).map iV).length=i:=by rw[Gu,Jb,Gu,rl]
  refine⟨_,rfl,pt,xs,_,_,rfl,rfl,SqL.of fh.hpt,aG (j:=1) x1,.inl ⟨rfl,_,SqL.of y1⟩,_,rfl,q,us,rfl,.inl (SqL.of fh.hq),_,_,rfl,rfl,p1,_,_,_,rfl,rfl,y1,by decide,∅,ar ∅,?_⟩
  have e:(((R.map (·.2.1)).reverse.map iV).take (0:Int).toNat++V.int ((us.length:Int)-1)::((R.map (·.2.1)).reverse.map iV).drop (0:Int).toNat)=(r.2.1::(R.map (·.2.1)).reverse).map iV:=by
   rw[show(us.length:Int)-1=((r.2.1:Nat):Int) by omega];rfl
  rw[e];have a7:=bD (r.2.1::(R.map (·.2.1)).reverse);have bl:(((R.map λr=>bI (rpB ks r)).map V.int)).length=i:=by rw[Gu,Gu,rl]
  refine⟨_,rfl,.inl ⟨rfl,_,SqL.of a7.hpb⟩,_,rfl,pb,_,_,rfl,rfl,a7.hpb,ar ∅,?_⟩
  exact kn _ _ ⟨_,_,_,_,_,us,xs,R++[r],m,D,_,ks,rfl,by rw[GK];exact a7.bit N _,aL,by rw[Gx,rl];rfl,am⟩
 refine⟨(by show 0<=LK;decide),λq hq=>?_⟩
 refine⟨(by show 0<=LK;decide),λp0 a9=>⟨(by show 0<=LK;decide),λp1 aO=>⟨(by show 2<=LK;decide),λpt a6=>?_⟩⟩⟩
 refine⟨(by show 0<=LK;decide),λpb ba=>?_⟩
 have s1:=ai hq (.lst []);have s2:=s1.trans (ai a9 (.lst []));have s3:=s2.trans (ai aO (.lst []));have s4:=s3.trans (ai a6 (.lst [.ref p0,.ref p1]));have s5:=s4.trans (ai ba (.lst []));have g5:=ai ba (.lst []);have g4:=(ai a6 (.lst [.ref p0,.ref p1])).trans g5;have g3:=(ai aO (.lst [])).trans g4;have g2:=(ai a9 (.lst [])).trans g3;have nn:∀{a b:Addr}{G:Hp}{o:HO},G a=some o->G b=none->a≠b:=λJ B z=>by rw[z,B]at J;cases J
 have aI:=g2 _ _ (af (a:=q) (o:=.lst []));have bi:=g3 _ _ (af (a:=p0) (o:=.lst []));have bm:=g4 _ _ (af (a:=p1) (o:=.lst []));have bu:=g5 _ _ (af (a:=pt) (o:=.lst [.ref p0,.ref p1]));have q4:=((ai a9 (.lst [])).trans ((ai aO (.lst [])).trans (ai a6 (.lst [.ref p0,.ref p1])))) _ _ (af (a:=q) (o:=.lst []));have q3:=((ai a9 (.lst [])).trans (ai aO (.lst []))) _ _ (af (a:=q) (o:=.lst []));have p3:=(ai aO (.lst [])) _ _ (af (a:=p0) (o:=.lst []));have p4:=((ai aO (.lst [])).trans (ai a6 (.lst [.ref p0,.ref p1]))) _ _ (af (a:=p0) (o:=.lst []));have bQ:=(ai a6 (.lst [.ref p0,.ref p1])) _ _ (af (a:=p1) (o:=.lst []));have N:FnN H q pt pb:=⟨nn q3 a6,nn q4 ba,nn (af (a:=pt) (o:=.lst [.ref p0,.ref p1])) ba,hq,none_of s3 a6,none_of s4 ba⟩;have n0:¬ FnS H q pt pb p0:=by
  rintro(z | z | z | z)
  .exact nn (af (a:=q) (o:=.lst [])) a9 z.symm
  .exact nn p3 a6 z
  .exact nn p4 ba z
  .exact z (none_of s1 a9)
 have bR:¬ FnS H q pt pb p1:=by
  rintro(z | z | z | z)
  .exact nn ((ai a9 (.lst [])) _ _ (af (a:=q) (o:=.lst []))) aO z.symm
  .exact nn (af (a:=p1) (o:=.lst [])) a6 z
  .exact nn bQ ba z
  .exact z (none_of s2 aO)
 have bv:p0≠p1:=nn (af (a:=p0) (o:=.lst [])) aO;refine⟨_,rfl,_,rfl,∅,∅,fq (n:=(n:Int).toNat) (λi O g=>FanI H PL PS a q pt pb n i O g) ⟨_,_,_,_,_,[],[.ref p0,.ref p1],[],2,[],[[],[]],[],rfl,⟨s5,aI,⟨rfl,λi e k z=>by simp at z⟩,rfl,(λk z=>nomatch z),(λk z=>nomatch z),bu,⟨rfl,λi l z=>?_⟩,λi j p z1 z2=>?_,af⟩,AV,rfl,by decide⟩ ?_ ?_⟩
 .match i,z with
  |0,z=>cases z;exact⟨p0,rfl,n0,bi⟩
  |1,z=>cases z;exact⟨p1,rfl,bR,bm⟩
  |i+2,z=>cases z
 .match i,z1,j,z2 with
  |0,z1,0,z2=>rfl
  |1,z1,1,z2=>rfl
  |0,z1,1,z2=>cases z1;cases z2;exact Nh rfl bv
  |1,z1,0,z2=>cases z1;cases z2;exact Nh rfl bv
  |i+2,z1,_,_=>cases z1
  |0,_,j+2,z2=>cases z2
  |1,_,j+2,z2=>cases z2
 .rintro i O g v ⟨v5,v6,v7,v8,v9,us,xs,R,m,D,ts,ks,rfl,fh,aL,rl,am⟩;rw[GA]at v;have e0:(0:Int)+(i:Int)=(i:Int):=IF _;rw[e0];have ul:us.length=D.length:=fh.tk.1;have xl:xs.length=m:=by rw[fh.rx.1,aL.len]
  obtain⟨bx,x0,y0,bU⟩:=fh.row N aL.t0;have bP:((R.map (·.1)).map iV).length=i:=by rw[Gu,Gu,rl]
  refine⟨_,rfl,_,rfl,_,_,rfl,rfl,a,2+i,ns,(by show _ = [V.ref a,V.int ((2+i:Nat):Int)];rw[Ll];rfl),fh.s.seq hS,?_⟩
  generalize gq ns (2+i)=c;refine⟨_,rfl,_,rfl,_,_,rfl,rfl,(by decide:(0:Int)<5),rfl,.inr ⟨_,rfl,_,_,rfl,rfl,_,_,rfl,rfl,(by decide:(0:Int)<2),?_⟩⟩
  show kc 7 (V.int (((i:Int)+(if decide (V.int (c%5)=V.int 1)=true then 1 else 0))%2)) _ _ _;have be:((i:Int)+(if decide (V.int (c%5)=V.int 1)=true then 1 else 0))%2=0∨((i:Int)+(if decide (V.int (c%5)=V.int 1)=true then 1 else 0))%2=1:=by omega
  generalize ((i:Int)+(if decide (V.int (c%5)=V.int 1)=true then 1 else 0))%2=u at be ⊢;have a1:∀ x:Int,0<=stC x/\stC x<=10^(30:Int).toNat:=λx=>⟨JC _ (by decide),by have:=J1 (x/60) (show(0:Int)<10^(30:Int).toNat+1 by decide);unfold stC;omega⟩
  have bo:∀ k2:Kn,(R.map λr=>bI (rpB (ks++k2) r))=R.map λr=>bI (rpB ks r):=λk2=>Ja λr M=>by
   have:=(aL.row r M).le;rw[rp_app (by rw[fh.kl];omega) (by rw[fh.kl];omega)]
  refine⟨_,rfl,pt,xs,_,_,rfl,rfl,SqL.of fh.hpt,aG (j:=0) x0,.inl ⟨rfl,_,SqL.of y0⟩,_,rfl,q,us,rfl,.inl (SqL.of fh.hq),bx,_,_,rfl,rfl,y0,ar ∅,?_⟩
  have e1:((R.map (·.1)).map iV++[V.int (us.length:Int)])=((R.map (·.1))++[D.length]).map iV:=by rw[ul,GK];rfl
  rw[e1];have a5:=bU (R.map (·.1)++[D.length]);have bB:(ts.set 0 (R.map (·.1)++[D.length]))[1]?=some (R.map (·.2.1)).reverse:=by rw[HI (by decide)];exact aL.t1
  have kl:=fh.kl;have m2:2<=m:=by
   have:=(Gn.mp aL.t1).1;rw[aL.len]at this;omega
  generalize upd g bx (.lst ((R.map (·.1)++[D.length]).map iV))=H3 at a5 ⊢;refine⟨_,rfl,_,_,rfl,rfl,⟨by decide,by decide⟩,_,_,rfl,rfl,(by decide:(0:Int)<3),rfl,_,rfl,ite2 (λz=>?_) (λz=>?_)⟩
  .refine⟨_,rfl,pt,xs,rfl,.inl (SqL.of a5.hpt),?_⟩;refine⟨_,rfl,_,_,rfl,rfl,⟨by decide,by decide⟩,_,_,rfl,rfl,(by decide:(0:Int)<2),?_⟩
   show kc 9 (V.int (c/15%2)) _ _ _;have bb:c/15%2=0∨c/15%2=1:=by omega
   generalize c/15%2=b at bb ⊢;refine⟨_,rfl,.inl ⟨rfl,_,SqL.of a5.hpt⟩,_,rfl,q,us,rfl,.inl (SqL.of a5.hq),_,rfl,q,us,rfl,.inl (SqL.of a5.hq),_,_,rfl,rfl,(by show 2<=LK;decide),λpn a0=>⟨pt,xs,_,rfl,rfl,ai a0 _ _ _ a5.hpt,ar (by have:=aL.cnt;omega),?_⟩⟩
   have a7:=a5.add N (l:=[D.length,D.length+1]) a0;have e2 : [V.int (us.length:Int),V.int ((us.length:Int)+1)] = [D.length,D.length+1].map iV:=by rw[ul];rfl
   rw[e2];generalize upd (upd H3 pn (.lst ([D.length,D.length+1].map iV))) pt (.lst (xs++[.ref pn]))=H4 at a7 ⊢;have mm:=aL.cnt;refine⟨_,rfl,.inl ⟨rfl,_,SqL.of a7.hq⟩,_,rfl,_,rfl,_,rfl,0,m,b,c,(by rw[xl];rfl),∅,λx dx H5 s5 L=>⟨q,us,_,rfl,rfl,s5 _ _ a7.hq,ar ∅,?_⟩⟩
   have a2:=a7.tie N (e:=(0,m)) (k:=(b,stC c)) s5 L bb (a1 c);generalize upd H5 q (.lst (us++[.ref x]))=H6 at a2 ⊢;refine⟨_,rfl,.inl ⟨rfl,_,SqL.of a2.hq⟩,_,rfl,_,rfl,_,rfl,_,_,rfl,rfl,_,rfl,_,_,rfl,rfl,⟨by decide,by decide⟩,m,1,Mc u b,c/7,(by rw[xl];rfl),∅,λx' ap H7 s7 a4=>⟨q,us++[.ref x],_,rfl,rfl,s7 _ _ a2.hq,ar (by rw[Gx,GO];omega),?_⟩⟩
   have bY:Mc u b=0∨Mc u b=1:=by
    rcases be with z | z<;>rcases bb with z' | z'<;>rw[z,z']<;>decide
   have aS:=a2.tie N (e:=(m,1)) (k:=(Mc u b,stC (c/7))) s7 a4 bY (a1 _);have rp:bI (rpB (ks++[(b,stC c)]++[(Mc u b,stC (c/7))]) (D.length,D.length+1,m))=u:=by
    unfold rpB;rw[Ng (by show ¬ D.length+1=D.length;omega),kK (k:=(b,stC c)) (by show(ks++[(b,stC c)]++[(Mc u b,stC (c/7))])[D.length]?=_;rw[Ib,← kl,Gz (Gy _),Hl];rfl),kK (k:=(Mc u b,stC (c/7))) (by show(ks++[(b,stC c)]++[(Mc u b,stC (c/7))])[D.length+1]?=_;rw[Ib,← kl,Gz ∅,show ks.length+1-ks.length=1 by omega];rfl)]
    show bI (decide (b=1) ^^ decide (Mc u b=1))=u;rcases be with z | z<;>rcases bb with z' | z'<;>rw[z,z']<;>decide
   have bZ:(R.map λr=>bI (rpB (ks++[(b,stC c)]++[(Mc u b,stC (c/7))]) r))=R.map λr=>bI (rpB ks r):=by rw[Ib];exact bo _
   refine⟨_,_,_,q,pt,pb,_,_,R,(D.length,D.length+1,m),i,m+1,_,_,_,by rw[rp];rfl,N,by rw[bZ];exact aS,?_,by rw[Gx,Gx];rfl,aL.snoc2,rl,∅,by rw[Gx,Gx];show D.length+1+1<=_;omega,λal H' z=>z⟩
   have:1<ts.length:=(Gn.mp aL.t1).1;rw[GB (by rw[Hx];exact this)]
   exact bB
  .obtain⟨e,he,i1,i2⟩:∃ e:Nat×Nat,(e=(0,1)∨e=(1,0))/\atI [V.int 0,V.int 1] (c/15%2)=some (.int (e.1:Int))/\atI [V.int 1,V.int 0] (c/15%2)=some (.int (e.2:Int)):=by
    have bb:c/15%2=0∨c/15%2=1:=by omega
    rcases bb with z | z<;>rw[z]
    .exact⟨(0,1),.inl rfl,rfl,rfl⟩
    .exact⟨(1,0),.inr rfl,rfl,rfl⟩
   refine⟨_,rfl,.inl ⟨rfl,_,SqL.of a5.hq⟩,(by show 2<=LK;decide),λq8 bg=>⟨_,rfl,_,_,rfl,rfl,⟨by decide,by decide⟩,_,_,rfl,rfl,(by decide:(0:Int)<2),q8,_,_,_,rfl,rfl,SqL.of af,i1,(by show 2<=LK;decide),λq9 b0=>⟨_,rfl,_,_,rfl,rfl,⟨by decide,by decide⟩,_,_,rfl,rfl,(by decide:(0:Int)<2),q9,_,_,_,rfl,rfl,SqL.of af,i2,_,rfl,_,rfl,e.1,e.2,u,c,rfl,by rcases he with y | y<;>rw[y]<;>decide,λx dx H5 s5 L=>?_⟩⟩⟩
   have s8:=(ai bg (.lst [V.int 0,V.int 1])).trans ((ai b0 (.lst [V.int 1,V.int 0])).trans s5);have a2:=a5.tie N (e:=e) (k:=(u,stC c)) s8 L be (a1 c);refine⟨q,us,_,rfl,rfl,s8 _ _ a5.hq,ar ∅,?_⟩
   have rp:bI (rpB (ks++[(u,stC c)]) (D.length,D.length,0))=u:=by
    unfold rpB;rw[Nf rfl,kK (k:=(u,stC c)) (by show(ks++[(u,stC c)])[D.length]?=_;rw[← kl,Gz (Gy _),Hl];rfl)]
    show bI (decide (u=1) ^^ false)=u;rcases be with z | z<;>rw[z]<;>decide
   exact⟨_,_,_,q,pt,pb,_,_,R,(D.length,D.length,0),i,m,_,_,_,by rw[rp];rfl,N,by rw[bo];exact a2,bB,by rw[Gx];rfl,aL.snoc1 he,rl,∅,by rw[Gx];show D.length+1<=_;omega,λal H' z=>z⟩
 .rintro O g ⟨v5,v6,v7,v8,v9,us,xs,R,m,D,ts,ks,rfl,fh,aL,rl,am⟩;rw[GA]at rl am;exact⟨_,_,_,_,_,q,pt,pb,us,xs,R,m,D,ts,ks,rfl,N,fh,aL,rl,am,rfl⟩
structure IsC(K:Gw)(PL PS:Addr):Prop where
 hL:GY K (.ref PL) "__class__" = some (some (.builtin "object.__class__"))
 hS:GY K (.ref PS) "__class__" = some (some (.builtin "object.__class__"))
 hn:Kc K (.builtin "object.__class__") "__get__" = some (some (.builtin "getset_descriptor.__get__"))
 htk:Ko K (.builtin "object.__class__")=some true
 mL:HV K PL (.type "object")=some true
 mS:HV K PS (.type "object")=some true
 ls:HG K (.ref PL) (.ref PS)=some false
 ss:HG K (.ref PS) (.ref PS)=some true
structure TxtI(mg:Str->Option Value)(PS:Addr):Prop extends Txt mg where
 g_Push:mg "Push" = some (.ref PS)
inductive DT(PL PS WC:Addr)(vs:List L2.V)(H:L2.Hp)(Q:L2.VK)(x3_:L2.XK):Prop
 |mk (p:Addr)(es:En)(ks:Kn)(L:Nat) (h0_:vs = [.ref p,.int (L:Int)])(h1_:WebAt PL PS WC H p es ks)(h2_:(∀ k∈ks,k.1=0∨k.1=1))(h3_:Q (.int (wor es ks L)) H)
theorem de:aw ["web","laying","found","tie","unlike"] ["web","laying"] (aq i8):=by ac_nf
theorem Ff{PS:Addr} (F:Fun K "_law_worth" "_law_worth" i8 f fd) (T:TxtI mg PS) (IC:IsC K PL PS) (N:CW K a) (c:CT K PL) (TS:CT K PS):FnOk P w K mg base CX0 1 f fd ["web","laying"] (DT PL PS a):=by
 refine F.ok de (by walk_at "l") λd A I s H Y Q E B h=>?_
 obtain⟨p,es,u,L,rfl,⟨⟨n,fs,t,xs,j,ac,g,l⟩,kl,b⟩,ab,y⟩:=h;have al:xs.length=es.length:=l.1
 refine⟨_,(ag (ay 2 de.nd aj)
   (ag (bM PassesOwn.never rfl (aU (a8 (pv 0) rfl)) (cJ 3 de.nd) (ag (ay 4 de.nd (av gM (av dh (av eG (pv 1) (a8 (pv 3) rfl)) (av eG (pv 1) (a8 (pv 3) rfl))) aj))
   (ak (bG (aB jR (pv 4) (b7 ij (by rfl) T.n_int sR (ae (aD wX (by rfl) T.n_isinstance bX (ae (pv 3) (ae (m6 (v:=.ref _) rfl T.g_Push rfl) ah))) ah)) (aC _)) (ak (ay 2 de.nd (av b9 (pv 2) (a8 (pv 3) rfl)))) aJ))))
   (ak (aF (pv 2))))),?_⟩
 refine⟨_,rfl,p,a,n,fs,_,rfl,j,N.cl,N.n2,ac,t,rfl,⟨_,SqL.of g⟩,cf (xs:=xs) (λi O J=>J=H/\∃ v3 v4,O = [some (.ref p),some (.int (L:Int)),some (.int (prL u (UB es u L) i).sum),v3,v4]) ⟨rfl,_,_,rfl⟩ (λi O J _ z=>by rw[z.1];exact SqL.of g) ?_ ?_⟩
 .rintro i x O J D ⟨rfl,v3,v4,rfl⟩;have o:i<es.length:=by rw[← l.1];exact(Gn.mp D).1
  obtain⟨e,r⟩:∃ e,es[i]?=some e:=⟨_,Gs o⟩;obtain⟨k,G⟩:∃ k,u[i]?=some k:=⟨_,Gs ∅⟩
  obtain⟨M,aa,m,q⟩:=l.2 i e k r G;rw[D]at m
  cases m
  obtain⟨C,am,CC,fc,mc,k1⟩:∃ C:Addr,J M=some (.ins C aa (tf (e.1:Int) (e.2:Int) k.2))/\CT K C/\GY K (.ref C) "__class__" = some (some (.builtin "object.__class__"))/\HV K C (.type "object")=some true/\HG K (.ref C) (.ref PS)=some (decide (k.1=1)):=by
   by_cases z:k.1=1
   .rw[Mq z]at q ⊢;exact⟨PS,q,TS,IC.hS,IC.mS,IC.ss⟩
   .rw[LJ z]at q ⊢;exact⟨PL,q,c,IC.hL,IC.mL,IC.ls⟩
  have ty:=TyOf.ins am CC.cl fc IC.hn IC.htk mc;refine⟨_,rfl,_,rfl,M,C,aa,_,_,rfl,am,CC.cl,CC.n1,iT _ _ _,_,_,rfl,rfl,∅,?_⟩
  refine⟨_,rfl,_,rfl,M,C,aa,_,_,rfl,am,CC.cl,CC.n2,mJ _ _ _,_,_,rfl,rfl,∅,?_⟩
  refine⟨_,_,rfl,rfl,_,_,rfl,rfl,?_⟩;refine⟨_,rfl,_,rfl,_,_,_,_,_,rfl,ty,Or.inr ⟨_,rfl,rfl⟩,k1,.inr ⟨_,rfl,rfl,_,rfl,?_⟩⟩;have eq:=U_nat (es:=es) kl ab L i;rw[U_at r G]at eq;unfold unp bit at eq;rw[← tG]at eq;have st:stg u i=k.2:=by unfold stg;rw[G]
  rw[l8,IK,HH,JK,Jn,← eq,st];refine ite2 (λz=>?_) (λz=>?_)
  .rw[Nf z];exact⟨_,rfl,_,rfl,M,C,aa,_,_,rfl,am,CC.cl,CC.n3,DN _ _ _,_,_,rfl,rfl,rfl,_,_,rfl⟩
  .rw[Ng z,Jn];exact⟨rfl,_,_,rfl⟩
 .rintro O J ⟨rfl,v3,v4,rfl⟩;rw[al];exact⟨_,rfl,y⟩
def esA(n:Nat):En:=GH n (0,1)
def ksA(n:Nat)(s:Int):Kn:=(GW n).map λk=>(((k%2:Nat):Int),s)
def rwA(n:Nat):List Rw:=(GW n).map λk=>(k,k,0)
def ppA(n:Nat)(s:Int)(a:Nat)(d:Int):List KF.Pr:=(GW n).map λk=>(((2^k:Nat):Int),s+if k=a then d else 0)
theorem Au{t:Nat}{s:Int}(h:t<n):(ksA n s)[t]?=some (((t%2:Nat):Int),s):=by unfold ksA;rw[GC,HZ h];rfl
theorem esA_at{t:Nat}(h:t<n):(esA n)[t]?=some (0,1):=by unfold esA;rw[Ia,Nf h]
theorem pushA{t:Nat}{s:Int}(h:t<n):aN (ksA n s) t=decide (t%2=1):=by
 rw[kK (Au h)];exact decide_eq_decide.mpr (by show((t%2:Nat):Int)=1↔_;omega)
theorem uF(n:Nat)(s:Int):(ksA n s).length=n:=by unfold ksA;rw[Gu,Hc]
theorem eh(n:Nat):(esA n).length=n:=Im
theorem fanA:∀ n,Fan (rwA n) 2 (esA n) [GW n,(GW n).reverse]
 |0=>AV
 |n+1=>by
  have h:=(fanA n).snoc1 (.inl rfl);have O:(rwA n).map (·.1)=GW n:=by unfold rwA;rw[IU];exact List.map_id' _
  have f:(rwA n).map (·.2.1)=GW n:=by unfold rwA;rw[IU];exact List.map_id' _
  rw[O,f,eh]at h;have G:rwA (n+1)=rwA n++[(n,n,0)]:=by unfold rwA;rw[ID,GK];rfl
  have E:esA (n+1)=esA n++[(0,1)]:=IH;rw[G,E,ID,List.reverse_append];exact h
theorem worA(s:Int)(N L:Nat):∀ h,2*h<=N->(prL (ksA N s) (UB (esA N) (ksA N s) L) (2*h)).sum=(h:Int)*s
 |0,_=>by rw[show((0:Nat):Int)*s=0 by simp];rfl
 |h+1,k=>by
  have D:=worA s N L h ∅
  have u:∀ t,t<N->UB (esA N) (ksA N s) L t=(L.testBit 0 ^^ L.testBit 1 ^^ decide (t%2=1)):=λt n=>by rw[Gj (esA_at n),pushA n]
  have st:∀ t,t<N->stg (ksA N s) t=s:=λt n=>by unfold stg;rw[Au n]
  rw[show 2*(h+1)=2*h+1+1 by omega,l8,l8,IK,IK,D,u _ ∅,u _ ∅,st _ ∅,st _ ∅,LJ (show ¬ 2*h%2=1 by omega),Mq (show(2*h+1)%2=1 by omega),HH,HH,JK,Ll,Int.add_mul]
  cases L.testBit 0<;>cases L.testBit 1<;>simp<;>omega
theorem oddA{h k:Nat}{s:Int}(G:k<2*h):oddR (ksA (2*h) s) (rwA (2*h)) k=true:=by
 have a:(rwA (2*h)).length=2*h:=by unfold rwA;rw[Gu,Hc]
 have b:∀ j,j<2*h->rpB (ksA (2*h) s) (atR (rwA (2*h)) j)=decide (j%2=1):=λj B=>by
  have:atR (rwA (2*h)) j=(j,j,0):=by unfold atR rwA;rw[GC,HZ B];rfl
  rw[this];unfold rpB;rw[Nf rfl,IB];exact pushA B
 unfold oddR;rw[a,b k G,b _ (cH G)];unfold prv;split
 .rename_i z;subst z;rw[Mq (show(2*h-1)%2=1 by omega)];rfl
 .by_cases c:k%2=1
  .rw[Mq c,LJ (show ¬ (k-1)%2=1 by omega)];rfl
  .rw[LJ c,Mq (show(k-1)%2=1 by omega)];rfl
theorem AS(lt:mk<2^n)(h:(KF.bl mk).length=n){k:Nat}(G:k<n):mk.testBit k=true:=by
 refine Decidable.byContradiction λz=>?_;have d:k∉KF.bl mk:=λy=>z (KF.mem_bl.mp y);have:=d7 (a:=k::KF.bl mk) (N:=n) (Hj.mpr ⟨d,KF.bl_nd _⟩) λx L=>by
  rcases GG.mp L with y | y
  .rw[y];exact G
  .refine Decidable.byContradiction λc=>?_;have:=KF.mem_bl.mp y;rw[JE (Hg lt (HC (by decide) ∅))]at this
   cases this
 rw[GX,h]at this;omega
theorem wq(s d:Int)(a:Nat):∀ n,((ppA n s a d).map (·.2)).sum=(n:Int)*s+if a<n then d else 0
 |0=>by simp[ppA]
 |n+1=>by
  have e:ppA (n+1) s a d=ppA n s a d++[(((2^n:Nat):Int),s+if n=a then d else 0)]:=by unfold ppA;rw[ID,GK];rfl
  rw[e,GK,IK,wq s d a n,G7,JL,HH,JK,Ll,Int.add_mul];by_cases c:a<n
  .rw[Nf c,Ng (show ¬ n=a by omega),Nf (show a<n+1 by omega)];omega
  .rw[Ng c];by_cases c2:n=a
   .rw[Nf c2,Nf (show a<n+1 by omega)];omega
   .rw[Ng c2,Ng (show ¬ a<n+1 by omega)];omega
theorem zD{s:Int}(m:0<=s)(a b:Nat):∀ n,KF.paidF (ppA n s 0 0) a b<=(if a<n then s else 0)+(if b<n then s else 0)
 |0=>by simp[ppA,KF.paidF]
 |n+1=>by
  have e:ppA (n+1) s 0 0=ppA n s 0 0++[(((2^n:Nat):Int),s)]:=by unfold ppA;rw[ID,GK,G7,JL,ite_self,Jn]
  have D:=zD m a b n;unfold KF.paidF at D ⊢;rw[e,Ji,GK,IK];have t:KF.pT a b (((2^n:Nat):Int),s)=true->n=a∨n=b:=λh=>by
   have h:=MZ h;rw[tG]at h;have b1:=bitN (2^n) a;have b2:=bitN (2^n) b;unfold bit at b1 b2;rw[Hf]at b1 b2;refine Decidable.byContradiction λz=>?_;rw[LJ (λy=>z (.inl y))]at b1;rw[LJ (λy=>z (.inr y))]at b2;rw[show(((2^n:Nat):Int),s).1=((2^n:Nat):Int) from rfl,b1,b2]at h;exact Nh h (by decide)
  by_cases c:KF.pT a b (((2^n:Nat):Int),s)=true
  .rw[Jz c,Li,G7,JL,HH,JK];show _+(s+0)<=_;have u:(if a<n then s else 0)<=if a<n+1 then s else 0:=by split<;>split<;>omega
   have b1:(if b<n then s else 0)<=if b<n+1 then s else 0:=by split<;>split<;>omega
   rcases t c with z | z
   .rw[Ng (show ¬ a<n by omega)]at D
    rw[Nf (show a<n+1 by omega)]
    omega
   .rw[Ng (show ¬ b<n by omega)]at D
    rw[Nf (show b<n+1 by omega)]
    omega
  .rw[JA c,Li,JL,JK];have u:(if a<n then s else 0)<=if a<n+1 then s else 0:=by split<;>split<;>omega
   have b1:(if b<n then s else 0)<=if b<n+1 then s else 0:=by split<;>split<;>omega
   omega
theorem bl_pow(k:Nat):(KF.bl (2^k)).length=1:=by
 have:(KF.bl (2^k)).Perm [k]:=(Ic (KF.bl_nd _) (by simp)).mpr λx=>by
  rw[KF.mem_bl,Hf,decide_eq_true_iff,GJ];exact⟨Eq.symm,Eq.symm⟩
 rw[this.length_eq];rfl
theorem dueA{h:Nat}{s:Int}(s1:1<=s)(f:ts = [GW (2*h),(GW (2*h)).reverse])(O:Oth 2 (esA (2*h)) ts (ksA (2*h) s) rs ls)(J:1<=h):dueB rs.length (KF.oddE ls (MK (aN (ksA (2*h) s)) (esA (2*h)).length) (esA (2*h)).length) ls (ppA (2*h) s 0 0)=true:=by
 have E:=fanA (2*h);have cnt:=dS O.g O.ro;rw[eh]at cnt;have a:rs.length=2*h:=by omega
 have b:=(f▸E:Fan (rwA (2*h)) 2 (esA (2*h)) ts).rgh (ks:=ksA (2*h) s) O.ro;have o:(rwA (2*h)).length=2*h:=by unfold rwA;rw[Gu,Hc]
 rw[o,List.filter_eq_self.mpr (λk G=>oddA (Hk.mp G)),Hc]at b;unfold rgh at b;rw[O.d.marks]at b;have lt:=(O.even1 (by have:=O.few;rw[eh]at this;omega)).1
 rw[a]at lt;generalize KF.oddE ls (MK (aN (ksA (2*h) s)) (esA (2*h)).length) (esA (2*h)).length=mk at b lt ⊢;unfold dueB;rw[JP,JO,JO];refine⟨λp j=>?_,λl C=>?_⟩
 .obtain⟨k,G,rfl⟩:=Hn.mp j;have G:=Hk.mp G;have n:=AS lt b G;have e:2^k&&&mk=2^k:=HD λi=>by
   rw[Jk,Hf];by_cases c:k=i
   .subst c;rw[n];simp
   .rw[LJ c];rfl
  unfold KF.cB;rw[ite_self,Jn];show(decide (0<=((2^k:Nat):Int))&&(decide (((2^k:Nat):Int)/2^((rs.length:Nat):Int).toNat=0)&&(decide ((KF.bl (((2^k:Nat):Int).toNat&&&mk)).length%2=1)&&decide (1<=s))))=true
  rw[GA,GA,e,bl_pow,Mq (IV _),Mq s1,Mq (show((2^k:Nat):Int)/2^rs.length=0 from by
   rw[show((2:Int)^rs.length)=((2^rs.length:Nat):Int) by push_cast;rfl,← Lc,Nat.div_eq_of_lt (Hz (by decide) ∅)];rfl)]
  rfl
 .obtain⟨i,T⟩:=HE C;obtain⟨k,G,e,_⟩:=O.ws i l T;have m:=(Gn.mp G).1;rw[uF]at m;rw[Au m]at G
  cases G
  unfold KF.lB;refine Mq ?_;have:=zD (show 0<=s by omega) l.1 l.2.1 (2*h)
  rw[e];show _<=2*s;have u:(if l.1<2*h then s else 0)<=s:=by split<;>omega
  have b1:(if l.2.1<2*h then s else 0)<=s:=by split<;>omega
  omega
theorem Ea:OpR X (LU .Is) (λx y H Q=>∃ b c,x=.bl b/\y=.bl c/\Q (.bl (b == c)) H):=by
 intro B s O H x y v u Q I d D h;obtain⟨b,c,rfl,rfl,q⟩:=h
 cases d
 cases D
 exact PyProof.Rows.is_bool (aX I q rfl)
theorem Fc:OpR X (LU .IsNot) (λx y H Q=>∃ b c,x=.bl b/\y=.bl c/\Q (.bl (b != c)) H):=by
 intro B s O H x y v u Q I d D h;obtain⟨b,c,rfl,rfl,q⟩:=h
 cases d
 cases D
 exact PyProof.Rows.isnot_bool (aX I q rfl)
theorem CS{R:Hp->V->α->Prop}{as bs:List α}(h:LsAt R H xs as)(g:LsAt R H ys bs):LsAt R H (xs++ys) (as++bs):=by
 refine⟨by rw[Gx,Gx,h.1,g.1],λi x e=>?_⟩
 by_cases c:i<as.length
 .rw[GB c]at e;obtain⟨y,a,b⟩:=h.2 i x e;exact⟨y,by rw[GB (by rw[h.1];exact c)];exact a,b⟩
 .rw[Gz ∅]at e
  obtain⟨y,a,b⟩:=g.2 _ x e;exact⟨y,by rw[Gz (by rw[h.1];omega),h.1];exact a,b⟩
theorem Aj{R:Hp->V->α->Prop}{as:List α}(h:LsAt R H xs as)(k:Nat):LsAt R H (xs.take k) (as.take k):=by
 refine⟨by rw[Hs,Hs,h.1],λi x e=>?_⟩
 rw[List.getElem?_take]at e ⊢;split at e
 .rename_i z;obtain⟨y,a,b⟩:=h.2 i x e;exact⟨y,by rw[Nf z];exact a,b⟩
 .cases e
theorem Ak{R:Hp->V->α->Prop}{as:List α}(h:LsAt R H xs as)(k:Nat):LsAt R H (xs.drop k) (as.drop k):=by
 refine⟨by rw[Iv,Iv,h.1],λi x e=>?_⟩
 rw[KR]at e ⊢;exact h.2 _ x e
theorem dY{as:List KF.Pr}(h:LsAt KF.PrAt H xs as)(s:Same H H'):LsAt KF.PrAt H' xs as:=h.imp λ_ _ z=>z.mono s
theorem DC{k:Nat}(h:k<=xs.length):cutV xs none (some (k:Int))=xs.take k:=by
 unfold cutV;rw[HT.sIx_nat xs.length xs.length k];show(xs.drop 0).take (min k xs.length-0)=_;rw[List.drop_zero,Nat.sub_zero,Kt h]
theorem DE{k:Nat}(h:k<=xs.length):cutV xs (some (k:Int)) none=xs.drop k:=by
 unfold cutV;rw[HT.sIx_nat xs.length 0 k];show(xs.drop (min k xs.length)).take (xs.length-min k xs.length)=_;rw[Kt h];exact Jh (by rw[Iv];exact Gy _)
theorem zC(n:Nat)(s d:Int)(a:Nat):ppA (n+1) s a d=ppA n s a d++[(((2^n:Nat):Int),s+if n=a then d else 0)]:=by unfold ppA;rw[ID,GK];rfl
theorem ox(n:Nat)(s d:Int)(a:Nat):(ppA n s a d).length=n:=by unfold ppA;rw[Gu,Hc]
theorem F8{l:List KF.Pr}{x:KF.Pr}(h:l[i]?=some x):((l.take i++l.drop (i+1)).map (·.2)).sum=(l.map (·.2)).sum-x.2:=by
 have m:=(Gn.mp h).1;have e:l=l.take i++(x::l.drop (i+1)):=by
  have:=Jl i l;rw[Ka m,(Gn.mp h).2]at this;exact this.symm
 have f:(l.map (·.2)).sum=((l.take i++(x::l.drop (i+1))).map (·.2)).sum:=by rw[← e]
 rw[f,GK,GK,IK,IK,G7,HH];omega
theorem WebL.mono{TT PL PS G:Addr}{H H':Hp}{p m:Nat}{es:En}{ts rs:List (List Nat)}{ks:Kn}(h:WebL TT PL PS G H p m es ts rs ks)(s:Same H H'):WebL TT PL PS G H' p m es ts rs ks:=by
 obtain⟨⟨S,i⟩,a,b,c,d,e,f,g⟩:=h;exact⟨⟨S,i.mono s (λ_ z=>z)⟩,a,b,c,d,e,f,KF.tb_same g s⟩
structure TxtV(mg:Str->Option Value):Prop extends Txt mg where
 n_reversed:mg "reversed" = none
inductive shwR(H0:Hp)(TT PL PS WC:Addr)(n L at':Nat)(s:Int)(Q:VK)(D:L2.Ends)(σ:L2.St)(H:L2.Hp):Prop
 |mk (q qr p:Addr)(v5:Option V)(ts rs:List (List Nat)) (h0_:σ = [some (.int (n:Int)),some (.int s),some (.int (L:Int)),some (.int (at':Int)),some (.ref q),v5,some (.ref qr),some (.ref p),none,none])(h1_:Same H0 H)(h2_:ts = [GW n,(GW n).reverse])(h3_:WebL TT PL PS WC H p 2 (esA n) ts rs (ksA n s))(h4_:D.rt=Q)
inductive yK(TT:Addr)(vs:List L2.V)(H:L2.Hp)(Q:L2.VK)(x3_:L2.XK):Prop
 |mk (h L at':Nat)(s:Int) (h0_:vs = [.int ((2*h:Nat):Int),.int s,.int (L:Int),.int (at':Int)])(h1_:1<=h)(h2_:h<=12)(h3_:at'<2*h)(h4_:1<=s)(h5_:s<=10^(30:Int).toNat)(h6_:Tb KF.lqF KF.lpF TT H)(h7_:∀ H',Same H H'->Q (.bl true) H')
theorem bK:aw ["rows","strength","laying","at","ties","k","row","web","paper","more"] ["rows","strength","laying","at"] (aq i9):=by ac_nf
theorem Cr{TT PS WC fW:Addr}{d1:FuncData} (F:Fun K "_law_shown" "_law_shown" i9 f fd) (T:TxtV mg) (an:Mak P w K mg base 1 "Pull" ["self","one","two","strength"] (kZ K) PL a G) (ap:Mak P w K mg base 1 "Push" ["self","one","two","strength"] (kZ K) PS a G) (TL:CT K PL) (TS:CT K PS)
  (aL:Mak P w K mg base 5 "Web" ["self","many","ties","turns"] (mO K) WC fW Y) (cw:CW K WC) (aI:Cal P w K mg base 6 "certain" ["web","laying","paper"] (vS TT PL PS WC) I d1):FnOk P w K mg base CX0 7 f fd ["rows","strength","laying","at"] (yK TT):=by
 refine F.ok bK (by walk_at "l") λab A aa s H vs Q E M h=>?_
 obtain⟨h',L,ac,s',rfl,J,a1,ha,s1,bv,tb,kk⟩:=h;obtain⟨n,hn⟩:∃ n,n=2*h':=⟨_,rfl⟩;rw[← hn]at ha ⊢
 refine⟨_,(ag (ay 4 bK.nd (bN ah))
   (ag (bM PassesOwn.never rfl (aZ rfl T.n_range (ae (pv 0) ah)) (cJ 5 bK.nd) (ak (bG (aB cj (av b8 (pv 5) aj) aj (aC _)) (ak (aP (dW GZ G9 G8 aQ (pv 4) (ae (kN ap.mkc ap.ok (M.mono (by decide)) rfl ap.mg ap.bn .nil fR (ae aj (ae aj (ae (pv 1) ah)))) ah)))) (ak (aP (dW GZ G9 G8 aQ (pv 4) (ae (kN an.mkc an.ok (M.mono (by decide)) rfl an.mg an.bn .nil fR (ae aj (ae aj (ae (pv 1) ah)))) ah)))))))
   (ag (ay 6 bK.nd (rL rfl rfl T.n_list rfl T.n_range (pv 0)))
   (ag (ay 7 bK.nd (kN aL.mkc aL.ok (M.mono (by decide)) rfl aL.mg aL.bn .nil fR (ae aj (ae (pv 4) (ae (bN (ae (pv 6) (ae (m5 rfl rfl T.n_list rfl T.n_reversed (pv 6)) ah))) ah)))))
   (fM (t2:=shwR H TT PL PS WC n L ac s' Q) (ag (mY 8 [("strength",1)] ["k"] bK.nd (aZ rfl T.n_range (ae (pv 0) ah)) pg_c pt_c (λC ex s H=>(dB (ae (av bF aj (pv 0)) (ae (pv 1) ah)))))
   (ag (bG (aB Fc (aI.c M (ae (pv 7) (ae (pv 2) (ae (b7 ig (by rfl) T.n_list kX (ae (pv 8) ah)) ah)))) lG (aC _)) (ak (aF lG)) aJ)
   (ag (mY 9 [("strength",1),("at",3)] ["k"] bK.nd (aZ rfl T.n_range (ae (pv 0) ah)) pg_c pt_c (λC ex s H=>(dB (ae (av bF aj (pv 0)) (ae (av b9 (pv 1) (b7 ij (by rfl) T.n_int sR (ae (bO cj (pv 0) (pv 2) (aC _)) ah))) ah)))))
   (ak (aF (oy (bO Ea (aI.c M (ae (pv 7) (ae (pv 2) (ae (pv 9) ah)))) lG (aC _)) (wx (bO Ea (aI.c M (ae (pv 7) (ae (pv 2) (ae (av Fd (ma oY (pv 8) pI (pH (pv 3))) (ma oY (pv 8) (pH (av b9 (pv 3) aj)) pI)) ah)))) lG (aC _))))))))) (λD0 S0 H0 h0=>?restp)))))),?_⟩
 case restp =>
  obtain⟨q,qr,p,v5,ts,rs,rfl,s0,a3,wl,hQ⟩:=h0;have wr:wor (esA n) (ksA n s') L=(h':Int)*s':=by
   unfold wor;rw[eh,hn];exact worA s' _ L h' (Gy _)
  have be:∀{ls:List KF.Lk}{r:List KF.Pr},(r.map (·.2)).sum≠(n:Int)*s'->o9 (esA n) (ksA n s') rs ls L r=false:=λ{ls r} z=>by
   unfold o9;rw[wr,LJ (λy=>z (by rw[y,hn];push_cast;rw[Int.mul_assoc])),Jr]
  refine⟨_,rfl,_,rfl,(by omega +splitDisjunctions),(by omega +splitDisjunctions),gn (λi zs N=>Same H0 N/\LsAt KF.PrAt N zs (ppA i s' 0 0)) (by rw[GA];exact G6 (ar (by omega +splitDisjunctions))) ⟨λ_ _ e=>e,LsAt.nil⟩ ?_ ?_ ?_⟩
  .rintro i zs N m ⟨s2,la⟩;rw[GA]at m;rw[IF];refine⟨rfl,yesT ⟨_,rfl,_,_,rfl,rfl,⟨∅,∅,by decide⟩,_,rfl,(by show 2<=LK;decide),λt ht=>?_⟩⟩
   have s3:=ai ht (.tup [V.int (1*2^((i:Nat):Int).toNat),.int s']);refine⟨s2.trans s3,?_⟩;rw[zC,ite_self,Jn];exact(dY la s3).snoc ⟨t,rfl,by rw[af,KF.shlN]⟩
  rotate_left 1
  .rintro i zs N ⟨_,la⟩;rw[la.1,ox];exact Gy _
  rintro zs N ⟨s2,la⟩ D hD;rw[GA]at la;have zl:zs.length=n:=by rw[la.1,ox]
  have s3:=ai hD (.lst zs);have ba:=s2.trans s3;have bb:=dY la s3;have bd:(upd N D (.lst zs)) D=some (.lst zs):=af;generalize upd N D (.lst zs)=H3 at s3 ba bb bd;refine⟨_,rfl,_,rfl,_,rfl,D,zs,rfl,.inl (SqL.of bd),λD4 a9=>?_⟩;have s4:=ai a9 (.lst zs);refine⟨p,2,esA n,ts,rs,ksA n s',L,.ref D4,ppA n s' 0 0,rfl,(wl.mono ba).mono s4,⟨D4,zs,rfl,af,dY bb s4⟩,by rw[ox];omega,λls H5 s5 O=>?_⟩
  have tr:o9 (esA n) (ksA n s') rs ls L (ppA n s' 0 0)=true:=by
   unfold o9;have du:=dueA (h:=h') (s:=s') s1 (ts:=ts) (by rw[a3,hn]) (hn▸O) J
   rw[← hn]at du;rw[du,wr,wq,ite_self,hn,Mq (by push_cast;rw[Jn,Int.mul_assoc])]
   rfl
  rw[tr];refine⟨_,_,rfl,rfl,_,rfl,iteF ?_⟩;have aT:=s4.trans s5;have bx:=aT _ _ bd;have bB:=dY bb aT;have bg:=ba.trans aT;refine⟨_,rfl,_,rfl,(by omega +splitDisjunctions),(by omega +splitDisjunctions),gn (λi ws H6=>Same H5 H6/\LsAt KF.PrAt H6 ws (ppA i s' ac 1)) (by rw[GA];exact G6 (ar (by omega +splitDisjunctions))) ⟨λ_ _ e=>e,LsAt.nil⟩ ?_ ?_ ?_⟩
  .rintro i ws H6 m ⟨s6,a2⟩;rw[GA]at m;rw[IF];refine⟨rfl,yesT ⟨_,rfl,_,_,rfl,rfl,⟨∅,∅,by decide⟩,_,rfl,_,rfl,_,rfl,rfl,.inr ⟨_,rfl,_,_,rfl,rfl,(by show 2<=LK;decide),λt ht=>?_⟩⟩⟩
   have s7:=ai ht (.tup [V.int (1*2^((i:Nat):Int).toNat),.int (s'+if decide (V.int (i:Int)=V.int (ac:Int))=true then 1 else 0)]);refine⟨s6.trans s7,?_⟩;rw[zC];refine(dY a2 s7).snoc ⟨t,rfl,?_⟩;have e:(if decide (V.int (i:Int)=V.int (ac:Int))=true then(1:Int) else 0)=if i=ac then 1 else 0:=by
    by_cases c:i=ac
    .rw[c,Mq rfl,Nf rfl,Nf rfl]
    .rw[LJ (λz=>c (by have:=V.int.inj z;omega)),Ng c,Ng (by decide)]
   rw[af,KF.shlN,e]
  rotate_left 1
  .rintro i ws H6 ⟨_,a2⟩;rw[a2.1,ox];exact Gy _
  rintro ws H6 ⟨s6,a2⟩ D7 bD;rw[GA]at a2;have s7:=ai bD (.lst ws);have aO:=s6.trans s7;refine⟨_,rfl,_,rfl,_,rfl,p,2,esA n,ts,rs,ksA n s',L,.ref D7,ppA n s' ac 1,rfl,(wl.mono bg).mono aO,⟨D7,ws,rfl,af,dY a2 s7⟩,by rw[ox];omega,λbY H8 s8 O'=>?_⟩
  rw[be (by rw[wq,Nf ha];omega)]
  refine⟨_,_,rfl,rfl,_,rfl,iteT ?_⟩;have bi:=bg.trans (aO.trans s8);have bm:=aO.trans s8;have a6:=bm _ _ bx;refine⟨_,rfl,_,rfl,_,rfl,_,rfl,_,rfl,D,zs,rfl,SqL.of a6,λq1 a0=>?_⟩;rw[DC (show ac<=zs.length by omega)]
  have g1:=ai a0 (.lst (zs.take ac));refine⟨_,rfl,_,rfl,_,_,rfl,rfl,_,rfl,D,zs,rfl,SqL.of (g1 _ _ a6),λq2 B=>?_⟩;rw[show(ac:Int)+1=((ac+1:Nat):Int) by omega,DE (show ac+1<=zs.length by omega)]
  have g2:=ai B (.lst (zs.drop (ac+1)));refine⟨q1,q2,_,_,rfl,rfl,SqL.of (g2 _ _ af),SqL.of af,(by rw[Hs,Iv];exact Hy ∅ (G6 (ar (show n<1000 by omega)))),λq3 h3=>?_⟩
  have g3:=g1.trans (g2.trans (ai h3 (.lst (zs.take ac++zs.drop (ac+1)))));have bo:=dY bB (bm.trans g3);refine⟨p,2,esA n,ts,rs,ksA n s',L,.ref q3,(ppA n s' 0 0).take ac++(ppA n s' 0 0).drop (ac+1),rfl,(wl.mono bi).mono g3,⟨q3,_,rfl,af,CS (Aj bo _) (Ak bo _)⟩,by rw[Gx,Hs,Iv,ox];omega,λbZ H9 s9 O9=>?_⟩
  have px:(ppA n s' 0 0)[ac]?=some (((2^ac:Nat):Int),s'):=by
   unfold ppA;rw[GC,HZ ha];show some (((2^ac:Nat):Int),s'+if ac=0 then 0 else 0)=_;rw[ite_self,Jn]
  rw[be (by rw[F8 px,wq,ite_self];show _-s'≠_;omega)]
  refine⟨_,_,rfl,rfl,?_⟩;rw[hQ];exact kk _ (s0.trans (bi.trans (g3.trans s9)))
 refine⟨(by show 0<=LK;decide),λq hq=>?_⟩
 have s2:=ai hq (.lst []);refine⟨_,rfl,_,rfl,(by omega +splitDisjunctions),(by omega +splitDisjunctions),fq (n:=(n:Int).toNat) (λi d N=>∃ v5 us,d = [some (.int (n:Int)),some (.int s'),some (.int (L:Int)),some (.int (ac:Int)),some (.ref q),v5,none,none,none,none]/\Same H N/\N q=some (.lst us)/\eF PL PS N us (esA i) (ksA i s')) ⟨_,[],rfl,s2,af,rfl,λi e k z=>by simp[esA]at z⟩ ?_ ?_⟩
 .rintro i d N m ⟨v5,us,rfl,s3,aR,tt⟩;rw[GA]at m;have e0:(0:Int)+(i:Int)=(i:Int):=IF _;rw[e0];have ul:us.length=i:=by rw[tt.1,eh]
  have ke:ksA (i+1) s'=ksA i s'++[(((i%2:Nat):Int),s')]:=by unfold ksA;rw[ID,GK];rfl
  have ee:esA (i+1)=esA i++[(0,1)]:=IH;have al:∀(x dx:Addr)(H':Hp),Same N H'->H' x=some (.ins (cls PL PS (decide (((i%2:Nat):Int)=1))) dx (tf 0 1 s'))->∃ v5 zs,([some (.int (n:Int)),some (.int s'),some (.int (L:Int)),some (.int (ac:Int)),some (.ref q),some (.int (i:Int)),none,none,none,none]:St) = [some (.int (n:Int)),some (.int s'),some (.int (L:Int)),some (.int (ac:Int)),some (.ref q),v5,none,none,none,none]/\Same H (upd H' q (.lst (us++[.ref x])))/\(upd H' q (.lst (us++[.ref x]))) q=some (.lst zs)/\eF PL PS (upd H' q (.lst (us++[.ref x]))) zs (esA (i+1)) (ksA (i+1) s'):=λx dx H' s4 J=>by
   refine⟨_,_,rfl,aH (s3.trans s4) hq _,af,?_⟩;rw[ke,ee];exact((tt.mono s4).snoc (e:=(0,1)) (by rw[uF,eh]) J).put (s4 _ _ aR)
  refine⟨_,rfl,_,_,rfl,rfl,(by decide:(0:Int)<2),rfl,_,rfl,ite2 (λc=>?_) (λc=>?_)⟩
  .have c':((i%2:Nat):Int)=1:=by have:=V.int.inj (MZ c);omega
   rw[Mq c']at al;refine⟨_,rfl,.inl ⟨rfl,_,SqL.of aR⟩,_,rfl,λx dx nx aS a5=>⟨x,PS,dx,0,1,_,rfl,af,TS,by decide,by decide,by decide,∅,λH' J B=>?_⟩⟩
   have s4:Same N H':=λb o z=>B b o (by rw[ao (ax z nx),ao (ax z aS)];exact z) (ax z nx)
   exact⟨rfl,q,us,_,rfl,rfl,s4 _ _ aR,ar ∅,al x dx H' s4 J⟩
  .have c':¬ ((i%2:Nat):Int)=1:=λz=>c (Mq (congrArg V.int ∅))
   rw[LJ c']at al;refine⟨_,rfl,.inl ⟨rfl,_,SqL.of aR⟩,_,rfl,λx dx nx aS a5=>⟨x,PL,dx,0,1,_,rfl,af,TL,by decide,by decide,by decide,∅,λH' J B=>?_⟩⟩
   have s4:Same N H':=λb o z=>B b o (by rw[ao (ax z nx),ao (ax z aS)];exact z) (ax z nx)
   exact⟨rfl,q,us,_,rfl,rfl,s4 _ _ aR,ar ∅,al x dx H' s4 J⟩
 rintro d N ⟨v5,us,rfl,s3,aR,tt⟩;rw[GA]at tt;refine⟨_,rfl,n,rfl,∅,λr am=>?_⟩
 have g3:=ai am (.lst ((GW n).map iV));have h3:(upd N r (.lst ((GW n).map iV))) r=some (.lst ((GW n).map iV)):=af;refine⟨_,rfl,_,rfl,_,rfl,r,_,rfl,SqL.of h3,λb4 bu=>?_⟩;have bP:((GW n).map iV).reverse=(GW n).reverse.map iV:=K9.symm;have s8:=g3.trans (ai bu (.lst ((GW n).map iV).reverse));refine⟨(by show 2<=LK;decide),λD hD x dx nx aS a5=>?_⟩
 have sD:=ai hD (.lst [.ref r,.ref b4]);have s9:=s8.trans sD;have bQ:=sD _ _ (ai bu (.lst ((GW n).map iV).reverse) _ _ h3);have bR:=sD b4 _ af;have up:∀ b o,(upd (upd (upd N r (.lst ((GW n).map iV))) b4 (.lst ((GW n).map iV).reverse)) D (.lst [.ref r,.ref b4])) b=some o->(upd (upd (upd (upd (upd N r (.lst ((GW n).map iV))) b4 (.lst ((GW n).map iV).reverse)) D (.lst [.ref r,.ref b4])) dx (.own x)) x (.ins WC dx [])) b=some o:=λb o z=>by rw[ao (ax z nx),ao (ax z aS)];exact z
 have kl:(ksA n s').length=(esA n).length:=by rw[uF,eh]
 have g:Gr 2 (esA n) [GW n,(GW n).reverse]:=(fanA n).gr (by unfold rwA;rw[Gu,Hc];omega)
 refine⟨x,WC,dx,q,D,2,us,[.ref r,.ref b4],esA n,_,rfl,af,cw,up _ _ (s9 _ _ aR),((tt.at kl TL TS).mono s9).mono up,up _ _ af,⟨rfl,λi l v=>?_⟩,g,by rw[eh];omega,by rw[eh];omega,λfs q1 rs H' a0 hg a7 B bU h4=>⟨rfl,?_⟩⟩
 .match i,v with
  |0,v=>cases v;exact⟨r,rfl,up _ _ bQ⟩
  |1,v=>cases v;exact⟨b4,rfl,by rw[← bP];exact up _ _ bR⟩
  |i+2,v=>cases v
 have a4:Same N H':=λb o z=>h4 b o (up _ _ (s9 _ _ z)) (ax (s9 _ _ z) nx);refine⟨q,r,x,_,_,rs,rfl,s3.trans a4,rfl,⟨⟨_,dx,fs,q1,us,a0,hg,λz=>z a7,B,bU,tt.mono a4⟩,g,kl,λk u=>?_,λk u=>?_,by rw[eh];omega,by rw[eh];omega,KF.tb_same tb (s3.trans a4)⟩,rfl⟩
 .obtain⟨j,_,rfl⟩:=Hn.mp u;show((j%2:Nat):Int)=0∨((j%2:Nat):Int)=1;omega
 .obtain⟨j,_,rfl⟩:=Hn.mp u;exact⟨∅,bv⟩
structure RoF(K:Gw)(TR FE OM PA:Addr):Prop where
 er:ErC K TR
 up:HV K TR (.ref FE)=some true
 kr:HG K (.ref TR) (.ref TR)=some true
 kv:HG K (.ref TR) (.type "ValueError")=some true
 km:HG K (.ref TR) (.ref OM)=some false
 kw:HG K (.ref TR) (.ref PA)=some false
structure TxtQ(mg:Str->Option Value)(TR FE OM PA:Addr):Prop extends TxtO mg TR where
 n_ValueError:mg "ValueError" = none
 g_FloorError:mg "FloorError" = some (.ref FE)
 g_OddMarks:mg "OddMarks" = some (.ref OM)
 g_Parted:mg "Parted" = some (.ref PA)
theorem qO:LO "ValueError" = some (.type "ValueError"):=by decide
def wdN(b:Bool):Str:=if b=true then "rough" else "told"
inductive wdR(H0:Hp)(TR TT:Addr)(nm:Str)(p t:Nat)(b:Bool)(Q:VK)(D:L2.Ends)(σ:L2.St)(H:L2.Hp):Prop
 |mk (v3 v4:Option V) (h0_:σ = [some (.str nm),some (.ref p),some (.int (t:Int)),v3,v4])(h1_:KF.SmT H0 H)(h2_:Tb KF.lqF KF.lpF TT H)(h3_:((b=false/\v3=some .non)∨(b=true/\∃ x:Addr,v3=some (.ref x)/\H x=some (excD x TR none))))(h4_:D.rt=Q)
inductive DS(TT PL PS WC:Addr)(vs:List L2.V)(H:L2.Hp)(Q:L2.VK)(x3_:L2.XK):Prop
 |mk (nm:Str)(p:Addr)(t m:Nat)(es:En)(ts rs:List (List Nat))(ks:Kn) (h0_:vs = [.str nm,.ref p,.int (t:Int)])(h1_:WebL TT PL PS WC H p m es ts rs ks)(h2_:rs.length+es.length<64)(h3_:t<es.length)(h4_:∀ H',KF.SmT H H'->Tb KF.lqF KF.lpF TT H'->Q (.str (wdN (decide (12<rgh ks es.length rs)))) H')
theorem fE:aw ["name","web","number","found","e"] ["name","web","number"] (aq kG):=by ac_nf
theorem Fe{FE OM PA TT PS G:Addr}{d1 d2:FuncData} (F:Fun K "_law_word" "_law_word" kG f fd) (T:TxtQ mg I FE OM PA) (aI:ExC K FE) (rf:RoF K I FE OM PA) (ab:CalD P w K mg base 13 "least" ["web"] (yQ I TT PL PS G) a d1) (ac:CalD P w K mg base 12 "roof" ["web","number"] (DV I TT PL PS G) C d2):FnOk P w K mg base CX0 14 f fd ["name","web","number"] (DS TT PL PS G):=by
 have ap:∀ x,x=I->HV K x (.ref FE)=some true:=λx e=>by subst e;exact rf.up
 refine F.ok fE (by walk_at "l") λd A O s H Y Q E j h=>?_
 obtain⟨nm,p,t,m,o,J,r,u,rfl,wl,al,l,y⟩:=h
 refine⟨_,(ag (ay 3 fE.nd lg)
   (ag (zw (ie:=4) (Cs:=(λc=>c=I)) rfl rfl rfl fE.nd rfl rfl rfl T.g_FloorError aI ap (λB XE W b=>(ak (bG (aB cj (pv 0) gL (aC _)) (ak (aP (rM ab.ok (j.mono (by decide)) rfl ab.mg ab.kp ab.bn .nil b rfl (ae (pv 1) ah)))) (ak (aP (rM ac.ok (j.mono (by decide)) rfl ac.mg ac.kp ac.bn .nil b rfl (ae (pv 1) (ae (pv 2) ah)))))))) (λv=>(ak (ay 3 fE.nd (pv 4)))))
   (fM (t2:=wdR H I TT nm p t (decide (12<rgh u o.length r)) Q) (ag (bG (aB D9 (pv 3) lg (aC _)) (ak (aF gL)) aJ)
   (ag (bG (PW.pt (zt (jQ (aD nJ (by rfl) T.n_isinstance bX (ae (pv 3) (ae (m6 (v:=.ref _) rfl T.g_OddMarks rfl) ah)))) (zt (jQ (aD nJ (by rfl) T.n_isinstance bX (ae (pv 3) (ae (m6 (v:=.ref _) rfl T.g_Parted rfl) ah)))) (we (oq (jQ (aD yn (by rfl) T.n_isinstance bX (ae (pv 3) (ae (zN (v:=.ty "ValueError") rfl T.n_ValueError qO rfl) ah))))))))) (ak (aF gL)) aJ)
   (ak (aF (bH (bN (ae gL (ae gL ah))) (b7 ij (by rfl) T.n_int sR (ae (aD nJ (by rfl) T.n_isinstance bX (ae (pv 3) (ae (m6 (v:=.ref _) rfl T.g_TooRough rfl) ah))) ah))))))) (λD0 S0 H0 i=>?restw)))),?_⟩
 case restw =>
  obtain⟨v3,v4,rfl,sm,tb,k,hQ⟩:=i;rcases k with⟨M,rfl⟩ | ⟨M,x,rfl,L⟩
  .rw[M]at y;refine⟨_,rfl,rfl,_,rfl,iteT ?_⟩;rw[hQ];exact y _ sm tb
  .rw[M]at y;refine⟨_,rfl,rfl,_,rfl,iteF ?_⟩;refine⟨_,rfl,x,I,none,OM,_,rfl,L,rf.er,rf.km,_,rfl,iteF ?_⟩;refine⟨_,rfl,x,I,none,PA,_,rfl,L,rf.er,rf.kw,_,rfl,iteF ?_⟩;refine⟨_,rfl,x,I,none,"ValueError",_,rfl,L,rf.er,rf.kv,_,rfl,iteF ?_⟩;refine⟨(by show 2<=LK;decide),λq n=>?_⟩
   have sq:=ai n (.lst [V.str "other",V.str "rough"]);refine⟨_,rfl,x,I,none,I,_,rfl,sq _ _ L,rf.er,rf.kr,.inr ⟨_,rfl,q,_,1,_,rfl,rfl,SqL.of af,rfl,?_⟩⟩;rw[hQ];exact y _ (sm.trans (.of sq)) (KF.tb_same tb sq)
 have am:∀{v4:Option V}{D:Ends},D.rt=Q->12<rgh u o.length r->∀ H1,Same H H1->Tb KF.lqF KF.lpF TT H1->∀ x,H1 x=none->wdR H I TT nm p t (decide (12<rgh u o.length r)) Q D [some (.str nm),some (.ref p),some (.int (t:Int)),some (.ref x),v4] (upd H1 x (excD x I none)):=λ{v4 D} N z H1 g aa x L=>by
  have sx:=ai L (excD x I none);exact⟨_,_,rfl,.of (g.trans sx),KF.tb_same aa sx,.inr ⟨Mq z,x,rfl,af⟩,N⟩
 have an:∀{v4:Option V}{D:Ends},D.rt=Q->rgh u o.length r<=12->∀ H1,KF.SmT H H1->Tb KF.lqF KF.lpF TT H1->wdR H I TT nm p t (decide (12<rgh u o.length r)) Q D [some (.str nm),some (.ref p),some (.int (t:Int)),some .non,v4] H1:=λ{v4 D} N z H1 g aa=>⟨_,_,rfl,g,aa,.inl ⟨LJ ∅,rfl⟩,N⟩
 refine⟨_,rfl,rfl,_,rfl,ite2 (λz=>?_) (λz=>?_)⟩
 .exact⟨_,rfl,p,m,o,J,r,u,rfl,wl,al,λz H1 g aa=>⟨I,rfl,rfl,λx L=>⟨_,rfl,am rfl z H1 g aa x L⟩⟩,λz v H1 g aa=>an rfl z H1 g aa⟩
 .exact⟨_,rfl,_,rfl,p,t,m,o,J,r,u,rfl,wl,l,λz H1 g aa=>⟨I,rfl,rfl,λx L=>⟨_,rfl,am rfl z H1 g aa x L⟩⟩,λz v H1 g aa=>an rfl z H1 g aa⟩
theorem B2{z:List V}(h:gu H z n rs)(s:KF.SmT H H'):gu H' z n rs:=⟨h.1,λi T=>by
 obtain⟨t,a,b,r,v,I,Q,d⟩:=h.2 i T
 exact⟨t,a,b,r,v,I,s.tup Q,d⟩⟩
theorem yX(s:KF.SmT H H')(h:bW H xs ts):bW H' xs ts:=⟨h.1,λi l e=>by
 obtain⟨p,a,b⟩:=h.2 i l e
 exact⟨p,a,s.lst b⟩⟩
theorem WebF.smT{S:Addr->Prop}{PS:Addr}(h:WebF S PL PS f H p m es ts rs ks)(s:KF.SmT H H'):WebF S PL PS f H' p m es ts rs ks:=by
 obtain⟨g,fs,L,N,a,⟨B,⟨q,z,b1,w,b2,b3⟩,⟨O,T,c1,c2,c3⟩,⟨Y,A,d1,d2,D⟩,pt⟩,n,c,d,e⟩:=h;have E:∀{b C d:Addr}{fs:List (Str×V)},H b=some (.ins C d fs)->H' b=some (.ins C d fs):=λz=>s _ _ (λJ y=>by cases y) z
 refine⟨g,fs,L,N,E a,⟨B,⟨q,z,b1,w,s.lst b2,b3.1,λj l y=>?_⟩,⟨O,T,c1,s.lst c2,yX s c3⟩,⟨Y,A,d1,s.lst d2,B2 D s⟩,pt⟩,n,c,s.lst d,e.1,λi x k q r=>?_⟩
 .obtain⟨r,I,Q,t⟩:=b3.2 j l y;exact⟨r,I,Q,s.lst t⟩
 .obtain⟨M,o,v,u⟩:=e.2 i x k q r;exact⟨M,o,v,E u⟩
theorem yW(s:KF.SmT H H')(h:SqL K H a xs):SqL K H' a xs:=by
 rcases h with(h | ⟨o,h⟩) | h
 .exact .inl (.inl (s _ _ (λi z=>by cases z) h))
 .exact .inl (.inr ⟨o,s _ _ (λi z=>by cases z) h⟩)
 .exact .inr h
theorem WebL.smT{TT PL PS G:Addr}{H H':Hp}{p m:Nat}{es:En}{ts rs:List (List Nat)}{ks:Kn}(h:WebL TT PL PS G H p m es ts rs ks)(s:KF.SmT H H')(tb:Tb KF.lqF KF.lpF TT H'):WebL TT PL PS G H' p m es ts rs ks:=by
 obtain⟨⟨S,i⟩,a,b,c,d,e,f,g⟩:=h;exact⟨⟨S,i.smT s⟩,a,b,c,d,e,f,tb⟩
inductive lwS(K:Gw)(TT PL PS WC a:Addr)(ns:List Int)(Q:VK)(D:L2.Ends)(σ:L2.St)(H:L2.Hp):Prop
 |mk (t p:Addr)(nb m:Nat)(es:En)(ts rs:List (List Nat))(ks:Kn)(v5:Option V) (h0_:σ = [some (.ref a),some (.ref t),some (.ref p),some (.int (nb:Int)),some (.str (wdN (decide (12<rgh ks es.length rs)))),v5,none,none,none,none])(h1_:SqL K H a (ns.map V.int))(h2_:H t=some (.tup [.ref p,.int ((rgh ks es.length rs:Nat):Int)]))(h3_:WebL TT PL PS WC H p m es ts rs ks)(h4_:rs.length+es.length<64)(h5_:nb<es.length)(h6_:D.rt=Q)
inductive oU(K:Gw)(TT:Addr)(vs:List L2.V)(H:L2.Hp)(Q:L2.VK)(x3_:L2.XK):Prop
 |mk (a:Addr)(ns:List Int) (h0_:vs = [.ref a])(h1_:SqL K H a (ns.map V.int))(h2_:ns.length<=63)(h3_:Tb KF.lqF KF.lpF TT H)(h4_:∀ H',Q (.bl true) H')
theorem gF:aw ["script","made","web","number","due","name","cell","rows","laying","found"] ["script"] (aq pA):=by ac_nf
theorem ok_law{TT f3 f4 f5 f6 PS WC:Addr}{d1 d2 d5 d6:FuncData} (F:Fun K "law" "law" pA f fd) (T:Txt mg) (cw:CW K WC) (am:Cal P w K mg base 1 "_law_cell" ["script","k"] (yU K) C d1) (a4:Cal P w K mg base 7 "_law_fan" ["script","rows"] (spFan K PL PS WC) I d2) (a3:Cal P w K mg base 14 "_law_word" ["name","web","number"] (DS TT PL PS WC) f3 G) (aS:Cal P w K mg base 7 "_law_shown" ["rows","strength","laying","at"] (yK TT) f4 Y) (aL:Cal P w K mg base 6 "certain" ["web","laying","paper"] (vS TT PL PS WC) f5 d5) (aT:Cal P w K mg base 1 "_law_worth" ["web","laying"] (DT PL PS WC) f6 d6):FnOk P w K mg base CX0 15 f fd ["script"] (oU K TT):=by
 refine F.ok gF (by walk_at "l") λab A aa s H vs Q E B h=>?_
 obtain⟨a,ns,rfl,hS,bi,tb,kk⟩:=h
 refine⟨_,(ag (ay 1 gF.nd (a4.c B (ae (pv 0) (ae (av b9 aj (av b8 (am.c B (ae (pv 0) (ae aj ah))) aj)) ah))))
   (ag (ay 2 gF.nd (dw (pv 1) aj))
   (ag (ay 3 gF.nd (av b8 (am.c B (ae (pv 0) (ae aj ah))) (aD aA (by rfl) T.n_len bT (ae (a8 (pv 2) rfl) ah))))
   (ag (ay 4 gF.nd gL)
   (ag (bG (aB zR (dw (pv 1) aj) aj (aC _)) (ak (ay 4 gF.nd gL)) aJ)
   (fM (t2:=lwS K TT PL PS WC a ns Q) (ag (bM PassesOwn.never rfl (aU (bN (ae gL (ae gL ah)))) (cJ 5 gF.nd) (ag (bG (PW.pt (wj (aB cj (pv 5) gL (aC _)) (wj (Cb uo uo aj (dw (pv 1) aj) aj) (zu (aB jR (av b8 (am.c B (ae (pv 0) (ae aj ah))) aj) aj (aC _)))))) (ak t8) aJ)
   (ak (bG (aB jR (a3.c B (ae (pv 5) (ae (pv 2) (ae (pv 3) ah)))) (pv 4) (aC _)) (ak (aF lG)) aJ))))
   (fM (t2:=lwS K TT PL PS WC a ns Q) (ag (ay 6 gF.nd (av cg (am.c B (ae (pv 0) (ae aj ah))) aj))
   (ag (ay 7 gF.nd (av b9 aj (av jS (av b8 (pv 6) aj) aj)))
   (ag (bG (oq (jQ (aS.c B (ae (pv 7) (ae (av b9 aj (av b8 (av cg (pv 6) aj) (av D8 aj aj))) (ae (av b8 (av cg (pv 6) aj) aj) (ae (av b8 (av cg (pv 6) aj) (pv 7)) ah))))))) (ak (aF lG)) aJ)
   (ag (ay 8 gF.nd (av b8 (av cg (am.c B (ae (pv 0) (ae aj ah))) aj) (av bF aj (a8 (pv 2) rfl))))
   (ag (ay 9 gF.nd (aL.c B (ae (pv 2) (ae (pv 8) (ae (bN ah) ah)))))
   (ak (aF (oy (aD wX (by rfl) T.n_isinstance bX (ae (pv 9) (ae (zN (v:=.ty "bool") rfl T.n_bool Gd rfl) ah))) (wx (bO cj (pv 9) (bO cj (aT.c B (ae (pv 2) (ae (pv 8) ah))) aj (aC _)) (aC _))))))))))) (λD0 S0 H0 h0=>?restl))) (λD0 S0 H0 h0=>?restn))))))),?_⟩
 case restl =>
  obtain⟨t,p,nb,m,o,ts,rs,ks,v5,rfl,hS,ht,wl,a6,nl,hQ⟩:=h0;refine⟨_,rfl,a,0,ns,rfl,hS,_,_,rfl,rfl,⟨by decide,by decide⟩,?_⟩
  show kc 6 (V.int (gq ns 0/8)) _ _ _;generalize gq ns 0/8=c;refine⟨_,rfl,_,_,rfl,rfl,(by decide:(0:Int)<6),_,_,rfl,rfl,.inr ⟨by decide,by decide⟩,_,_,rfl,rfl,?_⟩
  obtain⟨h',hh,J,a5⟩:∃ h':Nat,14+c%6*2=((2*h':Nat):Int)/\1<=h'/\h'<=12:=⟨(7+c%6).toNat,by ac_rfl,by ac_rfl,by ac_rfl⟩
  show kc 7 (V.int (14+c%6*2)) _ _ _;rw[hh];have r0:(0:Int)<((2*h':Nat):Int):=by ac_rfl
  obtain⟨L,hL⟩:∃ L:Nat,c/6%4=(L:Int):=⟨(c/6%4).toNat,by ac_rfl⟩
  have a0:=JC (c/24) (show((2*h':Nat):Int)≠0 by ac_rfl)
  have a1:=J1 (c/24) r0;obtain⟨ac,aR⟩:∃ ac:Nat,c/24%((2*h':Nat):Int)=(ac:Int):=⟨_,(Jv a0).symm⟩;have b0:=JC (c/24) (show(10^(30:Int).toNat:Int)≠0 by decide)
  have b1:=J1 (c/24) (show(0:Int)<10^(30:Int).toNat by decide)
  refine⟨_,rfl,_,rfl,_,_,rfl,rfl,⟨by decide,by decide⟩,_,_,rfl,rfl,⟨by decide,by decide,by decide⟩,_,_,rfl,rfl,(by show(0:Int)<10^(30:Int).toNat;decide),_,_,rfl,rfl,_,rfl,_,_,rfl,rfl,⟨by decide,by decide⟩,_,_,rfl,rfl,(by decide:(0:Int)<4),_,rfl,_,_,rfl,rfl,⟨by decide,by decide⟩,_,rfl,_,_,rfl,rfl,r0,?_⟩
  refine⟨h',L,ac,1+c/24%10^(30:Int).toNat,(by rw[← hL,← aR];rfl),J,a5,by ac_rfl,by ac_rfl,by ac_rfl,wl.tb,λN r=>⟨_,rfl,iteF ?_⟩⟩
  have ba:=wl.mono r;obtain⟨S,dx,fs,q1,xs,u,wg,_,l2,an,tk⟩:=ba.wf;have mf:=AQ wl.g;have al:=wl.few;have cc:=wl.kl;refine⟨_,rfl,a,1,ns,rfl,r.seq hS,_,_,rfl,rfl,⟨by decide,by decide⟩,?_⟩
  have m0:(0:Int)<1*2^((m:Nat):Int).toNat:=by rw[KF.shlN];have:=HQ m;ac_rfl
  have g0:=JC (gq ns 1/80) (show(1*2^((m:Nat):Int).toNat:Int)≠0 by ac_rfl)
  obtain⟨M,hM⟩:∃ M:Nat,gq ns 1/80%(1*2^((m:Nat):Int).toNat)=(M:Int):=⟨_,(Jv g0).symm⟩;refine⟨_,rfl,p,WC,dx,fs,_,rfl,u,cw.cl,cw.n1,wg.many,_,_,rfl,rfl,⟨by ac_rfl,by ac_rfl,by decide⟩,_,_,rfl,rfl,m0,?_⟩
  show kc 8 (V.int (gq ns 1/80%(1*2^((m:Nat):Int).toNat))) _ _ _;rw[hM];refine⟨_,rfl,_,rfl,(by show 0<=LK;decide),λq8 a7=>?_⟩
  have s8:=ai a7 (.lst []);refine⟨p,m,o,ts,rs,ks,M,.ref q8,[],rfl,ba.mono s8,⟨q8,[],rfl,af,LsAt.nil⟩,Hq _,λls H9 s9 O=>?_⟩;have sb:o9 o ks rs ls M []=decide (V.int (wor o ks M)=V.int 0):=by
   unfold o9 dueB;have:ls.all (KF.lB [])=true:=JO.mpr λl j=>by
    obtain⟨i,b⟩:=HE j;obtain⟨k,_,e,k0,_⟩:=O.ws i l b;exact Mq (by show(0:Int)<=2*l.2.2;ac_rfl)
   rw[this,List.all_nil,Ht,Ht];exact decide_eq_decide.mpr ⟨λz=>congrArg V.int (by have:(0:Int)=2*wor o ks M:=z;ac_rfl),λz=>by have:=V.int.inj z;show(0:Int)=2*wor o ks M;ac_rfl⟩
  rw[sb];have a9:=s8.trans s9;refine⟨_,rfl,_,_,_,_,_,rfl,TyOf.bl _,Or.inl ⟨_,rfl,rfl⟩,kit_bb K,_,rfl,iteT ?_⟩;refine⟨_,rfl,_,rfl,_,rfl,p,o,ks,M,rfl,⟨⟨dx,fs,q1,xs,a9 _ _ u,l2,a9 _ _ an,tk.mono a9⟩,wl.kl,wl.few⟩,wl.kin,rfl,rfl,?_⟩;rw[Mq rfl,hQ];exact kk _
 case restn =>
  obtain⟨t,p,nb,m,o,ts,rs,ks,v5,rfl,hS,ht,wl,a6,nl,hQ⟩:=h0;refine⟨(by show 2<=LK;decide),λq hq=>?_⟩
  have sq:=ai hq (.lst [V.str "least",V.str "roof"]);refine⟨q,rfl,⟨_,SqL.of af⟩,cf (xs:=[V.str "least",V.str "roof"]) (λi d H5=>KF.SmT H0 H5/\Tb KF.lqF KF.lpF TT H5/\H5 q=some (.lst [V.str "least",V.str "roof"])/\∃ v5,d = [some (.ref a),some (.ref t),some (.ref p),some (.int (nb:Int)),some (.str (wdN (decide (12<rgh ks o.length rs)))),v5,none,none,none,none]) ⟨.of sq,KF.tb_same wl.tb sq,af,_,rfl⟩ (λi d H5 _ z=>SqL.of z.2.2.1) ?_ ?_⟩
  .rintro i x d H5 D ⟨sm,a2,ap,v5,rfl⟩;obtain⟨nm,rfl⟩:∃ nm,x=V.str nm:=by
    match i,D with
    |0,D=>cases D;exact⟨_,rfl⟩
    |1,D=>cases D;exact⟨_,rfl⟩
    |i+2,D=>cases D
   have bd:=wl.smT sm a2;refine⟨_,rfl,rfl,_,rfl,ite2 (λz1=>⟨_,rfl,t,_,1,_,rfl,rfl,SqT.of (sm.tup ht),at1,_,_,rfl,rfl,_,rfl,ite2 (λz2=>⟨_,_,rfl,rfl,_,rfl,ite2 (λz3=>⟨_,rfl,a,1,ns,rfl,yW sm hS,_,_,rfl,rfl,(by decide:(0:Int)<7),rfl,_,rfl,ite2 (λz4=>⟨sm,a2,ap,_,rfl⟩) (λz4=>?_)⟩) (λz3=>iteF ?_)⟩) (λz2=>⟨_,rfl,iteF (iteF ?_)⟩)⟩) (λz1=>iteF ?_)⟩
   all_goals exact⟨_,rfl,_,rfl,_,rfl,nm,p,nb,m,o,ts,rs,ks,rfl,bd,a6,nl,λH6 bb be=>⟨_,rfl,rfl,_,rfl,uN rfl ⟨sm.trans bb,be,bb.lst ap,_,rfl⟩⟩⟩
  .rintro d H5 ⟨sm,a2,ap,v5,rfl⟩;exact⟨t,p,nb,m,o,ts,rs,ks,v5,rfl,yW sm hS,sm.tup ht,wl.smT sm a2,a6,nl,hQ⟩
 have c8:(0:Int)<=gq ns 0%8/\gq ns 0%8<8:=by ac_rfl
 obtain⟨n,hn,n1,n2⟩:∃ n:Nat,10+gq ns 0%8=(n:Int)/\10<=n/\n<=17:=⟨(10+gq ns 0%8).toNat,by ac_rfl,by ac_rfl,by ac_rfl⟩
 refine⟨_,rfl,_,rfl,a,0,ns,rfl,hS,_,_,rfl,rfl,(by decide:(0:Int)<8),_,_,rfl,rfl,a,n,ns,(by rw[← hn];rfl),hS,n1,n2,λt p m R o ts rs ks N r ht fw=>?_⟩
 obtain⟨⟨S,wf⟩,aI,rn,kl,aO,kb,al⟩:=fw;obtain⟨dx,fs,q1,xs,u,wg,_,l2,an,tk⟩:=id wf;have rg:=aI.rgh (ks:=ks) wg.part;rw[rn]at rg;rw[← rg]at ht;have r0:0<o.length:=by
  have:=(aI.row _ (bV (k:=0) (by ac_rfl)).2).le
  ac_rfl
 have g:=aI.gr (by ac_rfl)
 have cnt:=dS g wg.part;have fc:=aI.cnt;have xl:xs.length=o.length:=tk.1;have wl:WebL TT PL PS WC N p m o ts rs ks:=⟨⟨S,wf⟩,g,kl,aO,kb,by ac_rfl,r0,KF.tb_same tb r⟩
 refine⟨_,rfl,t,_,0,_,rfl,rfl,SqT.of ht,at0,?_⟩;have x0:(0:Int)<(xs.length:Int):=by ac_rfl
 have g0:=JC (gq ns 1) (show(xs.length:Int)≠0 by ac_rfl)
 have g1:=J1 (gq ns 1) x0;obtain⟨nb,bg⟩:∃ nb:Nat,gq ns 1%(xs.length:Int)=(nb:Int):=⟨_,(Jv g0).symm⟩;refine⟨_,rfl,a,1,ns,rfl,r.seq hS,_,rfl,p,WC,dx,fs,_,rfl,u,cw.cl,cw.n2,l2,q1,xs,rfl,.inl (SqL.of an),_,_,rfl,rfl,x0,?_⟩;show kc 3 (V.int (gq ns 1%(xs.length:Int))) _ _ _;rw[bg];refine⟨_,rfl,t,_,1,_,rfl,rfl,SqT.of ht,at1,_,_,rfl,rfl,_,rfl,ite2 (λz=>?_) (λz=>?_)⟩
 .have z':12<rgh ks o.length rs:=by have:=MZ z;ac_rfl
  exact⟨t,p,nb,m,o,ts,rs,ks,_,by rw[Mq z'];rfl,r.seq hS,ht,wl,by ac_rfl,by ac_rfl,rfl⟩
 .have z':¬ 12<rgh ks o.length rs:=λy=>z (Mq (by ac_rfl))
  exact⟨t,p,nb,m,o,ts,rs,ks,_,by rw[LJ z'];rfl,r.seq hS,ht,wl,by ac_rfl,by ac_rfl,rfl⟩
open KF (l7 iD gK lX pj vY vX B8 c6 fL bL fK lY jK jN jO lZ pC iC pB l4 fJ jP iE)
structure GF(K:Gw)(x:Str)(st:Stmt)(f:Addr)(fd:FuncData):Prop where
 a:Hm K LN x=some (some (.ref f))
 F:Fun K x x st f fd
structure Wr(P:Program)(w:World)(K:Gw)(mg:Str->Option Value)(base:Heap):Prop where
 g:∀{x:Str}{v:Value},Hm K LN x=some (some v)->mg x=some v
section
variable{P:Program}{w:World}{K:Gw}{mg:Str->Option Value}{base:Heap}{x p p2 p3 p4 p5:Str}{ps:List Str}{st:Stmt}{f:Addr}{fd:FuncData}{k:Nat}{sp:Sp}
def Bn(x:Str)(st:Stmt)(us:List Value)(r:List (Str×Value)):Prop:=∀ kV j i m d n,bindArgs (Ie x x (cO st) (bS st) (aq st) .none kV j i m d n) ⟨us,[]⟩=pure r
theorem GF.b(g:GF K x st f fd)(h:∀ us:List Value,us.length=ps.length->Bn x st us (ps.zip us)):dA K fd ps []:=g.F.binds λkV j i m d n us C=>h us C kV j i m d n
theorem Wr.c(W:Wr P w K mg base)(g:GF K x st f fd)(b:dA K fd ps [])(o:FnOk P w K mg base CX0 k f fd ps sp):Cal P w K mg base k x ps sp f fd:=⟨o,b,W.g g.a,g.F.kp⟩
theorem Wr.c0(W:Wr P w K mg base)(g:GF K x st f fd)(o:FnOk P w K mg base CX0 k f fd [] sp)(h:Bn x st [] []:=by intros _ _ _ _ _ _;rfl):Cal P w K mg base k x [] sp f fd:=W.c g (g.b λJ l=>match J,l with | [],_=>h) o
theorem GF.b1(g:GF K x st f fd)(h:∀ u,Bn x st [u] [(p,u)]):dA K fd [p] []:=g.b λJ l=>by obtain⟨_,rfl⟩:=FD l;exact h _
theorem GF.b2(g:GF K x st f fd)(h:∀ u v,Bn x st [u,v] [(p,u),(p2,v)]):dA K fd [p,p2] []:=g.b λJ l=>by obtain⟨_,_,rfl⟩:=FC l;exact h _ _
theorem GF.b3(g:GF K x st f fd)(h:∀ u v y,Bn x st [u,v,y] [(p,u),(p2,v),(p3,y)]):dA K fd [p,p2,p3] []:=g.b λJ l=>by obtain⟨_,_,_,rfl⟩:=len_3 l;exact h _ _ _
theorem GF.b4(g:GF K x st f fd)(h:∀ u v y z,Bn x st [u,v,y,z] [(p,u),(p2,v),(p3,y),(p4,z)]):dA K fd [p,p2,p3,p4] []:=g.b λJ l=>by obtain⟨_,_,_,_,rfl⟩:=FA l;exact h _ _ _ _
theorem GF.b5(g:GF K x st f fd)(h:∀ u v y z t,Bn x st [u,v,y,z,t] [(p,u),(p2,v),(p3,y),(p4,z),(p5,t)]):dA K fd [p,p2,p3,p4,p5] []:=g.b λJ l=>by obtain⟨_,_,_,_,_,rfl⟩:=len_5 l;exact h _ _ _ _ _
theorem Wr.c1(W:Wr P w K mg base)(g:GF K x st f fd)(o:FnOk P w K mg base CX0 k f fd [p] sp)(h:∀ u,Bn x st [u] [(p,u)]:=by intros _ _ _ _ _ _ _;rfl):Cal P w K mg base k x [p] sp f fd:=W.c g (g.b1 h) o
theorem Wr.c2(W:Wr P w K mg base)(g:GF K x st f fd)(o:FnOk P w K mg base CX0 k f fd [p,p2] sp)(h:∀ u v,Bn x st [u,v] [(p,u),(p2,v)]:=by intros _ _ _ _ _ _ _ _;rfl):Cal P w K mg base k x [p,p2] sp f fd:=W.c g (g.b2 h) o
theorem Wr.c3(W:Wr P w K mg base)(g:GF K x st f fd)(o:FnOk P w K mg base CX0 k f fd [p,p2,p3] sp)(h:∀ u v y,Bn x st [u,v,y] [(p,u),(p2,v),(p3,y)]:=by intros _ _ _ _ _ _ _ _ _;rfl):Cal P w K mg base k x [p,p2,p3] sp f fd:=W.c g (g.b3 h) o
theorem Wr.c4(W:Wr P w K mg base)(g:GF K x st f fd)(o:FnOk P w K mg base CX0 k f fd [p,p2,p3,p4] sp)(h:∀ u v y z,Bn x st [u,v,y,z] [(p,u),(p2,v),(p3,y),(p4,z)]:=by intros _ _ _ _ _ _ _ _ _ _;rfl):Cal P w K mg base k x [p,p2,p3,p4] sp f fd:=W.c g (g.b4 h) o
theorem Wr.c5(W:Wr P w K mg base)(g:GF K x st f fd)(o:FnOk P w K mg base CX0 k f fd [p,p2,p3,p4,p5] sp)(h:∀ u v y z t,Bn x st [u,v,y,z,t] [(p,u),(p2,v),(p3,y),(p4,z),(p5,t)]:=by intros _ _ _ _ _ _ _ _ _ _ _;rfl):Cal P w K mg base k x [p,p2,p3,p4,p5] sp f fd:=W.c g (g.b5 h) o
theorem Wr.d1(W:Wr P w K mg base)(g:GF K x st f fd)(o:FnOk P w K mg base (CXd P w) k f fd [p] sp)(h:∀ u,Bn x st [u] [(p,u)]:=by intros _ _ _ _ _ _ _;rfl):CalD P w K mg base k x [p] sp f fd:=⟨o,g.b1 h,W.g g.a,g.F.kp⟩
theorem Wr.d2(W:Wr P w K mg base)(g:GF K x st f fd)(o:FnOk P w K mg base (CXd P w) k f fd [p,p2] sp)(h:∀ u v,Bn x st [u,v] [(p,u),(p2,v)]:=by intros _ _ _ _ _ _ _ _;rfl):CalD P w K mg base k x [p,p2] sp f fd:=⟨o,g.b2 h,W.g g.a,g.F.kp⟩
end
theorem BY{c T:Addr}{g:Value}{b d:Option Addr}{h i:Array (Option Value)}{vs:Array Value}(a:Hm K LN x=some (some (.ref f)))(l:K.lookup f=some ⟨u,b,.func fd,h⟩)(e:fd.code=.ref c)(j:K.lookup c=some ⟨g,d,.fields vs,i⟩)(v:vs[11]?=some (.ref T)):Jo K x=some (c,T):=by
 unfold Jo;rw[a];simp only[l,e,j,v]
theorem all_mk{l:Lg}{w:World}{K:Gw}{h:Heap}{mg:Str->Option Value}{E dt iR mH aO bu bg iy Y aa a2 AY AX Dm xM qz Df FX xI nZ ve h9 u6 Dh AW A2 F0 Dk u3 A4 xQ A3 Dj F1 uY Dg Di sC qx u9 xK xJ FY A5 bx fu a9 bQ ef ab AZ xP so uZ xH qy nY nA cA ac xO A0 A1 vc vd xN FZ:Addr}{cT TT:Addr}{O:Value}{dT:Option Addr}{vT:Array Value}{d:Array (Option Value)}(X:K.In h)(G:h.Ns LN mg) (j:mg "law" = some (.ref E))
  {CD DI pS qU ur vI lH lQ pR qT rR tq pQ qS al Ey:Option Addr} {B3 o8 tQ lD o7 rA oZ am:Array (Option Value)} {CF C3 Du Cd qN DF pW qf qF pL ko qL uu uK vm ud nH vB lJ lK lN lF gA lP pV qe qE pK kj qK rS r8 sG rJ lj sM pU qc qD pJ ki qJ an Ei Eo D3 Bz Ep:Value}
  {y A:Tok}
  {ap aI a3 Bk Bj DB ya Dv F3 xZ n9 vz nF vq Dx Bi Bq F6 DA vp Bt yf Bs Dz F7 vn Dw Dy sL qH vt x9 x8 F5 Bu aT Bl ye sJ vo xY qI n8 nE a0 yd Bo Bp vx vy yc:FuncData}
  (gs:Hm K LN "FloorError" = some (some (.ref dt)))
  (jD:Hm K LN "OddMarks" = some (some (.ref iR)))
  (nN:Hm K LN "Parted" = some (some (.ref mH)))
  (jC:Hm K LN "TooRough" = some (some (.ref aO)))
  (vK:Hm K LN "Pull" = some (some (.ref bu)))
  (vJ:Hm K LN "Push" = some (some (.ref bg)))
  (BK:Hm K LN "Web" = some (some (.ref iy)))
  (gU:GY K (.ref bu) "__init__" = some (some (.ref bx)))
  (gR:GY K (.ref bu) "wish" = some (some (.ref fu)))
  (e8:GY K (.ref bu) "across" = some (some (.ref bQ)))
  (cW:GY K (.ref bu) "unpleased" = some (some (.ref a9)))
  (gQ:GY K (.ref bg) "__init__" = some (some (.ref bx)))
  (gP:GY K (.ref bg) "wish" = some (some (.ref ef)))
  (eZ:GY K (.ref bg) "across" = some (some (.ref bQ)))
  (cV:GY K (.ref bg) "unpleased" = some (some (.ref a9)))
  (jn:GY K (.ref iy) "__init__" = some (some (.ref cA)))
  (wN:GF K "bits" vY Y ap)
  (wJ:GF K "ones" vX aa aI)
  (Dc:GF K "odd" B8 a2 a3)
  (fk:GF K "mask_of" jM AY Bk)
  (jY:GF K "reached" jL AX Bj)
  (mD:GF K "beyond" l7 Dm DB)
  (iM:GF K "links_at" iD xM ya)
  (mv:GF K "row_to" lX Df Dv)
  (qo:GF K "whole" pj FX F3)
  (iJ:GF K "odd_ends" iC xI xZ)
  (c9:GF K "refuse_marks" c6 nZ n9)
  (gk:GF K "chosen_of" fL ve vz)
  (aR:GF K "laid_in_pairs" bL h9 nF)
  (fZ:GF K "new_table" fK u6 vq)
  (my:GF K "paired" lY Dh Dx)
  (jX:GF K "root_of" jK AW Bi)
  (j7:GF K "heights" jN A2 Bq)
  (qq:GF K "joins" pB F0 F6)
  (mC:GF K "counts" l4 Dk DA)
  (fY:GF K "paid_over" fJ u3 vp)
  (j9:GF K "cost_of" jP A4 Bt)
  (iQ:GF K "examined" iE xQ yf)
  (j8:GF K "dryings" jO A3 Bs)
  (mB:GF K "joined" lZ Dj Dz)
  (qu:GF K "hills" pC F1 F7)
  (fV:GF K "unpleased" i5 uY vn)
  (mw:GF K "pushes" pq Dg Dw)
  (mz:GF K "odd_at" pz Di Dy)
  (eO:GF K "odd_rounds" gH sC sL)
  (dH:GF K "refuse_ties" fG qx qH)
  (f9:GF K "laying_of" i7 u9 vt)
  (iL:GF K "links_of" kE xK x9)
  (iK:GF K "marks_of" kD xJ x8)
  (qp:GF K "least" tZ FY F5)
  (ka:GF K "certain" mX A5 Bu)
  (wK:GF K "head" zf ab aT)
  (jZ:GF K "leaving" mT AZ Bl)
  (iP:GF K "follower" kJ xP ye)
  (eM:GF K "round_from" gG so sJ)
  (fX:GF K "rounds_of" i6 uZ vo)
  (iI:GF K "sides_of" kC xH xY)
  (dI:GF K "refuse_ends" fH qy qI)
  (c7:GF K "refuse_turns" eY nY n8)
  (cM:GF K "refuse_parted" dQ nA nE)
  (wI:GF K "roof" ze ac a0)
  (iO:GF K "_law_cell" kH xO yd)
  (j4:GF K "_law_tie" mU A0 Bo)
  (j6:GF K "_law_fan" mV A1 Bp)
  (gf:GF K "_law_worth" i8 vc vx)
  (gh:GF K "_law_shown" i9 vd vy)
  (iN:GF K "_law_word" kG xN yc)
  (nM:Hm K LN "fares" = some (some (.ref qz)))
  (pY:K.lookup qz=some ⟨CF,CD,.func (Ie "fares" "fares" (cO gK) (bS gK) (aq gK) .none C3 Du Cd DI qN DF),B3⟩)
  (vF:Iy K qN "fares" = true)
  (pZ:Hw K (.ref qz)=true)
  (g7:K.lookup bx=some ⟨pW,pS,.func (Ie "__init__" "Tie.__init__" (cO cz) (bS cz) (aq cz) .none qf qF pL qU ko qL),o8⟩)
  (ir:Iy K ko "Tie.__init__" = true)
  (hX:Hw K (.ref bx)=true)
  (eJ:Jj K (.ref bx)=true)
  (kP:K.lookup fu=some ⟨uu,ur,.func (Ie "wish" "Tie.wish" (cO dJ) (bS dJ) (aq dJ) .none uK vm ud vI nH vB),tQ⟩)
  (kW:Iy K nH "Tie.wish" = true)
  (iH:Hw K (.ref fu)=true)
  (kR:Jj K (.ref fu)=true)
  (d8:K.lookup a9=some ⟨lJ,lH,.func (Ie "unpleased" "Tie.unpleased" (cO bq) (bS bq) (aq bq) .none lK lN lF lQ gA lP),lD⟩)
  (eB:Iy K gA "Tie.unpleased" = true)
  (bP:Hw K (.ref a9)=true)
  (cL:Jj K (.ref a9)=true)
  (gZ:K.lookup bQ=some ⟨pV,pR,.func (Ie "across" "Tie.across" (cO cy) (bS cy) (aq cy) .none qe qE pK qT kj qK),o7⟩)
  (iq:Iy K kj "Tie.across" = true)
  (dj:Hw K (.ref bQ)=true)
  (eI:Jj K (.ref bQ)=true)
  (jq:K.lookup ef=some ⟨rS,rR,.func (Ie "wish" "Push.wish" (cO cU) (bS cU) (aq cU) .none r8 sG rJ tq lj sM),rA⟩)
  (jA:Iy K lj "Push.wish" = true)
  (fU:Hw K (.ref ef)=true)
  (jr:Jj K (.ref ef)=true)
  (gY:K.lookup cA=some ⟨pU,pQ,.func (Ie "__init__" "Web.__init__" (cO cx) (bS cx) (aq cx) .none qc qD pJ qS ki qJ),oZ⟩)
  (ik:Iy K ki "Web.__init__" = true)
  (hO:Hw K (.ref cA)=true)
  (h7:Jj K (.ref cA)=true)
  (DJ:Hm K LN "law" = some (some (.ref FZ)))
  (FG:K.lookup FZ=some ⟨an,al,.func (Ie "law" "law" (cO pA) (bS pA) (aq pA) .none Ei Eo D3 Ey Bz Ep),am⟩)
  (Ga:Iy K Bz "law" = true)
  (FL:Hw K (.ref FZ)=true)
  (fy:KN K dt veM "ValueError.__new__" = true)
  (iZ:KN K aO veM "ValueError.__new__" = true)
  (bD:HV K aO (.ref dt)=some true)
  (ga_TooRough:GY K (.ref aO) "__getattribute__" = some (some (.builtin "BaseException.__getattribute__")))
  (gt_TooRough:GY K (.ref aO) "__getattr__" = some none)
  (hb_TooRough:HV K aO (.type "BaseException")=some true)
  (ju:II K aO=true)
  (jv:GY K (.ref aO) "__class__" = some (some (.builtin "object.__class__")))
  (jt:HV K aO (.type "object")=some true)
  (bY:HG K (.ref aO) (.ref aO)=some true)
  (bZ:HG K (.ref aO) (.ref iR)=some false)
  (cK:HG K (.ref aO) (.ref mH)=some false)
  (ug:Jd K bu Str.empty=true)
  (uR:II K bu=true)
  (uc:JG K bu=true)
  (tY:GY K (.ref bu) "__setattr__" = some (some (.builtin "object.__setattr__")))
  (uA:JT K bu=true)
  (uH:Hw K (.ref bu)=true)
  (jj:GY K (.ref bu) "one" = some none)
  (ji:GY K (.ref bu) "two" = some none)
  (dz:GY K (.ref bu) "strength" = some none)
  (uU:GY K (.ref bu) "__class__" = some (some (.builtin "object.__class__")))
  (uP:HV K bu (.type "object")=some true)
  (g9:HG K (.ref bu) (.ref bg)=some false)
  (uf:Jd K bg Str.empty=true)
  (uQ:II K bg=true)
  (ub:JG K bg=true)
  (tX:GY K (.ref bg) "__setattr__" = some (some (.builtin "object.__setattr__")))
  (uz:JT K bg=true)
  (uG:Hw K (.ref bg)=true)
  (jh:GY K (.ref bg) "one" = some none)
  (jg:GY K (.ref bg) "two" = some none)
  (dy:GY K (.ref bg) "strength" = some none)
  (uT:GY K (.ref bg) "__class__" = some (some (.builtin "object.__class__")))
  (uO:HV K bg (.type "object")=some true)
  (g8:HG K (.ref bg) (.ref bg)=some true)
  (zK:Jd K iy Str.empty=true)
  (AM:II K iy=true)
  (zF:JG K iy=true)
  (zc:GY K (.ref iy) "__setattr__" = some (some (.builtin "object.__setattr__")))
  (Ae:JT K iy=true)
  (Ax:Hw K (.ref iy)=true)
  (jf:GY K (.ref iy) "many" = some none)
  (je:GY K (.ref iy) "ties" = some none)
  (gN:GY K (.ref iy) "turns" = some none)
  (fT:GY K (.ref iy) "rounds" = some none)
  (gO:GY K (.ref iy) "sides" = some none)
  (hn_:Kc K (.builtin "object.__class__") "__get__" = some (some (.builtin "getset_descriptor.__get__")))
  (htk_:Ko K (.builtin "object.__class__")=some true)
  (uV:Hm K LN "MOST_MARKS" = some (some (.int 14 y)))
  (uW:Hm K LN "MOST_ODD" = some (some (.int 12 A)))
  (kv_:HG K (.ref aO) (.type "ValueError")=some true)
  (EF:Hm K LN "len" = some none)
  (EG:Hm K LN "int" = some none)
  (yz:Hm K LN "bool" = some none)
  (yx:Hm K LN "list" = some none)
  (tD:Hm K LN "tuple" = some none)
  (tE:Hm K LN "range" = some none)
  (iY:Hm K LN "enumerate" = some none)
  (gB:Hm K LN "isinstance" = some none)
  (ED:Hm K LN "min" = some none)
  (EB:Hm K LN "sum" = some none)
  (oM:Hm K LN "sorted" = some none)
  (EE:Hm K LN "max" = some none)
  (EA:Hm K LN "zip" = some none)
  (EI:Hm K LN "abs" = some none)
  (yy:Hm K LN "dict" = some none)
  (ku:Hm K LN "reversed" = some none)
  (EC:Hm K LN "set" = some none)
  (EH:Hm K LN "all" = some none)
  (gC:Hm K LN "ValueError" = some none)
  (tbc:qN=.ref cT) (tbl:K.lookup cT=some ⟨O,dT,.fields vT,d⟩) (tbv:vT[11]?=some (.ref TT)) (tbn:K.lookup TT=none)
  : ∃ fd:FuncData,(∀(s:Shared)(v:Value),BindsTo s fd ⟨[v],[]⟩ [("script",v)])/\∃ c T,Jo K "fares" = some (c,T)/\K.lookup T=none/\∀ base:Heap,K.In base->base.Ns LN mg->Jf base c T->Bm mg base->FnOk l.prog w K mg base CX0 15 E fd ["script"] (oU K T):=by
 have bd:=BY nM pY tbc tbl tbv;have e:=j.symm.trans (Ip X G DJ)
 cases e
 have BQ:=fun_mk (st:=gK) pY vF pZ;have Ge:=BQ.binds (ps:=["many","links","start"]) λ_ _ _ _ _ _ J C=>by obtain⟨p,o,q,rfl⟩:=len_3 C;rfl
 have lC:=fun_mk (st:=cz) g7 ir hX;have lu:=lC.binds (ps:=["self","one","two","strength"]) λ_ _ _ _ _ _ J C=>by obtain⟨p,o,q,u,rfl⟩:=FA C;rfl
 have oK:=fun_mk (st:=dJ) kP kW iH;have yp:=oK.binds (ps:=["self"]) λ_ _ _ _ _ _ J C=>by obtain⟨p,rfl⟩:=FD C;rfl
 have eE:=fun_mk (st:=bq) d8 eB bP;have iu:=eE.binds (ps:=["self","laying"]) λ_ _ _ _ _ _ J C=>by obtain⟨p,o,rfl⟩:=FC C;rfl
 have iw:=fun_mk (st:=cy) gZ iq dj;have lr:=iw.binds (ps:=["self","place"]) λ_ _ _ _ _ _ J C=>by obtain⟨p,o,rfl⟩:=FC C;rfl
 have nQ:=fun_mk (st:=cU) jq jA fU;have vH:=nQ.binds (ps:=["self"]) λ_ _ _ _ _ _ J C=>by obtain⟨p,rfl⟩:=FD C;rfl
 have lA:=fun_mk (st:=cx) gY ik hO;have tj:=lA.binds (ps:=["self","many","ties","turns"]) λ_ _ _ _ _ _ J C=>by obtain⟨p,o,q,u,rfl⟩:=FA C;rfl
 have a4:=fun_mk (st:=pA) FG Ga FL;refine⟨Ie "law" "law" (cO pA) (bS pA) (aq pA) .none Ei Eo D3 Ey Bz Ep,λs v=>.of_eq rfl,cT,TT,bd,tbn,λbase _ _ z x=>?_⟩;have Fy:=Ip X G nM;have cd:=Ip X G DJ;have rW:=Ip X G gs;have xB:=Ip X G jD;have CQ:=Ip X G nN;have xA:=Ip X G jC;have a1:=Ip X G vK;have Ee:=Ip X G vJ;have a5:=Ip X G BK;have be:=Ip X G uV;have modd:=Ip X G uW;have B:=Ho X G EF;have H:=Ho X G EG;have r:=Ho X G yz;have i:=Ho X G yx;have k:=Ho X G tD;have n:=Ho X G tE;have f:=Ho X G iY;have b:=Ho X G gB;have I:=Ho X G ED;have n_sum:=Ho X G EB;have n_sorted:=Ho X G oM;have n_max:=Ho X G EE;have n_zip:=Ho X G EA;have a6:=Ho X G EI;have cc:=Ho X G yy;have n_reversed:=Ho X G ku;have n_set:=Ho X G EC;have n_all:=Ho X G EH;have n_ValueError:=Ho X G gC;have W:Wr l.prog w K mg base:=⟨λe=>Ip X G e⟩;have L:CT K bu:=⟨⟨ug,uR,uc,tY⟩,jj,ji,dz⟩;have TS:CT K bg:=⟨⟨uf,uQ,ub,tX⟩,jh,jg,dy⟩;have N:CW K iy:=⟨⟨zK,AM,zF,zc⟩,jf,je,gN,fT,gO⟩;have T:Txt mg:=⟨B,H,r,i,k,n,f,b,I,n_sum,n_sorted⟩;have GI:FnOk l.prog w K mg base CX0 1 bx _ _ (kZ K):=Fn lC;have ML:Mak l.prog w K mg base 1 "Pull" _ (kZ K) bu bx _:=⟨⟨uA,gU,eJ,uH⟩,GI,lu,a1⟩;have MS:Mak l.prog w K mg base 1 "Push" _ (kZ K) bg bx _:=⟨⟨uz,gQ,eJ,uG⟩,GI,lu,Ee⟩;have Gh:=W.c2 wK (Fo wK.F);have Gl:=W.c3 jZ (xq jZ.F);have Gf:=W.c3 iP (uq iP.F T Gh Gl);have Gr:=W.c3 eM (Fp eM.F Gf);have GR:=W.c2 fX (zW fX.F T Gr);have GS:=W.c2 iI (Cq iI.F T);have wL:Met l.prog w K mg base 1 bu "wish" _ (gE false) fu _:=⟨⟨gR,kR,iH⟩,Co oK,yp⟩;have wS:Met l.prog w K mg base 1 bg "wish" _ (gE true) ef _:=⟨⟨gP,jr,fU⟩,Cn nQ,vH⟩;have Gm:=W.c1 (sp:=(kY K)) fk (KF.ok_mask fk.F);have Gp:=W.c1 mw (Fi mw.F T N L TS Gm wL wS);have Go:=W.c3 (sp:=(oR bu bg iy)) mz (Cv mz.F T N);have Gq:=W.c1 eO (Fj eO.F T N Gm Gp Go);have R1:=W.c2 dI (Cu dI.F);have R2:=W.c3 c7 (zV c7.F T);have bi:=W.c2 jY (KF.ok_reached jY.F);have R3:=W.c2 cM (Ct cM.F bi);have WI:FnOk l.prog w K mg base CX0 5 cA _ _ (mO K):=Cp lA T R1 R2 R3 GR GS;have MW:Mak l.prog w K mg base 5 "Web" _ (mO K) iy cA _:=⟨⟨Ae,jn,h7,Ax⟩,WI,tj,a5⟩;have Gc:=W.c2 iO (Fs iO.F T);have kT:KF.Txt mg:=⟨B,H,r,i,k,n,I,a6,f,b⟩;have bm:=W.c2 mD (KF.ok_bey mD.F);have ce:=W.c2 iM (KF.ok_at iM.F kT);have bn:Cal l.prog w K mg base 2 "fares" _ (KF.spFares TT) qz _:=⟨KF.ok_fares BQ kT bd nM z x ce bm,Ge,Fy,pZ⟩;have ch:=W.c2 qo (KF.ok_whl qo.F bi);have ci:=W.c3 mv (KF.ok_row mv.F ⟨i,n_reversed⟩ bm);have t:=W.c1 wN (KF.ok_bits wN.F);have a7:=W.c1 wJ (KF.ok_ones wJ.F kT t);have bo:=W.c1 Dc (KF.ok_odd Dc.F a7);have ck:=W.c1 fk (KF.ok_mask fk.F);have bv:=W.c3 c9 (KF.ok_ref c9.F ⟨⟨_,be⟩⟩ bo ch a7);have bB:=W.c2 gk (KF.ok_chosen gk.F);have bR:=W.c0 fZ (KF.ok_table fZ.F);have bU:∀(D:Nat->Nat->Int)(m:Nat),Cal l.prog w K mg base 10 "laid_in_pairs" _ (KF.spLaid D m 8) h9 _:=λD m=>⟨KF.ok_laid aR.F kT t (aR.b3 λ_ _ _=>by intros _ _ _ _ _ _;rfl) (W.g aR.a) aR.F.kp 8,(aR.b3 λ_ _ _=>by intros _ _ _ _ _ _;rfl),(W.g aR.a),aR.F.kp⟩
 have b0:=W.c3 my (KF.ok_paired my.F kT bv t bn bB bR bU ck ci);have b6:KF.TxtZ mg:={ kT with n_zip:=n_zip };have ba:KF.TxtH mg:={ b6 with n_reversed:=n_reversed,n_sorted:=n_sorted,n_set:=n_set };have M:KF.TxtE mg:={ ba with n_sum:=n_sum,n_all:=n_all,n_max:=n_max };have ca:=W.c1 jX (KF.ok_root jX.F t);have cl:=W.c3 j7 (KF.ok_hts j7.F b6 bv t bn bB bR bU ca);have cn:=W.c2 j8 (KF.ok_dry j8.F ba);have co:=W.c2 mB (KF.ok_join mB.F kT t);have cp:=W.c3 qu (KF.ok_hills qu.F ba cl cn ca co);have cs:=W.c2 iJ (KF.ok_endsX iJ.F M);have ct:=W.c3 qq (KF.ok_joins qq.F M cs);have cv:=W.c4 mC (KF.ok_counts mC.F bo);have c8:=W.c2 fY (KF.ok_paid fY.F M);have da:=W.c2 j9 (KF.ok_costO j9.F M);have db:=W.c5 iQ (KF.ok_exam iQ.F M ct cv c8 da);have TO:TxtO mg aO:={ T with n_zip:=n_zip,modd:=⟨_,modd⟩,n_max:=n_max,g_TooRough:=xA };have cb:=W.d1 iK (Cw iK.F TO iZ Gq a7);have TZ:TxtZ mg:={ T with n_zip:=n_zip };have bb:=W.c1 iL (Cy iL.F TZ N L TS);have aL:Met l.prog w K mg base 1 bu "across" _ (jE bu) bQ _:=⟨⟨e8,eI,dj⟩,rP iw L,lr⟩;have aS:Met l.prog w K mg base 1 bg "across" _ (jE bg) bQ _:=⟨⟨eZ,eI,dj⟩,rP iw TS,lr⟩;have uL:Met l.prog w K mg base 2 bu "unpleased" _ (rh bu false) a9 _:=⟨⟨cW,cL,bP⟩,zU eE L wL,iu⟩;have uS:Met l.prog w K mg base 2 bg "unpleased" _ (rh bg true) a9 _:=⟨⟨cV,cL,bP⟩,zU eE TS wS,iu⟩;have M1:=W.c2 dH (ok_rt dH.F T N Gp Go);have M2:=W.c2 f9 (ok_lo f9.F T N L TS M1 Gm aL aS wL wS);have M4:=W.c2 fV (Fg fV.F T N L TS Gm uL uS);have M5:=W.c3 (sp:=(vS TT bu bg iy)) ka (Fq ka.F TO N db bb Gq M4);have TI:TxtI mg bg:={ T with g_Push:=Ee };have Q:IsC K bu bg:=⟨uU,uT,hn_,htk_,uP,uO,g9,g8⟩;have TV:TxtV mg:={ T with n_reversed:=n_reversed };have TQ:TxtQ mg aO dt iR mH:={ TO with n_ValueError:=n_ValueError,g_FloorError:=rW,g_OddMarks:=xB,g_Parted:=CQ };have eR:ErC K aO:=⟨ga_TooRough,gt_TooRough,hb_TooRough,ju,jv,hn_,htk_,jt⟩;have rF:RoF K aO dt iR mH:=⟨eR,bD,bY,kv_,bZ,cK⟩;have M3:=W.d1 qp (Cz qp.F TO N cb bb b0 M2 cp);have M6:=W.d2 wI (Fh wI.F TO N L TS cb bb b0 wL wS);have N1:=W.c4 j4 (Fl j4.F ML MS L TS);have N2:=W.c2 j6 (Fm j6.F T Gc N1 MW N L TS);have N3:=W.c2 gf (Ff gf.F TI Q N L TS);have N4:=W.c4 gh (Cr gh.F TV ML MS L TS MW N M5);have N5:=W.c3 iN (Fe iN.F TQ fy rF M3 M6);exact ok_law a4 T N Gc N2 N5 N4 M5 N3
theorem walk{l:Lg}{q:Program}{t:List Str}{O:(Str->Option Value)->Heap->Prop}{M:World->Heap->Prop}{d:DefRec}{K:Params->Gw}(y:l.most=some 63)(J:d.params.defaults = [])
  (g:∀(w:World)(h:Heap),M w h->(K w.params).In h) (p:((PyProof.Rows.recsOf q).find? (λe=>e.name == ("fares" : Str))).isSome=true)
  (F:∀(w:World)(mg:Str->Option Value)(E:Addr)(h:Heap),(K w.params).In h->h.Ns LN mg->mg d.name=some (.ref E) ->
   ∃ fd:FuncData,(∀(s:Shared)(u:Value),BindsTo s fd ⟨[u],[]⟩ [("script",u)])/\∃ c T,Jo (K w.params) "fares" = some (c,T)/\(K w.params).lookup T=none/\∀ base:Heap,(K w.params).In base->base.Ns LN mg->Jf base c T->Bm mg base->FnOk l.prog w (K w.params) mg base CX0 15 E fd ["script"] (oU (K w.params) T)) :
  PySem.W.WalkO q t O M l.row.toRowW d [] (λf vs=>PySem.call f vs) :=
 L2.walk_ofT (n:=63) (k:=15) (x:="script") (CX:=CX0) (sp:=λK T=>oU K T) y (by decide) J ⟨rfl,by decide,by decide⟩ g (Option.some_get p).symm F (λ_ _ _ a b C i H=>⟨a,b,rfl,H,C,.inl i,λ_=>rfl⟩) λ_ _ _ _ z=>z
end K8
namespace PySem.W.Fast
def tw15490218150368646752:=Nat
def tw3806708768620726980:=Nat
def tw1733370610256203748:=Nat
def tw803070442767950405:=Nat
def tw684217674857553573:=Nat
def tw5755787397165555561:=Nat
def tw16229925850785963626:=Nat
def tw7323743314815425228:=Nat
def tw13926199867488275405:=Nat
def tw7084724677959224016:=Nat
def tw6226001099901012177:=Nat
def tw4698772084826287282:=Nat
def tw15895050506057621940:=Nat
def tw5026792457075965109:=Nat
def tw759628489784908248:=Nat
def tw11555510309487454105:=Nat
def tw10828727748808491228:=Nat
def tw9813038017302372893:=Nat
def tw7646835261210348510:=Nat
def tw11571824538009551872:=Nat
def tw6490080557258362944:=Nat
def tw7773158410727852320:=Nat
def tw15724869788948556096:=Nat
def tw17290702153815968096:=Nat
def tw17460074878181962144:=Nat
def tw8577336831009562080:=Nat
def tw12210392471797564896:=Nat
def tw6125248244426710528:=Nat
def tw8713482858556822048:=Nat
def tw4076303707525498528:=Nat
def tw14703154106696559424:=Nat
def tw13179345871757416288:=Nat
def tw13087399326088895649:=Nat
def tw4291889931603662017:=Nat
def tw12101116179101321889:=Nat
def tw17159753919245417185:=Nat
def tw5486194691287097153:=Nat
def tw6383920232025628545:=Nat
def tw11696488014135158689:=Nat
def tw10505230903851363810:=Nat
def tw4534954046710179458:=Nat
def tw2994103553591211810:=Nat
def tw1556456257060303682:=Nat
def tw4669360000846032770:=Nat
def tw18153230442621775939:=Nat
def tw17766467327023775939:=Nat
def tw9756582841411865091:=Nat
def tw12098079242807513891:=Nat
def tw18216447944871752740:=Nat
def tw10482387461705095236:=Nat
def tw15792277494378064964:=Nat
def tw12265613476367640772:=Nat
def tw6423748791078823268:=Nat
def tw948136852874323332:=Nat
def tw17666319948813215140:=Nat
def tw11028142020544889604:=Nat
def tw7236990613976197924:=Nat
def tw2878312129405288292:=Nat
def tw12569854933623982117:=Nat
def tw16240105370297956421:=Nat
def tw14111024299797042277:=Nat
def tw4331063064540857925:=Nat
def tw434371462259528261:=Nat
def tw1099266470121261669:=Nat
def tw3992195498369527557:=Nat
def tw3580516526007760645:=Nat
def tw1893919584009759621:=Nat
def tw10353984635438179269:=Nat
def tw12926893371747193797:=Nat
def tw15520093235393723686:=Nat
def tw10236548446535946598:=Nat
def tw17365181103323241830:=Nat
def tw12585478282226999718:=Nat
def tw4887204326555441606:=Nat
def tw4846323974245405542:=Nat
def tw7069333361969911686:=Nat
def tw17552334718235715591:=Nat
def tw5606773096734827975:=Nat
def tw11771153910966442631:=Nat
def tw17692996946238897895:=Nat
def tw9700575781151968039:=Nat
def tw2266478791856029639:=Nat
def tw16729996952926595240:=Nat
def tw11760375026802198952:=Nat
def tw2528485530306514376:=Nat
def tw15937826922326752808:=Nat
def tw15876764554082570824:=Nat
def tw1527809147119182504:=Nat
def tw15951549112335163048:=Nat
def tw2555055664980126376:=Nat
def tw9126348564719690472:=Nat
def tw5057259944273448969:=Nat
def tw8870124527086058537:=Nat
def tw7163636983107297737:=Nat
def tw748016073042006633:=Nat
def tw7002484286498622217:=Nat
def tw12139647041047001897:=Nat
def tw4103023657018598249:=Nat
def tw9889247434965951337:=Nat
def tw718971031411592202:=Nat
def tw15618274291899367466:=Nat
def tw16239441481490301066:=Nat
def tw15586307008757613770:=Nat
def tw9585365750032376170:=Nat
def tw16041564612049450410:=Nat
def tw730445528302424522:=Nat
def tw11677547981022066186:=Nat
def tw11029893080394323594:=Nat
def tw14018061001748299466:=Nat
def tw3360382884250332042:=Nat
def tw15648953759747738923:=Nat
def tw3124668955916410155:=Nat
def tw9891314680053322027:=Nat
def tw9584986707726505291:=Nat
def tw16581443432173955531:=Nat
def tw11402786370990259883:=Nat
def tw11461924506200172588:=Nat
def tw17320198629227691148:=Nat
def tw5258380218105321676:=Nat
def tw13069005723742372044:=Nat
def tw6554274010383341996:=Nat
def tw8793666106126926444:=Nat
def tw11016713351616645836:=Nat
def tw6221381655145892620:=Nat
def tw1352599290172560172:=Nat
def tw674626624155957164:=Nat
def tw1670906257425165260:=Nat
def tw408917656676463693:=Nat
def tw2520424639623375021:=Nat
def tw5496677002976493805:=Nat
def tw2186597192747072013:=Nat
def tw5962698634953918381:=Nat
def tw7978041638565875758:=Nat
def tw1493904549138592974:=Nat
def tw10389892703721357518:=Nat
def tw14472056523323718958:=Nat
def tw17029961864625861102:=Nat
def tw6685777732575086607:=Nat
def tw6729616063159855247:=Nat
def tw17124714157170900271:=Nat
def tw898707007630204271:=Nat
def tw4971235026762813839:=Nat
def tw9677641458741512623:=Nat
def tw6426076498663433647:=Nat
def tw2547635376301362735:=Nat
def tw1858218482609203887:=Nat
def tw623306959465733967:=Nat
def tw3722518003816087407:=Nat
def tw13328735790395499696:=Nat
def tw5131009703044327728:=Nat
def tw8118138839105226064:=Nat
def tw16677929492174418320:=Nat
def tw2640811492676754960:=Nat
def tw9006100605756984944:=Nat
def tw7228010760696461968:=Nat
def tw2786553976242163504:=Nat
def tw18446533802770611024:=Nat
def tw1800481351049192336:=Nat
def tw10342080462398742737:=Nat
def tw2607079998061866289:=Nat
def tw6778981319543246129:=Nat
def tw14668722854403442001:=Nat
def tw15487109512012109297:=Nat
def tw71501902388067857:=Nat
def tw5832094346827268721:=Nat
def tw16051073630055471729:=Nat
def tw7187904152620291761:=Nat
def tw6197375341866627825:=Nat
def tw16707599445093623569:=Nat
def tw7761779050597504817:=Nat
def tw15281483862910320529:=Nat
def tw7461543675650108337:=Nat
def tw18401002126076939410:=Nat
def tw4337478371069415698:=Nat
def tw13815970285621192050:=Nat
def tw5217854123384683890:=Nat
def tw4504233991115473298:=Nat
def tw1740115175757389330:=Nat
def tw4443344172723251730:=Nat
def tw17242222053879320146:=Nat
def tw1397393704903661298:=Nat
def tw4422612933019265842:=Nat
def tw9654265999994693586:=Nat
def tw11651276071497333011:=Nat
def tw16284991180458041683:=Nat
def tw7719991702310979987:=Nat
def tw7630650790485829139:=Nat
def tw11300503570506849875:=Nat
def tw14669567304197547923:=Nat
def tw7928135882755861588:=Nat
def tw11796000610757320820:=Nat
def tw11719847530846331060:=Nat
def tw7874178624386772180:=Nat
def tw17866756849178841428:=Nat
def tw18055496891760325204:=Nat
def tw10672490481484968692:=Nat
def tw15297259284366272404:=Nat
def tw8680882645610514420:=Nat
def tw5594985001334268916:=Nat
def tw89084942381742068:=Nat
def tw16352964618288023733:=Nat
def tw5511587048475512053:=Nat
def tw17605350608810706581:=Nat
def tw13169824817365408693:=Nat
def tw17976288880834445526:=Nat
def tw17748356456158702806:=Nat
def tw3643327799579438294:=Nat
def tw13547528658412838198:=Nat
def tw11883876811512559030:=Nat
def tw11567007037182166486:=Nat
def tw4432513139807501878:=Nat
def tw2287312796240396854:=Nat
def tw14991013057012692694:=Nat
def tw13236903583266509558:=Nat
def tw18358458947175698198:=Nat
def tw15563579333743656822:=Nat
def tw3465109727695843254:=Nat
def tw4341733648545241014:=Nat
def tw6789323910053811351:=Nat
def tw17618857687818289399:=Nat
def tw8772308207390167895:=Nat
def tw4093112760036490135:=Nat
def tw8464301610014763959:=Nat
def tw17678288874724096983:=Nat
def tw2138921217977042935:=Nat
def tw9522616941659506808:=Nat
def tw12635062588023755992:=Nat
def tw12089240711775467832:=Nat
def tw13875187074386378136:=Nat
def tw12155184170217900504:=Nat
def tw7112016693434315320:=Nat
def tw11553433960897099512:=Nat
def tw10717051110536428312:=Nat
def tw10350351595468001112:=Nat
def tw18258045891957071897:=Nat
def tw17828901329496585241:=Nat
def tw2104207382171874457:=Nat
def tw2306424150772338937:=Nat
def tw4914269411001001209:=Nat
def tw2473115681518358841:=Nat
def tw16628334104483968345:=Nat
def tw2884217036149878105:=Nat
def tw10857298785742201305:=Nat
def tw3281198183966319065:=Nat
def tw14738526370710727161:=Nat
def tw9889434189993416313:=Nat
def tw12590752795031346937:=Nat
def tw4395193706618568505:=Nat
def tw8387295807095304089:=Nat
def tw2701226697773324217:=Nat
def tw1436573147501557689:=Nat
def tw3204917419622264890:=Nat
def tw4909188863867888730:=Nat
def tw15308973940728550810:=Nat
def tw7049380212238874138:=Nat
def tw10379568894748721882:=Nat
def tw14361187730233646906:=Nat
def tw9171139287878689690:=Nat
def tw8296267691700341690:=Nat
def tw721133759040323578:=Nat
def tw427296808426482747:=Nat
def tw12558571200345449627:=Nat
def tw17767392323806722235:=Nat
def tw2148350916552281467:=Nat
def tw7543618396389093787:=Nat
def tw16189015288170074555:=Nat
def tw8213864279260324283:=Nat
def tw17473449253876858299:=Nat
def tw14135366835122614747:=Nat
def tw16373437113836274171:=Nat
def tw7785127199067700763:=Nat
def tw18061678865067725403:=Nat
def tw8277972181020933947:=Nat
def tw1110381835901084667:=Nat
def tw12132889471474143227:=Nat
def tw710986781811262588:=Nat
def tw5119111263096423324:=Nat
def tw331111350479790237:=Nat
def tw6960871767754053789:=Nat
def tw8121671651061727581:=Nat
def tw11129637324222982877:=Nat
def tw14599215501814027197:=Nat
def tw3828492453811315709:=Nat
def tw18057501076486020190:=Nat
def tw1429861779442664638:=Nat
def tw16817775189551092062:=Nat
def tw1395610653144118654:=Nat
def tw6686472112937807294:=Nat
def tw739241549607644798:=Nat
def tw1809496140437503774:=Nat
def tw2019970036154951454:=Nat
def tw8566261378318960606:=Nat
def tw10098350820579836031:=Nat
def tw6325278126398948575:=Nat
def tw16768798013146878175:=Nat
def tw9229546289026447743:=Nat
def tw18306566402665559455:=Nat
def tw11260023218385208831:=Nat
def tw14493599203308891807:=Nat
def tw6473654842906059519:=Nat
def tw7022598991898045215:=Nat
def tw13468580196169415455:=Nat
def tw14034894964277883743:=Nat
def tw12875472992866407831:=Nat
end PySem.W.Fast
open PySem PySem.W PyProof.Rows
set_option maxRecDepth 100000 in
set_option maxHeartbeats 0 in
theorem PySem.Challenge.cw_spinfloor_k74_rough_webs_refused_holds : PySem.Challenge.rw_spinfloor_k74_rough_webs_refused.Holds := by
 w_on;o_law;k_head;(case hw=>w_witness2);k_fill;refine K8.walk (l:=PySem.Challenge.rw_spinfloor_k74_rough_webs_refused) rfl rfl (λw h Y=>PySem.W.km_in_of Y) ?R ?F;(case R=>kernel_rfl)
 case F =>
  intro w mg fa h KX G hmg;refine' K8.all_mk KX G hmg ?gs ?jD ?nN ?jC ?vK ?vJ ?BK ?gU ?gR ?e8 ?cW ?gQ ?gP ?eZ ?cV ?jn ?wN ?wJ ?Dc ?fk ?jY ?mD ?iM ?mv ?qo ?iJ ?c9 ?gk ?aR ?fZ ?my ?jX ?j7 ?qq ?mC ?fY ?j9 ?iQ ?j8 ?mB ?qu ?fV ?mw ?mz ?eO ?dH ?f9 ?iL ?iK ?qp ?ka ?wK ?jZ ?iP ?eM ?fX ?iI ?dI ?c7 ?cM ?wI ?iO ?j4 ?j6 ?gf ?gh ?iN ?nM ?pY ?vF ?pZ ?g7 ?ir ?hX ?eJ ?kP ?kW ?iH ?kR ?d8 ?eB ?bP ?cL ?gZ ?iq ?dj ?eI ?jq ?jA ?fU ?jr ?gY ?ik ?hO ?h7 ?DJ ?FG ?Ga ?FL ?fy ?iZ ?bD ?ga_TooRough ?gt_TooRough ?hb_TooRough ?ju ?jv ?jt ?bY ?bZ ?cK ?ug ?uR ?uc ?tY ?uA ?uH ?jj ?ji ?dz ?uU ?uP ?g9 ?uf ?uQ ?ub ?tX ?uz ?uG ?jh ?jg ?dy ?uT ?uO ?g8 ?zK ?AM ?zF ?zc ?Ae ?Ax ?jf ?je ?gN ?fT ?gO ?hn_ ?htk_ ?uV ?uW ?kv_ ?EF ?EG ?yz ?yx ?tD ?tE ?iY ?gB ?ED ?EB ?oM ?EE ?EA ?EI ?yy ?ku ?EC ?EH ?gC ?tbc ?tbl ?tbv ?tbn;(case gs|jD|nN|jC|vK|vJ|BK|gU|gR|e8|cW|gQ|gP|eZ|cV|jn=>k_is)
  (case wN|wJ|Dc|fk|jY|mD|iM|mv|qo|iJ|c9|gk|aR|fZ|my|jX|j7|qq|mC|fY|j9|iQ|j8|mB|qu|fV|mw|mz|eO|dH|f9|iL|iK|qp|ka|wK|jZ|iP|eM|fX|iI|dI|c7|cM|wI|iO|j4|j6|gf|gh|iN=>refine' ⟨?ja,L2.fun_mk ?jl ?jc ?jk⟩;(case ja=>k_is);(case jl=>k_is);(case jc=>k_is);(case jk=>k_is));(case nM|pY|vF|pZ|g7|ir|hX|eJ|kP|kW|iH|kR|d8|eB|bP|cL|gZ|iq|dj|eI|jq|jA|fU|jr|gY|ik|hO|h7|DJ|FG|Ga|FL=>k_is)
  (case fy|iZ=>k_exc)
  (case bD|ga_TooRough|gt_TooRough|hb_TooRough|ju|jv|jt=>k_is)
  (case bY|bZ|cK=>kit_is)
  (case ug|uR|uc|tY|uA|uH|jj|ji|dz|uU|uP=>k_is)
  (case g9=>kit_is);(case uf|uQ|ub|tX|uz|uG|jh|jg|dy|uT|uO=>k_is)
  (case g8=>kit_is);(case zK|AM|zF|zc|Ae|Ax|jf|je|gN|fT|gO|hn_|htk_|uV|uW=>k_is)
  (case kv_=>kernel_rfl);(case EF|EG|yz|yx|tD|tE|iY|gB|ED|EB|oM|EE|EA|EI|yy|ku|EC|EH|gC=>k_is)
  (case tbc=>rfl);(case tbl=>k_is);(case tbv=>rfl);(case tbn=>kernel_rfl)
