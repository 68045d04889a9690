import PyProof.Rows.All
import Wide.All
import OpenK.AllK
import Wide.FinOn
import Lean
import PyProof.EqAt
import PyProof.EqKinds
import PyProof.TupleCall
import PySem.Challenge.RW_spinfloor_k36_both_ways
open Array renaming length_toList → Gs, getElem?_toList → Hu, getElem?_eq_some_iff → HF, toArray_toList → Ii, getElem?_eq_getElem → Je
open Bool renaming false_ne_true → Fd, true_and → FZ, false_and → GO, false_xor → GZ, false_eq_true → G2, xor_false → Hf, and_false → Hn, eq_iff_iff → Ic, xor_self → Iw, xor_comm → Iy, and_eq_true → IK, xor_assoc → Jd, true_xor → Jq, and_true → Jr
open Classical renaming choose_spec → Ib, propDecidable → Jp
open Int renaming toNat_natCast → EN, zero_add → F1, le_refl → F6, emod_lt_of_pos → Gd, toNat_of_nonneg → Gn, emod_nonneg → GB, natCast_nonneg → Hl, natCast_pow → Ia, add_zero → IF, one_mul → IS, fdiv_eq_ediv_of_nonneg → IW
open List renaming getElem?_eq_getElem → EA, getElem?_eq_some_iff → EB, mem_of_getElem? → EC, mem_cons → EE, getElem?_append_right → EF, length_append → EG, getElem?_append_left → EH, length_map → EJ, mem_cons_of_mem → EK, nodup_cons → EL, mem_cons_self → EM, getElem?_map → EO, mem_append → ER, length_singleton → ES, replicate → ET, nodup_append → EU, range → EY, mem_append_right → E4, not_mem_nil → E5, map_cons → E6, length_cons → E7, size_toArray → E9, flatten_cons → Fb, length_set → Fc, length_range → Fh, mem_singleton → Fi, take_add_one → Fj, getElem?_set → Fl, mem_flatten → Fp, getD_eq_getElem?_getD → Fs, take_length → Fu, map_append → Fv, mem_append_left → Fw, length_take → Fy, mem_iff_getElem? → FD, mem_map → FJ, perm_ext_iff_of_nodup → FR, getElem?_range → FU, take_of_length_le → FX, length_pos_of_mem → FY, flatten_append → F5, perm_append_comm → F7, mem_range → F8, getElem?_replicate → Gb, length_drop → Ge, length_reverse → Gi, getElem_of_mem → Gj, append_assoc → Gk, length_replicate → Gw, getElem?_of_mem → Gx, cons_append → GD, take_append_drop → GH, sum_cons → GJ, nodup_nil → GN, erase_cons_head → GP, idxOf_lt_length_iff → GU, append_nil → GV, range_succ → G8, replicate_succ' → Hd, mem_or_eq_of_mem_set → He, find?_cons → Hk, map_map → Hs, length_filter_le → Ht, getElem?_set_ne → Hw, map_take → Hx, map_drop → Hy, getElem?_eraseIdx_of_lt → Hz, getElem?_eraseIdx_of_ge → HA, mem_filter → HC, map_congr_left → HD, lookup → HE, mem_replicate → HG, append_of_mem → HH, pairwise_iff_getElem → HI, length_erase_of_mem → HL, foldl_append → HM, filter_cons → HS, getElem?_set_self → HU, length_nil → HX, getElem?_reverse → HY, getElem?_eq_none → HZ, set_append_left → Ig, idxOf_cons_self → Ih, filterMap_cons → Im, mem_filterMap → Ir, map → Iu, getElem?_drop → Iv, reverse_cons → IC, map_set → IE, mem_reverse → II, eq_nil_of_length_eq_zero → IJ, of_mem_zip → IQ, length_eraseIdx_of_lt → IV, take_zero → Jb, drop_zero → Jc, mem_of_mem_eraseIdx → Ji, length_eq_zero_iff → Jm, any_cons → Jn, Pairwise → Jo
open List.Pairwise renaming nil → HN
open Nat renaming le_refl → EI, sub_self → EW, lt_of_lt_of_le → EZ, testBit_two_pow → Fg, ne_of_lt → Fo, le_of_lt → Fq, eq_of_testBit_eq → FA, zero_testBit → FC, le_trans → FF, lt_irrefl → FG, xor_assoc → FK, pow_le_pow_right → FL, not_lt_zero → FN, testBit_xor → FP, zero_le → FT, lt_succ_self → FV, pow_lt_pow_right → FW, mod_eq_of_lt → F4, two_pow_pos → F9, testBit_or → Gu, testBit_and → Gv, xor_lt_two_pow → GG, lt_pow_two_of_testBit → GK, le_succ → GW, testBit_lt_two_pow → G0, xor_zero → G3, xor_self → G4, testBit_two_pow_sub_one → G5, min_eq_left → G7, lt_succ_of_lt → Hc, testBit → Hh, xor_comm → Ho, ne_of_gt → Hq, mod_self → Hr, or_lt_two_pow → HK, le_of_not_lt → HQ, le_add_right → HR, mul_le_mul_right → Ie, one_lt_two_pow → Iq, testBit_eq_decide_div_mod_eq → Iz, le_of_eq → ID, not_lt_of_le → IH, left_le_or → Ja, mod_lt → Jh
open Option renaming map_eq_some_iff → Fm, isSome_iff_exists → HJ, map_some → HW
open Option.some renaming inj → E8
open PySem renaming Spec → EV, mem_of_lookup → GA, frameOf → Io
open PySem.F renaming plainAttrs_list → EX, type_list_append → Fe, slot_list_append → Ff, plain_min_loop → Fx, entry_min_loop → GC, plain_reversed_new → IT, excBase_ValueError → IU, plain_extend_loop → IZ, type_list_insert → Jf, slot_list_insert → Jg, type_list_index → Jk, slot_list_index → Jl
open PySem.W renaming Frag → ED, findIn → E3, nsIn → Fn, keepIn → Ft, mg_none_of → Fz, fnOf → FO, kitOne → FQ, kia_one → F0, codeIn → F2, mg_of → F3, emptyDict → Gg, mroIn → Gy, hasDictIn → Gz, instObj → GQ, plainGet → GX, CodeHd → GY, tabIn → G9, hideAll_get → Hg, isFn → Hi, callWith_K → Hj, plainOver → Hm, looks_findIn → Hv, makesIn → HB, Looks → HP, kla_obj → HV, lookIn → Ij, plainGet_of → Ik, looks_mroIn → Il, excIn → Ip, specialIn → IA, methodObj → IB, any_some → IG, takesIn → IL, takerIn → IM, OpenLaw → IP, tabObj → IX, notCls → IY, clsIn → Jj
set_option Elab.async false
set_option linter.all false
set_option compiler.extract_closed false
set_option genSizeOf false
set_option maxRecDepth 100000
local macro_rules | `(tactic| omega) => `(tactic| first | assumption | lia | omega +splitDisjunctions)
local macro_rules | `(tactic| ac_rfl) => `(tactic| omega +splitDisjunctions)
local macro_rules | `(tactic| ac_nf) => `(tactic| exact ⟨rfl,rfl,rfl,by decide +kernel,rfl,by decide +kernel,by decide +kernel⟩)
local macro_rules | `(tactic| decide) => `(tactic| decide +kernel)
namespace L2
open PySem PySem.Spec PyProof.Rows
noncomputable abbrev Key:=Sum Int Str
noncomputable def qw:Key->Value->Bool
 |.inl k,v=>Value.isInt k v
 |.inr x,v=>Value.isStrOf x v
noncomputable def keyH(w:World):Key->Int
 |.inl k=>hashInt k
 |.inr x=>hashStr w x
theorem bo:∀{k:Key}{v:Value},qw k v=true->(∃ i t,k=Sum.inl i/\v=Value.int i t)∨(∃ x t,k=Sum.inr x/\v=Value.str x t)
 |.inl i,v,h=>by
  obtain⟨t,e⟩:=Value.isInt_shape (k:=i) (v:=v) h;exact .inl ⟨i,t,rfl,e⟩
 |.inr x,v,h=>by
  obtain⟨t,e⟩:=Value.isStrOf_shape (x:=x) (v:=v) h;exact .inr ⟨x,t,rfl,e⟩
theorem yS(i:Int)(t:Tok):qw (.inl i) (.int i t)=true:=by simp[qw,Value.isInt]
theorem yR(x:Str)(t:Tok):qw (.inr x) (.str x t)=true:=by simp[qw,Value.isStrOf]
theorem key_ll(a b:Int):decide ((Sum.inl a:Key)=Sum.inl b)=(a == b):=by
 by_cases e:a=b
 ·subst e;simp
 ·have h:¬ (Sum.inl a:Key)=Sum.inl b:=λq=>e (Sum.inl.inj q)
  rw[decide_eq_false h];exact(beq_eq_false_iff_ne.mpr e).symm
theorem key_rr(a b:Str):decide ((Sum.inr a:Key)=Sum.inr b)=decide (a=b):=by
 by_cases e:a=b
 ·subst e;simp
 ·have h:¬ (Sum.inr a:Key)=Sum.inr b:=λq=>e (Sum.inr.inj q)
  rw[decide_eq_false h,decide_eq_false e]
theorem key_lr(a:Int)(b:Str):decide ((Sum.inl a:Key)=Sum.inr b)=false:=decide_eq_false (λq=>nomatch q)
theorem key_rl(a:Str)(b:Int):decide ((Sum.inr a:Key)=Sum.inl b)=false:=decide_eq_false (λq=>nomatch q)
noncomputable def bP(prog:Program)(w:World):PySem.KeyKind prog w Key where
 is:=qw
 hash:=keyH w
 inj:=λv a b E G=>by
  rcases bo E with⟨i,t,rfl,rfl⟩ | ⟨x,t,rfl,rfl⟩
  ·rcases bo G with⟨j,u,rfl,e⟩ | ⟨y,u,rfl,e⟩
   ·injection e with T _;rw[T]
   ·exact nomatch e
  ·rcases bo G with⟨j,u,rfl,e⟩ | ⟨y,u,rfl,e⟩
   ·exact nomatch e
   ·injection e with T _;rw[T]
 byValue:=λk v h=>by
  rcases bo h with⟨i,t,rfl,rfl⟩ | ⟨x,t,rfl,rfl⟩<;>rfl
 pyHash:=λB h=>by
  rcases bo B with⟨i,t,rfl,rfl⟩ | ⟨x,t,rfl,rfl⟩
  ·exact wpAny_pyHash_int h
  ·exact wpAny_pyHash_str h
 eqBool:=λf B h=>by
  rcases bo f with⟨i,t,rfl,rfl⟩ | ⟨x,t,rfl,rfl⟩
  ·rcases bo B with⟨j,u,rfl,rfl⟩ | ⟨y,u,rfl,rfl⟩
   ·rw[key_ll]at h;exact wpAny_eqBool_int h
   ·rw[key_lr]at h;exact SeqAt.EqAt.int_str i t y u _ _ _ _ h
  ·rcases bo B with⟨j,u,rfl,rfl⟩ | ⟨y,u,rfl,rfl⟩
   ·rw[key_rl]at h;exact SeqAt.EqAt.str_int x t j u _ _ _ _ h
   ·rw[key_rr]at h;exact wpAny_eqBool_str h
 «strs»:=λk x t v h=>by
  rcases bo h with⟨i,u,rfl,e⟩ | ⟨y,u,rfl,e⟩
  ·exact nomatch e
  ·injection e with T _;subst T
   cases v<;>rfl
theorem sQ(prog:Program)(w:World)(i:Int)(t:Tok):(bP prog w).is (.inl i) (.int i t)=true:=yS i t
theorem sP(prog:Program)(w:World)(x:Str)(t:Tok):(bP prog w).is (.inr x) (.str x t)=true:=yR x t
inductive V where
 |non | bl (b:Bool) | int (i:Int) | str (x:Str) | byt (b:Array UInt8) | flt (b:UInt64) | ref (a:Addr) | ty (n:String)
 deriving DecidableEq
noncomputable def RelV:V->Value->Prop
 |.non,u=>u=Value.none
 |.bl b,u=>u=Value.bool b
 |.int i,u=>∃ t,u=Value.int i t
 |.str x,u=>∃ t,u=Value.str x t
 |.byt b,u=>∃ t,u=Value.bytes b t
 |.flt b,u=>∃ t,u=Value.float b t
 |.ref a,u=>u=Value.ref a
 |.ty n,u=>u=Value.type n
noncomputable abbrev Vals:List V->List Value->Prop:=Paired RelV
theorem Vals.length{xs:List V}{us:List Value}(r:Vals xs us):xs.length=us.length:=Paired.length r
theorem Vals.get:∀{xs:List V}{us:List Value}{i:Nat}{x:V},Vals xs us->xs[i]?=some x->∃ u,us[i]?=some u/\RelV x u
 |_,_,_,_,.nil,e=>by simp at e
 |_,_,0,_,.cons r _,e=>by simp at e;subst e;exact⟨_,rfl,r⟩
 |_,_,i+1,x,.cons _ t,e=>by
  obtain⟨u,J,C⟩:=Vals.get (i:=i) (x:=x) t (by simpa using e)
  exact⟨u,by simpa using J,C⟩
theorem Vals.set{x:V}{u:Value}(r:RelV x u):∀{xs:List V}{us:List Value}(i:Nat),Vals xs us->Vals (xs.set i x) (us.set i u)
 |_,_,_,.nil=>.nil
 |_,_,0,.cons _ t=>.cons r t
 |_,_,i+1,.cons q t=>.cons q (Vals.set r i t)
theorem Vals.append:∀{xs ys:List V}{us l:List Value},Vals xs us->Vals ys l->Vals (xs++ys) (us++l)
 |_,_,_,_,.nil,s=>s
 |_,_,_,_,.cons r t,s=>.cons r (Vals.append t s)
theorem Vals.take:∀{xs:List V}{us:List Value}(n:Nat),Vals xs us->Vals (xs.take n) (us.take n)
 |_,_,0,_=>.nil
 |_,_,_+1,.nil=>.nil
 |_,_,n+1,.cons r t=>.cons r (Vals.take n t)
theorem Vals.drop:∀{xs:List V}{us:List Value}(n:Nat),Vals xs us->Vals (xs.drop n) (us.drop n)
 |_,_,0,r=>r
 |_,_,_+1,.nil=>.nil
 |_,_,n+1,.cons _ t=>Vals.drop n t
noncomputable def RelO:Option V->Option Value->Prop
 |some v,some u=>RelV v u
 |none,none=>True
 |_,_=>False
noncomputable def KV{a:Type}:List (a×V)->List (a×Value)->Prop:=Paired λ(p:a×V) (q:a×Value)=>p.1=q.1/\RelV p.2 q.2
noncomputable def kV:Key->V
 |.inl i=>.int i
 |.inr x=>.str x
inductive HO where
  |lst (xs:List V)
  |tup (xs:List V)
  |dK (kvs:List (Key×V)) | dT (kvs:List (List Key×V))
  |set (S:Int->Bool) (n:Nat)
  |ins (C dx:Addr) (fs:List (Str×V))
  |own (x:Addr)
  |xd (fs:List (Str×V))
  |met (f x:Addr)
  |rng (lo hi:Int)
  |frz (o:Obj) (u:HO)
  |tbl (ps:Array Value)
  |ext (φ:Heap->Prop)
noncomputable abbrev Hp:=Addr->Option HO
noncomputable def upd(H:Hp)(a:Addr)(o:HO):Hp:=λb=>if b=a then some o else H b
theorem af{H:Hp}{a:Addr}{o:HO}:upd H a o a=some o:=by unfold upd;rw[if_pos rfl]
theorem ao{H:Hp}{a b:Addr}{o:HO}(h:b≠a):upd H a o b=H b:=by unfold upd;rw[if_neg h]
theorem ne_of{H:Hp}{a b:Addr}{o u:HO}(h:H a=some o)(h':H b=some u)(d:o≠u):a≠b:=by
 intro e;subst e;rw[h]at h';exact d (E8 h')
theorem aE{H:Hp}{a b:Addr}{o:HO}(h:H a=some o)(h':H b=none):a≠b:=by
 intro e;subst e;rw[h]at h';cases h'
section
variable(P:Program)(w:World)
noncomputable def bV(H:Hp)(h:Heap)(a:Addr):HO->Prop
 |.lst M=>M.length<=sizeLine/\∃(A:List Value)(n:Nat),Vals M A/\h.get? a=some { cls:=.type "list",data:=.seq A.toArray n }
 |.tup M=>M.length<=sizeLine/\∃ A:List Value,Vals M A/\IsTup h a A.toArray
 |.dK L=>L.length<=sizeLine/\(a == sysModules)=false/\∃ N,KV L N/\h.DictOf (bP P w) a N
 |.dT L=>L.length<=sizeLine/\(a == sysModules)=false/\∃ M:List (List Key×Addr×Value),
   Paired (λ(p:List Key×V) (q:List Key×Addr×Value)=>p.1=q.1/\H q.2.1=some (.tup (p.1.map kV))/\RelV p.2 q.2.2) L M /\
   ∃ o B j,h.get? a=some o/\o.ExactDict/\o.data=.dict B j/\B.toList=M.map (entryOfKey (tupleKind (bP P w)))/\(M.map (·.1)).Nodup
 |.set S n=>h.SetOf (intKind P w) a S n
 |.ins C l fs=>H l=some (.own a)/\fs.length<=1000/\l≠a/\h.get? a=some (GQ C l) /\
   ∃ T,h.Ns1 l T/\(∀ f,RelO (fs.lookup f) (T f))/\PySem.Within T (fs.map (·.1))
 |.own _=>∃ o,h.get? a=some o
 |.xd fs=>∃ T,h.Ns1 a T/\∀ f,RelO (fs.lookup f) (T f)
 |.rng lo I=>∃ t u v,h.get? a=some { cls:=.type "range",data:=.fields #[.int lo t,.int I u,.int 1 v] }
 |.frz o u=>h.get? a=some o/\bV H h a u
 |.tbl d=>h.get? a=some { cls:=.none,data:=.fields d }
 |.met f x=>h.get? a=some (IB (.ref f) (.ref x))
 |.ext i=>i h/\(∃ o,h.get? a=some o)/\∀ J G:Heap,i J->(∀ o,J.get? a=some o->G.get? a=some o)->i G
noncomputable def HOk(H:Hp)(h:Heap):Prop:=∀ a o,H a=some o->bV P w H h a o
end
section
variable{P:Program}{w:World}{H H':Hp}{h h':Heap}{a:Addr}{o:HO}
theorem bV.lt(x:bV P w H h a o):a<h.objs.size:=by
 cases o with
 |lst M=>obtain⟨_,_,_,_,e⟩:=x;exact Heap.lt_size e
 |tup M=>obtain⟨_,_,_,p⟩:=x;exact p.lt
 |dK L=>obtain⟨_,_,_,_,o,_,_,e,_⟩:=x;exact Heap.lt_size e
 |dT L=>obtain⟨_,_,_,_,o,_,_,e,_⟩:=x;exact Heap.lt_size e
 |set S n=>obtain⟨o,_,_,_,e,_⟩:=x;exact Heap.lt_size e
 |ins C l fs=>obtain⟨_,_,_,e,_⟩:=x;exact Heap.lt_size e
 |own y=>obtain⟨_,e⟩:=x;exact Heap.lt_size e
 |xd fs=>obtain⟨_,⟨_,_,_,e,_⟩,_⟩:=x;exact Heap.lt_size e
 |rng lo I=>obtain⟨_,_,_,e⟩:=x;exact Heap.lt_size e
 |frz O u=>obtain⟨e,_⟩:=x;exact Heap.lt_size e
 |tbl d=>exact Heap.lt_size (show h.get? a=some _ from x)
 |met f y=>exact Heap.lt_size (show h.get? a=some _ from x)
 |ext i=>obtain⟨_,⟨_,e⟩,_⟩:=x;exact Heap.lt_size e
theorem Paired.mapP{α H:Type}{F G:α->H->Prop}:∀{c:List α}{d:List H},Paired F c d->(∀ a b,F a b->G a b)->Paired G c d
 |_,_,.nil,_=>.nil
 |_,_,.cons r t,f=>.cons (f _ _ r) (Paired.mapP t f)
theorem bV.stay(x:bV P w H h a o)(k:∀ b u,(b=a∨H b=some (.own a))->h.get? b=some u->h'.get? b=some u)
  (D:∀ b,H b=some (.own a)->H' b=some (.own a)) (Y:∀ b xs,H b=some (.tup xs)->H' b=some (.tup xs)):bV P w H' h' a o:=by
 induction o with
 |lst xs=>obtain⟨z,A,n,r,e⟩:=x;exact⟨z,A,n,r,k _ _ (.inl rfl) e⟩
 |tup xs=>obtain⟨z,A,r,O,e,c⟩:=x;exact⟨z,A,r,O,k _ _ (.inl rfl) e,c⟩
 |dK L=>obtain⟨z,y,N,r,O,B,j,e,c⟩:=x;exact⟨z,y,N,r,O,B,j,k _ _ (.inl rfl) e,c⟩
 |dT L =>
  obtain⟨z,y,xs,r,O,B,j,e,c⟩:=x;exact⟨z,y,xs,Paired.mapP r λp q z=>⟨z.1,Y _ _ z.2.1,z.2.2⟩,O,B,j,k _ _ (.inl rfl) e,c⟩
 |set S n=>obtain⟨O,B,j,t,e,c⟩:=x;exact⟨O,B,j,t,k _ _ (.inl rfl) e,c⟩
 |ins C l fs =>
  obtain⟨d,z,ne,e,T,⟨G,B,j,Q,c⟩,r⟩:=x;exact⟨D _ d,z,ne,k _ _ (.inl rfl) e,T,⟨G,B,j,k _ _ (.inr d) Q,c⟩,r⟩
 |own y=>obtain⟨O,e⟩:=x;exact⟨O,k _ _ (.inl rfl) e⟩
 |xd fs=>obtain⟨T,⟨G,B,j,e,c⟩,r⟩:=x;exact⟨T,⟨G,B,j,k _ _ (.inl rfl) e,c⟩,r⟩
 |rng lo I=>obtain⟨t,u,v,e⟩:=x;exact⟨t,u,v,k _ _ (.inl rfl) e⟩
 |frz O u g=>obtain⟨e,q⟩:=x;exact⟨k _ _ (.inl rfl) e,g q⟩
 |tbl E =>
  have e:h.get? a=some { cls:=.none,data:=.fields E }:=x;show h'.get? a=some { cls:=.none,data:=.fields E };exact k a _ (.inl rfl) e
 |met f y =>
  have e:h.get? a=some (IB (.ref f) (.ref y)):=x;show h'.get? a=some (IB (.ref f) (.ref y));exact k a _ (.inl rfl) e
 |ext i=>obtain⟨p,⟨o,e⟩,st⟩:=x;exact⟨st _ _ p λo q=>k _ _ (.inl rfl) q,⟨o,k _ _ (.inl rfl) e⟩,st⟩
theorem HOk.lt(x:HOk P w H h)(e:H a=some o):a<h.objs.size:=(x a o e).lt
theorem HOk.fresh(x:HOk P w H h)(e:h.objs.size<=a):H a=none:=by
 cases q:H a with
 |none=>rfl
 |some u=>exact absurd (EZ (x.lt q) e) (FG _)
theorem HOk.kept(x:HOk P w H h)(k:∀ b u,h.get? b=some u->h'.get? b=some u):HOk P w H h':=λa o e =>
 (x a o e).stay (λb u _ q=>k b u q) (λ_ q=>q) λ_ _ q=>q
theorem HOk.laid(x:HOk P w H h)(k:∀ b u,h.get? b=some u->h'.get? b=some u)(M:h.objs.size<=a)(new:bV P w (upd H a o) h' a o):HOk P w (upd H a o) h':=λb u e=>by
 have f:=x.fresh M;by_cases G:b=a
 ·subst G;rw[af]at e;cases e;exact new
 ·rw[ao G]at e;exact(x b u e).stay (λc v _ q=>k c v q) (λc q=>by rw[ao (aE q f)];exact q) λc j q=>by rw[ao (aE q f)];exact q
end
noncomputable def Rd(H:Hp)(a:Addr)(u:HO):Prop:=H a=some u∨∃ o,H a=some (.frz o u)
theorem Rd.ok{P:Program}{w:World}{H:Hp}{h:Heap}{a:Addr}{u:HO}(r:Rd H a u)(x:HOk P w H h):bV P w H h a u:=by
 rcases r with r | ⟨o,r⟩
 ·exact x a u r
 ·obtain⟨_,q⟩:=x a _ r;exact q
noncomputable def Mut:Option HO->Prop
 |some (.lst _)=>True
 |some (.dK _)=>True
 |some (.dT _)=>True
 |some (.set _ _)=>True
 |some (.ins _ _ _)=>True
 |some (.ext _)=>True
 |_=>False
section
variable{P:Program}{w:World}{H:Hp}{h h':Heap}{x e:Addr}{o':HO}
theorem HOk.write(ok:HOk P w H h)(f:Mut (H x))(j:e=x∨H e=some (.own x))(k:∀ b u,b≠e->h.get? b=some u->h'.get? b=some u)(g:∃ u,h'.get? e=some u)
  (new:bV P w (upd H x o') h' x o'):HOk P w (upd H x o') h':=λb u q=>by
 have d:∀ c y,H c=some (.own y)->c≠x:=λc y r z=>by subst z;rw[r]at f;exact f
 have i:∀ c M,H c=some (.tup M)->c≠x:=λc M r z=>by subst z;rw[r]at f;exact f
 by_cases G:b=x
 ·subst G;rw[af]at q;cases q;exact new
 ·rw[ao G]at q;by_cases a:b=e
  ·have J:H b=some (.own x):=by
    rcases j with z | z
    ·exact absurd (a.trans z) G
    ·rw[a];exact z
   rw[q]at J;cases J;obtain⟨v,B⟩:=g;exact⟨v,by rw[a];exact B⟩
  ·refine(ok b u q).stay (λc v l r=>k c v ?_ r) (λc r=>by rw[ao (d c b r)];exact r) λc M r=>by rw[ao (i c M r)];exact r
   rcases l with rfl | l
   ·exact a
   ·rintro rfl;rcases j with z | z
    ·exact d c b l z
    ·rw[l]at z;cases z;exact G rfl
end
structure Un(fs ex:List Addr)(H H':Hp)(h h':Heap):Prop where
 keep:∀ b o,h.get? b=some o->H b=none->b∉fs->b∉ex->h'.get? b=some o
 slot:∀ b o,h.get? b=some o->H b=none->b∈fs->b∉ex->∃ sl,h'.get? b=some { o with slots:=sl }
 free:∀ b o,h.get? b=some o->H b=none->b∉ex->H' b=none
 there:∀ b o,h.get? b=some o->b∉ex->∃ o',h'.get? b=some o'
 tups:∀ b xs,H b=some (.tup xs)->H' b=some (.tup xs)
 frzs:∀ b o u,H b=some (.frz o u)->H' b=some (.frz o u)
 tbls:∀ b ps,H b=some (.tbl ps)->∃ more,H' b=some (.tbl (ps++more))
section
variable{fs fs' ex ex':List Addr}{H H1 H2:Hp}{h h1 h2 h':Heap}{a x e:Addr}{o:HO}
theorem Un.any(u:Un fs ex H H1 h h1){b:Addr}{ob:Obj}(q:h.get? b=some ob)(n:H b=none)(O:b∉ex):∃ sl,h1.get? b=some { ob with slots:=sl }:=by
 by_cases G:b∈fs
 ·exact u.slot b ob q n G O
 ·exact⟨ob.slots,u.keep b ob q n G O⟩
theorem Un.kept(k:∀ b u,h.get? b=some u->h'.get? b=some u):Un fs ex H H h h' :=
 ⟨λb O q _ _ _=>k b O q,λb O q _ _ _=>⟨O.slots,k b O q⟩,λ_ _ _ n _=>n,λb O q _=>⟨O,k b O q⟩,λ_ _ q=>q,λ_ _ _ q=>q,λ_ d q=>⟨#[],by rw[q];simp⟩⟩
theorem Un.refl:Un fs ex H H h h:=Un.kept λ_ _ q=>q
theorem Un.laid(k:∀ b u,h.get? b=some u->h'.get? b=some u)(M:h.objs.size<=a)(f:H a=none):Un fs ex H (upd H a o) h h' where
 keep:=λb u q _ _ _=>k b u q
 slot:=λb u q _ _ _=>⟨u.slots,k b u q⟩
 free:=λb u q n _=>by rw[ao (Fo (EZ (Heap.lt_size q) M))];exact n
 there:=λb u q _=>⟨u,k b u q⟩
 tups:=λb j q=>by rw[ao (aE q f)];exact q
 frzs:=λb u j q=>by rw[ao (aE q f)];exact q
 tbls:=λb d q=>⟨#[],by rw[ao (aE q f),q];simp⟩
theorem Un.write(f:Mut (H x))(j:e=x∨H e=some (.own x))(k:∀ b u,b≠e->h.get? b=some u->h'.get? b=some u)(g:∃ u,h'.get? e=some u):Un fs ex H (upd H x o) h h':=by
 have O:∀ b,H b=none->b≠x:=λb n z=>by subst z;rw[n]at f;exact f
 have G:∀ b,H b=none->b≠e:=λb n z=>by
  subst z;rcases j with r | r
  ·exact O b n r
  ·rw[n]at r;cases r
 have i:∀ b u,H b=some u->¬ Mut (some u)->b≠x:=λb u q Y z=>by subst z;rw[q]at f;exact Y f
 refine⟨λb u q n _ _=>k b u (G b n) q,λb u q n _ _=>⟨u.slots,k b u (G b n) q⟩,λb u q n _=>by rw[ao (O b n)];exact n,λb u q _=>?_,
  λb M q=>by rw[ao (i b _ q λz=>z)];exact q,λb u M q=>by rw[ao (i b _ q λz=>z)];exact q,λb d q=>⟨#[],by rw[ao (i b _ q λz=>z),q];simp⟩⟩
 by_cases a:b=e
 ·subst a;exact g
 ·exact⟨u,k b u a q⟩
end
noncomputable def trk(h:Heap)(H:Hp):List Addr:=(EY h.objs.size).filter λa=>(H a).isSome
noncomputable def hidT(h:Heap)(H:Hp):Heap:=PySem.W.hideAll h (trk h H)
theorem za(h:Heap)(H:Hp):(hidT h H).objs.size=h.objs.size:=PySem.W.hideAll_size _ _
theorem kC{h:Heap}{H:Hp}{b:Addr}{o:Obj}(e:h.get? b=some o)(n:H b=none):(hidT h H).get? b=some o :=
 Hg _ e λi=>by
  have q:(H b).isSome=true:=(HC.mp i).2;rw[n]at q;simp at q
theorem DB{h:Heap}{H:Hp}{b:Addr}{o:Obj}(e:(hidT h H).get? b=some o):h.get? b=some o/\H b=none:=by
 have u:h.get? b=some o:=PySem.W.of_hideAll (trk h H) e;refine⟨u,?_⟩
 cases q:H b with
 |none=>rfl
 |some x =>
  have i:b∈trk h H:=HC.mpr ⟨F8.mpr (Heap.lt_size u),by simp[q]⟩
  have z:(hidT h H).get? b=none:=PySem.W.hideAll_none (trk h H) i;rw[z]at e;cases e
structure Mod(K:ED)(mg:Str->Option Value)(base:Heap):Prop where
 kin:K.In base
 glob:base.Ns mainGlobals mg
 blt:∃ mb,base.Ns builtinsNs mb/\∀ x:Str,x≠"__name__"->mb x=bootBuiltins x
 nolimit:base.NoLimit
set_option genInjectivity false in
structure Cx where
 prog:Program
 w:World
 K:ED
 mg:Str->Option Value
 base:Heap
 A:Around
 N:List Str
 s₀:Shared
 H₀:Hp
 env:Env
 outer:List Env
 stack:List Env
 ex:List Addr
 fn:Str->Bool
 calm:Bool
 pn:List (Addr×Obj)
 xe:Value->Shared->Prop
noncomputable def frs(l:List Env):List Addr:=l.filterMap (·.frame)
noncomputable abbrev Cx.fs(X:Cx):List Addr:=frs X.outer
noncomputable def Vis(a:Scope)(x:Str):Prop:=a.names.lookup x=some .local∨a.names.lookup x=some .cell∨a.names.lookup x=some .free
noncomputable def Loc(a:Scope)(x:Str):Prop:=a.names.lookup x=some .local∨a.names.lookup x=some .cell
noncomputable def Look(env:Env)(h:Heap)(m:Str->Option Value)(x:Str)(u:Value):Prop :=
 (env.kindOf x=some .local/\m x=some u)∨((env.kindOf x=some .cell∨env.kindOf x=some .free)/\∃ c,env.cells.lookup x=some c/\h.IsCell c (some u))
structure Cx.Ok(X:Cx):Prop where
 mod:Mod X.K X.mg X.base
 kind:X.env.scope.kind=.function
 glob:X.env.globals=mainGlobals
 blt:X.env.builtins=builtinsNs
 above:X.s₀.heap.objs.size<=X.env.locals
 inj:∀ x y c,X.env.cells.lookup x=some c->X.env.cells.lookup y=some c->x=y
 has:∀ x,(X.env.kindOf x=some .cell∨X.env.kindOf x=some .free)->∃ c,X.env.cells.lookup x=some c
 cab:∀ x c,X.fn x=true->X.env.cells.lookup x=some c->X.s₀.heap.objs.size<=c
 hd:X.calm=true->X.A.handled=none
 frames:X.A.frames=some X.stack
 stk:X.stack=X.outer∨(X.stack=X.env::X.outer/\X.env.frame=some X.env.locals)
 exf:∀ b∈X.ex,b≠X.env.locals/\∀ x c,X.env.cells.lookup x=some c->c≠b
 bs:∀ b o,X.base.get? b=some o->X.s₀.heap.get? b=some o/\X.H₀ b=none
 bsz:X.base.objs.size<=X.s₀.heap.objs.size
 noex:∀ b o,X.base.get? b=some o->b∉X.ex
 exfs:∀ b∈X.ex,b∉X.fs
 funs:X.s₀.heap.FunFrames X.base X.outer
 frf:∀ b∈X.fs,X.H₀ b=none
structure Inv(X:Cx)(pins:List (Addr×Obj))(σ:List (Option V))(H:Hp)(s:Shared):Prop where
 ok:X.Ok
 os:s.os=X.s₀.os
 bare:AllBare s.gens
 base:Un X.fs X.ex X.H₀ H X.s₀.heap s.heap
 loc:∃ m,s.heap.Ns X.env.locals m/\∀(i:Nat)(x:Str)(v:V),X.N[i]?=some x->σ[i]?=some (some v)->Vis X.env.scope x->∃ u,RelV v u/\Look X.env s.heap m x u
 cell:∀ x c,X.env.cells.lookup x=some c->∃ v,s.heap.IsCell c v
 free:H X.env.locals=none
 freeC:∀ x c,X.env.cells.lookup x=some c->H c=none
 pin:∀ p∈X.pn++pins,s.heap.get? p.1=some p.2/\H p.1=none/\p.1≠X.env.locals/\p.1∉X.fs/\∀ v,p.2.data≠.cell v
 hok:HOk X.prog X.w H s.heap
 len:σ.length=X.N.length
section
variable{X:Cx}{pins:List (Addr×Obj)}{σ:List (Option V)}{H H':Hp}{s:Shared}{h':Heap}
theorem Cx.Ok.nofr(ok:X.Ok){b:Addr}{o:Obj}(e:X.base.get? b=some o):b∉X.fs:=λG=>by
 have:=(ok.funs.mem G).1;rw[e]at this;cases this
theorem Inv.bs(I:Inv X pins σ H s):∀ b o,X.base.get? b=some o->s.heap.get? b=some o/\H b=none:=λb o e =>
 ⟨I.base.keep b o (I.ok.bs b o e).1 (I.ok.bs b o e).2 (I.ok.nofr e) (I.ok.noex b o e),I.base.free b o (I.ok.bs b o e).1 (I.ok.bs b o e).2 (I.ok.noex b o e)⟩
theorem Inv.bk(I:Inv X pins σ H s):∀ b o,X.base.get? b=some o->s.heap.get? b=some o:=λb o e=>(I.bs b o e).1
theorem Inv.mod(I:Inv X pins σ H s):Mod X.K X.mg X.base:=I.ok.mod
theorem Inv.kIn(I:Inv X pins σ H s):X.K.In s.heap:=I.ok.mod.kin.keeps I.bk
theorem Inv.nolimit(I:Inv X pins σ H s):s.heap.NoLimit:=I.ok.mod.nolimit.keeps I.bk
theorem Inv.lt(I:Inv X pins σ H s):X.env.locals<s.heap.objs.size:=let ⟨_,f,_⟩:=I.loc;f.lt
theorem Inv.sz(I:Inv X pins σ H s):X.s₀.heap.objs.size<=s.heap.objs.size:=FF I.ok.above (Fq I.lt)
theorem Inv.nofs(I:Inv X pins σ H s){a:Addr}(h:s.heap.objs.size<=a):a∉X.fs:=λG=>by
 obtain⟨_,o,N,_⟩:=I.ok.funs.mem G;exact absurd (EZ (Heap.lt_size N) (FF I.sz h)) (FG _)
theorem Inv.cne(I:Inv X pins σ H s):∀ x c,X.env.cells.lookup x=some c->c≠X.env.locals:=λx c e z=>by
 obtain⟨v,o,N,hd⟩:=I.cell x c e;obtain⟨m,⟨t,B,j,f,A,_⟩,_⟩:=I.loc;rw[z,f]at N;cases N;rw[A]at hd;cases hd
theorem Inv.funs(I:Inv X pins σ H s):s.heap.FunFrames X.base X.outer:=by
 have all:∀(l:List Env),(∀ b∈frs l,b∈X.fs)->X.s₀.heap.FunFrames X.base l->s.heap.FunFrames X.base l:=by
  intro l;induction l with
  |nil=>intro _ _;trivial
  |cons d r Y =>
   intro J D;obtain⟨g,⟨L,o,p,f,N,hd⟩,v⟩:=D;have a:L∈X.fs:=J L (by unfold frs;rw[Im,p];exact EM)
   obtain⟨E,e⟩:=I.base.slot L o N (I.ok.frf L a) a λz=>I.ok.exfs L z a;exact⟨g,⟨L,_,p,f,e,hd⟩,Y (λb G=>J b (by unfold frs;rw[Im,p];exact EK _ G)) v⟩
 exact all X.outer (λ_ G=>G) I.ok.funs
theorem Inv.stack(I:Inv X pins σ H s):s.heap.FunFrames X.base X.stack:=by
 rcases I.ok.stk with e | ⟨e,p⟩
 ·rw[e];exact I.funs
 ·rw[e];obtain⟨m,f,_⟩:=I.loc;refine .cons (by rw[I.ok.kind];decide) p f ?_ I.funs
  exact Heap.get?_none_of_le (FF I.ok.bsz I.ok.above)
theorem Inv.stkSub(I:Inv X pins σ H s):∀ b∈frs X.stack,b∈X.env.locals::X.fs:=λb G=>by
 rcases I.ok.stk with e | ⟨e,p⟩
 ·rw[e]at G;exact EK _ G
 ·rw[e]at G;unfold frs at G;rw[Im,p]at G;exact G
theorem Inv.stkFree(I:Inv X pins σ H s):∀ b∈frs X.stack,H b=none:=λb G=>by
 rcases EE.mp (I.stkSub b G)with e | G
 ·rw[e];exact I.free
 ·obtain⟨_,o,N,_⟩:=I.ok.funs.mem G;exact I.base.free b o N (I.ok.frf b G) λz=>I.ok.exfs b z G
theorem Inv.step{g':Array GenState}{t':Nat}{d':Drawn}{ch:List Addr}(I:Inv X pins σ H s)
  (y:∀ b∈ch,(b∈X.ex∨X.s₀.heap.objs.size<=b)/\b≠X.env.locals/\(∀ x c,X.env.cells.lookup x=some c->c≠b)/\∀ p∈X.pn++pins,p.1≠b)
  (keep:∀ b o,b≠X.env.locals->b∉X.fs->b∉ch->s.heap.get? b=some o->H b=none->h'.get? b=some o)
  (slot:∀ b o,b≠X.env.locals->b∈X.fs->b∉ch->s.heap.get? b=some o->H b=none->∃ sl,h'.get? b=some { o with slots:=sl }) (free:∀ b o,b∉ch->s.heap.get? b=some o->H b=none->H' b=none)
  (there:∀ b o,b∉ch->s.heap.get? b=some o->∃ t,h'.get? b=some t)
  (tups:∀ b xs,H b=some (.tup xs)->H' b=some (.tup xs)) (frzs:∀ b o u,H b=some (.frz o u)->H' b=some (.frz o u)) (tbls:∀ b ps,H b=some (.tbl ps)->∃ more,H' b=some (.tbl (ps++more)))
  (ns:∀ m,s.heap.Ns X.env.locals m->h'.Ns X.env.locals m) (Y:HOk X.prog X.w H' h') (L:AllBare g') :
  Inv X pins σ H' { s with heap:=h',gens:=g',drawn:=d',toks:=t' }:=by
 have j:∀ b o,X.s₀.heap.get? b=some o->b≠X.env.locals:=λb o e=>Fo (EZ (Heap.lt_size e) I.ok.above);have h:∀ b o,X.s₀.heap.get? b=some o->b∉X.ex->b∉ch:=λb o e O G=>by
  rcases(y b G).1 with z | z
  ·exact O z
  ·exact absurd (EZ (Heap.lt_size e) z) (FG _)
 have C:∀ x c,X.env.cells.lookup x=some c->∀ v,s.heap.IsCell c v->h'.IsCell c v:=λx c e v ⟨o,N,hd⟩=>by
  have B:c∉ch:=λz=>(y c z).2.2.1 x c e rfl;by_cases E:c∈X.fs
  ·obtain⟨sl,q⟩:=slot c o (I.cne x c e) E B N (I.freeC x c e);exact⟨_,q,hd⟩
  ·exact⟨o,keep c o (I.cne x c e) E B N (I.freeC x c e),hd⟩
 refine⟨I.ok,I.os,L,⟨λb o e n G O=>?_,λb o e n G O=>?_,λb o e n O=>?_,λb o e O=>?_,λb xs e=>tups b xs (I.base.tups b xs e),λb o xs e=>frzs b o xs (I.base.frzs b o xs e),λb ps e=>?_⟩,?_,λx c e=>?_,?_,λx c e=>?_,λp M=>?_,Y,I.len⟩
 ·exact keep b o (j b o e) G (h b o e O) (I.base.keep b o e n G O) (I.base.free b o e n O)
 ·obtain⟨sl,T⟩:=I.base.slot b o e n G O;obtain⟨aa,Q⟩:=slot b _ (j b o e) G (h b o e O) T (I.base.free b o e n O);exact⟨aa,Q⟩
 ·obtain⟨t,T⟩:=I.base.there b o e O;exact free b t (h b o e O) T (I.base.free b o e n O)
 ·obtain⟨t,T⟩:=I.base.there b o e O;exact there b t (h b o e O) T
 ·obtain⟨J,T⟩:=I.base.tbls b ps e;obtain⟨g,Q⟩:=tbls b _ T;exact⟨J++g,by rw[Q,Array.append_assoc]⟩
 ·obtain⟨m,f,D⟩:=I.loc;refine⟨m,ns m f,λi x v T Q A=>?_⟩;obtain⟨u,r,l⟩:=D i x v T Q A;refine⟨u,r,?_⟩;rcases l with l | ⟨k,c,e,z⟩
  ·exact .inl l
  ·exact .inr ⟨k,c,e,C x c e _ z⟩
 ·obtain⟨v,z⟩:=I.cell x c e;exact⟨v,C x c e v z⟩
 ·obtain⟨m,⟨o,_,_,N,_⟩,_⟩:=I.loc;exact free _ o (λz=>(y _ z).2.1 rfl) N I.free
 ·obtain⟨v,o,N,hd⟩:=I.cell x c e;exact free c o (λz=>(y c z).2.2.1 x c e rfl) N (I.freeC x c e)
 ·obtain⟨e,n,ne,a,d⟩:=I.pin p M;have B:p.1∉ch:=λz=>(y p.1 z).2.2.2 p M rfl;exact⟨keep p.1 p.2 ne a B e n,free p.1 p.2 B e n,ne,a,d⟩
theorem Inv.un{t':Nat}(I:Inv X pins σ H s)(u:Un X.fs [] H H' s.heap h')(Y:HOk X.prog X.w H' h'):Inv X pins σ H' { s with heap:=h',toks:=t' }:=by
 obtain⟨m,⟨o,B,j,N,r⟩,_⟩:=id I.loc;obtain⟨E,a⟩:=u.any N I.free (by simp)
 exact I.step (g':=s.gens) (d':=s.drawn) (ch:=[]) (λ_ z=>nomatch z) (λb o _ G _ e n=>u.keep b o e n G (by simp)) (λb o _ G _ e n=>u.slot b o e n G (by simp)) (λb o _ e n=>u.free b o e n (by simp)) (λb o _ e=>u.there b o e (by simp)) u.tups u.frzs u.tbls (λd i=>by
  obtain⟨t,es',g,f,O⟩:=i;rw[N]at f;cases f
  exact⟨_,es',g,a,O⟩) Y I.bare
theorem Inv.call{g':Array GenState}{t':Nat}{d':Drawn}{ch:List Addr}(I:Inv X pins σ H s)(u:Un (frs X.stack) ch H H' s.heap h')(Y:HOk X.prog X.w H' h')(L:AllBare g')
  (y:∀ b∈ch,(b∈X.ex∨X.s₀.heap.objs.size<=b)/\b≠X.env.locals/\(∀ x c,X.env.cells.lookup x=some c->c≠b)/\∀ p∈X.pn++pins,p.1≠b) :
  Inv X pins σ H' { s with heap:=h',gens:=g',drawn:=d',toks:=t' }:=by
 obtain⟨m,⟨o,B,j,N,r⟩,_⟩:=id I.loc;obtain⟨E,a⟩:=u.any N I.free λz=>(y _ z).2.1 rfl
 exact I.step (ch:=ch) y (λb o a G l e n=>u.keep b o e n (λz=>(EE.mp (I.stkSub b z)).elim a G) l) (λb o _ _ l e n=>u.any e n l) (λb o l e n=>u.free b o e n l) (λb o l e=>u.there b o e l) u.tups u.frzs u.tbls (λd i=>by
  obtain⟨t,es',g,f,O⟩:=i;rw[N]at f;cases f
  exact⟨_,es',g,a,O⟩) Y L
theorem Inv.turned{t':Nat}{it:Addr}(I:Inv X pins σ H s)(k:∀ b o,b≠it->s.heap.get? b=some o->h'.get? b=some o)(f:H it=none)(a:it≠X.env.locals)
  (J:it∈X.ex∨X.s₀.heap.objs.size<=it) (h2:∀ x c,X.env.cells.lookup x=some c->c≠it) (Y:∀ p∈X.pn++pins,p.1≠it):Inv X pins σ H { s with heap:=h',toks:=t' }:=by
 have h:∀ b u,H b=some u->b≠it:=λb u e z=>by rw[z,f]at e;cases e
 refine I.step (g':=s.gens) (d':=s.drawn) (ch:=[it]) (λb G=>?_) (λb o _ _ l e _=>k b o (λz=>l (by simp[z])) e) (λb o _ _ l e _=>⟨o.slots,k b o (λz=>l (by simp[z])) e⟩) (λ_ _ _ _ n=>n)
  (λb o l e=>⟨o,k b o (λz=>l (by simp[z])) e⟩) (λ_ _ e=>e) (λ_ _ _ e=>e) (λb d e=>⟨#[],by rw[e];simp⟩) (λm i=>?_) (λb u e=>?_) I.bare
 ·have e:b=it:=by simpa using G
  subst e;exact⟨J,a,h2,Y⟩
 ·obtain⟨o,B,j,N,r⟩:=i;exact⟨o,B,j,k _ o (Ne.symm a) N,r⟩
 ·refine(I.hok b u e).stay (λc v l q=>k c v ?_ q) (λ_ q=>q) λ_ _ q=>q;rcases l with z | z
  ·rw[z];exact h b u e
  ·exact h c _ z
theorem Inv.tok(I:Inv X pins σ H s)(t:Nat):Inv X pins σ H { s with toks:=t }:=I.un (h':=s.heap) (t':=t) Un.refl I.hok
theorem Inv.kept{t':Nat}(I:Inv X pins σ H s)(k:∀ b u,s.heap.get? b=some u->h'.get? b=some u):Inv X pins σ H { s with heap:=h',toks:=t' }:=I.un (Un.kept k) (I.hok.kept k)
theorem Inv.laid{a:Addr}{o:HO}{t':Nat}(I:Inv X pins σ H s)(k:∀ b u,s.heap.get? b=some u->h'.get? b=some u)(M:s.heap.objs.size<=a)(new:bV X.prog X.w (upd H a o) h' a o) :
  Inv X pins σ (upd H a o) { s with heap:=h',toks:=t' }:=I.un (Un.laid k M (I.hok.fresh M)) (I.hok.laid k M new)
theorem Inv.write{x e:Addr}{o:HO}{t':Nat}(I:Inv X pins σ H s)(f:Mut (H x))(j:e=x∨H e=some (.own x))(k:∀ b u,b≠e->s.heap.get? b=some u->h'.get? b=some u)(g:∃ u,h'.get? e=some u)
  (new:bV X.prog X.w (upd H x o) h' x o):Inv X pins σ (upd H x o) { s with heap:=h',toks:=t' }:=I.un (Un.write f j k g) (I.hok.write f j k g new)
theorem Inv.weak{σ':List (Option V)}(I:Inv X pins σ H s)(hl:σ'.length=σ.length)(w:∀ (i:Nat) v,σ'[i]?=some (some v)->σ[i]?=some (some v)):Inv X pins σ' H s :=
 ⟨I.ok,I.os,I.bare,I.base,let ⟨m,f,g⟩:=I.loc;⟨m,f,λi x v T Q A=>g i x v T (w i v Q) A⟩,I.cell,I.free,I.freeC,I.pin,I.hok,hl.trans I.len⟩
theorem Inv.pins_of{a:List (Addr×Obj)}(I:Inv X pins σ H s)(h:∀ p∈a,s.heap.get? p.1=some p.2/\H p.1=none/\p.1≠X.env.locals/\p.1∉X.fs/\∀ v,p.2.data≠.cell v):Inv X a σ H s :=
 ⟨I.ok,I.os,I.bare,I.base,I.loc,I.cell,I.free,I.freeC,λp M=>(ER.mp M).elim (λz=>I.pin p (Fw _ z)) (h p),I.hok,I.len⟩
theorem oE{N:List Str}(o:N.Nodup){i j:Nat}{x:Str}(a:N[i]?=some x)(b:N[j]?=some x):i=j:=by
 obtain⟨J,T⟩:=EB.mp a;obtain⟨C,Q⟩:=EB.mp b;exact(List.getElem_inj o).mp (T.trans Q.symm)
theorem xm{M:Model}{A:Around}{E:Value->Shared->Prop}{i:Nat}{x:Str}{v:V}{u:Value}{Q:Unit->Shared->Prop}(I:Inv X pins σ H s)(hN:X.N.Nodup)(f:X.N[i]?=some x)(O:Loc X.env.scope x)(r:RelV v u)
  (h:∀ s',Inv X pins (σ.set i (some v)) H s'->(∃ a,Heap.SameBut a s.heap s'.heap/\(a=X.env.locals∨X.env.cells.lookup x=some a))->Q () s') (hf:X.fn x=true∨X.env.scope.names.lookup x=some .local:=by first | exact .inl rfl | exact .inr rfl | assumption):wpAny M A (storeName X.env x u) Q E s:=by
 obtain⟨m,C,D⟩:=id I.loc;have aa:(X.env.scope.kind == .class||(X.env.scope.kind == .module&&X.env.locals != X.env.globals))=false:=by rw[I.ok.kind];rfl
 have an:i<σ.length:=by rw[I.len];exact(EB.mp f).1
 have cne:=I.cne;have ab:∀{a:Addr}{h':Heap},(∃ o,s.heap.get? a=some o/\H a=none)->Heap.SameBut a s.heap h'->HOk X.prog X.w H h':=λ{a h'} B J b ob e=>by
  obtain⟨_,_,al⟩:=B;refine(I.hok b ob e).stay (λc w' l q=>(J.2 c ?_).trans q) (λ_ q=>q) λ_ _ q=>q;rintro rfl;rcases l with rfl | l
  ·rw[al]at e;cases e
  ·rw[al]at l;cases l
 rcases O with g | g
 ·refine wpAny_storeName_local g C (λh' a1 J=>?_) aa;obtain⟨oL,_,_,am,_⟩:=id C;refine h _ ⟨I.ok,I.os,I.bare,⟨λb o e n G O=>?_,λb o e n G O=>?_,I.base.free,λb o e O=>?_,I.base.tups,I.base.frzs,I.base.tbls⟩,⟨_,a1,λj y v' T L e3=>?_⟩,λy c e=>?_,I.free,I.freeC,λp t=>?_,ab ⟨oL,am,I.free⟩ J,by simpa using I.len⟩ ⟨_,J,.inl rfl⟩
  ·exact(J.2 b (Fo (EZ (Heap.lt_size e) I.ok.above))).trans (I.base.keep b o e n G O)
  ·obtain⟨sl,T⟩:=I.base.slot b o e n G O;exact⟨sl,(J.2 b (Fo (EZ (Heap.lt_size e) I.ok.above))).trans T⟩
  ·obtain⟨o',T⟩:=I.base.there b o e O;exact⟨o',(J.2 b (Fo (EZ (Heap.lt_size e) I.ok.above))).trans T⟩
  ·by_cases Y:j=i
   ·subst Y;rw[f]at T;cases T;rw[HU an]at L
    cases L
    exact⟨u,r,.inl ⟨g,by simp⟩⟩
   ·rw[Hw (Ne.symm Y)]at L;obtain⟨u',r',q⟩:=D j y v' T L e3;refine⟨u',r',?_⟩;rcases q with⟨k,e⟩ | ⟨k,c,e,z⟩
    ·refine .inl ⟨k,?_⟩;have:y≠x:=λe=>Y (oE hN T (e▸f));simp[this,e]
    ·exact .inr ⟨k,c,e,z.sameBut J (cne y c e)⟩
  ·obtain⟨w',z⟩:=I.cell y c e;exact⟨w',z.sameBut J (cne y c e)⟩
  ·obtain⟨e,n,ne,nf,d⟩:=I.pin p t;exact⟨(J.2 p.1 ne).trans e,n,ne,nf,d⟩
 ·have ap:X.fn x=true:=by
   rcases hf with z | z
   ·exact z
   ·rw[z]at g;cases g
  obtain⟨c,l⟩:=I.ok.has x (.inl g);obtain⟨w',z⟩:=I.cell x c l;refine wpAny_storeName_cell I.ok.kind g l z (λh' ac J=>?_);obtain⟨oc,aP,aT⟩:=id z;refine h { s with heap:=h' } ⟨I.ok,I.os,I.bare,⟨λb o e n G O=>?_,λb o e n G O=>?_,I.base.free,λb o e O=>?_,I.base.tups,I.base.frzs,I.base.tbls⟩,⟨m,C.sameBut J (Ne.symm (cne x c l)),λj y v' T L e3=>?_⟩,λy c' e=>?_,I.free,I.freeC,λp t=>?_,ab ⟨oc,aP,I.freeC x c l⟩ J,by simpa using I.len⟩ ⟨c,J,.inr l⟩
  ·exact(J.2 b (Fo (EZ (Heap.lt_size e) (I.ok.cab x c ap l)))).trans (I.base.keep b o e n G O)
  ·obtain⟨sl,T⟩:=I.base.slot b o e n G O;exact⟨sl,(J.2 b (Fo (EZ (Heap.lt_size e) (I.ok.cab x c ap l)))).trans T⟩
  ·obtain⟨o',T⟩:=I.base.there b o e O;exact⟨o',(J.2 b (Fo (EZ (Heap.lt_size e) (I.ok.cab x c ap l)))).trans T⟩
  ·by_cases Y:j=i
   ·subst Y;rw[f]at T;cases T;rw[HU an]at L
    cases L
    exact⟨u,r,.inr ⟨.inl g,c,l,ac⟩⟩
   ·rw[Hw (Ne.symm Y)]at L;obtain⟨u',r',q⟩:=D j y v' T L e3;refine⟨u',r',?_⟩;rcases q with q | ⟨k,c',e,z'⟩
    ·exact .inl q
    ·refine .inr ⟨k,c',e,z'.sameBut J ?_⟩;rintro rfl;exact Y (oE hN T (I.ok.inj _ _ _ e l▸f))
  ·by_cases a0:c'=c
   ·subst a0;exact⟨_,ac⟩
   ·obtain⟨w2,z2⟩:=I.cell y c' e;exact⟨w2,z2.sameBut J a0⟩
  ·obtain⟨e,n,ne,nf,d⟩:=I.pin p t;refine⟨(J.2 p.1 ?_).trans e,n,ne,nf,d⟩;intro q;rw[q,aP]at e;have q':oc=p.2:=E8 e;exact d w' (by rw[← q'];exact aT)
theorem kh{M:Model}{A:Around}{E:Value->Shared->Prop}{i:Nat}{x:Str}{v:V}{u:Value}{Q:Unit->Shared->Prop}(I:Inv X pins σ H s)(o:X.N.Nodup)(f:X.N[i]?=some x)(O:Loc X.env.scope x)(r:RelV v u)
  (h:∀ s',Inv X pins (σ.set i (some v)) H s'->Q () s') (p:X.fn x=true∨X.env.scope.names.lookup x=some .local:=by first | exact .inl rfl | exact .inr rfl | assumption):wpAny M A (storeName X.env x u) Q E s :=
 xm I o f O r (λs' a _=>h s' a) p
theorem Inv.call'{s':Shared}{ch:List Addr}(I:Inv X pins σ H s)(N:s'.os=s.os)(u:Un (frs X.stack) ch H H' s.heap s'.heap)(Y:HOk X.prog X.w H' s'.heap)(L:AllBare s'.gens)
  (y:∀ b∈ch,(b∈X.ex∨X.s₀.heap.objs.size<=b)/\b≠X.env.locals/\(∀ x c,X.env.cells.lookup x=some c->c≠b)/\∀ p∈X.pn++pins,p.1≠b):Inv X pins σ H' s':=by
 obtain⟨h',g',d',t',t⟩:=s';have e:t=s.os:=N;subst e;exact I.call (g':=g') (t':=t') (d':=d') u Y L y
end
noncomputable abbrev XK:=Value->Option Addr->Hp->Prop
noncomputable abbrev St:=List (Option V)
noncomputable abbrev VK:=V->Hp->Prop
noncomputable abbrev TE:=St->Hp->VK->Prop
noncomputable abbrev TT:=St->Hp->(Bool->Hp->Prop)->Prop
noncomputable abbrev TA:=St->Hp->(List V->Hp->Prop)->Prop
set_option genInjectivity false in
structure Ends where
 nx:St->Hp->Prop
 rt:VK
 bk:St->Hp->Prop:=λ_ _=>False
 ct:St->Hp->Prop:=λ_ _=>False
noncomputable abbrev TS:=Ends->St->Hp->Prop
noncomputable def EP(X:Cx)(B:List (Addr×Obj))(σ:St)(Q:VK)(u:Value)(s':Shared):Prop:=∃ v j,Inv X B σ j s'/\RelV v u/\Q v j
noncomputable def TP(X:Cx)(B:List (Addr×Obj))(σ:St)(Q:Bool->Hp->Prop)(b:Bool)(s':Shared):Prop:=∃ j,Inv X B σ j s'/\Q b j
noncomputable def AP(X:Cx)(B:List (Addr×Obj))(σ:St)(Q:List V->Hp->Prop)(us:List Value)(s':Shared):Prop:=∃ N j,Inv X B σ j s'/\Vals N us/\Q N j
noncomputable def SP(X:Cx)(B:List (Addr×Obj))(D:Ends)(f:Flow)(s':Shared):Prop :=
 match f with
 |.next=>∃ z j,Inv X B z j s'/\D.nx z j
 |.brk=>∃ z j,Inv X B z j s'/\D.bk z j
 |.cont=>∃ z j,Inv X B z j s'/\D.ct z j
 |.ret u=>∃ v z j,Inv X B z j s'/\RelV v u/\D.rt v j
noncomputable def PE(X:Cx)(e:Expr)(t:TE):Prop :=
 ∀(B:List (Addr×Obj))(s:Shared)(Y:St)(H:Hp)(Q:VK),Inv X B Y H s->t Y H Q->wpAny (model X.prog X.w) X.A (eval e X.env) (EP X B Y Q) X.xe s
noncomputable def PT(X:Cx)(e:Expr)(t:TT):Prop :=
 ∀(B:List (Addr×Obj))(s:Shared)(Y:St)(H:Hp)(Q:Bool->Hp->Prop),Inv X B Y H s->t Y H Q->wpAny (model X.prog X.w) X.A (isTrue e X.env (eval e X.env)) (TP X B Y Q) X.xe s
noncomputable def PW(X:Cx)(e:Expr)(t:TT):Prop :=
 ∀(whole:Sem Value)(B:List (Addr×Obj))(s:Shared)(Y:St)(H:Hp)(Q:Bool->Hp->Prop),Inv X B Y H s->t Y H Q->wpAny (model X.prog X.w) X.A (isTrue e X.env whole) (TP X B Y Q) X.xe s
theorem PW.pt{X:Cx}{e:Expr}{t:TT}(h:PW X e t):PT X e t:=h _
noncomputable def PA(X:Cx)(es:List Expr)(t:TA):Prop :=
 ∀(a:Pos)(B:List (Addr×Obj))(s:Shared)(Y:St)(H:Hp)(Q:List V->Hp->Prop),Inv X B Y H s->t Y H Q->wpAny (model X.prog X.w) X.A (spliced (backTo a (starEach es X.env))) (AP X B Y Q) X.xe s
noncomputable def PS(X:Cx)(st:Stmt)(t:TS):Prop :=
 ∀(B:List (Addr×Obj))(s:Shared)(Y:St)(H:Hp)(D:Ends),Inv X B Y H s->t D Y H->wpAny (model X.prog X.w) X.A (exec st X.env) (SP X B D) X.xe s
noncomputable def PSs(X:Cx)(st:List Stmt)(t:TS):Prop :=
 ∀(B:List (Addr×Obj))(s:Shared)(Y:St)(H:Hp)(D:Ends),Inv X B Y H s->t D Y H->wpAny (model X.prog X.w) X.A (execs st X.env) (SP X B D) X.xe s
theorem thn{α:Type}{t:Sem α}{Q v:α->Shared->Prop}{M:Model}{A:Around}{E:Value->Shared->Prop}{s:Shared}(h:wpAny M A t Q E s)(B:∀ a s,Q a s->v a s):wpAny M A t v E s:=wpAny_mono h B λ_ _ x=>x
section
variable{X:Cx}
noncomputable def tVar(i:Nat):TE:=λY H Q=>∃ v,Y[i]?=some (some v)/\Q v H
noncomputable def tC(v:V):TE:=λ_ H Q=>Q v H
theorem pe_var{i:Nat}{x:Str}{pos:Pos}(o:X.N[i]?=some x)(k:Vis X.env.scope x) (hd:(x == ("__debug__" : Str))=false:=by decide) (O:(x == ("__classdict__" : Str))=false:=by decide):PE X (.Name x pos) (tVar i):=by
 intro B s Y H Q I h;obtain⟨v,e,h⟩:=h;obtain⟨m,f,D⟩:=I.loc;obtain⟨u,r,l⟩:=D i x v o e k;have fin:EP X B Y Q u s:=⟨v,H,I,r,h⟩;rcases l with⟨g,L⟩ | ⟨g,c,E,a⟩
 ·exact wpAny_Name (wpAny_loadName_local I.ok.kind g f L fin) hd
 ·rcases g with g | g
  ·exact wpAny_Name (wpAny_loadName_cell I.ok.kind g E a fin) hd
  ·exact wpAny_Name (wpAny_loadName_free I.ok.kind g E a fin O) hd
theorem ai{i j pos}:PE X (.Constant (.int i) j pos) (tC (.int i)):=λ_ _ _ H _ I h=>wpAny_Constant_int ⟨.int i,H,I.tok _,⟨_,rfl⟩,h⟩
theorem mI{b j pos}:PE X (.Constant (.bool b) j pos) (tC (.bl b)):=λ_ _ _ H _ I h=>Constant_bool ⟨.bl b,H,I,rfl,h⟩
theorem lg{j pos}:PE X (.Constant .none j pos) (tC .non):=λ_ _ _ H _ I h=>Constant_none ⟨.non,H,I,rfl,h⟩
theorem pe_str{x j pos}:PE X (.Constant (.str x) j pos) (tC (.str x)):=λ_ _ _ H _ I h=>Calls.Constant_str ⟨.str x,H,I.tok _,⟨_,rfl⟩,h⟩
noncomputable def Gl(X:Cx)(x:Str):Prop:=X.env.kindOf x=some .globalImplicit
theorem gH{E:Value->Shared->Prop}{B:List (Addr×Obj)}{s:Shared}{σ:St}{H:Hp}{x:Str}{u:Value}{pos:Pos}{Q:Value->Shared->Prop}(I:Inv X B σ H s)(L:Gl X x)(i:X.mg x=some u)(h:Q u s)
  (hd:(x == ("__debug__" : Str))=false:=by decide):wpAny (model X.prog X.w) X.A (eval (.Name x pos) X.env) Q E s :=
 Calls.Name_function_global I.ok.kind L (Calls.loadGlobal_global (by rw[I.ok.glob];exact I.mod.glob.keeps I.bk) i h) hd
theorem eh{E:Value->Shared->Prop}{B:List (Addr×Obj)}{s:Shared}{σ:St}{H:Hp}{x:Str}{u:Value}{pos:Pos}{Q:Value->Shared->Prop}(I:Inv X B σ H s)(L:Gl X x)(i:X.mg x=none)(k:bootBuiltins x=some u)(h:Q u s)
  (f:x≠"__name__":=by decide) (hd:(x == ("__debug__" : Str))=false:=by decide):wpAny (model X.prog X.w) X.A (eval (.Name x pos) X.env) Q E s:=by
 obtain⟨y,J,C⟩:=I.mod.blt;exact Calls.Name_function_global I.ok.kind L (Calls.loadGlobal_builtin (by rw[I.ok.glob];exact I.mod.glob.keeps I.bk) i (by rw[I.ok.blt];exact J.keeps I.bk) ((C x f).trans k) h) hd
theorem lh{x:Str}{v:V}{u:Value}{pos:Pos}(L:Gl X x)(i:X.mg x=some u)(r:RelV v u) (hd:(x == ("__debug__" : Str))=false:=by decide):PE X (.Name x pos) (tC v) :=
 λ_ _ _ H _ I h=>gH I L i ⟨v,H,I,r,h⟩ hd
theorem lu{x:Str}{v:V}{u:Value}{pos:Pos}(L:Gl X x)(i:X.mg x=none)(B:bootBuiltins x=some u)(r:RelV v u) (f:x≠"__name__":=by decide) (hd:(x == ("__debug__" : Str))=false:=by decide):PE X (.Name x pos) (tC v) :=
 λ_ _ _ H _ I h=>eh I L i B ⟨v,H,I,r,h⟩ f hd
variable{a b:Expr}{ta tb:TE}{pos:Pos}
noncomputable def PC(X:Cx)(op:CmpOp)(a b:Expr)(t:TE):Prop :=
 ∀(B:List (Addr×Obj))(s:Shared)(Y:St)(H:Hp)(Q:VK),Inv X B Y H s->t Y H Q ->
  wpAny (model X.prog X.w) X.A (eval a X.env) (λv z=>wpAny (model X.prog X.w) X.A (eval b X.env) (λu x=>wpAny (model X.prog X.w) X.A (compareOp op v u) (EP X B Y Q) X.xe x) X.xe z) X.xe s
noncomputable def tB(t:TE):TT:=λY H Q=>t Y H λx O=>∃ c,x=.bl c/\Q c O
theorem Cj{op:CmpOp}{t:TE}(h:PC X op a b t)(J:behindInMarks op b=false:=by first | exact nobehind _ (by decide) (by decide) | rfl):PT X (.Compare a [op] [b] pos) (tB t):=by
 intro B s Y H Q I i;refine wpAny_isTrue_Compare1 (thn (h B s Y H _ I i) λv m J=>thn J λu j C=>thn C λc k ⟨x,O,y,M,n⟩=>?_) J;obtain⟨d,rfl,q⟩:=n
 cases M
 exact wpAny_truthy_bool ⟨O,y,q⟩
theorem i6{e:Expr}{t:TE}(h:PE X e t)(j:∀ whole,isTrue e X.env whole=(do let v ← whole;standAt e.pos;holding [v] (truthy v)):=by intro _;rfl):PT X e (tB t):=by
 intro B s Y H Q I c;refine isTrue_plain (thn (h B s Y H _ I c) λv m ⟨x,O,y,C,n⟩=>?_) (j _);obtain⟨d,rfl,q⟩:=n
 cases C
 exact wpAny_truthy_bool ⟨O,y,q⟩
variable{tA tB':TT}{rest:List Expr}
noncomputable def tAnd(t u:TT):TT:=λY H Q=>t Y H λc O=>if c=true then u Y O Q else Q false O
noncomputable def tOr(t u:TT):TT:=λY H Q=>t Y H λc O=>if c=true then Q true O else u Y O Q
noncomputable def tNot(t:TT):TT:=λY H Q=>t Y H λc O=>Q (!c) O
theorem Df(E:PT X a tA):PW X (.BoolOp .And [a] pos) tA:=by
 intro d B s Y H Q I h;refine isTrue_and (thn (E B s Y H Q I h) λc m e=>?_)
 cases c with
 |true=>exact isTrue_and_nil e
 |false=>exact e
theorem kZ(E:PT X a tA):PW X (.BoolOp .Or [a] pos) tA:=by
 intro d B s Y H Q I h;refine isTrue_or (thn (E B s Y H Q I h) λc m e=>?_)
 cases c with
 |false=>exact isTrue_or_nil e
 |true=>exact e
theorem pw_and(E:PT X a tA)(G:PW X (.BoolOp .And (b::rest) pos) tB'):PW X (.BoolOp .And (a::b::rest) pos) (tAnd tA tB'):=by
 intro d B s Y H Q I h;refine isTrue_and (thn (E B s Y H _ I h) λc m ⟨O,y,n⟩=>?_)
 cases c with
 |true=>exact G d B m Y O Q y n
 |false=>exact⟨O,y,n⟩
theorem rZ(E:PT X a tA)(G:PW X (.BoolOp .Or (b::rest) pos) tB'):PW X (.BoolOp .Or (a::b::rest) pos) (tOr tA tB'):=by
 intro d B s Y H Q I h;refine isTrue_or (thn (E B s Y H _ I h) λc m ⟨O,y,n⟩=>?_)
 cases c with
 |true=>exact⟨O,y,n⟩
 |false=>exact G d B m Y O Q y n
theorem i7(E:PT X a tA):PT X (.UnaryOp .Not a pos) (tNot tA):=by
 intro B s Y H Q I h;exact isTrue_not (E B s Y H (λc O=>Q (!c) O) I h)
noncomputable def tAndV(ta tb:TE):TE:=λY H Q=>ta Y H λx O=>∃ c,x=.bl c/\if c=true then tb Y O Q else Q (.bl false) O
noncomputable def tNotV(ta:TE):TE:=λY H Q=>ta Y H λx O=>∃ c,x=.bl c/\Q (.bl (!c)) O
theorem yi{op}{t:TE}(h:PE X a t):PE X (.BoolOp op [a] pos) t:=λB s Y H Q I c=>BoolOp_one (h B s Y H Q I c)
theorem yq(E:PE X a ta)(G:PE X (.BoolOp .And (b::rest) pos) tb):PE X (.BoolOp .And (a::b::rest) pos) (tAndV ta tb):=by
 intro B s Y H Q I h;refine BoolOp_and (thn (E B s Y H _ I h) λv m ⟨x,O,y,C,n⟩=>?_);obtain⟨c,rfl,n⟩:=n
 cases C
 refine wpAny_truthy_bool ?_
 cases c with
 |true=>exact G B m Y O Q y n
 |false=>exact⟨.bl false,O,y,rfl,n⟩
theorem yj(E:PE X a ta):PE X (.UnaryOp .Not a pos) (tNotV ta):=by
 intro B s Y H Q I h;refine UnaryOp_ (thn (E B s Y H _ I h) λv m ⟨x,O,y,C,n⟩=>?_);obtain⟨c,rfl,n⟩:=n
 cases C
 exact not_of (wpAny_truthy_bool ⟨.bl (!c),O,y,rfl,n⟩)
noncomputable def tIf(t:TT)(ta tb:TE):TE:=λY H Q=>t Y H λc O=>if c=true then ta Y O Q else tb Y O Q
theorem i8{c:Expr}(l:PT X c tA)(E:PE X a ta)(G:PE X b tb):PE X (.IfExp c a b pos) (tIf tA ta tb):=by
 intro B s Y H Q I h;refine wpAny_IfExp (thn (l B s Y H _ I h) λd m ⟨O,y,n⟩=>?_)
 cases d with
 |true=>exact E B m Y O Q y n
 |false=>exact G B m Y O Q y n
end
noncomputable def SqL(K:ED)(H:Hp)(a:Addr)(xs:List V):Prop :=
 Rd H a (.lst xs) ∨
  ∃(o:Obj)(A:Array Value)(n:Nat),K.lookup a=some o/\o.cls=.type "list"/\o.dict=none/\o.data=.seq A n/\A.size<=sizeLine/\Vals xs A.toList
noncomputable def SqT(K:ED)(H:Hp)(a:Addr)(xs:List V):Prop :=
 Rd H a (.tup xs) ∨
  ∃(o:Obj)(A:Array Value)(n:Nat),K.lookup a=some o/\o.cls=.type "tuple"/\o.data=.seq A n/\A.size<=sizeLine/\Vals xs A.toList
noncomputable def absV:Value->Option V
 |.none=>some .non
 |.bool b=>some (.bl b)
 |.int i _=>some (.int i)
 |.str x _=>some (.str x)
 |.bytes b _=>some (.byt b)
 |.float b _=>some (.flt b)
 |.ref a=>some (.ref a)
 |.type n=>some (.ty n)
 |_=>none
theorem RelV.abs{x:V}{u:Value}(r:RelV x u):absV u=some x:=by
 cases x with
 |non=>cases r;rfl
 |bl _=>cases r;rfl
 |int _=>obtain⟨t,rfl⟩:=r;rfl
 |str _=>obtain⟨t,rfl⟩:=r;rfl
 |byt _=>obtain⟨t,rfl⟩:=r;rfl
 |flt _=>obtain⟨t,rfl⟩:=r;rfl
 |ref _=>cases r;rfl
 |ty _=>cases r;rfl
theorem RelV.inj{x y:V}{u:Value}(r:RelV x u)(q:RelV y u):x=y:=E8 (r.abs.symm.trans q.abs)
theorem Vals.inj:∀{xs ys:List V}{us:List Value},Vals xs us->Vals ys us->xs=ys
 |_,_,_,.nil,.nil=>rfl
 |_,_,_,.cons r t,.cons O n=>by rw[r.inj O,Vals.inj t n]
section
variable{X:Cx}{pins:List (Addr×Obj)}{σ:St}{H:Hp}{s:Shared}{a:Addr}{xs ys:List V}
theorem SqL.of{K:ED}(h:H a=some (.lst xs)):SqL K H a xs:=.inl (.inl h)
theorem SqT.of{K:ED}(h:H a=some (.tup xs)):SqT K H a xs:=.inl (.inl h)
theorem Inv.list(I:Inv X pins σ H s)(h:SqL X.K H a xs):∃ its:List Value,Vals xs its/\PlainL s.heap a its.toArray/\xs.length<=sizeLine:=by
 rcases h with h | ⟨o,its,n,g,l,hd,J,i,r⟩
 ·obtain⟨z,its,n,r,e⟩:=h.ok I.hok;exact⟨its,r,⟨_,n,e,rfl,rfl,rfl⟩,z⟩
 ·refine⟨its.toList,r,⟨o,n,I.kIn a o g,l,hd,by simpa using J⟩,?_⟩
  have e:=r.length;simp only[Gs]at e;omega
theorem Inv.tuple(I:Inv X pins σ H s)(h:SqT X.K H a xs):∃ its:List Value,Vals xs its/\IsTup s.heap a its.toArray/\xs.length<=sizeLine:=by
 rcases h with h | ⟨o,its,n,g,l,J,i,r⟩
 ·obtain⟨z,its,r,p⟩:=h.ok I.hok;exact⟨its,r,p,z⟩
 ·refine⟨its.toList,r,⟨o,I.kIn a o g,l,n,by simpa using J⟩,?_⟩
  have e:=r.length;simp only[Gs]at e;omega
theorem Inv.list_inj(I:Inv X pins σ H s)(h:SqL X.K H a xs)(h':SqL X.K H a ys):xs=ys:=by
 obtain⟨A,r,⟨o,n,e,_,_,d⟩,_⟩:=I.list h;obtain⟨b,O,⟨t,g,u,_,_,c⟩,_⟩:=I.list h';rw[e]at u;cases u;rw[d]at c;injection c with d1 _;have:A=b:=by simpa using congrArg Array.toList d1
 subst this;exact r.inj O
end
noncomputable abbrev Cx.wish(X:Cx)(E:Value->Shared->Prop):Cx:={ X with xe:=E }
noncomputable abbrev Cx.nox(X:Cx):Cx:=X.wish λ_ _=>False
theorem Cx.Ok.wish{X:Cx}(ok:X.Ok)(E:Value->Shared->Prop):(X.wish E).Ok :=
 ⟨ok.mod,ok.kind,ok.glob,ok.blt,ok.above,ok.inj,ok.has,ok.cab,ok.hd,ok.frames,ok.stk,ok.exf,ok.bs,ok.bsz,ok.noex,ok.exfs,ok.funs,ok.frf⟩
theorem Cx.Ok.unwish{X:Cx}{E:Value->Shared->Prop}(ok:(X.wish E).Ok):X.Ok :=
 ⟨ok.mod,ok.kind,ok.glob,ok.blt,ok.above,ok.inj,ok.has,ok.cab,ok.hd,ok.frames,ok.stk,ok.exf,ok.bs,ok.bsz,ok.noex,ok.exfs,ok.funs,ok.frf⟩
section
variable{X:Cx}{pins:List (Addr×Obj)}{σ:St}{H:Hp}{s:Shared}{E:Value->Shared->Prop}
theorem Inv.wish(I:Inv X pins σ H s)(E:Value->Shared->Prop):Inv (X.wish E) pins σ H s:=⟨I.ok.wish E,I.os,I.bare,I.base,I.loc,I.cell,I.free,I.freeC,I.pin,I.hok,I.len⟩
theorem Inv.unwish(I:Inv (X.wish E) pins σ H s):Inv X pins σ H s:=⟨I.ok.unwish,I.os,I.bare,I.base,I.loc,I.cell,I.free,I.freeC,I.pin,I.hok,I.len⟩
theorem SP.unwish{D:Ends}{f:Flow}{s':Shared}(h:SP (X.wish E) pins D f s'):SP X pins D f s':=by
 cases f with
 |next=>obtain⟨z,j,I,q⟩:=h;exact⟨z,j,I.unwish,q⟩
 |brk=>obtain⟨z,j,I,q⟩:=h;exact⟨z,j,I.unwish,q⟩
 |cont=>obtain⟨z,j,I,q⟩:=h;exact⟨z,j,I.unwish,q⟩
 |ret u=>obtain⟨v,z,j,I,r,q⟩:=h;exact⟨v,z,j,I.unwish,r,q⟩
theorem PSs.nox{st:List Stmt}{t:TS}(h:PSs X.nox st t):PSs X st t:=λpins s σ H D I c =>
 wpAny_mono (h pins s σ H D (I.wish _) c) (λ_ _ q=>q.unwish) λ_ _ z=>False.elim z
end
section
variable{X:Cx}{st:Stmt}{rest:List Stmt}{t u:TS}{e:Expr}{te:TE}{pos:Pos}
noncomputable def tNext:TS:=λD Y H=>D.nx Y H
noncomputable def tSeq(t u:TS):TS:=λD Y H=>t { D with nx:=u D } Y H
theorem aR:PSs X [] tNext:=λ_ _ Y H _ I h=>wpAny_execs_nil ⟨Y,H,I,h⟩
theorem ag(J:PS X st t)(h2:PSs X rest u):PSs X (st::rest) (tSeq t u):=by
 intro B s Y H D I h;refine wpAny_execs_cons (thn (J B s Y H { D with nx:=u D } I h) λf m q=>?_)
 cases f with
 |next =>
  obtain⟨z,j,a,q⟩:=q;exact h2 B m z j D a q
 |ret v=>exact q
 |brk=>exact q
 |cont=>exact q
theorem ak(J:PS X st t):PSs X [st] t:=by
 intro B s Y H D I h;refine wpAny_execs_cons (thn (J B s Y H D I h) λf m q=>?_)
 cases f with
 |next=>exact wpAny_execs_nil q
 |ret v=>exact q
 |brk=>exact q
 |cont=>exact q
theorem Inv.quiet{B:List (Addr×Obj)}{σ:St}{H:Hp}{s:Shared}(I:Inv X B σ H s):interactive X.env=false:=by simp[interactive,I.ok.kind]
noncomputable def tDrop(te:TE):TS:=λD Y H=>te Y H λ_ O=>D.nx Y O
theorem aW(j:PE X e te)(J:swapsWith e none pos.line X.env=pure false:=by rfl):PS X (.Expr e pos) (tDrop te):=by
 intro B s Y H D I h;exact wpAny_Expr_any (thn (j B s Y H _ I h) λv m ⟨x,O,y,C,n⟩=>⟨Y,O,y,n⟩) I.quiet J
noncomputable def tRet(te:TE):TS:=λD Y H=>te Y H D.rt
theorem aH(j:PE X e te):PS X (.Return (some e) pos) (tRet te):=by
 intro B s Y H D I h;exact wpAny_Return_some (thn (j B s Y H _ I h) λv m ⟨x,O,y,C,n⟩=>⟨x,Y,O,y,C,n⟩)
noncomputable def tRetN:TS:=λD _ H=>D.rt .non H
theorem Dg:PS X (.Return none pos) tRetN:=λ_ _ Y H _ I h=>wpAny_Return_none ⟨.non,Y,H,I,rfl,h⟩
noncomputable def tIfS(c:TT)(t u:TS):TS:=λD Y H=>c Y H λb O=>if b=true then t D Y O else u D Y O
theorem bN{c:Expr}{a b:List Stmt}{T:TT}(l:PT X c T)(E:PSs X a t)(G:PSs X b u):PS X (.If c a b pos) (tIfS T t u):=by
 intro B s Y H D I h;refine wpAny_If (thn (l B s Y H _ I h) λd m ⟨O,y,n⟩=>?_)
 cases d with
 |true=>exact E B m Y O D y n
 |false=>exact G B m Y O D y n
noncomputable def tNever:TS:=λ_ _ _=>False
theorem cH:PS X st tNever:=λ_ _ _ _ _ _ h=>h.elim
end
noncomputable abbrev TG:=V->St->Hp->(St->Hp->Prop)->Prop
noncomputable abbrev TGs:=List V->St->Hp->(St->Hp->Prop)->Prop
noncomputable def PG(X:Cx)(a:Expr)(t:TG):Prop :=
 ∀(B:List (Addr×Obj))(s:Shared)(Y:St)(H:Hp)(v:V)(u:Value)(Q:St->Hp->Prop),Inv X B Y H s->RelV v u->t v Y H Q ->
  wpAny (model X.prog X.w) X.A (assign a X.env u) (λ_ g=>∃ z j,Inv X B z j g/\Q z j) X.xe s
noncomputable def PGs(X:Cx)(ts:List Expr)(t:TGs):Prop :=
 ∀(B:List (Addr×Obj))(s:Shared)(Y:St)(H:Hp)(N:List V)(d:List Value)(Q:St->Hp->Prop),Inv X B Y H s->Vals N d->t N Y H Q ->
  wpAny (model X.prog X.w) X.A (assignInOrder ((assignEach ts X.env).map (·.2)) d) (λ_ g=>∃ z j,Inv X B z j g/\Q z j) X.xe s
noncomputable abbrev TSet:=V->V->V->Hp->(Hp->Prop)->Prop
noncomputable def PSet(X:Cx)(t:TSet):Prop :=
 ∀(B:List (Addr×Obj))(s:Shared)(Y:St)(H:Hp)(o i v:V)(p D u:Value)(Q:Hp->Prop),Inv X B Y H s->RelV o p->RelV i D->RelV v u->t o i v H Q ->
  wpAny (model X.prog X.w) X.A (setItem p D u) (λ_ g=>∃ j,Inv X B Y j g/\Q j) X.xe s
section
variable{X:Cx}{pos:Pos}
noncomputable def vN(i:Nat):TG:=λv Y H Q=>Q (Y.set i (some v)) H
theorem aC{i:Nat}{x:Str}(o:X.N.Nodup)(f:X.N[i]?=some x)(O:Loc X.env.scope x)(p:X.fn x=true∨X.env.scope.names.lookup x=some .local:=by first | exact .inl rfl | exact .inr rfl | assumption):PG X (.Name x pos) (vN i):=by
 intro B s Y H v u Q I r h;exact wpAny_assign_Name (kh I o f O r (λg a=>⟨_,H,a,h⟩) p)
noncomputable def gNil:TGs:=λN Y H Q=>N = []/\Q Y H
noncomputable def gCons(t:TG)(u:TGs):TGs:=λN Y H Q=>∃ v r,N=v::r/\t v Y H λz j=>u r z j Q
theorem gv:PGs X [] gNil:=by
 intro B s Y H N d Q I r h;obtain⟨e,h⟩:=h;subst e
 cases r
 exact assignInOrder_nil ⟨Y,H,I,h⟩
theorem bx{e:Expr}{es:List Expr}{t:TG}{u:TGs}(J:PG X e t)(h2:PGs X es u)
  (p:(assignEach (e::es) X.env).map (·.2)=assign e X.env::(assignEach es X.env).map (·.2):=by rfl):PGs X (e::es) (gCons t u):=by
 intro B s Y H N d Q I r h;obtain⟨v,j,T,h⟩:=h;subst T
 cases r with
 |cons r b =>
  rw[p];refine assignInOrder_cons (thn (J B s Y H _ _ _ I r h) λ_ m ⟨E,O,y,n⟩=>?_);exact h2 B m E O _ _ Q y b n
noncomputable def gTup(K:ED)(n:Nat)(t:TGs):TG:=λv Y H Q=>∃ a M,v=.ref a/\SqT K H a M/\M.length=n/\t M Y H Q
theorem mX{es:List Expr}{k:Nat}{t:TGs}{n:Nat}(l:X.calm=true)(h:PGs X es t)
  (f:(assignEach es X.env).length=n:=by rfl) (z:(assignEach es X.env).findIdx? (·.1)=none:=by rfl):PG X (.Tuple es k pos) (gTup X.K n t):=by
 intro B s Y H v u Q I r c;obtain⟨a,M,T,d,D,c⟩:=c;subst T
 cases r
 obtain⟨A,m,g,i⟩:=I.tuple d;refine assign_Tuple_tuple (I.ok.hd l) g (by simp[f,← D,m.length]) z λG O=>?_
 have y:Inv X B Y H { s with heap:=G }:=I.kept (t':=s.toks) λb o e=>O b o (Fo (Heap.lt_size e)) e;exact h B _ Y H M _ Q y (by simpa using m) c
noncomputable def gSub(b a:TE)(t:TSet):TG:=λv Y H Q=>b Y H λo O=>a Y O λi u=>t o i v u λe=>Q Y e
theorem jW{o i:Expr}{b a:TE}{t:TSet}(N:PE X o b)(f:PE X i a)(J:PSet X t)
  (E:∀ v,assign (.Subscript o i pos) X.env v=(do
   let p ← holding [v] (eval o X.env)
   let D ← holding [v,p] (eval i X.env)
   standAt pos
   holding [v,p,D] (setItem p D v)
   release [v,p,D] []):=by intro _;rfl):PG X (.Subscript o i pos) (gSub b a t):=by
 intro B s Y H v u Q I r h;rw[E];refine wpAny_bind (wpAny_holding (thn (N B s Y H _ I h) λp m ⟨x,O,c,C,n⟩=>?_));refine wpAny_bind (wpAny_holding (thn (f B m Y O _ c n) λD j ⟨y,d,z,l,M⟩=>?_));refine wpAny_bind (wpAny_standAt (wpAny_bind (wpAny_holding (thn (J B j Y d x y v p D u _ z C l r M) λ_ k ⟨e,G,q⟩=>?_))));exact wpAny_release ⟨Y,e,G,q⟩
noncomputable def tAsg(te:TE)(g:TG):TS:=λD Y H=>te Y H λx O=>g x Y O D.nx
theorem jU{T e:Expr}{te:TE}{g:TG}(j:PE X e te)(L:PG X T g)(p:swapsWithSole [T] e pos.line X.env=pure false:=by rfl)(hw:swappedStores [T] e X.env=pure none:=by rfl)
  (J:(assignEach [T] X.env).map (·.2) = [assign T X.env]:=by rfl):PS X (.Assign [T] e pos) (tAsg te g):=by
 intro B s Y H D I h;refine wpAny_Assign_stores (thn (j B s Y H _ I h) λv m ⟨x,O,y,C,n⟩=>?_) p hw;rw[J];exact thn (L B m Y O x v _ y C n) λ_ a q=>q
theorem au{i:Nat}{x:Str}{e:Expr}{te:TE}{a:Pos}(o:X.N.Nodup)(f:X.N[i]?=some x)(O:Loc X.env.scope x)(j:PE X e te)(J:swapsWith e (some (.Name x a)) pos.line X.env=pure false:=by rfl)(p:X.fn x=true∨X.env.scope.names.lookup x=some .local:=by first | exact .inl rfl | exact .inr rfl | assumption) :
  PS X (.Assign [.Name x a] e pos) (tAsg te (vN i)):=by
 intro B s Y H D I h;refine wpAny_Assign_Name (thn (j B s Y H _ I h) λv m ⟨y,M,c,C,n⟩=>?_) J;exact kh c o f O C (λq z=>⟨_,M,z,n⟩) p
noncomputable def B4(c:TT)(tb:TS):TS:=λD Y H=>∃ W:Nat->St->Hp->Prop,(∃ m,W m Y H)/\∀ m Y H,W m Y H ->
 c Y H λb O=>if b=true then ∃ N:St->Hp->Prop,(∀ z j,N z j->∃ d,d<m/\W d z j)/\tb { D with nx:=N,ct:=N,bk:=D.nx } Y O else D.nx Y O
theorem fN{c:Expr}{body:List Stmt}{T:TT}{tb:TS}(M:PassesOwn (model X.prog X.w) X.A X.env X.xe)(l:PT X c T)(G:PSs X body tb):PS X (.While c body [] pos) (B4 T tb):=by
 intro B s Y H D I h;obtain⟨W,⟨m0,p⟩,turn⟩:=h;refine wpAny_While (codeAny_whileLoop (λn g=>∃ z j,Inv X B z j g/\W n z j) ?_ m0 ⟨Y,H,I,p⟩);rintro n m ⟨E,O,y,Q⟩;refine wpAny_passesOwn M (thn (l B m E O _ y (turn n E O Q)) λb q ⟨u,r,L⟩=>?_)
 cases b with
 |true =>
  obtain⟨N,o,L⟩:=L;rw[if_pos rfl];refine wpAny_passesOwn M (thn (G B q E u _ r L) λf k t=>?_)
  cases f with
  |next =>
   obtain⟨x,e,a,C⟩:=t;obtain⟨d,i,J⟩:=o x e C;exact⟨d,i,x,e,a,J⟩
  |cont =>
   obtain⟨x,e,a,C⟩:=t;obtain⟨d,i,J⟩:=o x e C;exact⟨d,i,x,e,a,J⟩
  |brk=>exact t
  |ret v=>exact t
 |false =>
  rw[if_neg Fd];exact wpAny_execs_nil ⟨E,u,r,L⟩
end
set_option genInjectivity false in
structure It where
 go:Nat->Hp->Prop
 yld:Nat->Hp->V->Hp->Prop
 stop:Nat->Hp->Prop
noncomputable def FpOk(X:Cx)(B:List (Addr×Obj))(H:Hp)(b:Addr):Prop :=
 H b=none/\b≠X.env.locals/\b∉X.fs/\(b∈X.ex∨X.s₀.heap.objs.size<=b)/\(∀ x c,X.env.cells.lookup x=some c->c≠b)/\∀ p∈X.pn++B,p.1≠b
theorem Inv.fpOk{X:Cx}{B:List (Addr×Obj)}{σ:St}{H H':Hp}{s:Shared}{b:Addr}(I:Inv X B σ H s)(G:s.heap.objs.size<=b)(f:H' b=none):FpOk X B H' b:=by
 refine⟨f,Hq (EZ I.lt G),I.nofs G,.inr (FF I.sz G),λx c e z=>?_,λp M z=>?_⟩
 ·obtain⟨v,q⟩:=I.cell x c e;exact absurd (EZ q.lt (by rw[z];exact G)) (FG _)
 ·exact absurd (EZ (Heap.lt_size (I.pin p M).1) (by rw[z];exact G)) (FG _)
structure Turn(P:Program)(w:World)(K:ED)(tg:Expr)(J:It)(fp:List Addr)(it:Addr)(tn:Nat->Heap->Prop):Prop where
 mem:it∈fp
 obj:∀ i h,tn i h->∀ b∈fp,∃ o,h.get? b=some o/\∀ v,o.data≠.cell v
 keep:∀ i h h',tn i h->(∀ b∈fp,∀ o,h.get? b=some o->h'.get? b=some o)->tn i h'
 item:∀(X:Cx),X.prog=P->X.w=w->X.K=K->X.calm=true->∀(i:Nat)(pins:List (Addr×Obj))(s:Shared)(σ:St)(H:Hp)(E:Value->Shared->Prop),Inv X pins σ H s->(∀ b∈fp,FpOk X pins H b)->tn i s.heap->J.go i H ->
  wpAny (model P w) X.A (pyNext (.ref it)) (λr s1=>∃ u,r=some u /\
   wpAny (model P w) X.A (letOwnedTupleGo tg (.ref it) u) (λ_ s2=>∃ x H',Inv X pins σ H' s2/\RelV x u/\J.yld i H x H'/\tn (i+1) s2.heap/\∀ b∈fp,H' b=none) E s1) E s
 done:∀(X:Cx),X.prog=P->X.w=w->X.K=K->X.calm=true->∀(i:Nat)(pins:List (Addr×Obj))(s:Shared)(σ:St)(H:Hp)(E:Value->Shared->Prop),Inv X pins σ H s->(∀ b∈fp,FpOk X pins H b)->tn i s.heap->J.stop i H ->
  wpAny (model P w) X.A (pyNext (.ref it)) (λr s1=>r=none/\Inv X pins σ H s1) E s
 self:∀(A:Around)(i:Nat)(s:Shared)(Q:Value->Shared->Prop)(E:Value->Shared->Prop),tn i s.heap->Q (.ref it) s->wpAny (model P w) A (pyIter (.ref it)) Q E s
noncomputable abbrev TI:=St->Hp->(It->Hp->Prop)->Prop
noncomputable def PIE(X:Cx)(B:List (Addr×Obj))(σ:St)(T:Expr)(R:It->Hp->Prop)(d:Value)(s2:Shared):Prop :=
 ∃(e:Addr)(c:List Addr)(a:Nat->Heap->Prop)(J:It)(j:Hp),d=.ref e/\Inv X B σ j s2/\Turn X.prog X.w X.K T J c e a/\a 0 s2.heap/\(∀ b∈c,FpOk X B j b)/\R J j
noncomputable def PI(X:Cx)(T d:Expr)(k:TI):Prop :=
 ∀(B:List (Addr×Obj))(s:Shared)(Y:St)(H:Hp)(R:It->Hp->Prop),Inv X B Y H s->k Y H R ->
  wpAny (model X.prog X.w) X.A (eval d X.env) (λv m=>wpAny (model X.prog X.w) X.A (pyIter v) (PIE X B Y T R) X.xe m) X.xe s
theorem go_of{M:Model}{A:Around}{E:Value->Shared->Prop}{s:Shared}{T:Expr}{it:Addr}{u:Value}{o:Obj}{n:String}{vs:Array Value}{Q:Unit->Shared->Prop}(N:s.heap.get? it=some o)(l:o.cls=.type n)(hd:o.data=.fields vs)
  (f : ["enumerate","zip","dict_itemiterator","dict_reverseitemiterator","odict_iterator","itertools.zip_longest","itertools.pairwise"].contains n=false) (B:Q () s):wpAny M A (letOwnedTupleGo T (.ref it) u) Q E s:=by
 unfold letOwnedTupleGo
 cases T<;>first
  |exact wpAny_pure B
  | (cases u<;>first
    |exact wpAny_pure B
    | (refine wpAny_bind (wpAny_load N ?_)
       rw[l,hd]
       show wpAny M A (if(["enumerate","zip","dict_itemiterator","dict_reverseitemiterator","odict_iterator","itertools.zip_longest","itertools.pairwise"].contains n&&vs[0]? == some (rawInt _))=true then _ else _) Q E s
       rw[if_neg (by intro h;rw[f,GO]at h;cases h)]
       exact wpAny_pure B))
noncomputable def Itl(K:ED)(a:Addr):It :=
 ⟨λi H=>∃ M x,SqL K H a M/\M[i]?=some x,λi H x j=>j=H/\∀ M,SqL K H a M->M[i]?=some x,λi H=>∃ M,SqL K H a M/\M.length<=i⟩
noncomputable def Itr(lo:Int)(n:Nat):It:=⟨λi _=>i<n,λi H x j=>j=H/\x=.int (lo+i),λi _=>n<=i⟩
theorem xc{P:Program}{w:World}{K:ED}{tg:Expr}(a it:Addr):Turn P w K tg (Itl K a) [it] it (λi h=>h.IsListIter it a i) where
 mem:=by simp
 obj:=λi h st b G=>by
  have e:b=it:=by simpa using G
  subst e;obtain⟨o,e,c,d⟩:=st;exact⟨o,e,λv z=>by rw[d]at z;cases z⟩
 keep:=λi h q st k=>st.at λo e=>k it (by simp) o e
 item:=by
  intro X J C hK l i B s Y H E I j st L;subst J C hK;obtain⟨M,x,T,O⟩:=L;obtain⟨A,Q,p,n⟩:=I.list T;obtain⟨u,f,ru⟩:=Q.get O;obtain⟨f0,g,N,f3,f4,f5⟩:=j it (by simp)
  refine wpAny_pyNext_list_item st p.isList (x:=u) (by simpa using f) λq r sb=>?_
  have y:Inv X B Y H { s with heap:=q }:=I.turned (t':=s.toks) (λb o G e=>(sb.2 b G).trans e) f0 g f3 f4 f5;obtain⟨o,e,c,d⟩:=id r;exact⟨u,rfl,go_of (s:={ s with heap:=q }) e c d (by decide) ⟨x,H,y,ru,⟨rfl,λt m=>by rw[I.list_inj m T];exact O⟩,r,λb G=>(j b G).1⟩⟩
 done:=by
  intro X J C hK l i B s Y H E I j st L;subst J C hK;obtain⟨M,T,O⟩:=L;obtain⟨A,Q,p,n⟩:=I.list T;obtain⟨f0,g,N,f3,f4,f5⟩:=j it (by simp)
  have D:=Q.length;exact wpAny_pyNext_list_end (I.ok.hd l) st p.isList (by simp;omega) λq eb=>⟨rfl,I.turned (t':=s.toks) (λb o G e=>eb b o G e) f0 g f3 f4 f5⟩
 self:=λ_ _ _ _ _ st h=>wpAny_pyIter_listiter st h
theorem vw{P:Program}{w:World}{K:ED}{T:Expr}(it:Addr)(lo:Int)(n:Nat):Turn P w K T (Itr lo n) [it] it (λi h=>IsRangeIter h it (lo+(i:Nat)*1) ((n:Int)-(i:Nat)) 1) where
 mem:=by simp
 obj:=λi h st b G=>by
  have e:b=it:=by simpa using G
  subst e
  exact⟨_,st,λv z=>by
   have d:Data.fields _=Data.cell v:=z
   cases d⟩
 keep:=λi h q st k=>k it (by simp) _ st
 item:=by
  intro X x c u l i B s Y H E I p st L;subst x c u;obtain⟨O,g,N,C,A,J⟩:=p it (by simp)
  have W:=Walks.range (prog:=X.prog) (w:=X.w) (I.ok.hd l) it lo 1 n;refine W.item i s _ _ L st λv q m a r D=>?_;obtain⟨t,rfl⟩:=a;have y:Inv X B Y H { s with heap:=q,toks:=m }:=I.turned (λb o G e=>D b o (by simpa using G) e) O g C A J
  refine⟨_,rfl,go_of (s:={ s with heap:=q,toks:=m }) (n:="range_iterator") r rfl rfl (by decide) ⟨.int (lo+i),H,y,⟨t,?_⟩,⟨rfl,rfl⟩,r,λb G=>(p b G).1⟩⟩
  rw[Int.mul_one]
 done:=by
  intro X x c u l i B s Y H E I p st L;subst x c u;obtain⟨O,g,N,C,A,J⟩:=p it (by simp)
  exact wpAny_pyNext_range_end (I.ok.hd l) st (by have:n<=i:=L;omega) λq j=>⟨rfl,I.turned (t':=s.toks) (λb o G e=>j b o G e) O g C A J⟩
 self:=λ_ _ _ _ _ st h=>wpAny_pyIter_rangeiter st h
section
variable{X:Cx}{tg:Expr}
noncomputable def iList(K:ED)(tl:TE):TI:=λY H R=>tl Y H λx O=>∃ a,x=.ref a/\(∃ M,SqL K O a M)/\R (Itl K a) O
theorem a8{l:Expr}{tl:TE}(hl:PE X l tl):PI X tg l (iList X.K tl):=by
 intro B s Y H R I h;refine thn (hl B s Y H _ I h) λv m ⟨x,O,y,C,n⟩=>?_;obtain⟨a,e,⟨M,T⟩,q⟩:=n;subst e
 cases C
 obtain⟨A,Q,p,i⟩:=y.list T;refine wpAny_pyIter_list p.isList ?_;refine⟨m.heap.objs.size,[m.heap.objs.size],_,_,O,rfl,y.kept (t':=m.toks) λb o e=>Heap.get?_push_of_some _ e,xc a _,⟨_,Heap.get?_push_size _ rfl,rfl,rfl⟩,λb G=>?_,q⟩;have e:b=m.heap.objs.size:=by simpa using G
 subst e;exact y.fpOk (EI _) (y.hok.fresh (EI _))
theorem AJ{B:List (Addr×Obj)}{σ:St}{H:Hp}{s:Shared}{R:It->Hp->Prop}{E:Value->Shared->Prop}{lo f:Int}{t u v:Tok}{tk:Nat}(I:Inv X B σ H s)(J : -(2^62)<=lo)(h2:lo<2^62)(Y : -(2^62)<=f)(k:f<2^62)
  (q:R (Itr lo (f-lo).toNat) H):wpAny (model X.prog X.w) X.A (pyIter (.ref s.heap.objs.size)) (PIE X B σ tg R) E { s with heap:=s.heap.push { cls:=.type "range",data:=.fields #[.int lo t,.int f u,.int 1 v] },toks:=tk }:=by
 refine wpAny_pyIter_range (IsRange.new ..) (small_one J h2 Y k) ?_;have y:Inv X B σ H { s with heap:=s.heap.push { cls:=.type "range",data:=.fields #[.int lo t,.int f u,.int 1 v] },toks:=tk }:=I.kept λb o e=>Heap.get?_push_of_some _ e
 refine⟨(s.heap.push { cls:=.type "range",data:=.fields #[.int lo t,.int f u,.int 1 v] }).objs.size,[(s.heap.push { cls:=.type "range",data:=.fields #[.int lo t,.int f u,.int 1 v] }).objs.size],_,_,H,rfl,
  y.kept (t':=tk) λb o e=>Heap.get?_push_of_some _ e,vw _ lo (f-lo).toNat,?_,λb G=>?_,q⟩
 ·have T:lo+((0:Nat):Int)*1=lo:=by simp
  have Q:(((f-lo).toNat:Nat):Int)-((0:Nat):Int)=Builtin.Range.rangeSize lo f 1:=by rw[rangeSize_one];split<;>ac_rfl
  show IsRangeIter _ _ (lo+((0:Nat):Int)*1) ((((f-lo).toNat:Nat):Int)-((0:Nat):Int)) 1;rw[T,Q];exact Heap.get?_push_size _ rfl
 ·have e:b=(s.heap.push { cls:=.type "range",data:=.fields #[.int lo t,.int f u,.int 1 v] }).objs.size:=by simpa using G
  subst e;exact y.fpOk (EI _) (y.hok.fresh (EI _))
noncomputable def iRng1(w:TA):TI:=λY H R=>w Y H λN O=>∃ j:Int,N = [.int j]/\-(2^62)<=j/\j<2^62/\R (Itr 0 j.toNat) O
theorem aN{a:Expr}{w:TA}{p pos:Pos} (L:Gl X "range") (i:X.mg "range" = none) (E:PA X [a] w) (J:starEach [a] X.env = [(false,eval a X.env)]:=by rfl):PI X tg (.Call (.Name "range" p) [a] [] pos) (iRng1 w):=by
 intro B s Y H R I h;refine Call_ (eh I L i boot_range (PyProof.Rows.callWith_type1 (thn (E pos B s Y H _ I h) λd m ⟨N,O,y,C,n⟩=>?_) J rfl));obtain⟨j,e,n,M,q⟩:=n;subst e
 cases C with
 |cons r b =>
  cases b
  obtain⟨t,rfl⟩:=r;exact call_range_1 (AJ y (by omega) (by omega) n M (by simpa using q))
noncomputable def tFor(k:TI)(g:TG)(tb:TS):TS:=λD Y H=>k Y H λJ O=>∃ W:Nat->Nat->St->Hp->Prop,(∃ m,W 0 m Y O)/\∀ i m Y H,W i m Y H ->
 (J.stop i H/\D.nx Y H)∨(J.go i H/\∃ N:St->Hp->Prop,(∀ z j,N z j->∃ d,d<m/\W (i+1) d z j)/\∀ x j,J.yld i H x j->g x Y j λf u=>tb { D with nx:=N,ct:=N,bk:=D.nx } f u)
noncomputable def k8(fp:List Addr)(h:Heap):List (Addr×Obj):=fp.filterMap λb=>(h.get? b).map λo=>(b,o)
theorem eX{fp:List Addr}{h:Heap}{b:Addr}{o:Obj}(G:b∈fp)(e:h.get? b=some o):(b,o)∈k8 fp h:=Ir.mpr ⟨b,G,by rw[e];rfl⟩
theorem yF{fp:List Addr}{h:Heap}{p:Addr×Obj}(M:p∈k8 fp h):p.1∈fp/\h.get? p.1=some p.2:=by
 obtain⟨b,G,e⟩:=Ir.mp M
 cases q:h.get? b with
 |none=>rw[q]at e;cases e
 |some o =>
  rw[q]at e;have u:(b,o)=p:=E8 e;subst u;exact⟨G,q⟩
theorem Inv.pinned{B:List (Addr×Obj)}{σ:St}{H:Hp}{s:Shared}{fp:List Addr}(I:Inv X B σ H s)(j:∀ b∈fp,FpOk X B H b)(N:∀ b∈fp,∃ o,s.heap.get? b=some o/\∀ v,o.data≠.cell v):Inv X (B++k8 fp s.heap) σ H s :=
 I.pins_of λp M=>(ER.mp M).elim (λz=>I.pin p (E4 _ z)) λz=>by
  obtain⟨G,e⟩:=yF z;obtain⟨O,g,t,_⟩:=j p.1 G;obtain⟨o,u,d⟩:=N p.1 G;rw[e]at u;cases u;exact⟨e,O,g,t,d⟩
theorem Inv.unpinned{B pl:List (Addr×Obj)}{σ:St}{H:Hp}{s:Shared}(I:Inv X (B++pl) σ H s):Inv X B σ H s:=I.pins_of λp M=>I.pin p (E4 _ (Fw _ M))
theorem bK{al:Expr}{body:List Stmt}{wi:TI}{g:TG}{tb:TS}{pos:Pos}(M:PassesOwn (model X.prog X.w) X.A X.env X.xe)(l:X.calm=true)(p:PI X tg al wi)(Q:PG X tg g)(G:PSs X body tb)
  (O:∀ x,foldedSetIterable al X.env x=pure x:=by intro _;rfl):PS X (.For tg al body [] pos) (tFor wi g tb):=by
 intro B s Y H D I h;refine wpAny_For (thn (p B s Y H _ I h) λv q k=>thn k λa0 j C=>?_) O;obtain⟨it,fp,tn,J,E,e,I2,T,aa,f2,W,⟨m0,w0⟩,turn⟩:=C;subst e;have an:∀{H':Hp},(∀ b∈fp,H' b=none)->∀ b∈fp,FpOk X B H' b:=λt b G=>⟨t b G,(f2 b G).2⟩;refine codeAny_forLoop_any (λn s'=>∃ i z H',Inv X B z H' s'/\tn i s'.heap/\(∀ b∈fp,H' b=none)/\W i n z H') ?_ m0 ⟨0,Y,E,I2,aa,λb G=>(f2 b G).1,w0⟩;rintro n c ⟨i,am,y,I3,ac,aT,w3⟩;rcases turn i n am y w3 with⟨stop,qn⟩ | ⟨go,N,hN,step⟩
 ·refine wpAny_passesOwn M (thn (T.done X rfl rfl rfl l i B c am y X.xe I3 (an aT) ac stop) λr s4 ⟨L,I4⟩=>?_);subst L;exact wpAny_execs_nil ⟨am,y,I4,qn⟩
 ·refine wpAny_passesOwn M (thn (T.item X rfl rfl rfl l i B c am y X.xe I3 (an aT) ac go) λr s4 ⟨u,L,h4⟩=>?_);subst L;refine wpAny_passesOwn M (thn h4 λ_ s5 ⟨x,H5,I5,r5,y5,ab,a1⟩=>?_);have a2:=I5.pinned (an a1) (T.obj _ _ ab);refine wpAny_passesOwn M (thn (Q _ s5 am H5 x u _ a2 r5 (step x H5 y5)) λ_ s6 ⟨aP,H6,I6,q6⟩=>?_);refine wpAny_passesOwn M (thn (G _ s6 aP H6 _ I6 q6) λf s7 q7=>?_);have again:∀{ap:St}{H7:Hp},Inv X (B++k8 fp s5.heap) ap H7 s7->N ap H7->∃ m,m<n/\∃ i z H',Inv X B z H' s7/\tn i s7.heap/\(∀ b∈fp,H' b=none)/\W i m z H':=λ{ap H7} I7 n7=>by
   obtain⟨m',a,w7⟩:=hN ap H7 n7;refine⟨m',a,i+1,ap,H7,I7.unpinned,T.keep _ _ _ ab λb G o e=>(I7.pin (b,o) (E4 _ (E4 _ (eX G e)))).1,λb G=>?_,w7⟩;obtain⟨o,e,d⟩:=T.obj _ _ ab b G;exact(I7.pin (b,o) (E4 _ (E4 _ (eX G e)))).2.1
  cases f with
  |next=>obtain⟨ap,H7,I7,n7⟩:=q7;exact again I7 n7
  |cont=>obtain⟨ap,H7,I7,n7⟩:=q7;exact again I7 n7
  |brk=>obtain⟨ap,H7,I7,q7⟩:=q7;exact⟨ap,H7,I7.unpinned,q7⟩
  |ret v=>obtain⟨x7,ap,H7,I7,r7,q7⟩:=q7;exact⟨x7,ap,H7,I7.unpinned,r7,q7⟩
end
theorem cJ{K:ED}{a:Addr}{xs:List V}{g:TG}{tb:TS}{D:Ends}{σ:St}{H:Hp}(Pv:Nat->St->Hp->Prop)(u:Pv 0 σ H)(hl:∀ i σ H,i<=xs.length->Pv i σ H->SqL K H a xs)
  (J:∀ i x σ H,xs[i]?=some x->Pv i σ H->g x σ H λf H2=>tb { D with nx:=Pv (i+1),ct:=Pv (i+1),bk:=D.nx } f H2) (hd:∀ σ H,Pv xs.length σ H->D.nx σ H) :
  ∃ W:Nat->Nat->St->Hp->Prop,(∃ m,W 0 m σ H)/\∀ i m σ H,W i m σ H ->
   ((Itl K a).stop i H/\D.nx σ H)∨((Itl K a).go i H/\∃ N:St->Hp->Prop,(∀ σ' H',N σ' H'->∃ d,d<m/\W (i+1) d σ' H')/\∀ x H',(Itl K a).yld i H x H'->g x σ H' λf H2=>tb { D with nx:=N,ct:=N,bk:=D.nx } f H2):=by
 refine⟨λi m σ H=>m=xs.length-i/\i<=xs.length/\Pv i σ H,⟨xs.length,by simp,FT _,u⟩,?_⟩
 rintro i m σ H ⟨rfl,I,p⟩;have q:=hl i σ H I p;by_cases E:i<xs.length
 ·refine .inr ⟨⟨xs,xs[i],q,by simp[E]⟩,Pv (i+1),λσ' H' A=>⟨xs.length-(i+1),by omega,rfl,E,A⟩,λx H' y=>?_⟩
  obtain⟨e,y⟩:=y;subst e;exact J i x σ _ (y xs q) p
 ·have e:i=xs.length:=by omega
  subst e;exact .inl ⟨⟨xs,q,EI _⟩,hd σ H p⟩
theorem bZ{lo:Int}{n:Nat}{g:TG}{tb:TS}{D:Ends}{σ:St}{H:Hp}(Pv:Nat->St->Hp->Prop)(u:Pv 0 σ H)
  (J:∀ i σ H,i<n->Pv i σ H->g (.int (lo+i)) σ H λf H2=>tb { D with nx:=Pv (i+1),ct:=Pv (i+1),bk:=D.nx } f H2) (hd:∀ σ H,Pv n σ H->D.nx σ H) :
  ∃ W:Nat->Nat->St->Hp->Prop,(∃ m,W 0 m σ H)/\∀ i m σ H,W i m σ H ->
   ((Itr lo n).stop i H/\D.nx σ H)∨((Itr lo n).go i H/\∃ N:St->Hp->Prop,(∀ σ' H',N σ' H'->∃ d,d<m/\W (i+1) d σ' H')/\∀ x H',(Itr lo n).yld i H x H'->g x σ H' λf H2=>tb { D with nx:=N,ct:=N,bk:=D.nx } f H2):=by
 refine⟨λi m σ H=>m=n-i/\i<=n/\Pv i σ H,⟨n,by simp,FT _,u⟩,?_⟩
 rintro i m σ H ⟨rfl,I,p⟩;by_cases E:i<n
 ·refine .inr ⟨E,Pv (i+1),λσ' H' A=>⟨n-(i+1),by omega,rfl,E,A⟩,λx H' y=>?_⟩
  obtain⟨e,y⟩:=y;subst e y;exact J i σ _ E p
 ·have e:i=n:=by omega
  subst e;exact .inl ⟨EI _,hd σ H p⟩
theorem fk{c:TT}{tb:TS}{D:Ends}{σ:St}{H:Hp}(Pv:St->Hp->Prop)(a:St->Hp->Nat)(u:Pv σ H)
  (J:∀ σ H,Pv σ H->c σ H λb H1=>if b=true then tb { D with nx:=λσ' H'=>Pv σ' H'/\a σ' H'<a σ H,ct:=λσ' H'=>Pv σ' H'/\a σ' H'<a σ H,bk:=D.nx } σ H1 else D.nx σ H1)
  (mono:∀ σ H Q v,(∀ b H1,Q b H1->v b H1)->c σ H Q->c σ H v):B4 c tb D σ H:=by
 refine⟨λm σ H=>m=a σ H/\Pv σ H,⟨_,rfl,u⟩,?_⟩;rintro m σ H ⟨rfl,p⟩;refine mono σ H _ _ (λb H1 q=>?_) (J σ H p)
 cases b with
 |true=>exact⟨_,λσ' H' ⟨A,l⟩=>⟨_,l,rfl,A⟩,q⟩
 |false=>exact q
noncomputable abbrev R2:=V->V->Hp->VK->Prop
noncomputable def OpR(X:Cx)(f:Value->Value->Sem Value)(r:R2):Prop :=
 ∀(B:List (Addr×Obj))(s:Shared)(Y:St)(H:Hp)(x y:V)(v u:Value)(Q:VK),Inv X B Y H s->RelV x v->RelV y u->r x y H Q ->
  wpAny (model X.prog X.w) X.A (f v u) (EP X B Y Q) X.xe s
noncomputable def UnR(X:Cx)(f:Value->Sem Value)(r:V->Hp->VK->Prop):Prop :=
 ∀(B:List (Addr×Obj))(s:Shared)(Y:St)(H:Hp)(x:V)(v:Value)(Q:VK),Inv X B Y H s->RelV x v->r x H Q ->
  wpAny (model X.prog X.w) X.A (f v) (EP X B Y Q) X.xe s
noncomputable def jq(X:Cx)(f:Value)(r:List V->Hp->VK->Prop):Prop :=
 ∀(B:List (Addr×Obj))(s:Shared)(Y:St)(H:Hp)(M:List V)(d:List Value)(Q:VK),Inv X B Y H s->Vals M d->r M H Q ->
  wpAny (model X.prog X.w) X.A (call f d) (EP X B Y Q) X.xe s
noncomputable def tOp(r:R2)(w tb:TE):TE:=λY H Q=>w Y H λx O=>tb Y O λy u=>r x y u Q
noncomputable def tUn(r:V->Hp->VK->Prop)(w:TE):TE:=λY H Q=>w Y H λx O=>r x O Q
noncomputable def rI(C:Int->Int->Prop)(g:Int->Int->V):R2:=λx y H Q=>∃ i j,x=.int i/\y=.int j/\C i j/\Q (g i j) H
noncomputable def rI0(g:Int->Int->V):R2:=λx y H Q=>∃ i j,x=.int i/\y=.int j/\Q (g i j) H
noncomputable def rU(g:Int->V):V->Hp->VK->Prop:=λx H Q=>∃ i,x=.int i/\Q (g i) H
section
variable{X:Cx}{a b c:Expr}{ta tb tc:TE}{pos:Pos}
theorem binT(E:PE X a ta)(G:PE X b tb){B:List (Addr×Obj)}{s:Shared}{σ:St}{H:Hp}{R:V->V->Hp->Prop}(I:Inv X B σ H s)
  (h:ta σ H λx H1=>tb σ H1 λy H2=>R x y H2) {Q:Value->Shared->Prop} {f:Value->Value->Sem Value}
  (p:∀ v u s2 x y H2,Inv X B σ H2 s2->RelV x v->RelV y u->R x y H2->wpAny (model X.prog X.w) X.A (f v u) Q X.xe s2) :
  wpAny (model X.prog X.w) X.A (eval a X.env) (λv z=>wpAny (model X.prog X.w) X.A (eval b X.env) (λu s₂=>wpAny (model X.prog X.w) X.A (f v u) Q X.xe s₂) X.xe z) X.xe s:=by
 refine thn (E B s σ H _ I h) λv m ⟨x,H1,c,C,n⟩=>?_;refine thn (G B m σ H1 _ c n) λu s2 ⟨y,H2,k,J,M⟩=>?_;exact p v u s2 x y H2 k C J M
theorem aw{op:Operator}{r:R2}(N:OpR X (binaryOp op) r)(E:PE X a ta)(G:PE X b tb):PE X (.BinOp a op b pos) (tOp r ta tb):=by
 intro B s Y H Q I h;exact wpAny_BinOp (binT E G I h λv u j x y d z T m q=>N B j Y d x y v u Q z T m q)
theorem pe_un{op:UnaryOp}{r:V->Hp->VK->Prop}(N:UnR X (unaryOp op) r)(E:PE X a ta):PE X (.UnaryOp op a pos) (tUn r ta):=by
 intro B s Y H Q I h;exact UnaryOp_ (thn (E B s Y H _ I h) λv m ⟨x,O,y,C,n⟩=>N B m Y O x v Q y C n)
theorem opI{f:Value->Value->Sem Value}{C:Int->Int->Prop}{g:Int->Int->Int}
  (rule:∀(i j:Int)(t u:Tok)(s:Shared)(Q:Value->Shared->Prop)(E:Value->Shared->Prop),C i j->Q (.int (g i j) s.toks) { s with toks:=s.toks+1 }->wpAny (model X.prog X.w) X.A (f (.int i t) (.int j u)) Q E s) :
  OpR X f (rI C λi j=>.int (g i j)):=by
 intro B s Y H x y v u Q I T m h;obtain⟨i,j,rfl,rfl,l,q⟩:=h;obtain⟨t,rfl⟩:=T;obtain⟨n,rfl⟩:=m;exact rule i j t n s _ _ l ⟨.int (g i j),H,I.tok _,⟨_,rfl⟩,q⟩
theorem opI0{f:Value->Value->Sem Value}{g:Int->Int->Int}
  (rule:∀(i j:Int)(t u:Tok)(s:Shared)(Q:Value->Shared->Prop)(E:Value->Shared->Prop),Q (.int (g i j) s.toks) { s with toks:=s.toks+1 }->wpAny (model X.prog X.w) X.A (f (.int i t) (.int j u)) Q E s) :
  OpR X f (rI0 λi j=>.int (g i j)):=by
 intro B s Y H x y v u Q I T m h;obtain⟨i,j,rfl,rfl,q⟩:=h;obtain⟨t,rfl⟩:=T;obtain⟨n,rfl⟩:=m;exact rule i j t n s _ _ ⟨.int (g i j),H,I.tok _,⟨_,rfl⟩,q⟩
theorem opB0{f:Value->Value->Sem Value}{g:Int->Int->Bool}
  (rule:∀(i j:Int)(t u:Tok)(s:Shared)(Q:Value->Shared->Prop)(E:Value->Shared->Prop),Q (.bool (g i j)) s->wpAny (model X.prog X.w) X.A (f (.int i t) (.int j u)) Q E s) :
  OpR X f (rI0 λi j=>.bl (g i j)):=by
 intro B s Y H x y v u Q I T m h;obtain⟨i,j,rfl,rfl,q⟩:=h;obtain⟨t,rfl⟩:=T;obtain⟨n,rfl⟩:=m;exact rule i j t n s _ _ ⟨.bl (g i j),H,I,rfl,q⟩
noncomputable def CDiv(i j:Int):Prop:=0<j/\j<1073741824
noncomputable def CPow(i j:Int):Prop:=0<=j/\j<=1000000/\i.natAbs<2^64
noncomputable def CMul(i j:Int):Prop:=(-(2^64)<i/\i<2^64)∨(-(2^64)<j/\j<2^64)
theorem CMul.ok{i j:Int}(h:CMul i j):IntMulOk i j:=by
 rcases h with⟨J,C⟩ | ⟨J,C⟩
 ·exact .of_left (intBits_le_64 J C)
 ·exact .of_right (intBits_le_64 J C)
theorem vt(k:Nat):(0:Int)<=2^k:=by
 rw[two_pow_cast];exact Hl _
theorem br:OpR X (binaryOp .Add) (rI0 λi j=>.int (i+j)):=opI0 λ_ _ _ _ _ _ _ q=>add_int q
theorem ly:OpR X (binaryOp .Sub) (rI0 λi j=>.int (i-j)):=opI0 λ_ _ _ _ _ _ _ q=>sub_int q
theorem du:OpR X (binaryOp .Mult) (rI CMul λi j=>.int (i*j)):=opI λ_ _ _ _ _ _ _ l q=>mul_int q l.ok
theorem bX:OpR X (binaryOp .FloorDiv) (rI CDiv λi j=>.int (i/j)):=opI λi j _ _ _ _ _ l q=>by
 have J:(0:Int)<j:=l.1;have C:j<1073741824:=l.2;exact floordiv_int (by omega) (by rw[IW i (by omega)];exact q) (.inl (PyProof.noPylong_small (by omega)))
theorem bh:OpR X (binaryOp .Mod) (rI (λ_ j=>0<j) λi j=>.int (i%j)):=opI λi j _ _ _ _ _ l q=>by
 have J:(0:Int)<j:=l;exact mod_int' (by omega) (by rw[Int.fmod_eq_emod_of_nonneg i (by omega)];exact q)
theorem op_pow:OpR X (binaryOp .Pow) (rI CPow λi j=>.int (i^j.toNat)):=opI λ_ _ _ _ _ _ _ l q=>pow_int_small l.1 l.2.1 l.2.2 q
theorem cP:OpR X (binaryOp .LShift) (rI CPow λi j=>.int (i*2^j.toNat)):=opI λ_ _ _ _ _ _ _ l q=>lshift_int_small l.1 l.2.1 l.2.2 q
theorem lA:OpR X (binaryOp .RShift) (rI (λ_ j=>0<=j) λi j=>.int (i/2^j.toNat)):=opI λi j _ _ _ _ _ l q =>
 rshift_int l (by rw[IW i (vt _)];exact q)
theorem mY:OpR X (binaryOp .BitAnd) (rI0 λi j=>.int (Builtin.bitAnd i j)):=opI0 λ_ _ _ _ _ _ _ q=>and_int q
theorem vC:OpR X (binaryOp .BitOr) (rI0 λi j=>.int (Builtin.bitOr i j)):=opI0 λ_ _ _ _ _ _ _ q=>or_int q
theorem ib:OpR X (binaryOp .BitXor) (rI0 λi j=>.int (Builtin.bitXor i j)):=opI0 λ_ _ _ _ _ _ _ q=>xor_int q
theorem unI{f:Value->Sem Value}{g:Int->Int}
  (rule:∀(i:Int)(t:Tok)(s:Shared)(Q:Value->Shared->Prop)(E:Value->Shared->Prop),Q (.int (g i) s.toks) { s with toks:=s.toks+1 }->wpAny (model X.prog X.w) X.A (f (.int i t)) Q E s) :
  UnR X f (rU λi=>.int (g i)):=by
 intro B s Y H x v Q I T h;obtain⟨i,rfl,q⟩:=h;obtain⟨t,rfl⟩:=T;exact rule i t s _ _ ⟨.int (g i),H,I.tok _,⟨_,rfl⟩,q⟩
theorem BZ:UnR X (unaryOp .USub) (rU λi=>.int (-i)):=unI λ_ _ _ _ _ q=>neg_int q
end
noncomputable def scal:V->V->Bool
 |.non,.non=>true | .non,.int _=>true | .int _,.non=>true | .non,.bl _=>true | .bl _,.non=>true | .non,.str _=>true | .str _,.non=>true
 |.int _,.int _=>true | .bl _,.bl _=>true | .str _,.str _=>true | .byt _,.byt _=>true
 |.int _,.str _=>true | .str _,.int _=>true | .bl _,.str _=>true | .str _,.bl _=>true
 |_,_=>false
noncomputable def rEq:R2:=λx y H Q=>scal x y=true/\Q (.bl (decide (x=y))) H
noncomputable def rNe:R2:=λx y H Q=>scal x y=true/\Q (.bl (!decide (x=y))) H
theorem zE{i j:Int}:decide (V.int i=V.int j)=(i == j):=by
 rw[Ic];simp
theorem Cr{i j:Bool}:decide (V.bl i=V.bl j)=(i == j):=by
 rw[Ic];simp
theorem zD{i j:Str}:decide (V.str i=V.str j)=(i == j):=by
 rw[Ic];simp
theorem zF{i j:Array UInt8}:decide (V.byt i=V.byt j)=(i.toList == j.toList):=by
 rw[Ic]
 cases i
 cases j
 simp
section
variable{X:Cx}{a b c:Expr}{ta tb tc:TE}{pos:Pos}
theorem bc{B:List (Addr×Obj)}{σ:St}{H:Hp}{s:Shared}{Q:VK}{k m:Bool}(I:Inv X B σ H s)(q:Q (.bl k) H)(e:k=m):EP X B σ Q (.bool m) s:=by
 subst e;exact⟨.bl k,H,I,rfl,q⟩
theorem dD:OpR X (compareOp .Eq) rEq:=by
 intro B s Y H x y v u Q I T m h;obtain⟨J,q⟩:=h
 cases x with
 |non =>
  cases T
  cases y with
  |non=>cases m;exact PySem.EqNone.eq_none_none (bc I q (by simp))
  |bl j=>cases m;exact PySem.EqNone.eq_none_bool (bc I q (by simp))
  |int j=>obtain⟨n,rfl⟩:=m;exact PySem.EqNone.eq_none_int (bc I q (by simp))
  |str j=>obtain⟨n,rfl⟩:=m;exact PySem.EqNone.eq_none_str (bc I q (by simp))
  |_=>exact absurd (show false=true from J) Fd
 |bl i =>
  cases T
  cases y with
  |non=>cases m;exact PySem.EqNone.eq_bool_none (bc I q (by simp))
  |bl j=>cases m;exact eq_bool (bc I q Cr)
  |str j=>obtain⟨n,rfl⟩:=m;exact PySem.EqMixed.eq_bool_str (bc I q (by simp))
  |_=>exact absurd (show false=true from J) Fd
 |int i =>
  obtain⟨t,rfl⟩:=T
  cases y with
  |non=>cases m;exact PySem.EqNone.eq_int_none (bc I q (by simp))
  |int j=>obtain⟨n,rfl⟩:=m;exact eq_int (bc I q zE)
  |str j=>obtain⟨n,rfl⟩:=m;exact PySem.EqMixed.eq_int_str (bc I q (by simp))
  |_=>exact absurd (show false=true from J) Fd
 |str i =>
  obtain⟨t,rfl⟩:=T
  cases y with
  |non=>cases m;exact PySem.EqNone.eq_str_none (bc I q (by simp))
  |bl j=>cases m;exact PySem.EqMixed.eq_str_bool (bc I q (by simp))
  |int j=>obtain⟨n,rfl⟩:=m;exact PySem.EqMixed.eq_str_int (bc I q (by simp))
  |str j=>obtain⟨n,rfl⟩:=m;exact eq_str (bc I q zD)
  |_=>exact absurd (show false=true from J) Fd
 |byt i =>
  obtain⟨t,rfl⟩:=T
  cases y with
  |byt j=>obtain⟨n,rfl⟩:=m;exact PySem.W.eq_bytes (bc I q zF)
  |_=>exact absurd (show false=true from J) Fd
 |_=>cases y<;>exact absurd (show false=true from J) Fd
theorem lB:OpR X (compareOp .NotEq) rNe:=by
 intro B s Y H x y v u Q I T m h;obtain⟨J,q⟩:=h
 cases x with
 |non =>
  cases T
  cases y with
  |non=>cases m;exact PySem.EqNone.ne_none_none (bc I q (by simp))
  |bl j=>cases m;exact PySem.EqNone.ne_none_bool (bc I q (by simp))
  |int j=>obtain⟨n,rfl⟩:=m;exact PySem.EqNone.ne_none_int (bc I q (by simp))
  |str j=>obtain⟨n,rfl⟩:=m;exact PySem.EqNone.ne_none_str (bc I q (by simp))
  |_=>exact absurd (show false=true from J) Fd
 |bl i =>
  cases T
  cases y with
  |non=>cases m;exact PySem.EqNone.ne_bool_none (bc I q (by simp))
  |bl j=>cases m;exact ne_bool (bc I q (congrArg not Cr))
  |str j=>obtain⟨n,rfl⟩:=m;exact PySem.EqMixed.ne_bool_str (bc I q (by simp))
  |_=>exact absurd (show false=true from J) Fd
 |int i =>
  obtain⟨t,rfl⟩:=T
  cases y with
  |non=>cases m;exact PySem.EqNone.ne_int_none (bc I q (by simp))
  |int j=>obtain⟨n,rfl⟩:=m;exact ne_int (bc I q (congrArg not zE))
  |str j=>obtain⟨n,rfl⟩:=m;exact PySem.EqMixed.ne_int_str (bc I q (by simp))
  |_=>exact absurd (show false=true from J) Fd
 |str i =>
  obtain⟨t,rfl⟩:=T
  cases y with
  |non=>cases m;exact PySem.EqNone.ne_str_none (bc I q (by simp))
  |bl j=>cases m;exact PySem.EqMixed.ne_str_bool (bc I q (by simp))
  |int j=>obtain⟨n,rfl⟩:=m;exact PySem.EqMixed.ne_str_int (bc I q (by simp))
  |str j=>obtain⟨n,rfl⟩:=m;exact ne_str (bc I q (congrArg not zD))
  |_=>exact absurd (show false=true from J) Fd
 |byt i =>
  obtain⟨t,rfl⟩:=T
  cases y with
  |byt j=>obtain⟨n,rfl⟩:=m;exact PySem.W.ne_bytes (bc I q (congrArg not zF))
  |_=>exact absurd (show false=true from J) Fd
 |_=>cases y<;>exact absurd (show false=true from J) Fd
theorem yw:OpR X (compareOp .Lt) (rI0 λi j=>.bl (decide (i<j))):=opB0 λ_ _ _ _ _ _ _ q=>lt_int q
theorem AQ:OpR X (compareOp .Gt) (rI0 λi j=>.bl (decide (j<i))):=opB0 λ_ _ _ _ _ _ _ q=>gt_int q
theorem Dk:OpR X (compareOp .GtE) (rI0 λi j=>.bl (decide (j<=i))):=opB0 λ_ _ _ _ _ _ _ q=>ge_int q
theorem op_isN:OpR X (compareOp .Is) (λx y H Q=>y=.non/\Q (.bl (decide (x=.non))) H):=by
 intro B s Y H x y v u Q I T m h;obtain⟨rfl,q⟩:=h
 cases m
 refine is_none_gen (bc I q ?_)
 cases x<;>first
  | (cases T;rfl)
  | (obtain⟨t,rfl⟩:=T;rfl)
theorem Dj:OpR X (compareOp .IsNot) (λx y H Q=>y=.non/\Q (.bl (!decide (x=.non))) H):=by
 intro B s Y H x y v u Q I T m h;obtain⟨rfl,q⟩:=h
 cases m
 refine isnot_none_gen (bc I q ?_)
 cases x<;>first
  | (cases T;rfl)
  | (obtain⟨t,rfl⟩:=T;rfl)
theorem aM(b:Expr){op:CmpOp}(h:op≠.In:=by decide)(h2:op≠.NotIn:=by decide):behindInMarks op b=false:=by
 have T:(op == CmpOp.In)=false:=by cases op<;>first | rfl | exact absurd rfl h
 have Q:(op == CmpOp.NotIn)=false:=by cases op<;>first | rfl | exact absurd rfl h2
 cases b<;>simp[behindInMarks,T,Q]
theorem sA{op:CmpOp}{r:R2}(N:OpR X (compareOp op) r)(E:PE X a ta)(G:PE X b tb)(i:behindInMarks op b=false):PE X (.Compare a [op] [b] pos) (tOp r ta tb):=by
 intro B s Y H Q I h;exact wpAny_Compare1 (binT E G I h λv u j x y d z T m q=>N B j Y d x y v u Q z T m q) i
noncomputable def tTest(t:TE):TT:=λY H Q=>t Y H λx j=>∃ k,x=.bl k/\Q k j
theorem aG{op:CmpOp}{r:R2}(N:OpR X (compareOp op) r)(E:PE X a ta)(G:PE X b tb)(i:behindInMarks op b=false):PT X (.Compare a [op] [b] pos) (tTest (tOp r ta tb)):=by
 intro B s Y H Q I h
 refine wpAny_isTrue_Compare1 (thn (E B s Y H _ I h) λv m ⟨x,O,g,C,n⟩=>thn (G B m Y O _ g n) λu j ⟨y,d,f,J,M⟩ =>
  thn (N B j Y d x y v u _ f C J M) λc t ⟨z,o,l,A,k,e,q⟩=>?_) i
 subst e
 cases A
 exact wpAny_truthy_bool ⟨o,l,q⟩
theorem m7:(sizeLine:Nat)<2^63:=by rw[sizeLine_eq];decide
theorem pH{x:V}{us:List Value}(r:Vals [x] us):∃ u,us = [u]/\RelV x u:=by
 cases r with
 |cons C J=>cases J;exact⟨_,rfl,C⟩
theorem wY{x y:V}{us:List Value}(r:Vals [x,y] us):∃ u w',us = [u,w']/\RelV x u/\RelV y w':=by
 cases r with
 |cons C J =>
  cases J with
  |cons A a=>cases a;exact⟨_,_,rfl,C,A⟩
theorem mv(l:X.calm=true):jq X (.builtin "max") (λxs H Q=>∃ i j,xs = [.int i,.int j]/\Q (.int (if j > i then j else i)) H):=by
 intro B s Y H xs d Q I r h;obtain⟨i,j,rfl,q⟩:=h;obtain⟨u,w,rfl,⟨t,rfl⟩,⟨n,rfl⟩⟩:=wY r;refine max_two_ints (I.ok.hd l) λG m k=>⟨_,H,I.kept k,?_,q⟩;by_cases E:j > i
 ·rw[if_pos E,if_pos E];exact⟨_,rfl⟩
 ·rw[if_neg E,if_neg E];exact⟨_,rfl⟩
end
structure ObjM(h:Heap)(x dx C:Addr)(mA:Str->Option Value):Prop where
 obj:h.get? x=some (GQ C dx)
 ns:h.Ns1 dx mA
 ne:dx≠x
theorem yP{h:Heap}{l:Addr}{T:Str->Option Value}(n:h.Ns1 l T):∃ G,h.get? l=some G/\∀ b,Ij b G=some (T b):=by
 obtain⟨o,B,j,N,hd,g,_,i⟩:=n;refine⟨o,N,λb=>?_⟩;have e:=i b;unfold nsFind findBy at e;rw[← Array.find?_toList]at e;unfold Ij;rw[hd];dsimp only;split
 ·rename_i y q;rw[q]at e;exact congrArg some e
 ·rename_i q;rw[q]at e;have a:B.toList.any (·.refKey)=false:=by
   rw[List.any_eq_false];intro y H;obtain⟨z,t,c⟩:=g y (Array.mem_toList_iff.mp H);simp[DictEntry.refKey,c]
  have Y:¬ B.toList.any (·.refKey)=true:=by rw[a];exact Fd
  rw[if_neg Y];exact congrArg some e
theorem ObjM.look{h:Heap}{x l C:Addr}{T:Str->Option Value}(I:ObjM h x l C T):∃ G,PySem.W.InstAt h x (GQ C l) C (some G)/\∀ b,Ij b G=some (T b) :=
 let ⟨G,N,D⟩:=yP I.ns
 ⟨G,⟨I.obj,rfl,rfl,N⟩,D⟩
section
variable{prog:Program}{w:World}{A:Around}{E:Value->Shared->Prop}{s:Shared}{K:ED}{x dx C f:Addr}{mA:Str->Option Value}{name:Str}{v:Value}
theorem DZ{b:Bool}{Q:Value->Shared->Prop}(X:K.In s.heap)(I:ObjM s.heap x dx C mA)(L:GX K C name=true)(q:Gz K C=true)
  (d:E3 K (.ref C) name=some none) (B:mA name=some v) (a:PySem.W.handedIn v=true) (h:Q v { s with toks:=s.toks+1 }) :
  wpAny (model prog w) A (getAttr (.ref x) name b) Q E s:=by
 obtain⟨G,J,D⟩:=I.look;exact PySem.W.get_value X J (Ik L).1 (PySem.W.findObj_own q d rfl (by rw[D,B])) a h
theorem BA{pl:Sem Bool}{Q:Value×List Value->Shared->Prop}(X:K.In s.heap)(I:ObjM s.heap x dx C mA)(L:GX K C name=true)
  (p:E3 K (.ref C) name=some (some (.ref f))) (Y:Hi K (.ref f)=true) (B:mA name=none) (h:Q (.ref f,[.ref x]) s) :
  wpAny (model prog w) A (getMethod (.ref x) name pl) Q E s:=by
 obtain⟨G,J,D⟩:=I.look;exact PySem.W.method_fn X J (Ik L).1 (Ik L).2 p (beq_iff_eq.mp Y) (by show(Ij name G).map (·.isSome)=some false;rw[D,B];rfl) h
theorem C3{ns:List Str}{Q:Unit->Shared->Prop}(X:K.In s.heap)(I:ObjM s.heap x dx C mA)
  (p:E3 K (.ref C) "__setattr__" = some (some (.builtin "object.__setattr__"))) (M:Hm K C=true) (Y:IM K C name=some none) (q:Gz K C=true)
  (hw:PySem.Within mA ns) (hsz:ns.length<=sizeLine)
  (h:∀ h',ObjM h' x dx C (λy=>if y=name then some v else mA y)->Heap.SameBut dx s.heap h'->Q () { s with heap:=h',toks:=s.toks+2 }) :
  wpAny (model prog w) A (setAttr (.ref x) name v) Q E s:=by
 obtain⟨G,J,D⟩:=I.look;refine PySem.W.set_plain X J p (PySem.W.osa_open (s:={ s with toks:=s.toks+1 }) (r:=none) X J M Y λb=>?_);obtain⟨j,l,c⟩:=IG q;have O:s.heap.get? x=some ⟨.ref C,some dx,.plain,#[]⟩:=I.obj;refine wpAny_bind (wpAny_pure (wpAny_bind (wpAny_bind (wpAny_loadPart O (wpAny_bind (PySem.W.Looks.here (s:={ s with toks:=s.toks+1 }) (PySem.W.looks_clsIn X l) ?_))))));rw[c];refine wpAny_pure (a:=some dx) (wpAny_bind (wpAny_pure (wpAny_bind ?_)));refine wpAny_nsSet1 (s:={ s with toks:=s.toks+1 }) I.ns λh' f e=>?_;obtain⟨n,k,m,g,i,d⟩:=f.count (PySem.Within.cons name v hw);refine wpAny_bind (wpAny_lookBehind g (by rw[i];exact pastItsLine_dict (FF d (by rw[E7];omega))) ?_)
 exact wpAny_pure (h _ ⟨(e.2 _ (Ne.symm I.ne)).trans I.obj,f,I.ne⟩ e)
theorem Bp{R:Result->Shared->Prop}{vs:List Value}{kw:List (Str×Value)}(X:K.In s.heap)(i:HB K C=true)
  (I:E3 K (.ref C) "__init__" = some (some (.ref f))) (p:PySem.W.typeIn K (.ref f)=some (.type "function"))
  (h:codeAny (model prog w) (A.under (.builtin "type.__call__" ⟨.ref C::vs,kw⟩)) (.call (.ref f) ⟨.ref (s.heap.objs.size+1)::vs,kw⟩) (PySem.W.InitBack (s.heap.objs.size+1) R)
   { s with heap:=(s.heap.push Gg).push (GQ C s.heap.objs.size) }) :
  codeAny (model prog w) A (.call (.ref C) ⟨vs,kw⟩) R s:=by
 obtain⟨q,g,d,t,os⟩:=s;exact PySem.W.make_core (PySem.W.makes_of X i) (Hv X I) (λa=>PySem.W.bind_fn X a p) (.inl rfl) h
end
noncomputable def putF(f:Str)(v:V):List (Str×V)->List (Str×V)
 |[]=>[(f,v)]
 | (g,x)::r=>if g=f then(g,v)::r else(g,x)::putF f v r
theorem aF(f g:Str)(v:V):∀ fs:List (Str×V),(putF f v fs).lookup g=if g=f then some v else fs.lookup g
 |[]=>by
  show HE g [(f,v)]=_;by_cases h:g=f
  ·have G:(g == f)=true:=beq_iff_eq.mpr h
   simp only[HE,G,if_pos h]
  ·have G:(g == f)=false:=beq_eq_false_iff_ne.mpr h
   simp only[HE,G,if_neg h]
 | (k,x)::r=>by
  have Y:=aF f g v r;rw[show putF f v ((k,x)::r)=(if k=f then(k,v)::r else(k,x)::putF f v r) from rfl];by_cases d:k=f
  ·rw[if_pos d];by_cases h:g=k
   ·have G:(g == k)=true:=beq_iff_eq.mpr h
    simp only[HE,G,if_pos (h.trans d)]
   ·have G:(g == k)=false:=beq_eq_false_iff_ne.mpr h
    simp only[HE,G,if_neg (λe:g=f=>h (e.trans d.symm))]
  ·rw[if_neg d];by_cases h:g=k
   ·have G:(g == k)=true:=beq_iff_eq.mpr h
    simp only[HE,G,if_neg (λe:g=f=>d (h.symm.trans e))]
   ·have G:(g == k)=false:=beq_eq_false_iff_ne.mpr h
    simp only[HE,G];exact Y
theorem lJ(f:Str)(v:V):∀ fs:List (Str×V),f∈(putF f v fs).map (·.1)/\∀ g,g∈fs.map (·.1)->g∈(putF f v fs).map (·.1)
 |[]=>⟨by simp[putF],λg h=>by simp at h⟩
 | (k,x)::r=>by
  obtain⟨w,b⟩:=lJ f v r;rw[show putF f v ((k,x)::r)=(if k=f then(k,v)::r else(k,x)::putF f v r) from rfl];by_cases d:k=f
  ·rw[if_pos d];subst d;exact⟨by simp,λg h=>by simpa using h⟩
  ·rw[if_neg d];refine⟨?_,λg h=>?_⟩
   ·rw[E6];exact EK _ w
   ·rw[E6]at h ⊢;rcases EE.mp h with e | e
    ·exact EE.mpr (.inl e)
    ·exact EK _ (b g e)
theorem lF(f:Str)(v:V):∀ fs:List (Str×V),(putF f v fs).length<=fs.length+1
 |[]=>by simp[putF]
 | (k,x)::r=>by
  have Y:=lF f v r;rw[show putF f v ((k,x)::r)=(if k=f then(k,v)::r else(k,x)::putF f v r) from rfl];by_cases g:k=f
  ·rw[if_pos g,E7,E7];omega
  ·rw[if_neg g,E7,E7];omega
theorem RelO.some_of{v:V}{o:Option Value}(r:RelO (some v) o):∃ u,o=some u/\RelV v u:=by
 cases o with
 |none=>exact(show False from r).elim
 |some u=>exact⟨u,rfl,r⟩
theorem RelO.none_of{o:Option Value}(r:RelO none o):o=none:=by
 cases o with
 |none=>rfl
 |some u=>exact(show False from r).elim
theorem zc{v:V}{u:Value}(r:RelV v u):PySem.W.handedIn u=true:=by
 cases v with
 |non=>cases (show u=Value.none from r);rfl
 |bl b=>cases (show u=Value.bool b from r);rfl
 |int i=>obtain⟨t,e⟩:=(show ∃ t,u=Value.int i t from r);cases e;rfl
 |str x=>obtain⟨t,e⟩:=(show ∃ t,u=Value.str x t from r);cases e;rfl
 |byt b=>obtain⟨t,e⟩:=(show ∃ t,u=Value.bytes b t from r);cases e;rfl
 |flt b=>obtain⟨t,e⟩:=(show ∃ t,u=Value.float b t from r);cases e;rfl
 |ref a=>cases (show u=Value.ref a from r);rfl
 |ty n=>cases (show u=Value.type n from r);rfl
section
variable{P:Program}{w:World}{H H':Hp}{h h':Heap}{a C dx:Addr}{fs fs':List (Str×V)}
theorem oM(Y:HOk P w H h)(e:H a=some (.ins C dx fs)):∃ T,ObjM h a dx C T/\(∀ f,RelO (fs.lookup f) (T f))/\PySem.Within T (fs.map (·.1))/\fs.length<=1000/\H dx=some (.own a):=by
 obtain⟨d,z,ne,O,T,n,r,q⟩:=(show bV P w H h a (.ins C dx fs) from Y a _ e);exact⟨T,⟨O,n,ne⟩,r,q,z,d⟩
end
structure Cls(K:ED)(C:Addr):Prop where
 pg:GX K C Str.empty=true
 hd:Gz K C=true
 po:Hm K C=true
 sa:E3 K (.ref C) "__setattr__" = some (some (.builtin "object.__setattr__"))
theorem Cls.get{K:ED}{C:Addr}(c:Cls K C)(f:Str):GX K C f=true:=c.pg
noncomputable def eG(K:ED)(C:Addr)(f:Str):Prop:=E3 K (.ref C) f=some none
theorem eG.taker{K:ED}{C:Addr}{f:Str}(n:eG K C f):IM K C f=some none:=by
 unfold IM;rw[show E3 K (.ref C) f=some none from n];rfl
structure Meth(K:ED)(C:Addr)(m:Str)(f:Addr):Prop where
 at_:E3 K (.ref C) m=some (some (.ref f))
 fn:Hi K (.ref f)=true
 kp:Ft K (.ref f)=true
section
variable{X:Cx}{pins:List (Addr×Obj)}{σ:St}{H:Hp}{s:Shared}{a C dx:Addr}{fs:List (Str×V)}{f:Str}{v:V}{A:Around}{E:Value->Shared->Prop}
theorem vM{b:Bool}{Q:Value->Shared->Prop}(I:Inv X pins σ H s)(e:H a=some (.ins C dx fs))(c:Cls X.K C)(n:eG X.K C f)(l:fs.lookup f=some v)
  (h:∀ u s',Inv X pins σ H s'->RelV v u->Q u s'):wpAny (model X.prog X.w) A (getAttr (.ref a) f b) Q E s:=by
 obtain⟨T,O,r,_,_,_⟩:=oM I.hok e;obtain⟨u,L,z⟩:=RelO.some_of (v:=v) (o:=T f) (by rw[← l];exact r f)
 exact DZ I.kIn O (c.get f) c.hd n L (zc z) (h u _ (I.tok _) z)
theorem vL{m:Str}{g:Addr}{pl:Sem Bool}{Q:Value×List Value->Shared->Prop}(I:Inv X pins σ H s)(e:H a=some (.ins C dx fs))(c:Cls X.K C)(k:Meth X.K C m g)(l:fs.lookup m=none)
  (h:Q (.ref g,[.ref a]) s):wpAny (model X.prog X.w) A (getMethod (.ref a) m pl) Q E s:=by
 obtain⟨T,O,r,_,_,_⟩:=oM I.hok e;have f:T m=none:=RelO.none_of (by rw[← l];exact r m)
 exact BA I.kIn O (c.get m) k.at_ k.fn f h
theorem vy{y:V}{u:Value}{Q:Unit->Shared->Prop}(I:Inv X pins σ H s)(e:H a=some (.ins C dx fs))(c:Cls X.K C)(n:eG X.K C f)(hl:fs.length<1000)(m:RelV y u)
  (h:∀ s',Inv X pins σ (upd H a (.ins C dx (putF f y fs))) s'->Q () s'):wpAny (model X.prog X.w) A (setAttr (.ref a) f u) Q E s:=by
 obtain⟨T,O,r,k,_,N⟩:=oM I.hok e;have i:(fs.map (·.1)).length<=sizeLine:=by rw[EJ,sizeLine_eq];omega
 refine C3 I.kIn O c.sa c.po n.taker c.hd k i λt l j=>h _ ?_;have hd:∃ o,t.get? dx=some o:=let ⟨o,_,_,d,_⟩:=l.ns;⟨o,d⟩;refine I.write (x:=a) (e:=dx) (by rw[e];exact True.intro) (.inr N) (λb q G z=>(j.2 b G).trans z) hd ?_
 refine⟨by rw[ao O.ne];exact N,?_,O.ne,l.obj,_,l.ns,λg=>?_,λg L=>?_⟩
 ·have:=lF f y fs;omega
 ·show RelO ((putF f y fs).lookup g) (if g=f then some u else T g);rw[aF];by_cases q:g=f
  ·rw[if_pos q,if_pos q];exact m
  ·rw[if_neg q,if_neg q];exact r g
 ·by_cases q:g=f
  ·rw[q];exact(lJ f y fs).1
  ·refine(lJ f y fs).2 g (k g λz=>L ?_);show(if g=f then some u else T g)=none;rw[if_neg q];exact z
theorem Inv.made(I:Inv X pins σ H s):Inv X pins σ (upd (upd H s.heap.objs.size (.own (s.heap.objs.size+1))) (s.heap.objs.size+1) (.ins C s.heap.objs.size []))
  { s with heap:=(s.heap.push Gg).push (GQ C s.heap.objs.size) }:=by
 have T:(s.heap.push Gg).get? s.heap.objs.size=some Gg:=Heap.get?_push_size s.heap rfl;have Q:((s.heap.push Gg).push (GQ C s.heap.objs.size)).get? (s.heap.objs.size+1)=some (GQ C s.heap.objs.size):=by
  have:=Heap.get?_push_size (s.heap.push Gg) (o:=GQ C s.heap.objs.size) rfl;rwa[Heap.size_push]at this
 have A:(s.heap.push Gg).Ns s.heap.objs.size (λ_=>none):=⟨Gg,#[],_,T,rfl,(λe j=>absurd j (by simp)),λ_=>rfl⟩
 have c:=I.laid (a:=s.heap.objs.size) (o:=.own (s.heap.objs.size+1)) (h':=s.heap.push Gg) (t':=s.toks) (λb u q=>Heap.get?_push_of_some _ q) (EI _) ⟨_,T⟩;refine c.laid (a:=s.heap.objs.size+1) (o:=.ins C s.heap.objs.size []) (t':=s.toks) (λb u q=>Heap.get?_push_of_some _ q) (ID (Heap.size_push _ _)) ?_;have ne:s.heap.objs.size≠s.heap.objs.size+1:=Fo (FV _);refine⟨by rw[ao ne,af],FT _,ne,Q,λ_=>none,(Heap.Ns1.of_empty A).at λo q=>Heap.get?_push_of_some _ q,λ_=>True.intro,λy B=>absurd rfl B⟩
theorem Ew{prog:Program}{w:World}{env:Env}{e:Expr}{f:Str}{pos:Pos}{s:Shared}{Q:Value->Shared->Prop}(G:attributeBase e f env (eval e env)=eval e env)
  (h:wpAny (model prog w) A (eval e env) (λo z=>wpAny (model prog w) A (getAttr o f true) Q E z) E s):wpAny (model prog w) A (eval (.Attribute e f pos) env) Q E s :=
 Attribute_any_ h (by rw[arm_eval_Attribute,G])
end
noncomputable def tFld(K:ED)(w:TE)(f:Str):TE:=λY H Q=>w Y H λx O=>∃ a C l fs v,x=.ref a/\O a=some (.ins C l fs)/\Cls K C/\eG K C f/\fs.lookup f=some v/\Q v O
noncomputable def sFld(K:ED)(w b:TE)(f:Str):TS:=λD Y H=>b Y H λy O=>w Y O λx u=>∃ a C l fs,x=.ref a/\u a=some (.ins C l fs)/\Cls K C/\eG K C f/\fs.length<1000 /\
 D.nx Y (upd u a (.ins C l (putF f y fs)))
section
variable{X:Cx}{o e value:Expr}{f:Str}{pos pos' tpos:Pos}{ta tv:TE}
theorem bW(j:PE X e ta)(G:attributeBase e f X.env (eval e X.env)=eval e X.env):PE X (.Attribute e f pos) (tFld X.K ta f):=by
 intro B s Y H Q I h;refine Ew G (thn (j B s Y H _ I h) λu m ⟨x,O,y,T,a,C,t,fs,v,b,D,c,n,l,q⟩=>?_);subst b;obtain rfl:u=Value.ref a:=T;exact vM y D c n l λg p z o=>⟨v,O,z,o,q⟩
theorem jT(E:PE X o ta)(k:PE X value tv)(J:swapsWith value (some (.Attribute o f pos')) pos.line X.env=pure false):PS X (.Assign [.Attribute o f pos'] value pos) (sFld X.K ta tv f):=by
 intro B s Y H D I h;refine plainObj_wpAny_Assign_Attribute (thn (k B s Y H _ I h) λu m ⟨y,O,g,p,q⟩=>thn (E B m Y O _ g q) λe j ⟨x,d,z,T,a,C,t,fs,b,w,c,n,l,M⟩=>?_) J;subst b;obtain rfl:e=Value.ref a:=T;exact vy z w c n l p λr G=>⟨Y,_,G,M⟩
end
section
variable{X:Cx}{pins:List (Addr×Obj)}{σ:St}{H:Hp}{s:Shared}{A:Around}{E:Value->Shared->Prop}{Q:Value->Shared->Prop}{c:Value}{b:Bool}
inductive TyOf(K:ED)(H:Hp):V->Value->Prop where
 |non:TyOf K H .non (.type "NoneType")
 |bl (x:Bool):TyOf K H (.bl x) (.type "bool")
 |int (i:Int):TyOf K H (.int i) (.type "int")
 |str (x:Str):TyOf K H (.str x) (.type "str")
 |flt (x:UInt64):TyOf K H (.flt x) (.type "float")
 |lst {a:Addr} {xs:List V} (e:H a=some (.lst xs)):TyOf K H (.ref a) (.type "list")
 |frz {a:Addr} {o:Obj} {xs:List V} (e:H a=some (.frz o (.lst xs))):TyOf K H (.ref a) (.type "list")
 |tup {a:Addr} {xs:List V} (e:H a=some (.tup xs)):TyOf K H (.ref a) (.type "tuple")
 |dK {a:Addr} {kvs:List (Key×V)} (e:H a=some (.dK kvs)):TyOf K H (.ref a) (.type "dict")
 |dT {a:Addr} {kvs:List (List Key×V)} (e:H a=some (.dT kvs)):TyOf K H (.ref a) (.type "dict")
 |ins {a C dx:Addr} {fs:List (Str×V)} (e:H a=some (.ins C dx fs)) (cl:Cls K C) (ha:E3 K (.ref C) "__class__" = some (some (.builtin "object.__class__")))
   (hn:IA K (.builtin "object.__class__") "__get__" = some (some (.builtin "getset_descriptor.__get__"))) (htk:IL K (.builtin "object.__class__")=some true)
   (hm:Gy K C (.type "object")=some true):TyOf K H (.ref a) (.ref C)
theorem yU{x:V}{u t:Value}(I:Inv X pins σ H s)(T:RelV x u)(ty:TyOf X.K H x t)(e:FQ X.K t c=some b)(h:∀ tk,Q (.bool b) { s with toks:=tk }) :
  wpAny (model X.prog X.w) A (call (.builtin "isinstance") [u,c]) Q E s:=by
 cases ty with
 |non=>cases (show u=Value.none from T);exact F0 PySem.W.kitx_none I.kIn True.intro e (λz=>nomatch z) h
 |bl y=>cases (show u=Value.bool y from T);exact F0 PySem.W.kitx_bool I.kIn True.intro e (λz=>nomatch z) h
 |int i=>obtain⟨t,q⟩:=(show ∃ t,u=Value.int i t from T);cases q;exact F0 PySem.W.kitx_int I.kIn True.intro e (λz=>nomatch z) h
 |str y=>obtain⟨t,q⟩:=(show ∃ t,u=Value.str y t from T);cases q;exact F0 PySem.W.kitx_str I.kIn True.intro e (λz=>nomatch z) h
 |flt y=>obtain⟨t,q⟩:=(show ∃ t,u=Value.float y t from T);cases q;exact F0 PySem.W.kitx_float I.kIn True.intro e (λz=>nomatch z) h
 | @lst a M D =>
  cases (show u=Value.ref a from T)
  obtain⟨_,_,n,_,k⟩:=(show bV X.prog X.w H s.heap a (.lst M) from I.hok a _ D);exact F0 PySem.W.kitx_list I.kIn ⟨_,k,rfl⟩ e (λz=>nomatch z) h
 | @frz a g M D =>
  cases (show u=Value.ref a from T)
  obtain⟨_,_,_,n,_,k⟩:=(show bV X.prog X.w H s.heap a (.frz g (.lst M)) from I.hok a _ D);exact F0 PySem.W.kitx_list I.kIn ⟨_,k,rfl⟩ e (λz=>nomatch z) h
 | @tup a M D =>
  cases (show u=Value.ref a from T)
  obtain⟨_,_,_,p⟩:=(show bV X.prog X.w H s.heap a (.tup M) from I.hok a _ D);obtain⟨o,k,G,_⟩:=p;exact F0 PySem.W.kitx_tuple I.kIn ⟨o,k,G⟩ e (λz=>nomatch z) h
 | @dK a f D =>
  cases (show u=Value.ref a from T)
  obtain⟨_,_,N,_,p⟩:=(show bV X.prog X.w H s.heap a (.dK f) from I.hok a _ D);obtain⟨o,B,j,k,G,_⟩:=p;exact F0 PySem.W.kitx_dict I.kIn ⟨o,k,G.1⟩ e (λz=>nomatch z) h
 | @dT a f D =>
  cases (show u=Value.ref a from T)
  obtain⟨_,_,M,_,o,B,j,k,G,_⟩:=(show bV X.prog X.w H s.heap a (.dT f) from I.hok a _ D);exact F0 PySem.W.kitx_dict I.kIn ⟨o,k,G.1⟩ e (λz=>nomatch z) h
 | @ins a C l fs D v d r aa L =>
  cases (show u=Value.ref a from T)
  obtain⟨m,O,_⟩:=oM I.hok D;obtain⟨Y,J,_⟩:=O.look;exact F0 (PySem.W.kitx_own (v.get _) v.hd d r aa L) I.kIn J e (λz=>nomatch z) h
end
structure Room(k:Nat)(A:Around):Prop where
 hd:A.handled=none
 dp:A.depth+3*k+5<recursionLimit
 un:A.units+16*k+200<cLine
theorem Room.mono{j k:Nat}{A:Around}(r:Room k A)(h:j<=k):Room j A:=⟨r.hd,by have:=r.dp;omega,by have:=r.un;omega⟩
theorem Room.deeper{k:Nat}{A:Around}(r:Room (k+1) A)(env:Env):Room k (A.deeper env) :=
 ⟨r.hd,by have:=r.dp;show A.depth+1+3*k+5<_;omega,by have:=r.un;show A.units+3+16*k+200<_;omega⟩
theorem vG{A:Around}{C:Addr}{us:List Value}{kw:List (Str×Value)}:(A.under (.builtin "type.__call__" ⟨.ref C::us,kw⟩)).depth=A.depth+1:=by
 first | rfl | simp[Around.under,Code.weight,Code.isCreation,Code.isGuard,Code.isCaller,Code.frames,Code.isFrame,guardIds]
theorem vF{A:Around}{C:Addr}{us:List Value}{kw:List (Str×Value)}:(A.under (.builtin "type.__call__" ⟨.ref C::us,kw⟩)).units=A.units+1:=by
 first | rfl | simp[Around.under,Code.cUnits,Code.frames,Code.isFrame]
theorem Room.make{k:Nat}{A:Around}(r:Room (k+1) A)(C:Addr)(us:List Value)(kw:List (Str×Value)):Room k (A.under (.builtin "type.__call__" ⟨.ref C::us,kw⟩)) :=
 ⟨r.hd,by have:=r.dp;rw[vG];omega,by have:=r.un;rw[vF];omega⟩
theorem Room.depth{k:Nat}{A:Around}(r:Room k A):A.depth<recursionLimit:=by have:=r.dp;omega
theorem Room.units{k:Nat}{A:Around}(r:Room k A):A.units+64<cLine:=by have:=r.un;omega
noncomputable def tNil:TA:=λ_ H Q=>Q [] H
noncomputable def tCons(w:TE)(tr:TA):TA:=λY H Q=>w Y H λx O=>tr Y O λM u=>Q (x::M) u
section
variable{X:Cx}{e:Expr}{es:List Expr}{te:TE}{t:TA}{pos:Pos}
theorem ah:PA X [] tNil:=λ_ _ _ _ H Q I h=>Calls.spliced_nil ⟨[],H,I,.nil,h⟩
theorem ae(E:PE X e te)(L:PA X es t)(J:starEach (e::es) X.env=(false,eval e X.env)::starEach es X.env:=by rfl):PA X (e::es) (tCons te t):=by
 intro pos B s Y H Q I h;rw[J];show wpAny _ _ (spliced ((false,eval e X.env)::backTo pos (starEach es X.env))) _ _ s;refine Calls.spliced_cons (thn (E B s Y H _ I h) λu m ⟨x,O,y,C,n⟩=>?_);exact thn (L pos B m Y O _ y n) λa j ⟨M,d,z,c,o⟩=>⟨x::M,d,z,.cons C c,o⟩
noncomputable def tTup(t:TA):TE:=λY H Q=>t Y H λM O=>M.length<=sizeLine/\∀ p,O p=none->Q (.ref p) (upd O p (.tup M))
noncomputable def tLst(t:TA):TE:=λY H Q=>t Y H λM O=>M.length<=sizeLine/\∀ p,O p=none->Q (.ref p) (upd O p (.lst M))
theorem cO{x1}(h:PA X es t):PE X (.Tuple es x1 pos) (tTup t):=by
 intro B s Y H Q I T;refine wpAny_Tuple_spliced (thn (h pos B s Y H _ I T) λd m ⟨M,O,y,r,z,q⟩=>⟨by rw[← r.length];exact z,?_⟩)
 have p:O m.heap.objs.size=none:=y.hok.fresh (EI _);refine⟨.ref m.heap.objs.size,upd O m.heap.objs.size (.tup M),y.laid (t':=m.toks) (λb u e=>Heap.get?_push_of_some _ e) (EI _) ?_,rfl,q _ p⟩;exact⟨z,d,r,⟨_,Heap.get?_push_size _ rfl,rfl,_,rfl⟩⟩
theorem bO(h:PA X es t):PE X (.List es pos) (tLst t):=by
 intro B s Y H Q I T;refine wpAny_List_spliced (thn (h pos B s Y H _ I T) λd m ⟨M,O,y,r,z,q⟩=>⟨by rw[← r.length];exact z,?_⟩)
 have p:O m.heap.objs.size=none:=y.hok.fresh (EI _);refine⟨.ref m.heap.objs.size,upd O m.heap.objs.size (.lst M),y.laid (t':=m.toks) (λb u e=>Heap.get?_push_of_some _ e) (EI _) ?_,rfl,q _ p⟩;exact⟨z,d,0,r,Heap.get?_push_size _ rfl⟩
end
noncomputable abbrev Sp:=List V->Hp->VK->XK->Prop
noncomputable abbrev CXT:=List Env->Hp->Shared->XK->Value->Shared->Prop
structure Env0(P:Program)(w:World)(K:ED)(mg:Str->Option Value)(base:Heap)(A:Around)(outer:List Env)(s:Shared)(H:Hp):Prop where
 frames:A.frames=some outer
 mod:Mod K mg base
 bs:∀ b o,base.get? b=some o->s.heap.get? b=some o/\H b=none
 bsz:base.objs.size<=s.heap.objs.size
 funs:s.heap.FunFrames base outer
 frf:∀ b∈frs outer,H b=none
 hok:HOk P w H s.heap
 bare:AllBare s.gens
noncomputable def CE(outer:List Env)(P:Program)(w:World)(H:Hp)(s:Shared)(Q:VK)(u:Value)(s':Shared):Prop :=
 ∃ v j,s'.os=s.os/\AllBare s'.gens/\Un (frs outer) [] H j s.heap s'.heap/\HOk P w j s'.heap/\RelV v u/\Q v j
noncomputable def CR(CX:CXT)(outer:List Env)(P:Program)(w:World)(H:Hp)(s:Shared)(Q:VK)(E:XK)(r:Result)(s':Shared):Prop :=
 match r with
 |.ok (.ret u)=>CE outer P w H s Q u s'
 |.ok _=>False
 |.error e=>CX outer H s E e s'
structure FnOk(P:Program)(w:World)(K:ED)(mg:Str->Option Value)(base:Heap)(CX:CXT)(k:Nat)(f:Addr)(fd:FuncData)(ps:List Str)(sp:Sp):Prop where
 len:∀ vs H Q E,sp vs H Q E->vs.length=ps.length
 run:∀(A:Around)(outer:List Env)(s:Shared)(H:Hp)(args:Args)(us:List Value)(vs:List V)(Q:VK)(E:XK),Room k A->Env0 P w K mg base A outer s H->BindsTo s fd args (ps.zip us)->Vals vs us->sp vs H Q E ->
  codeAny (model P w) A (.call (.ref f) args) (CR CX outer P w H s Q E) s
theorem Env0.make{P:Program}{w:World}{K:ED}{mg:Str->Option Value}{base:Heap}{A:Around}{outer:List Env}{s:Shared}{H:Hp}(e:Env0 P w K mg base A outer s H)(C:Addr)(us:List Value)(kw:List (Str×Value)) :
  Env0 P w K mg base (A.under (.builtin "type.__call__" ⟨.ref C::us,kw⟩)) outer s H:=⟨by first | exact e.frames | (simpa[Around.under,Code.envs,Code.isFrame,pushEnvs] using e.frames),e.mod,e.bs,e.bsz,e.funs,e.frf,e.hok,e.bare⟩
section
variable{X:Cx}{pins:List (Addr×Obj)}{σ:St}{H:Hp}{s s':Shared}
theorem Inv.env0(I:Inv X pins σ H s):Env0 X.prog X.w X.K X.mg X.base X.A X.stack s H :=
 ⟨I.ok.frames,I.ok.mod,I.bs,FF I.ok.bsz I.sz,I.stack,I.stkFree,I.hok,I.bare⟩
theorem Inv.after{Q:VK}{u:Value}(I:Inv X pins σ H s)(h:CE X.stack X.prog X.w H s Q u s'):EP X pins σ Q u s':=by
 obtain⟨v,j,os,e,un,Y,r,q⟩:=h;obtain⟨c,g,d,t,a⟩:=s';obtain rfl:a=s.os:=os;exact⟨v,j,I.call (h':=c) (g':=g) (d':=d) (t':=t) (ch:=[]) un Y e (λb z=>absurd z (by simp)),r,q⟩
end
noncomputable def tCall(sp:Sp)(dvs:List V)(E:XK)(t:TA):TE:=λY H Q=>t Y H λN O=>sp (N++dvs) O Q E
noncomputable def tMeth(C:Addr)(m:Str)(sp:Sp)(dvs:List V)(E:XK)(w:TE)(t:TA):TE:=λY H Q=>w Y H λx O=>∃ a l fs,x=.ref a/\O a=some (.ins C l fs)/\fs.lookup m=none /\
 t Y O λN u=>sp (x::(N++dvs)) u Q E
noncomputable def tMake(C:Addr)(sp:Sp)(dvs:List V)(E:XK)(t:TA):TE:=λY H Q=>t Y H λN O=>∀ x l,O x=none->O l=none->l≠x ->
 sp (.ref x::(N++dvs)) (upd (upd O l (.own x)) x (.ins C l [])) (λv u=>v=.non/\Q (.ref x) u) E
noncomputable def cW(K:ED)(fd:FuncData)(ps:List Str)(ds:List Value):Prop :=
 ∀(s:Shared)(d:List Value),K.In s.heap->(d++ds).length=ps.length->BindsTo s fd ⟨d,[]⟩ (ps.zip (d++ds))
theorem cW.all{K:ED}{fd:FuncData}{ps:List Str}(h:∀ us:List Value,us.length=ps.length->bindArgs fd ⟨us,[]⟩=pure (ps.zip us)):cW K fd ps []:=λs us _ D=>by
 rw[GV]at D ⊢;exact .of_eq (h us D)
noncomputable def mD(CX:CXT)(X:Cx)(E:XK):Prop:=∀(B:List (Addr×Obj))(Y:St)(H:Hp)(s:Shared)(e:Value)(g:Shared),Inv X B Y H s->CX X.stack H s E e g->X.xe e g
section
variable{X:Cx}{CX:CXT}{k:Nat}{f C:Addr}{fd:FuncData}{ps:List Str}{sp:Sp}{dvs:List V}{ds:List Value}{E:XK}{x m:Str}{p pos apos:Pos}{e o:Expr}{es:List Expr}{ta:TE}{t:TA}
theorem xX{B:List (Addr×Obj)}{σ:St}{H:Hp}{s:Shared}{Q:VK}{us:List Value}{vs:List V}(F:FnOk X.prog X.w X.K X.mg X.base CX k f fd ps sp)(L:Room k X.A)(G:cW X.K fd ps ds)(hd:Vals dvs ds)(O:mD CX X E)
  (I:Inv X B σ H s) (r:Vals vs us) (h:sp (vs++dvs) H Q E):wpAny (model X.prog X.w) X.A (call (.ref f) us) (EP X B σ Q) X.xe s:=by
 have J:Vals (vs++dvs) (us++ds):=r.append hd;have D:(us++ds).length=ps.length:=by rw[← J.length];exact F.len _ _ _ _ h
 refine wpAny_call (codeAny_mono (F.run X.A X.stack s H ⟨us,[]⟩ (us++ds) (vs++dvs) Q E L I.env0 (G s us I.kIn D) J h) λr g T=>?_)
 cases r with
 |error e=>exact O B σ H s e g I T
 |ok p =>
  cases p with
  |ret u=>exact I.after T
  |next=>exact False.elim T
  |brk=>exact False.elim T
  |cont=>exact False.elim T
theorem az(F:FnOk X.prog X.w X.K X.mg X.base CX k f fd ps sp)(L:Room k X.A)(D:Gl X x)(i:X.mg x=some (.ref f))(g:Ft X.K (.ref f)=true)(G:cW X.K fd ps ds)(hd:Vals dvs ds)(O:mD CX X E)
  (d:PA X (e::es) t) (v:(x == ("__debug__" : Str))=false:=by decide) (j:starEach (e::es) X.env=(false,eval e X.env)::starEach es X.env:=by rfl) (b:(backTo pos (starEach es X.env)).any (·.1)=false:=by rfl) :
  PE X (.Call (.Name x p) (e::es) [] pos) (tCall sp dvs E t):=by
 intro B s Y H Q I h;refine wpAny_Call_Name_kw (gH I D i ?_ v);refine Hj (h₀:=X.base) I.ok.mod.kin g (thn (d pos B s Y H _ I h) λa m ⟨N,M,y,r,q⟩=>⟨y.kIn,?_⟩) j b;exact xX F L G hd O y r q
theorem AM(F:FnOk X.prog X.w X.K X.mg X.base CX k f fd ps sp)(L:Room k X.A)(D:Gl X x)(i:X.mg x=some (.ref f))(g:Ft X.K (.ref f)=true)(G:cW X.K fd ps ds)(hd:Vals dvs ds)(O:mD CX X E)
  (v:(x == ("__debug__" : Str))=false:=by decide):PE X (.Call (.Name x p) [] [] pos) (tCall sp dvs E tNil):=by
 intro B s Y H Q I h;refine wpAny_Call_Name_kw (gH I D i ?_ v);exact PySem.W.callWith_K0 I.kIn g (xX (us:=[]) F L G hd O I .nil h)
theorem fQ{pl:Sem Bool}(j:PE X o ta)(c:Cls X.K C)(i:Meth X.K C m f)(F:FnOk X.prog X.w X.K X.mg X.base CX k f fd ps sp)(L:Room k X.A)(G:cW X.K fd ps ds)(hd:Vals dvs ds)(O:mD CX X E)
  (g:eval (.Call (.Attribute o m apos) [] [] pos) X.env=(do
   let p ← eval o X.env
   standAt apos.atName
   let (f,first) ← holding [p] (getMethod p m pl)
   callWith pos f first (backTo pos (starEach [] X.env)) (backToKw pos (keywordEach [] X.env))):=by rfl) :
  PE X (.Call (.Attribute o m apos) [] [] pos) (tMeth C m sp dvs E ta tNil):=by
 intro B s Y H Q I h;refine PySem.W.methodCall_KW (pl:=pl) (thn (j B s Y H _ I h) λu J ⟨x,M,y,T,a,t,fs,b,D,l,q⟩=>?_) g;subst b;obtain rfl:u=Value.ref a:=T;refine vL y D c i l ?_;exact PySem.W.callWith_K0 (first:=[.ref a]) y.kIn i.kp (xX (us:=[.ref a]) (vs:=[.ref a]) F L G hd O y (.cons rfl .nil) q)
structure Mk(K:ED)(C f:Addr):Prop where
 makes:HB K C=true
 init:E3 K (.ref C) "__init__" = some (some (.ref f))
 fn:Hi K (.ref f)=true
 kp:Ft K (.ref C)=true
theorem AF{B:List (Addr×Obj)}{σ:St}{H:Hp}{s:Shared}{Q:VK}{us:List Value}{vs:List V}(M:Mk X.K C f)(F:FnOk X.prog X.w X.K X.mg X.base CX k f fd ps sp)(L:Room (k+1) X.A)(G:cW X.K fd ps ds)(hd:Vals dvs ds)
  (O:mD CX X E) (I:Inv X B σ H s) (r:Vals vs us)
  (h:∀ x l,H x=none->H l=none->l≠x->sp (.ref x::(vs++dvs)) (upd (upd H l (.own x)) x (.ins C l [])) (λv H2=>v=.non/\Q (.ref x) H2) E) :
  wpAny (model X.prog X.w) X.A (call (.ref C) us) (EP X B σ Q) X.xe s:=by
 have T:=h (s.heap.objs.size+1) s.heap.objs.size (I.hok.fresh (GW _)) (I.hok.fresh (EI _)) (Fo (FV _));have z:=Inv.made (C:=C) I;have J:Vals (V.ref (s.heap.objs.size+1)::(vs++dvs)) (Value.ref (s.heap.objs.size+1)::(us++ds)):=.cons rfl (r.append hd);have D:(Value.ref (s.heap.objs.size+1)::us++ds).length=ps.length:=by
  have e:=J.length;rw[F.len _ _ _ _ T]at e;exact e.symm
 refine wpAny_call (Bp (f:=f) I.kIn M.makes M.init (beq_iff_eq.mp M.fn) (codeAny_mono (F.run _ X.stack _ _ ⟨Value.ref (s.heap.objs.size+1)::us,[]⟩ (Value.ref (s.heap.objs.size+1)::(us++ds)) _ _ E (L.make C us [])
  (z.env0.make C us []) (G _ (Value.ref (s.heap.objs.size+1)::us) z.kIn D) J T) λr g N=>?_))
 cases r with
 |error e=>exact O B σ _ _ e g z N
 |ok p =>
  cases p with
  |ret u =>
   obtain⟨v,j,a,m,i,t⟩:=z.after N;subst i;exact⟨m,⟨V.ref (s.heap.objs.size+1),j,a,rfl,t⟩⟩
  |next=>exact False.elim N
  |brk=>exact False.elim N
  |cont=>exact False.elim N
theorem jH(M:Mk X.K C f)(F:FnOk X.prog X.w X.K X.mg X.base CX k f fd ps sp)(L:Room (k+1) X.A)(D:Gl X x)(i:X.mg x=some (.ref C))(G:cW X.K fd ps ds)(hd:Vals dvs ds)(O:mD CX X E)
  (d:PA X (e::es) t) (v:(x == ("__debug__" : Str))=false:=by decide) (j:starEach (e::es) X.env=(false,eval e X.env)::starEach es X.env:=by rfl) (b:(backTo pos (starEach es X.env)).any (·.1)=false:=by rfl) :
  PE X (.Call (.Name x p) (e::es) [] pos) (tMake C sp dvs E t):=by
 intro B s Y H Q I h;refine wpAny_Call_Name_kw (gH I D i ?_ v);refine Hj (h₀:=X.base) I.ok.mod.kin M.kp (thn (d pos B s Y H _ I h) λa m ⟨N,y,c,r,q⟩=>⟨c.kIn,?_⟩) j b;exact AF M F L G hd O c r q
end
section
variable{X:Cx}{CX:CXT}{k:Nat}{f C:Addr}{fd:FuncData}{ps ks:List Str}{sp:Sp}{E:XK}{x m:Str}{p pos apos kpos:Pos}{e o:Expr}{es:List Expr}{kws:List Keyword}{te ta:TE}{t tk:TA}{nm:Option Str}
variable{g:List Value->List Value->List Value}{gV:List V->List V->List V}
end
structure ax(N P:List Str)(sc:Scope):Prop where
 kind:sc.kind=.function
 co:sc.isCoroutine=false
 gen:sc.isGenerator=false
 nd:N.Nodup
 pre:N.take P.length=P
 par:∀ x∈P,sc.names.lookup x=some .local∨sc.names.lookup x=some .cell
 nofree:∀ y∈sc.names,y.2≠.free
theorem qY{kindOf:Str->Option NameKind}{x:Str}:∀{binds:List (Str×Value)}{m:Str->Option Value},(∀ v,(x,v)∉binds)->bindL kindOf binds m x=m x
 |[],_,_=>rfl
 | (n,v)::r,m,h=>by
  unfold bindL;rw[qY λw c=>h w (EK _ c)];split
  ·have:x≠n:=by rintro rfl;exact h v EM
   simp[this]
  ·rfl
theorem q8{kindOf:Str->Option NameKind}{x:Str}:∀{binds:List (Str×Value)}{m:Str->Option Value},(∀ v,(x,v)∉binds)->bindC kindOf binds m x=m x
 |[],_,_=>rfl
 | (n,v)::r,m,h=>by
  unfold bindC;rw[q8 λw c=>h w (EK _ c)];split
  ·rfl
  ·have:x≠n:=by rintro rfl;exact h v EM
   simp[this]
theorem qZ{kindOf:Str->Option NameKind}{x:Str}{v:Value}:∀{P:List Str}{vs:List Value}{i:Nat}{m:Str->Option Value},P.Nodup->P[i]?=some x->vs[i]?=some v->kindOf x=some .local ->
  bindL kindOf (P.zip vs) m x=some v
 |[],_,_,_,_,h,_,_=>by simp at h
 |_::_,[],_,_,_,_,h,_=>by simp at h
 |p::P,w::vs,0,m,o,J,C,g=>by
  simp at J C;subst J;subst C;show bindL kindOf ((p,w)::P.zip vs) m p=_;unfold bindL;rw[qY λv B=>(EL.mp o).1 (IQ B).1,if_pos g];simp
 |p::P,w::vs,i+1,m,o,J,C,g=>by
  show bindL kindOf ((p,w)::P.zip vs) m x=_;unfold bindL;exact qZ (i:=i) (EL.mp o).2 (by simpa using J) (by simpa using C) g
theorem ra{kindOf:Str->Option NameKind}{x:Str}{v:Value}:∀{P:List Str}{vs:List Value}{i:Nat}{m:Str->Option Value},P.Nodup->P[i]?=some x->vs[i]?=some v->kindOf x≠some .local ->
  bindC kindOf (P.zip vs) m x=some v
 |[],_,_,_,_,h,_,_=>by simp at h
 |_::_,[],_,_,_,_,h,_=>by simp at h
 |p::P,w::vs,0,m,o,J,C,g=>by
  simp at J C;subst J;subst C;show bindC kindOf ((p,w)::P.zip vs) m p=_;unfold bindC;rw[q8 λv B=>(EL.mp o).1 (IQ B).1,if_neg g];simp
 |p::P,w::vs,i+1,m,o,J,C,g=>by
  show bindC kindOf ((p,w)::P.zip vs) m x=_;unfold bindC;exact ra (i:=i) (EL.mp o).2 (by simpa using J) (by simpa using C) g
noncomputable def start(N:List Str)(vs:List V):St:=vs.map some++ET (N.length-vs.length) none
noncomputable def cxOf(CX:CXT)(P:Program)(w:World)(K:ED)(mg:Str->Option Value)(base:Heap)(N:List Str)(m:Str)(scope:Scope)(f:Addr)(j:Value)(A:Around)(outer:List Env)(s:Shared)(H:Hp)(E:XK):Cx where
 prog:=P
 w:=w
 K:=K
 mg:=mg
 base:=base
 A:=A.deeper (envOfC m scope s.heap.objs.size f j)
 N:=N
 s₀:=s
 H₀:=H
 env:=envOfC m scope s.heap.objs.size f j
 outer:=outer
 stack:=envOfC m scope s.heap.objs.size f j::outer
 ex:=[]
 calm:=true
 fn:=λ_=>true
 pn:=[]
 xe:=λe g=>wpAny (model P w) (A.deeper (envOfC m scope s.heap.objs.size f j)) (leaving (envOfC m scope s.heap.objs.size f j) e) (λ_ b=>CX outer H s E e b) (λu b=>CX outer H s E u b) g
theorem vn{a:Scope}{n:Nat}{x:Str}(h:a.names.lookup x=some .cell):∃ c,(cellsFrom n a.names []).lookup x=some c:=by
 have q:=PySem.W.cellsFrom_some a.names n [] (.inl h);exact HJ.mp q
theorem yV{CX:CXT}{P:Program}{w:World}{K:ED}{mg:Str->Option Value}{base:Heap}{N ps:List Str}{m:Str}{scope:Scope}{f:Addr}{l:Value}{A:Around}{outer:List Env}{s s1:Shared}{H:Hp}{E:XK}{us:List Value}{vs:List V}
  (S:ax N ps scope) (hd:A.handled=none) (t:Env0 P w K mg base A outer s H) (hl:vs.length=ps.length) (r:Vals vs us)
  (x:InCallC s s.heap.objs.size (bindL (envOfC m scope s.heap.objs.size f l).kindOf (ps.zip us) λ_=>none) (cellsFrom (s.heap.objs.size+1) scope.names []) (bindC (envOfC m scope s.heap.objs.size f l).kindOf (ps.zip us) λ_=>none) s1) :
  Inv (cxOf CX P w K mg base N m scope f l A outer s H E) [] (start N vs) H s1:=by
 have j:ps.length<=N.length:=by have:=congrArg List.length S.pre;rw[Fy]at this;omega
 obtain⟨J,Y,rfl,g⟩:=x.done;have o:∀ b:Addr,b∉(cxOf CX P w K mg base N m scope f l A outer s H E).ex:=λb z=>absurd (show b∈([]:List Addr) from z) (by simp)
 refine⟨⟨t.mod,S.kind,rfl,rfl,EI _,λy z c J C=>?_,λy B=>?_,λy c _ h=>?_,λ_=>hd,Around.frames_deeper t.frames,.inr ⟨rfl,rfl⟩,λb z=>absurd z (o b),t.bs,t.bsz,λb _ _=>o b,λb z=>absurd z (o b),t.funs,t.frf⟩,
  rfl,t.bare,Un.kept g,⟨_,x.toInCall.ns,λi y v J C G=>?_⟩,λy c h=>⟨_,x.cell y c h⟩,t.hok.fresh (EI _),λy c h=>?_,λp M=>absurd (show p∈([]:List (Addr×Obj)) from M) (by simp),t.hok.kept g,?_⟩
 ·exact name_of_addr x.apart (GA J) (GA C)
 ·have B:scope.names.lookup y=some .cell∨scope.names.lookup y=some .free:=B
  rcases B with B | B
  ·exact vn B
  ·exact absurd rfl (S.nofree _ (GA B))
 ·exact Fq (x.above y c (GA h))
 ·have I:i<vs.length:=by
   unfold start at C;by_cases I:i<vs.length
   ·exact I
   ·rw[EF (by simpa using I)]at C
    rw[Gb]at C;split at C<;>cases C
  have d:vs[i]?=some v:=by
   unfold start at C;rw[EH (by simpa using I),EO]at C
   cases e:vs[i]? with
   |none=>rw[e]at C;cases C
   |some a=>rw[e]at C;cases C;rfl
  obtain⟨u,L,O⟩:=r.get d;have M:ps[i]?=some y:=by
   rw[← S.pre,List.getElem?_take_of_lt (by omega)];exact J
  have D:ps.Nodup:=by rw[← S.pre];exact S.nd.sublist (List.take_sublist _ _)
  refine⟨u,O,?_⟩;rcases S.par y (EC M)with k | k
  ·exact .inl ⟨k,qZ D M L k⟩
  ·obtain⟨c,e⟩:=vn (n:=s.heap.objs.size+1) k;refine .inr ⟨.inl k,c,e,?_⟩;have q:=x.cell y c e;rw[ra D M L (by show scope.names.lookup y≠_;rw[k];decide)]at q
   exact q
 ·exact t.hok.fresh (Fq (x.above y c (GA h)))
 ·unfold start;show _=N.length;rw[EG,EJ,Gw];omega
theorem BC{CX:CXT}{P:Program}{w:World}{K:ED}{mg:Str->Option Value}{base:Heap}{k:Nat}{f:Addr}{aa m:Str}{al:Arguments}{body:List Stmt}{scope:Scope}{dV kV M i l ct oc:Value}{an od:Option Addr}
  {ac:Array (Option Value)} {N ps:List Str} {sp:Sp} (lk:K.lookup f=some ⟨oc,od,.func (FO aa m al body scope dV kV M i an l ct),ac⟩) (a:F2 K l m=true) (S:ax N ps scope)
  (len:∀ vs H Q E,sp vs H Q E->vs.length=ps.length)
  (c:∀(A:Around)(outer:List Env)(s:Shared)(H:Hp)(vs:List V)(Q:VK)(E:XK),Room k (A.deeper (envOfC m scope s.heap.objs.size f l))->sp vs H Q E ->
   ∃ t,PSs (cxOf CX P w K mg base N m scope f l A outer s H E) body t/\t { nx:=λ_ H'=>Q .non H',rt:=Q } (start N vs) H) :
  FnOk P w K mg base CX (k+1) f (FO aa m al body scope dV kV M i an l ct) ps sp:=by
 refine⟨len,λA outer s H aP d vs Q E L C G r ab=>?_⟩;have D:=len _ _ _ _ ab;have KX:K.In s.heap:=C.mod.kin.keeps λb o e=>(C.bs b o e).1;have ap:s.heap.NoLimit:=C.mod.nolimit.keeps λb o e=>(C.bs b o e).1;have aT:∀ y∈ps.zip d,scope.names.lookup y.1=some .local∨(scope.names.lookup y.1=some .cell/\((cellsFrom (s.heap.objs.size+1) scope.names []).lookup y.1).isSome=true):=λ⟨n,v⟩ B=>by
  rcases S.par n (IQ B).1 with q | q
  ·exact .inl q
  ·exact .inr ⟨q,PySem.W.cellsFrom_some _ _ _ (.inl q)⟩
 refine codeAny_call_function L.depth (KX _ _ lk) rfl S.co S.gen rfl (PySem.W.codeRec_of KX a) (G _ _ _ _ ?_);refine wpAny_newFunctionEnv_cells S.kind aT λam j s1 x=>?_;subst j;refine⟨ap.keeps x.toInCall.keep,codeAny_func ?_⟩;obtain⟨t,Y,T⟩:=c A outer s H vs Q E (L.deeper _) ab;have I:Inv (cxOf CX P w K mg base N m scope f l A outer s H E) [] (start N vs) H s1:=yV S L.hd C D r x;refine wpAny_mono (Y [] s1 (start N vs) H _ I T) (λh g p=>?_) λe g p=>p;have fin:∀{z:St}{H':Hp}{v:V}{u:Value},Inv (cxOf CX P w K mg base N m scope f l A outer s H E) [] z H' g->RelV v u->Q v H'->CE outer P w H s Q u g :=
  λ{z H' v u} J O q=>⟨v,H',J.os,J.bare,J.base,J.hok,O,q⟩
 cases h with
 |ret u =>
  obtain⟨v,z,H',J,O,q⟩:=p;exact fin J O q
 |next =>
  obtain⟨z,H',J,q⟩:=p;exact fin (v:=V.non) (u:=Value.none) J rfl q
 |brk =>
  obtain⟨_,_,_,q⟩:=p;exact False.elim q
 |cont =>
  obtain⟨_,_,_,q⟩:=p;exact False.elim q
section
variable{X:Cx}{x:Str}{p pos:Pos}{e:Expr}{es:List Expr}{t:TA}{id T:String}{r:List V->Hp->VK->Prop}
noncomputable def tCB(r:List V->Hp->VK->Prop)(t:TA):TE:=λY H Q=>t Y H λN O=>r N O Q
theorem ay(l:jq X (.builtin id) r)(L:Gl X x)(i:X.mg x=none)(k:bootBuiltins x=some (.builtin id))(E:PA X (e::es) t) (f:x≠"__name__":=by decide) (v:(x == ("__debug__" : Str))=false:=by decide)
  (j:starEach (e::es) X.env=(false,eval e X.env)::starEach es X.env:=by rfl) (b:(backTo pos (starEach es X.env)).any (·.1)=false:=by rfl):PE X (.Call (.Name x p) (e::es) [] pos) (tCB r t):=by
 intro B s Y H Q I h;refine wpAny_Call_Name_kw (eh I L i k ?_ f v);exact PyProof.Rows.callWith_builtin1 (thn (E pos B s Y H _ I h) λd m ⟨N,O,y,C,n⟩=>l B m Y O N d Q y C n) j b
theorem gy(l:jq X (.type T) r)(L:Gl X x)(i:X.mg x=none)(k:bootBuiltins x=some (.type T))(E:PA X (e::es) t) (f:x≠"__name__":=by decide) (v:(x == ("__debug__" : Str))=false:=by decide)
  (j:starEach (e::es) X.env=(false,eval e X.env)::starEach es X.env:=by rfl) (b:(backTo pos (starEach es X.env)).any (·.1)=false:=by rfl):PE X (.Call (.Name x p) (e::es) [] pos) (tCB r t):=by
 intro B s Y H Q I h;refine wpAny_Call_Name_kw (eh I L i k ?_ f v);exact PyProof.Rows.callWith_type1 (thn (E pos B s Y H _ I h) λd m ⟨N,O,y,C,n⟩=>l B m Y O N d Q y C n) j b
end
end L2
namespace HT
open PySem PyProof.Rows
section
open PySem.SeqAt
open PySem.AutoSeq1 (wpAny_loadPart')
open PySem.MeetsSeq PySem.MeetsSeq2 PySem.MeetsSeq3
end
section
variable{prog:Program}{w:World}{A:Around}{E:Value->Shared->Prop}{s:Shared}
noncomputable def sIx(n d:Nat):Option Int->Nat
 |none=>d
 |some v=>if v<0 then(v+(n:Int)).toNat else min v.toNat n
theorem sIx_none(n d:Nat):sIx n d none=d:=rfl
theorem sIx_nat(n d k:Nat):sIx n d (some (k:Int))=min k n:=by
 show(if(k:Int)<0 then((k:Int)+(n:Int)).toNat else min (k:Int).toNat n)=min k n;rw[if_neg (by omega),EN]
end
end HT
namespace L2
open PySem PySem.Spec PyProof.Rows
noncomputable abbrev TO:=St->Hp->(Option Int->Hp->Prop)->Prop
noncomputable def PO(X:Cx)(e:Option Expr)(t:TO):Prop :=
 ∀(B:List (Addr×Obj))(s:Shared)(Y:St)(H:Hp)(Q:Option Int->Hp->Prop),Inv X B Y H s->t Y H Q ->
  wpAny (model X.prog X.w) X.A (evalPart e X.env) (λu g=>∃ o j,Inv X B Y j g/\IsPart u o/\Q o j) X.xe s
noncomputable def CS:TO:=λ_ H Q=>Q none H
noncomputable def tPart(t:TE):TO:=λY H Q=>t Y H λx O=>∃ i,x=.int i/\Q (some i) O
section
variable{X:Cx}{e:Expr}{te:TE}{lo hi:Option Expr}{tl th:TO}{pos p2:Pos}
theorem iB:PO X none CS:=by
 intro B s Y H Q I h;rw[evalPart_none];exact wpAny_pure ⟨none,H,I,.none,h⟩
theorem dN(h:PE X e te):PO X (some e) (tPart te):=by
 intro B s Y H Q I c;rw[evalPart_some];refine thn (h B s Y H _ I c) λu m ⟨x,O,y,C,n⟩=>?_;obtain⟨i,rfl,q⟩:=n;obtain⟨t,rfl⟩:=C;exact⟨some i,O,y,.int i t,q⟩
noncomputable def SlR(X:Cx)(r:V->Option Int->Option Int->Hp->VK->Prop):Prop :=
 ∀(B:List (Addr×Obj))(s:Shared)(Y:St)(H:Hp)(x:V)(v N e:Value)(lo hi:Option Int)(E:Addr)(Q:VK),Inv X B Y H s->RelV x v->s.heap.IsSliceOf E N e .none->IsPart N lo->IsPart e hi->r x lo hi H Q ->
  ∃ T id,typeLookup (.type T) "__getitem__" = pure (some (.builtin id))/\s.TypeIs v T/\wpAny (model X.prog X.w) X.A (getItem v (.ref E)) (EP X B Y Q) X.xe s
noncomputable def tSl(r:V->Option Int->Option Int->Hp->VK->Prop)(te:TE)(tl th:TO):TE:=λY H Q=>te Y H λx O=>tl Y O λl d=>th Y d λu e=>r x l u e Q
theorem dB{r:V->Option Int->Option Int->Hp->VK->Prop}(L:SlR X r)(j:PE X e te)(hl:PO X lo tl)(f:PO X hi th):PE X (.Subscript e (.Slice lo hi none p2) pos) (tSl r te tl th):=by
 intro B s Y H Q I h;refine Subscript_ (thn (j B s Y H _ I h) λv m ⟨x,O,y,C,n⟩=>?_);refine wpAny_Slice (thn (hl B m Y O _ y n) λN p ⟨l,d,z,i,M⟩=>thn (f B p Y d _ z M) λvu k ⟨u,o,G,J,t⟩=>?_);rw[evalPart_none];refine wpAny_pure ?_;have E:Inv X B Y o { k with heap:=k.heap.push { cls:=.type "slice",data:=.fields #[N,vu,.none] } }:=G.kept (t':=k.toks) λb c q=>Heap.get?_push_of_some _ q;obtain⟨T,id,a,g,D⟩:=L B { k with heap:=k.heap.push { cls:=.type "slice",data:=.fields #[N,vu,.none] } } Y o x v N vu l u k.heap.objs.size Q E C (Heap.IsSliceOf.new ..) i J t;show wpAny (model X.prog X.w) X.A (subscriptTail e (.Slice lo hi none p2) v (.ref k.heap.objs.size)) (EP X B Y Q) X.xe { k with heap:=k.heap.push { cls:=.type "slice",data:=.fields #[N,vu,.none] } };exact tail_any (ops:=[.ref k.heap.objs.size,v]) g a D (by with_unfolding_all rfl)
noncomputable def cutV(xs:List V)(lo hi:Option Int):List V:=(xs.drop (HT.sIx xs.length 0 lo)).take (HT.sIx xs.length xs.length hi-HT.sIx xs.length 0 lo)
theorem uq(xs:List V)(lo hi:Option Int):(cutV xs lo hi).length<=xs.length:=by
 unfold cutV;rw[Fy,Ge];omega
end
noncomputable def ixN(n:Nat)(i:Int):Option Nat:=if 0<=i then(if i<n then some i.toNat else none) else if -(n:Int)<=i then some (i+n).toNat else none
noncomputable def atI{α:Type}(xs:List α)(i:Int):Option α:=(ixN xs.length i).bind λj=>xs[j]?
theorem sZ{n:Nat}{i:Int}{j:Nat}(h:ixN n i=some j):seqIndex? i n=some j/\j<n/\-(n:Int)<=i/\i<n:=by
 unfold ixN at h;by_cases u:0<=i
 ·rw[if_pos u]at h;by_cases J:i<n
  ·rw[if_pos J]at h;have e:i.toNat=j:=E8 h;exact⟨by rw[seqIndex_of u J,e],by omega,by omega,J⟩
  ·rw[if_neg J]at h;cases h
 ·rw[if_neg u]at h;by_cases J : -(n:Int)<=i
  ·rw[if_pos J]at h;have e:(i+n).toNat=j:=E8 h;exact⟨by rw[seqIndex_neg (by omega) J,e],by omega,J,by omega⟩
  ·rw[if_neg J]at h;cases h
theorem Af{α:Type}{xs:List α}{i:Int}{v:α}(h:atI xs i=some v):∃ j,seqIndex? i xs.length=some j/\xs[j]?=some v/\j<xs.length/\-(xs.length:Int)<=i/\i<xs.length:=by
 unfold atI at h
 cases e:ixN xs.length i with
 |none=>rw[e]at h;cases h
 |some j =>
  rw[e]at h;obtain⟨J,C,G,k⟩:=sZ e;exact⟨j,J,h,C,G,k⟩
theorem aA{α:Type}{xs:List α}{j:Nat}{v:α}(h:xs[j]?=some v):atI xs (j:Int)=some v:=by
 have E:j<xs.length:=(EB.mp h).1;have e:ixN xs.length (j:Int)=some j:=by
  unfold ixN;rw[if_pos (by omega),if_pos (by omega)];simp
 unfold atI;rw[e];exact h
noncomputable def Ez(b:Expr):Prop:=∀ o i,subscripted b false o i=operate [o,i] (getItem o i)
noncomputable def IxR(X:Cx)(r:R2):Prop :=
 ∀(e a:Expr)(B:List (Addr×Obj))(s:Shared)(Y:St)(H:Hp)(x y:V)(v u:Value)(Q:VK),Inv X B Y H s->RelV x v->RelV y u->r x y H Q ->
  subscripted a false v u=operate [v,u] (getItem v u)->wpAny (model X.prog X.w) X.A (subscriptTail e a v u) (EP X B Y Q) X.xe s
noncomputable def MtR(X:Cx)(id:String)(r:V->List V->Hp->VK->Prop):Prop :=
 ∀(B:List (Addr×Obj))(s:Shared)(Y:St)(H:Hp)(x:V)(M:List V)(v:Value)(d:List Value)(Q:VK),Inv X B Y H s->RelV x v->Vals M d->r x M H Q ->
  wpAny (model X.prog X.w) X.A (call (.builtin id) (v::d)) (EP X B Y Q) X.xe s
section
variable{X:Cx}{a b:Expr}{ta tb:TE}{pos:Pos}
theorem aB{r:R2}(L:IxR X r)(E:PE X a ta)(G:PE X b tb)(J:Ez b):PE X (.Subscript a b pos) (tOp r ta tb):=by
 intro B s Y H Q I h;exact Subscript_ (binT E G I h λv u j x y d z T m q=>L a b B j Y d x y v u Q z T m q (J _ _))
noncomputable def rIxL(K:ED):R2:=λx y H Q=>∃ p M i v,x=.ref p/\y=.int i/\SqL K H p M/\atI M i=some v/\Q v H
noncomputable def rIxT(K:ED):R2:=λx y H Q=>∃ p M i v,x=.ref p/\y=.int i/\SqT K H p M/\atI M i=some v/\Q v H
theorem aD:IxR X (rIxL X.K):=by
 intro e a B s Y H x y v u Q I c m h O;obtain⟨p,M,i,z,rfl,rfl,T,o,q⟩:=h
 cases c
 obtain⟨t,rfl⟩:=m;obtain⟨A,r,L,n⟩:=I.list T;obtain⟨j,J,C,G,k,b⟩:=Af o;obtain⟨w,N,l⟩:=r.get C;have D:=r.length;have f:=m7;have fin:EP X B Y Q w s:=⟨z,H,I,l,q⟩;by_cases d:0<=i
 ·have E:i.toNat=j:=by
   rw[seqIndex_of d b]at J;exact E8 J
  exact item_listR L.isList d (by omega) (by rw[E];simpa using N) fin O
 ·have E:(i+(A.toArray.size:Int)).toNat=j:=by
   rw[seqIndex_neg (by omega) k]at J
   rw[E9,← D];exact E8 J
  exact subscriptTail_builtinR (x:=w) L.isList.typeIs slot_list_getitem.lookup
   (wpAny_getItem_list_neg (Q:=λr g=>r=w/\EP X B Y Q r g) L.isList (by omega) (by rw[E9]<;>omega) (by omega) (by rw[E];simpa using N) ⟨rfl,fin⟩) O
theorem aK:IxR X (rIxT X.K):=by
 intro e a B s Y H x y v u Q I c m h O;obtain⟨p,M,i,z,rfl,rfl,T,o,q⟩:=h
 cases c
 obtain⟨t,rfl⟩:=m;obtain⟨A,r,L,n⟩:=I.tuple T;obtain⟨j,J,C,G,k,b⟩:=Af o;obtain⟨w,N,l⟩:=r.get C;have D:=r.length;have f:=m7;have fin:EP X B Y Q w s:=⟨z,H,I,l,q⟩;exact subscriptTail_builtinR (x:=w) L.typeIs slot_tuple_getitem.lookup
  (getItem_tuple (j:=j) (Q:=λr g=>r=w/\EP X B Y Q r g) L (by omega) (by omega) (by rw[E9,← D];exact J) (by simpa using N) ⟨rfl,fin⟩) O
theorem vE(its:List Value)(n j:Nat)(u:Value):Obj.mapSeq (·.setIfInBounds j u) { cls:=.type "list",data:=.seq its.toArray n }={ cls:=.type "list",data:=.seq (its.set j u).toArray n }:=by
 simp[Obj.mapSeq]
theorem Inv.lst{B:List (Addr×Obj)}{σ:St}{H:Hp}{s:Shared}{p:Addr}{xs:List V}(I:Inv X B σ H s)(h:H p=some (.lst xs)) :
  ∃(its:List Value)(n:Nat),Vals xs its/\s.heap.get? p=some { cls:=.type "list",data:=.seq its.toArray n }/\xs.length<=sizeLine:=by
 obtain⟨z,its,n,r,e⟩:=I.hok p _ h;exact⟨its,n,r,e,z⟩
theorem Inv.lstUpd{B:List (Addr×Obj)}{σ:St}{H:Hp}{s:Shared}{p:Addr}{xs ys:List V}{its its':List Value}{n g:Nat}{f:Obj->Obj}(I:Inv X B σ H s)(h:H p=some (.lst xs))
  (N:s.heap.get? p=some { cls:=.type "list",data:=.seq its.toArray n }) (j:f { cls:=.type "list",data:=.seq its.toArray n }={ cls:=.type "list",data:=.seq its'.toArray g }) (r:Vals ys its') (hz:ys.length<=sizeLine) (t:Nat) :
  Inv X B σ (upd H p (.lst ys)) { s with heap:=s.heap.update p f,toks:=t }:=by
 have e:(s.heap.update p f).get? p=some { cls:=.type "list",data:=.seq its'.toArray g }:=by
  rw[Heap.get?_update_self f N (by rw[j]<;>rfl),j]
 refine I.write (x:=p) (e:=p) (by rw[h];trivial) (.inl rfl) (λb u G q=>(Heap.get?_update_other _ _ (Ne.symm G)).trans q) ⟨_,e⟩ ?_
 exact⟨hz,its',g,r,e⟩
noncomputable def rSetL:V->V->V->Hp->(Hp->Prop)->Prop:=λo i v H Q=>∃ p M k j,o=.ref p/\i=.int k/\H p=some (.lst M)/\ixN M.length k=some j/\Q (upd H p (.lst (M.set j v)))
theorem d7:PSet X rSetL:=by
 intro B s Y H o i v e c u Q I l m O h;obtain⟨p,b,k,j,rfl,rfl,M,E,q⟩:=h
 cases l
 obtain⟨t,rfl⟩:=m;obtain⟨A,n,r,N,w⟩:=I.lst M;obtain⟨J,C,G,T⟩:=sZ E;have D:=r.length;have f:=m7;have a:Inv X B Y (upd H p (.lst (b.set j v))) { s with heap:=s.heap.update p (Obj.mapSeq (·.setIfInBounds j u)) } :=
  I.lstUpd M N (vE A n j u) (r.set O j) (by rw[Fc];exact w) s.toks
 by_cases d:0<=k
 ·have g:k.toNat=j:=by
   rw[seqIndex_of d T]at J;exact E8 J
  exact PySem.W.ki_setAt N d (by omega) (by rw[E9,← D];exact T) (by rw[g];exact⟨_,a,q⟩)
 ·have g:(k+(A.toArray.size:Int)).toNat=j:=by
   rw[seqIndex_neg (by omega) G]at J
   rw[E9,← D];exact E8 J
  exact PySem.W.ki_setBack N (by omega) (by rw[E9,← D];exact G) (by omega) (by rw[g];exact⟨_,a,q⟩)
theorem pL(lo I:Option Int)(n:Nat):(sliceBounds lo I none n).1=((HT.sIx n 0 lo:Nat):Int)/\(sliceBounds lo I none n).2.1=((HT.sIx n n I:Nat):Int)/\(sliceBounds lo I none n).2.2=1:=by
 refine⟨?_,?_,rfl⟩
 ·cases lo with
  |none=>simp[sliceBounds,HT.sIx]
  |some i =>
   simp only[sliceBounds,HT.sIx,Option.getD_none,show(1:Int) > 0 by decide,if_true]
   by_cases h:i<0
   ·simp only[h,if_true]<;>omega
   ·simp only[h,if_false]<;>omega
 ·cases I with
  |none=>simp[sliceBounds,HT.sIx]
  |some i =>
   simp only[sliceBounds,HT.sIx,Option.getD_none,show(1:Int) > 0 by decide,if_true]
   by_cases h:i<0
   ·simp only[h,if_true]<;>omega
   ·simp only[h,if_false]<;>omega
theorem nF(its:List Value)(lo I:Option Int):slicePick its.toArray lo I none=((its.drop (HT.sIx its.length 0 lo)).take (HT.sIx its.length its.length I-HT.sIx its.length 0 lo)).toArray:=by
 obtain⟨J,C,G⟩:=pL lo I its.toArray.size;unfold slicePick;rw[J,C,G];simp only[sliceRange_one,pick_run,E9]<;>rfl
noncomputable def rSlL(K:ED):V->Option Int->Option Int->Hp->VK->Prop:=λx lo I H Q=>∃ a M,x=.ref a/\SqL K H a M/\∀ p,H p=none->Q (.ref p) (upd H p (.lst (cutV M lo I)))
theorem fx:SlR X (rSlL X.K):=by
 intro B s Y H x v N e lo f E Q I T J L d h;obtain⟨a,M,rfl,O,q⟩:=h
 cases T
 obtain⟨A,r,g,i⟩:=I.list O;have D:=r.length;refine⟨"list",_,slot_list_getitem.lookup,g.isList.typeIs,?_⟩;refine wpAny_getItem_list_slice g.isList J L d .none (by simp) ?_ (by rw[E9]<;>omega)
 rw[nF,← D];refine⟨.ref s.heap.objs.size,_,I.laid (t':=s.toks) (o:=.lst (cutV M lo f)) (λb c q=>Heap.get?_push_of_some _ q) (EI _) ?_,rfl,q _ (I.hok.fresh (EI _))⟩;exact⟨FF (uq M lo f) i,_,0,(r.drop (HT.sIx M.length 0 lo)).take (HT.sIx M.length M.length f-HT.sIx M.length 0 lo),Heap.get?_push_size _ rfl⟩
theorem ar:jq X (.builtin "len") (λxs H Q=>∃ p ys,xs = [.ref p]/\(SqL X.K H p ys∨SqT X.K H p ys)/\Q (.int ys.length) H):=by
 intro B s Y H xs d Q I r h;obtain⟨p,ys,rfl,T,q⟩:=h;obtain⟨u,rfl,c⟩:=pH r
 cases c
 have f:=m7;rcases T with T | T
 ·obtain⟨A,O,L,i⟩:=I.list T;have D:=O.length;exact Calls.call_len_list L.isList (by simp only[E9]<;>omega) ⟨.int ys.length,H,I.tok _,⟨s.toks+1,by rw[E9,D]⟩,q⟩
 ·obtain⟨A,O,L,i⟩:=I.tuple T;have D:=O.length;exact len_tuple L (by simp only[E9]<;>omega) ⟨.int ys.length,H,I.tok _,⟨s.toks+1,by rw[E9,D]⟩,q⟩
theorem eF:jq X (.type "list") (λxs H Q=>∃ p ys,xs = [.ref p]/\(SqL X.K H p ys∨SqT X.K H p ys)/\∀ l,H l=none->Q (.ref l) (upd H l (.lst ys))):=by
 intro B s Y H xs d Q I r h;obtain⟨p,ys,rfl,T,q⟩:=h;obtain⟨u,rfl,c⟩:=pH r
 cases c
 have fin:∀(A:List Value),Vals ys A->ys.length<=sizeLine->∀(G:Heap)(C:Nat),(∀ b t,s.heap.get? b=some t->G.get? b=some t) ->
   G.get? s.heap.objs.size=some { cls:=.type "list",dict:=none,data:=.seq A.toArray C,slots:=#[] }->EP X B Y Q (.ref s.heap.objs.size) { s with heap:=G }:=λA O i G C y e =>
  ⟨.ref s.heap.objs.size,_,I.laid (t':=s.toks) y (EI _) (show bV X.prog X.w _ G _ (.lst ys) from⟨i,A,C,O,e⟩),rfl,q _ (I.hok.fresh (EI _))⟩
 rcases T with T | T
 ·obtain⟨A,O,L,i⟩:=I.list T;have D:=O.length;obtain⟨o,N,E,n,hd⟩:=L.isList;exact call_list_seq p (.inl rfl) N E hd (λG C y e=>fin A O i G C y e) (by simp only[E9]<;>omega)
 ·obtain⟨A,O,L,i⟩:=I.tuple T;have D:=O.length;obtain⟨o,N,E,n,hd⟩:=L;exact call_list_seq p (.inr rfl) N E hd (λG C y e=>fin A O i G C y e) (by simp only[E9]<;>omega)
noncomputable def tyV(K:ED)(T:String)(x:V)(H:Hp):Prop:=match x with
 |.str _=>T = "str"
 |.int _=>T = "int"
 |.ref p=>(T = "list"/\∃ M,SqL K H p M)∨(T = "tuple"/\∃ o,K.lookup p=some o/\o.cls=.type "tuple"/\o.dict=none) ∨
   (T = "dict"/\((∃ L,H p=some (.dK L))∨∃ L,H p=some (.dT L)))∨(T = "set"/\∃ S n,H p=some (.set S n))
 |_=>False
theorem tyV_is{B:List (Addr×Obj)}{σ:St}{H:Hp}{s:Shared}{T:String}{x:V}{v:Value}(I:Inv X B σ H s)(r:RelV x v)(ty:tyV X.K T x H) :
  s.TypeIs v T/\∀ a,v=.ref a->∃ ob,s.heap.get? a=some ob/\ob.dict=none:=by
 cases x with
 |str z =>
  obtain⟨t,rfl⟩:=r
  cases (show T = "str" from ty)
  exact⟨typeIs_str s z t,λ_ e=>nomatch e⟩
 |int i =>
  obtain⟨t,rfl⟩:=r
  cases (show T = "int" from ty)
  exact⟨typeIs_int s i t,λ_ e=>nomatch e⟩
 |ref p =>
  cases r
  rcases ty with⟨rfl,M,d⟩ | ⟨rfl,o,g,l,hd⟩ | ⟨rfl,g⟩ | ⟨rfl,S,n,g⟩
  ·obtain⟨A,_,D,_⟩:=I.list d;refine⟨D.isList.typeIs,λa e=>?_⟩
   cases e
   obtain⟨o,n,e,c,hd,_⟩:=D;exact⟨o,e,hd⟩
  ·refine⟨⟨o,I.kIn p o g,l⟩,λa e=>?_⟩
   cases e
   exact⟨o,I.kIn _ o g,hd⟩
  ·have z:∃ o,s.heap.get? p=some o/\o.ExactDict:=by
    rcases g with⟨L,g⟩ | ⟨L,g⟩
    ·obtain⟨_,_,_,_,o,_,_,e,b,_⟩:=I.hok p _ g;exact⟨o,e,b⟩
    ·obtain⟨_,_,_,_,o,_,_,e,b,_⟩:=I.hok p _ g;exact⟨o,e,b⟩
   obtain⟨o,e,b⟩:=z;refine⟨⟨o,e,b.1⟩,λa Q=>?_⟩
   cases Q
   exact⟨o,e,b.2.1⟩
  ·obtain⟨o,_,_,_,e,b,_⟩:=I.hok p _ g;refine⟨⟨o,e,b.1⟩,λa Q=>?_⟩
   cases Q
   exact⟨o,e,b.2.1⟩
 |_=>exact False.elim ty
noncomputable def tBM(K:ED)(T:String)(r:V->List V->Hp->VK->Prop)(b:TE)(t:TA):TE:=λY H Q=>b Y H λx O=>tyV K T x O/\t Y O λM u=>r x M u Q
variable{o e:Expr}{es:List Expr}{to:TE}{t:TA}{name:Str}{apos cpos:Pos}{T id:String}{r:V->List V->Hp->VK->Prop}
theorem dQ(l:PlainAttrs T)(slot:Slot T name id) (q:typeOf (.builtin id)=pure (.type "method_descriptor")) (i:MtR X id r) (D:PE X o to) (E:PA X (e::es) t)
  (b:attributeBase o name X.env (eval o X.env)=eval o X.env:=by rfl)
  (k:((backTo cpos (starEach (e::es) X.env)).all (λx=>!x.1)&&(backToKw cpos (keywordEach [] X.env)).all (λx=>x.1.isSome)
   && decide ((e::es).length+([]:List Keyword).length+(if([]:List Keyword).isEmpty then 0 else 1)<30))=true:=by rfl)
  (g:(apos.endLine == cpos.line)=true:=by rfl) (p:starEach (e::es) X.env=(false,eval e X.env)::starEach es X.env:=by rfl) (a:(backTo cpos (starEach es X.env)).any (·.1)=false:=by rfl) :
  PE X (.Call (.Attribute o name apos) (e::es) [] cpos) (tBM X.K T r to t):=by
 intro B s Y H Q I h;refine wpAny_Call_method_late b k g rfl (thn (D B s Y H _ I h) λv m ⟨x,O,y,M,ty,n⟩=>?_);obtain⟨J,C⟩:=tyV_is y M ty;refine⟨T,id,l,slot,q,J,C,?_⟩;have f:=E cpos B m Y O _ y n;rw[p]at f ⊢;refine Calls.callWith_builtin (by show(false||(backTo cpos (starEach es X.env)).any (·.1))=false;rw[a]<;>rfl) (Calls.evalArgs_plain ?_)
 exact thn f λd j ⟨N,u,z,c,L⟩=>i B j Y u x N v d Q z M c L
end
noncomputable def MtM(X:Cx)(id:String)(r:V->List V->Hp->VK->Prop):Prop :=
 ∀(B:List (Addr×Obj))(s:Shared)(Y:St)(H:Hp)(x:V)(M:List V)(v:Value)(d:List Value)(Q:VK),Inv X B Y H s->RelV x v->Vals M d->r x M H Q ->
  wpAny (model X.prog X.w) X.A (call (.builtin id) (v::d)) (EP X B Y Q) X.xe s
theorem Vals.one:∀{x:V}{us:List Value},Vals [x] us->∃ u,us = [u]/\RelV x u
 |_,_,.cons r .nil=>⟨_,rfl,r⟩
theorem Vals.unc{x:V}{xs:List V}{us:List Value}(h:Vals (x::xs) us):∃ u w,us=u::w/\RelV x u/\Vals xs w:=by
 cases h with
 |cons r t=>exact⟨_,_,rfl,r,t⟩
theorem Vals.two{x y:V}{us:List Value}(h:Vals [x,y] us):∃ u v,us = [u,v]/\RelV x u/\RelV y v:=by
 obtain⟨u,w,rfl,r,c⟩:=Vals.unc h;obtain⟨v,z,rfl,q,d⟩:=Vals.unc c;cases d;exact⟨_,_,rfl,r,q⟩
theorem Vals.eraseIdx:∀{xs:List V}{us:List Value}(i:Nat),Vals xs us->Vals (xs.eraseIdx i) (us.eraseIdx i)
 |_,_,_,.nil=>.nil
 |_,_,0,.cons _ t=>t
 |_,_,i+1,.cons r t=>.cons r (Vals.eraseIdx i t)
theorem Vals.reverse{xs:List V}{us:List Value}(h:Vals xs us):Vals xs.reverse us.reverse:=by
 induction h with
 |nil=>exact .nil
 |cons r t Y=>rw[IC,IC];exact Vals.append Y (.cons r .nil)
theorem qv{α:Type}:∀(l:List α)(i:Nat),(l.eraseIdx i).length<=l.length
 |[],_=>EI _
 |_::_,0=>GW _
 |_::r,i+1=>Nat.succ_le_succ (qv r i)
section
variable{X:Cx}{pins:List (Addr×Obj)}{σ:St}{H:Hp}{s:Shared}{l b:Addr}{xs ys zs:List V}
theorem Inv.lset{its its':List Value}{n:Nat}{f:Array Value->Array Value}{t':Nat}(I:Inv X pins σ H s)(j:H l=some (.lst xs))
  (e:s.heap.get? l=some { cls:=.type "list",data:=.seq its.toArray n }) (p:f its.toArray=its'.toArray) (B:Vals ys its') (hz:ys.length<=sizeLine) :
  Inv X pins σ (upd H l (.lst ys)) { s with heap:=s.heap.update l (Obj.mapSeq f),toks:=t' }:=by
 have q:=PySem.IsL.update e f;rw[p]at q;refine I.write (x:=l) (e:=l) (by rw[j];exact trivial) (.inl rfl) (λN u G L=>(Heap.get?_update_other s.heap (Obj.mapSeq f) (Ne.symm G)).trans L) ⟨_,q⟩ ?_
 exact⟨hz,its',_,B,q⟩
theorem Inv.lnew{its:List Value}{t':Nat}(I:Inv X pins σ H s)(B:Vals ys its)(hz:ys.length<=sizeLine) :
  Inv X pins σ (upd H s.heap.objs.size (.lst ys)) { s with heap:=s.heap.push { cls:=.type "list",data:=.seq its.toArray },toks:=t' } :=
 I.laid (λ_ _ q=>Heap.get?_push_of_some _ q) (EI _) ⟨hz,its,0,B,Heap.get?_push_size _ rfl⟩
theorem Inv.fresh(I:Inv X pins σ H s):H s.heap.objs.size=none:=I.hok.fresh (EI _)
theorem Inv.lstM(I:Inv X pins σ H s)(j:H l=some (.lst xs)):xs.length<=sizeLine/\∃(its:List Value)(n:Nat),Vals xs its/\xs.length=its.length/\s.heap.get? l=some { cls:=.type "list",data:=.seq its.toArray n }:=by
 obtain⟨z,its,n,r,e⟩:=I.hok l _ j;exact⟨z,its,n,r,r.length,e⟩
end
section
variable{X:Cx}
noncomputable def De:V->List V->Hp->VK->Prop:=λx N H Q=>∃ l M y,x=.ref l/\N = [y]/\H l=some (.lst M)/\M.length<sizeLine/\Q .non (upd H l (.lst (M++[y])))
theorem aZ:MtM X "list.append" De:=by
 intro B s Y H x N v d Q I T O h;obtain⟨l,M,y,rfl,rfl,j,i,q⟩:=h
 cases T
 obtain⟨u,rfl,o⟩:=O.one;obtain⟨z,A,n,r,D,e⟩:=I.lstM j;refine call_meets F.slot_list_append ⟨_,e,rfl⟩ F.entry_list_append (F.args_list_append_2 _ _) (PySem.list_append l A.toArray n u (by rw[E9];omega)) ⟨e,?_⟩
 refine⟨.non,_,I.lset (its':=A++[u]) j e (by simp) (r.append (.cons o .nil)) ?_,rfl,q⟩
 rw[EG,ES];omega
noncomputable def rPopAt:V->List V->Hp->VK->Prop:=λx N H Q=>∃ l M i k y,x=.ref l/\N = [.int i]/\H l=some (.lst M)/\-(2^63)<=i/\i<2^63/\seqIndex? i M.length=some k/\M[k]?=some y/\Q y (upd H l (.lst (M.eraseIdx k)))
theorem Bj:MtM X "list.pop" rPopAt:=by
 intro B s Y H x N v d Q I T O h;obtain⟨l,M,i,k,y,rfl,rfl,j,J,C,g,m,q⟩:=h
 cases T
 obtain⟨u,rfl,o⟩:=O.one;obtain⟨t,rfl⟩:=o;obtain⟨z,A,n,r,D,e⟩:=I.lstM j;obtain⟨w,c,a⟩:=r.get m;refine call_meets F.slot_list_pop ⟨_,e,rfl⟩ F.entry_list_pop (F.args_list_pop_2 _ _)
  (MeetsSeq.list_pop_at l A.toArray n i t k w (fitsIndex_both J C) (by rw[E9,← D];exact g) (by rw[← Hu];exact c) (by rw[E9];omega)) ⟨e,?_⟩
 refine⟨y,_,I.lset (its':=A.eraseIdx k) j e ?_ (r.eraseIdx k) ?_,a,q⟩
 ·show A.toArray.eraseIdxIfInBounds k=(A.eraseIdx k).toArray;rw[List.eraseIdxIfInBounds_toArray]
 ·have:=qv M k
  omega
noncomputable def rCat:R2:=λx y H Q=>∃ l b M o,x=.ref l/\y=.ref b/\H l=some (.lst M)/\H b=some (.lst o)/\M.length+o.length<=sizeLine/\∀ p,H p=none->Q (.ref p) (upd H p (.lst (M++o)))
theorem op_cat:OpR X (binaryOp .Add) rCat:=by
 intro B s Y H x y v u Q I T m h;obtain⟨l,b,M,o,rfl,rfl,j,O,i,q⟩:=h
 cases T
 cases m
 obtain⟨z,A,n,r,D,e⟩:=I.lstM j;obtain⟨N,d,a,J,c,L⟩:=I.lstM O;refine PySem.P.add_list e L ?_ (by rw[E9,E9];omega)
 have w:A.toArray++d.toArray=(A++d).toArray:=by simp
 rw[w];exact⟨.ref _,_,I.lnew (t':=s.toks) (r.append J) (by rw[EG];omega),rfl,q _ I.fresh⟩
end
section
variable{prog:Program}{w:World}{A:Around}{E:Value->Shared->Prop}{s:Shared}
end
section
variable{X:Cx}
end
end L2
namespace Att
open PySem PySem.W PySem.Calls PyProof.Rows
theorem lL{P:Params}{h:Heap}:∀(ns:List Int)(vs:List Value),WellAll P h vs (ns.map WData.int)->IntsAre vs ns:=by
 intro ns;induction ns with
 |nil =>
  intro vs w;rw[List.map_nil]at w
  cases w
  exact .nil
 |cons n ns Y =>
  intro vs w;rw[E6]at w
  cases w with
  |cons a b =>
   cases a
   exact .cons _ _ (Y _ b)
theorem xO{l:OpenLaw}{n:Nat}(f:l.most=some n){P:Params}{h:Heap}{args:List WData}{e:List Value}
  (m:l.row.toRowW.claim.pre args=true) (s:WellAll P h e args) :
  ∃ a vs ns,e = [Value.ref a]/\args = [WData.list (ns.map WData.int)]/\h.get? a=some { cls:=.type "list",data:=.seq vs.toArray }/\IntsAre vs ns/\ns.length<=n:=by
 have c:WShape.hasAll [] args [.list .int]=true:=(pre_splitW m).1;have E:l.pre.holds [] { args:=args }=true:=(pre_splitW m).2;obtain⟨d,r,rfl,J,C⟩:=hasAllW_cons c;obtain rfl:=hasAllW_nil C;obtain⟨M,rfl,G⟩:=hasW_list J;obtain⟨ns,rfl⟩:=items_int G;have D:ns.length<=n:=by
  unfold OpenLaw.pre at E;have k:(WTm.not (.lt (.lit (.int (n:Int))) (.len (.arg 0)))).holds [] { args:=[.list (ns.map .int)] }=true:=by
   have k:=(holds_andW E).1;rw[f]at k;exact k
  have v:=condW_of k (w_not (w_lt w_lit (w_len_list (w_arg rfl))));rw[EJ]at v;refine HQ λq=>?_;have b:(n:Int)<((ns.length:Nat):Int):=by omega
  first
   | (rw[decide_eq_true b]at v;exact absurd v (by decide))
   | (simp at v;omega)
 cases s with
 |cons Q i =>
  cases i
  cases Q with
  |list N t=>exact⟨_,_,ns,rfl,rfl,N,lL ns _ t,D⟩
theorem ye(l:OpenLaw)(args:List WData):l.row.toRowW.claim.post args (.bool true) args=true :=
 postW_of (r:=l.row.toRowW) (X:=(true == true))
  (show WShape.has [] (.bool true) .bool=true by first | rfl | decide | simp[WShape.has,WShape.arms,WShape.armsAll])
  (show(WTm.eq .res (.lit (.bool true))).value [] { args:=args,res:=some (.bool true),after:=args }=some (.bool (true == true)) from w_eq_bool (w_res rfl) w_lit) rfl
theorem attach_call{l:OpenLaw}{n:Nat}{q:Program}{A:List Str}{H:(Str->Option Value)->Heap->Prop}{B:World->Heap->Prop}{d:DefRec}
  (t:l.most=some n) (v:d.params.defaults = [])
  (call:∀(w:World)(s₀ z:Shared)(mg y:Str->Option Value)(p:Addr)(o:Obj)(u j M:Value)(a:Addr)(vs:List Value)(ns:List Int),
   Ground q A [] H w s₀ mg y z.heap->B w z.heap ->
   z.heap.get? p=some o->o.data=.func (docDef d.name d.params d.body d.scope u j M)->z.heap.CodeRec j d.name->mg d.name=some (.ref p) ->
   z.heap.get? a=some { cls:=.type "list",data:=.seq vs.toArray }->IntsAre vs ns->ns.length<=n->z.gens=#[] ->
   codeAny (model l.prog w) callerA (.call (.ref p) ⟨[.ref a],[]⟩) (λr s'=>r=.ok (.ret (.bool true))/\OldK z.heap s'.heap/\s'.os=z.os/\AllBare s'.gens) z) :
  WalkO q A H B l.row.toRowW d [] (λf vs=>PySem.call f vs):=by
 intro w s₀ z mg y G Y p o u j M E kV N hd O b h L x e as m J Q s aa;obtain rfl:E=.none:=Dflts.none b v;obtain rfl:kV=.none:=Dflts.noKw b;obtain⟨a,vs,ns,rfl,rfl,I,g,D⟩:=xO t m s;refine enter_call (codeAny_mono (call w s₀ z mg y p o u j M a vs ns G Y N (fd_plain hd) O h I g D L) λr s' T=>?_);obtain⟨rfl,C,c,k⟩:=T;exact⟨.inl ⟨.bool true,.bool true,[],rfl,λ_=>rfl,.bool true,ye l _,λ_=>⟨HN,λ_ i=>(nomatch i)⟩⟩,C,c,k⟩
section
variable{prog:Program}{w:World}{A:Around}{E:Value->Shared->Prop}{s:Shared}{K:Frag}
end
end Att
namespace L2
open PySem PySem.Spec PyProof.Rows
theorem pG:∀{vs:List Value}{ns:List Int},IntsAre vs ns->Vals (ns.map V.int) vs
 |_,_,.nil=>.nil
 |_,_,.cons n t h=>.cons ⟨t,rfl⟩ (pG h)
noncomputable def lN(s:Stmt)(j:Nat):Stmt:=match s with
 |.ClassDef _ _ _ a _ _ _ _ _ _ _=>a.getD j (.Pass ⟨0,0,0,0⟩)
 |_=>.Pass ⟨0,0,0,0⟩
noncomputable def bG(s:Stmt):Arguments:=match s with
 |.FunctionDef _ a _ _ _ _ _ _ _ _=>a
 |_=>{ posonlyargs:=[],args:=[],vararg:=none,kwonlyargs:=[],kw_defaults:=[],kwarg:=none,defaults:=[] }
noncomputable def bp(s:Stmt):List Stmt:=match s with
 |.FunctionDef _ _ b _ _ _ _ _ _ _=>b
 |_=>[]
noncomputable def aq(s:Stmt):Scope:=match s with
 |.FunctionDef _ _ _ _ _ _ a _ _ _=>a
 |_=>{ kind:=.function,names:=[],isGenerator:=false,isCoroutine:=false }
noncomputable abbrev CX0:CXT:=λ_ _ _ _ _ _=>False
noncomputable abbrev E0:XK:=λ_ _ _=>False
theorem aL{X:Cx}:mD CX0 X E0:=λ_ _ _ _ _ _ _ h=>h.elim
structure Fun(K:ED)(x qual:Str)(st:Stmt)(f:Addr)(fd:FuncData):Prop where
 ex:∃(oc:Value)(od:Option Addr)(kV doc pm:Value)(an:Option Addr)(cdv ct:Value)(osl:Array (Option Value)),
  fd=FO x qual (bG st) (bp st) (aq st) .none kV doc pm an cdv ct/\K.lookup f=some ⟨oc,od,.func fd,osl⟩/\F2 K cdv qual=true
 kp:Ft K (.ref f)=true
section
variable{P:Program}{w:World}{K:ED}{mg:Str->Option Value}{base:Heap}
theorem Fun.ok{x m:Str}{st:Stmt}{f:Addr}{fd:FuncData}{N ps:List Str}{k:Nat}{sp:Sp}(F:Fun K x m st f fd)(S:ax N ps (aq st))(len:∀ vs H Q E,sp vs H Q E->vs.length=ps.length)
  (a:∀(y:Value)(A:Around)(outer:List Env)(s:Shared)(H:Hp)(vs:List V)(Q:VK)(E:XK),Room k (A.deeper (envOfC m (aq st) s.heap.objs.size f y))->sp vs H Q E ->
   ∃ t,PSs (cxOf CX0 P w K mg base N m (aq st) f y A outer s H E).nox (bp st) t/\t { nx:=λ_ H'=>Q .non H',rt:=Q } (start N vs) H):FnOk P w K mg base CX0 (k+1) f fd ps sp:=by
 obtain⟨oc,G,kV,M,u,i,y,j,b,rfl,v,O⟩:=F.ex;refine BC v O S len λA outer s H vs Q E L B=>?_;obtain⟨t,h,q⟩:=a y A outer s H vs Q E L B;exact⟨t,h.nox,q⟩
theorem Fun.binds{x m:Str}{st:Stmt}{f:Addr}{fd:FuncData}{ps:List Str}(F:Fun K x m st f fd)
  (h:∀(kV M u:Value)(i:Option Addr)(y ct:Value)(us:List Value),us.length=ps.length->bindArgs (FO x m (bG st) (bp st) (aq st) .none kV M u i y ct) ⟨us,[]⟩=pure (ps.zip us)):cW K fd ps []:=by
 obtain⟨oc,G,kV,M,u,i,y,ct,b,rfl,v,O⟩:=F.ex;exact .all (h kV M u i y ct)
theorem fun_mk{x m:Str}{st:Stmt}{f:Addr}{oc:Value}{G i:Option Addr}{b:Array (Option Value)}{kV M u y ct:Value}(l:K.lookup f=some ⟨oc,G,.func (FO x m (bG st) (bp st) (aq st) .none kV M u i y ct),b⟩)
  (c:F2 K y m=true) (k:Ft K (.ref f)=true):Fun K x m st f (FO x m (bG st) (bp st) (aq st) .none kV M u i y ct):=⟨⟨oc,G,kV,M,u,i,y,ct,b,rfl,l,c⟩,k⟩
end
theorem y9{A:Around}{k:Nat}(L:Room k A):A.units+1<cLine:=Nat.lt_of_le_of_lt (Nat.add_le_add_left (by decide:1<=64) _) L.units
theorem av{n:Nat}(h:n<=1000):n<sizeLine:=Nat.lt_of_le_of_lt h (by decide)
section
variable{X:Cx}
theorem pv(i:Nat){x:Str}{pos:Pos}(o:X.N[i]?=some x:=by rfl)(B:Vis X.env.scope x:=by first | exact Or.inl rfl | exact Or.inr (Or.inl rfl) | exact Or.inr (Or.inr rfl)) (hd:(x == ("__debug__" : Str))=false:=by decide)
  (O:(x == ("__classdict__" : Str))=false:=by decide):PE X (.Name x pos) (tVar i):=pe_var o B hd O
end
theorem iteF{A B:Prop}(h:B):if false=true then A else B:=by
 rw[if_neg Fd];exact h
theorem iteT{A B:Prop}(h:A):if true=true then A else B:=by
 rw[if_pos rfl];exact h
theorem ite2{c A B:Prop} [Decidable c] (J:c->A) (h2:¬ c->B):if c then A else B:=by
 by_cases h:c
 ·rw[if_pos h];exact J h
 ·rw[if_neg h];exact h2 h
theorem tj{c A B:Prop} [Decidable c] (l:c) (h:B):if(!decide c)=true then A else B:=by
 rw[decide_eq_true l];exact iteF h
noncomputable def Same(H H':Hp):Prop:=∀ b o,H b=some o->H' b=some o
theorem Same.trans{H H1 H2:Hp}(a:Same H H1)(b:Same H1 H2):Same H H2:=λc o h=>b c o (a c o h)
theorem Same.seq{K:ED}{H H':Hp}{a:Addr}{xs:List V}(e:Same H H')(h:SqL K H a xs):SqL K H' a xs:=by
 rcases h with(h | ⟨o,h⟩) | h
 ·exact .inl (.inl (e _ _ h))
 ·exact .inl (.inr ⟨o,e _ _ h⟩)
 ·exact .inr h
end L2
set_option maxRecDepth 100000
set_option maxHeartbeats 4000000
namespace L2
open PySem PySem.Spec PyProof.Rows
section
variable{κ:Type} [DecidableEq κ]
noncomputable def valV(kvs:List (κ×V))(k:κ):Option V:=(kvs.find? λg=>decide (g.1=k)).map (·.2)
noncomputable def putK(kvs:List (κ×V))(k:κ)(v:V):List (κ×V) :=
 if(kvs.any λg=>decide (g.1=k))=true then kvs.map (λg=>if g.1=k then(g.1,v) else g) else kvs++[(k,v)]
noncomputable def ke(kvs:List (κ×V))(k:κ):List (κ×V):=kvs.filter λg=>decide (g.1≠k)
theorem bI{p:κ×V}{r:List (κ×V)}{k:κ}(e:p.1=k):valV (p::r) k=some p.2:=by simp[valV,Hk,e]
theorem bJ{p:κ×V}{r:List (κ×V)}{k:κ}(e:¬ p.1=k):valV (p::r) k=valV r k:=by simp[valV,Hk,e]
theorem ft(k:κ):∀ kvs:List (κ×V),(kvs.any λg=>decide (g.1=k))=(valV kvs k).isSome
 |[]=>rfl
 |p::r=>by
  rw[Jn];by_cases e:p.1=k
  ·simp only[bI e,decide_eq_true e,Bool.true_or,Option.isSome_some]
  ·rw[bJ e,decide_eq_false e,Bool.false_or];exact ft k r
theorem uF(k j:κ)(y:V):∀ kvs:List (κ×V),valV (kvs.map λg=>if g.1=k then(g.1,y) else g) j=(valV kvs j).map λx=>if j=k then y else x
 |[]=>rfl
 |p::r=>by
  have Y:=uF k j y r;rw[E6];by_cases h:p.1=k
  ·rw[if_pos h];by_cases e:p.1=j
   ·rw[bI (p:=(p.1,y)) e,bI e,HW,if_pos (e.symm.trans h)]
   ·rw[bJ (p:=(p.1,y)) e,bJ e,Y]
  ·rw[if_neg h];by_cases e:p.1=j
   ·rw[bI (p:=p) e,bI e,HW,if_neg (λz=>h (e.trans z))]
   ·rw[bJ (p:=p) e,bJ e,Y]
theorem pI(k j:κ)(y:V):∀ kvs:List (κ×V),valV kvs k=none->valV (kvs++[(k,y)]) j=if j=k then some y else valV kvs j
 |[],_=>by
  by_cases e:k=j
  ·rw[if_pos e.symm];exact bI (p:=(k,y)) e
  ·rw[if_neg (λz=>e z.symm)];exact bJ (p:=(k,y)) e
 |p::r,f=>by
  rw[GD];have g:¬ p.1=k:=λz=>by rw[bI z]at f;cases f
  rw[bJ g]at f;have Y:=pI k j y r f;by_cases e:p.1=j
  ·rw[bI e,bI e,if_neg (λz=>g (e.trans z))]
  ·rw[bJ e,bJ e,Y]
theorem fq(kvs:List (κ×V))(k j:κ)(y:V):valV (putK kvs k y) j=if j=k then some y else valV kvs j:=by
 unfold putK;by_cases a:(kvs.any λg=>decide (g.1=k))=true
 ·rw[if_pos a,uF];rw[ft]at a;by_cases e:j=k
  ·obtain⟨x,O⟩:=HJ.mp a;rw[if_pos e,e,O,HW,if_pos rfl]
  ·rw[if_neg e]
   cases valV kvs j with
   |none=>rfl
   |some x=>rw[HW,if_neg e]
 ·rw[if_neg a];refine pI k j y kvs ?_;rw[ft]at a
  cases q:valV kvs k with
  |none=>rfl
  |some x=>rw[q]at a;exact(a rfl).elim
theorem dX(kvs:List (κ×V))(k:κ)(v:V):(putK kvs k v).length<=kvs.length+1:=by
 unfold putK;split
 ·rw[EJ];omega
 ·rw[EG,E7,HX];omega
theorem uT{kvs:List (κ×V)}{k:κ}(v:V)(h:valV kvs k=none):putK kvs k v=kvs++[(k,v)]:=by
 unfold putK;rw[ft,h];exact if_neg (by decide)
theorem RelO.isSome_eq{o:Option V}{u:Option Value}(r:RelO o u):o.isSome=u.isSome:=by
 cases o with
 |none=>cases u with
  |none=>rfl
  |some _=>exact(show False from r).elim
 |some _=>cases u with
  |none=>exact(show False from r).elim
  |some _=>rfl
theorem KV.val{kvs:List (κ×V)}{vs:List (κ×Value)}(r:KV kvs vs)(k:κ):RelO (valV kvs k) (valueAt vs k):=by
 unfold KV at r;induction r with
 |nil=>exact True.intro
 | @cons p q d c h t Y =>
  obtain⟨J,C⟩:=h;by_cases e:p.1=k
  ·have u:q.1=k:=J.symm.trans e
   have b:valueAt (q::c) k=some q.2:=by simp[valueAt,Hk,u]
   rw[bI e,b];exact C
  ·have u:¬ q.1=k:=λz=>e (J.trans z)
   have b:valueAt (q::c) k=valueAt c k:=by simp[valueAt,Hk,u]
   rw[bJ e,b];exact Y
theorem KV.any{kvs:List (κ×V)}{vs:List (κ×Value)}(r:KV kvs vs)(k:κ):(kvs.any λg=>decide (g.1=k))=vs.any λg=>decide (g.1=k):=by
 unfold KV at r;induction r with
 |nil=>rfl
 |cons h t Y=>rw[Jn,Jn,Y,h.1]
theorem KV.repl{kvs:List (κ×V)}{vs:List (κ×Value)}(r:KV kvs vs)(k:κ){y:V}{u:Value}(m:RelV y u) :
  KV (kvs.map λg=>if g.1=k then(g.1,y) else g) (vs.map λg=>if g.1=k then(g.1,u) else g):=by
 unfold KV at r ⊢;induction r with
 |nil=>exact .nil
 | @cons p q d c h t Y =>
  rw[E6,E6];refine .cons ?_ Y;obtain⟨J,C⟩:=h;by_cases e:p.1=k
  ·rw[if_pos e,if_pos (J.symm.trans e)];exact⟨J,m⟩
  ·rw[if_neg e,if_neg (λz=>e (J.trans z))];exact⟨J,C⟩
theorem KV.put{kvs:List (κ×V)}{vs:List (κ×Value)}(r:KV kvs vs)(k:κ){y:V}{u:Value}(m:RelV y u):KV (putK kvs k y) (stored vs k u):=by
 unfold putK stored;rw[r.any k];by_cases e:(vs.any λg=>decide (g.1=k))=true
 ·rw[if_pos e,if_pos e];exact r.repl k m
 ·rw[if_neg e,if_neg e];exact Paired.snoc r ⟨rfl,m⟩
theorem KV.drop{kvs:List (κ×V)}{vs:List (κ×Value)}(r:KV kvs vs)(k:κ):KV (ke kvs k) (without vs k):=by
 unfold KV at r ⊢;unfold ke without;induction r with
 |nil=>exact .nil
 | @cons p q d c h t Y =>
  obtain⟨J,C⟩:=h;rw[HS,HS];by_cases e:p.1=k
  ·have a:¬ decide (p.1≠k)=true:=by simp[e]
   have b:¬ decide (q.1≠k)=true:=by simp[J.symm.trans e]
   rw[if_neg a,if_neg b];exact Y
  ·have u:¬ q.1=k:=λz=>e (J.trans z)
   have a:decide (p.1≠k)=true:=by simp[e]
   have b:decide (q.1≠k)=true:=by simp[u]
   rw[if_pos a,if_pos b];exact .cons ⟨J,C⟩ Y
theorem KV.length{kvs:List (κ×V)}{vs:List (κ×Value)}(r:KV kvs vs):kvs.length=vs.length:=Paired.length r
theorem BJ(kvs:List (κ×V))(k:κ):(ke kvs k).length<=kvs.length:=Ht _ _
end
theorem vK{P:Program}{w:World}{k:Key}{u:Value}(r:RelV (kV k) u):(bP P w).is k u=true:=by
 cases k with
 |inl i=>obtain⟨t,e⟩:=(show ∃ t,u=Value.int i t from r);subst e;exact sQ P w i t
 |inr x=>obtain⟨t,e⟩:=(show ∃ t,u=Value.str x t from r);subst e;exact sP P w x t
theorem qz{P:Program}{w:World}:∀{ks:List Key}{us:List Value},Vals (ks.map kV) us->ItemsAre (bP P w) ks us
 |[],_,r=>by rw[List.map_nil]at r;cases r;exact .nil
 |k::ks,_,r=>by
  rw[E6]at r
  cases r with
  |cons h t=>exact .cons (vK h) (qz t)
noncomputable abbrev KT(H:Hp):List (List Key×V)->List (List Key×Addr×Value)->Prop:=Paired λp q=>p.1=q.1/\H q.2.1=some (.tup (p.1.map kV))/\RelV p.2 q.2.2
theorem KT.val{H:Hp}{kvs:List (List Key×V)}{xs:List (List Key×Addr×Value)}(r:KT H kvs xs)(k:List Key):RelO (valV kvs k) ((atKey xs k).map (·.2)):=by
 induction r with
 |nil=>exact True.intro
 | @cons p q d c h t Y =>
  obtain⟨J,_,C⟩:=h;by_cases e:p.1=k
  ·have u:q.1=k:=J.symm.trans e
   have b:atKey (q::c) k=some q.2:=by simp[atKey,Hk,u]
   rw[bI e,b];exact C
  ·have u:¬ q.1=k:=λz=>e (J.trans z)
   have b:atKey (q::c) k=atKey c k:=by simp[atKey,Hk,u]
   rw[bJ e,b];exact Y
theorem KT.repl{H:Hp}{kvs:List (List Key×V)}{xs:List (List Key×Addr×Value)}(r:KT H kvs xs)(k:List Key){y:V}{u:Value}(m:RelV y u) :
  KT H (kvs.map λg=>if g.1=k then(g.1,y) else g) (xs.map (putAt k u)):=by
 induction r with
 |nil=>exact .nil
 | @cons p q d c h t Y =>
  rw[E6,E6];refine .cons ?_ Y;obtain⟨J,C,G⟩:=h;unfold putAt;by_cases e:p.1=k
  ·rw[if_pos e,if_pos (J.symm.trans e)];exact⟨J,C,m⟩
  ·rw[if_neg e,if_neg (λz=>e (J.trans z))];exact⟨J,C,G⟩
theorem KT.put{H:Hp}{kvs:List (List Key×V)}{xs:List (List Key×Addr×Value)}(r:KT H kvs xs)(k:List Key){b:Addr}{y:V}{u:Value}(G:H b=some (.tup (k.map kV)))(m:RelV y u) :
  KT H (putK kvs k y) (storedH xs k b u):=by
 have e:(kvs.any λg=>decide (g.1=k))=(atKey xs k).isSome:=by
  rw[ft,(r.val k).isSome_eq,Option.isSome_map]
 unfold putK storedH;rw[e];by_cases q:(atKey xs k).isSome=true
 ·rw[if_pos q,if_pos q];exact r.repl k m
 ·rw[if_neg q,if_neg q];exact Paired.snoc r ⟨rfl,G,m⟩
theorem KT.keeps{H H':Hp}{kvs:List (List Key×V)}{xs:List (List Key×Addr×Value)}(r:KT H kvs xs)(Y:∀ b ys,H b=some (.tup ys)->H' b=some (.tup ys)):KT H' kvs xs :=
 Paired.mapP r λ_ _ z=>⟨z.1,Y _ _ z.2.1,z.2.2⟩
section
variable{P:Program}{w:World}{H:Hp}{h:Heap}{a:Addr}
theorem rd_of{u:HO}(ok:HOk P w H h)(e:Rd H a u):bV P w H h a u:=e.ok ok
theorem zA{kvs:List (Key×V)}(ok:HOk P w H h)(e:Rd H a (.dK kvs)):kvs.length<=sizeLine/\(a == sysModules)=false/\∃ vs,KV kvs vs/\h.DictOf (bP P w) a vs :=
 show bV P w H h a (.dK kvs) from rd_of ok e
theorem wc{kvs:List (Key×V)}(ok:HOk P w H h)(e:H a=some (.dK kvs)):kvs.length<=sizeLine/\(a == sysModules)=false/\∃ vs,KV kvs vs/\h.DictOf (bP P w) a vs:=zA ok (.inl e)
theorem vd{ks:List Key}(ok:HOk P w H h)(e:H a=some (.tup (ks.map kV))):(tupleKind (bP P w)).is h ks a:=by
 obtain⟨_,A,r,o,J,C,n,G⟩:=(show bV P w H h a (.tup (ks.map kV)) from ok a _ e);exact⟨o,A.toArray,n,J,C,G,by simpa using qz r⟩
theorem zw{kvs:List (List Key×V)}(ok:HOk P w H h)(e:Rd H a (.dT kvs)):kvs.length<=sizeLine/\(a == sysModules)=false /\
  ∃ xs,KT H kvs xs/\h.DictOfH (tupleKind (bP P w)) a xs:=by
 obtain⟨z,y,xs,r,o,B,j,J,C,G,k,v⟩:=(show bV P w H h a (.dT kvs) from rd_of ok e);refine⟨z,y,xs,r,o,B,j,J,C,G,k,λx O=>?_,v⟩;have all:∀{l:List (List Key×V)}{m:List (List Key×Addr×Value)},KT H l m->∀ x∈m,(tupleKind (bP P w)).is h x.1 x.2.1:=by
  intro l m q;induction q with
  |nil=>intro x O;exact nomatch O
  | @cons p q d c T t Y =>
   intro x O;rcases EE.mp O with e | O
   ·subst e;exact vd ok (by rw[← T.1];exact T.2.1)
   ·exact Y x O
 exact all r x O
theorem dt_of{kvs:List (List Key×V)}(ok:HOk P w H h)(e:H a=some (.dT kvs)):kvs.length<=sizeLine/\(a == sysModules)=false /\
  ∃ xs,KT H kvs xs/\h.DictOfH (tupleKind (bP P w)) a xs:=zw ok (.inl e)
end
noncomputable def DGet(H:Hp)(a:Addr)(y:V)(r:Option V):Prop :=
 (∃ L k,Rd H a (.dK L)/\y=kV k/\r=valV L k)∨∃ L k b,Rd H a (.dT L)/\y=.ref b/\H b=some (.tup (k.map kV))/\r=valV L k
noncomputable def DPut(H:Hp)(a:Addr)(y v:V)(H':Hp):Prop :=
 (∃ L k,H a=some (.dK L)/\y=kV k/\L.length<sizeLine/\H'=upd H a (.dK (putK L k v))) ∨
 ∃ L k b,H a=some (.dT L)/\y=.ref b/\H b=some (.tup (k.map kV))/\L.length<sizeLine/\H'=upd H a (.dT (putK L k v))
theorem DGet.k{H:Hp}{a:Addr}{kvs:List (Key×V)}{k:Key}(e:H a=some (.dK kvs)):DGet H a (kV k) (valV kvs k):=.inl ⟨kvs,k,.inl e,rfl,rfl⟩
theorem DPut.k{H:Hp}{a:Addr}{kvs:List (Key×V)}{k:Key}{v:V}(e:H a=some (.dK kvs))(hl:kvs.length<sizeLine):DPut H a (kV k) v (upd H a (.dK (putK kvs k v))):=.inl ⟨kvs,k,e,rfl,hl,rfl⟩
section
variable{X:Cx}{pins:List (Addr×Obj)}{σ:St}{H:Hp}{s:Shared}{a:Addr}{y v:V}{u r:Value}{o:Option V}{A:Around}{E:Value->Shared->Prop}
theorem Inv.big(I:Inv X pins σ H s):sysModules<s.heap.objs.size:=by
 have h:mainGlobals<s.heap.objs.size:=(I.mod.glob.keeps I.bk).lt;exact Nat.lt_trans (by decide) h
theorem zO{Q:Value->Shared->Prop}(f:A.units+1<cLine)(I:Inv X pins σ H s)(g:DGet H a y (some v))(m:RelV y u)(h:∀ w' s',Inv X pins σ H s'->RelV v w'->Q w' s') :
  wpAny (model X.prog X.w) A (getItem (.ref a) u) Q E s:=by
 rcases g with⟨L,k,e,i,l⟩ | ⟨L,k,b,e,i,Y,l⟩
 ·subst i;obtain⟨z,hd,N,rel,O⟩:=zA I.hok e;obtain⟨w',c,r⟩:=RelO.some_of (v:=v) (o:=valueAt N k) (by rw[l];exact rel.val k)
  exact wpAny_getItem_of (vK m) O.mapOf c (h w' _ (I.tok _) r)
 ·subst i
  cases (show u=Value.ref b from m)
  obtain⟨z,hd,j,rel,O⟩:=zw I.hok e;obtain⟨w',c,r⟩:=RelO.some_of (v:=v) (o:=(atKey j k).map (·.2)) (by rw[l];exact rel.val k)
  obtain⟨p,M,d⟩:=Fm.mp c;refine wpAny_getItem_heap (tupleKind_room_in1 f) (vd I.hok Y) O M ?_;rw[d];exact h w' _ (I.tok _) r
theorem Ei{Q:Value->Shared->Prop}(f:A.units+1<cLine)(I:Inv X pins σ H s)(g:DGet H a y o)(m:RelV y u)(h:∀ s',Inv X pins σ H s'->Q (.bool (!o.isSome)) s') :
  wpAny (model X.prog X.w) A (compareOp .NotIn u (.ref a)) Q E s:=by
 rcases g with⟨L,k,e,i,l⟩ | ⟨L,k,b,e,i,Y,l⟩
 ·subst i;obtain⟨z,hd,N,rel,O⟩:=zA I.hok e;refine wpAny_notIn_of (vK m) hd O.mapOf ?_;rw[← (rel.val k).isSome_eq,← l];exact h _ (I.tok _)
 ·subst i
  cases (show u=Value.ref b from m)
  obtain⟨z,hd,M,rel,O⟩:=zw I.hok e;refine wpAny_notIn_heap (tupleKind_room_in1 f) (vd I.hok Y) hd O ?_;have q:=(rel.val k).isSome_eq;rw[Option.isSome_map]at q;rw[← q,← l];exact h _ (I.tok _)
theorem oZ{h':Heap}{t':Nat}{ob:HO}(I:Inv X pins σ H s)(f:Mut (H a))(J:Heap.SameBut a s.heap h')(j:∃ q,h'.get? a=some q)(new:bV X.prog X.w (upd H a ob) h' a ob) :
  Inv X pins σ (upd H a ob) { s with heap:=h',toks:=t' } :=
 I.write (x:=a) (e:=a) f (.inl rfl) (λb q G z=>(J.2 b G).trans z) j new
theorem zB{P:Program}{w:World}{H':Hp}{h':Heap}{kvs:List (Key×V)}{vs:List (Key×Value)}(z:kvs.length<=sizeLine)(hd:(a == sysModules)=false)(rel:KV kvs vs)(dd:h'.DictOf (bP P w) a vs) :
  bV P w H' h' a (.dK kvs):=⟨z,hd,vs,rel,dd⟩
theorem zH{H':Hp}{Q:Unit->Shared->Prop}(f:A.units+1<cLine)(I:Inv X pins σ H s)(g:DPut H a y v H')(m:RelV y u)(O:RelV v r)(h:∀ s',Inv X pins σ H' s'->Q () s') :
  wpAny (model X.prog X.w) A (setItem (.ref a) u r) Q E s:=by
 rcases g with⟨L,k,e,ey,l,eH⟩ | ⟨L,k,b,e,ey,d,l,eH⟩
 ·subst ey eH;obtain⟨z,hd,N,rel,p⟩:=wc I.hok e;have i:N.length<=sizeLine:=by rw[← rel.length];exact z
  have D:(putK L k v).length<=sizeLine:=by have:=dX L k v;omega
  refine wpAny_setItem_pairs (hsz:=i) (vK m) p λG aa J=>h _ ?_;have j:∃ q,G.get? a=some q:=let ⟨q,_,_,T,_⟩:=aa;⟨q,T⟩;exact oZ I (by rw[e];exact True.intro) J j (zB D hd (rel.put k O) aa)
 ·subst ey eH
  cases (show u=Value.ref b from m)
  obtain⟨z,hd,M,rel,p⟩:=dt_of I.hok e;have i:M.length<=sizeLine:=by rw[← Paired.length rel];exact z
  have D:(putK L k v).length<=sizeLine:=by have:=dX L k v;omega
  refine wpAny_setItem_heap (hsz:=i) (tupleKind_room_in1 f) (vd I.hok d) p λG aa J=>h _ ?_;obtain⟨q,B,n,T,C,Y,o,_,x⟩:=aa;refine oZ I (by rw[e];exact True.intro) J ⟨q,T⟩ ⟨D,hd,_,(rel.put k d O).keeps λc t ec=>?_,q,B,n,T,C,Y,o,x⟩
  rw[ao (ne_of ec e (λz=>nomatch z))];exact ec
end
section
variable{X:Cx}{pins:List (Addr×Obj)}{σ:St}{H:Hp}{s:Shared}{a:Addr}{kvs:List (Key×V)}{k:Key}{u:Value}{A:Around}{E:Value->Shared->Prop}
theorem d_pop{v:V}{more:List Value}{Q:Value->Shared->Prop}(I:Inv X pins σ H s)(e:H a=some (.dK kvs))(m:RelV (kV k) u)(l:valV kvs k=some v)(L:more = []∨∃ x,more = [x])
  (h:∀ w' s',Inv X pins σ (upd H a (.dK (ke kvs k))) s'->RelV v w'->Q w' s'):wpAny (model X.prog X.w) A (call (.builtin "dict.pop") (.ref a::u::more)) Q E s:=by
 obtain⟨z,hd,N,rel,O⟩:=wc I.hok e;obtain⟨w',c,r⟩:=RelO.some_of (v:=v) (o:=valueAt N k) (by rw[← l];exact rel.val k)
 have M:(keyPart u).isSome=true:=by
  cases k with
  |inl i=>obtain⟨t,q⟩:=(show ∃ t,u=Value.int i t from m);subst q;rfl
  |inr x=>obtain⟨t,q⟩:=(show ∃ t,u=Value.str x t from m);subst q;rfl
 have d:argsOk "dict.pop" ⟨.ref a::u::more,[]⟩:=by
  rcases L with q | ⟨x,q⟩
  ·subst q;exact PySem.F.args_dict_pop_2 _ _
  ·subst q;exact PySem.F.args_dict_pop_3 _ _ _
 refine call_meetsIn PySem.F.slot_dict_pop O.typeIs PySem.F.entry_dict_pop d (meets_dict_pop_there (bP X.prog X.w) a (vK m) more L M)
  ⟨N,w',O,by rw[← rel.length];exact z,c,λG g J=>h w' _ ?_ r⟩
 have j:∃ q,G.get? a=some q:=let ⟨q,_,_,T,_⟩:=g;⟨q,T⟩;exact oZ I (by rw[e];exact True.intro) J j (zB (FF (BJ kvs k) z) hd (rel.drop k) g)
end
noncomputable def NoSl(i:Expr):Prop:=∀ p D,subscripted i false p D=operate [p,D] (getItem p D)
theorem CY{prog:Program}{w:World}{A:Around}{E:Value->Shared->Prop}{s:Shared}{env:Env}{e a:Expr}{pos:Pos}{T id:String}{Q:Value->Shared->Prop}
  (hl:typeLookup (.type T) "__getitem__" = pure (some (.builtin id))) (J:NoSl a)
  (h:wpAny (model prog w) A (eval e env) (λo z=>wpAny (model prog w) A (eval a env) (λi s₂=>s₂.TypeIs o T/\wpAny (model prog w) A (getItem o i) Q E s₂) E z) E s) :
  wpAny (model prog w) A (eval (.Subscript e a pos) env) Q E s:=by
 refine Subscript_ (wpAny_mono h (λo z j=>wpAny_mono j (λi s₂ f=>?_) λ_ _ x=>x) λ_ _ x=>x);obtain⟨M,f⟩:=f;unfold subscriptTail;refine wpAny_bind ?_;rw[getitemInPython_of_ne M.not_modules];refine wpAny_bind (wpAny_specialOf M hl ?_);have fin:wpAny (model prog w) A (subscripted a false o i) (λr b=>wpAny (model prog w) A (letTemporaryGo e o r >>= λ_=>pure r) Q E b) E s₂:=by
  rw[J o i];exact wpAny_operating (wpAny_mono f (λr b g=>wpAny_bind (wpAny_letTemporaryGo (wpAny_pure g))) λ_ _ x=>x)
 first
  |exact wpAny_pure (wpAny_bind fin)
  |exact wpAny_bind (wpAny_pure (wpAny_bind fin))
  |exact wpAny_bind fin
theorem tW{X:Cx}{B:List (Addr×Obj)}{σ:St}{H:Hp}{s:Shared}{a:Addr}{y:V}{o:Option V}(I:Inv X B σ H s)(g:DGet H a y o):s.TypeIs (.ref a) "dict":=by
 rcases g with⟨L,k,e,_,_⟩ | ⟨L,k,b,e,_,_,_⟩
 ·obtain⟨_,_,N,_,O⟩:=zA I.hok e;exact O.typeIs
 ·obtain⟨_,_,M,_,O⟩:=zw I.hok e;exact O.typeIs
noncomputable def tDGet(c ty:TE):TE:=λY H Q=>c Y H λx O=>ty Y O λy u=>∃ a v,x=.ref a/\DGet u a y (some v)/\Q v u
noncomputable def CU(ty c:TE):TE:=λY H Q=>ty Y H λy O=>c Y O λx u=>∃ a o,x=.ref a/\DGet u a y o/\Q (.bl (!o.isSome)) u
noncomputable def sDPut(c ty b:TE):TS:=λD Y H=>b Y H λv O=>c Y O λx u=>ty Y u λy e=>∃ a s,x=.ref a/\DPut e a y v s/\D.nx Y s
section
variable{X:Cx}{o i e value:Expr}{pos pos' tpos:Pos}{td ty tv:TE}
theorem lj(L:X.A.units+1<cLine)(N:PE X o td)(f:PE X i ty)(J:NoSl i):PE X (.Subscript o i pos) (tDGet td ty):=by
 intro B s Y H Q I h;refine CY PySem.F.slot_dict_getitem.lookup J (thn (N B s Y H _ I h) λu m ⟨x,O,c,T,n⟩=>thn (f B m Y O _ c n) λD j ⟨y,d,z,p,a,v,b,g,M⟩=>?_);subst b;obtain rfl:u=Value.ref a:=T;exact⟨tW z g,zO L z g p λw k G r=>⟨v,d,G,r,M⟩⟩
theorem qa(L:X.A.units+1<cLine)(f:PE X i ty)(N:PE X o td):PC X .NotIn i o (CU ty td):=by
 intro B s Y H Q I h;refine thn (f B s Y H _ I h) λD m ⟨y,O,c,p,n⟩=>thn (N B m Y O _ c n) λu j ⟨x,d,z,T,a,ov,b,g,M⟩=>?_;subst b;obtain rfl:u=Value.ref a:=T;exact Ei L z g p λk G=>⟨.bl (!ov.isSome),d,G,rfl,M⟩
theorem nX(L:X.A.units+1<cLine)(N:PE X o td)(f:PE X i ty)(k:PE X value tv)(J:swapsWith value (some (.Subscript o i pos')) pos.line X.env=pure false) :
  PS X (.Assign [.Subscript o i pos'] value pos) (sDPut td ty tv):=by
 intro B s Y H D I h;refine wpAny_Assign_Subscript (thn (k B s Y H _ I h) λr m ⟨v,O,c,Q,n⟩=>thn (N B m Y O _ c n) λu j ⟨x,d,z,T,M⟩=>thn (f B j Y d _ z M) λC t ⟨y,e,G,p,a,q,b,g,w⟩=>?_) J;subst b;obtain rfl:u=Value.ref a:=T;exact zH L G g p Q λl E=>⟨Y,q,E,w⟩
end
theorem vh{P:Program}{w:World}{H:Hp}(h:Heap)(G:sysModules<h.objs.size):bV P w H (h.push { cls:=.type "dict",data:=.dict #[] }) h.objs.size (.dK []) :=
 ⟨FT _,beq_eq_false_iff_ne.mpr (Ne.symm (Fo G)),[],.nil,Heap.DictOf.new h⟩
noncomputable def tDNewK:TE:=λ_ H Q=>∀ p,H p=none->Q (.ref p) (upd H p (.dK []))
section
variable{X:Cx}{pos:Pos}
theorem oj:PE X (.Dict [] [] pos) tDNewK:=λB s Y H Q I h =>
 wpAny_Dict_empty ⟨.ref s.heap.objs.size,_,I.laid (a:=s.heap.objs.size) (o:=.dK []) (t':=s.toks) (λ_ _ q=>Heap.get?_push_of_some _ q) (EI _) (vh s.heap I.big),rfl,h _ (I.hok.fresh (EI _))⟩
end
noncomputable def xi:List (TE×TE)->St->Hp->(List (V×V)->Hp->Prop)->Prop
 |[],_,H,Q=>Q [] H
 | (m,b)::r,Y,H,Q=>m Y H λx O=>b Y O λy u=>xi r Y u λd e=>Q ((x,y)::d) e
noncomputable abbrev VV:List (V×V)->List (Value×Value)->Prop:=Paired λp q=>RelV p.1 q.1/\RelV p.2 q.2
noncomputable def PPs(X:Cx)(pos:Pos)(m:List (Option Expr))(b:List Expr)(C:List (TE×TE)):Prop :=
 ∀(B:List (Addr×Obj))(s:Shared)(Y:St)(H:Hp)(Q:List (V×V)->Hp->Prop),Inv X B Y H s->xi C Y H Q ->
  wpAny (model X.prog X.w) X.A (evalPairs (pairTrees m b X.env pos)) (λN g=>∃ d j,Inv X B Y j g/\VV d N/\Q d j) X.xe s
theorem yc{X:Cx}{pos:Pos}:PPs X pos [] [] []:=λB s Y H Q I h=>pairTrees_nil_walk ⟨[],H,I,.nil,h⟩
theorem uV{X:Cx}{pos:Pos}{k v:Expr}{ks:List (Option Expr)}{vs:List Expr}{tk b:TE}{C:List (TE×TE)}(g:PE X k tk)(w:PE X v b)(L:PPs X pos ks vs C) :
  PPs X pos (some k::ks) (v::vs) ((tk,b)::C):=λB s Y H Q I h =>
 pairTrees_cons_walk (thn (g B s Y H _ I h) λu m ⟨x,O,c,T,n⟩=>thn (w B m Y O _ c n) λi j ⟨y,d,z,p,M⟩ =>
  thn (L B j Y d _ z M) λl t ⟨E,e,G,rel,q⟩=>⟨(x,y)::E,e,G,.cons ⟨T,p⟩ rel,q⟩)
noncomputable def ic(kvs more:List (Key×V)):List (Key×V):=more.foldl (λk g=>putK k g.1 g.2) kvs
theorem KV.merge:∀{more:List (Key×V)}{rs:List (Key×Value)}{kvs:List (Key×V)}{vs:List (Key×Value)},KV more rs->KV kvs vs->KV (ic kvs more) (merged vs rs):=by
 intro more rs kvs vs r;unfold KV at r;induction r generalizing kvs vs with
 |nil=>intro q;exact q
 | @cons p q d c h t Y =>
  intro g;have e:KV (putK kvs p.1 p.2) (stored vs q.1 q.2):=by
   have:=g.put p.1 h.2;rw[← h.1];exact this
  exact Y e
theorem jb:∀(more kvs:List (Key×V)),(ic kvs more).length<=kvs.length+more.length
 |[],kvs=>by show kvs.length<=kvs.length+0;omega
 |p::r,kvs=>by
  have J:=jb r (putK kvs p.1 p.2);have C:=dX kvs p.1 p.2;show(ic (putK kvs p.1 p.2) r).length<=_;rw[E7];omega
theorem ni{P:Program}{w:World}:∀{kvs:List (Key×V)}{l:List (Value×Value)},VV (kvs.map λg=>(kV g.1,g.2)) l->∃ rs,Carries (bP P w) l rs/\KV kvs rs
 |[],_,r=>by rw[List.map_nil]at r;cases r;exact⟨[],True.intro,.nil⟩
 |p::kvs,_,r=>by
  rw[E6]at r
  cases r with
  | @cons a b as bs h t =>
   obtain⟨rs,c,q⟩:=ni (P:=P) (w:=w) t;obtain⟨b1,b2⟩:=b;exact⟨(p.1,b2)::rs,⟨vK h.1,rfl,c⟩,.cons ⟨rfl,h.2⟩ q⟩
noncomputable def tDisp(C:List (TE×TE)):TE:=λY H Q=>∀ p,H p=none->xi C Y (upd H p (.dK [])) λd u=>u p=some (.dK [])/\∃ L:List (Key×V),d=L.map (λg=>(kV g.1,g.2))/\L.length<=15/\Q (.ref p) (upd u p (.dK (ic [] L)))
theorem yn{X:Cx}{pos:Pos}{m:List (Option Expr)}{b:List Expr}{C:List (TE×TE)}(h:PPs X pos m b C)(t:m.all (·.isSome)=true)(hl:m.length=b.length)(d:m≠[])
  (A:m.length<=15):PE X (.Dict m b pos) (tDisp C):=by
 intro B s Y H Q I q;have f:=I.hok.fresh (EI s.heap.objs.size);have y:=I.laid (a:=s.heap.objs.size) (o:=.dK []) (h':=s.heap.push { cls:=.type "dict",data:=.dict #[] }) (t':=s.toks) (λ_ _ q=>Heap.get?_push_of_some _ q) (EI _) (vh s.heap I.big);refine wpAny_Dict_walk (knd:=bP X.prog X.w) t hl d A (thn (h B _ Y _ _ y (q _ f)) λl D ⟨E,u,k,rel,e,L,n,v,M⟩=>?_);subst n;obtain⟨x,c,G⟩:=ni (P:=X.prog) (w:=X.w) rel;obtain⟨z,hd,N,r,O⟩:=wc k.hok e
 cases r
 refine⟨x,c,O,λh' g p=>⟨.ref s.heap.objs.size,_,?_,rfl,M⟩⟩;have i:(ic [] L).length<=sizeLine:=by
  have J:=jb L [];rw[HX]at J;rw[sizeLine_eq];omega
 have j:∃ q,h'.get? s.heap.objs.size=some q:=let ⟨q,_,_,T,_⟩:=g;⟨q,T⟩;exact oZ k (by rw[e];exact True.intro) p j (zB i hd (G.merge .nil) g)
structure M1(X:Cx)(o:Expr)(m:Str)(apos:Pos)(e:Expr)(cpos:Pos):Prop where
 base:attributeBase o m X.env (eval o X.env)=eval o X.env
 few:((backTo cpos (starEach [e] X.env)).all (λx=>!x.1)&&(backToKw cpos (keywordEach [] X.env)).all (λx=>x.1.isSome)
  && decide (([e]:List Expr).length+([]:List Keyword).length+(if([]:List Keyword).isEmpty then 0 else 1)<30))=true
 line:(apos.endLine == cpos.line)=true
 trees:backTo cpos (starEach [e] X.env) = [(false,eval e X.env)]
noncomputable def IsD(H:Hp)(a:Addr):Prop:=(∃ L,Rd H a (.dK L))∨∃ L,Rd H a (.dT L)
theorem isD_at{X:Cx}{B:List (Addr×Obj)}{σ:St}{H:Hp}{s:Shared}{a:Addr}(I:Inv X B σ H s)(d:IsD H a) :
  s.TypeIs (.ref a) "dict"/\(∀ b,Value.ref a=.ref b->∃ ob,s.heap.get? b=some ob/\ob.dict=none)/\(a == sysModules)=false:=by
 rcases d with⟨L,e⟩ | ⟨L,e⟩
 ·obtain⟨_,hd,N,_,O⟩:=zA I.hok e;refine⟨O.typeIs,λb q=>?_,hd⟩
  cases q
  obtain⟨ob,_,_,J,C,_⟩:=O;exact⟨ob,J,C.2.1⟩
 ·obtain⟨_,hd,M,_,O⟩:=zw I.hok e;refine⟨O.typeIs,λb q=>?_,hd⟩
  cases q
  obtain⟨ob,_,_,J,C,_⟩:=O;exact⟨ob,J,C.2.1⟩
section
variable{X:Cx}{pins:List (Addr×Obj)}{σ:St}{H:Hp}{s:Shared}{a:Addr}{y d:V}{u r:Value}{o:Option V}{A:Around}{E:Value->Shared->Prop}
end
noncomputable def tDPop1(c ty:TE):TE:=λY H Q=>c Y H λx O=>∃ a,x=.ref a/\IsD O a/\ty Y O λy u=>∃ L k v,u a=some (.dK L)/\y=kV k/\valV L k=some v/\Q v (upd u a (.dK (ke L k)))
section
variable{X:Cx}{o e f:Expr}{apos cpos:Pos}{td ty tx:TE}
theorem AL(N:PE X o td)(j:PE X e ty) (m:M1 X o "pop" apos e cpos):PE X (.Call (.Attribute o "pop" apos) [e] [] cpos) (tDPop1 td ty):=by
 intro B s Y H Q I h;refine wpAny_Call_method m.base m.few m.line PySem.F.plainAttrs_dict PySem.F.slot_dict_pop PySem.F.type_dict_pop (thn (N B s Y H _ I h) λu J ⟨x,O,c,T,a,b,d,n⟩=>?_);subst b;obtain rfl:u=Value.ref a:=T;obtain⟨f,A,_⟩:=isD_at c d;refine⟨f,A,?_⟩;rw[m.trees];refine Calls.callWith_builtin rfl (Calls.evalArgs_plain (Calls.spliced_cons (thn (j B J Y O _ c n) λC q ⟨y,E,z,p,L,k,v,D,i,l,M⟩=>Calls.spliced_nil ?_)));subst i;exact d_pop z D p l (.inl rfl) λw t G r=>⟨v,_,G,r,M⟩
end
section
variable{X:Cx}{pins:List (Addr×Obj)}{σ:St}{H:Hp}{s:Shared}{a:Addr}{kvs:List (Key×V)}{A:Around}{E:Value->Shared->Prop}
end
section
variable{X:Cx}{pins:List (Addr×Obj)}{σ:St}{H:Hp}{s:Shared}{a:Addr}{y:V}{u:Value}{A:Around}{E:Value->Shared->Prop}
end
section
variable{P:Program}{w:World}{K:ED}{mg:Str->Option Value}{base:Heap}
end
section
variable{X:Cx}
end
section
variable{κ:Type} [DecidableEq κ]
theorem uE{kvs:List (κ×V)}{k:κ}(h:valV kvs k=none):¬ k∈kvs.map (·.1):=by
 intro m;obtain⟨p,M,e⟩:=FJ.mp m;have q:(kvs.any λg=>decide (g.1=k))=true:=List.any_eq_true.mpr ⟨p,M,decide_eq_true e⟩;rw[ft,h]at q;exact absurd q (by simp)
theorem sM:∀{l:List κ}{k:κ},l.Nodup->¬ k∈l->(l++[k]).Nodup
 |[],k,_,_=>by simp
 |a::r,k,h,g=>by
  obtain⟨J,C⟩:=EL.mp h;show(a::(r++[k])).Nodup;refine EL.mpr ⟨λm=>?_,sM C λm=>g (EE.mpr (Or.inr m))⟩;rcases ER.mp m with q | q
  ·exact J q
  ·exact g (EE.mpr (Or.inl (Fi.mp q).symm))
theorem DI{kvs:List (κ×V)}{k:κ}(v:V)(f:(kvs.map (·.1)).Nodup)(h:valV kvs k=none):((putK kvs k v).map (·.1)).Nodup:=by
 rw[uT v h,Fv];exact sM f (uE h)
theorem zx{p:κ×V}{r:List (κ×V)}{k:κ}(e:p.1=k):ke (p::r) k=ke r k:=by
 unfold ke;rw[HS,if_neg (by simp[e])]
theorem zy{p:κ×V}{r:List (κ×V)}{k:κ}(e:¬ p.1=k):ke (p::r) k=p::ke r k:=by
 unfold ke;rw[HS,if_pos (by simp[e])]
end
noncomputable def clOf(env:Env)(fr:List (Str×Nat)):List (Str×Addr):=fr.map λp=>(p.1,(env.cells.lookup p.1).getD 0)
noncomputable def frOf(fr:List (Str×Nat))(σ:St):St:=fr.map λp=>(σ[p.2]?).join
theorem ig{env:Env}:∀{fr:List (Str×Nat)}{y:Str}{c:Addr},(clOf env fr).lookup y=some c->y∈fr.map (·.1)/\c=(env.cells.lookup y).getD 0
 |[],_,_,h=>by cases h
 |p::r,y,c,h=>by
  unfold clOf at h;rw[E6,List.lookup_cons]at h
  cases e:y == p.1 with
  |true =>
   rw[e]at h;have i:y=p.1:=eq_of_beq e
   cases h
   exact⟨by rw[i];exact EM,by rw[i]⟩
  |false =>
   rw[e]at h;obtain⟨a,b⟩:=ig (env:=env) (fr:=r) h;exact⟨EK _ a,b⟩
theorem dU{env:Env}:∀{fr:List (Str×Nat)}{y:Str},y∈fr.map (·.1)->(clOf env fr).lookup y=some ((env.cells.lookup y).getD 0)
 |[],_,h=>by cases h
 |p::r,y,h=>by
  unfold clOf;rw[E6,List.lookup_cons]
  cases e:y == p.1 with
  |true =>
   have i:y=p.1:=eq_of_beq e;rw[i]
  |false =>
   have a:y≠p.1:=λz=>by rw[z]at e;simp at e
   rcases EE.mp h with z | z
   ·exact absurd z a
   ·exact dU (env:=env) (fr:=r) z
section
variable{X:Cx}{pins:List (Addr×Obj)}{σ:St}{H:Hp}{s:Shared}{scope:Scope}{fr:List (Str×Nat)}{x:Str}
end
noncomputable def uH(te:TE)(A:St)(J:It)(H1:Hp)(QQ:List V->Hp->Prop):Prop :=
 ∃ W:Nat->Nat->List V->Hp->Prop,(∃ m,W 0 m [] H1)/\∀ i m v H,W i m v H->v.length<=sizeLine /\
  ((J.stop i H/\QQ v H)∨(J.go i H/\∃ N:V->Hp->Prop,(∀ y u,N y u->∃ d,d<m/\W (i+1) d (v++[y]) u)/\∀ x j,J.yld i H x j->te (some x::A) j N))
section
variable{X:Cx}{scope:Scope}{fr:List (Str×Nat)}{x:Str}{elt iter:Expr}{px pos:Pos}{te:TE}{wi:TI}
end
theorem zU{K:ED}{a:Addr}{xs:List V}{te:TE}{A:St}{H1:Hp}{QQ:List V->Hp->Prop}(Pv:Nat->List V->Hp->Prop)(hz:xs.length<=sizeLine)(u:Pv 0 [] H1)(hl:∀ i ys H,i<=xs.length->Pv i ys H->SqL K H a xs)
  (J:∀ i x ys H,xs[i]?=some x->Pv i ys H->te (some x::A) H λy H2=>Pv (i+1) (ys++[y]) H2) (hd:∀ ys H,ys.length=xs.length->Pv xs.length ys H->QQ ys H)
  : uH te A (Itl K a) H1 QQ:=by
 refine⟨λi m ys H=>m=xs.length-i/\i<=xs.length/\ys.length=i/\Pv i ys H,⟨xs.length,by simp,FT _,rfl,u⟩,?_⟩
 rintro i m ys H ⟨rfl,I,B,p⟩;have q:=hl i ys H I p;refine⟨by omega,?_⟩
 by_cases E:i<xs.length
 ·refine .inr ⟨⟨xs,xs[i],q,by simp[E]⟩,λy H2=>Pv (i+1) (ys++[y]) H2,λy H2 r=>⟨xs.length-(i+1),by omega,rfl,E,by rw[EG,B];rfl,r⟩,λx j y=>?_⟩
  obtain⟨e,y⟩:=y;subst e;exact J i x ys _ (y xs q) p
 ·have e:i=xs.length:=by omega
  subst e;exact .inl ⟨⟨xs,q,EI _⟩,hd ys H B p⟩
theorem wC{lo:Int}{n:Nat}{te:TE}{A:St}{H1:Hp}{QQ:List V->Hp->Prop}(Pv:Nat->List V->Hp->Prop)(hz:n<=sizeLine)(u:Pv 0 [] H1)
  (J:∀ i ys H,i<n->Pv i ys H->te (some (.int (lo+i))::A) H λy H2=>Pv (i+1) (ys++[y]) H2) (hd:∀ ys H,ys.length=n->Pv n ys H->QQ ys H)
  : uH te A (Itr lo n) H1 QQ:=by
 refine⟨λi m ys H=>m=n-i/\i<=n/\ys.length=i/\Pv i ys H,⟨n,by simp,FT _,rfl,u⟩,?_⟩
 rintro i m ys H ⟨rfl,I,B,p⟩;refine⟨by omega,?_⟩
 by_cases E:i<n
 ·refine .inr ⟨E,λy H2=>Pv (i+1) (ys++[y]) H2,λy H2 r=>⟨n-(i+1),by omega,rfl,E,by rw[EG,B];rfl,r⟩,λx j y=>?_⟩
  obtain⟨e,y⟩:=y;subst e y;exact J i ys _ E p
 ·have e:i=n:=by omega
  subst e;exact .inl ⟨EI _,hd ys H B p⟩
theorem Aa:bootBuiltins "int" = some (.type "int"):=by decide
theorem Es:bootBuiltins "bool" = some (.type "bool"):=by decide
theorem gd:bootBuiltins "list" = some (.type "list"):=by decide
theorem BW:bootBuiltins "tuple" = some (.type "tuple"):=by decide
theorem aY:bootBuiltins "len" = some (.builtin "len"):=by decide
theorem bu:bootBuiltins "isinstance" = some (.builtin "isinstance"):=by decide
theorem zZ:bootBuiltins "sorted" = some (.builtin "sorted"):=by decide
theorem my:bootBuiltins "reversed" = some (.type "reversed"):=by decide
theorem qX:bootBuiltins "enumerate" = some (.type "enumerate"):=by decide
structure Cal(P:Program)(w:World)(K:ED)(mg:Str->Option Value)(base:Heap)(k:Nat)(x:Str)(ps:List Str)(sp:Sp)(f:Addr)(fd:FuncData):Prop where
 ok:FnOk P w K mg base CX0 k f fd ps sp
 bn:cW K fd ps []
 mg:mg x=some (.ref f)
 kp:Ft K (.ref f)=true
structure Mak(P:Program)(w:World)(K:ED)(mg:Str->Option Value)(base:Heap)(k:Nat)(x:Str)(ps:List Str)(sp:Sp)(C f:Addr)(fd:FuncData):Prop where
 mkc:Mk K C f
 ok:FnOk P w K mg base CX0 k f fd ps sp
 bn:cW K fd ps []
 mg:mg x=some (.ref C)
structure Met(P:Program)(w:World)(K:ED)(mg:Str->Option Value)(base:Heap)(k:Nat)(C:Addr)(m:Str)(ps:List Str)(sp:Sp)(f:Addr)(fd:FuncData):Prop where
 me:Meth K C m f
 ok:FnOk P w K mg base CX0 k f fd ps sp
 bn:cW K fd ps []
theorem jG{X:Cx}{a:List Stmt}{t t2:TS}(h:PSs X a t)(i:∀ D σ H,t2 D σ H->t D σ H):PSs X a t2:=λB s σ H D I q=>h B s σ H D I (i D σ H q)
section
variable{X:Cx}
noncomputable def rIsi(K:ED):List V->Hp->VK->Prop:=λM H Q=>∃ x c t b u,M = [x,c]/\TyOf K H x t/\((∃ n,c=.ty n/\u=Value.type n)∨∃ a,c=.ref a/\u=Value.ref a)/\FQ K t u=some b/\Q (.bl b) H
theorem kH:jq X (.builtin "isinstance") (rIsi X.K):=by
 intro B s Y H M d Q I r h;obtain⟨x,c,t,b,u,rfl,ty,f,e,q⟩:=h;obtain⟨i,v,rfl,C,J⟩:=wY r;have L:v=u:=by
  rcases f with⟨n,rfl,rfl⟩ | ⟨a,rfl,rfl⟩
  ·exact J
  ·exact J
 subst L;exact yU I C ty e λm=>⟨.bl b,H,I.tok m,rfl,q⟩
theorem kit_ii(K:ED):FQ K (.type "int") (.type "int")=some true:=by with_unfolding_all rfl
theorem kit_ib(K:ED):FQ K (.type "int") (.type "bool")=some false:=by with_unfolding_all rfl
theorem kit_ll(K:ED):FQ K (.type "list") (.type "list")=some true:=by with_unfolding_all rfl
theorem kit_tt(K:ED):FQ K (.type "tuple") (.type "tuple")=some true:=by with_unfolding_all rfl
end
inductive RdD(K:ED)(H:Hp):V->PyData->Prop where
 |non:RdD K H .non .none
 |bl (b:Bool):RdD K H (.bl b) (.bool b)
 |int (i:Int):RdD K H (.int i) (.int i)
 |lst {a:Addr} {xs:List V} {ds:List PyData} (h:SqL K H a xs) (hl:xs.length=ds.length) (r:∀(i:Nat)(x:V)(d:PyData),xs[i]?=some x->ds[i]?=some d->RdD K H x d):RdD K H (.ref a) (.list ds)
 |tup {a:Addr} {xs:List V} {ds:List PyData} (h:SqT K H a xs) (hl:xs.length=ds.length) (r:∀(i:Nat)(x:V)(d:PyData),xs[i]?=some x->ds[i]?=some d->RdD K H x d):RdD K H (.ref a) (.tuple ds)
theorem iA{h:Heap}:∀{xs:List V}{us:List Value}{ds:List PyData},Vals xs us->xs.length=ds.length->(∀(i:Nat) x d,xs[i]?=some x->ds[i]?=some d->∀ u,RelV x u->∃ as,Reads h u d as)->∃ as,ReadsAll h us ds as
 |_,_,[],.nil,_,_=>⟨_,.nil⟩
 |_,_,_::_,.nil,e,_=>by cases e
 |_,_,[],.cons _ _,e,_=>by cases e
 |_,_,d::ds,.cons r b,e,k=>by
  obtain⟨B,n⟩:=k 0 _ d rfl rfl _ r;obtain⟨s,M⟩:=iA b (Nat.succ.inj e) λi x c T Q=>k (i+1) x c T Q;exact⟨_,.cons n M⟩
section
variable{X:Cx}
theorem RdD.reads{B:List (Addr×Obj)}{σ:St}{H:Hp}{s:Shared}(I:Inv X B σ H s){x:V}{d:PyData}(r:RdD X.K H x d):∀ u,RelV x u->∃ as,Reads s.heap u d as:=by
 induction r with
 |non=>intro u f;cases f;exact⟨_,.none⟩
 |bl b=>intro u f;cases f;exact⟨_,.bool b⟩
 |int i=>intro u f;obtain⟨t,rfl⟩:=f;exact⟨_,.int i t⟩
 |lst h D r Y =>
  intro u f
  cases f
  obtain⟨A,O,p,_⟩:=I.list h;obtain⟨as,q⟩:=iA (h:=s.heap) O D Y;obtain⟨o,n,e,c,_,d⟩:=p;exact⟨_,.list e c d (by simpa using q)⟩
 |tup h D r Y =>
  intro u f
  cases f
  obtain⟨A,O,p,_⟩:=I.tuple h;obtain⟨as,q⟩:=iA (h:=s.heap) O D Y;obtain⟨o,e,c,n,d⟩:=p;exact⟨_,.tuple e c d (by simpa using q)⟩
noncomputable def rSame(b:Bool)(K:ED):R2:=λx y H Q=>∃ d,RdD K H x d/\RdD K H y d/\SeqAt.shaped d=true/\Q (.bl b) H
theorem op_neD(f:X.A.units+64<cLine):OpR X (compareOp .NotEq) (rSame false X.K):=by
 intro B s Y H x y v u Q I T m h;obtain⟨d,C,c,J,q⟩:=h;obtain⟨as,n⟩:=C.reads I v T;obtain⟨bs,M⟩:=c.reads I u m;refine ne_dataH n M J J f ?_;rw[SeqAt.eqv_refl d (SeqAt.canLay_of_shaped J)];exact⟨.bl false,H,I,rfl,q⟩
end
section
variable{X:Cx}{tg:Expr}
end
section
variable{P:Program}{w:World}{H:Hp}{h:Heap}{a:Addr}{o:HO}
theorem bV.get(x:bV P w H h a o):∃ ob,h.get? a=some ob:=by
 cases o with
 |lst M=>obtain⟨_,_,_,_,e⟩:=x;exact⟨_,e⟩
 |tup M=>obtain⟨_,_,_,ob,e,_⟩:=x;exact⟨_,e⟩
 |dK L=>obtain⟨_,_,_,_,o,_,_,e,_⟩:=x;exact⟨_,e⟩
 |dT L=>obtain⟨_,_,_,_,o,_,_,e,_⟩:=x;exact⟨_,e⟩
 |set S n=>obtain⟨o,_,_,_,e,_⟩:=x;exact⟨_,e⟩
 |ins C l fs=>obtain⟨_,_,_,e,_⟩:=x;exact⟨_,e⟩
 |own y=>exact x
 |xd fs=>obtain⟨_,⟨_,_,_,e,_⟩,_⟩:=x;exact⟨_,e⟩
 |rng lo I=>obtain⟨_,_,_,e⟩:=x;exact⟨_,e⟩
 |frz ob u=>exact⟨_,x.1⟩
 |tbl d=>exact⟨_,(show h.get? a=some _ from x)⟩
 |met f y=>exact⟨_,(show h.get? a=some _ from x)⟩
 |ext i=>exact x.2.1
theorem HOk.none_of(x:HOk P w H h)(e:h.get? a=none):H a=none:=by
 cases q:H a with
 |none=>rfl
 |some u =>
  obtain⟨O,z⟩:=(x a u q).get;rw[e]at z
  cases z
end
structure XOk(X:Cx)(pins:List (Addr×Obj))(H:Hp)(b:Addr):Prop where
 old:X.s₀.heap.get? b=none
 trk:H b=none
 nl:b≠X.env.locals
 nc:∀ x c,X.env.cells.lookup x=some c->c≠b
 np:∀ p∈X.pn++pins,p.1≠b
section
variable{X:Cx}{pins:List (Addr×Obj)}{σ:St}{H H':Hp}{s s':Shared}{b:Addr}
theorem Inv.xok(I:Inv X pins σ H s)(O:X.ex = [])(e:s.heap.get? b=none)(n:H' b=none):XOk X pins H' b:=by
 refine⟨?_,n,λz=>?_,λx c q z=>?_,λp M z=>?_⟩
 ·cases q:X.s₀.heap.get? b with
  |none=>rfl
  |some o =>
   obtain⟨t,u⟩:=I.base.there b o q (by rw[O];simp)
   rw[e]at u
   cases u
 ·obtain⟨m,⟨o,_,_,N,_⟩,_⟩:=I.loc;rw[z,N]at e
  cases e
 ·obtain⟨v,o,N,_⟩:=I.cell x c q;rw[z,e]at N
  cases N
 ·have:=(I.pin p M).1
  rw[z,e]at this
  cases this
theorem Inv.xstep{h':Heap}{ch:List Addr}(I:Inv X pins σ H s)(y:∀ b∈ch,XOk X pins H b)
  (keep:∀ b o,s.heap.get? b=some o->b∉ch->b∉frs X.stack->h'.get? b=some o)
  (slot:∀ b o,s.heap.get? b=some o->b∉ch->b∈frs X.stack->∃ sl,h'.get? b=some { o with slots:=sl }):Inv X pins σ H { s with heap:=h' }:=by
 have any:∀ b o,s.heap.get? b=some o->b∉ch->∃ sl,h'.get? b=some { o with slots:=sl }:=λb o e E=>by
  by_cases G:b∈frs X.stack
  ·exact slot b o e E G
  ·exact⟨o.slots,keep b o e E G⟩
 have L:∀ b,b∈frs X.stack->b≠X.env.locals->b∈X.fs:=λb G n=>(EE.mp (I.stkSub b G)).elim (λz=>absurd z n) λz=>z;have f:∀ b o,X.s₀.heap.get? b=some o->b≠X.env.locals:=λb o e=>Fo (EZ (Heap.lt_size e) I.ok.above);have h:∀ b o,X.s₀.heap.get? b=some o->b∉ch:=λb o e G=>by
  have:=(y b G).old;rw[e]at this
  cases this
 have C:∀ x c,X.env.cells.lookup x=some c->∀ v,s.heap.IsCell c v->h'.IsCell c v:=λx c e v ⟨o,N,hd⟩=>by
  obtain⟨sl,q⟩:=any c o N λz=>(y c z).nc x c e rfl;exact⟨_,q,hd⟩
 refine⟨I.ok,I.os,I.bare,⟨λb o e n G O=>?_,λb o e n G O=>?_,I.base.free,λb o e O=>?_,I.base.tups,I.base.frzs,I.base.tbls⟩,?_,λx c e=>?_,I.free,I.freeC,λp M=>?_,λb u e=>?_,I.len⟩
 ·exact keep b o (I.base.keep b o e n G O) (h b o e) λz=>G (L b z (f b o e))
 ·obtain⟨sl,T⟩:=I.base.slot b o e n G O;obtain⟨w,Q⟩:=any b _ T (h b o e);exact⟨w,Q⟩
 ·obtain⟨t,T⟩:=I.base.there b o e O;obtain⟨sl,Q⟩:=any b _ T (h b o e);exact⟨_,Q⟩
 ·obtain⟨m,⟨o,B,j,N,r⟩,D⟩:=I.loc;obtain⟨sl,Q⟩:=any _ o N λz=>(y _ z).nl rfl;refine⟨m,⟨_,B,j,Q,r⟩,λi x v T Q A=>?_⟩;obtain⟨u,r,l⟩:=D i x v T Q A;refine⟨u,r,?_⟩;rcases l with l | ⟨k,c,e,z⟩
  ·exact .inl l
  ·exact .inr ⟨k,c,e,C x c e _ z⟩
 ·obtain⟨v,z⟩:=I.cell x c e;exact⟨v,C x c e v z⟩
 ·obtain⟨e,n,ne,a,d⟩:=I.pin p M;exact⟨keep p.1 p.2 e (λz=>(y p.1 z).np p M rfl) λz=>a (L p.1 z ne),n,ne,a,d⟩
 ·have J:∀ c g,H c=some g->c∉ch/\c∉frs X.stack:=λc g q=>⟨λz=>(by rw[(y c z).trk]at q;exact nomatch q),λz=>(by rw[I.stkFree c z]at q;exact nomatch q)⟩
  refine(I.hok b u e).stay (λc v E q=>?_) (λ_ q=>q) λ_ _ q=>q;rcases E with z | z
  ·rw[z]at q ⊢;exact keep b v q (J b u e).1 (J b u e).2
  ·exact keep c v q (J c _ z).1 (J c _ z).2
theorem Inv.xtrack{a:Addr}{o:HO}(I:Inv X pins σ H s)(f:XOk X pins H a)(new:bV X.prog X.w (upd H a o) s.heap a o):Inv X pins σ (upd H a o) s:=by
 have ne:∀ b u,H b=some u->b≠a:=λb u e=>aE e f.trk;have h:∀ b u,s.heap.get? b=some u->b≠a->H b=none->upd H a o b=none:=λb u _ n q=>by rw[ao n];exact q
 refine⟨I.ok,I.os,I.bare,⟨I.base.keep,I.base.slot,λb g e n O=>?_,I.base.there,λb j e=>?_,λb g j e=>?_,λb d e=>?_⟩,I.loc,I.cell,?_,λx c e=>?_,λp M=>?_,λb u e=>?_,I.len⟩
 ·rw[ao (λz=>by rw[z,f.old]at e;cases e)]
  exact I.base.free b g e n O
 ·have:=I.base.tups b j e
  rw[ao (ne _ _ this)];exact this
 ·have:=I.base.frzs b g j e
  rw[ao (ne _ _ this)];exact this
 ·obtain⟨m,q⟩:=I.base.tbls b d e;exact⟨m,by rw[ao (ne _ _ q)];exact q⟩
 ·rw[ao (Ne.symm f.nl)];exact I.free
 ·rw[ao (f.nc x c e)];exact I.freeC x c e
 ·obtain⟨e,n,r⟩:=I.pin p M;exact⟨e,by rw[ao (f.np p M)];exact n,r⟩
 ·by_cases G:b=a
  ·rw[G,af]at e
   cases e
   rw[G];exact new
  ·rw[ao G]at e;exact(I.hok b u e).stay (λc v _ q=>q) (λc q=>by rw[ao (ne c _ q)];exact q) λc j q=>by rw[ao (ne c _ q)];exact q
end
noncomputable def Trc(h:Heap)(x:Addr)(C:Value)(T:Addr):Prop :=
 ∃ i N c L g,h.get? x=some i/\i.cls=C/\N[0]?=some c/\i.data=.fields N/\N[1]?=some (.ref T)/\T≠x/\h.get? T=some L/\L.data=.fields g/\g[3]?=some .none
noncomputable def Xnw(h:Heap)(x:Addr)(C:Value):Prop:=∃ i N c,h.get? x=some i/\i.cls=C/\i.data=.fields N/\N[0]?=some c/\N[1]?=some .none
noncomputable def XA(X:Cx)(B:List (Addr×Obj))(H:Hp)(s:Shared)(x:Addr)(C:Value):Prop:=XOk X B H x/\(Xnw s.heap x C∨∃ T,XOk X B H T/\Trc s.heap x C T)
section
variable{X:Cx}{pins:List (Addr×Obj)}{σ:St}{H:Hp}{s:Shared}{x:Addr}{C:Value}{E:Value->Shared->Prop}
noncomputable abbrev hidX(X:Cx)(h:Heap)(ch:List Addr):Heap:=PySem.W.hideAll h (ch++frs X.stack)
theorem Inv.hidF(I:Inv X pins σ H s)(ch:List Addr):s.heap.FunFrames (hidX X s.heap ch) X.stack :=
 PySem.W.funFrames_hide I.stack λd j a p=>E4 _ (Ir.mpr ⟨d,j,p⟩)
theorem qB(ch:List Addr)(h:Heap):(hidX X h ch).StaysIn h:=λ_ _ e=>PySem.W.of_hideAll _ e
theorem dE{ch:List Addr}{h:Heap}{b:Addr}(G:b∈ch):(hidX X h ch).get? b=none:=PySem.W.hideAll_none _ (Fw _ G)
theorem Inv.left{h':Heap}{ch:List Addr}{c:Value}(I:Inv X pins σ H s)(O:X.ex = [])(y:∀ b∈ch,XOk X pins H b)(k:(hidX X s.heap ch).StaysIn h')(t:h'.TracedW (hidX X s.heap ch) x C c)(u:s.heap.UpToSlots h') :
  Inv X pins σ H { s with heap:=h' }/\∃ T,XOk X pins H T/\Trc h' x C T:=by
 have n:∀ b o,s.heap.get? b=some o->b∈frs X.stack->∃ E,h'.get? b=some { o with slots:=E }:=λb o e G=>by
  obtain⟨_,B,D,hd⟩:=I.stack.mem G;rw[e]at D
  cases D
  exact u b o e hd
 refine⟨I.xstep y (λb o e r a=>k b o (Hg _ e λz=>(ER.mp z).elim r a)) λb o e _ G=>n b o e G,?_⟩;obtain⟨i,N,T,L,g,j,⟨l,d⟩,hd,J,w,f,M,m,Y⟩:=t;refine⟨T,?_,i,N,c,L,g,j,l,d,hd,J,f,M,m,Y⟩
 cases q:s.heap.get? T with
 |none=>exact I.xok O q (I.hok.none_of q)
 |some o =>
  by_cases z:T∈ch
  ·exact y T z
  ·by_cases v:T∈frs X.stack
   ·obtain⟨_,B,D,A⟩:=I.stack.mem v;obtain⟨E,e⟩:=n T o q v;rw[M]at e
    cases e
    rw[q]at D
    cases D
    exact absurd m (A g)
   ·have:=Hg (ch++frs X.stack) q λh=>(ER.mp h).elim z v
    rw[w]at this
    cases this
theorem Inv.leave{Q:Unit->Shared->Prop}(I:Inv X pins σ H s)(O:X.ex = [])(z:X.stack=X.env::X.outer)(k:X.env.frame=some X.env.locals)(xa:XA X pins H s x C)
  (h:∀ h' T,Inv X pins σ H { s with heap:=h' }->XOk X pins H x->XOk X pins H T->Trc h' x C T->Q () { s with heap:=h' }):wpAny (model X.prog X.w) X.A (leaving X.env (.ref x)) Q E s:=by
 obtain⟨n,o⟩:=xa;have d:X.A.frames=some (X.env::X.outer):=by rw[← z];exact I.ok.frames
 rcases o with⟨i,N,c,j,l,hd,u,J⟩ | ⟨T,D,i,N,c,v,g,j,l,u,hd,J,r,M,m,Y⟩
 ·have y:∀ b∈[x],XOk X pins H b:=λb G=>by
   have e:b=x:=by simpa using G
   rw[e];exact n
  refine wpAny_leaving_firstW (base:=hidX X s.heap [x]) d (z▸I.hidF [x]) k j (qB _ _) (dE (by simp)) hd J u λh' L=>?_
  obtain⟨f,_,B,q⟩:=L;obtain⟨a,T,D,p⟩:=I.left O y f B q;rw[l]at p;exact h h' T a n D p
 ·have y:∀ b∈[x,T],XOk X pins H b:=λb G=>by
   rcases EE.mp G with e | G
   ·rw[e];exact n
   ·have e:b=T:=by simpa using G
    rw[e];exact D
  refine wpAny_leaving_nextW (base:=hidX X s.heap [x,T]) d (z▸I.hidF [x,T]) k ⟨i,N,T,v,g,j,⟨l,u⟩,hd,J,dE (by simp),r,M,m,Y⟩ (qB _ _) (dE (by simp)) λh' L=>?_
  obtain⟨f,_,B,q⟩:=L;obtain⟨a,T',t,p⟩:=I.left O y f B q;exact h h' T' a n t p
end
section
variable{X:Cx}{k:Nat}{f C:Addr}{fd:FuncData}{ps:List Str}{sp:Sp}{dvs:List V}{ds:List Value}{W:WK}{x m:Str}{p pos apos:Pos}{e o:Expr}{es:List Expr}{ta:TE}{t:TA}
end
abbrev veM:List Value:=[.type "ValueError",.type "Exception",.type "BaseException",.type "object"]
abbrev ExC(K:ED)(C:Addr):Prop:=Ip K C veM "ValueError.__new__" = true
theorem zu{K:ED}{C:Addr}{h:Heap}(e:ExC K C)(X:K.In h):∃ bm N nm J bs hdct sn sub ab col dd k0 k1 k2 k3 k5 mN,h.get? C=some (excClassObj nm J C N bs bm hdct sn sub ab col dd k0 k1 k2 k3 k5 "ValueError.__new__")/\h.Ns N mN/\mN "__init__" = none/\OwnTail h veM bm/\∀ B b,Gy K C B=some b->(Value.ref C::bm).contains B=b:=by
 have z:=e;unfold ExC Ip at z;split at z
 ·rename_i u v w I;split at z
  ·rename_i Cx n d c p G f g o a;have s:=z;simp only[IK,beq_iff_eq,Bool.not_eq_true']at s;obtain⟨⟨⟨⟨⟨x,A⟩,q⟩,i⟩,r⟩,j⟩:=s;subst x;subst A;obtain⟨l⟩:=w;have D:l = [d,c,p,G,some (.builtin "ValueError.__new__"),g]:=a;subst D;obtain⟨nm,bs,y,t,J,hd,sn,sub,ab,col,del⟩:=v;have k:y=.ref Cx::n:=o;have m:del=false:=q;subst k m;refine⟨n,t,nm,J,bs,hd,sn,sub,ab,col,u,d,c,p,G,g,_,X _ _ I,.of_isNs (PySem.W.isNs_of_in X r),PySem.W.nsMap_none_of_in X r j,PySem.W.tail_of_in X i,λB b O=>?_⟩;unfold Gy Jj at O;rw[I]at O;simpa using O
  ·cases z
 ·cases z
section
variable{X:Cx}{pins:List (Addr×Obj)}{σ:St}{H:Hp}{s:Shared}{x:Addr}{C:Value}
noncomputable def Cx.marked(X:Cx)(v:Value):Cx:={ X with A:=X.A.mark (some v),calm:=false,xe:=λ_ _=>False }
theorem Inv.marked(I:Inv X pins σ H s)(v:Value):Inv (X.marked v) pins σ H s :=
 ⟨⟨I.ok.mod,I.ok.kind,I.ok.glob,I.ok.blt,I.ok.above,I.ok.inj,I.ok.has,I.ok.cab,λz=>(by cases z),I.ok.frames,I.ok.stk,I.ok.exf,I.ok.bs,I.ok.bsz,I.ok.noex,I.ok.exfs,I.ok.funs,I.ok.frf⟩,I.os,I.bare,I.base,I.loc,I.cell,I.free,I.freeC,I.pin,I.hok,I.len⟩
theorem Inv.unmarked{hd:X.calm=true->X.A.handled=none}{fr:X.A.frames=some X.stack}{v:Value}(I:Inv (X.marked v) pins σ H s):Inv X pins σ H s :=
 ⟨⟨I.ok.mod,I.ok.kind,I.ok.glob,I.ok.blt,I.ok.above,I.ok.inj,I.ok.has,I.ok.cab,hd,fr,I.ok.stk,I.ok.exf,I.ok.bs,I.ok.bsz,I.ok.noex,I.ok.exfs,I.ok.funs,I.ok.frf⟩,I.os,I.bare,I.base,I.loc,I.cell,I.free,I.freeC,I.pin,I.hok,I.len⟩
theorem Inv.gone{i:Nat}{n:Str}{h':Heap}{tk:Nat}{m:Str->Option Value}{v:Option Value}(I:Inv X pins σ H s)(g:X.N.Nodup)(f:X.N[i]?=some n)(L:s.heap.Ns X.env.locals m/\∀ (i:Nat) (x:Str) (v:V),X.N[i]?=some x->σ[i]?=some (some v)->Vis X.env.scope x->∃ u,RelV v u/\Look X.env s.heap m x u)
  (r:h'.Ns X.env.locals (λy=>if y=n then v else m y)) (J:Heap.SameBut X.env.locals s.heap h'):Inv X pins (σ.set i none) H { s with heap:=h',toks:=tk }:=by
 have lo:∀ b o,X.s₀.heap.get? b=some o->b≠X.env.locals:=λb o e=>Fo (EZ (Heap.lt_size e) I.ok.above);obtain⟨oL,_,_,aa,_⟩:=id L.1;refine⟨I.ok,I.os,I.bare,⟨λb o e C G O=>(J.2 b (lo b o e)).trans (I.base.keep b o e C G O),λb o e C G O=>?_,I.base.free,λb o e O=>?_,I.base.tups,I.base.frzs,I.base.tbls⟩,⟨_,r,λj y w T Q A=>?_⟩,λy c e=>?_,I.free,I.freeC,λp M=>?_,λb u e=>?_,by simpa using I.len⟩
 ·obtain⟨sl,q⟩:=I.base.slot b o e C G O;exact⟨sl,(J.2 b (lo b o e)).trans q⟩
 ·obtain⟨t,q⟩:=I.base.there b o e O;exact⟨t,(J.2 b (lo b o e)).trans q⟩
 ·by_cases E:j=i
  ·subst E;rw[Fl]at Q;split at Q
   ·split at Q<;>cases Q
   ·rename_i z;exact absurd rfl z
  ·rw[Hw (Ne.symm E)]at Q;obtain⟨h,a,B⟩:=L.2 j y w T Q A;refine⟨h,a,?_⟩;rcases B with⟨D,e⟩ | ⟨D,c,e,z⟩
   ·refine .inl ⟨D,?_⟩;have ny:y≠n:=λq=>E (oE g T (q▸f));show(if y=n then v else m y)=some h;rw[if_neg ny];exact e
   ·exact .inr ⟨D,c,e,z.sameBut J (I.cne y c e)⟩
 ·obtain⟨w2,z⟩:=I.cell y c e;exact⟨w2,z.sameBut J (I.cne y c e)⟩
 ·obtain⟨e,C,ne,Y,d⟩:=I.pin p M;exact⟨(J.2 p.1 ne).trans e,C,ne,Y,d⟩
 ·refine(I.hok b u e).stay (λc k l q=>(J.2 c λz=>?_).trans q) (λ_ q=>q) λ_ _ q=>q;have fr:=I.free;rcases l with y | y
  ·rw[← y,z,fr]at e;cases e
  ·rw[z,fr]at y;cases y
end
section
variable{M:Model}{A:Around}{E:Value->Shared->Prop}{h:Heap}{g:Array GenState}{d:Drawn}{t:Nat}{os:OsState}
end
noncomputable def Cx.tried(X:Cx)(B:List (Addr×Obj))(E:Value->Shared->Prop):Cx:={ X with pn:=X.pn++B,xe:=E }
section
variable{X:Cx}{pins pins':List (Addr×Obj)}{σ:St}{H:Hp}{s:Shared}{E:Value->Shared->Prop}{b:Addr}
theorem Inv.tried(I:Inv X pins σ H s):Inv (X.tried pins E) [] σ H s :=
 ⟨⟨I.ok.mod,I.ok.kind,I.ok.glob,I.ok.blt,I.ok.above,I.ok.inj,I.ok.has,I.ok.cab,I.ok.hd,I.ok.frames,I.ok.stk,I.ok.exf,I.ok.bs,I.ok.bsz,I.ok.noex,I.ok.exfs,I.ok.funs,I.ok.frf⟩,I.os,I.bare,I.base,I.loc,I.cell,I.free,I.freeC,λp M=>I.pin p (by rw[GV]at M;exact M),I.hok,I.len⟩
theorem Inv.untried(I:Inv (X.tried pins E) pins' σ H s):Inv X pins σ H s :=
 ⟨⟨I.ok.mod,I.ok.kind,I.ok.glob,I.ok.blt,I.ok.above,I.ok.inj,I.ok.has,I.ok.cab,I.ok.hd,I.ok.frames,I.ok.stk,I.ok.exf,I.ok.bs,I.ok.bsz,I.ok.noex,I.ok.exfs,I.ok.funs,I.ok.frf⟩,I.os,I.bare,I.base,I.loc,I.cell,I.free,I.freeC,λp M=>I.pin p (Fw _ M),I.hok,I.len⟩
theorem XOk.untried(x:XOk (X.tried pins E) pins' H b):XOk X pins H b:=⟨x.old,x.trk,x.nl,x.nc,λp M=>x.np p (Fw _ M)⟩
theorem SP.untried{D:Ends}{f:Flow}(h:SP (X.tried pins E) [] D f s):SP X pins D f s:=by
 cases f with
 |next=>obtain⟨z,j,I,q⟩:=h;exact⟨z,j,I.untried,q⟩
 |brk=>obtain⟨z,j,I,q⟩:=h;exact⟨z,j,I.untried,q⟩
 |cont=>obtain⟨z,j,I,q⟩:=h;exact⟨z,j,I.untried,q⟩
 |ret u=>obtain⟨v,z,j,I,r,q⟩:=h;exact⟨v,z,j,I.untried,r,q⟩
end
section
variable{X:Cx}{k:Nat}{f:Addr}{fd:FuncData}{ps:List Str}{sp:Sp}{dvs:List V}{ds:List Value}{W:WK}{x:Str}{p pos:Pos}{e:Expr}{es:List Expr}{t:TA}
end
section
variable{prog:Program}{w:World}{A:Around}{E:Value->Shared->Prop}{s:Shared}
theorem yO:typeLookup (.type "list_reverseiterator") "__len__" = pure none:=by rw[typeLookup_type,builtinLookup_eq_fast];kernel_rfl
theorem Bq:typeLookup (.type "list_reverseiterator") "__length_hint__" = pure (some (.builtin "list_reverseiterator.__length_hint__")):=by rw[typeLookup_type,builtinLookup_eq_fast];kernel_rfl
theorem Bz{r:Addr}{Q:Bool->Shared->Prop} (M:s.TypeIs (.ref r) "list_reverseiterator") (h:Q false s):wpAny (model prog w) A (Builtin.List.listLengthHint (.ref r)) Q E s:=by
 unfold Builtin.List.listLengthHint;refine wpAny_bind (wpAny_specialOf M yO ?_);wp_delta;refine wpAny_ite_split (λc=>absurd c (by decide)) (λ_=>?_)
 refine wpAny_ite_split (λc=>absurd c (by decide)) (λ_=>?_)
 refine wpAny_bind (wpAny_specialOf M Bq ?_);generalize d:("list_reverseiterator.__length_hint__" : String)=e;wp_delta;rw[show splitId e=some ("list_reverseiterator","__length_hint__") from by subst d;decide]
 subst d;refine wpAny_bind (wpAny_isInstance (T:="list_reverseiterator") (b:=true) M (by rw[isSubtype_type];kernel_rfl) ?_)
 refine wpAny_ite_split (λc=>absurd c (by decide)) (λ_=>?_)
 refine wpAny_ite_split (λ_=>?_) (λc=>absurd (by decide) c)
 refine wpAny_ite_split (λc=>absurd c (by decide)) (λ_=>?_)
 exact wpAny_pure h
end
section
variable{X:Cx}
theorem Inv.track{B:List (Addr×Obj)}{σ:St}{H:Hp}{s:Shared}{a:Addr}{o:HO}(I:Inv X B σ H s)(f:FpOk X B H a)(new:bV X.prog X.w (upd H a o) s.heap a o):Inv X B σ (upd H a o) s:=by
 obtain⟨O,g,t,C,A,J⟩:=f;have ne:∀ b u,H b=some u->b≠a:=λb u e=>aE e O;refine I.step (g':=s.gens) (t':=s.toks) (d':=s.drawn) (h':=s.heap) (ch:=[a]) (λb G=>?_) (λb o _ _ _ e _=>e) (λb o _ _ _ e _=>⟨o.slots,e⟩) (λb o l e n=>?_) (λb o _ e=>⟨o,e⟩) (λb M e=>by rw[ao (ne b _ e)];exact e) (λb o u e=>by rw[ao (ne b _ e)];exact e)
  (λb d e=>⟨#[],by rw[ao (ne b _ e),e];simp⟩) (λm i=>i) (λb u e=>?_) I.bare
 ·have Y:b=a:=by simpa using G
  rw[Y];exact⟨C,g,A,J⟩
 ·rw[ao (λz=>l (by simp[z]))]
  exact n
 ·by_cases G:b=a
  ·rw[G,af]at e
   cases e
   rw[G];exact new
  ·rw[ao G]at e;exact(I.hok b u e).stay (λc v _ q=>q) (λc q=>by rw[ao (ne c _ q)];exact q) λc M q=>by rw[ao (ne c _ q)];exact q
end
theorem Inv.turnedL{X:Cx}{B:List (Addr×Obj)}{σ:St}{H:Hp}{s:Shared}{h':Heap}{t':Nat}{fp:List Addr}(I:Inv X B σ H s)(k:∀ b o,b∉fp->s.heap.get? b=some o->h'.get? b=some o)(p:∀ b∈fp,FpOk X B H b):Inv X B σ H { s with heap:=h',toks:=t' }:=by
 have h:∀ b u,H b=some u->b∉fp:=λb u e z=>by rw[(p b z).1]at e;cases e
 refine I.step (g':=s.gens) (d':=s.drawn) (ch:=fp) (λb G=>?_) (λb o _ _ l e _=>k b o l e) (λb o _ _ l e _=>⟨o.slots,k b o l e⟩) (λ_ _ _ _ n=>n)
  (λb o l e=>⟨o,k b o l e⟩) (λ_ _ e=>e) (λ_ _ _ e=>e) (λb d e=>⟨#[],by rw[e];simp⟩) (λm i=>?_) (λb u e=>?_) I.bare
 ·obtain⟨O,x,t,C,A,J⟩:=p b G;exact⟨C,x,A,J⟩
 ·obtain⟨o,g,j,N,r⟩:=i;exact⟨o,g,j,k _ o (λz=>(p _ z).2.1 rfl) N,r⟩
 ·refine(I.hok b u e).stay (λc v l q=>k c v ?_ q) (λ_ q=>q) λ_ _ q=>q;rcases l with z | z
  ·rw[z];exact h b u e
  ·exact h c _ z
noncomputable def Ite(K:ED)(a:Addr):It :=
 ⟨λi H=>∃ M x,SqL K H a M/\M[i]?=some x,λi H v j=>∃ T x,H T=none/\v=.ref T/\j=upd H T (.tup [.int (i:Int),x])/\∀ M,SqL K H a M->M[i]?=some x,λi H=>∃ M,SqL K H a M/\M.length<=i⟩
theorem xf{P:Program}{w:World}{K:ED}{es:List Expr}{k:Nat}{pos:Pos}(a e it:Addr)(aT:e≠it):Turn P w K (.Tuple es k pos) (Ite K a) [e,it] e (λi h=>(∃ aa,IsEnum h e it ((i:Nat):Int) aa)/\h.IsListIter it a i) where
 mem:=by simp
 obj:=λi h st b G=>by
  obtain⟨⟨aa,j⟩,o,Q,c,d⟩:=st;rcases EE.mp G with rfl | G
  ·exact⟨_,j,λv z=>by
    have z':Data.fields _=Data.cell v:=z
    cases z'⟩
  ·have e3:b=it:=by simpa using G
   subst e3;exact⟨o,Q,λv z=>by rw[d]at z;cases z⟩
 keep:=λi h h' st J=>by
  obtain⟨⟨aa,j⟩,ab⟩:=st;exact⟨⟨aa,J e (by simp) _ j⟩,ab.at λo q=>J it (by simp) o q⟩
 item:=by
  intro X hP hw hK l i B s Y H E I n st L;subst hP hw hK;obtain⟨M,x,T,O⟩:=L;obtain⟨A,rv,p,hz⟩:=I.list T;obtain⟨u,hu,ru⟩:=rv.get O;obtain⟨⟨aa,j⟩,ab⟩:=st;refine wpAny_pyNext_enum_item j ab p.isList (x:=u) (by simpa using hu) aT λh' N a0 y al g=>?_
  refine⟨_,rfl,?_⟩;refine wpAny_letOwnedTupleGo_enum N λC a1 an=>?_;have am:Heap.SameBut e h' C:=an;have a2:e<s.heap.objs.size:=Heap.lt_size j;have ap:it<s.heap.objs.size:=by obtain⟨_,q,_⟩:=ab;exact Heap.lt_size q
  have ac:H s.heap.objs.size=none:=I.hok.fresh (EI _);have I0:Inv X B Y (upd H s.heap.objs.size (.tup [.int (i:Int),x])) { s with heap:=s.heap.push { cls:=.type "tuple",data:=.seq #[.int (i:Int) s.toks,u] },toks:=s.toks+1 } :=
   I.laid (t':=s.toks+1) (λb u e=>Heap.get?_push_of_some _ e) (EI _) ⟨by show 2<=sizeLine;decide,[.int (i:Int) s.toks,u],.cons ⟨_,rfl⟩ (.cons ru .nil),⟨_,Heap.get?_push_size _ rfl,rfl,_,rfl⟩⟩
  have aP:∀ b∈[e,it],b<s.heap.objs.size:=λb G=>by
   rcases EE.mp G with rfl | G
   ·exact a2
   ·have e3:b=it:=by simpa using G
    rw[e3];exact ap
  have f:∀ b∈[e,it],upd H s.heap.objs.size (.tup [.int (i:Int),x]) b=none:=λb G=>by
   rw[ao (Fo (aP b G))];exact(n b G).1
  have I2:Inv X B Y (upd H s.heap.objs.size (.tup [.int (i:Int),x])) { s with heap:=C,toks:=s.toks+1 }:=Inv.turnedL (s:={ s with heap:=s.heap.push { cls:=.type "tuple",data:=.seq #[.int (i:Int) s.toks,u] },toks:=s.toks+1 }) (h':=C) I0 (t':=s.toks+1) (fp:=[e,it]) (λb o G q=>by
   have nb:b≠e:=λz=>G (by simp[z])
   have a3:b≠it:=λz=>G (by simp[z])
   refine(am.2 b nb).trans ?_;rcases Heap.get?_push_cases q with⟨z1,r⟩ | q
   ·rw[z1,r];exact y
   ·exact g b o nb a3 q) λb G=>⟨f b G,(n b G).2⟩
  refine⟨.ref s.heap.objs.size,_,I2,rfl,⟨s.heap.objs.size,x,ac,rfl,rfl,λt m=>by rw[I.list_inj m T];exact O⟩,?_,f⟩
  refine⟨⟨u,?_⟩,a0.at λo q=>(am.2 it (Ne.symm aT)).trans q⟩;have e4:(((i+1:Nat):Nat):Int)=(i:Int)+1:=by omega
  rw[e4];exact a1
 done:=by
  intro X hP hw hK l i B s Y H E I n st L;subst hP hw hK;obtain⟨M,T,O⟩:=L;obtain⟨A,rv,p,hz⟩:=I.list T;obtain⟨⟨aa,j⟩,ab⟩:=st;have D:=rv.length;obtain⟨f0,f1,f2,f3,f4,f5⟩:=n it (by simp)
  exact wpAny_pyNext_enum_end (I.ok.hd l) j ab p.isList (by simp;omega) λh' eb=>⟨rfl,I.turned (t':=s.toks) (λb o G e=>eb b o G e) f0 f1 f3 f4 f5⟩
 self:=λ_ _ _ _ _ st h=>by
  obtain⟨⟨aa,j⟩,_⟩:=st;exact wpAny_pyIter_enum j h
section
variable{X:Cx}
noncomputable def iEnum(K:ED)(w:TA):TI:=λY H R=>w Y H λN O=>∃ a,N = [.ref a]/\(∃ M,SqL K O a M)/\R (Ite K a) O
theorem n9{l:Expr}{w:TA}{es:List Expr}{k:Nat}{tp p pos:Pos} (L:Gl X "enumerate") (i:X.mg "enumerate" = none) (E:PA X [l] w) (J:starEach [l] X.env = [(false,eval l X.env)]:=by rfl) :
  PI X (.Tuple es k tp) (.Call (.Name "enumerate" p) [l] [] pos) (iEnum X.K w):=by
 intro B s Y H R I h;refine Call_ (eh I L i qX (PyProof.Rows.callWith_type1 (thn (E pos B s Y H _ I h) λd m ⟨N,O,y,C,n⟩=>?_) J rfl));obtain⟨a,e,⟨M,T⟩,q⟩:=n;subst e;obtain⟨u,rfl,z⟩:=pH C
 cases z
 obtain⟨A,Q,p,f⟩:=y.list T;refine call_enumerate_list p.isList λt j D r g=>?_;refine wpAny_pyIter_enum j ?_;refine⟨m.heap.objs.size+1,[m.heap.objs.size+1,m.heap.objs.size],_,_,O,rfl,y.kept (t':=m.toks) g,xf a _ _ (Nat.succ_ne_self _),⟨⟨_,j⟩,D⟩,λb G=>?_,q⟩;have c:m.heap.objs.size<=b:=by
  rcases EE.mp G with rfl | G
  ·exact GW _
  ·have o:b=m.heap.objs.size:=by simpa using G
   rw[o];exact EI _
 exact y.fpOk c (y.hok.fresh c)
end
theorem oO{K:ED}{a:Addr}{xs:List V}{g:TG}{tb:TS}{D:Ends}{σ:St}{H:Hp}(Pv:Nat->St->Hp->Prop)(u:Pv 0 σ H)(hl:∀ i σ H,i<=xs.length->Pv i σ H->SqL K H a xs)
  (J:∀ i x σ H T,xs[i]?=some x->Pv i σ H->H T=none->g (.ref T) σ (upd H T (.tup [.int (i:Int),x])) λf H2=>tb { D with nx:=Pv (i+1),ct:=Pv (i+1),bk:=D.nx } f H2) (hd:∀ σ H,Pv xs.length σ H->D.nx σ H) :
  ∃ W:Nat->Nat->St->Hp->Prop,(∃ m,W 0 m σ H)/\∀ i m σ H,W i m σ H ->
   ((Ite K a).stop i H/\D.nx σ H)∨((Ite K a).go i H/\∃ N:St->Hp->Prop,(∀ σ' H',N σ' H'->∃ d,d<m/\W (i+1) d σ' H')/\∀ x H',(Ite K a).yld i H x H'->g x σ H' λf H2=>tb { D with nx:=N,ct:=N,bk:=D.nx } f H2):=by
 refine⟨λi m σ H=>m=xs.length-i/\i<=xs.length/\Pv i σ H,⟨xs.length,by simp,FT _,u⟩,?_⟩
 rintro i m σ H ⟨rfl,I,p⟩;have q:=hl i σ H I p;by_cases E:i<xs.length
 ·refine .inr ⟨⟨xs,xs[i],q,by simp[E]⟩,Pv (i+1),λσ' H' A=>⟨xs.length-(i+1),by omega,rfl,E,A⟩,λv H' y=>?_⟩
  obtain⟨T,x,M,rfl,rfl,y⟩:=y;exact J i x σ _ T (y xs q) p M
 ·have e:i=xs.length:=by omega
  subst e;exact .inl ⟨⟨xs,q,EI _⟩,hd σ H p⟩
section
variable{X:Cx}
end
theorem fZ{n j:Nat}(h:j<n):ixN n (j:Int)=some j:=by
 unfold ixN;rw[if_pos (by omega),if_pos (by omega)]
 rfl
theorem gR:∀{ds:List PyData},(∀ d∈ds,d.canLay0=true)->PyData.canLayAll0 ds=true
 |[],_=>by simp[PyData.canLayAll0]
 |d::ds,h=>by
  rw[PyData.canLayAll0,h d (by simp),gR λx O=>h x (by simp[O])]
  rfl
theorem iR{n:Nat}:∀{ds:List PyData},(∀ d∈ds,d.depth<=n)->PyData.depthAll ds<=n
 |[],_=>by simp[PyData.depthAll]
 |d::ds,h=>by
  have J:=h d (by simp)
  have C:=iR (ds:=ds) λx O=>h x (EK _ O);rw[PyData.depthAll];omega
theorem rN{ds:List PyData}(h:∀ d∈ds,d.canLay0=true/\d.depth<=10):SeqAt.shaped (.list ds)=true:=by
 have J:=gR λd hd=>(h d hd).1;have C:=iR λd hd=>(h d hd).2;have G:PyData.depth (.list ds)<=64:=by simp only[PyData.depth];omega
 show(PyData.canLay0 (.list ds)&&decide (PyData.depth (.list ds)<=64))=true;rw[IK];exact⟨by simp only[PyData.canLay0];exact J,decide_eq_true G⟩
noncomputable def cxG(X:Cx)(scope:Scope)(fr:List (Str×Nat))(xs:List Str)(C:Addr)(ex:List Addr)(s:Shared)(H:Hp):Cx where
 prog:=X.prog
 w:=X.w
 K:=X.K
 mg:=X.mg
 base:=X.base
 A:=X.A
 N:=xs++fr.map (·.1)
 s₀:=s
 H₀:=H
 env:=compEnvC scope (clOf X.env fr) C X.env
 outer:=X.stack
 stack:=X.stack
 ex:=ex
 fn:=λ_=>false
 calm:=X.calm
 pn:=[]
 xe:=λ_ _=>False
structure bH(X:Cx)(scope:Scope)(fr:List (Str×Nat))(xs:List Str):Prop where
 clos:closureFor scope X.env=pure (clOf X.env fr)
 cell:∀ y∈scope.names,y.2≠.cell
 kind:scope.kind=.function
 names:∀ y∈scope.names,y.2=.local->scope.names.lookup y.1=some .local
 slot:∀ p∈fr,X.N[p.2]?=some p.1/\X.env.kindOf p.1=some .cell
 has:∀ y∈(relabel scope X.env).names,(y.2=.cell∨y.2=.free)->y.1∈fr.map (·.1)
 frk:∀ p∈fr,(relabel scope X.env).names.lookup p.1=some .cell
theorem bH.of{X:Cx}{scope:Scope}{fr:List (Str×Nat)}{xs:List Str}(clos:closureFor scope X.env=pure (clOf X.env fr))(cell:∀ y∈scope.names,y.2≠.cell)(kind:scope.kind=.function)(names:∀ y∈scope.names,y.2=.local->scope.names.lookup y.1=some .local)
  (slot:∀ p∈fr,X.N[p.2]?=some p.1/\X.env.kindOf p.1=some .cell) (a:∀ z∈scope.names,z.2=.free->z.1∈fr.map (·.1)) (frk:∀ p∈fr,(relabel scope X.env).names.lookup p.1=some .cell):bH X scope fr xs where
 clos:=clos
 cell:=cell
 kind:=kind
 names:=names
 slot:=slot
 has:=λz w g=>by
  obtain⟨⟨n,k⟩,i,e⟩:=FJ.mp (show z∈scope.names.map _ from w);have C:=cell _ i;dsimp only at e C;have f:z.1=n:=by rw[← e];split<;>rfl
  have j:k=.free:=by
   by_cases q:k=.free
   ·exact q
   ·have G:(k == NameKind.free)=false:=by simpa using q
    rw[G]at e;simp only[GO,G2,if_false]at e;subst e;exact(g.elim C q).elim
  have:=a _ i j;rw[f];exact this
 frk:=frk
noncomputable abbrev nons(xs:List Str):St:=ET xs.length none
section
variable{X:Cx}{pins:List (Addr×Obj)}{σ:St}{H:Hp}{s:Shared}{scope:Scope}{fr:List (Str×Nat)}{xs:List Str}
theorem bH.cells(O:bH X scope fr xs)(I:Inv X pins σ H s){y:Str}{c:Addr}(h:(clOf X.env fr).lookup y=some c):X.env.cells.lookup y=some c:=by
 obtain⟨i,e⟩:=ig h;obtain⟨p,M,j⟩:=FJ.mp i;have k:=(O.slot p M).2;rw[j]at k;obtain⟨C,u⟩:=I.ok.has y (.inl k);rw[u]at e;rw[u,e];rfl
theorem yW{fp:List Addr}(O:bH X scope fr xs)(I:Inv X pins σ H s)(j:∀ b∈fp,FpOk X pins H b)(an:∀ b∈fp,b<s.heap.objs.size){g h':Heap}{tk:Nat}(Y:g=s.heap.push (LCg.lst []))
  (A:∀ b o,g.get? b=some o->h'.get? b=some o) (hC:h'.Ns g.objs.size λ_=>none) :
  Inv (cxG X scope fr xs g.objs.size (s.heap.objs.size::fp) { s with heap:=g } H) (X.pn++pins++[(s.heap.objs.size,LCg.lst [])]) (nons xs++frOf fr σ) H { s with heap:=h',toks:=tk }:=by
 have ab:g.objs.size=s.heap.objs.size+1:=by rw[Y,Heap.size_push]
 have kp:∀ b o,s.heap.get? b=some o->g.get? b=some o:=λb o e=>by rw[Y];exact Heap.get?_push_of_some _ e
 have ap:∀ b o,s.heap.get? b=some o->h'.get? b=some o:=λb o e=>A b o (kp b o e);have a3:h'.get? s.heap.objs.size=some (LCg.lst []):=A _ _ (by rw[Y];exact Heap.get?_push_size _ rfl)
 have ac:∀ b,b<s.heap.objs.size->b≠g.objs.size:=λb e=>by rw[ab];exact Fo (Hc e)
 have aP:s.heap.objs.size≠g.objs.size:=by rw[ab];exact Fo (FV _)
 have aa:H g.objs.size=none:=I.hok.fresh (by rw[ab];exact GW _)
 have a4:H s.heap.objs.size=none:=I.hok.fresh (EI _);have cne:∀ y c,X.env.cells.lookup y=some c->c<s.heap.objs.size:=λy c e=>by
  obtain⟨v,q⟩:=I.cell y c e;exact q.lt
 have a0:∀ b,b≠X.env.locals->b∉X.fs->b∉frs X.stack:=λb J C z=>(EE.mp (I.stkSub b z)).elim J C;have aT:s.heap.objs.size∉frs X.stack:=a0 _ (Hq I.lt) (I.nofs (EI _));refine⟨⟨I.ok.mod,O.kind,I.ok.glob,I.ok.blt,EI _,?_,?_,λ_ _ z _=>(by cases z),I.ok.hd,I.ok.frames,.inl rfl,?_,?_,?_,?_,?_,?_,I.stkFree⟩,rfl,I.bare,Un.kept A,?_,?_,aa,?_,?_,I.hok.kept ap,?_⟩
 ·intro y z c J C;exact I.ok.inj y z c (O.cells I J) (O.cells I C)
 ·intro y B;have L:y∈fr.map (·.1):=by
   rcases B with B | B
   ·exact O.has (y,_) (GA B) (.inl rfl)
   ·exact O.has (y,_) (GA B) (.inr rfl)
  exact⟨_,dU L⟩
 ·intro b G;rcases EE.mp G with rfl | G
  ·exact⟨aP,λy c e=>Fo (cne y c (O.cells I e))⟩
  ·exact⟨ac b (an b G),λy c e=>(j b G).2.2.2.2.1 y c (O.cells I e)⟩
 ·intro b o e;exact⟨kp b o (I.bs b o e).1,(I.bs b o e).2⟩
 ·show X.base.objs.size<=g.objs.size;rw[ab];exact Nat.le_succ_of_le (FF I.ok.bsz I.sz)
 ·intro b o e G;rcases EE.mp G with z | G
  ·have:=Heap.lt_size (I.bs b o e).1
   rw[z]at this;exact FG _ this
  ·rcases(j b G).2.2.2.1 with z | z
   ·exact I.ok.noex b o e z
   ·exact absurd (EZ (Heap.lt_size (I.ok.bs b o e).1) z) (FG _)
 ·intro b G;rcases EE.mp G with z | G
  ·rw[z];exact aT
  ·exact a0 b (j b G).2.1 (j b G).2.2.1
 ·exact(I.kept (h':=g) (t':=s.toks) kp).stack
 ·refine⟨_,hC,λi y v T Q a=>?_⟩;have a1:(xs++fr.map (·.1))[i]?=some y:=T;by_cases f:i<xs.length
  ·rw[EH (by simpa using f)]at Q
   rw[Gb,if_pos f]at Q
   cases Q
  ·have al:(fr.map (·.1))[i-xs.length]?=some y:=by
    rw[EF (by omega)]at a1
    exact a1
   have am:(frOf fr σ)[i-xs.length]?=some (some v):=by
    rw[EF (by simp;omega)]at Q
    simpa using Q
   generalize i-xs.length=k at al am;unfold frOf at am;rw[EO]at al am
   cases q:fr[k]? with
   |none=>rw[q]at al;cases al
   |some p =>
    rw[q]at al am;have ey:p.1=y:=E8 al;have ev:(σ[p.2]?).join=some v:=E8 am;have M:p∈fr:=EC q;obtain⟨E,hK⟩:=O.slot p M;have a2:=O.frk p M;rw[ey]at E hK a2;have a5:σ[p.2]?=some (some v):=by
     cases h:σ[p.2]? with
     |none=>rw[h]at ev;cases ev
     |some w=>rw[h]at ev;exact congrArg some ev
    obtain⟨m,t,D⟩:=I.loc;obtain⟨u,r,l⟩:=D p.2 y v E a5 (.inr (.inl hK));refine⟨u,r,?_⟩;rcases l with⟨x,_⟩ | ⟨_,c,ec,z⟩
    ·rw[hK]at x;cases x
    ·have L:y∈fr.map (·.1):=by rw[← ey];exact FJ.mpr ⟨p,M,rfl⟩
     have el:=dU (env:=X.env) L;rw[ec]at el;exact .inr ⟨.inl a2,c,el,by obtain⟨o,N,hd⟩:=z;exact⟨o,ap _ _ N,hd⟩⟩
 ·intro y c e;obtain⟨v,o,N,hd⟩:=I.cell y c (O.cells I e);exact⟨v,o,ap _ _ N,hd⟩
 ·intro y c e;exact I.freeC y c (O.cells I e)
 ·intro p M;rcases ER.mp M with M | M
  ·cases M
  ·rcases ER.mp M with M | M
   ·obtain⟨e,n,ne,nf,d⟩:=I.pin p M;exact⟨ap _ _ e,n,ac _ (Heap.lt_size e),a0 _ ne nf,d⟩
   ·have ep:p=(s.heap.objs.size,LCg.lst []):=by simpa using M
    subst ep;exact⟨a3,a4,aP,aT,λv z=>by cases z⟩
 ·show(nons xs++frOf fr σ).length=(xs++fr.map (·.1)).length;unfold frOf;simp
theorem je{fp:List Addr}{g:Heap}{s':Shared}{H':Hp}{σ':St}{ys:List V}{us:List Value}(I:Inv X pins σ H s)(p:∀ b∈fp,FpOk X pins H b)(L:g=s.heap.push (LCg.lst []))
  (J:Inv (cxG X scope fr xs g.objs.size (s.heap.objs.size::fp) { s with heap:=g } H) (X.pn++pins++[(s.heap.objs.size,LCg.lst us)]) σ' H' s') (B:Vals ys us) (hl:ys.length<=sizeLine) :
  Inv X pins σ (upd H' s.heap.objs.size (.lst ys)) s'/\H' s.heap.objs.size=none/\FpOk X pins (upd H' s.heap.objs.size (.lst ys)) g.objs.size/\∃ m,s'.heap.Ns g.objs.size m:=by
 have r:g.objs.size=s.heap.objs.size+1:=by rw[L,Heap.size_push]
 have y:∀ b o,s.heap.get? b=some o->g.get? b=some o:=λb o e=>by rw[L];exact Heap.get?_push_of_some _ e
 obtain⟨l,E,_,_,_⟩:=J.pin (s.heap.objs.size,LCg.lst us) (by simp)
 have i:g.objs.size≠s.heap.objs.size:=by rw[r];exact Hq (FV _)
 have h:∀ b u,H' b=some u->b≠s.heap.objs.size:=λb u e z=>by rw[z]at e;rw[e]at E;cases E
 have O:∀ b o,s.heap.get? b=some o->b∉fp->b∉s.heap.objs.size::fp:=λb o e G z=>by
  rcases EE.mp z with z | z
  ·have:=Heap.lt_size e
   rw[z]at this;exact FG _ this
  ·exact G z
 have k:Un (frs X.stack) (s.heap.objs.size::fp) H H' g s'.heap:=J.base;have t:∀ b o,s.heap.get? b=some o->b≠s.heap.objs.size:=λb o e=>Fo (Heap.lt_size e);have un:Un (frs X.stack) fp H (upd H' s.heap.objs.size (.lst ys)) s.heap s'.heap:=by
  refine⟨λb o e n G j=>k.keep b o (y b o e) n G (O b o e j),λb o e n G j=>k.slot b o (y b o e) n G (O b o e j),λb o e n j=>?_,λb o e j=>k.there b o (y b o e) (O b o e j),λb xs e=>?_,λb o u e=>?_,λb d e=>?_⟩
  ·rw[ao (t b o e)];exact k.free b o (y b o e) n (O b o e j)
  ·have q:=k.tups b xs e
   rw[ao (h b _ q)];exact q
  ·have q:=k.frzs b o u e
   rw[ao (h b _ q)];exact q
  ·obtain⟨a,q⟩:=k.tbls b d e;exact⟨a,by rw[ao (h b _ q)];exact q⟩
 have Y:HOk X.prog X.w (upd H' s.heap.objs.size (.lst ys)) s'.heap:=λb u e=>by
  by_cases G:b=s.heap.objs.size
  ·rw[G,af]at e
   cases e
   rw[G];exact⟨hl,us,us.length,B,l⟩
  ·rw[ao G]at e;exact(J.hok b u e).stay (λc v _ q=>q) (λc q=>by rw[ao (h c _ q)];exact q) λc xs q=>by rw[ao (h c _ q)];exact q
 have os:s'.os=s.os:=J.os;refine⟨I.call' os un Y J.bare λb G=>⟨(p b G).2.2.2.1,(p b G).2.1,(p b G).2.2.2.2⟩,E,?_,?_⟩
 ·refine I.fpOk (H':=upd H' s.heap.objs.size (.lst ys)) (b:=g.objs.size) (by rw[r];exact GW _) ?_
  rw[ao i];exact J.free
 ·obtain⟨m,f,_⟩:=J.loc;exact⟨m,f⟩
end
noncomputable def PTs(X:Cx)(o:List Expr)(t:TT):Prop :=
 ∀(B:List (Addr×Obj))(s:Shared)(Y:St)(H:Hp)(Q:Bool->Hp->Prop),Inv X B Y H s->t Y H Q ->
  wpAny (model X.prog X.w) X.A (forIn o true λc r=>if r=true then do let ok ← isTrue c X.env (eval c X.env);pure (ForInStep.yield ok) else pure (ForInStep.yield r)) (λb g=>∃ j,Inv X B Y j g/\Q b j) X.xe s
noncomputable def tYes:TT:=λ_ H Q=>Q true H
theorem bg{X:Cx}:PTs X [] tYes:=λ_ _ _ H _ I h=>wpAny_tests_nil ⟨H,I,h⟩
theorem nW{X:Cx}{c:Expr}{t:TT}(h:PT X c t):PTs X [c] t:=λB s Y H Q I q=>wpAny_tests_one (h B s Y H Q I q)
section
variable{prog:Program}{w:World}{A:Around}{s:Shared}
theorem zV{i a d:Expr}{o:List Expr}{scope:Scope}{pos:Pos}{it k:Value}{env:Env}{R:Result->Shared->Prop}(I:Nat->Shared->Prop)
  (turn:∀ n s,I n s->wpAny (model prog w) A (pyNext it) (λr z=>match r with
   |none=>R (.ok .next) z
   |some v=>wpAny (model prog w) A (letOwnedTupleGo a it v) (λ_ s₀=>wpAny (model prog w) A (assign a env v) (λ_ s₂ =>
     wpAny (model prog w) A (forIn o true λc r=>if r=true then do let ok ← isTrue c env (eval c env);pure (ForInStep.yield ok) else pure (ForInStep.yield r)) (λok b=>if ok=true then wpAny (model prog w) A (eval i env) (λx l =>
      wpAny (model prog w) A (call (.builtin "list.append") [k,x]) (λ_ p=>∃ m,m<n/\I m p) (notedBy (model prog w) A env λe s'=>R (.error e) s') l) (notedBy (model prog w) A env λe s'=>R (.error e) s') b
      else ∃ m,m<n/\I m b) (notedBy (model prog w) A env λe s'=>R (.error e) s') s₂)
     (notedBy (model prog w) A env λe s'=>R (.error e) s') s₀) (notedBy (model prog w) A env λe s'=>R (.error e) s') z) (notedBy (model prog w) A env λe s'=>R (.error e) s') s)
  (n:Nat) (h:I n s):codeAny (model prog w) A (.compLoop (.ListComp i [⟨a,d,o,0⟩] scope pos) 0 it k env) R s:=by
 refine codeAny_loop rfl I (λn s H=>?_) n h;show wpAny _ A ((compTurn (.ListComp i [⟨a,d,o,0⟩] scope pos) 0 it k env).onRaise (λx=>do noteFrame x env;theTreesLotGoes x)) _ _ s
 refine wpAny_noted ?_;rw[compTurn_list];refine wpAny_bind (wpAny_standAt (wpAny_bind (wpAny_mono (turn n s H) (λr z j=>?_) λ_ _ G=>G)))
 cases r with
 |none=>exact wpAny_pure j
 |some v =>
  refine wpAny_bind (wpAny_mono j (λ_ s₀ q=>?_) λ_ _ G=>G);refine wpAny_bind (wpAny_mono q (λ_ s₂ f=>?_) λ_ _ G=>G);refine wpAny_bind (wpAny_mono f (λy b g=>?_) λ_ _ G=>G)
  cases y with
  |false=>exact wpAny_pure ⟨rfl,g⟩
  |true=>exact wpAny_bind (wpAny_bind (wpAny_mono g (λx l t=>wpAny_bind (wpAny_mono t (λ_ p u=>wpAny_pure (wpAny_pure ⟨rfl,u⟩)) λ_ _ G=>G)) λ_ _ G=>G))
end
noncomputable def eO(g:TG)(tt:TT)(te:TE)(n:Nat)(A:St)(J:It)(H1:Hp)(QQ:List V->Hp->Prop):Prop :=
 ∃ W:Nat->Nat->List V->Hp->Prop,(∃ m,W 0 m [] H1)/\∀ i m v H,W i m v H->v.length<=sizeLine /\
  ((J.stop i H/\QQ v H)∨(J.go i H/\∃ N:List V->Hp->Prop,(∀ o u,N o u->∃ d,d<m/\W (i+1) d o u) /\
   ∀ x j,J.yld i H x j->g x (ET n none++A) j λf u=>f.drop n=A/\tt f u λb e=>if b=true then te f e (λy s=>N (v++[y]) s) else N v e))
section
variable{X:Cx}{scope:Scope}{fr:List (Str×Nat)}{xs:List Str}{elt iter tg:Expr}{ifs:List Expr}{pos:Pos}{te:TE}{tt:TT}{tgt:TG}{wi:TI}
noncomputable def tCompE(wi:TI)(g:TG)(tt:TT)(te:TE)(n:Nat)(fr:List (Str×Nat)):TE:=λY H Q=>wi Y H λJ O=>eO g tt te n (frOf fr Y) J O λv u=>∀ D,u D=none->Q (.ref D) (upd u D (.lst v))
noncomputable def xk(i:Nat)(wi:TI)(g:TG)(tt:TT)(te:TE)(n:Nat)(fr:List (Str×Nat)):TS:=λD Y H=>wi Y H λJ O=>eO g tt te n (frOf fr Y) J O λv u=>∀ a,u a=none->D.nx (Y.set i (some (.ref a))) (upd u a (.lst v))
end
theorem nh{K:ED}{a:Addr}{xs:List V}{g:TG}{tt:TT}{te:TE}{n:Nat}{A:St}{H1:Hp}{QQ:List V->Hp->Prop}(Pv:Nat->List V->Hp->Prop)(hz:xs.length<=sizeLine)(u:Pv 0 [] H1)(hl:∀ i ys H,i<=xs.length->Pv i ys H->SqL K H a xs)
  (J:∀ i x ys H,xs[i]?=some x->Pv i ys H->g x (ET n none++A) H λf H2=>f.drop n=A/\tt f H2 λb H3=>if b=true then te f H3 (λy s=>Pv (i+1) (ys++[y]) s) else Pv (i+1) ys H3) (hd:∀ ys H,Pv xs.length ys H->QQ ys H) (B:∀ i ys H,Pv i ys H->ys.length<=i)
  : eO g tt te n A (Itl K a) H1 QQ:=by
 refine⟨λi m ys H=>m=xs.length-i/\i<=xs.length/\Pv i ys H,⟨xs.length,by simp,FT _,u⟩,?_⟩
 rintro i m ys H ⟨rfl,I,p⟩;have q:=hl i ys H I p;have d:=B i ys H p;refine⟨by omega,?_⟩
 by_cases E:i<xs.length
 ·refine .inr ⟨⟨xs,xs[i],q,by simp[E]⟩,λo H2=>Pv (i+1) o H2,λo H2 r=>⟨xs.length-(i+1),by omega,rfl,E,r⟩,λx j y=>?_⟩
  obtain⟨e,y⟩:=y;subst e;exact J i x ys _ (y xs q) p
 ·have e:i=xs.length:=by omega
  subst e;exact .inl ⟨⟨xs,q,EI _⟩,hd ys H p⟩
theorem gc{lo:Int}{k:Nat}{g:TG}{tt:TT}{te:TE}{n:Nat}{A:St}{H1:Hp}{QQ:List V->Hp->Prop}(Pv:Nat->List V->Hp->Prop)(hz:k<=sizeLine)(u:Pv 0 [] H1)
  (J:∀ i ys H,i<k->Pv i ys H->g (.int (lo+i)) (ET n none++A) H λf H2=>f.drop n=A/\tt f H2 λb H3=>if b=true then te f H3 (λy s=>Pv (i+1) (ys++[y]) s) else Pv (i+1) ys H3) (hd:∀ ys H,Pv k ys H->QQ ys H) (B:∀ i ys H,Pv i ys H->ys.length<=i)
  : eO g tt te n A (Itr lo k) H1 QQ:=by
 refine⟨λi m ys H=>m=k-i/\i<=k/\Pv i ys H,⟨k,by simp,FT _,u⟩,?_⟩
 rintro i m ys H ⟨rfl,I,p⟩;have d:=B i ys H p;refine⟨by omega,?_⟩
 by_cases E:i<k
 ·refine .inr ⟨E,λo H2=>Pv (i+1) o H2,λo H2 r=>⟨k-(i+1),by omega,rfl,E,r⟩,λx j y=>?_⟩
  obtain⟨e,y⟩:=y;subst e y;exact J i ys _ E p
 ·have e:i=k:=by omega
  subst e;exact .inl ⟨EI _,hd ys H p⟩
theorem wD{K:ED}{a:Addr}{xs:List V}{g:TG}{tt:TT}{te:TE}{n:Nat}{A:St}{H1:Hp}{QQ:List V->Hp->Prop}(Pv:Nat->List V->Hp->Prop)(hz:xs.length<=sizeLine)(u:Pv 0 [] H1)(hl:∀ i ys H,i<=xs.length->Pv i ys H->SqL K H a xs)
  (J:∀ i x ys H T,xs[i]?=some x->Pv i ys H->H T=none->g (.ref T) (ET n none++A) (upd H T (.tup [.int (i:Int),x])) λf H2=>f.drop n=A/\tt f H2 λb H3=>if b=true then te f H3 (λy s=>Pv (i+1) (ys++[y]) s) else Pv (i+1) ys H3) (hd:∀ ys H,Pv xs.length ys H->QQ ys H) (B:∀ i ys H,Pv i ys H->ys.length<=i)
  : eO g tt te n A (Ite K a) H1 QQ:=by
 refine⟨λi m ys H=>m=xs.length-i/\i<=xs.length/\Pv i ys H,⟨xs.length,by simp,FT _,u⟩,?_⟩
 rintro i m ys H ⟨rfl,I,p⟩;have q:=hl i ys H I p;have d:=B i ys H p;refine⟨by omega,?_⟩
 by_cases E:i<xs.length
 ·refine .inr ⟨⟨xs,xs[i],q,by simp[E]⟩,λo H2=>Pv (i+1) o H2,λo H2 r=>⟨xs.length-(i+1),by omega,rfl,E,r⟩,λv j y=>?_⟩
  obtain⟨T,x,M,rfl,rfl,y⟩:=y;exact J i x ys _ T (y xs q) p M
 ·have e:i=xs.length:=by omega
  subst e;exact .inl ⟨⟨xs,q,EI _⟩,hd ys H p⟩
section
variable{X:Cx}{K:ED}{pos:Pos}
theorem jd(h:X.K=K):IxR X (rIxL K):=h▸aD
theorem lK(h:X.K=K):IxR X (rIxT K):=h▸aK
theorem sq{es:List Expr}{k:Nat}{t:TGs}{n:Nat}(u:X.K=K)(l:X.calm=true)(h:PGs X es t)(f:(assignEach es X.env).length=n:=by rfl)(z:(assignEach es X.env).findIdx? (·.1)=none:=by rfl):PG X (.Tuple es k pos) (gTup K n t):=u▸mX l h f z
theorem nj(h:X.K=K):jq X (.type "list") (λxs H Q=>∃ p ys,xs = [.ref p]/\(SqL K H p ys∨SqT K H p ys)/\∀ l,H l=none->Q (.ref l) (upd H l (.lst ys))):=h▸eF
theorem sv{e:Expr}{f:Str}{w:TE}(h:X.K=K)(j:PE X e w)(G:attributeBase e f X.env (eval e X.env)=eval e X.env):PE X (.Attribute e f pos) (tFld K w f):=h▸bW j G
end
section
variable{X:Cx}
noncomputable def Dd:V->List V->Hp->VK->Prop:=λx N H Q=>∃ l M k y,x=.ref l/\N = [.int k,y]/\H l=some (.lst M)/\0<=k/\k<=M.length/\M.length<sizeLine/\Q .non (upd H l (.lst (M.take k.toNat++y::M.drop k.toNat)))
theorem qo:MtM X "list.insert" Dd:=by
 intro B s Y H x N v d Q I T O h;obtain⟨l,M,k,y,rfl,rfl,j,u,g,i,q⟩:=h
 cases T
 obtain⟨w,a,rfl,C,J⟩:=O.two;obtain⟨t,rfl⟩:=C;obtain⟨z,A,n,r,D,e⟩:=I.lstM j;have f:=m7;have b:¬ (!Builtin.List.listFitsIndex k)=true:=by
  rw[fitsIndex_both (by omega) (by omega)]
  exact Fd
 refine call_meets F.slot_list_insert ⟨_,e,rfl⟩ F.entry_list_insert (F.args_list_insert_3 _ _ _) (AutoListH.list_insert_list_int_val_1 l A.toArray n k t a b (by rw[E9];omega)) ⟨e,?_⟩
 refine⟨.non,_,I.lset (its':=A.take k.toNat++a::A.drop k.toNat) j e ?_ ((r.take _).append (.cons J (r.drop _))) ?_,rfl,q⟩
 ·dsimp only;rw[if_neg (by omega),E9,G7 (by omega)]
  simp;exact FX (by rw[Ge];omega)
 ·rw[EG,E7,Fy,Ge];omega
theorem kA:∀{ns:List Int}{us:List Value},Vals (ns.map V.int) us->IntsAre us ns
 |[],_,.nil=>.nil
 |n::ns,_,.cons r b=>by
  obtain⟨t,rfl⟩:=r;exact .cons n t (kA b)
theorem BV(l:X.calm=true):jq X (.builtin "sum") (λxs H Q=>∃(p:Addr)(ns:List Int),xs = [.ref p]/\SqL X.K H p (ns.map V.int)/\Q (.int ns.sum) H):=by
 intro B s Y H xs d Q I r h;obtain⟨p,ns,rfl,T,q⟩:=h;obtain⟨u,rfl,z⟩:=pH r
 cases z
 obtain⟨A,O,L,i⟩:=I.list T;have f:=kA O;obtain⟨o,e⟩:=f.allInts.items;have j:(numsOf A)=ns:=f.numsOf;have D:s.heap.IsList p (intItems o):=by rw[← e];exact L.isList
 refine sum_intListG (I.ok.hd l) D λG m t' g=>⟨.int ns.sum,H,I.kept (t':=m) g,⟨t',?_⟩,q⟩;have C:numsOf (intItems o).toList=ns:=by rw[← e];exact j
 rw[nums_intItems]at C;rw[preSum_eq,FX (by simp),← C]
end
theorem kK:∀{ps:List Nat},(∀ p∈ps,p<1000)->PyData.weightAll ((ps.map λ(p:Nat)=>((p:Nat):Int)).map PyData.int)<=12*ps.length
 |[],_=>by simp[PyData.weightAll]
 |p::ps,h=>by
  have Y:=kK (ps:=ps) λx O=>h x (EK _ O);have M:=h p (by simp)
  have c:PyData.weight (.int (p:Int))<=11:=by
   rw[PyData.weight];split
   ·exact FT _
   ·rename_i z;have d:p≠0:=λe=>z (by rw[e];rfl)
    have e:((p:Int)).natAbs=p:=rfl;rw[e];have:=(Nat.log2_lt d).mpr (show p<2^10 by omega)
    omega
  rw[E6,E6,PyData.weightAll,E7];omega
theorem Bt{ps:List Nat}(h:∀ p∈ps,p<1000)(hl:ps.length<=1000):PyData.layable0 (.list ((ps.map λ(p:Nat)=>((p:Nat):Int)).map PyData.int))=true:=by
 have J:=PySem.W.shaped_ints (ps.map λ(p:Nat)=>((p:Nat):Int));have C:=kK h;have G:PyData.weight (.list ((ps.map λ(p:Nat)=>((p:Nat):Int)).map PyData.int))<=2^20:=by
  rw[PyData.weight];ac_rfl
 unfold PyData.layable0;unfold SeqAt.shaped at J;rw[J,decide_eq_true G];rfl
section
variable{X:Cx}
noncomputable def rIndex(K:ED):V->List V->Hp->VK->Prop:=λx N H Q=>∃(l:Addr)(d:List Nat)(k:Nat),x=.ref l/\N = [.int (k:Int)]/\SqL K H l (d.map λ(p:Nat)=>V.int (p:Int))/\(∀ p∈d,p<1000)/\d.length<=1000/\k∈d/\Q (.int ((d.idxOf k:Nat):Int)) H
theorem By{ps:List Nat}{k:Nat}:(ps.map λ(p:Nat)=>((p:Nat):Int)).idxOf (k:Int)=ps.idxOf k:=by
 induction ps with
 |nil=>rfl
 |cons p ps Y =>
  rw[E6,List.idxOf_cons,List.idxOf_cons,Y];have e:(((p:Nat):Int) == (k:Int))=(p == k):=by
   by_cases h:p=k
   ·subst h;simp
   ·have C:¬ (p:Int)=(k:Int):=λz=>h (by omega)
    rw[beq_eq_false_iff_ne.mpr h,beq_eq_false_iff_ne.mpr C]
  rw[e]
theorem u9:MtM X "list.index" (rIndex X.K):=by
 intro B s Y H x N v d Q I c O h;obtain⟨l,E,k,rfl,rfl,T,J,D,g,q⟩:=h
 cases c
 obtain⟨u,rfl,z⟩:=O.one;obtain⟨t,rfl⟩:=z;have e:(E.map λ(p:Nat)=>V.int (p:Int))=(E.map λ(p:Nat)=>((p:Nat):Int)).map V.int:=by rw[Hs];rfl
 rw[e]at T;obtain⟨A,r,L,i⟩:=I.list T;refine index_list_ints L.isList (kA r) (Bt J D) (FJ.mpr ⟨k,g,rfl⟩) ?_;rw[By];exact⟨.int _,H,I.tok _,⟨_,rfl⟩,q⟩
end
theorem wX:∀{us:List Value}{ns:List Int},IntsAre us ns->Vals (ns.map V.int) us
 |_,_,.nil=>.nil
 |_,_,.cons _ t r=>.cons ⟨t,rfl⟩ (wX r)
section
variable{X:Cx}
end
theorem qW:bootBuiltins "min" = some (.builtin "min"):=by decide
theorem z8:bootBuiltins "max" = some (.builtin "max"):=by decide
section
variable{X:Cx}
noncomputable def rCatS(K:ED):R2:=λx y H Q=>∃ l b M o,x=.ref l/\y=.ref b/\SqL K H l M/\SqL K H b o/\M.length+o.length<=sizeLine/\∀ p,H p=none->Q (.ref p) (upd H p (.lst (M++o)))
theorem lC:OpR X (binaryOp .Add) (rCatS X.K):=by
 intro B s Y H x y v u Q I c m h;obtain⟨l,b,M,o,rfl,rfl,j,e,i,q⟩:=h
 cases c
 cases m
 obtain⟨A,r,D,_⟩:=I.list j;obtain⟨d,J,z,_⟩:=I.list e;obtain⟨⟨cls,O,G,f⟩,N,E,n,hd⟩:=D.isList;obtain⟨⟨aa,k,data2,C⟩,p,t,a,g⟩:=z.isList;simp only at E hd t g;subst E hd t g;have w:A.toArray++d.toArray=(A++d).toArray:=by simp
 have T:=r.length;have L:=J.length;refine concat_meets ⟨_,N,rfl⟩ ⟨_,p,rfl⟩ noFill_list_add seq_list_add PySem.F.slot_list_add PySem.F.entry_list_add (PySem.F.args_list_add_2 _ _) (list_addW l b A.toArray d.toArray n a O k f C (by rw[E9,E9];omega)) ⟨N,p,?_⟩
 rw[w];exact⟨.ref _,_,I.lnew (t':=s.toks) (r.append J) (by rw[EG];omega),rfl,q _ I.fresh⟩
theorem uZ:∀{ns:List Int}{us:List Value},Vals (ns.map V.int) us->IntsAre us ns
 |[],_,.nil=>.nil
 |n::ns,_,.cons r b=>by
  obtain⟨t,rfl⟩:=r;exact .cons n t (uZ b)
end
theorem yesT{σ:St}{H:Hp}{A B:Hp->Prop}(h:A H):tYes σ H λb H3=>if b=true then A H3 else B H3 :=
 show(if true=true then A H else B H) from iteT (B:=B H) h
theorem bt_zip:bootBuiltins "zip" = some (.type "zip"):=by decide
noncomputable def Itz(K:ED)(a b:Addr):It :=
 ⟨λi H=>∃ M I x y,SqL K H a M/\SqL K H b I/\M[i]?=some x/\I[i]?=some y,
  λi H v j=>∃ T x y,H T=none/\v=.ref T/\j=upd H T (.tup [x,y])/\(∀ M,SqL K H a M->M[i]?=some x)/\∀ I,SqL K H b I->I[i]?=some y,
  λi H=>∃ M I,SqL K H a M/\SqL K H b I/\(M.length<=i∨I.length<=i)⟩
theorem As{P:Program}{w:World}{K:ED}{es:List Expr}{k:Nat}{pos:Pos}(a b z TI TO i1 i2:Addr)(D:ZipApart z TI TO i1 i2 a b):Turn P w K (.Tuple es k pos) (Itz K a b) [z,TI,TO,i1,i2] z
  (λi h=>IsZip h z TI TO .none/\IsPair h TI (.ref i1) (.ref i2)/\(∃ u v,IsPair h TO u v)/\h.IsListIter i1 a i/\h.IsListIter i2 b i) where
 mem:=by simp
 obj:=λi h st c l=>by
  obtain⟨kz,kI,⟨u,v,kO⟩,⟨o1,n,c1,d1⟩,⟨o2,q2,c2,d2⟩⟩:=st;simp only[EE,E5,or_false]at l;rcases l with rfl | rfl | rfl | rfl | rfl
  ·exact⟨_,kz,λv z=>by have z':Data.fields _=Data.cell v:=z;cases z'⟩
  ·exact⟨_,kI,λv z=>by have z':Data.seq _ _=Data.cell v:=z;cases z'⟩
  ·exact⟨_,kO,λv z=>by have z':Data.seq _ _=Data.cell v:=z;cases z'⟩
  ·exact⟨o1,n,λv z=>by rw[d1]at z;cases z⟩
  ·exact⟨o2,q2,λv z=>by rw[d2]at z;cases z⟩
 keep:=λi h h' st J=>by
  obtain⟨kz,kI,⟨u,v,kO⟩,k1,k2⟩:=st;exact⟨J _ (by simp) _ kz,J _ (by simp) _ kI,⟨u,v,J _ (by simp) _ kO⟩,k1.at λo q=>J i1 (by simp) o q,k2.at λo q=>J i2 (by simp) o q⟩
 item:=by
  intro X hP hw hK l i B s Y H E I G st Q;subst hP hw hK;obtain⟨M,t,x,y,T,L,O,m⟩:=Q;obtain⟨A,rv,p,hz⟩:=I.list T;obtain⟨aa,am,p2,aT⟩:=I.list L;obtain⟨u,hu,ru⟩:=rv.get O;obtain⟨u2,a0,aP⟩:=am.get m;obtain⟨kz,kI,⟨o1,o2,kO⟩,k1,k2⟩:=st;refine wpAny_pyNext_zip_item D kz kI kO k1 k2 p.isList p2.isList (x:=u) (y:=u2) (by simpa using hu) (by simpa using a0) λh' j a2 a3 a4 a5 a6 g=>?_
  refine⟨_,rfl,?_⟩;refine wpAny_letOwnedTupleGo_zip j λC g1 al=>?_;have ac:Heap.SameBut z h' C:=al;have lz:z<s.heap.objs.size:=Heap.lt_size kz;have lI:TI<s.heap.objs.size:=Heap.lt_size kI;have lO:TO<s.heap.objs.size:=Heap.lt_size kO;have l1:i1<s.heap.objs.size:=by obtain⟨_,q,_⟩:=k1;exact Heap.lt_size q
  have l2:i2<s.heap.objs.size:=by obtain⟨_,q,_⟩:=k2;exact Heap.lt_size q
  have ab:H s.heap.objs.size=none:=I.hok.fresh (EI _);have I0:Inv X B Y (upd H s.heap.objs.size (.tup [x,y])) { s with heap:=s.heap.push { cls:=.type "tuple",data:=.seq #[u,u2] },toks:=s.toks } :=
   I.laid (t':=s.toks) (λb u e=>Heap.get?_push_of_some _ e) (EI _) ⟨by show 2<=sizeLine;decide,[u,u2],.cons ru (.cons aP .nil),⟨_,Heap.get?_push_size _ rfl,rfl,_,rfl⟩⟩
  have ap:∀ c∈[z,TI,TO,i1,i2],c<s.heap.objs.size:=λc l=>by
   simp only[EE,E5,or_false]at l;rcases l with rfl | rfl | rfl | rfl | rfl<;>assumption
  have r:∀ c∈[z,TI,TO,i1,i2],upd H s.heap.objs.size (.tup [x,y]) c=none:=λc l=>by
   rw[ao (Fo (ap c l))];exact(G c l).1
  have I2:Inv X B Y (upd H s.heap.objs.size (.tup [x,y])) { s with heap:=C,toks:=s.toks }:=Inv.turnedL (s:={ s with heap:=s.heap.push { cls:=.type "tuple",data:=.seq #[u,u2] },toks:=s.toks }) (h':=C) I0 (t':=s.toks) (fp:=[z,TI,TO,i1,i2]) (λc o l q=>by
   have n1:c≠z:=λe=>l (by simp[e])
   have n3:c≠TO:=λe=>l (by simp[e])
   have n4:c≠i1:=λe=>l (by simp[e])
   have n5:c≠i2:=λe=>l (by simp[e])
   refine(ac.2 c n1).trans ?_;rcases Heap.get?_push_cases q with⟨z1,N⟩ | q
   ·rw[z1,N];exact a5
   ·exact g c o n1 n3 n4 n5 q) λc l=>⟨r c l,(G c l).2⟩
  refine⟨.ref s.heap.objs.size,_,I2,rfl,⟨s.heap.objs.size,x,y,ab,rfl,rfl,λf h=>by rw[I.list_inj h T];exact O,λf h=>by rw[I.list_inj h L];exact m⟩,?_,r⟩
  refine⟨g1,(ac.2 TI D.TIz).trans (g _ _ D.TIz D.TITO D.TIi1 D.TIi2 kI),⟨_,_,(ac.2 TO D.TOz).trans a2⟩,a3.at λo q=>(ac.2 i1 D.i1z).trans q,a4.at λo q=>(ac.2 i2 D.i2z).trans q⟩
 done:=by
  intro X hP hw hK l i B s Y H E I G st Q;subst hP hw hK;obtain⟨M,t,T,L,O⟩:=Q;obtain⟨A,rv,p,hz⟩:=I.list T;obtain⟨aa,am,p2,aT⟩:=I.list L;obtain⟨kz,kI,⟨o1,o2,kO⟩,k1,k2⟩:=st;have d:=rv.length;have an:=am.length;refine wpAny_pyNext_zip_end (I.ok.hd l) D kz kI kO k1 k2 p.isList p2.isList ?_ λh' eb=>⟨rfl,Inv.turnedL I (t':=s.toks) (λc o l e=>eb c o (λe=>l (by simp[e])) (λe=>l (by simp[e])) (λe=>l (by simp[e])) (λe=>l (by simp[e])) e) G⟩
  rcases O with O | O
  ·exact .inl (by simp;omega)
  ·exact .inr (by simp;omega)
 self:=λ_ _ _ _ _ st h=>wpAny_pyIter_zip st.1 h
theorem cQ(x y:Nat)(h:¬ x=y):@Ne Addr x y:=h
theorem wK(n a b:Nat)(E:a<n)(G:b<n):ZipApart (n+4) (n+2) (n+3) n (n+1) a b :=
 ⟨cQ _ _ (by omega),cQ _ _ (by omega),cQ _ _ (by omega),cQ _ _ (by omega),cQ _ _ (by omega),cQ _ _ (by omega),cQ _ _ (by omega),cQ _ _ (by omega),cQ _ _ (by omega),
  cQ _ _ (by omega),cQ _ _ (by omega),cQ _ _ (by omega),cQ _ _ (by omega),cQ _ _ (by omega),cQ _ _ (by omega),cQ _ _ (by omega),cQ _ _ (by omega),cQ _ _ (by omega)⟩
section
variable{X:Cx}
noncomputable def iZip(K:ED)(w:TA):TI:=λY H R=>w Y H λN O=>∃ a b,N = [.ref a,.ref b]/\(∃ M,SqL K O a M)/\(∃ v,SqL K O b v)/\R (Itz K a b) O
theorem pi_zip{l1 t:Expr}{w:TA}{es:List Expr}{k:Nat}{tp p pos:Pos} (D:Gl X "zip") (i:X.mg "zip" = none) (E:PA X [l1,t] w) (J:starEach [l1,t] X.env=(false,eval l1 X.env)::starEach [t] X.env:=by rfl) (ab:(backTo pos (starEach [t] X.env)).any (·.1)=false:=by rfl) :
  PI X (.Tuple es k tp) (.Call (.Name "zip" p) [l1,t] [] pos) (iZip X.K w):=by
 intro B s Y H R I h;refine Call_ (eh I D i bt_zip (PyProof.Rows.callWith_type1 (thn (E pos B s Y H _ I h) λd m ⟨N,O,y,C,n⟩=>?_) J ab));obtain⟨a,b,e,⟨M,T⟩,⟨v,L⟩,q⟩:=n;subst e;obtain⟨u,u2,rfl,z,am⟩:=wY C
 cases z
 cases am
 obtain⟨A,Q,p,f⟩:=y.list T;obtain⟨o,al,r,an⟩:=y.list L;have la:a<m.heap.objs.size:=by obtain⟨_,_,q,_⟩:=p;exact Heap.lt_size q
 have lb:b<m.heap.objs.size:=by obtain⟨_,_,q,_⟩:=r;exact Heap.lt_size q
 refine call_zip_2 p.isList r.isList λG kz kI kO x j aa g=>?_;refine wpAny_pyIter_zip kz ?_
 refine⟨m.heap.objs.size+4,[m.heap.objs.size+4,m.heap.objs.size+2,m.heap.objs.size+3,m.heap.objs.size,m.heap.objs.size+1],_,_,O,rfl,y.kept (t':=m.toks) g,
  As a b (m.heap.objs.size+4) (m.heap.objs.size+2) (m.heap.objs.size+3) m.heap.objs.size (m.heap.objs.size+1) (wK _ a b la lb),⟨kz,kI,⟨_,_,kO⟩,x,j⟩,λc l=>?_,q⟩
 have ac:m.heap.objs.size<=c:=by
  simp only[EE,E5,or_false]at l;rcases l with rfl | rfl | rfl | rfl | rfl
  ·exact HR _ _
  ·exact HR _ _
  ·exact HR _ _
  ·exact EI _
  ·exact HR _ _
 exact y.fpOk ac (y.hok.fresh ac)
end
theorem zW{K:ED}{a b:Addr}{xs zs:List V}{g:TG}{tt:TT}{te:TE}{n:Nat}{A:St}{H1:Hp}{QQ:List V->Hp->Prop}(Pv:Nat->List V->Hp->Prop)(hz:xs.length<=sizeLine)(o:zs.length=xs.length)(u:Pv 0 [] H1)(hl:∀ i ys H,i<=xs.length->Pv i ys H->SqL K H a xs/\SqL K H b zs)
  (J:∀ i x z ys H T,xs[i]?=some x->zs[i]?=some z->Pv i ys H->H T=none->g (.ref T) (ET n none++A) (upd H T (.tup [x,z])) λf H2=>f.drop n=A/\tt f H2 λb H3=>if b=true then te f H3 (λy s=>Pv (i+1) (ys++[y]) s) else Pv (i+1) ys H3) (hd:∀ ys H,Pv xs.length ys H->QQ ys H) (B:∀ i ys H,Pv i ys H->ys.length<=i)
  : eO g tt te n A (Itz K a b) H1 QQ:=by
 refine⟨λi m ys H=>m=xs.length-i/\i<=xs.length/\Pv i ys H,⟨xs.length,by simp,FT _,u⟩,?_⟩
 rintro i m ys H ⟨rfl,I,p⟩;have q:=hl i ys H I p;have d:=B i ys H p;refine⟨by omega,?_⟩
 by_cases E:i<xs.length
 ·have h:i<zs.length:=by omega
  refine .inr ⟨⟨xs,zs,xs[i],zs[i],q.1,q.2,by simp[E],by simp[h]⟩,λzs H2=>Pv (i+1) zs H2,λzs H2 r=>⟨xs.length-(i+1),by omega,rfl,E,r⟩,λv j y=>?_⟩
  obtain⟨T,x,z,M,rfl,rfl,c,t⟩:=y;exact J i x z ys _ T (c xs q.1) (t zs q.2) p M
 ·have e:i=xs.length:=by omega
  subst e;exact .inl ⟨⟨xs,zs,q.1,q.2,.inl (EI _)⟩,hd ys H p⟩
section
variable{X:Cx}
noncomputable def rMinL(K:ED):List V->Hp->VK->Prop:=λM H Q=>∃(p:Addr)(t:List Int),M = [.ref p]/\SqL K H p (t.map V.int)/\0<t.length/\∀ m:Int,m∈t->(∀ x∈t,m<=x)->Q (.int m) H
theorem qV(l:X.calm=true):jq X (.builtin "min") (rMinL X.K):=by
 intro B s Y H M b Q I r h;obtain⟨p,c,rfl,d,N,q⟩:=h;obtain⟨u,rfl,z⟩:=pH r
 cases z
 obtain⟨A,O,L,i⟩:=I.list d;have f:=uZ O;obtain⟨o,e⟩:=f.allInts.items;have D:s.heap.IsList p (intItems o):=by rw[← e];exact L.isList
 have T:c=o.toList.map (·.1):=by
  rw[← nums_intItems,← e];exact(show numsOf A.toArray.toList=c from f.numsOf).symm
 subst T;rw[EJ,Gs]at N;refine min_intList (I.ok.hd l) D N λv G m w g=>?_;obtain⟨t,rfl⟩:=intItems_at w;obtain⟨J,C⟩:=argBest_lt (numAt o) (o.size-1);refine⟨.int _,H,I.kept (t':=m) g,⟨t,rfl⟩,q _ ?_ λa E=>?_⟩
 ·rw[numAt_eq];exact PySem.getD_mem (by rw[EJ,Gs];omega)
 ·obtain⟨j,k,rfl⟩:=PySem.mem_getD E;rw[EJ,Gs]at k;rw[← numAt_eq];exact C j (by omega)
end
noncomputable def LsAt{α:Type}(R:Hp->V->α->Prop)(H:Hp)(ys:List V)(xs:List α):Prop:=ys.length=xs.length/\∀(i:Nat)(x:α),xs[i]?=some x->∃ y,ys[i]?=some y/\R H y x
theorem LsAt.nil{α:Type}{R:Hp->V->α->Prop}{H:Hp}:LsAt R H [] []:=⟨rfl,λi x e=>by simp at e⟩
theorem LsAt.imp{α:Type}{R c:Hp->V->α->Prop}{H H':Hp}{ys:List V}{xs:List α}(h:LsAt R H ys xs)(m:∀ y x,R H y x->c H' y x):LsAt c H' ys xs:=⟨h.1,λi x e=>by
 obtain⟨y,a,b⟩:=h.2 i x e
 exact⟨y,a,m y x b⟩⟩
theorem LsAt.snoc{α:Type}{R:Hp->V->α->Prop}{H:Hp}{ys:List V}{xs:List α}{y:V}{x:α}(h:LsAt R H ys xs)(r:R H y x):LsAt R H (ys++[y]) (xs++[x]):=by
 refine⟨by rw[EG,EG,h.1];rfl,λj k e=>?_⟩
 by_cases E:j<xs.length
 ·rw[EH E]at e;obtain⟨p,B,s⟩:=h.2 j k e;exact⟨p,by rw[EH (by rw[h.1];exact E)];exact B,s⟩
 ·rw[EF (by omega)]at e
  have b:j=xs.length:=by
   have:=(EB.mp e).1;rw[ES]at this;omega
  subst b;rw[EW]at e
  cases e
  exact⟨y,by rw[← h.1,EF (EI _),EW];rfl,r⟩
theorem LsAt.get{α:Type}{R:Hp->V->α->Prop}{H:Hp}{ys:List V}{xs:List α}{i:Nat}{y:V}(h:LsAt R H ys xs)(e:ys[i]?=some y):∃ x,xs[i]?=some x/\R H y x:=by
 have I:i<xs.length:=by rw[← h.1];exact(EB.mp e).1
 obtain⟨z,a,b⟩:=h.2 i _ (EA I);rw[e]at a
 cases a
 exact⟨_,EA I,b⟩
theorem rG:∀{ys:List V}{us:List Value},ys.length=us.length->(∀(i:Nat)(y:V)(u:Value),ys[i]?=some y->us[i]?=some u->RelV y u)->Vals ys us
 |[],[],_,_=>.nil
 |[],_::_,e,_=>by cases e
 |_::_,[],e,_=>by cases e
 |y::ys,u::us,e,h=>.cons (h 0 y u rfl rfl) (rG (Nat.succ.inj e) λi y u a b=>h (i+1) y u a b)
section
variable{X:Cx}
theorem pY{e:Expr}{te:TE}{p A pos ac:Pos}(l:X.calm=true) (D:Gl X "list") (L:X.mg "list" = none) (al:Gl X "range") (am:X.mg "range" = none) (g:PE X e te)
  (J:starEach [.Call (.Name "range" A) [e] [] ac] X.env = [(false,eval (.Call (.Name "range" A) [e] [] ac) X.env)]:=by rfl) (h2:starEach [e] X.env=(false,eval e X.env)::starEach [] X.env:=by rfl) :
  PE X (.Call (.Name "list" p) [.Call (.Name "range" A) [e] [] ac] [] pos) (λσ H Q=>te σ H λx H1=>∃ n:Nat,x=.int (n:Int)/\n<=1000/\∀ q,H1 q=none->Q (.ref q) (upd H1 q (.lst ((EY n).map λ(i:Nat)=>V.int ((i:Nat):Int))))):=by
 intro B s σ H Q I h;refine wpAny_Call_Name_kw (eh I D L gd ?_);refine PyProof.Rows.callWith_type1 ?_ J rfl;rw[J];refine Calls.spliced_cons ?_;refine wpAny_Call_Name_kw (eh I al am boot_range ?_);refine PyProof.Rows.callWith_type1 ?_ h2 rfl;rw[h2];refine Calls.spliced_cons (thn (g B s σ H _ I h) λu m ⟨x,H1,c,M,O⟩=>?_);obtain⟨n,rfl,r,q⟩:=O;obtain⟨t,rfl⟩:=M;refine Calls.spliced_nil ?_;refine call_range_1 ?_;refine Calls.spliced_nil ?_;have z:Inv X B σ H1 { m with heap:=m.heap.push { cls:=.type "range",data:=.fields #[.int 0 m.toks,.int (n:Int) t,.int 1 (m.toks+1)] },toks:=m.toks+1+1 }:=c.kept λb o e=>Heap.get?_push_of_some _ e;refine call_list_range (n:=n) (I.ok.hd l) (IsRange.new ..) (small_one (by omega) (by omega) (by omega) (by omega)) (by rw[rangeSize_one];split<;>omega) (by omega) λG Y aa C d w ab=>?_
 have I3:Inv X B σ H1 { m with heap:=G,toks:=Y }:=z.kept (t':=Y) λb o e=>d b o e;have fS:=z.fpOk (H':=H1) (EI _) (z.hok.fresh (EI _));have E:((EY n).map λ(i:Nat)=>V.int ((i:Nat):Int)).length<=sizeLine:=by
  rw[EJ,Fh];exact FF r (by decide)
 have k:Vals ((EY n).map λ(i:Nat)=>V.int ((i:Nat):Int)) aa.toList:=by
  refine rG (by rw[EJ,Fh,Gs,ab.1]) λi y u a b=>?_
  rw[Hu]at b;obtain⟨T,e⟩:=ab.2 i u b;rw[EO]at a;obtain⟨j,v,N⟩:=Fm.mp a;have f:i<n:=by
   have:=(EB.mp v).1;rwa[Fh]at this
  rw[FU f]at v
  cases v
  subst N;subst e;exact⟨T,by rw[F1,Int.mul_one]⟩
 have I4:=I3.track (o:=.lst ((EY n).map λ(i:Nat)=>V.int ((i:Nat):Int))) fS ⟨E,aa.toList,C,k,by rw[Ii];exact w⟩
 exact⟨.ref _,_,I4,rfl,q _ fS.1⟩
end
section
variable{X:Cx}{tg:Expr}
end
structure FunD(K:ED)(x qual:Str)(st:Stmt)(f:Addr)(fd:FuncData)(items:Array Value):Prop where
 ex:∃(oc:Value)(od:Option Addr)(d:Addr)(kV doc pm:Value)(an:Option Addr)(cdv ct:Value)(osl:Array (Option Value)),
  fd=FO x qual (bG st) (bp st) (aq st) (.ref d) kV doc pm an cdv ct/\K.lookup f=some ⟨oc,od,.func fd,osl⟩/\F2 K cdv qual=true/\∃ o n,K.lookup d=some o/\o.data=.seq items n
 kp:Ft K (.ref f)=true
section
variable{P:Program}{w:World}{K:ED}{mg:Str->Option Value}{base:Heap}
theorem FunD.binds{x m:Str}{st:Stmt}{f:Addr}{fd:FuncData}{items:Array Value}{ps:List Str}{ds:List Value}(F:FunD K x m st f fd items)
  (h:∀(E kV M u:Value)(i:Option Addr)(y ct:Value)(us:List Value),(us++ds).length=ps.length->∃ k,bindArgs (FO x m (bG st) (bp st) (aq st) E kV M u i y ct) ⟨us,[]⟩=seqItems? E >>= k/\k (some items)=pure (ps.zip (us++ds))):cW K fd ps ds:=by
 obtain⟨oc,G,d,kV,M,u,i,y,ct,b,rfl,v,O,o,n,N,p⟩:=F.ex;intro s us X D;obtain⟨k,J,C⟩:=h (.ref d) kV M u i y ct us D;exact BindsTo.of_defaults rfl (X _ _ N) p J C
theorem Ea{x m:Str}{st:Stmt}{f d:Addr}{oc:Value}{G i:Option Addr}{b:Array (Option Value)}{kV M u y ct:Value}{items:Array Value}{o:Obj}{n:Nat}(l:K.lookup f=some ⟨oc,G,.func (FO x m (bG st) (bp st) (aq st) (.ref d) kV M u i y ct),b⟩)
  (c:F2 K y m=true) (k:Ft K (.ref f)=true) (ld:K.lookup d=some o) (J:o.data=.seq items n):FunD K x m st f (FO x m (bG st) (bp st) (aq st) (.ref d) kV M u i y ct) items:=⟨⟨oc,G,d,kV,M,u,i,y,ct,b,rfl,l,c,o,n,ld,J⟩,k⟩
end
noncomputable abbrev m8(p:Pos):Arguments:={ posonlyargs:=[],args:=[{ arg:="each",annotation:=none,pos:=p }],vararg:=none,kwonlyargs:=[],kw_defaults:=[],kwarg:=none,defaults:=[] }
noncomputable abbrev sV:Scope:={ kind:=.function,names:=[("each",.local),("told",.free)],isGenerator:=false,isCoroutine:=false,more:=[] }
noncomputable abbrev vJ(p1 r g:Pos):Expr:=.Subscript (.Name "told" p1) (.Name "each" r) g
section
variable{prog:Program}{w:World}{A:Around}{E:Value->Shared->Prop}{s:Shared}
theorem DR{f c' ct t:Addr}{m:Str}{p0 p1 r g:Pos}{u a v:Value}{its:Array Value}{k:Int}{tk:Tok}{Q:Value->Shared->Prop}
  (h:A.depth<recursionLimit) (p:s.heap.get? f=some (HV "<lambda>" m (m8 p0) (vJ p1 r g) sV [("told",ct)] u c' a)) (i:s.heap.CodeRec (.ref c') m) (d:s.heap.NoLimit)
  (l:s.heap.IsCell ct (some (.ref t))) (hl:s.heap.IsList t its) (k0:0<=k) (q:k<2^63) (D:its[k.toNat]?=some v)
  (B:∀ h' M,(∀ b o,s.heap.get? b=some o->h'.get? b=some o)->Q v { s with heap:=h',toks:=M }) :
  wpAny (model prog w) A (call (.ref f) [.int k tk]) Q E s:=by
 refine wpAny_call (PySem.W.kla_callFunE h p rfl rfl rfl rfl i ?_);have G:bindArgs (PySem.W.kla_fn "<lambda>" m (m8 p0) (vJ p1 r g) sV [("told",ct)] u (.ref c') a) ⟨[.int k tk],[]⟩=(pure [(("each" : Str),Value.int k tk)]:Sem (List (Str×Value))):=rfl;rw[G];refine wpAny_pure (wpAny_newFunctionEnv (λx O=>?_) (λx O=>?_) (λJ j C=>?_) rfl)
 ·have n:x=(("each" : Str),NameKind.local)∨x=(("told" : Str),NameKind.free):=by simpa using O
  rcases n with rfl | rfl<;>exact λz=>by cases z
 ·rw[Fi.mp O];rfl
 have y:∀ b o,s.heap.get? b=some o->J.get? b=some o:=λb o e=>C.extBut b o (Fo (Heap.lt_size e)) (Heap.get?_push_of_some _ e);refine⟨d.keeps y,PySem.W.kla_codeExpr ?_⟩;refine Subscript_ (wpAny_Name (wpAny_loadName_free (c:=ct) rfl rfl rfl (l.keeps y) ?_));refine wpAny_Name (wpAny_loadName_local rfl rfl j rfl ?_);exact item_listR (hl.at λo e=>y _ _ e) k0 q D (B _ _ y)
noncomputable abbrev Kp(h h':Heap):Prop:=∀ b o,h.get? b=some o->h'.get? b=some o
theorem Kp.but{g h h':Heap}{I:Addr}(k:Kp g h)(n:g.get? I=none)(m:∀ b o,b∉[I]->h.get? b=some o->h'.get? b=some o):Kp g h':=λb o e=>m b o (λz=>by rw[Fi.mp z,n]at e;cases e) (k b o e)
theorem Kp.same{g h h':Heap}{S:Addr}(k:Kp g h)(n:g.get? S=none)(m:Heap.SameBut S h h'):Kp g h':=λb o e=>(m.2 b (λz=>by rw[z,n]at e;cases e)).trans (k b o e)
theorem Bk{J S q:Addr}{fp:List Addr}{n:Nat}{P:Nat->Value->Prop}{St:Nat->Heap->Prop}{g:Heap}{R:Result->Shared->Prop}(W:Walks prog w A.in1 J fp [J] n P St)(gJ:g.get? J=none)(gS:g.get? S=none)(al:S≠J)(ab:S∉fp)
  (turn:∀ i v,i<n->P i v->∀(h:Heap)(tk:Nat)(Q:Value->Shared->Prop)(E:Value->Shared->Prop),Kp g h->(∀ u t h' M,Kp h h'->Q (.int u t) { s with heap:=h',toks:=M })->wpAny (model prog w) A.in1 (call (.ref q) [v]) Q E { s with heap:=h,toks:=tk })
  (fin:∀ i v h' M,i<n->P i v->Kp g h'->R (.ok (.ret v)) { s with heap:=h',toks:=M }) :
  ∀(r j i:Nat)(h:Heap)(tk:Nat)(vb:Value)(O:Int)(tb:Tok)(c:Nat),n-(j+1)=r->j+1<=n->Kp g h->h.get? S=some (seqObj "list" #[vb,.int O tb] c)->St (j+1) h->i<n->P i vb ->
   codeAny (model prog w) A (.builtin "min.loop" ⟨[.ref J,.ref q,.ref S],[]⟩) R { s with heap:=h,toks:=tk }:=by
 have nm:(toString "min"++toString ".loop" : String) = "min.loop":=by decide
 intro r;induction r with
 |zero =>
  intro j i h tk vb O tb c er d kg a st I x;have y:j+1=n:=by omega
  refine codeAny_builtin GC ?_;rw[Around.under_plainId Fx _];refine wpAny_bind (m:=seqItems? (.ref S)) (wpAny_seqItems a rfl ?_);show wpAny _ A.in1 (tryCatch (pyNext (.ref J)) _ >>= _) _ _ _;refine wpAny_bind (wpAny_tryCatch (W.done _ _ _ (by rw[← y];exact st) λh' M D=>?_))
  have ap:=kg.but gJ D;have am:=D S _ (by simpa using al) a
  have su:=Heap.SameBut.update h' S (Obj.mapSeq λ_=>(#[]:Array Value));refine wpAny_bind (m:=updateSeq S λ_=>#[]) (wpAny_updateSeq am rfl (wpAny_bind (wpAny_letGo (wpAny_pure ?_))));exact fin i vb _ _ I x (ap.same gS su)
 |succ r Y =>
  intro j i h tk vb O tb c er d kg a st I x;have lt:j+1<n:=by omega
  refine codeAny_builtin GC ?_;rw[Around.under_plainId Fx _];refine wpAny_bind (m:=seqItems? (.ref S)) (wpAny_seqItems a rfl ?_);show wpAny _ A.in1 (tryCatch (pyNext (.ref J)) _ >>= _) _ _ _;refine wpAny_bind (wpAny_tryCatch (W.item (j+1) _ _ _ lt st λv k ac B L f=>?_));have T:=kg.but gJ f;have p:=f S _ (by simpa using al) a
  show wpAny _ A.in1 (tryCatch (holding [v] (call (.ref q) [v])) _ >>= _) _ _ _;refine wpAny_bind (wpAny_tryCatch (wpAny_holding (turn (j+1) v lt B k ac _ _ T λu t C aP H=>?_)));have an:Kp g C:=λb o e=>H b o (T b o e);have N:=H _ _ p;have l:=W.frame _ _ C L λb _ o e=>H b o e;show wpAny _ A.in1 (tryCatch (holding [v,.int u t] (richCompare .Lt (.int u t) (.int O tb) >>= _)) _ >>= _) _ _ _;refine wpAny_bind (wpAny_tryCatch (wpAny_holding (wpAny_bind (CmpOf.ints_lt (prog:=prog) (w:=w) (A:=A.in1) (P:=λ(i:Nat) v=>∃ t,v=.int (if i=0 then u else O) t) (λi=>if i=0 then u else O) (λi v h=>h) 0 1 _ _ _ _ _ ⟨t,rfl⟩ ⟨tb,rfl⟩ ?_))));refine wpAny_bind (wpAny_holding (wpAny_truthy_bool (wpAny_bind (wpAny_letGo (wpAny_pure ?_)))));by_cases cc:u<O
  ·have su:=Heap.SameBut.update C S (Obj.mapSeq λ_=>#[v,.int u t])
   obtain⟨c2,aa⟩:∃ c2,(C.update S (Obj.mapSeq λ_=>#[v,.int u t])).get? S=some (seqObj "list" #[v,.int u t] c2):=⟨_,get?_update_seq N λ_=>#[v,.int u t]⟩;simp[cc];refine wpAny_bind (wpAny_updateSeq N rfl (wpAny_bind (wpAny_letGo ?_)));refine wpAny_pure ⟨plainId_quiet Fx _,Y (j+1) (j+1) _ _ v u t c2 (by omega) lt (an.same gS su) aa (W.frame _ _ _ l λb G o e=>(su.2 b (λz=>ab (z▸G))).trans e) lt B⟩
  ·simp[cc];refine wpAny_bind (wpAny_letGo (wpAny_pure ?_));refine⟨plainId_quiet Fx _,Y (j+1) i _ _ vb O tb c (by omega) lt an N l I x⟩
theorem DM{d q:Addr}{KK:Type} [DecidableEq KK] {knd:PySem.KeyKind prog w KK} {kvs:List (KK×Value)} {ep:Nat} {Q:Value->Shared->Prop} (c:A.handled=none) (hd:Heap.DictAt knd s.heap d kvs ep) (ds:(d == sysModules)=false) (N:0<kvs.length)
  (turn:∀(i:Nat)(v:Value)(k:KK)(x:Value),kvs[i]?=some (k,x)->knd.is k v=true->∀(h:Heap)(tk:Nat)(Q:Value->Shared->Prop)(E:Value->Shared->Prop),Kp s.heap h->(∀ j t h' M,Kp h h'->Q (.int j t) { s with heap:=h',toks:=M })->wpAny (model prog w) A.in1 (call (.ref q) [v]) Q E { s with heap:=h,toks:=tk })
  (fin:∀(i:Nat)(v:Value)(k:KK)(x:Value)(h':Heap)(M:Nat),kvs[i]?=some (k,x)->knd.is k v=true->Kp s.heap h'->Q v { s with heap:=h',toks:=M }) :
  wpAny (model prog w) A (call (.builtin "min") [.ref d] [(Str.ofString "key",.ref q)]) Q E s:=by
 have nm:(toString "min"++toString ".loop" : String) = "min.loop":=by decide
 obtain⟨Y,_,aP,_⟩:=id hd;have dl:d<s.heap.objs.size:=Heap.lt_size aP;refine kmk_tree PySem.F.kind_min PySem.F.plain_min PySem.F.entry_min (kmk_min_key _ _) ?_;show wpAny _ A.in1 (Builtin.Builtins.bindParams "min" ["key","default"] 0 ⟨[],[(Str.ofString "key",.ref q)]⟩ >>= _) _ _ s;refine wpAny_bind (wpAny_of_eq (show Builtin.Builtins.bindParams "min" ["key","default"] 0 ⟨[],[(Str.ofString "key",.ref q)]⟩=pure [some (.ref q),none] from rfl) (wpAny_bind (wpAny_pure (wpAny_bind (wpAny_pyIter_dict ds hd ?_)))));refine wpAny_bind (wpAny_newList ?_ (FT _));rw[nm];obtain⟨O,ab⟩:∃ O:Obj,O={ cls:=Value.type "dict_keyiterator",data:=Data.fields #[Value.ref d,Value.int 0 0,Value.int (kvs.length:Int) 0,Value.int (ep:Int) 0] }:=⟨_,rfl⟩;rw[← ab];have sz:(s.heap.push O).objs.size=s.heap.objs.size+1:=by rw[Heap.size_push]
 have ac:(s.heap.push O).objs.size≠s.heap.objs.size:=by omega
 have ap:d≠s.heap.objs.size:=Fo dl;have fr:∀ b,s.heap.objs.size<=b->s.heap.get? b=none:=λb G=>Heap.get?_none_of_le G;have y:Kp s.heap ((s.heap.push O).push (seqObj "list" #[] 0)):=λb o e=>Heap.get?_push_of_some _ (Heap.get?_push_of_some _ e);have I:((s.heap.push O).push (seqObj "list" #[] 0)).get? (s.heap.push O).objs.size=some (seqObj "list" #[] 0):=Heap.get?_push_size _ rfl;have hJ:((s.heap.push O).push (seqObj "list" #[] 0)).get? s.heap.objs.size=some O:=Heap.get?_push_of_some _ (Heap.get?_push_size _ (by rw[ab];rfl))
 have W:=Walks.dictKeys (prog:=prog) (w:=w) (knd:=knd) (A:=A.in1) c s.heap.objs.size d ap kvs ep;have am:∀(i:Nat)(v:Value),i<kvs.length->(∃ k x,kvs[i]?=some (k,x)/\knd.is k v=true)->∀(h:Heap)(tk:Nat)(Q:Value->Shared->Prop)(E:Value->Shared->Prop),Kp s.heap h->(∀ j t h' M,Kp h h'->Q (.int j t) { s with heap:=h',toks:=M })->wpAny (model prog w) A.in1 (call (.ref q) [v]) Q E { s with heap:=h,toks:=tk }:=λi v _ ⟨k,x,T,L⟩=>turn i v k x T L;refine wpAny_pure ⟨plainId_quiet Fx _,codeAny_builtin GC ?_⟩;rw[Around.under_plainId Fx _];refine wpAny_bind (m:=seqItems? (.ref (s.heap.push O).objs.size)) (wpAny_seqItems I rfl ?_);show wpAny _ A.in1 (tryCatch (pyNext (.ref s.heap.objs.size)) _ >>= _) _ _ _;refine wpAny_bind (wpAny_tryCatch (W.item 0 _ _ _ N ⟨⟨O,hJ,by rw[ab],by rw[ab];rfl⟩,hd.at' λo e=>y _ _ e⟩ λv J al B a f=>?_))
 have n:=y.but (fr _ (EI _)) f;have p:=f _ _ (by simpa using ac) I
 show wpAny _ A.in1 (tryCatch (holding [v] (call (.ref q) [v])) _ >>= _) _ _ _;refine wpAny_bind (wpAny_tryCatch (wpAny_holding (am 0 v N B J al _ _ n λj t C aT H=>?_)));have an:Kp s.heap C:=λb o e=>H b o (n b o e);have r:=H _ _ p;have l:=W.frame _ _ C a λb _ o e=>H b o e;have su:=Heap.SameBut.update C (s.heap.push O).objs.size (Obj.mapSeq λ_=>#[v,.int j t]);obtain⟨c2,aa⟩:∃ c2,(C.update (s.heap.push O).objs.size (Obj.mapSeq λ_=>#[v,.int j t])).get? (s.heap.push O).objs.size=some (seqObj "list" #[v,.int j t] c2):=⟨_,get?_update_seq r λ_=>#[v,.int j t]⟩;have g:(s.heap.push O).objs.size∉[s.heap.objs.size,d]:=λz=>by
  rcases EE.mp z with z | z
  ·exact ac z
  ·have u:=Fi.mp z
   exact absurd dl (by rw[← u,sz];exact IH (GW _))
 refine wpAny_bind (m:=updateSeq _ λ_=>#[v,.int j t]) (wpAny_updateSeq r rfl ?_);rw[nm];refine wpAny_pure ⟨plainId_quiet Fx _,Bk W (fr _ (EI _)) (fr _ (by omega)) ac g am (λi v h' M _ ⟨k,x,T,L⟩ D=>fin i v k x h' M T L D) _ 0 0 _ _ v j t c2 rfl N (an.same (fr _ (by omega)) su) aa (W.frame _ _ _ l λb G o e=>(su.2 b (λz=>g (z▸G))).trans e) N B⟩
end
section
variable{X:Cx}{pins:List (Addr×Obj)}{σ:St}{H:Hp}{s:Shared}{h':Heap}{T:Addr}{ps more:Array Value}{t':Nat}
theorem Inv.tab(I:Inv X pins σ H s)(e:H T=some (.tbl ps))(O:∀ b o,b≠T->s.heap.get? b=some o->h'.get? b=some o)(r:h'.get? T=some { cls:=.none,data:=.fields (ps++more) }) :
  Inv X pins σ (upd H T (.tbl (ps++more))) { s with heap:=h',toks:=t' }:=by
 have ne:∀{b:Addr}{o:Option HO},H b=o->o≠some (.tbl ps)->b≠T:=λq n z=>n (by rw[← q,z,e])
 refine I.un ⟨λb o g n _ _=>O b o (ne n (by simp)) g,λb o g n _ _=>⟨o.slots,O b o (ne n (by simp)) g⟩,λb o g n _=>?_,λb o g _=>?_,λb M q=>?_,λb o u q=>?_,λb p q=>?_⟩ λb u q=>?_
 ·rw[ao (ne n (by simp))]
  exact n
 ·by_cases z:b=T
  ·rw[z];exact⟨_,r⟩
  ·exact⟨o,O b o z g⟩
 ·rw[ao (ne q (by simp))]
  exact q
 ·rw[ao (ne q (by simp))]
  exact q
 ·by_cases z:b=T
  ·subst z;rw[e]at q
   cases q
   exact⟨more,af⟩
  ·exact⟨#[],by rw[ao z,q];simp⟩
 ·by_cases z:b=T
  ·subst z;rw[af]at q
   cases q
   exact r
  ·rw[ao z]at q;refine(I.hok b u q).stay (λc o l g=>O c o (λy=>?_) g) (λc g=>?_) λc o g=>?_
   ·rcases l with t | t
    ·exact z (t▸y)
    ·rw[y,e]at t;cases t
   ·rw[ao (ne g (by simp))];exact g
   ·rw[ao (ne g (by simp))];exact g
end
noncomputable def codO(c:Addr)(q:Str):HO:=.ext λh=>h.CodeRec (.ref c) q
noncomputable def Tb(q:Str)(f:Pos)(T:Addr)(H:Hp):Prop:=H T=some (.tbl #[])∨∃ c,H T=some (.tbl #[rawInt f.line,rawInt f.col,.ref c])/\H c=some (codO c q)
noncomputable def TbS(T:Addr)(H H':Hp):Prop:=∀ b o,b≠T->H b=some o->H' b=some o
structure Lam(X:Cx)(c T ct:Addr)(lq:Str):Prop where
 code:X.env.code=.ref c
 hd:GY X.base c T
 bm:∃ bm o,X.mg "__builtins__" = some (.ref bm)/\bm≠builtinsNs/\X.base.get? bm=some o/\o.cls=.type "module"/\o.dict=some builtinsNs/\o.data=.plain
 kind:X.env.kindOf "told" = some .cell
 cl:closureFor sV X.env=pure [(("told" : Str),ct)]
 cell:X.env.cells.lookup ("told" : Str)=some ct
 q:X.env.qual++"<lambda>" = lq
theorem DT{a:Type}:∀{kvs:List (a×V)}{vs:List (a×Value)},KV kvs vs->∀{i:Nat}{k:a}{y:Value},vs[i]?=some (k,y)->∃ g,g∈kvs/\k=g.1
 |_,_,.nil,i,k,y,e=>by simp at e
 |p::_,q::_,.cons h r,0,k,y,e=>by
  cases e
  exact⟨p,EM ..,h.1.symm⟩
 |p::_,_::_,.cons _ r,i+1,k,y,e=>by
  obtain⟨g,m,t⟩:=DT r (show _=some (k,y) from e);exact⟨g,EK _ m,t⟩
noncomputable def tMinK(b:Str)(f:Pos)(T:Addr)(it:Nat)(t:TA):TE:=λY H Q=>t Y H λN O=>∃ d L a M,N = [.ref d]/\O d=some (.dK L)/\L≠[]/\Y[it]?=some (some (.ref a))/\O a=some (.lst M)/\Tb b f T O /\
 (∀ g∈L,∃(k:Nat)(n:Int),g.1=.inl (k:Int)/\M[k]?=some (.int n))/\∀ g∈L,∀ j,TbS T O j->Tb b f T j->Q (kV g.1) j
theorem Di{X:Cx}{c T ct:Addr}{lq x:Str}{it:Nat}{t:TA}{np xp p0 p1 p2 p3 lp kp pos:Pos}(L:Lam X c T ct lq)(O:X.ex = [])(G:X.calm=true)(p:Room 0 X.A) (hN:X.N[it]?=some ("told" : Str)) (hv:Vis X.env.scope "told") (hg:Gl X "min") (hm:X.mg "min" = none) (ha:PA X [.Name x xp] t) :
  PE X (.Call (.Name "min" np) [.Name x xp] [⟨some "key",.Lambda (m8 p0) (vJ p1 p2 p3) sV lp,kp⟩] pos) (tMinK lq lp T it t):=by
 intro B s Y H Q I h;refine wpAny_Call_Name_kw (eh I hg hm qW ?_);refine callWith_kw (thn (ha pos B s Y H _ I h) λus s1 ⟨l,H1,I1,r1,q1⟩=>?_);obtain⟨d,kvs,a,M,rfl,hd,aa,bn,D,tb,r,q⟩:=q1;obtain⟨u,rfl,ru⟩:=pH r1
 cases ru
 refine kws_cons (PySem.W.kla_eval rfl ?_);rw[L.q];have b7:0<kvs.length:=List.length_pos_iff.mpr aa;have go:∀(E:Hp)(s2:Shared)(f c':Addr)(pm an:Value),Inv X B Y E s2->s2.heap.get? f=some (HV "<lambda>" lq (m8 p0) (vJ p1 p2 p3) sV [("told",ct)] pm c' an)->s2.heap.CodeRec (.ref c') lq->E d=some (.dK kvs)->E a=some (.lst M)->(∀ kv∈kvs,Q (kV kv.1) E) ->
   wpAny (model X.prog X.w) X.A (call (.builtin "min") [.ref d] [(Str.ofString "key",.ref f)]) (EP X B Y Q) X.xe s2:=by
  intro E s2 f c' pm an I2 hf a6 a0 a5 q2;obtain⟨_,ds,l,a1,od,g,ep,ba⟩:=wc I2.hok a0;have vl:=a1.length;refine DM (knd:=bP X.prog X.w) (kvs:=l) (ep:=ep) (I2.ok.hd G) ⟨od,g,ba⟩ ds (by omega) ?_ ?_
  ·intro i v k y e1 e2 h' tk Q' E' kk bv;obtain⟨⟨k1,w1⟩,m1,ek⟩:=DT a1 e1;obtain⟨j,n,ej,hn⟩:=r _ m1;have bA:k=.inl (j:Int):=ek.trans ej;subst bA;have sh:∃ t,v=Value.int (j:Int) t:=by
    rcases bo (show qw (.inl (j:Int)) v=true from e2) with⟨i',t',z1,z2⟩ | ⟨_,_,z1,_⟩
    ·cases z1;exact⟨t',z2⟩
    ·cases z1
   obtain⟨tv,rfl⟩:=sh;obtain⟨hz,its,b0,rv,bB⟩:=I2.hok a _ a5;obtain⟨wv,bF,bQ⟩:=rv.get hn;obtain⟨tn,rfl⟩:=bQ;have jl:j<M.length:=(EB.mp hn).1;have b8:=m7;obtain⟨m,a2,bd⟩:=I2.loc;obtain⟨u,ru,lk⟩:=bd it "told" (.ref a) hN bn hv
   cases ru
   have am:s2.heap.IsCell ct (some (.ref a)):=by
    rcases lk with⟨kl,_⟩ | ⟨_,c2,ec,z⟩
    ·exact absurd kl (by rw[L.kind];intro z;cases z)
    ·rw[L.cell]at ec;cases ec;exact z
   refine DR (A:=X.A.in1) (f:=f) (c':=c') (t:=a) (its:=its.toArray) (k:=(j:Int)) ?_ (kk _ _ hf) (a6.keeps kk) (I2.nolimit.keeps kk) (am.keeps kk) ⟨_,kk _ _ bB,rfl,_,rfl⟩ (by omega) (by omega) (by rw[EN];simpa using bF) λh3 ca k3=>bv _ _ _ _ k3
   have:=p.dp;show X.A.depth<recursionLimit;omega
  ·intro i v k y h' tk e1 e2 kk;obtain⟨kv,m1,ek⟩:=DT a1 e1;refine⟨kV k,E,I2.kept kk,?_,by rw[ek];exact q2 kv m1⟩
   rcases bo (show qw k v=true from e2) with⟨i',t',rfl,rfl⟩ | ⟨y',t',rfl,rfl⟩
   ·exact⟨t',rfl⟩
   ·exact⟨t',rfl⟩
 have be:s1.heap.BuiltinsAt X.mg T:=by
  obtain⟨bm,o,b1,b2,b3,b4,b5,b6⟩:=L.bm;obtain⟨o1,bR,bU,g1,g2,_⟩:=id I1.mod.glob;have hT:H1 T≠none:=by
   rcases tb with z | ⟨_,z,_⟩<;>rw[z]<;>simp
  refine⟨bm,o,b1,b2,λz=>?_,λz=>?_,I1.bk _ _ b3,b4,b5,b6⟩
  ·rw[z,g1]at b3;cases b3;rw[g2]at b6;cases b6
  ·rw[z]at b3;exact hT (I1.bs _ _ b3).2
 have neT:mainGlobals≠T:=λz=>by
  obtain⟨o1,bR,bU,g1,g2,_⟩:=id I1.mod.glob;have:=(I1.bs _ _ g1).2;rw[z]at this;rcases tb with y | ⟨_,y,_⟩<;>rw[y]at this<;>cases this
 have bf:=I1.mod.glob.keeps I1.bk;rcases tb with hT | ⟨c',hT,bi⟩
 ·have gT:s1.heap.get? T=some (IX #[]):=I1.hok T _ hT
  refine PySem.W.kla_makeFunction (mg:=X.mg) L.cl I1.ok.glob bf L.code (L.hd.keeps I1.bk) gT trivial rfl neT be λc' an h' tk bY a3 ab al aP=>kws_nil ?_;have cT:c'≠T:=λz=>by
   have:=Heap.lt_size gT;rw[← z]at this;exact absurd this (IH a3)
  have I2:=I1.tab (more:=#[rawInt lp.line,rawInt lp.col,.ref c']) (t':=tk) hT (λb o n e=>bY b o n e) (by simpa using aP)
  have e0:(#[]:Array Value)++#[rawInt lp.line,rawInt lp.col,.ref c']=#[rawInt lp.line,rawInt lp.col,.ref c']:=by simp
  rw[e0]at I2;have fr:s1.heap.get? c'=none:=Heap.get?_none_of_le a3;have a4:H1 c'=none:=I1.hok.none_of fr;obtain⟨c3,oc,cb,t3,ec,g1,g2,g3⟩:=id al
  cases ec
  have I3:=I2.xtrack (a:=c') (o:=codO c' lq) (I1.xok O fr (by rw[ao cT];exact a4)) ⟨al,⟨oc,g1⟩,λJ C ⟨c4,o4,v4,t4,z1,z2,z3,z4⟩ kk=>by cases z1;exact⟨_,o4,v4,t4,rfl,kk o4 z2,z3,z4⟩⟩
  have ap:Kp h' (h'.push (HV "<lambda>" lq (m8 p0) (vJ p1 p2 p3) sV [("told",ct)] ((X.mg "__name__").getD .none) c' an)):=λb o e=>Heap.get?_push_of_some _ e;have I4:=I3.kept (t':=tk) ap;have dT:d≠T:=λz=>by rw[z,hT]at hd;cases hd
  have aT:a≠T:=λz=>by rw[z,hT]at D;cases D
  have dc:d≠c':=λz=>by rw[z,a4]at hd;cases hd
  have ac:a≠c':=λz=>by rw[z,a4]at D;cases D
  have sm:TbS T H1 (upd (upd H1 T (.tbl #[rawInt lp.line,rawInt lp.col,.ref c'])) c' (codO c' lq)):=λb o n e=>by
   rw[ao (λz=>by rw[z,a4]at e;cases e),ao n]
   exact e
  refine go _ _ h'.objs.size c' _ _ I4 (Heap.get?_push_size _ rfl) (al.keeps ap) (sm _ _ dT hd) (sm _ _ aT D) λkv m=>q kv m _ sm (.inr ⟨c',by rw[ao (Ne.symm cT)];exact af,af⟩)
 ·have gT:s1.heap.get? T=some (IX #[rawInt lp.line,rawInt lp.col,.ref c']):=I1.hok T _ hT
  obtain⟨al,_,_⟩:=(show bV X.prog X.w H1 s1.heap c' (codO c' lq) from I1.hok c' _ bi);refine PySem.W.kla_makeFunctionHit (mg:=X.mg) (cv:=.ref c') L.cl I1.ok.glob bf L.code (L.hd.keeps I1.bk) gT trivial (by simp[codeAmong,rawInt]) be λan h' tk kk sz=>kws_nil ?_
  have ap:Kp s1.heap (h'.push (HV "<lambda>" lq (m8 p0) (vJ p1 p2 p3) sV [("told",ct)] ((X.mg "__name__").getD .none) c' an)):=λb o e=>Heap.get?_push_of_some _ (kk b o e);have I4:=I1.kept (t':=tk) ap;exact go _ _ h'.objs.size c' _ _ I4 (Heap.get?_push_size _ rfl) (al.keeps ap) hd D λkv m=>q kv m _ (λb o _ e=>e) (.inr ⟨c',hT,bi⟩)
noncomputable abbrev Bm(mg:Str->Option Value)(h:Heap):Prop:=∃ a o,mg "__builtins__" = some (.ref a)/\a≠builtinsNs/\h.get? a=some o/\o.cls=.type "module"/\o.dict=some builtinsNs/\o.data=.plain
theorem yQ{P:Program}{w:World}{K:ED}{mg mb:Str->Option Value}{CX:CXT}{k:Nat}{fa a c T:Addr}{fd:FuncData}{x:Str}{sp:Sp}{s:Shared}{vs:List Value}{ns:List Int}
  (KX:K.In s.heap) (Y:s.heap.Ns mainGlobals mg) (G:s.heap.Ns builtinsNs mb) (a4:∀ x:Str,x≠"__name__"->mb x=bootBuiltins x) (am:s.heap.NoLimit) (gens:s.gens=#[])
  (l:GY s.heap c T) (M:s.heap.get? T=some (IX #[])) (nT:K.lookup T=none) (an:Bm mg s.heap)
  (E:s.heap.get? a=some { cls:=.type "list",data:=.seq vs.toArray }) (I:IntsAre vs ns) (hl:ns.length<=sizeLine) (L:Room k callerA)
  (F:∀ base:Heap,K.In base->base.Ns mainGlobals mg->GY base c T->Bm mg base->FnOk P w K mg base CX k fa fd [x] sp) (bind:∀(s:Shared)(u:Value),BindsTo s fd ⟨[u],[]⟩ [(x,u)])
  (ac:∀ H:Hp,H T=some (.tbl #[])->SqL K H a (ns.map V.int)->sp [.ref a] H (λv _=>v=.bl true) λ_ _ _=>False)
  (a0:∀ H e s',CX [] H s (λ_ _ _=>False) e s'->False) :
  codeAny (model P w) callerA (.call (.ref fa) ⟨[.ref a],[]⟩) (λr s'=>r=.ok (.ret (.bool true))/\OldK s.heap s'.heap/\s'.os=s.os/\AllBare s'.gens) s:=by
 have rv:=pG I;have aT:a≠T:=λz=>by rw[z,M]at E;cases E
 obtain⟨H,eT,eS,aa,only,frz⟩:∃ H:Hp,H T=some (.tbl #[])/\SqL K H a (ns.map V.int)/\HOk P w H s.heap/\(∀ b,H b≠none->(b=T∨b=a)/\K.lookup b=none)/\(∀ b u,H b=some u->b≠T->∃ o t,u=.frz o (.lst t)):=by
  cases A:K.lookup a with
  |some o =>
   have e:=KX a o A;rw[E]at e
   cases e
   refine⟨upd (λ_=>none) T (.tbl #[]),af,.inr ⟨_,vs.toArray,_,A,rfl,rfl,rfl,by rw[E9,I.length];exact hl,by simpa using rv⟩,λb u z=>?_,λb z=>?_,λb u z n=>?_⟩
   ·by_cases y:b=T
    ·subst y;rw[af]at z;cases z;exact M
    ·rw[ao y]at z;cases z
   ·by_cases y:b=T
    ·exact⟨.inl y,y▸nT⟩
    ·rw[ao y]at z;exact absurd rfl z
   ·rw[ao n]at z;cases z
  |none =>
   refine⟨upd (upd (λ_=>none) a (.frz { cls:=.type "list",data:=.seq vs.toArray } (.lst (ns.map V.int)))) T (.tbl #[]),af,.inl (.inr ⟨{ cls:=.type "list",data:=.seq vs.toArray },by rw[ao aT];exact af⟩),λb u z=>?_,λb z=>?_,λb u z n=>?_⟩
   ·by_cases y:b=T
    ·subst y;rw[af]at z;cases z;exact M
    ·rw[ao y]at z;by_cases p:b=a
     ·subst p;rw[af]at z;cases z;exact⟨E,by rw[EJ];exact hl,vs,_,rv,E⟩
     ·rw[ao p]at z;cases z
   ·by_cases y:b=T
    ·exact⟨.inl y,y▸nT⟩
    ·rw[ao y]at z;by_cases p:b=a
     ·exact⟨.inr p,p▸A⟩
     ·rw[ao p]at z;exact absurd rfl z
   ·rw[ao n]at z;by_cases p:b=a
    ·subst p;rw[af]at z;cases z;exact⟨_,_,rfl⟩
    ·rw[ao p]at z;cases z
 have a2:∀{b:Addr}{o:Obj},s.heap.get? b=some o->o.cls≠.none->o.cls≠.type "list"->H b=none:=λ{b o} e f i=>by
  cases q:H b with
  |none=>rfl
  |some u =>
   rcases(only b (by rw[q];simp)).1 with z | z
   ·rw[z,M]at e;cases e;exact absurd rfl f
   ·rw[z,E]at e;cases e;exact absurd rfl i
 have a5:∀{b:Addr}{o:Obj}{B:Array DictEntry}{ep:Nat},s.heap.get? b=some o->o.data=.dict B ep->H b=none:=λ{b o B ep} e d=>by
  cases q:H b with
  |none=>rfl
  |some u =>
   rcases(only b (by rw[q];simp)).1 with z | z
   ·rw[z,M]at e;cases e;cases d
   ·rw[z,E]at e;cases e;cases d
 have ap:∀{b:Addr}{m:Str->Option Value},s.heap.Ns b m->(hidT s.heap H).Ns b m:=λ{b m} ⟨o,B,ep,e,d,r⟩=>⟨o,B,ep,kC e (a5 e d),d,r⟩
 have kB:K.In (hidT s.heap H):=λb o e=>kC (KX b o e) (by
  cases q:H b with
  |none=>rfl
  |some u=>rw[(only b (by rw[q];simp)).2]at e;cases e)
 have cB:GY (hidT s.heap H) c T:=by
  obtain⟨o,v2,a3,tf,a1,tg,a6,text,tt,D,Q,r⟩:=l;exact⟨o,v2,a3,tf,a1,tg,a6,text,tt,kC D (a2 D (by rw[Q];simp) (by rw[Q];simp)),Q,r⟩
 have bB:Bm mg (hidT s.heap H):=by
  obtain⟨bm,o,b1,b2,b3,b4,r⟩:=an;exact⟨bm,o,b1,b2,kC b3 (a2 b3 (by rw[b4];simp) (by rw[b4];simp)),b4,r⟩
 have md:Mod K mg (hidT s.heap H):=⟨kB,ap Y,⟨mb,ap G,a4⟩,let ⟨mc,J,C⟩:=am;⟨mc,ap J,C⟩⟩;have e0:Env0 P w K mg (hidT s.heap H) callerA [] s H:=⟨rfl,md,λb o e=>DB e,ID (za _ _),trivial,λb z=>absurd (show b∈([]:List Addr) from z) (by simp),aa,.of_eq gens⟩
 refine codeAny_mono ((F _ kB (ap Y) cB bB).run callerA [] s H ⟨[.ref a],[]⟩ [.ref a] [.ref a] _ _ L e0 (bind s (.ref a)) (.cons rfl .nil) (ac H eT eS)) λr s' h=>?_
 cases r with
 |error e=>exact(a0 H e s' h).elim
 |ok fl =>
  cases fl with
  |next=>exact False.elim h
  |brk=>exact False.elim h
  |cont=>exact False.elim h
  |ret u =>
   obtain⟨v,j,os,ab,un,aP,O,q⟩:=h;have q':v=.bl true:=q;subst q';obtain rfl:u=Value.bool true:=O;have nil:∀ b:Addr,b∉frs []:=λb z=>absurd (show b∈([]:List Addr) from z) (by simp)
   have gT:∃ al,s'.heap.get? T=some { cls:=.none,data:=.fields (#[]++al) }:=by
    obtain⟨al,e⟩:=un.tbls T _ eT;exact⟨al,aP T _ e⟩
   have kp:∀ b o,b≠T->s.heap.get? b=some o->s'.heap.get? b=some o:=λb o n e=>by
    cases q:H b with
    |none=>exact un.keep b o e q (nil b) (by simp)
    |some u =>
     obtain⟨ob,t,rfl⟩:=frz b u q n;have N:=un.frzs b ob _ q;obtain⟨g1,_⟩:=aa b _ q;obtain⟨g2,_⟩:=aP b _ N;rw[e]at g1;cases g1;exact g2
   refine⟨rfl,⟨λb o e=>?_,λb o e=>?_⟩,os,ab⟩
   ·by_cases z:b=T
    ·subst z;rw[M]at e
     cases e
     obtain⟨al,g⟩:=gT;exact .inr (.inl ⟨(l.tab M).isCodeTable,rfl,#[],al,rfl,g⟩)
    ·exact .inl (kp b o z e)
   ·by_cases z:b=T
    ·subst z;obtain⟨al,g⟩:=gT;exact⟨_,g⟩
    ·exact⟨o,kp b o z e⟩
theorem walk_ofT{l:IP}{n k:Nat}{q:Program}{A:List Str}{XP:(Str->Option Value)->Heap->Prop}{YP:World->Heap->Prop}{d df:DefRec}{K:Params->ED}{CX:CXT}{sp:ED->Addr->Sp}{x fn:Str}
  (t:l.most=some n) (ac:n<=sizeLine) (ab:d.params.defaults = []) (L:Room k callerA) (hY:∀(w:World)(h:Heap),YP w h->(K w.params).In h)
  (y:(recsOf q).find? (λe=>e.name == fn)=some df)
  (F:∀(w:World)(mg:Str->Option Value)(p:Addr)(h:Heap),(K w.params).In h->h.Ns mainGlobals mg->mg d.name=some (.ref p)->∃ fd:FuncData,(∀(s:Shared)(u:Value),BindsTo s fd ⟨[u],[]⟩ [(x,u)]) /\
   ∃ c T,G9 (K w.params) fn=some (c,T)/\(K w.params).lookup T=none/\∀ base:Heap,(K w.params).In base->base.Ns mainGlobals mg->GY base c T->Bm mg base->FnOk l.prog w (K w.params) mg base CX k p fd [x] (sp (K w.params) T))
  (B:∀(K:ED)(T:Addr)(H:Hp)(a:Addr)(ns:List Int),ns.length<=n->H T=some (.tbl #[])->SqL K H a (ns.map V.int)->sp K T [.ref a] H (λv _=>v=.bl true) λ_ _ _=>False)
  (am:∀(H:Hp)(s:Shared)(e:Value)(s':Shared),CX [] H s (λ_ _ _=>False) e s'->False) :
  PySem.W.WalkO q A XP YP l.row.toRowW d [] (λf vs=>PySem.call f vs):=by
 refine Att.attach_call t ab λw an z mg mb p o i m M a vs ns G Y N hd O al I aa D Q=>?_;have KX:=hY w _ Y;obtain⟨fd,j,c,T,r,nT,hF⟩:=F w mg p _ KX G.T.g al;obtain⟨E,t2⟩:=PySem.W.tab_of G.T KX y r;exact yQ KX G.T.g G.T.b G.T.builtins G.T.nolimit Q E t2 nT G.T.bmain I aa (FF D ac) L hF j (λH J C=>B _ T H a ns D J C) λH e s'=>am H z e s'
theorem op_neE{X:Cx}(f:X.A.units+64<cLine):OpR X (compareOp .NotEq) (λx y H Q=>∃ a b kvs,x=.ref a/\y=.ref b/\H a=some (.dK kvs)/\H b=some (.dK [])/\Q (.bl (!kvs.isEmpty)) H):=by
 intro B s Y H x y v u Q I c m h;obtain⟨a,b,kvs,rfl,rfl,E,G,q⟩:=h
 cases c
 cases m
 obtain⟨_,D,N,g,O⟩:=wc I.hok E;obtain⟨_,i,j,d,k⟩:=wc I.hok G;have w:=g.length;have t:=d.length;have L:j = []:=IJ t.symm;subst L;refine PySem.W.keq_ne (r:=true) D i O k (by omega) (λe=>?_) ⟨.bl (!(N.length == 0&&true)),H,I,rfl,?_⟩
 ·have T:N = []:=IJ e
  subst T;exact .nil
 ·cases kvs with
  |nil =>
   cases N with
   |nil=>exact q
   |cons p r=>cases w
  |cons p r =>
   cases N with
   |nil=>cases w
   |cons p r=>exact q
noncomputable def lexB:List (Int×Int)->Bool
 |[]=>false
 | (x,y)::r=>if x=y then lexB r else decide (x<y)
section
variable{prog:Program}{w:World}{A:Around}{E:Value->Shared->Prop}{s:Shared}
noncomputable def Ps:List (Value×Value)->List (Int×Int)->Prop
 |[],[]=>True
 | (u,v)::r,(x,y)::q=>(∃ t,u=.int x t)/\(∃ t,v=.int y t)/\Ps r q
 |_,_=>False
theorem CN{a b:Addr}{m ob:Obj}{us vs:Array Value}{p O:Nat}{ps:List (Int×Int)}{P:PySem.Fin->Shared->Prop}(G:s.heap.get? a=some m)(D:m.data=.seq us p)(H:s.heap.get? b=some ob) (j:ob.cls=.type "tuple") (B:ob.data=.seq vs O)
  (M:Ps (us.toList.zip vs.toList) ps) (hl:us.size=vs.size) (h:P (.done (.ret (.bool (lexB ps)))) s):wpAny (model prog w) A (Builtin.«tuple.__lt__» ⟨[.ref a,.ref b],[]⟩) P E s:=by
 show wpAny _ _ (isInstance (.ref b) (.type "tuple") >>= _) _ _ s;refine wpAny_bind (wpAny_isInstance (T:="tuple") ⟨ob,H,j⟩ isSubtype_tuple_tuple ?_);simp only[Bool.not_true,G2,if_false];refine wpAny_bind (wpAny_tupleItemsOf G D (wpAny_bind (wpAny_tupleItemsOf H B (wpAny_bind ?_))));refine wpAny_forIn_list _ (λrest r g=>r.1=none/\g=s/\∃ q,Ps rest q/\lexB q=lexB ps) _ ?_ ?_ _ _ ⟨rfl,rfl,ps,M,rfl⟩
 ·rintro⟨u,v⟩ rest r g ⟨L,rfl,q,d,e⟩;match q,d with
  | (x,y)::q,⟨⟨t,J⟩,⟨n,C⟩,N⟩ =>
   subst J;subst C;refine wpAny_bind (wpAny_eqBool_int ?_);by_cases c:x=y
   ·have:(x == y)=true:=by simp[c]
    rw[this];simp only[Bool.not_true,G2,if_false];refine wpAny_pure ⟨rfl,rfl,q,N,?_⟩;rw[← e];show lexB q=if x=y then lexB q else decide (x<y);rw[if_pos c]
   ·have:(x == y)=false:=by simp[c]
    rw[this];simp only[Bool.not_false,if_true];have Q:lexB ps=decide (x<y):=by
     rw[← e];show(if x=y then lexB q else decide (x<y))=_;rw[if_neg c]
    rw[Q]at h;refine wpAny_bind (wpAny_rule (wpAny_bind (CmpOf.ints_lt (prog:=prog) (w:=w) (A:=A) (P:=λ(i:Nat) v=>∃ t,v=.int (if i=0 then x else y) t) (λi=>if i=0 then x else y) (λi v h=>h) 0 1 _ _ _ _ _ ⟨t,rfl⟩ ⟨n,rfl⟩ ?_)));exact wpAny_bind (wpAny_pure (wpAny_pure (wpAny_pure h)))
 ·rintro⟨f,l⟩ g ⟨L,rfl,q,d,e⟩;simp only at L;subst L;have k:q = []:=by
   cases q with
   |nil=>rfl
   |cons z q=>exact d.elim
  subst k;have o:Builtin.Tuple.tupleCompareSizes CmpOp.Lt us.size vs.size=Value.bool (lexB ps):=by
   rw[← e,hl];show Value.bool (decide (vs.size<vs.size))=Value.bool false;rw[decide_eq_false (FG _)]
  show wpAny _ _ (ret (Builtin.Tuple.tupleCompareSizes CmpOp.Lt us.size vs.size)) _ _ _;rw[o];exact wpAny_pure h
theorem tup_lt{a b:Addr}{m ob:Obj}{us vs:Array Value}{p O:Nat}{ps:List (Int×Int)}{Q:Value->Shared->Prop}(G:s.heap.get? a=some m) (ca:m.cls=.type "tuple") (D:m.data=.seq us p) (H:s.heap.get? b=some ob) (j:ob.cls=.type "tuple") (i:ob.data=.seq vs O)
  (M:Ps (us.toList.zip vs.toList) ps) (hl:us.size=vs.size) (f:A.units<cLine) (h:Q (.bool (lexB ps)) s):wpAny (model prog w) A (richCompare .Lt (.ref a) (.ref b)) Q E s:=by
 refine wpAny_richCompare_same_room (op:=.Lt) (T:="tuple") ⟨m,G,ca⟩ ⟨ob,H,j⟩ PySem.F.slot_tuple_lt (wpAny_call_entry PySem.F.slot_tuple_lt ⟨m,G,ca⟩ PySem.F.entry_tuple_lt ?_ (PySem.F.args_tuple_lt_2 _ _)) f;exact CN G D H j i M hl ⟨_,rfl,(λz=>by cases z),h⟩
theorem yK{J S:Addr}{fp:List Addr}{n:Nat}{P:Nat->Value->Prop}{St:Nat->Heap->Prop}{g:Heap}{R:Result->Shared->Prop}(W:Walks prog w A.in1 J fp [J] n P St)(bt:Nat->Nat->Bool)(gJ:g.get? J=none)(gS:g.get? S=none)(N:S≠J)(l:S∉fp)
  (ab:∀ i j u v,i<n->j<n->P i u->P j v->∀(h:Heap)(tk:Nat)(Q:Value->Shared->Prop)(E:Value->Shared->Prop),Kp g h->Q (.bool (bt i j)) { s with heap:=h,toks:=tk }->wpAny (model prog w) A.in1 (richCompare .Lt u v) Q E { s with heap:=h,toks:=tk })
  (fin:∀ v h' M,P (argBest bt (n-1)) v->Kp g h'->R (.ok (.ret v)) { s with heap:=h',toks:=M }) :
  ∀(r j:Nat)(h:Heap)(tk:Nat)(a:Value)(c:Nat),n-(j+1)=r->j+1<=n->Kp g h->h.get? S=some (seqObj "list" #[a,a] c)->St (j+1) h->P (argBest bt j) a->argBest bt j<n ->
   codeAny (model prog w) A (.builtin "min.loop" ⟨[.ref J,.none,.ref S],[]⟩) R { s with heap:=h,toks:=tk }:=by
 intro r;induction r with
 |zero =>
  intro j h tk a c er d kg I st x G;have y:j+1=n:=by omega
  refine codeAny_builtin GC ?_;rw[Around.under_plainId Fx _];refine wpAny_bind (m:=seqItems? (.ref S)) (wpAny_seqItems I rfl ?_);show wpAny _ A.in1 (tryCatch (pyNext (.ref J)) _ >>= _) _ _ _;refine wpAny_bind (wpAny_tryCatch (W.done _ _ _ (by rw[← y];exact st) λh' M D=>?_))
  have aa:=kg.but gJ D;have O:=D S _ (by simpa using N) I
  have H:=Heap.SameBut.update h' S (Obj.mapSeq λ_=>(#[]:Array Value));refine wpAny_bind (m:=updateSeq S λ_=>#[]) (wpAny_updateSeq O rfl (wpAny_bind (wpAny_letGo (wpAny_pure ?_))));exact fin a _ _ (by rw[← y];exact x) (aa.same gS H)
 |succ r Y =>
  intro j h tk a c er d kg I st x G;have lt:j+1<n:=by omega
  refine codeAny_builtin GC ?_;rw[Around.under_plainId Fx _];refine wpAny_bind (m:=seqItems? (.ref S)) (wpAny_seqItems I rfl ?_);show wpAny _ A.in1 (tryCatch (pyNext (.ref J)) _ >>= _) _ _ _;refine wpAny_bind (wpAny_tryCatch (W.item (j+1) _ _ _ lt st λv k q B L f=>?_));have T:=kg.but gJ f;have p:=f S _ (by simpa using N) I
  show wpAny _ A.in1 (tryCatch (holding [v,v] (richCompare .Lt v a >>= _)) _ >>= _) _ _ _;refine wpAny_bind (wpAny_tryCatch (wpAny_holding (wpAny_bind (ab (j+1) (argBest bt j) v a lt G B x k q _ _ T ?_))));refine wpAny_bind (wpAny_holding (wpAny_truthy_bool (wpAny_bind (wpAny_letGo (wpAny_pure ?_)))));have eA:argBest bt (j+1)=if bt (j+1) (argBest bt j)=true then j+1 else argBest bt j:=rfl
  cases C:bt (j+1) (argBest bt j) with
  |true =>
   have H:=Heap.SameBut.update k S (Obj.mapSeq λ_=>#[v,v]);obtain⟨c2,t⟩:∃ c2,(k.update S (Obj.mapSeq λ_=>#[v,v])).get? S=some (seqObj "list" #[v,v] c2):=⟨_,get?_update_seq p λ_=>#[v,v]⟩;simp;refine wpAny_bind (wpAny_updateSeq p rfl (wpAny_bind (wpAny_letGo ?_)));rw[if_pos C]at eA;refine wpAny_pure ⟨plainId_quiet Fx _,Y (j+1) _ _ v c2 (by omega) lt (T.same gS H) t (W.frame _ _ _ L λb G o e=>(H.2 b (λz=>l (z▸G))).trans e) (by rw[eA];exact B) (by rw[eA];exact lt)⟩
  |false =>
   simp;rw[if_neg (by rw[C];simp)]at eA
   refine wpAny_bind (wpAny_letGo (wpAny_pure ?_));refine⟨plainId_quiet Fx _,Y (j+1) _ _ a c (by omega) lt T p L (by rw[eA];exact x) (by rw[eA];exact G)⟩
theorem Bl{l:Addr}{vs:List Value}{Q:Value->Shared->Prop}(bt:Nat->Nat->Bool)(q:A.handled=none)(hl:s.heap.IsList l vs.toArray)(N:0<vs.length)
  (x:∀(i j:Nat)(u v:Value),vs[i]?=some u->vs[j]?=some v->∀(h:Heap)(tk:Nat)(Q:Value->Shared->Prop)(E:Value->Shared->Prop),Kp s.heap h->Q (.bool (bt i j)) { s with heap:=h,toks:=tk }->wpAny (model prog w) A.in1 (richCompare .Lt u v) Q E { s with heap:=h,toks:=tk })
  (fin:∀ v h' M,vs[argBest bt (vs.length-1)]?=some v->Kp s.heap h'->Q v { s with heap:=h',toks:=M }) :
  wpAny (model prog w) A (call (.builtin "min") [.ref l]) Q E s:=by
 have Y:(toString "min"++toString ".loop" : String) = "min.loop":=by decide
 obtain⟨ol,ab,_⟩:=id hl;have ll:l<s.heap.objs.size:=Heap.lt_size ab;refine kmk_tree PySem.F.kind_min PySem.F.plain_min PySem.F.entry_min (PySem.F.args_min1 _) ?_;show wpAny _ A.in1 (Builtin.Builtins.bindParams "min" ["key","default"] 0 ⟨[],[]⟩ >>= _) _ _ s;refine wpAny_bind (wpAny_of_eq (show Builtin.Builtins.bindParams "min" ["key","default"] 0 ⟨[],[]⟩=pure [none,none] from rfl) (wpAny_bind (wpAny_pure (wpAny_bind (wpAny_pyIter_list hl ?_)))));refine wpAny_bind (wpAny_newList ?_ (FT _));rw[Y];obtain⟨O,c⟩:∃ O:Obj,O={ cls:=Value.type "list_iterator",data:=Data.fields #[Value.ref l,Value.int 0 0] }:=⟨_,rfl⟩;rw[← c];have sz:(s.heap.push O).objs.size=s.heap.objs.size+1:=by rw[Heap.size_push]
 have g:(s.heap.push O).objs.size≠s.heap.objs.size:=by omega
 have k:l≠s.heap.objs.size:=Fo ll;have n:∀ b,s.heap.objs.size<=b->s.heap.get? b=none:=λb G=>Heap.get?_none_of_le G;have y:Kp s.heap ((s.heap.push O).push (seqObj "list" #[] 0)):=λb o e=>Heap.get?_push_of_some _ (Heap.get?_push_of_some _ e);have I:((s.heap.push O).push (seqObj "list" #[] 0)).get? (s.heap.push O).objs.size=some (seqObj "list" #[] 0):=Heap.get?_push_size _ rfl;have hJ:((s.heap.push O).push (seqObj "list" #[] 0)).get? s.heap.objs.size=some O:=Heap.get?_push_of_some _ (Heap.get?_push_size _ (by rw[c];rfl))
 have W:=Walks.list (prog:=prog) (w:=w) (A:=A.in1) q s.heap.objs.size l k vs.toArray;have ac:vs.toArray.size=vs.length:=E9 ..;rw[ac]at W;have aa:∀ i j u v,i<vs.length->j<vs.length->vs.toArray[i]?=some u->vs.toArray[j]?=some v->∀(h:Heap)(tk:Nat)(Q:Value->Shared->Prop)(E:Value->Shared->Prop),Kp s.heap h->Q (.bool (bt i j)) { s with heap:=h,toks:=tk }->wpAny (model prog w) A.in1 (richCompare .Lt u v) Q E { s with heap:=h,toks:=tk }:=λi j u v _ _ J C=>x i j u v (by simpa using J) (by simpa using C)
 refine wpAny_pure ⟨plainId_quiet Fx _,codeAny_builtin GC ?_⟩;rw[Around.under_plainId Fx _];refine wpAny_bind (m:=seqItems? (.ref (s.heap.push O).objs.size)) (wpAny_seqItems I rfl ?_);show wpAny _ A.in1 (tryCatch (pyNext (.ref s.heap.objs.size)) _ >>= _) _ _ _;refine wpAny_bind (wpAny_tryCatch (W.item 0 _ _ _ N ⟨⟨O,hJ,by rw[c],by rw[c];rfl⟩,hl.at λo e=>y _ _ e⟩ λv J r B L f=>?_))
 have T:=y.but (n _ (EI _)) f;have p:=f _ _ (by simpa using g) I
 have H:=Heap.SameBut.update J (s.heap.push O).objs.size (Obj.mapSeq λ_=>#[v,v]);obtain⟨c2,t⟩:∃ c2,(J.update (s.heap.push O).objs.size (Obj.mapSeq λ_=>#[v,v])).get? (s.heap.push O).objs.size=some (seqObj "list" #[v,v] c2):=⟨_,get?_update_seq p λ_=>#[v,v]⟩;have a:(s.heap.push O).objs.size∉[s.heap.objs.size,l]:=λz=>by
  rcases EE.mp z with z | z
  ·exact g z
  ·have d:=Fi.mp z
   exact absurd ll (by rw[← d,sz];exact IH (GW _))
 refine wpAny_bind (m:=updateSeq _ λ_=>#[v,v]) (wpAny_updateSeq p rfl ?_);rw[Y];refine wpAny_pure ⟨plainId_quiet Fx _,yK W bt (n _ (EI _)) (n _ (by omega)) g a aa (λv h' M e D=>fin v h' M (by simpa using e) D) _ 0 _ _ v c2 rfl N (T.same (n _ (by omega)) H) t (W.frame _ _ _ L λb G o e=>(H.2 b (λz=>a (z▸G))).trans e) B N⟩
end
noncomputable abbrev T3:=Int×Int×Int
noncomputable def TrA(H:Hp)(v:V)(t:T3):Prop:=∃ a,v=.ref a/\H a=some (.tup [.int t.1,.int t.2.1,.int t.2.2])
noncomputable def lt3(a b:T3):Bool:=lexB [(a.1,b.1),(a.2.1,b.2.1),(a.2.2,b.2.2)]
theorem lt3_le{a b:T3}(h:lt3 a b=true):a.1<=b.1:=by
 unfold lt3 lexB at h;by_cases c:a.1=b.1
 ·omega
 ·rw[if_neg c]at h;have:=of_decide_eq_true h;omega
theorem lt3_ge{a b:T3}(h:lt3 a b=false):b.1<=a.1:=by
 unfold lt3 lexB at h;by_cases c:a.1=b.1
 ·omega
 ·rw[if_neg c]at h;have:=of_decide_eq_false h;omega
theorem best3(W:Nat->T3):∀ k,argBest (λi j=>lt3 (W i) (W j)) k<=k/\∀ j,j<=k->(W (argBest (λi j=>lt3 (W i) (W j)) k)).1<=(W j).1
 |0=>by
  refine⟨EI _,λj E=>?_⟩;have e:j=0:=by omega
  rw[e];exact F6 _
 |k+1=>by
  obtain⟨J,C⟩:=best3 W k;have e:argBest (λi j=>lt3 (W i) (W j)) (k+1)=if lt3 (W (k+1)) (W (argBest (λi j=>lt3 (W i) (W j)) k))=true then k+1 else argBest (λi j=>lt3 (W i) (W j)) k:=rfl;rw[e]
  cases c:lt3 (W (k+1)) (W (argBest (λi j=>lt3 (W i) (W j)) k)) with
  |true =>
   rw[if_pos rfl];have G:=lt3_le c;refine⟨EI _,λj E=>?_⟩;by_cases z:j=k+1
   ·subst z;exact F6 _
   ·have:=C j (by omega);omega
  |false =>
   rw[if_neg Fd];have G:=lt3_ge c;refine⟨by omega,λj E=>?_⟩
   by_cases z:j=k+1
   ·subst z;exact G
   ·exact C j (by omega)
noncomputable def rMin3(K:ED):List V->Hp->VK->Prop:=λM H Q=>∃ p v l,M = [.ref p]/\SqL K H p v/\LsAt TrA H v l/\l≠[]/\∀(i:Nat)(y:V)(t:T3),v[i]?=some y->l[i]?=some t->(∀ n∈l,t.1<=n.1)->Q y H
theorem zY{X:Cx}(l:X.calm=true)(hu:X.A.units+64<cLine):jq X (.builtin "min") (rMin3 X.K):=by
 intro B s Y H M d Q I r h;obtain⟨p,J,y,rfl,hS,hL,x,q⟩:=h;obtain⟨u,rfl,T⟩:=pH r
 cases T
 obtain⟨c,rv,pl,_⟩:=I.list hS;have yl:=hL.1;have il:=rv.length;have wp:0<y.length:=List.length_pos_iff.mpr x;let W:Nat->T3:=λi=>y.getD i (0,0,0);have Wi:∀ i t,y[i]?=some t->W i=t:=λi t e=>by show y.getD i (0,0,0)=t;rw[Fs,e];rfl
 have look:∀(i:Nat)(v:Value),c[i]?=some v->∃ a o y1 y2 y3 n,v=.ref a/\s.heap.get? a=some o/\o.cls=.type "tuple"/\o.data=.seq #[y1,y2,y3] n/\(∃ t,y1=.int (W i).1 t)/\(∃ t,y2=.int (W i).2.1 t)/\(∃ t,y3=.int (W i).2.2 t):=λi v e=>by
  have f:i<J.length:=by rw[il];exact(EB.mp e).1
  obtain⟨t,g,a,ea,E⟩:=hL.get (EA f);obtain⟨v',ev,al⟩:=rv.get (EA f);rw[e]at ev
  cases ev
  rw[ea]at al;obtain rfl:v=.ref a:=al;obtain⟨_,ap,rt,o,N,ab,n,hd⟩:=I.hok a _ E;rw[Wi i t g];obtain⟨y1,u1,rfl,C,c1⟩:=Vals.unc rt;obtain⟨y2,u2,rfl,r2,c2⟩:=Vals.unc c1;obtain⟨y3,u3,rfl,r3,c3⟩:=Vals.unc c2;cases c3
  exact⟨a,o,y1,y2,y3,n,rfl,N,ab,hd,C,r2,r3⟩
 refine Bl (vs:=c) (λi j=>lt3 (W i) (W j)) (I.ok.hd l) pl.isList (by omega) ?_ ?_
 ·intro i j u v an ac h tk Q' E' D hQ;have am:X.A.in1.units<cLine:=by
   have e:X.A.in1.units<=X.A.units+64:=by simp[Around.in1]
   omega
  obtain⟨a,oa,y1,y2,y3,n,rfl,ga,ca,da,C,r2,r3⟩:=look i u an;obtain⟨b,ob,z,w,z3,m,rfl,gb,cb,db,O,L,q3⟩:=look j v ac;exact tup_lt (D _ _ ga) ca da (D _ _ gb) cb db (ps:=[((W i).1,(W j).1),((W i).2.1,(W j).2.1),((W i).2.2,(W j).2.2)]) ⟨C,O,r2,L,r3,q3,trivial⟩ rfl am hQ
 ·intro v G tk e D;obtain⟨b1,b2⟩:=best3 W (c.length-1);have f:argBest (λi j=>lt3 (W i) (W j)) (c.length-1)<J.length:=by omega
  obtain⟨t,g,_⟩:=hL.get (EA f);obtain⟨v',ev,al⟩:=rv.get (EA f);rw[e]at ev
  cases ev
  refine⟨_,H,I.kept D,al,q _ _ t (EA f) g λt' aa=>?_⟩;obtain⟨j,k,ej⟩:=Gj aa;have:=b2 j (by omega)
  rw[Wi _ t g,Wi j t' (by rw[EA k,ej])]at this
  exact this
end L2
namespace PyProof.Rows
open PySem
local macro_rules | `(tactic| walk_at "countRun") => do
 let n:=Lean.mkIdent (Lean.mkPrivateNameCore `PySem.Builtin.List.W1All `PySem.Builtin.countRun)
 `(tactic| delta $n)
local macro_rules | `(tactic| walk_at "sortRuns") => do
 let n:=Lean.mkIdent (Lean.mkPrivateNameCore `PySem.Builtin.List.W1All `PySem.Builtin.sortRuns)
 `(tactic| delta $n)
local macro_rules | `(tactic| walk_at "st") => `(tactic| try dsimp -zeta -zetaHave only)
local macro_rules | `(tactic| walk_at "l3") => `(tactic| (extract_lets -underBinder +onlyGivenNames a b c; subst a b c))
local macro_rules | `(tactic| walk_at "l1") => `(tactic| (extract_lets -underBinder +onlyGivenNames a; subst a; try dsimp -zeta -zetaHave only))
local macro_rules | `(tactic| walk_at "l2") => `(tactic| (extract_lets -underBinder +onlyGivenNames a b; subst a b; try dsimp -zeta -zetaHave only))
local macro_rules | `(tactic| walk_at "l4") => `(tactic| (extract_lets -underBinder +onlyGivenNames a b c d; subst a b c d; try dsimp -zeta -zetaHave only))
variable{prog:Program}{w:World}{A:Around}{E:Value->Shared->Prop}{s:Shared}
theorem rE{σ α:Type}{M:Model}{A:Around}{E:Value->Shared->Prop}{s:Shared}{c:Prop} [Decidable c] {a b:StateT σ Sem α} {Q:α->σ->Prop} {st:σ} (h:c) (q:wpS M A E s a Q st):wpS M A E s (if c then a else b) Q st:=by rw[if_pos h];exact q
theorem ju{σ α:Type}{M:Model}{A:Around}{E:Value->Shared->Prop}{s:Shared}{c:Prop} [Decidable c] {a b:StateT σ Sem α} {Q:α->σ->Prop} {st:σ} (h:¬ c) (q:wpS M A E s b Q st):wpS M A E s (if c then a else b) Q st:=by rw[if_neg h];exact q
structure SB(lo:Nat)(st0 st:SortSt):Prop where
 perm:(arrOf st).Perm (arrOf st0)
 kind:kindOf st=oneType'
 failed:failedOf st=failedOf st0
 pend:pendingOf st=pendingOf st0
 low:∀ i,i<lo->(arrOf st)[i]?=(arrOf st0)[i]?
theorem SB.set{lo:Nat}{st0 st:SortSt}(h:SB lo st0 st){xs:Array Keyed}(M:xs.Perm (arrOf st))(hl:∀ i,i<lo->xs[i]?=(arrOf st)[i]?):SB lo st0 (setArr st xs) :=
 ⟨M.trans h.perm,h.kind,h.failed,h.pend,λi I=>(hl i I).trans (h.low i I)⟩
theorem SB.size{lo:Nat}{st0 st:SortSt}(h:SB lo st0 st):(arrOf st).size=(arrOf st0).size:=h.perm.size_eq
noncomputable def Sin(xs:Array Keyed)(lo n:Nat):Prop:=∀ i j,lo<=i->i<=j->j<lo+n->K xs i<=K xs j
theorem wW{lo:Nat}{st0 st:SortSt}{i j:Nat}{Q:Option Bool->SortSt->Prop}(O:SB lo st0 st)(d:IntKeys (arrOf st0))(I:i<(arrOf st0).size)(hj:j<(arrOf st0).size)
  (h:Q (some (decide (K (arrOf st) i<K (arrOf st) j))) st):wpS (model prog w) A E s ((sortPriv% PySem.Builtin.ltAt) i j) Q st:=by
 have b:∀ i,i<(arrOf st0).size->∃ t q,(arrOf st)[i]?=some (.int (K (arrOf st) i) t,q):=λi I=>by
  have a:i<(arrOf st).size:=by rw[O.size];exact I
  obtain⟨n,t,f⟩:=d (arrOf st)[i] ((Array.perm_iff_toList_perm.mp O.perm).mem_iff.mp (by simp))
  have e:(arrOf st)[i]?=some (arrOf st)[i]:=getElem?_pos _ i a;refine⟨t,(arrOf st)[i].2,?_⟩;unfold K;rw[e];show some (arrOf st)[i]=some (.int (numOf (arrOf st)[i].1) t,(arrOf st)[i].2);rw[f];exact congrArg some (Prod.ext f rfl)
 obtain⟨t,p,T⟩:=b i I;obtain⟨u,q,L⟩:=b j hj;exact wpS_ltAt O.kind T L h
theorem Aq{lo:Nat}{st0 st:SortSt}{i j:Nat}{Q:Unit->SortSt->Prop}(O:SB lo st0 st)(hl:lo<=i)(hj:j<=(arrOf st0).size)(h:∀ r,SB lo st0 r->(∀ k,K (arrOf r) k=if i<=k/\k<j then K (arrOf st) (i+j-1-k) else K (arrOf st) k)->Q () r) :
  wpS (model prog w) A E s ((sortPriv% PySem.Builtin.reverseSlice) i j) Q st:=by
 have a:j<=(arrOf st).size:=by rw[O.size];exact hj
 refine wpS_reverse (h _ (O.set (mirror_perm _ _ _ _) λk g=>?_) λk=>K_mirror a k);rw[getElem?_mirror_all a,if_neg (by omega)]
theorem CK{σ α:Type}{M:Model}{m:StateT σ Sem α}{Q:α->σ->Prop}{st:σ}(h:∀ R:α->σ->Prop,(∀ a r,Q a r->R a r)->wpS M A E s m R st):wpS M A E s m Q st:=h Q λ_ _ q=>q
noncomputable def qU:Nat->Nat->StateT SortSt Sem (Option Nat):=sortPriv% PySem.Builtin.countRun
theorem vq{st0:SortSt}{lo nrem:Nat}{Q:Option Nat->SortSt->Prop}(g:kindOf st0=oneType')(u:IntKeys (arrOf st0))(f:lo+nrem<=(arrOf st0).size)(v:2<=nrem)(mono:Sin (arrOf st0) lo nrem∨∀ i j,lo<=i->i<j->j<lo+nrem->K (arrOf st0) j<K (arrOf st0) i)
  (h:∀ r,SB lo st0 r->Sin (arrOf r) lo nrem->Q (some nrem) r):wpS (model prog w) A E s (qU lo nrem) Q st0:=by
 have O:SB lo st0 st0:=⟨Array.Perm.refl _,g,rfl,rfl,λ_ _=>rfl⟩;unfold qU;walk_at "countRun"
 refine wpS_bind (wpS_mono (wpS_forRange (I:=λx c r=>r=st0/\c=(none,x)/\(Sin (arrOf st0) lo nrem∨x=1))
  (Q:=λc r=>r=st0/\((c=(none,nrem)/\Sin (arrOf st0) lo nrem)∨(c=(none,1)/\∀ i j,lo<=i->i<j->j<lo+nrem->K (arrOf st0) j<K (arrOf st0) i))) ?step ?fin ⟨rfl,rfl,.inr rfl⟩) ?post)
 case fin =>
  rintro c r ⟨rfl,rfl,p⟩;rw[show max 1 nrem=nrem by omega]at p ⊢
  exact⟨rfl,.inl ⟨rfl,p.resolve_right (by omega)⟩⟩
 case step =>
  rintro x c r J C ⟨rfl,rfl,p⟩;dsimp only;refine wpS_bind (wW O u (by omega) (by omega) ?_)
  rcases mono with m | m
  ·have z:¬ K (arrOf r) (lo+x)<K (arrOf r) (lo+x-1):=by
    have:=m (lo+x-1) (lo+x) (by omega) (by omega) (by omega)
    omega
   simp only[z,decide_false,G2,if_false];exact wpS_pure ⟨rfl,rfl,.inl m⟩
  ·have z:K (arrOf r) (lo+x)<K (arrOf r) (lo+x-1):=m _ _ (by omega) (by omega) (by omega)
   have n:x=1:=by
    rcases p with q | q
    ·have:=q (lo+x-1) (lo+x) (by omega) (by omega) (by omega)
     omega
    ·exact q
   subst n;simp only[z,decide_true,if_true];exact wpS_pure ⟨rfl,.inr ⟨rfl,m⟩⟩
 case post =>
  rintro c r ⟨rfl,⟨rfl,p⟩ | ⟨rfl,m⟩⟩
  ·walk_at "st";walk_at "l2";refine rE (by simp) ?_
   exact wpS_pure (h r O p)
  walk_at "st";walk_at "l2";refine ju (by simp;omega) ?_
  extract_lets -underBinder +onlyGivenNames jp;clear_value (y:jp=_);refine ju (by omega) ?_
  rw[y];clear y jp;walk_at "st";refine wpS_bind (wpS_lift (wpAny_rule ⟨rfl,?_⟩));refine wpS_bind (wpS_mono (wpS_forRange (I:=λx c l=>l=r/\c=(none,x,0)) (Q:=λc l=>l=r/\c=(none,nrem,0)) ?dstep ?dfin ⟨rfl,rfl⟩) ?dpost)
  case dfin =>
   rintro c l ⟨rfl,rfl⟩;rw[show max (1+1) nrem=nrem by omega]
   exact⟨rfl,rfl⟩
  case dstep =>
   rintro x c l J C ⟨rfl,rfl⟩;dsimp only;refine wpS_bind (wW O u (by omega) (by omega) ?_)
   have z:K (arrOf l) (lo+x)<K (arrOf l) (lo+x-1):=m _ _ (by omega) (by omega) (by omega)
   simp only[z,decide_true,if_true];refine ju (by omega) ?_
   exact wpS_pure ⟨rfl,rfl⟩
  case dpost =>
   rintro c l ⟨rfl,rfl⟩;walk_at "st";walk_at "l4";extract_lets -underBinder +onlyGivenNames jp;clear_value (y:jp=_);refine ju (by omega) ?_
   rw[y];clear y jp;walk_at "st";refine wpS_bind (Aq O (EI _) (by omega) λb d o=>?_)
   have k:Sin (arrOf b) lo nrem:=λi j B N T=>by
    rw[o,o,if_pos (by omega),if_pos (by omega)]
    by_cases z:i=j
    ·rw[z];exact F6 _
    ·exact Int.le_of_lt (m _ _ (by omega) (by omega) (by omega))
   refine wpS_bind (wpS_mono (wpS_forRange (I:=λx c r=>r=b/\c=(none,x)/\x=nrem) (Q:=λc r=>r=b/\c=(none,nrem)) ?ustep ?ufin ⟨rfl,rfl,rfl⟩) ?upost)
   case ufin =>
    rintro c a ⟨rfl,rfl,e⟩;exact⟨rfl,by rw[e]⟩
   case ustep =>
    rintro x c a J C ⟨rfl,rfl,e⟩;omega
   case upost =>
    rintro c a ⟨rfl,rfl⟩;exact wpS_pure (h a d k)
theorem DL:∀ n,n<100->64<=n->(sortPriv% PySem.Builtin.minRun) n n 0<=n:=by decide
noncomputable def pK:StateT SortSt Sem Unit:=sortPriv% PySem.Builtin.sortRuns
theorem wV{st:SortSt}{n:Nat}{Q:Unit->SortSt->Prop}(g:kindOf st=oneType')(p:failedOf st=none)(M:pendingOf st=#[])(u:IntKeys (arrOf st))(f:(arrOf st).size=n)(v:64<=n)(l:n<100)(mono:Sin (arrOf st) 0 n∨∀ i j,0<=i->i<j->j<0+n->K (arrOf st) j<K (arrOf st) i)
  (h:∀ r,(arrOf r).Perm (arrOf st)->failedOf r=none->Sin (arrOf r) 0 n->Q () r):wpS (model prog w) A E s pK Q st:=by
 unfold pK;walk_at "sortRuns";refine wpS_bind (wpS_get ?_);rw[show((sortPriv% PySem.Builtin.SortState.a) st).size=n from f];walk_at "st";walk_at "l3";have o:=DL n l v;generalize (sortPriv% PySem.Builtin.minRun) n n 0=t at o;refine wpS_bind (wpS_mono (wpS_forRange (I:=λx c r=>(x=0/\c=(none,0)/\r=st)∨(c=(none,n)/\(arrOf r).Perm (arrOf st)/\failedOf r=none/\Sin (arrOf r) 0 n/\(pendingOf r).size<=1)) (Q:=λc r=>c=(none,n)/\(arrOf r).Perm (arrOf st)/\failedOf r=none/\Sin (arrOf r) 0 n/\(pendingOf r).size<=1) ?step ?fin (.inl ⟨rfl,rfl,rfl⟩)) ?post)
 case fin =>
  rintro c r (⟨N,_⟩ | d)
  ·omega
  ·exact d
 case step =>
  rintro x c r _ O (⟨N,rfl,rfl⟩ | ⟨rfl,d⟩)
  rotate_left
  ·refine rE (EI _) ?_;exact wpS_pure ⟨rfl,d⟩
  refine ju (by omega) ?_
  refine CK λR k=>?_;refine wpS_bind (vq g u (by omega) (by omega) mono λL m q=>?_)
  walk_at "st";extract_lets -underBinder +onlyGivenNames nn jp;subst nn;clear_value (y:jp=_);refine ju (by omega) ?_
  rw[y];clear y jp;walk_at "st";refine wpS_bind (wpS_get ?_);walk_at "st";extract_lets -underBinder +onlyGivenNames jp;clear_value (y:jp=_);have C:pendingOf L=#[]:=m.pend.trans M;have Y:((sortPriv% PySem.Builtin.SortState.pending) L).back?=none:=by
   show(pendingOf L).back?=none;rw[C];rfl
  rw[Y];rw[y];clear y jp;walk_at "st";refine wpS_bind (wpS_modify (wpS_pure (k _ _ (.inr ⟨?_,m.perm,m.failed.trans p,q,?_⟩))))
  ·rw[Nat.sub_zero,Nat.zero_add]
  ·show((pendingOf L).push _).size<=1;rw[C];exact EI _
 case post =>
  rintro c r ⟨rfl,d1,d2,D,e⟩;walk_at "st";walk_at "l1";refine wpS_bind (wpS_mono (wpS_forRange (I:=λx c b=>c=(none,())/\b=r) (Q:=λc b=>c=(none,())/\b=r) ?fstep ?ffin ⟨rfl,rfl⟩) ?fpost)
  case ffin =>
   rintro c b ⟨rfl,rfl⟩;exact⟨rfl,rfl⟩
  case fpost =>
   rintro c b ⟨rfl,rfl⟩;exact wpS_pure (h b d1 d2 D)
  case fstep =>
   rintro x c b _ O ⟨rfl,rfl⟩;refine wpS_bind (wpS_get ?_);refine rE e ?_;exact wpS_pure ⟨rfl,rfl⟩
theorem ve{vs:List Value}{ns:List Int}(h:IntsAre vs ns):ns.length=vs.length:=by
 induction h with
 |nil=>rfl
 |cons n t _ Y=>rw[E7,E7,Y]
theorem vp{vs:List Value}{ns:List Int}(h:IntsAre vs ns){i:Nat}{x:Int}(O:ns[i]?=some x):K (pairsOf vs) i=x:=by
 have e:∃ t,vs[i]?=some (.int x t):=by
  induction h generalizing i with
  |nil=>cases O
  |cons n t _ Y =>
   cases i with
   |zero=>cases O;exact⟨t,rfl⟩
   |succ i=>exact Y O
 obtain⟨t,e⟩:=e;have z:(pairsOf vs)[i]?=some (.int x t,.int x t):=by
  unfold pairsOf;rw[Array.getElem?_zip_eq_some];exact⟨by simpa using e,by simpa using e⟩
 unfold K;rw[z];rfl
theorem yI{vs:List Value}{ns:List Int}(h:IntsAre vs ns)(o:ns.Pairwise (·<=·)∨ns.Pairwise (· > ·)):Sin (pairsOf vs) 0 vs.length∨∀ i j,0<=i->i<j->j<0+vs.length->K (pairsOf vs) j<K (pairsOf vs) i:=by
 have y:=ve h;rcases o with m | m
 ·refine .inl λi j _ q E=>?_;have J:=EA (show i<ns.length by omega)
  have C:=EA (show j<ns.length by omega)
  rw[vp h J,vp h C];by_cases z:i=j
  ·subst z;exact F6 _
  ·exact HI.mp m i j (by omega) (by omega) (by omega)
 ·refine .inr λi j _ q E=>?_;have J:=EA (show i<ns.length by omega)
  have C:=EA (show j<ns.length by omega)
  rw[vp h J,vp h C];exact HI.mp m i j (by omega) (by omega) q
theorem xK{a:Addr}{vs:List Value}{ns:List Int}{n:Nat}{P:Fin->Shared->Prop} (N:s.heap.get? a=some (seqObj "list" vs.toArray n)) (H:IntsAre vs ns) (hz:vs.length<=sizeLine) (o:ns.length<64∨(ns.length<100/\(ns.Pairwise (·<=·)∨ns.Pairwise (· > ·))))
  (h:∀(c:Array Value)(b:List Int),IntsAre c.toList b->b.Perm ns->b.Pairwise (·<=·)->P (.done (.ret .none)) { s with heap:=sortedHeap s.heap a vs c }) :
  wpAny (model prog w) A (Builtin.«list.sort» ⟨[.ref a],[]⟩) P E s:=by
 by_cases m:vs.length<64
 ·exact list_sort_tree N H m h
 obtain⟨k,l,rest,e⟩:∃ k l rest,vs=k::l::rest:=by
  match vs,m with
  |[],m=>exact absurd (by decide) m
  |[_],m=>exact absurd (by show 1<64;decide) m
  |k::l::rest,_=>exact⟨k,l,rest,rfl⟩
 have sz:vs.toArray.size=vs.length:=by simp
 have d:a<s.heap.objs.size:=Heap.lt_size N;rw[list_sort_plain];refine wpAny_bind (listItems_at N rfl (wpAny_bind (listUpdate_at N rfl ?_)));obtain⟨T,u⟩:∃ T,(s.heap.update a (Obj.mapSeq λ_=>#[])).get? a=some (seqObj "list" #[] T):=⟨_,get?_update_seq N (λ_=>#[])⟩;refine wpAny_bind (seqEpoch_at u rfl (wpAny_bind (wpAny_newTuple (wpAny_bind (wpAny_newList (wpAny_holding ?_))))));have x:(((s.heap.update a (Obj.mapSeq λ_=>#[])).push (seqObj "tuple" vs.toArray 0)).push (seqObj "list" #[] 0)).get? a=some (seqObj "list" #[] T):=by
  rw[Heap.get?_push_ne _ _ _ (by rw[size_push',Heap.size_update];exact Fo (Hc d)),Heap.get?_push_ne _ _ _ (by rw[Heap.size_update];exact Fo d)]
  exact u
 show wpAny (model prog w) A _ P E { s with heap:=((s.heap.update a (Obj.mapSeq λ_=>#[])).push (seqObj "tuple" vs.toArray 0)).push (seqObj "list" #[] 0) };have v:¬ vs.toArray.size<2:=by omega
 dsimp only;rw[if_neg v,if_neg v];have D:keyKind' vs.toArray=pure oneType':=by subst e;exact keyKind_ints H
 rw[D];refine wpAny_bind (wpAny_pure ?_);have y:=ve H;have z:=(o.resolve_left (by omega))
 have run:=wV (prog:=prog) (w:=w) (A:=A) (E:=E) (s:={ s with heap:=((s.heap.update a (Obj.mapSeq λ_=>#[])).push (seqObj "tuple" vs.toArray 0)).push (seqObj "list" #[] 0) }) (st:=SortSt.mk' oneType' (vs.toArray.zip vs.toArray) #[] 7 none) (n:=vs.length)
  (Q:=λ_ r=>(arrOf r).Perm (pairsOf vs)/\failedOf r=none/\Sin (arrOf r) 0 vs.length) rfl rfl rfl H.intKeys (pairsOf_size vs) (by omega) (by omega) (yI H z.2) λr O L t=>⟨O,L,t⟩
 refine wpAny_bind (wpAny_mono run ?_ λ_ _ e=>e);rintro⟨⟨⟩,r⟩ g ⟨rfl,M,p,f⟩;dsimp only;refine wpAny_bind (seqEpoch_at x rfl ?_);refine wpAny_bind (listUpdate_at x rfl ?_ (hsz2:=by refine FF (ID ((Array.size_map ..).trans (M.size_eq.trans (pairsOf_size _)))) ?_;omega))
 rw[p];simp only[bne_self_eq_false,G2,if_false];obtain⟨b,J,C,G⟩:=sorted_out H M (by rw[pairsOf_size];exact λi j q Y=>f i j (FT _) q (by omega))
 exact wpAny_pure (h _ b J C G)
theorem rL{l:Addr}{vs:List Value}{ns:List Int}{Q:Value->Shared->Prop}(hl:s.heap.IsList l vs.toArray)(H:IntsAre vs ns)(hz:vs.length<=sizeLine)(o:ns.length<64∨(ns.length<100/\(ns.Pairwise (·<=·)∨ns.Pairwise (· > ·))))
  (h:∀(c:Array Value)(b:List Int),IntsAre c.toList b->b.Perm ns->b.Pairwise (·<=·)->Q (.ref (s.heap.objs.size+1)) { s with heap:=sortedAll s.heap vs c }) :
  wpAny (model prog w) A (call (.builtin "sorted") [.ref l]) Q E s:=by
 refine Calls.call_function_entry kind_sorted plain_sorted entry_sorted (args_sorted1 _) ?_;unfold Builtin.«sorted»;refine wpAny_bind (m:=checkCount "sorted" 1 1 _) (wpAny_pure ?_);refine wpAny_bind (collect_list hl ?_ hz);refine wpAny_bind (wpAny_newList ?_ hz);have r:((s.heap.push (seqObj "list" #[] 0)).update s.heap.objs.size (Obj.mapSeq (·++vs.toArray))).objs.size=s.heap.objs.size+1:=by
  rw[Heap.size_update,size_push']
 have a:(((s.heap.push (seqObj "list" #[] 0)).update s.heap.objs.size (Obj.mapSeq (·++vs.toArray))).push (seqObj "list" vs.toArray 0)).get? (s.heap.objs.size+1)=some (seqObj "list" vs.toArray 0):=by
  rw[← r];exact Heap.get?_push_size _ rfl
 show wpAny _ _ _ _ _ { s with heap:=((s.heap.push (seqObj "list" #[] 0)).update s.heap.objs.size (Obj.mapSeq (·++vs.toArray))).push (seqObj "list" vs.toArray 0) };rw[r];refine wpAny_bind (wpAny_holding (wpAny_call_entry slot_list_sort ⟨_,a,rfl⟩ entry_list_sort (xK a H hz o λc b B N f=>⟨_,rfl,?_⟩) (args_list_sort _)));exact wpAny_pure ⟨_,rfl,h c b B N f⟩
end PyProof.Rows
namespace L2
open PySem PySem.Spec PyProof.Rows
section
variable{X:Cx}
noncomputable def Ci(K:ED):List V->Hp->VK->Prop:=λM H Q=>∃(p:Addr)(t:List Int),M = [.ref p]/\SqL K H p (t.map V.int)/\(t.length<64∨(t.length<100/\(t.Pairwise (·<=·)∨t.Pairwise (· > ·))))/\∀(l:Addr)(c:List Int),H l=none->c.Perm t->c.Pairwise (·<=·)->Q (.ref l) (upd H l (.lst (c.map V.int)))
theorem wF:jq X (.builtin "sorted") (Ci X.K):=by
 intro B s Y H M d Q I r h;obtain⟨p,t,rfl,T,o,q⟩:=h;obtain⟨u,rfl,z⟩:=pH r
 cases z
 obtain⟨A,O,L,i⟩:=I.list T;have f:=kA O;have D:=O.length;rw[EJ]at D i;refine rL L.isList f (by omega) o λc b v N G=>?_
 obtain⟨e,j⟩:=sortedAll_at s.heap A c;refine⟨.ref (s.heap.objs.size+1),_,I.laid (t':=s.toks) (λ_ _=>sortedAll_old) (GW _) (show bV X.prog X.w _ _ _ (.lst (b.map V.int)) from⟨?_,c.toList,e,wX v,?_⟩),rfl,q _ b (I.hok.fresh (GW _)) N G⟩
 ·rw[EJ,N.length_eq];omega
 ·exact j
end
end L2
namespace L2
open PySem PySem.Spec PyProof.Rows PySem.Calls Builtin Builtin.ObjectAttr Builtin.Getset_descriptor
noncomputable def mF(x D:Addr)(h:Heap):Prop:=∃ o,h.get? x=some o/\o.cls=.ref D
theorem mF.type{x D:Addr}{h:Heap}(M:Model)(I:mF x D h):HP M h (typeOf (.ref x)) (.ref D):=by
 obtain⟨o,a,b⟩:=I;exact b▸(PySem.W.Looks.ld a).andThen .now
structure ErC(K:ED)(D:Addr):Prop where
 ga:E3 K (.ref D) "__getattribute__" = some (some (.builtin "BaseException.__getattribute__"))
 gt:E3 K (.ref D) "__getattr__" = some none
 hb:Gy K D (.type "BaseException")=some true
 hd:Gz K D=true
 ha:E3 K (.ref D) "__class__" = some (some (.builtin "object.__class__"))
 hn:IA K (.builtin "object.__class__") "__get__" = some (some (.builtin "getset_descriptor.__get__"))
 tk:IL K (.builtin "object.__class__")=some true
 hm:Gy K D (.type "object")=some true
section
variable{prog:Program}{w:World}{A:Around}{E:Value->Shared->Prop}{s:Shared}{K:ED}{x D:Addr}
theorem DU{M:Model}{h:Heap}(X:K.In h)(e:ErC K D):HP M h (find (.ref x) (.ref D) "__class__") (.bind (.builtin "getset_descriptor.__get__") (.builtin "object.__class__")):=by
 have H:=Hv (M:=M) X e.ha;have L2:=PySem.W.looks_specialIn (M:=M) X e.hn;have c:=PySem.W.looks_takesIn (M:=M) X e.tk;refine H.andThen (L2.andThen ?_);exact(show HP M h (dataDescriptor? (some (.builtin "object.__class__")) (some (.builtin "getset_descriptor.__get__"))) (some (.builtin "getset_descriptor.__get__",.builtin "object.__class__")) from c.andThen .now).andThen (PySem.W.Looks.tag .now)
theorem kd_get{R:Except Value Flow->Shared->Prop}{tp:Value}(X:K.In s.heap)(I:mF x D s.heap)(e:ErC K D)
  (h:R (.ok (.ret (.ref D))) s):codeAny (model prog w) A (.call (.builtin "getset_descriptor.__get__") ⟨[.builtin "object.__class__",.ref x,tp],[]⟩) R s:=by
 obtain⟨q,g,b,t,os⟩:=s;have a:=I.type (model prog w);have H:=Il (M:=model prog w) X e.hm;refine codeAny_call_builtin PySem.W.KF.slot_gs.plain PySem.W.KF.entry_gs (PySem.W.KF.slot_gs.check _ _ _ _ _ _ _ _ PySem.W.KF.type_class (PySem.W.KF.args_gs _ _ _) ?_);unfold Builtin.«getset_descriptor.__get__» descrGet;rw[PySem.W.dga_obj];refine wpAny_bind (wpAny_pure ?_);unfold descrGetter descrCheckInstance descrNameAndClass isInstance;simp only[PySem.W.KF.owner_class];repeat lk
 refine⟨Code.quiet_builtin _ (by decide),codeAny_builtin PySem.W.KF.entry_class ?_⟩
 unfold Builtin.«object.__class__» shownTypeOf;repeat lk
 exact h
theorem Bw{M:Model}{b:Value}{Q:Unit->Shared->Prop}(X:K.In s.heap)(I:mF x D s.heap)(e:ErC K D)(T:Q () s):wpAny M A (checkBuiltinCall "BaseException.__getattribute__" ⟨[.ref x,b],[]⟩) Q E s:=by
 obtain⟨q,g,d,t,os⟩:=s;have k:builtinKind "BaseException.__getattribute__" = some .slot:=by decide
 have c:splitId "BaseException.__getattribute__" = some ("BaseException","__getattribute__"):=by decide
 have B:=F.args_bexc_ga (.ref x) b;have a:=I.type M;have H:=Il (M:=M) X e.hb;have f:HP M q (isInstance (.ref x) (.type "BaseException")) true:=a.andThen H;simp only[checkBuiltinCall,k,c];refine wpAny_bind (f.at ?_);repeat (first | assumption | wp_step)
theorem Bu{tk:Tok}{Q:Fin->Shared->Prop}(X:K.In s.heap)(I:mF x D s.heap)(e:ErC K D)(h:Q (.done (.ret (.ref D))) s):wpAny (model prog w) A (Builtin.«object.__getattribute__» ⟨[.ref x,.str "__class__" tk],[]⟩) Q E s:=by
 obtain⟨q,g,d,t,os⟩:=s;have a:=I.type (model prog w);have L2:=DU (x:=x) (M:=model prog w) X e;unfold Builtin.«object.__getattribute__»;repeat (first | assumption | with_reducible refine a.at ?_ | with_reducible refine L2.at ?_ | with_reducible refine wpAny_call (kd_get (K:=K) X I e ?_) | wp_step)
theorem Bv{Q:Option Value->Shared->Prop}(X:K.In s.heap)(I:mF x D s.heap)(e:ErC K D)(h:Q (some (.ref D)) { s with toks:=s.toks+1 }):wpAny (model prog w) A (getAttr? (.ref x) "__class__") Q E s:=by
 obtain⟨q,g,d,t,os⟩:=s;have a:=I.type (model prog w);have H:=Hv (M:=model prog w) X e.ga;have c:=Hv (M:=model prog w) X e.gt;have C:=F.excAttr_ValueError.ga.bind (.ref x);unfold getAttr? getAttrBy? getAttrBy;refine wpAny_bind (wpAny_mkText (wpAny_bind (wpAny_attempt (wpAny_holding (wpAny_bind (a.at (wpAny_bind (H.at ?_))))))));show wpAny _ _ (getAttrByItsOwn _ _ _ _ _ _) _ _ _;unfold getAttrByItsOwn;refine wpAny_bind (show wpAny _ _ (typeLookup _ _) _ _ _ from c.at ?_);refine wpAny_bind (wpAny_attempt (wpAny_holding ?_));show wpAny _ _ (boundAndCalled _ _ _) _ _ _;unfold boundAndCalled;rw[C];refine wpAny_bind (wpAny_pure ?_);refine wpAny_call (codeAny_call_builtin F.excAttr_ValueError.ga.plain F.entry_bexc_ga (Bw (s:=⟨q,g,d,t+1,os⟩) X I e (Bu (s:=⟨q,g,d,t+1,os⟩) X I e ?_)));exact wpAny_mono (PySem.W.handed_on rfl (Q:=λv n=>v=.ref D/\n=⟨q,g,d,t+1,os⟩) ⟨rfl,rfl⟩) (λv b B=>by obtain⟨rfl,rfl⟩:=B;exact wpAny_pure h) (λ_ _ z=>z)
theorem vc(e:ErC K D):PySem.W.KitX K (.ref x) (.ref D) (mF x D) where
 ty:=λM _ _ I=>I.type M
 it:=λ_ _ X _=>by
  obtain⟨f,d,_⟩:=IG e.hd;unfold Jj at d;split at d
  ·rename_i C c i w N;intro l v a g k q;unfold isType loadHead;exact wpAny_bind (wpAny_loadPart (k _ _ (X _ _ N)) (wpAny_pure q))
  ·cases d
 ne:=λh b O A n E X j=>by
  obtain⟨f,d,_⟩:=IG e.hd;refine Bool.eq_false_iff.mpr λq=>?_;have e:D=b:=Value.ref.inj (beq_iff_eq.mp q);subst e;unfold Jj at d;split at d
  ·rename_i C c i w N;have z:=(X _ _ N).symm.trans j
   cases z
  ·cases d
 ca:=λX I k=>Bv X I e k
end
end L2
namespace L2
open PySem PySem.Spec PyProof.Rows
structure DK(h h':Heap):Prop where
 le:h.objs.size<=h'.objs.size
 d:∀(e:Addr)(o':Obj),e<h.objs.size->h'.get? e=some o'->∃ o,h.get? e=some o/\o'.dict=o.dict
theorem DK.rfl'(h:Heap):DK h h:=⟨EI _,λ_ t _ q=>⟨t,q,rfl⟩⟩
theorem DK.trans{a b c:Heap}(x:DK a b)(y:DK b c):DK a c:=⟨FF x.le y.le,λe t j q=>by
 obtain⟨Q,n,d1⟩:=y.d e t (EZ j x.le) q;obtain⟨o,k,f⟩:=x.d e Q j n
 exact⟨o,k,d1.trans f⟩⟩
theorem DK.upd{h:Heap}{a:Addr}{f:Obj->Obj}(E:(h.get? a).isSome)(p:∀ o,(f o).dict=o.dict):DK h (h.update a f):=by
 refine⟨ID (Heap.size_update ..).symm,λe t j q=>?_⟩;by_cases z:a=e
 ·subst z;obtain⟨o,k⟩:=HJ.mp E;obtain⟨n,_⟩:=Heap.get?_some_iff.mp q;obtain⟨M,_⟩:=Heap.get?_some_iff.mp k;refine⟨o,k,?_⟩
  cases h
  simp only[Heap.update,Array.getElem?_modify,if_true]at n;simp only at M;rw[M]at n
  cases n
  exact p o
 ·rw[Heap.get?_update_other _ _ z]at q;exact⟨t,q,rfl⟩
theorem DK.psh(h:Heap)(o:Obj):DK h (h.push o):=by
 refine⟨by rw[Heap.size_push];exact GW _,λe t j q=>?_⟩
 rw[Heap.get?_push_ne _ _ _ (Fo j)]at q;exact⟨t,q,rfl⟩
noncomputable def aO{α:Type}:Sem α->Prop
 |.pure _=>True
 |.raise _=>True
 |.unsupported _=>True
 |.finish _=>True
 |.rule _ k=>aO (k ())
 |.at _ k=>aO (k ())
 |.load _ _ k=>∀ o,aO (k o)
 |.update _ _ f k=>(∀ o,(f o).dict=o.dict)/\aO (k ())
 |.alloc _ k=>∀ a,aO (k a)
 |.loadIfAlive _ k=>∀ o,aO (k o)
 |.point _ k=>aO (k ())
 |.register _ _=>True
 |.fresh k=>∀ t,aO (k t)
 |.ask k=>∀ t,aO (k t)
 |.choose _ _ k=>∀ t,aO (k t)
 |.os _ _ k=>∀ t,aO (k t)
 |.call _ _ _ _ _=>False
 |.handled _ k=>∀ t,aO (k t)
 |.newGen _ k=>∀ t,aO (k t)
 |.genState _ k=>∀ t,aO (k t)
 |.resume _ _ _ _=>False
 |.yield _ _ _ _=>True
 |.stack k=>∀ t,aO (k t)
 |.fork _ _=>True
 |.thread k=>∀ t,aO (k t)
 |.await _ _ _ _ _=>True
theorem aO.bind{α H:Type}{m:Sem α}{f:α->Sem H}(i:aO m)(j:∀ a,aO (f a)):aO (m >>= f):=by
 show aO (m.bind f);induction m with
 |pure a=>exact j a
 |raise e=>exact True.intro
 |unsupported w=>exact True.intro
 |finish e=>exact True.intro
 |rule t k Y=>exact Y () i
 | «at» p k Y=>exact Y () i
 |load a p k Y=>exact λo=>Y o (i o)
 |update a p g k Y=>exact⟨i.1,Y () i.2⟩
 |alloc o k Y=>exact λa=>Y a (i a)
 |loadIfAlive a k Y=>exact λo=>Y o (i o)
 |point l k Y=>exact Y () i
 |register a k Y=>exact True.intro
 |fresh k Y=>exact λo=>Y o (i o)
 |ask k Y=>exact λo=>Y o (i o)
 |choose s n k Y=>exact λo=>Y o (i o)
 |os q l k Y=>exact λo=>Y o (i o)
 |call c h g l k Y=>exact i.elim
 |handled o k Y=>exact λo=>Y o (i o)
 |newGen c k Y=>exact λo=>Y o (i o)
 |genState g k Y=>exact λo=>Y o (i o)
 |resume g r l k Y=>exact i.elim
 |yield v g l k Y=>exact True.intro
 |stack k Y=>exact λo=>Y o (i o)
 |fork c k Y=>exact True.intro
 |thread k Y=>exact λo=>Y o (i o)
 |await a t d l k Y=>exact True.intro
theorem BI{α:Type}{M:Model}{f:PySem.Ctx}(m:Sem α)(i:aO m)(Q:α->Pos->Shared->Prop)(E:Value->Pos->Shared->Prop)(p:Pos)(s:Shared)(h:Sem.wp M f m Q E p s) :
  Sem.wp M f m (λa A s'=>Q a A s'/\DK s.heap s'.heap) (λe A s'=>E e A s'/\DK s.heap s'.heap) p s:=by
 have go:∀{m:Sem α}{p:Pos}{s s1:Shared},DK s.heap s1.heap->Sem.wp M f m (λa A s'=>Q a A s'/\DK s1.heap s'.heap) (λe A s'=>E e A s'/\DK s1.heap s'.heap) p s1->Sem.wp M f m (λa A s'=>Q a A s'/\DK s.heap s'.heap) (λe A s'=>E e A s'/\DK s.heap s'.heap) p s1 :=
  λ{m p s s1} d z=>Sem.wp_mono M f m (λa A s' q=>⟨q.1,d.trans q.2⟩) (λa A s' q=>⟨q.1,d.trans q.2⟩) p s1 z
 induction m generalizing p s with
 |pure a=>rw[Sem.wp]at h ⊢;exact⟨h,DK.rfl' _⟩
 |raise e=>rw[Sem.wp]at h ⊢;exact⟨h,DK.rfl' _⟩
 |unsupported w=>rw[Sem.wp]at h;exact h.elim
 |finish e=>rw[Sem.wp]at h;exact h.elim
 |rule t k Y=>rw[Sem.wp]at h ⊢;exact Y () i p s h
 | «at» A k Y=>rw[Sem.wp]at h ⊢;exact Y () i A s h
 |load a pt k Y=>rw[Sem.wp]at h ⊢;obtain⟨o,e,h⟩:=h;exact⟨o,e,Y o (i o) p s h⟩
 |update a pt g k Y=>rw[Sem.wp]at h ⊢;exact⟨h.1,go (DK.upd h.1 i.1) (Y () i.2 p _ h.2)⟩
 |alloc o k Y=>rw[Sem.wp]at h ⊢;exact go (DK.psh _ _) (Y _ (i _) p _ h)
 |loadIfAlive a k Y=>rw[Sem.wp]at h ⊢;exact Y _ (i _) p s h
 |point l k Y=>rw[Sem.wp]at h ⊢;exact Y () i p s h
 |register a k Y=>rw[Sem.wp]at h;exact h.elim
 |fresh k Y=>rw[Sem.wp]at h ⊢;exact Y _ (i _) p _ h
 |ask k Y=>rw[Sem.wp]at h ⊢;exact Y _ (i _) p s h
 |choose j n k Y=>rw[Sem.wp]at h ⊢;exact⟨h.1,Y _ (i _) p _ h.2⟩
 |os q l k Y=>rw[Sem.wp]at h ⊢;exact Y _ (i _) p _ h
 |call c b g l k Y=>exact i.elim
 |handled o k Y=>rw[Sem.wp]at h ⊢;exact Y _ (i _) p s h
 |newGen c k Y=>rw[Sem.wp]at h ⊢;exact Y _ (i _) p _ h
 |genState g k Y=>rw[Sem.wp]at h ⊢;obtain⟨o,e,h⟩:=h;exact⟨o,e,Y _ (i _) p s h⟩
 |resume g r l k Y=>exact i.elim
 |yield v g l k Y=>rw[Sem.wp]at h;exact h.elim
 |stack k Y=>rw[Sem.wp]at h ⊢;exact Y _ (i _) p s h
 |fork c k Y=>rw[Sem.wp]at h;exact h.elim
 |thread k Y=>rw[Sem.wp]at h ⊢;exact Y _ (i _) p s h
 |await a t d l k Y=>rw[Sem.wp]at h;exact h.elim
theorem g7{α:Type}{M:Model}{A:Around}{m:Sem α}(i:aO m){Q:α->Shared->Prop}{E:Value->Shared->Prop}{s:Shared}(h:wpAny M A m Q E s):wpAny M A m (λa s'=>Q a s'/\DK s.heap s'.heap) (λe s'=>E e s'/\DK s.heap s'.heap) s :=
 λf p b=>BI m i _ _ p s (h f p b)
theorem a7{α:Type}(a:α):aO (pure a:Sem α):=True.intro
theorem qH{α:Type}(w:String):aO (PySem.unsupported w:Sem α):=True.intro
theorem cL{α:Type}{c:Prop} [Decidable c] {a b:Sem α} (E:aO a) (G:aO b):aO (if c then a else b):=by split<;>assumption
theorem jL(a:Addr):aO (load a):=λ_=>True.intro
theorem iQ:aO stack:=λ_=>True.intro
theorem mM(v:Value):aO (fieldsOf v):=by
 unfold fieldsOf
 cases v with
 |ref a =>
  refine aO.bind (jL a) λo=>?_
  cases o.data<;>exact True.intro
 |_=>exact True.intro
theorem f9(v:Value)(i:Nat):aO (field v i):=by
 unfold field;refine aO.bind (mM v) λN=>?_
 cases N[i]?<;>exact True.intro
theorem eM(v:Value)(i:Nat)(x:Value):aO (setField v i x):=by
 unfold setField
 cases v with
 |ref a =>
  show aO (updateField a i x);unfold updateField;refine aO.bind (jL a) λo=>?_
  cases o.data with
  |fields N =>
   refine cL ?_ (qH _);refine⟨λo=>?_,True.intro⟩;unfold Obj.mapFields;split<;>rfl
  |_=>exact True.intro
 |_=>exact True.intro
theorem dZ(e:Value)(f:Option Addr):aO (setFlight e f):=by
 unfold setFlight;refine aO.bind (f9 e 1) λk=>?_;exact cL (eM _ _ _) (a7 _)
theorem lU:∀ l:List Env,aO (readyFrames l)
 |[]=>True.intro
 |d::G=>by
  unfold readyFrames
  cases d.frame with
  |none=>exact True.intro
  |some f =>
   refine aO.bind (jL f) λo=>?_;refine cL (a7 _) ?_;refine aO.bind ?_ λi=>aO.bind ?_ λb=>aO.bind ⟨λo=>rfl,True.intro⟩ λ_=>lU G
   ·unfold behindIsImport;refine cL (a7 _) (cL (a7 _) (aO.bind (f9 _ _) λ_=>a7 _))
   ·unfold keptBack
    cases G with
    |nil=>exact cL (a7 _) (aO.bind (by unfold underTheClaimsCaller;exact aO.bind iQ λ_=>a7 _) λ_=>a7 _)
    |cons c r=>exact a7 _
theorem oU(env:Env):aO (Io env):=by
 unfold Io frameObject frameEnvs;refine aO.bind (aO.bind iQ λ_=>a7 _) λl=>aO.bind ?_ λo=>?_
 ·cases (l.dropWhile λx=>x.frame != env.frame) with
  |nil=>exact a7 _
  |cons e r=>exact aO.bind (lU _) λ_=>a7 _
 ·cases o<;>exact True.intro
theorem tU(f:Addr)(b:Bool):aO (entryPlaceOf f b):=by
 unfold entryPlaceOf;refine aO.bind iQ λa=>?_;split<;>exact True.intro
theorem d6(e:Value)(env:Env):aO (noteFrame e env):=by
 unfold noteFrame
 cases env.frame with
 |none=>exact True.intro
 |some f =>
  refine aO.bind (f9 _ _) λc=>?_
  have last:aO (do
    let a ← Io env
    let L ← entryPlaceOf f (c != .none)
    let b ← EntryCells.newEntry c a .none (rawInt f) .none L
    setField e 1 b):=by
   refine aO.bind (oU env) λa=>aO.bind (tU _ _) λL=>aO.bind ?_ λb=>eM _ _ _;unfold EntryCells.newEntry newFields newObj;dsimp only;have g:∀ d:Data,aO (newObjAsIs (.type "traceback") d):=λd=>aO.bind (λ_=>True.intro) λ_=>a7 _;exact cL (aO.bind (qH _) λ_=>g _) (g _)
  refine cL (aO.bind (f9 _ _) λz=>cL (a7 _) (aO.bind (eM _ _ _) λ_=>last)) last
theorem jg(env:Env)(e:Value):aO (leaving env e):=aO.bind (d6 e env) λ_=>dZ e none
noncomputable def Xd(h:Heap)(x:Addr)(d:Option Addr):Prop:=∃ i,h.get? x=some i/\i.dict=d
theorem Xd.dk{h h':Heap}{x:Addr}{d:Option Addr}(z:Xd h x d)(k:DK h h')(ex:∃ o,h'.get? x=some o):Xd h' x d:=by
 obtain⟨i,e,hd⟩:=z;obtain⟨t,u⟩:=ex;obtain⟨o,Q,d2⟩:=k.d x t (Heap.lt_size e) u;rw[e]at Q
 cases Q
 exact⟨t,u,d2.trans hd⟩
theorem Trc.there{h:Heap}{x T:Addr}{C:Value}(t:Trc h x C T):∃ o,h.get? x=some o:=by
 obtain⟨i,_,_,_,_,j,_⟩:=t;exact⟨i,j⟩
noncomputable def CXd(P:Program)(w:World):CXT:=λG H s E e g=>∃(x:Addr)(C:Value)(T:Addr)(j:Hp)(d:Option Addr),e=.ref x/\g.os=s.os/\AllBare g.gens/\Un (frs G) [] H j s.heap g.heap/\HOk P w j g.heap /\
 s.heap.get? x=none/\s.heap.get? T=none/\j x=none/\j T=none/\Trc g.heap x C T/\Xd g.heap x d/\E C d j
noncomputable abbrev WKD:=Value->Option Addr->St->Hp->Prop
noncomputable def WshD(X:Cx)(W:WKD):Prop:=∀(B:List (Addr×Obj))(Y:St)(H:Hp)(s:Shared)(x:Addr)(C:Value)(d:Option Addr),Inv X B Y H s->XA X B H s x C->Xd s.heap x d->W C d Y H->X.xe (.ref x) s
theorem fj{P:Program}{w:World}{K:ED}{mg:Str->Option Value}{base:Heap}{N:List Str}{m:Str}{scope:Scope}{f:Addr}{j:Value}{A:Around}{outer:List Env}{s₀:Shared}{H₀:Hp}{E:XK} :
  WshD (cxOf (CXd P w) P w K mg base N m scope f j A outer s₀ H₀ E) (λC d _ H=>E C d H):=λB Y H s x C d I xa z b=>by
 show wpAny (model P w) (A.deeper (envOfC m scope s₀.heap.objs.size f j)) (leaving (envOfC m scope s₀.heap.objs.size f j) (.ref x)) _ _ s;refine wpAny_mono (g7 (jg _ _) (Inv.leave (Q:=λ_ g=>∃ G T,g={ s with heap:=G }/\Inv (cxOf (CXd P w) P w K mg base N m scope f j A outer s₀ H₀ E) B Y H { s with heap:=G }/\XOk (cxOf (CXd P w) P w K mg base N m scope f j A outer s₀ H₀ E) B H x/\XOk (cxOf (CXd P w) P w K mg base N m scope f j A outer s₀ H₀ E) B H T/\Trc G x C T) (E:=λ_ _=>False) I rfl rfl rfl xa λG T a n D p=>⟨G,T,rfl,a,n,D,p⟩)) ?_ (λ_ _ q=>q.1.elim);rintro _ g ⟨⟨G,T,rfl,a,n,D,p⟩,dk⟩;exact⟨x,C,T,H,d,rfl,a.os,a.bare,a.base,a.hok,n.old,D.old,n.trk,D.trk,p,z.dk dk p.there,b⟩
structure CalD(P:Program)(w:World)(K:ED)(mg:Str->Option Value)(base:Heap)(k:Nat)(x:Str)(ps:List Str)(sp:Sp)(f:Addr)(fd:FuncData):Prop where
 ok:FnOk P w K mg base (CXd P w) k f fd ps sp
 bn:cW K fd ps []
 mg:mg x=some (.ref f)
 kp:Ft K (.ref f)=true
theorem Fun.okD{P:Program}{w:World}{K:ED}{mg:Str->Option Value}{base:Heap}{x m:Str}{st:Stmt}{f:Addr}{fd:FuncData}{N ps:List Str}{k:Nat}{sp:Sp}(F:Fun K x m st f fd)(S:ax N ps (aq st))(len:∀ vs H Q E,sp vs H Q E->vs.length=ps.length)
  (a:∀(y:Value)(A:Around)(outer:List Env)(s:Shared)(H:Hp)(vs:List V)(Q:VK)(E:XK),Room k (A.deeper (envOfC m (aq st) s.heap.objs.size f y))->sp vs H Q E ->
   ∃ t,PSs (cxOf (CXd P w) P w K mg base N m (aq st) f y A outer s H E) (bp st) t/\t { nx:=λ_ H'=>Q .non H',rt:=Q } (start N vs) H):FnOk P w K mg base (CXd P w) (k+1) f fd ps sp:=by
 obtain⟨oc,G,kV,M,u,i,y,j,b,rfl,v,O⟩:=F.ex;exact BC v O S len λA outer s H vs Q E L B=>a y A outer s H vs Q E L B
section
variable{X:Cx}{k:Nat}{f C:Addr}{fd:FuncData}{ps:List Str}{sp:Sp}{dvs:List V}{ds:List Value}{W:WKD}{x m:Str}{p pos apos:Pos}{e o:Expr}{es:List Expr}{ta:TE}{t:TA}
theorem WshD.of{B:List (Addr×Obj)}{σ:St}{H:Hp}{s s':Shared}{v:Value}(l:WshD X W)(O:X.ex = [])(I:Inv X B σ H s)(h:CXd X.prog X.w X.stack H s (λC d H'=>W C d σ H') v s'):X.xe v s':=by
 obtain⟨x,C,T,H',d,rfl,os,e,un,Y,f,c,g,i,p,z,q⟩:=h;have a:Inv X B σ H' s':=I.call' os un Y e λb z=>absurd z (by simp)
 exact l B σ H' s' x C d a ⟨I.xok O f g,.inr ⟨T,I.xok O c i,p⟩⟩ z q
theorem Dc{B:List (Addr×Obj)}{σ:St}{H:Hp}{s:Shared}{Q:VK}{us:List Value}{vs:List V}(F:FnOk X.prog X.w X.K X.mg X.base (CXd X.prog X.w) k f fd ps sp)(L:Room k X.A)(G:cW X.K fd ps ds)(hd:Vals dvs ds)(l:WshD X W)(O:X.ex = [])
  (I:Inv X B σ H s) (r:Vals vs us) (h:sp (vs++dvs) H Q (λC d H'=>W C d σ H')):wpAny (model X.prog X.w) X.A (call (.ref f) us) (EP X B σ Q) X.xe s:=by
 have J:Vals (vs++dvs) (us++ds):=r.append hd;have D:(us++ds).length=ps.length:=by rw[← J.length];exact F.len _ _ _ _ h
 refine wpAny_call (codeAny_mono (F.run X.A X.stack s H ⟨us,[]⟩ (us++ds) (vs++dvs) Q _ L I.env0 (G s us I.kIn D) J h) λr g T=>?_)
 cases r with
 |error e=>exact l.of O I T
 |ok p =>
  cases p with
  |ret u=>exact I.after T
  |next=>exact False.elim T
  |brk=>exact False.elim T
  |cont=>exact False.elim T
noncomputable def xj(sp:Sp)(dvs:List V)(W:WKD)(t:TA):TE:=λY H Q=>t Y H λN O=>sp (N++dvs) O Q λC d j=>W C d Y j
theorem d9(F:FnOk X.prog X.w X.K X.mg X.base (CXd X.prog X.w) k f fd ps sp)(L:Room k X.A)(D:Gl X x)(i:X.mg x=some (.ref f))(g:Ft X.K (.ref f)=true)(G:cW X.K fd ps ds)(hd:Vals dvs ds)(l:WshD X W)(O:X.ex = [])
  (E:PA X (e::es) t) (v:(x == ("__debug__" : Str))=false:=by decide) (j:starEach (e::es) X.env=(false,eval e X.env)::starEach es X.env:=by rfl) (b:(backTo pos (starEach es X.env)).any (·.1)=false:=by rfl) :
  PE X (.Call (.Name x p) (e::es) [] pos) (xj sp dvs W t):=by
 intro B s Y H Q I h;refine wpAny_Call_Name_kw (gH I D i ?_ v);refine Hj (h₀:=X.base) I.ok.mod.kin g (thn (E pos B s Y H _ I h) λd m ⟨N,M,y,r,q⟩=>⟨y.kIn,?_⟩) j b;exact Dc F L G hd l O y r q
end
noncomputable def CQ(C:Addr)(W:WKD)(t:TA):TS:=λ_ Y H=>t Y H λN O=>N.length<=sizeLine/\W (.ref C) none Y O
theorem yb{X:Cx}{x:Str}{C:Addr}{e:Expr}{es:List Expr}{t:TA}{W:WKD}{np f pos:Pos}(c:ExC X.K C)(i:X.mg x=some (.ref C))(L:Gl X x)(m:WshD X W)(O:X.ex = [])(l:X.calm=true)(E:PA X (e::es) t)
  (o:starEach (e::es) X.env=(false,eval e X.env)::starEach es X.env:=by rfl) (b:(backTo f (starEach es X.env)).any (·.1)=false:=by rfl) (v:(x == ("__debug__" : Str))=false:=by decide) :
  PS X (.Raise (some (.Call (.Name x np) (e::es) [] f)) none pos) (CQ C W t):=by
 intro B s Y H D I h;obtain⟨tl,N,nm,J,bs,hdct,sn,sub,ab,col,dd,k0,k1,k2,k3,k5,mN,hC,g,aa,T,_⟩:=zu c I.ok.mod.kin;have ac:(backTo f (starEach (e::es) X.env)).any (·.1)=false:=by
  rw[o];show(false||(backTo f (starEach es X.env)).any (·.1))=false
  rw[b];rfl
 refine wpAny_Raise_call_subT (C:=C) (nm:=nm) (q:=J) (N:=N) (bs:=bs) (bm:=tl) (hdct:=hdct) (sn:=sn) (sub:=sub) (ab:=ab) (col:=col) (dd:=dd) (k0:=k0) (k1:=k1) (k2:=k2) (k3:=k3) (k5:=k5) IU (mN:=mN) (T.hasType IU.hasBase) (I.ok.hd l) ac aa (gH I L i ⟨rfl,?_⟩ v);have z:=E f B s Y H _ I h;rw[o]at z ⊢;refine Calls.evalArgs_plain (wpAny_mono z (λd p zz=>?_) λ_ _ y=>y);obtain⟨j,M,k,r,w,q⟩:=zz;refine⟨rfl,by rw[← r.length];exact w,k.bk _ _ hC,g.keeps k.bk,T.keeps k.bk,λG u Q=>?_⟩
 obtain⟨n,A,_,_⟩:=Q.there;have a:Inv X B Y M { p with heap:=G }:=k.kept (t':=p.toks) Q.keeps;exact m B Y M _ u (.ref C) none a ⟨k.xok O Q.new (k.hok.none_of Q.new),.inl ⟨_,_,_,A,rfl,rfl,rfl,rfl⟩⟩ ⟨_,A,rfl⟩ q
noncomputable def wI(X:Cx)(W:WKD):Prop:=∀(B:List (Addr×Obj))(Y:St)(H:Hp)(s:Shared)(x T:Addr)(C:Value)(d:Option Addr),Inv X B Y H s->XOk X B H x->XOk X B H T->Trc s.heap x C T->Xd s.heap x d->W C d Y H->X.xe (.ref x) s
section
variable{X:Cx}{k:Nat}{f:Addr}{fd:FuncData}{ps:List Str}{sp:Sp}{dvs:List V}{ds:List Value}{W:WKD}{x:Str}{p pos:Pos}{e:Expr}{es:List Expr}{t:TA}
theorem yo(F:FnOk X.prog X.w X.K X.mg X.base (CXd X.prog X.w) k f fd ps sp)(L:Room k X.A)(c:Gl X x)(i:X.mg x=some (.ref f))(g:Ft X.K (.ref f)=true)(G:cW X.K fd ps ds)(hd:Vals dvs ds)(l:wI X W)(O:X.ex = [])
  (E:PA X (e::es) t) (ac:(x == ("__debug__" : Str))=false:=by decide) (o:starEach (e::es) X.env=(false,eval e X.env)::starEach es X.env:=by rfl) (ab:(backTo pos (starEach es X.env)).any (·.1)=false:=by rfl) :
  PE X (.Call (.Name x p) (e::es) [] pos) (xj sp dvs W t):=by
 intro B s Y H Q I h;refine wpAny_Call_Name_kw (gH I c i ?_ ac);refine Hj (h₀:=X.base) I.ok.mod.kin g (thn (E pos B s Y H _ I h) λa m ⟨N,M,y,r,q⟩=>⟨y.kIn,?_⟩) o ab;have J:Vals (N++dvs) (a++ds):=r.append hd;have D:(a++ds).length=ps.length:=by rw[← J.length];exact F.len _ _ _ _ q
 refine wpAny_call (codeAny_mono (F.run X.A X.stack m M ⟨a,[]⟩ (a++ds) (N++dvs) Q _ L y.env0 (G m a y.kIn D) J q) λr n v=>?_)
 cases r with
 |error e =>
  obtain⟨x,C,T,j,d,rfl,os,al,un,aa,nx,nT,tx,tT,tr,z,q'⟩:=v;have I':Inv X B Y j n:=y.call' os un aa al λb z=>absurd z (by simp)
  exact l B Y j n x T C d I' (y.xok O nx tx) (y.xok O nT tT) tr z q'
 |ok fl =>
  cases fl with
  |ret u=>exact y.after v
  |next=>exact False.elim v
  |brk=>exact False.elim v
  |cont=>exact False.elim v
end
section
variable{M:Model}{A:Around}{E:Value->Shared->Prop}{h:Heap}{g:Array GenState}{d:Drawn}{t:Nat}{os:OsState}
theorem Ef{C D:Addr}{o p:Str}{q:Addr}{r j:List Value}{c:Bool}{s:List Str}{l:List Value}{u:Bool}{m:Option Bool}{k:Option Addr}{B n w y G:Option Value}{z:String}{x:Addr}{ob:Obj}{Q:Bool->Shared->Prop}
  (b:h.get? D=some (excClassObj o p D q r j c s l u m k B n w y G z)) (e:h.get? x=some ob) (a:ob.cls=.ref C)
  (f:(Value.ref D::j).contains (.type "BaseException")=true) (v:HP M h (isSubtype (.ref C) (.ref D)) true) (T:Q true ⟨h,g,d,t,os⟩):wpAny M A (excMatches (.ref x) (.ref D)) Q E ⟨h,g,d,t,os⟩:=by
 have i:=tc_notTuple;unfold excMatches;repeat (first | (with_reducible refine wpAny_loadPart_at e ?_;rw[a]) | with_reducible refine wpAny_loadPart_at b ?_ | (with_reducible refine wpAny_isSubtype_exc b ?_;rw[f]) | with_reducible refine v.at ?_ | wp_step)
 exact T
end
noncomputable def excD(x C:Addr)(d:Option Addr):HO:=.ext λh=>∃ o,h.get? x=some o/\o.cls=.ref C/\o.dict=d/\IY o=true
noncomputable def CP(ie:Nat)(Cs:Addr->Prop)(tb:WKD->TS)(ts:TS):TS:=λa Y H=>tb (λC d E O=>∃ c,C=.ref c/\Cs c/\∀ x,O x=none->ts { nx:=λf u=>a.nx (f.set ie none) u,rt:=λ_ _=>False } (E.set ie (some (.ref x))) (upd O x (excD x c d))) a Y H
theorem ya{X:Cx}{body:List Stmt}{b0:Stmt}{a4:List Stmt}{dn en:Str}{np a6 pos:Pos}{D:Addr}{ie:Nat}{Cs:Addr->Prop}{tb:WKD->TS}{ts:TS}(O:X.ex = [])(am:X.stack=X.env::X.outer)(aP:X.env.frame=some X.env.locals)(hN:X.N.Nodup)(p:X.N[ie]?=some en)(hl:X.env.kindOf en=some .local)
  (bR:Gl X dn) (bU:X.mg dn=some (.ref D)) (eD:ExC X.K D) (be:∀ c,Cs c->Gy X.K c (.ref D)=some true)
  (G:∀ B XE W,wI (X.tried B XE) W->PSs (X.tried B XE) body (tb W)) (r:∀ v,PSs (X.marked v) (b0::a4) ts) (ab:(dn == ("__debug__" : Str))=false:=by decide) :
  PS X (.Try body [.ExceptHandler (some (.Name dn np)) (some en) (b0::a4) a6] [] [] pos) (CP ie Cs tb ts):=by
 intro B s Y H Ds I h;refine wpAny_Try_except ?_;refine wpAny_mono (G B (λe aa=>wpAny (model X.prog X.w) X.A (noteFrame e X.env) (λ_ a2=>wpAny (model X.prog X.w) X.A (setFlight e none) (λ_ an=>wpAny (model X.prog X.w) X.A (handleBy e X.env [.ExceptHandler (some (.Name dn np)) (some en) (b0::a4) a6]) (SP X B Ds) X.xe an) X.xe a2) X.xe aa) _ ?_ [] s Y H Ds I.tried h) (λf s1 q=>?_) λ_ _ z=>z
 ·intro aT ap M s1 x T C d y xx xT tr zd hw;obtain⟨c,rfl,n,bY⟩:=hw;have I2:Inv X B ap M s1:=y.untried;have x2:XOk X B M x:=xx.untried;have T2:XOk X B M T:=xT.untried;have a3:X.A.frames=some (X.env::X.outer):=by rw[← am];exact I2.ok.frames
  have bn:∀{h:Heap}{T:Addr},Inv X B ap M { s1 with heap:=h }->Trc h x (.ref c) T->∃ a0,Heap.FlyingW (hidX X h [x,T]) (X.env::X.outer) x (.ref c) a0 h:=λ{h T} J tr=>by
   obtain⟨oe,j,a0,oT,ts,g,a1,h0,hd,k,al,hT,ac,h3⟩:=tr;exact⟨a0,qB _ _,dE (by simp),am▸J.hidF [x,T],⟨oe,j,T,oT,ts,g,⟨a1,h0⟩,hd,k,dE (by simp),al,hT,ac,h3⟩⟩
  have two:∀{T:Addr},XOk X B M T->∀ b∈[x,T],XOk X B M b:=λ{T} hT b G=>by
   rcases EE.mp G with e | G
   ·rw[e];exact x2
   ·have e:b=T:=by simpa using G
    rw[e];exact hT
  obtain⟨a0,fl⟩:=bn (h:=s1.heap) I2 tr;refine wpAny_mono (g7 (d6 _ _) (wpAny_looks_onW (Q:=λ_ s'=>∃ h4,s'={ s1 with heap:=h4 }/\Heap.HeldW (hidX X s1.heap [x,T]) (X.env::X.outer) x (.ref c) a0 X.env.locals h4/\s1.heap.UpToSlots h4) (E:=λ_ _=>False) a3 aP fl λh4 a b=>⟨h4,rfl,a,b⟩)) ?_ (λ_ _ q=>q.1.elim);rintro _ s4 ⟨⟨h4,rfl,bf,b6⟩,b7⟩;refine wpAny_mono (g7 (dZ _ _) (wpAny_landsW (Q:=λ_ s'=>∃ h5,s'={ s1 with heap:=h5 }/\Heap.FlyingW (hidX X s1.heap [x,T]) (X.env::X.outer) x (.ref c) a0 h5/\h4.UpToSlots h5) (E:=λ_ _=>False) bf λh5 a b=>⟨h5,rfl,a,b⟩)) ?_ (λ_ _ q=>q.1.elim);rintro _ s5 ⟨⟨h5,rfl,bv,b8⟩,ca⟩;obtain⟨I5,T5,cb,bi⟩:=I2.left O (two T2) bv.1 bv.2.2.2 (b6.trans b8);have z5:Xd h5 x d:=zd.dk (DK.trans (b:=h4) b7 ca) bi.there;refine wpAny_handleBy_cons (codeAny_handlers_test (Calls.Name_function_global I5.ok.kind bR (Calls.loadGlobal_global (by rw[I5.ok.glob];exact I5.mod.glob.keeps I5.bk) bU ?_) ab)) (by intro q;cases q)
  obtain⟨_,_,_,_,_,_,_,_,_,_,_,_,_,_,_,_,_,hD,_,_,TD,_⟩:=zu eD I5.kIn;have bd:=TD.hasType (X:="BaseException") (b:=true) rfl;obtain⟨ob,_,_,_,_,ba,a1,_⟩:=id bi;refine Ef hD ba a1 (by rw[List.contains_cons,bd,Bool.or_true]) (Il I5.kIn (be c n)) ?_
  refine codeAny_handlers_suite_as ?_;obtain⟨a5,bA⟩:=bn I5 bi;refine wpAny_mono (g7 (dZ _ _) (lands_againW (Q:=λ_ s'=>∃ h6,s'={ s1 with heap:=h6 }/\Heap.FlyingW (hidX X h5 [x,T5]) (X.env::X.outer) x (.ref c) a5 h6/\h5.UpToSlots h6) (E:=λ_ _=>False) (s:={ s1 with heap:=h5 }) bA λh6 a b=>⟨h6,rfl,a,b⟩)) ?_ (λ_ _ q=>q.1.elim);rintro _ s6 ⟨⟨h6,rfl,bB,cc⟩,cd⟩;obtain⟨I6,T6,cl,bF⟩:=I5.left O (two cb) bB.1 bB.2.2.2 cc;have z6:Xd h6 x d:=z5.dk cd bF.there;obtain⟨oe,cm,_,_,_,g,bQ,_,ce,_⟩:=id bF;have ch:IY oe=true:=by unfold IY;rw[ce]
  have ci:oe.dict=d:=by
   obtain⟨o2,L,d2⟩:=z6;rw[g]at L
   cases L
   exact d2
  have I7:=I6.xtrack (o:=excD x c d) x2 ⟨⟨oe,g,bQ,ci,ch⟩,⟨oe,g⟩,λk l ⟨o,z1,z2⟩ kk=>⟨o,kk o z1,z2⟩⟩;refine kh I7 hN p (.inl hl) (v:=.ref x) rfl (λs8 I8=>?_) (.inr hl);refine wpAny_mono (r (.ref x) B s8 _ _ _ (I8.marked _) (bY x x2.trk)) (λf s9 q9=>?_) λ_ _ z=>z.elim
  cases f with
  |next =>
   obtain⟨cj,H9,I9,q9⟩:=q9;have bm:Inv X B cj H9 s9:=Inv.unmarked (hd:=I2.ok.hd) (fr:=I2.ok.frames) I9;obtain⟨m,i⟩:=bm.loc;refine wpAny_nameGoes_keeps hl i.1 (by rw[bm.ok.kind];rfl) λh' v t ck=>?_
   exact⟨_,_,bm.gone hN p i t ck,q9⟩
  |brk=>obtain⟨_,_,_,z⟩:=q9;exact z.elim
  |cont=>obtain⟨_,_,_,z⟩:=q9;exact z.elim
  |ret u=>obtain⟨_,_,_,_,_,z⟩:=q9;exact z.elim
 ·have q':=SP.untried q
  cases f with
  |next=>exact wpAny_execs_nil q'
  |brk=>exact q'
  |cont=>exact q'
  |ret u=>exact q'
end L2
namespace L2
open PySem PySem.Spec PyProof.Rows PySem.Calls Builtin Builtin.ObjectAttr
section
variable{prog:Program}{w:World}{A:Around}{E:Value->Shared->Prop}{h:Heap}{g:Array GenState}{d:Drawn}{t:Nat}{os:OsState}
variable{nm q:Str}{C N:Addr}{bs bm bmB:List Value}{hdct:Bool}{sn:List Str}{sub:List Value}{ab:Bool}{col:Option Bool}{dd:Option Addr}{k0 k1 k2 k3 k5:Option Value}{B newId initId:String}
end
section
variable{prog:Program}{w:World}{A:Around}{E:Value->Shared->Prop}{s:Shared}{K:ED}{x C fI:Addr}{name:Str}{v:Value}
end
section
variable{X:Cx}{pins:List (Addr×Obj)}{σ:St}{H:Hp}{s:Shared}{A:Around}{E:Value->Shared->Prop}{a C fI:Addr}{f:Str}
end
section
variable{prog:Program}{w:World}{A:Around}{E:Value->Shared->Prop}{s:Shared}{env:Env}
variable{nm q:Str}{C N:Addr}{bs bm bmB:List Value}{hdct:Bool}{sn:List Str}{sub:List Value}{ab:Bool}{col:Option Bool}{dd:Option Addr}{k0 k1 k2 k3 k5:Option Value}{B newId initId:String}
end
theorem mw{X:Cx}:jq X (.builtin "isinstance") (λxs H Q=>∃ x c l d b,xs = [.ref x,.ref d]/\H x=some (excD x c l)/\ErC X.K c/\FQ X.K (.ref c) (.ref d)=some b/\Q (.bl b) H):=by
 intro B s Y H xs a Q I r h;obtain⟨x,c,l,d,b,rfl,O,g,t,q⟩:=h;obtain⟨i,v,rfl,C,J⟩:=wY r
 cases C
 cases J
 obtain⟨⟨o,e,A,_⟩,_,_⟩:=(show bV X.prog X.w H s.heap x (excD x c l) from I.hok x _ O);exact F0 (vc g) I.kIn ⟨o,e,A⟩ t (λz=>nomatch z) λm=>⟨.bl b,H,I.tok m,rfl,q⟩
theorem wG{X:Cx}:jq X (.builtin "isinstance") (λxs H Q=>∃ x c l T b,xs = [.ref x,.ty T]/\H x=some (excD x c l)/\ErC X.K c/\FQ X.K (.ref c) (.type T)=some b/\Q (.bl b) H):=by
 intro B s Y H xs d Q I r h;obtain⟨x,c,l,T,b,rfl,O,g,t,q⟩:=h;obtain⟨i,v,rfl,C,J⟩:=wY r
 cases C
 cases J
 obtain⟨⟨o,e,A,_⟩,_,_⟩:=(show bV X.prog X.w H s.heap x (excD x c l) from I.hok x _ O);exact F0 (vc g) I.kIn ⟨o,e,A⟩ t (λz=>nomatch z) λm=>⟨.bl b,H,I.tok m,rfl,q⟩
end L2
namespace L2
open PySem PySem.Spec PyProof.Rows
noncomputable def PnX(X:Cx):Prop:=∀ b∈X.ex,∃ o,(b,o)∈X.pn
section
variable{X:Cx}{pins:List (Addr×Obj)}{σ:St}{H H':Hp}{s s':Shared}{b:Addr}
theorem Inv.xokP(I:Inv X pins σ H s)(O:PnX X)(e:s.heap.get? b=none)(n:H' b=none):XOk X pins H' b:=by
 refine⟨?_,n,λz=>?_,λx c q z=>?_,λp M z=>?_⟩
 ·cases q:X.s₀.heap.get? b with
  |none=>rfl
  |some o =>
   obtain⟨t,u⟩:=I.base.there b o q λz=>by
    obtain⟨Q,J⟩:=O b z;have:=(I.pin (b,Q) (Fw _ J)).1;rw[e]at this
    cases this
   rw[e]at u
   cases u
 ·obtain⟨m,⟨o,_,_,N,_⟩,_⟩:=I.loc;rw[z,N]at e
  cases e
 ·obtain⟨v,o,N,_⟩:=I.cell x c q;rw[z,e]at N
  cases N
 ·have:=(I.pin p M).1
  rw[z,e]at this
  cases this
noncomputable def TrcF(h:Heap)(x:Addr)(C:Value)(T:Addr):Prop :=
 ∃ i N c L g p,h.get? x=some i/\i.cls=C/\N[0]?=some c/\i.data=.fields N/\N[1]?=some (.ref T)/\T≠x/\h.get? T=some L/\L.data=.fields g/\g[3]?=some p
theorem Inv.leftF{h':Heap}{ch:List Addr}{c C p:Value}{x:Addr}(I:Inv X pins σ H s)(O:PnX X)(y:∀ b∈ch,XOk X pins H b)(k:(hidX X s.heap ch).StaysIn h')(t:h'.TracedAtW (hidX X s.heap ch) x C c p)(u:s.heap.UpToSlots h') :
  Inv X pins σ H { s with heap:=h' }/\∃ T,XOk X pins H T/\TrcF h' x C T:=by
 have n:∀ b o,s.heap.get? b=some o->b∈frs X.stack->∃ E,h'.get? b=some { o with slots:=E }:=λb o e G=>by
  obtain⟨_,B,D,hd⟩:=I.stack.mem G;rw[e]at D
  cases D
  exact u b o e hd
 refine⟨I.xstep y (λb o e r a=>k b o (Hg _ e λz=>(ER.mp z).elim r a)) λb o e _ G=>n b o e G,?_⟩;obtain⟨i,N,T,L,g,j,⟨l,d⟩,hd,J,w,f,M,m,Y⟩:=t;refine⟨T,?_,i,N,c,L,g,p,j,l,d,hd,J,f,M,m,Y⟩
 cases q:s.heap.get? T with
 |none=>exact I.xokP O q (I.hok.none_of q)
 |some o =>
  by_cases z:T∈ch
  ·exact y T z
  ·by_cases v:T∈frs X.stack
   ·obtain⟨_,B,D,A⟩:=I.stack.mem v;obtain⟨E,e⟩:=n T o q v;rw[M]at e
    cases e
    rw[q]at D
    cases D
    exact absurd m (A g)
   ·have:=Hg (ch++frs X.stack) q λh=>(ER.mp h).elim z v
    rw[w]at this
    cases this
end
section
variable{M:Model}{A:Around}{E:Value->Shared->Prop}{s:Shared}
theorem sU{base:Heap}{env:Env}{outer:List Env}{L e:Addr}{cls t a:Value}{Q:Unit->Shared->Prop}(k:A.frames=some (env::outer))(hl:s.heap.FunFrames base (env::outer))(p:env.frame=some L)
  (Y:s.heap.TracedAtW base e cls t a) (x:base.StaysIn s.heap) (C:base.get? e=none)
  (h:∀ h',base.StaysIn h'->h'.TracedW base e cls t->s.heap.UpToSlots h'->Q () { s with heap:=h' }):wpAny M A (leaving env (.ref e)) Q E s:=by
 by_cases c:a=rawInt L
 ·subst c;unfold leaving;exact wpAny_bind (wpAny_noteFrame_againW p Y (wpAny_landsW ⟨x,C,hl,Y⟩ λh' z up=>h h' z.1 z.2.2.2 up))
 ·obtain⟨i,N,T,v,u,j,⟨l,d⟩,hd,J,f,Te,r,dT,G⟩:=Y;have b1:(Value.ref T != Value.none)=true:=by simp
  have b2:¬ ((a == rawInt L)=true):=λz=>c (eq_of_beq z);have w:=(HF.mp J).1;have I:=(HF.mp G).1;unfold leaving noteFrame;simp only[p];refine wpAny_bind (wpAny_bind (wpAny_field j hd J ?_));rw[if_pos b1];refine wpAny_bind (wpAny_field r dT G ?_);rw[if_neg b2];refine wpAny_bind (wpAny_setField r dT I ?_);generalize D:s.heap.update T (Obj.mapFields (·.setIfInBounds 3 Value.none))=g;have O:∀ b,b≠T->g.get? b=s.heap.get? b:=λb z=>by rw[← D];exact Heap.get?_update_other _ _ (Ne.symm z)
  have H:∀ b o,s.heap.get? b=some o->(∀ m,o.data≠.fields m)->b≠T:=λb o q n z=>by
   subst z;rw[r]at q
   cases q
   exact n u dT
  have B:base.StaysIn g:=λb o q=>by
   rw[O b λz=>by rw[z,f]at q;cases q]
   exact x b o q
  have z:=wpAny_newEntryW (M:=M) (E:=E) (Q:=Q) (s:={ s with heap:=g }) (head:=.ref T) (hadNext:=Value.ref T != Value.none) k (hl.of_keeps λb o q n=>⟨o,by rw[O b (H b o q n)];exact q,rfl⟩) p (by show g.get? e=some i;rw[O e (Ne.symm Te)];exact j) B C hd w d
   λh' y=>by
    refine h h' y.1 (l▸y.2.2.1) λb o q n=>y.2.2.2 b o ?_ n;show g.get? b=some o;rw[O b (H b o q n)];exact q
  exact z
end
section
variable{X:Cx}{pins:List (Addr×Obj)}{σ:St}{H:Hp}{s:Shared}{x T:Addr}{C:Value}{E:Value->Shared->Prop}
theorem B0{x T:Addr}(n:XOk X pins H x)(D:XOk X pins H T):∀ b∈[x,T],XOk X pins H b:=λb G=>by
 rcases EE.mp G with e | G
 ·rw[e];exact n
 ·have e:b=T:=by simpa using G
  rw[e];exact D
theorem Inv.leaveF{Q:Unit->Shared->Prop}(I:Inv X pins σ H s)(O:X.ex = [])(z:X.stack=X.env::X.outer)(k:X.env.frame=some X.env.locals)(n:XOk X pins H x)(D:XOk X pins H T)(tr:TrcF s.heap x C T)
  (h:∀ h' T,Inv X pins σ H { s with heap:=h' }->XOk X pins H x->XOk X pins H T->Trc h' x C T->Q () { s with heap:=h' }):wpAny (model X.prog X.w) X.A (leaving X.env (.ref x)) Q E s:=by
 have d:X.A.frames=some (X.env::X.outer):=by rw[← z];exact I.ok.frames
 obtain⟨i,N,c,L,g,p,j,l,u,hd,J,r,M,m,G⟩:=tr;refine sU (base:=hidX X s.heap [x,T]) d (z▸I.hidF [x,T]) k ⟨i,N,T,L,g,j,⟨l,u⟩,hd,J,dE (by simp),r,M,m,G⟩ (qB _ _) (dE (by simp)) λh' f B q=>?_
 obtain⟨a,e,t,b⟩:=I.left O (B0 n D) f B q;exact h h' e a n t b
end
noncomputable def WshF(X:Cx)(W:WKD):Prop:=∀(B:List (Addr×Obj))(Y:St)(H:Hp)(s:Shared)(x T:Addr)(C:Value)(d:Option Addr),Inv X B Y H s->XOk X B H x->XOk X B H T->TrcF s.heap x C T->Xd s.heap x d->W C d Y H->X.xe (.ref x) s
theorem CJ{P:Program}{w:World}{K:ED}{mg:Str->Option Value}{base:Heap}{N:List Str}{m:Str}{scope:Scope}{f:Addr}{j:Value}{A:Around}{outer:List Env}{s₀:Shared}{H₀:Hp}{E:XK} :
  WshF (cxOf (CXd P w) P w K mg base N m scope f j A outer s₀ H₀ E) (λC d _ H=>E C d H):=λB Y H s x T C d I n D p z b=>by
 show wpAny (model P w) (A.deeper (envOfC m scope s₀.heap.objs.size f j)) (leaving (envOfC m scope s₀.heap.objs.size f j) (.ref x)) _ _ s;refine wpAny_mono (g7 (jg _ _) (Inv.leaveF (Q:=λ_ g=>∃ G T,g={ s with heap:=G }/\Inv (cxOf (CXd P w) P w K mg base N m scope f j A outer s₀ H₀ E) B Y H { s with heap:=G }/\XOk (cxOf (CXd P w) P w K mg base N m scope f j A outer s₀ H₀ E) B H x/\XOk (cxOf (CXd P w) P w K mg base N m scope f j A outer s₀ H₀ E) B H T/\Trc G x C T) (E:=λ_ _=>False) I rfl rfl rfl n D p λG T a n D p=>⟨G,T,rfl,a,n,D,p⟩)) ?_ (λ_ _ q=>q.1.elim);rintro _ g ⟨⟨G,T,rfl,a,n,D,p⟩,dk⟩;exact⟨x,C,T,H,d,rfl,a.os,a.bare,a.base,a.hok,n.old,D.old,n.trk,D.trk,p,z.dk dk p.there,b⟩
section
variable{X:Cx}{k:Nat}{f:Addr}{fd:FuncData}{ps:List Str}{sp:Sp}{dvs:List V}{ds:List Value}{W:WKD}{x:Str}{p pos:Pos}{e:Expr}{es:List Expr}{t:TA}
theorem yp(F:FnOk X.prog X.w X.K X.mg X.base (CXd X.prog X.w) k f fd ps sp)(L:Room k X.A)(c:Gl X x)(i:X.mg x=some (.ref f))(g:Ft X.K (.ref f)=true)(G:cW X.K fd ps ds)(hd:Vals dvs ds)(l:wI X W)(O:PnX X)
  (E:PA X (e::es) t) (ac:(x == ("__debug__" : Str))=false:=by decide) (o:starEach (e::es) X.env=(false,eval e X.env)::starEach es X.env:=by rfl) (ab:(backTo pos (starEach es X.env)).any (·.1)=false:=by rfl) :
  PE X (.Call (.Name x p) (e::es) [] pos) (xj sp dvs W t):=by
 intro B s Y H Q I h;refine wpAny_Call_Name_kw (gH I c i ?_ ac);refine Hj (h₀:=X.base) I.ok.mod.kin g (thn (E pos B s Y H _ I h) λa m ⟨N,M,y,r,q⟩=>⟨y.kIn,?_⟩) o ab;have J:Vals (N++dvs) (a++ds):=r.append hd;have D:(a++ds).length=ps.length:=by rw[← J.length];exact F.len _ _ _ _ q
 refine wpAny_call (codeAny_mono (F.run X.A X.stack m M ⟨a,[]⟩ (a++ds) (N++dvs) Q _ L y.env0 (G m a y.kIn D) J q) λr n v=>?_)
 cases r with
 |error e =>
  obtain⟨x,C,T,j,d,rfl,os,al,un,aa,nx,nT,tx,tT,tr,z,q'⟩:=v;have I':Inv X B Y j n:=y.call' os un aa al λb z=>absurd z (by simp)
  exact l B Y j n x T C d I' (y.xokP O nx tx) (y.xokP O nT tT) tr z q'
 |ok fl =>
  cases fl with
  |ret u=>exact y.after v
  |next=>exact False.elim v
  |brk=>exact False.elim v
  |cont=>exact False.elim v
end
section
variable{X:Cx}{pins:List (Addr×Obj)}{σ:St}{H:Hp}{s:Shared}{x T L:Addr}{C:Value}{d:Option Addr}{R:Value->Shared->Prop}{fenv cenv:Env}{outer:List Env}
theorem DH{e:Value}{a b:Env}(h:a.frame=b.frame):noteFrame e a=noteFrame e b:=by
 unfold noteFrame Io frameObject frameEnvs;rw[h]
theorem Bi(O:PnX X)(z:X.stack=fenv::outer)(p:fenv.frame=some L)(ac:cenv.frame=fenv.frame)(f:X.A=X.A)(I:Inv X pins σ H s)(n:XOk X pins H x)(D:XOk X pins H T)(tr:Trc s.heap x C T)(B:Xd s.heap x d)
  (h:∀ s4 T4,Inv X pins σ H s4->XOk X pins H T4->TrcF s4.heap x C T4->Xd s4.heap x d->R (.ref x) s4):notedBy (model X.prog X.w) X.A cenv R (.ref x) s:=by
 have y:X.A.frames=some (fenv::outer):=by rw[← z];exact I.ok.frames
 obtain⟨i,N,t,v,g,j,l,u,hd,J,r,M,m,G⟩:=tr;unfold notedBy;rw[DH ac];refine wpAny_mono (g7 (d6 _ _) (wpAny_looks_onW (Q:=λ_ c=>∃ k,c={ s with heap:=k }/\Heap.HeldW (hidX X s.heap [x,T]) (fenv::outer) x C t L k/\s.heap.UpToSlots k) (E:=λ_ _=>False) y p ⟨qB _ _,dE (by simp),z▸I.hidF [x,T],i,N,T,v,g,j,⟨l,u⟩,hd,J,dE (by simp),r,M,m,G⟩ λk a b=>⟨k,rfl,a,b⟩)) ?_ (λ_ _ q=>q.1.elim)
 rintro _ s4 ⟨⟨k,rfl,ab,up⟩,dk⟩;obtain⟨e,T4,Y,aa⟩:=I.leftF O (B0 n D) ab.1 ab.2.2.2 up;obtain⟨o4,_,_,_,_,_,o,_⟩:=id aa;exact h _ T4 e Y aa (B.dk dk ⟨o4,o⟩)
theorem yr{W:WKD}{E:String}{env:Env}(y:WshF X W)(I:Inv X pins σ H s)(q:XOk X pins H x)(D:XOk X pins H T)(tr:TrcF s.heap x C T)(t:Xd s.heap x d)(h:W C d σ H):wpAny (model X.prog X.w) X.A (PySem.passOn E (.ref x) env:Sem Value) (λ_ _=>False) X.xe s:=by
 obtain⟨i,N,c,L,g,p,j,l,u,hd,J,r,M,m,Y⟩:=tr;have i3:=(HF.mp Y).1;unfold PySem.passOn setFlight;refine wpAny_bind (wpAny_field j hd J ?_);rw[if_neg (show ¬ ((Value.ref T == Value.none)=true) from by simp)]
 refine wpAny_bind (wpAny_bind (wpAny_field j hd J ?_));rw[if_pos (show(Value.ref T != Value.none)=true from by simp)]
 refine wpAny_setField M m i3 ?_;generalize B:(env.frame.elim Value.none λf=>rawInt f)=v;have O:∀ b,b≠T->(s.heap.update T (Obj.mapFields (·.setIfInBounds 3 v))).get? b=s.heap.get? b:=λb z=>Heap.get?_update_other _ _ (Ne.symm z);have one:∀ b∈[T],XOk X pins H b:=λb G=>by
  have e:b=T:=by simpa using G
  rw[e];exact D
 have k:Inv X pins σ H { s with heap:=s.heap.update T (Obj.mapFields (·.setIfInBounds 3 v)) }:=I.xstep one (λb o e n _=>(O b λz=>n (by simp[z])).trans e) λb o e n _=>⟨o.slots,(O b λz=>n (by simp[z])).trans e⟩
 refine wpAny_throw (y pins σ H _ x T C d k q D ⟨i,N,c,_,_,v,(O x (Ne.symm r)).trans j,l,u,hd,J,r,Heap.get?_update_self _ M (Obj.isFreed_of_fields (Obj.data_mapFields m _)),Obj.data_mapFields m _,by simp[i3]⟩ ?_ h)
 obtain⟨a,Q,d2⟩:=t;exact⟨a,(O x (Ne.symm r)).trans Q,d2⟩
end
section
variable{X:Cx}{scope:Scope}{fr:List (Str×Nat)}{xs:List Str}{elt iter tg:Expr}{ifs:List Expr}{pos:Pos}{tt:TT}{tgt:TG}{wi:TI}
theorem mh{B:List (Addr×Obj)}{σ:St}{H:Hp}{s:Shared}{E:Value->Shared->Prop}{it:Addr}{fp:List Addr}{tn:Nat->Heap->Prop}{J:It}{RR:Value->Addr->Result->Shared->Prop}{QQ:List V->Hp->Prop}(hc:X.calm=true)(O:bH X scope fr xs)
  (a5:∀ C ex s H,PG (cxG X scope fr xs C ex s H) tg tgt) (Y:∀ C ex s H,PTs (cxG X scope fr xs C ex s H) ifs tt) {b6:WKD->TE} {Wi:WKD} (a:∀ C ex s H ps XE Wi,PnX ((cxG X scope fr xs C ex s H).tried ps XE)->wI ((cxG X scope fr xs C ex s H).tried ps XE) Wi->PE ((cxG X scope fr xs C ex s H).tried ps XE) elt (b6 Wi)) (a2:X.ex = []) (aP:X.stack=X.env::X.outer) (aT:X.env.frame=some X.env.locals) (I:Inv X B σ H s) (T:Turn X.prog X.w X.K tg J fp it tn) (st:tn 0 s.heap) (hf:∀ b∈fp,FpOk X B H b) (hq:eO tgt tt (b6 Wi) xs.length (frOf fr σ) J H QQ)
  (fin:∀ D C H4 ys s4 m,Inv X B σ (upd H4 D (.lst ys)) s4->H4 D=none->FpOk X B (upd H4 D (.lst ys)) C->s4.heap.Ns C m->QQ ys H4->RR (.ref D) C (.ok .next) s4)
  (b7:∀ D C H4 bn ys s4 m x T c d,Inv X B σ (upd H4 D (.lst ys)) s4->H4 D=none->FpOk X B (upd H4 D (.lst ys)) C->s4.heap.Ns C m->XOk X B (upd H4 D (.lst ys)) x->XOk X B (upd H4 D (.lst ys)) T->x≠C->T≠C->TrcF s4.heap x c T->Xd s4.heap x d->Wi c d bn H4->RR (.ref D) C (.error (.ref x)) s4) :
  wpAny (model X.prog X.w) X.A (newList []) (λal am=>wpAny (model X.prog X.w) X.A (newFunctionEnv scope X.env.globals (clOf X.env fr) [] X.env.qual none .none (some X.env)) (λcenv be =>
   codeAny (model X.prog X.w) X.A (.compStart (.ListComp elt [⟨tg,iter,ifs,0⟩] scope pos) 0 (.ref it) al { cenv with scope:=relabel scope X.env }) (RR al cenv.locals) be) E am) E s:=by
 obtain⟨W,⟨m0,w0⟩,turn⟩:=hq;have bf:∀ b∈fp,b<s.heap.objs.size:=λb G=>by
  obtain⟨o,e,_⟩:=T.obj 0 s.heap st b G;exact Heap.lt_size e
 refine wpAny_newObj_type (wpAny_newFunctionEnv O.cell (by intro y hy;simp at hy) (λac a6 ba=>?_) O.kind)
 dsimp only at a6 ba ⊢;generalize cd:s.heap.push { cls:=.type "list",dict:=none,data:=.seq ([]:List Value).toArray }=g at a6 ba ⊢;have hg:g=s.heap.push (LCg.lst []):=cd.symm;have hsz:g.objs.size=s.heap.objs.size+1:=by rw[hg,Heap.size_push]
 have k:∀ b o,g.get? b=some o->ac.get? b=some o:=λb o e=>ba.extBut b o (Fo (Heap.lt_size e)) (Heap.get?_push_of_some _ e);have kp:∀ b o,s.heap.get? b=some o->ac.get? b=some o:=λb o e=>k b o (by rw[hg];exact Heap.get?_push_of_some _ e)
 have ce:∀ b o,s.heap.get? b=some o->g.get? b=some o:=λb o e=>by rw[hg];exact Heap.get?_push_of_some _ e
 have J0:=yW (h':=ac) (tk:=s.toks+([]:List (Str×Value)).length) O I hf bf hg k a6;have a1:∀{j:Hp}{us:List Value},(∀ b∈fp,j b=none)->∀ b∈fp,FpOk (cxG X scope fr xs g.objs.size (s.heap.objs.size::fp) { s with heap:=g } H) (X.pn++B++[(s.heap.objs.size,LCg.lst us)]) j b:=λ{j us} hn b G=>by
  obtain⟨_,f1,f2,f3,f4,f5⟩:=hf b G;refine⟨hn b G,?_,λz=>(EE.mp (I.stkSub b z)).elim f1 f2,.inl (EK _ G),λy c e=>f4 y c (O.cells I e),λp M=>?_⟩
  ·show b≠g.objs.size;rw[hsz];exact Fo (Hc (bf b G))
  ·rcases ER.mp M with M | M
   ·cases M
   ·rcases ER.mp M with M | M
    ·exact f5 p M
    ·have ep:p=(s.heap.objs.size,LCg.lst us):=by simpa using M
     rw[ep];exact Hq (bf b G)
 have bU:codeAny (model X.prog X.w) X.A (.compLoop (.ListComp elt [⟨tg,iter,ifs,0⟩] scope pos) 0 (.ref it) (.ref s.heap.objs.size) (compEnvC scope (clOf X.env fr) g.objs.size X.env))
   (RR (.ref s.heap.objs.size) g.objs.size) { s with heap:=ac,toks:=s.toks+([]:List (Str×Value)).length }:=by
  refine zV (λn s'=>∃ i ys us j,Inv (cxG X scope fr xs g.objs.size (s.heap.objs.size::fp) { s with heap:=g } H) (X.pn++B++[(s.heap.objs.size,LCg.lst us)]) (nons xs++frOf fr σ) j s'/\Vals ys us/\tn i s'.heap/\(∀ b∈fp,j b=none)/\W i n ys j) ?_ m0
   ⟨0,[],[],H,J0,.nil,T.keep 0 s.heap ac st λb _ o e=>kp b o e,λb G=>(hf b G).1,w0⟩
  rintro n s3 ⟨i,ys,us,H3,J3,hv,a0,bm,w3⟩;obtain⟨aa,hh⟩:=turn i n ys H3 w3;have none_err:∀{α:Type}{t:Sem α}{Q:α->Shared->Prop}{E':Value->Shared->Prop}{s:Shared},wpAny (model X.prog X.w) X.A t Q (λ_ _=>False) s->wpAny (model X.prog X.w) X.A t Q E' s:=λh=>wpAny_mono h (λ_ _ q=>q) λ_ _ z=>z.elim;have bv:∀{a4:St},a4.length=(nons xs++frOf fr σ).length->a4.drop xs.length=frOf fr σ->∀(i:Nat) v,(nons xs++frOf fr σ)[i]?=some (some v)->a4[i]?=some (some v):=λ{a4} bA e6 i v e=>by
   by_cases f:i<xs.length
   ·rw[EH (by simpa using f),Gb,if_pos f]at e
    cases e
   ·rw[EF (by simp;omega),← e6,Iv]at e
    have:xs.length+(i-(nons xs).length)=i:=by simp;omega
    rw[this]at e;exact e
  rcases hh with⟨stop,qn⟩ | ⟨go,N,hN,step⟩
  ·refine none_err (thn (T.done (cxG X scope fr xs g.objs.size (s.heap.objs.size::fp) { s with heap:=g } H) rfl rfl rfl hc i _ s3 _ H3 _ J3 (a1 bm) a0 stop) λr s4 ⟨l,J4⟩=>?_);subst l;obtain⟨I4,nD,fC,m,hn⟩:=je I hf hg J4 hv aa;exact fin _ _ H3 ys s4 m I4 nD fC hn qn
  ·refine none_err (thn (T.item (cxG X scope fr xs g.objs.size (s.heap.objs.size::fp) { s with heap:=g } H) rfl rfl rfl hc i _ s3 _ H3 _ J3 (a1 bm) a0 go) λr s4 ⟨u,l,h4⟩=>?_);subst l;refine none_err (thn h4 λ_ s5 ⟨v,H5,J5,r5,y5,ap,bY⟩=>?_);have ch:=J5.pinned (a1 bY) (T.obj _ _ ap);refine none_err (thn (a5 _ _ _ _ _ s5 _ H5 v u _ ch r5 (step v H5 y5)) λ_ s6 ⟨a4,H6,J6,e6,q6⟩=>?_);refine none_err (thn (Y _ _ _ _ _ s6 a4 H6 _ J6 q6) λb b8 ⟨bQ,b0,bR⟩=>?_);have bA:a4.length=(nons xs++frOf fr σ).length:=J6.len.trans J3.len.symm
   cases b with
   |false =>
    rw[if_neg Fd]at bR ⊢;obtain⟨m',hm,w7⟩:=hN ys bQ bR;have bd:∀ b∈fp,∀ o,s5.heap.get? b=some o->b8.heap.get? b=some o/\bQ b=none:=λb G o e=>by
     obtain⟨q1,q2,_⟩:=b0.pin (b,o) (E4 _ (E4 _ (eX G e)));exact⟨q1,q2⟩
    refine⟨m',hm,i+1,ys,us,bQ,b0.unpinned.weak (σ':=nons xs++frOf fr σ) bA.symm (bv bA e6),hv,T.keep _ _ _ ap λb G o e=>(bd b G o e).1,λb G=>?_,w7⟩;obtain⟨o,e,_⟩:=T.obj _ _ ap b G;exact(bd b G o e).2
   |true =>
    rw[if_pos rfl]at bR ⊢;have hP:∀ XE,PnX ((cxG X scope fr xs g.objs.size (s.heap.objs.size::fp) { s with heap:=g } H).tried (X.pn++B++[(s.heap.objs.size,LCg.lst us)]++k8 fp s5.heap) XE):=λXE b G=>by
     rcases EE.mp G with rfl | G
     ·exact⟨LCg.lst us,E4 _ (Fw _ (E4 _ (by simp)))⟩
     ·obtain⟨o,e,_⟩:=T.obj _ _ ap b G;exact⟨o,E4 _ (E4 _ (eX G e))⟩
    refine wpAny_mono (a _ _ _ _ (X.pn++B++[(s.heap.objs.size,LCg.lst us)]++k8 fp s5.heap) (notedBy (model X.prog X.w) X.A (compEnvC scope (clOf X.env fr) g.objs.size X.env) λe s'=>RR (.ref s.heap.objs.size) g.objs.size (.error e) s') Wi (hP _) ?wsh [] b8 _ bQ _ b0.tried bR) (λu7 s7 ⟨v7,H7,ci,r7,q7⟩=>?body) (λ_ _ z=>z)
    case wsh =>
     intro a3 an H1 s1 x T' c d I1 xx xT tr zd hw;show notedBy (model X.prog X.w) X.A (compEnvC scope (clOf X.env fr) g.objs.size X.env) (λe s'=>RR (.ref s.heap.objs.size) g.objs.size (.error e) s') (.ref x) s1;refine Bi (X:=(cxG X scope fr xs g.objs.size (s.heap.objs.size::fp) { s with heap:=g } H).tried (X.pn++B++[(s.heap.objs.size,LCg.lst us)]++k8 fp s5.heap) (notedBy (model X.prog X.w) X.A (compEnvC scope (clOf X.env fr) g.objs.size X.env) λe s'=>RR (.ref s.heap.objs.size) g.objs.size (.error e) s')) (L:=X.env.locals) (cenv:=compEnvC scope (clOf X.env fr) g.objs.size X.env) (R:=λe s'=>RR (.ref s.heap.objs.size) g.objs.size (.error e) s') (hP (notedBy (model X.prog X.w) X.A (compEnvC scope (clOf X.env fr) g.objs.size X.env) λe s'=>RR (.ref s.heap.objs.size) g.objs.size (.error e) s')) aP aT rfl rfl I1 xx xT tr zd λs4 T4 I4 bi bF cj=>?_;have I5:Inv (cxG X scope fr xs g.objs.size (s.heap.objs.size::fp) { s with heap:=g } H) (X.pn++B++[(s.heap.objs.size,LCg.lst us)]) an H1 s4:=I4.untried.pins_of λp M=>I4.untried.pin p (E4 _ (Fw _ M));obtain⟨I6,nD,fC,m,hn⟩:=je I hf hg I5 hv aa;have ab:∀{b:Addr},g.get? b=none->s.heap.get? b=none:=λ{b} G=>by
      cases q:s.heap.get? b with
      |none=>rfl
      |some o =>
       have:=ce b o q;rw[G]at this
       cases this
     have bB:∀{b:Addr},g.get? b=none->b≠s.heap.objs.size:=λ{b} G z=>by
      rw[z,hg,Heap.get?_push_size _ rfl]at G
      cases G
     refine b7 _ _ H1 an ys s4 m x T4 c d I6 nD fC hn (I.xok a2 (ab xx.old) ?_) (I.xok a2 (ab bi.old) ?_) xx.nl bi.nl bF cj hw
     ·rw[ao (bB xx.old)];exact xx.trk
     ·rw[ao (bB bi.old)];exact bi.trk
    case body =>
    have J7:=ci.untried;obtain⟨m',hm,w7⟩:=hN _ H7 q7;obtain⟨eD,nD,dC,dF,dd⟩:=J7.pin (s.heap.objs.size,LCg.lst us) (E4 _ (Fw _ (E4 _ (by simp))))
    have ca:=hv.length;refine append_at (hsz:=by show us.toArray.size<=sizeLine;rw[E9,← ca];exact aa) eD λh8 cb ck=>?_
    have cc:∀ p∈X.pn++B,p.1≠s.heap.objs.size:=λp M z=>by
     have:=Heap.lt_size (I.pin p M).1;rw[z]at this;exact FG _ this
    have cl:Inv (cxG X scope fr xs g.objs.size (s.heap.objs.size::fp) { s with heap:=g } H) (X.pn++B) _ H7 s7:=J7.pins_of λp M=>J7.pin p (E4 _ (Fw _ (Fw _ M)))
    have J8:Inv (cxG X scope fr xs g.objs.size (s.heap.objs.size::fp) { s with heap:=g } H) (X.pn++B) _ H7 { s7 with heap:=h8 }:=cl.turned (t':=s7.toks) (λb o G e=>(cb.2 b G).trans e) nD dC (.inl EM) (λy c e z=>by
     obtain⟨w',q⟩:=I.cell y c (O.cells I e);have:=q.lt;rw[z]at this
     exact FG _ this) (λp M=>(ER.mp M).elim (λz=>by cases z) (cc p))
    have J9:Inv (cxG X scope fr xs g.objs.size (s.heap.objs.size::fp) { s with heap:=g } H) (X.pn++B++[(s.heap.objs.size,LCg.lst (us++[u7]))]) _ H7 { s7 with heap:=h8 }:=J8.pins_of λp M=>by
     rcases ER.mp M with M | M
     ·exact J8.pin p (E4 _ M)
     ·have ep:p=(s.heap.objs.size,LCg.lst (us++[u7])):=by simpa using M
      subst ep;exact⟨ck.trans (congrArg some (LCg.lst_snoc us u7)),nD,dC,dF,λv z=>by cases z⟩
    have cm:=J9.weak (σ':=nons xs++frOf fr σ) bA.symm (bv bA e6);have bd:∀ b∈fp,∀ o,s5.heap.get? b=some o->s7.heap.get? b=some o/\H7 b=none:=λb G o e=>by
     obtain⟨q1,q2,_⟩:=J7.pin (b,o) (E4 _ (E4 _ (eX G e)));exact⟨q1,q2⟩
    refine⟨m',hm,i+1,ys++[v7],us++[u7],H7,cm,hv.append (.cons r7 .nil),T.keep _ _ _ ap λb G o e=>(cb.2 b (Fo (bf b G))).trans (bd b G o e).1,λb G=>?_,w7⟩;obtain⟨o,e,_⟩:=T.obj _ _ ap b G;exact(bd b G o e).2
 exact codeAny_compStart_list bU (T.self X.A 0 _ _ _ (T.keep 0 s.heap ac st λb _ o e=>kp b o e) bU)
noncomputable abbrev wOut(W:WKD)(σ:St):WKD:=λc d _ O=>∀ D v,O D=none->W c d σ (upd O D (.lst v))
theorem vm{W:WKD}{σ ab:St}{B:List (Addr×Obj)}{use:Option (Value->Sem Unit)}{QV:Value->Shared->Prop}{k:Value}{D C:Addr}{s:Hp}{ys:List V}{s4:Shared}{m:Str->Option Value}{x T:Addr}{c:Value}{d:Option Addr}(y:WshF X W)(I:Inv X B σ (upd s D (.lst ys)) s4)(E:s D=none)(fC:FpOk X B (upd s D (.lst ys)) C)(f:s4.heap.Ns C m)
  (n:XOk X B (upd s D (.lst ys)) x) (v:XOk X B (upd s D (.lst ys)) T) (xC:x≠C) (TC:T≠C) (tr:TrcF s4.heap x c T) (zd:Xd s4.heap x d) (hw:wOut W σ c d ab s):compPost (model X.prog X.w) X.A X.xe use QV k C (.error (.ref x)) s4:=by
 have go:∃ m,s4.heap.Ns C m/\∀ q,Heap.SameBut C s4.heap q->∀ ac:Env,ac.locals=C->wpAny (model X.prog X.w) X.A (PySem.passOn "comprehension.variables-let-go" (.ref x) ac:Sem Value) (λ_ _=>False) X.xe { s4 with heap:=q }:=by
  refine⟨m,f,λq aa ac _=>?_⟩;obtain⟨g0,H,L,O,g4,g5⟩:=fC;have I5:=I.turned (t':=s4.toks) (λb o G e=>(aa.2 b G).trans e) g0 H O g4 g5;obtain⟨i,N,t,z,g,p,j,l,u,hd,J,r,M,h,Y⟩:=tr;obtain⟨a,Q,d2⟩:=zd;exact yr y I5 n v ⟨i,N,t,z,g,p,(aa.2 x xC).trans j,l,u,hd,J,r,(aa.2 T TC).trans M,h,Y⟩ ⟨a,(aa.2 x xC).trans Q,d2⟩ (hw D ys E)
 cases use<;>exact go
noncomputable def CV(W:WKD)(wi:TI)(g:TG)(tt:TT)(te:WKD->TE)(n:Nat)(fr:List (Str×Nat)):TE:=λY H Q=>wi Y H λJ O=>eO g tt (te (wOut W Y)) n (frOf fr Y) J O λv u=>∀ D,u D=none->Q (.ref D) (upd u D (.lst v))
theorem pZ{te:WKD->TE}{W:WKD}(y:WshF X W)(am:X.ex = [])(ac:X.stack=X.env::X.outer)(al:X.env.frame=some X.env.locals)(E:X.calm=true)(O:bH X scope fr xs)(f:PI X tg iter wi)(an:∀ C ex s H,PG (cxG X scope fr xs C ex s H) tg tgt)(g:∀ C ex s H,PTs (cxG X scope fr xs C ex s H) ifs tt)
  (j:∀ C ex s H ps XE Wi,PnX ((cxG X scope fr xs C ex s H).tried ps XE)->wI ((cxG X scope fr xs C ex s H).tried ps XE) Wi->PE ((cxG X scope fr xs C ex s H).tried ps XE) elt (te Wi)) (p:∀ x,foldedSetIterable iter X.env x=pure x:=by intro _;rfl) :
  PE X (.ListComp elt [⟨tg,iter,ifs,0⟩] scope pos) (CV W wi tgt tt te xs.length fr):=by
 intro B s Y H Q I h;rw[eval_ListComp];refine wpAny_comprehension_free (use:=none) rfl p O.clos O.kind O.names (thn (f B s Y H _ I h) λxv M k=>thn k λaT q l=>?_);obtain⟨it,fp,tn,J,u,e,z,T,aa,N,L⟩:=l;subst e;refine mh (RR:=λab C=>compPost (model X.prog X.w) X.A X.xe none (EP X B Y Q) ab C) E O an g j am ac al z T aa N L ?_ ?_
 ·intro D C H4 v a m I4 nD fC r q4;refine⟨m,r,λt ap=>?_⟩;obtain⟨g0,g1,g2,g3,g4,g5⟩:=fC;exact⟨.ref D,_,I4.turned (t':=a.toks) (λb o G e=>(ap.2 b G).trans e) g0 g1 g3 g4 g5,rfl,q4 D nD⟩
 ·intro D C H4 aP v a m x T c d I4 nD fC r n xT xC TC tr zd i;exact vm y I4 nD fC r n xT xC TC tr zd i
noncomputable def vx(i:Nat)(W:WKD)(wi:TI)(g:TG)(tt:TT)(te:WKD->TE)(n:Nat)(fr:List (Str×Nat)):TS:=λD Y H=>wi Y H λJ O=>eO g tt (te (wOut W Y)) n (frOf fr Y) J O λv u=>∀ a,u a=none->D.nx (Y.set i (some (.ref a))) (upd u a (.lst v))
theorem pV{te:WKD->TE}{W:WKD}{i:Nat}{y:Str}{py aT:Pos}(ws:WshF X W)(an:X.ex = [])(al:X.stack=X.env::X.outer)(am:X.env.frame=some X.env.locals)(E:X.calm=true)(hN:X.N.Nodup)(ac:X.N[i]?=some y)(hy:X.env.scope.names.lookup y=some .local)(O:bH X scope fr xs)(f:PI X tg iter wi)(ap:∀ C ex s H,PG (cxG X scope fr xs C ex s H) tg tgt)(r:∀ C ex s H,PTs (cxG X scope fr xs C ex s H) ifs tt)
  (j:∀ C ex s H ps XE Wi,PnX ((cxG X scope fr xs C ex s H).tried ps XE)->wI ((cxG X scope fr xs C ex s H).tried ps XE) Wi->PE ((cxG X scope fr xs C ex s H).tried ps XE) elt (te Wi))
  (a2:swapsWith (.ListComp elt [⟨tg,iter,ifs,0⟩] scope pos) (some (.Name y py)) aT.line X.env=pure true:=by rfl) (n:∀ x,foldedSetIterable iter X.env x=pure x:=by intro _;rfl) :
  PS X (.Assign [.Name y py] (.ListComp elt [⟨tg,iter,ifs,0⟩] scope pos) aT) (vx i W wi tgt tt te xs.length fr):=by
 intro B s Y H D I h;rw[exec_Assign_Name_used _ _ _ _ a2];refine wpAny_bind (wpAny_standAt (wpAny_bind ?_));show wpAny _ X.A (do let _ ← comprehension (.ListComp elt [⟨tg,iter,ifs,0⟩] scope pos) scope X.env _ (newList []) false (eval iter X.env) (some (assign (.Name y py) X.env))) _ _ s
 refine wpAny_bind (thn (wpAny_comprehension_free (use:=some (assign (.Name y py) X.env)) (Q:=λ_ s'=>SP X B D .next s') rfl n O.clos O.kind O.names (thn (f B s Y H _ I h) λxv q k=>thn k λa1 s2 l=>?_)) λ_ s' L=>wpAny_pure (wpAny_pure L));obtain⟨it,fp,tn,J,u,e,I2,T,aa,f2,q2⟩:=l;subst e;refine mh (RR:=λab C=>compPost (model X.prog X.w) X.A X.xe (some (assign (.Name y py) X.env)) (λ_ s'=>SP X B D .next s') ab C) E O ap r j an al am I2 T aa f2 q2 ?_ ?_
 ·intro a C H4 t s4 m I4 nD fC hn q4;obtain⟨g0,g1,g2,g3,g4,g5⟩:=fC;obtain⟨oC,eC,a3⟩:=LCg.ns_obj hn;have I5:Inv X (B++[(C,oC)]) Y (upd H4 a (.lst t)) s4:=I4.pins_of λp M=>by
   rcases ER.mp M with M | M
   ·exact I4.pin p (E4 _ M)
   ·have ep:p=(C,oC):=by simpa using M
    subst ep;obtain⟨g,a4,hd,_⟩:=a3;exact⟨eC,g0,g1,g2,λv z=>by rw[hd]at z;cases z⟩
  show wpAny _ X.A (assign (.Name y py) X.env (.ref a)) _ _ _;refine wpAny_assign_Name (kh I5 hN ac (.inl hy) (v:=.ref a) rfl (λs6 I6=>?_) (.inr hy));obtain⟨e6,_⟩:=I6.pin (C,oC) (E4 _ (E4 _ (by simp)))
  refine⟨m,a3.ns e6,λh' aP=>?_⟩;exact⟨_,_,I6.unpinned.turned (t':=s6.toks) (λb o G e=>(aP.2 b G).trans e) g0 g1 g3 g4 g5,q4 a nD⟩
 ·intro D C H4 a0 t s4 m x T c d I4 nD fC hn x1 xT xC TC tr zd hw;exact vm ws I4 nD fC hn x1 xT xC TC tr zd hw
end
theorem uH.g{te:TE}{A:St}{J:It}{H1:Hp}{QQ:List V->Hp->Prop}(h:uH te A J H1 QQ):eO (vN 0) tYes te 1 A J H1 QQ:=by
 obtain⟨W,p,st⟩:=h;refine⟨W,p,λi m v H w=>?_⟩;obtain⟨l,h⟩:=st i m v H w;refine⟨l,h.imp id λ⟨go,N,E,h⟩=>⟨go,λo u=>∃ y,o=v++[y]/\N y u,λo u ⟨y,e,n⟩=>e▸E y u n,λx j a=>⟨rfl,yesT ?_⟩⟩⟩
 have e:(λy s=>∃ Q,v++[y]=v++[Q]/\N Q s)=N:=funext λy=>funext λs=>propext ⟨λ⟨Q,e,n⟩=>by
  have:y=Q:=by simpa using e
  rw[this];exact n,λn=>⟨y,rfl,n⟩⟩
 rw[e];exact h x j a
theorem bE{K:ED}{a:Addr}{xs:List V}{te:TE}{A:St}{H1:Hp}{QQ:List V->Hp->Prop}(Pv:Nat->List V->Hp->Prop)(hz:xs.length<=sizeLine)(u:Pv 0 [] H1)(hl:∀ i ys H,i<=xs.length->Pv i ys H->SqL K H a xs)
  (J:∀ i x ys H,xs[i]?=some x->Pv i ys H->te (some x::A) H λy H2=>Pv (i+1) (ys++[y]) H2) (hd:∀ ys H,ys.length=xs.length->Pv xs.length ys H->QQ ys H):eO (vN 0) tYes te 1 A (Itl K a) H1 QQ:=(zU Pv hz u hl J hd).g
theorem cn{lo:Int}{n:Nat}{te:TE}{A:St}{H1:Hp}{QQ:List V->Hp->Prop}(Pv:Nat->List V->Hp->Prop)(hz:n<=sizeLine)(u:Pv 0 [] H1)
  (J:∀ i ys H,i<n->Pv i ys H->te (some (.int (lo+i))::A) H λy H2=>Pv (i+1) (ys++[y]) H2) (hd:∀ ys H,ys.length=n->Pv n ys H->QQ ys H):eO (vN 0) tYes te 1 A (Itr lo n) H1 QQ:=(wC Pv hz u J hd).g
section
variable{X:Cx}{scope:Scope}{fr:List (Str×Nat)}{xs:List Str}{elt iter tg:Expr}{ifs:List Expr}{pos:Pos}{tt:TT}{tgt:TG}{wi:TI}{te:TE}
noncomputable abbrev wNo:WKD:=λ_ _ _ _=>False
theorem wshNo:WshF X wNo:=λ_ _ _ _ _ _ _ _ _ _ _ _ _ z=>z.elim
theorem a9(d:X.ex = [])(b:X.stack=X.env::X.outer)(c:X.env.frame=some X.env.locals)(l:X.calm=true)(O:bH X scope fr xs)(I:PI X tg iter wi)(e:∀ C ex s H,PG (cxG X scope fr xs C ex s H) tg tgt)(Y:∀ C ex s H,PTs (cxG X scope fr xs C ex s H) ifs tt)
  (j:∀ C ex s H ps n,PE ((cxG X scope fr xs C ex s H).tried ps n) elt te) (J:∀ x,foldedSetIterable iter X.env x=pure x:=by intro _;rfl):PE X (.ListComp elt [⟨tg,iter,ifs,0⟩] scope pos) (tCompE wi tgt tt te xs.length fr) :=
 pZ (te:=λ_=>te) wshNo d b c l O I e Y (λC ex s H ps n _ _ _=>j C ex s H ps n) J
theorem cg{i:Nat}{y:Str}{g f:Pos}(d:X.ex = [])(b:X.stack=X.env::X.outer)(c:X.env.frame=some X.env.locals)(l:X.calm=true)(o:X.N.Nodup)(a:X.N[i]?=some y)(B:X.env.scope.names.lookup y=some .local)(O:bH X scope fr xs)(I:PI X tg iter wi)(e:∀ C ex s H,PG (cxG X scope fr xs C ex s H) tg tgt)(Y:∀ C ex s H,PTs (cxG X scope fr xs C ex s H) ifs tt)
  (j:∀ C ex s H ps n,PE ((cxG X scope fr xs C ex s H).tried ps n) elt te) (h:swapsWith (.ListComp elt [⟨tg,iter,ifs,0⟩] scope pos) (some (.Name y g)) f.line X.env=pure true:=by rfl) (J:∀ x,foldedSetIterable iter X.env x=pure x:=by intro _;rfl) :
  PS X (.Assign [.Name y g] (.ListComp elt [⟨tg,iter,ifs,0⟩] scope pos) f) (xk i wi tgt tt te xs.length fr) :=
 pV (te:=λ_=>te) wshNo d b c l o a B O I e Y (λC ex s H ps n _ _ _=>j C ex s H ps n) h J
end
section
variable{prog:Program}{w:World}{A:Around}{E:Value->Shared->Prop}{s:Shared}
theorem qu{I:Addr}{fp:List Addr}{n:Nat}{Pv:Nat->Value->Prop}{Sq:Nat->Heap->Prop}{T:String}{Q:Value->Shared->Prop}(W:Walks prog w A.in1.in1 I fp [I] n Pv Sq)(f:n<=sizeLine)(st:Sq 0 s.heap)(H:I∈fp)(ab:∀ b∈fp,b<s.heap.objs.size)
  (M:∀ h,Sq 0 h->∃ o,h.get? I=some o/\o.cls=.type T) (t:(Value.type T == Value.type "list")=false) (t2:(Value.type T == Value.type "tuple")=false)
  (hint:∀(h:Heap)(v:Bool->Shared->Prop)(E':Value->Shared->Prop),Sq 0 h->(∀ tk,v false { s with heap:=h,toks:=tk })->wpAny (model prog w) A.in1.in1 (Builtin.List.listLengthHint (.ref I)) v E' { s with heap:=h })
  (B:∀ h' tk k c',(∀ b o,b≠I->s.heap.get? b=some o->h'.get? b=some o)->h'.get? s.heap.objs.size=some { cls:=.type "list",dict:=none,data:=.seq k c',slots:=#[] }->ItemsOf Pv k n->Q (.ref s.heap.objs.size) { s with heap:=h',toks:=tk }) :
  wpAny (model prog w) A (call (.type "list") [.ref I]) Q E s:=by
 refine callType_codes (Q₁:=λL z=>L=.ref s.heap.objs.size/\z={ s with heap:=s.heap.push { cls:=.type "list",data:=.seq #[] } }) PySem.F.called_list (PySem.F.typeCall_list_1 _) PySem.F.entry_list_init
  (code_list_new _ ⟨rfl,rfl⟩) λL z j=>?_
 obtain⟨rfl,rfl⟩:=j;have a:(s.heap.push { cls:=.type "list",data:=.seq #[] }).get? s.heap.objs.size=some { cls:=.type "list",data:=.seq #[] }:=Heap.get?_push_size _ rfl;have y:s.heap.objs.size∉fp:=λi=>FG _ (ab _ i);refine⟨⟨_,a,rfl⟩,PySem.F.args_list_init_2 _ _,?_⟩;show wpAny _ _ (Builtin.List.listItems (.ref s.heap.objs.size) >>= λd=>Builtin.List.listUpdate (.ref s.heap.objs.size) (λ_=>#[]) >>= λ_=>letGo d.toList.reverse >>= λ_=>Builtin.List.listExtendWith (.ref s.heap.objs.size) (.ref I) .none) _ _ _;refine wpAny_bind ?_;unfold Builtin.List.listItems;refine wpAny_bind (wpAny_seqItems a rfl (wpAny_pure ?_));show wpAny _ _ (updateSeq s.heap.objs.size (λ_=>#[]) >>= λ_=>letGo (#[]:Array Value).toList.reverse >>= λ_=>Builtin.List.listExtendWith (.ref s.heap.objs.size) (.ref I) .none) _ _ _;refine wpAny_bind (wpAny_updateSeq a rfl ?_);have N:=Heap.get?_update_self (Obj.mapSeq (λ_=>(#[]:Array Value))) a rfl;have O:∀ b o,s.heap.get? b=some o->((s.heap.push { cls:=.type "list",data:=.seq #[] }).update s.heap.objs.size (Obj.mapSeq (λ_=>(#[]:Array Value)))).get? b=some o:=λb o e=>(Heap.get?_update_other _ _ (Hq (Heap.lt_size e))).trans (Heap.get?_push_of_some _ e);refine wpAny_bind (wpAny_letGo ?_);generalize ((s.heap.push { cls:=.type "list",data:=.seq #[] }).update s.heap.objs.size (Obj.mapSeq (λ_=>(#[]:Array Value))))=C at N O;have l:=W.frame 0 s.heap C st λb _ o e=>O b o e;have p:∀(h:Heap)(c1 tk:Nat),(∀ b o,s.heap.get? b=some o->h.get? b=some o)->h.get? s.heap.objs.size=some { cls:=.type "list",data:=.seq #[] c1 }->codeAny (model prog w) A.in1 (.builtin "list.extend.loop" ⟨[.ref s.heap.objs.size,.ref I,.none],[]⟩) (wants (λr x=>r=Value.none/\Q (.ref s.heap.objs.size) x) E) { s with heap:=h,toks:=tk }:=by
  intro h c1 tk g q;refine codeAny_extend_loopS W.toS f s.heap.objs.size y .none n 0 _ #[] c1 rfl (FT _) (W.frame 0 s.heap h st λb _ o e=>g b o e) q (ItemsOf.nil _) λc k c' i D m=>?_;rw[Moved.eq_with i];refine⟨rfl,B c.heap c.toks k c' (λb o G e=>i.heap b o (λY=>?_) (g b o e)) D m⟩;rcases EE.mp Y with u | Y
  ·exact Fo (Heap.lt_size e) u
  ·exact G (Fi.mp Y)
 unfold Builtin.List.listExtendWith;refine wpAny_bind (wpAny_typeOf (T:=T) (M _ l) ?_);have J:Builtin.List.listSameRef (.ref s.heap.objs.size) (.ref I)=false:=by
  have:s.heap.objs.size≠I:=λe=>y (e▸H);simp[Builtin.List.listSameRef,this]
 simp only[J,t,t2,Bool.or_false,G2,if_false];refine wpAny_bind (W.self 0 _ _ _ l (wpAny_bind (wpAny_holding (hint _ _ _ l λtk=>?_))));refine wpAny_ite_split (λ_=>?_) (λ_=>wpAny_pure ⟨plainId_quiet IZ _,p _ _ _ O N⟩);refine wpAny_bind (wpAny_rule (wpAny_bind ?_));show wpAny _ _ (updateSeq s.heap.objs.size (·.push .none) >>= λ_=>updateSeq s.heap.objs.size (·.pop)) _ _ _;refine wpAny_bind (wpAny_updateSeq N rfl ?_);have aa:=Heap.get?_update_self (Obj.mapSeq (·.push Value.none)) N rfl;refine wpAny_updateSeq (hz:=by seq_fits) aa rfl ?_
 have ac:=Heap.get?_update_self (Obj.mapSeq (·.pop)) aa rfl;exact wpAny_pure ⟨plainId_quiet IZ _,p _ _ _ (λb o e=>(Heap.get?_update_other _ _ (Hq (Heap.lt_size e))).trans ((Heap.get?_update_other _ _ (Hq (Heap.lt_size e))).trans (O b o e))) ac⟩
noncomputable def xW(n:Nat):Obj:={ cls:=.type "range_iterator",data:=.fields #[rawInt ((n:Int)-1),rawInt (n:Int),rawInt (-1)] }
theorem rw_parts{r:Addr}{a b c:Int}{t u v:Tok}{Q:Int×Int×Int->Shared->Prop}(L:IsRange s.heap r a b c t u v)(h:Q (a,b,c) s):wpAny (model prog w) A (Builtin.Range.rangeFields (.ref r)) Q E s:=by
 unfold Builtin.Range.rangeFields;refine wpAny_bind (wpAny_field L rfl (x:=.int a t) rfl ?_);refine wpAny_bind (wpAny_of_eq (a:=some a) rfl ?_);refine wpAny_bind (wpAny_field L rfl (x:=.int b u) rfl ?_);refine wpAny_bind (wpAny_of_eq (a:=some b) rfl ?_);refine wpAny_bind (wpAny_field L rfl (x:=.int c v) rfl ?_);refine wpAny_bind (wpAny_of_eq (a:=some c) rfl ?_);exact wpAny_pure h
theorem rw_call{r:Addr}{n:Nat}{t u v:Tok}{Q:Value->Shared->Prop}(f:n<=1000)(L:IsRange s.heap r 0 (n:Int) 1 t u v)(h:Q (.ref s.heap.objs.size) { s with heap:=s.heap.push (xW n) }):wpAny (model prog w) A (call (.builtin "range.__reversed__") [.ref r]) Q E s:=by
 have M:s.TypeIs (.ref r) "range":=⟨_,L,rfl⟩;have sz:Builtin.Range.rangeSize 0 (n:Int) 1=(n:Int):=by rw[rangeSize_one];split<;>omega
 refine wpAny_call_entry PySem.F.slot_range_reversed M PySem.F.entry_range_reversed ?_ (PySem.F.args_range_reversed_1 _);unfold Builtin.«range.__reversed__»;refine wpAny_bind (wpAny_of_eq (a:=Value.ref r) rfl (wpAny_bind (rw_parts L ?_)));dsimp only;rw[sz];have sm:(Builtin.Range.rangeFitsLong 0&&Builtin.Range.rangeFitsLong (n:Int)&&Builtin.Range.rangeFitsLong 1&&Builtin.Range.rangeFitsLong (-1)&&Builtin.Range.rangeFitsLong (0-1)&&Builtin.Range.rangeFitsLong (n:Int))=true:=by
  have:Builtin.Range.rangeFitsLong (n:Int)=true:=by unfold Builtin.Range.rangeFitsLong;simp;omega
  rw[this];decide
 rw[sm];have T:(0:Int)+((n:Int)-1)*1=(n:Int)-1:=by omega +splitDisjunctions
 rw[T];exact wpAny_bind (wpAny_newObj_type (wpAny_pure ⟨_,rfl,h⟩))
theorem rw_new{r:Addr}{n:Nat}{t u v:Tok}{Q₁:Value->Shared->Prop}(f:n<=1000)(L:IsRange s.heap r 0 (n:Int) 1 t u v)(h:Q₁ (.ref s.heap.objs.size) { s with heap:=s.heap.push (xW n) }):codeAny (model prog w) A (.call (.builtin "reversed.__new__") ⟨[.type "reversed",.ref r],[]⟩) (wants Q₁ E) s:=by
 have M:s.TypeIs (.ref r) "range":=⟨_,L,rfl⟩;refine codeAny_of_tree ?_;show wpAny _ A.in1 (checkBuiltinCall "reversed.__new__" ⟨[.type "reversed",.ref r],[]⟩ >>= λ_=>again (.builtin "reversed.__new__" ⟨[.type "reversed",.ref r],[]⟩)) _ _ s;refine wpAny_bind (wpAny_of_eq (PySem.F.newCall_reversed_1 _) (wpAny_pure ⟨plainId_quiet IT _,codeAny_builtin PySem.F.entry_reversed_new ?_⟩));rw[Around.under_plainId IT _];unfold Builtin.«reversed.__new__»;refine wpAny_bind (wpAny_of_eq (newClass_reversed _) ?_);try dsimp only
 refine wpAny_bind (wpAny_of_eq (a:=()) (by first | rfl | kernel_rfl) (wpAny_bind (wpAny_of_eq (a:=()) (by first | rfl | kernel_rfl) ?_)))
 try dsimp only
 refine wpAny_bind (wpAny_specialOf M PySem.F.slot_range_reversed.lookup (wpAny_bind (wpAny_of_eq (PySem.F.slot_range_reversed.bind _) ?_)));try dsimp only
 show wpAny _ _ (if(Value.builtin "range.__reversed__" == Value.none)=true then _ else _) _ _ _;rw[if_neg (show ¬ ((Value.builtin "range.__reversed__" == Value.none)=true) from Fd)];refine wpAny_bind (wpAny_rule (wpAny_bind (m:=runValue (.call (.builtin "range.__reversed__") ⟨[.ref r],[]⟩)) (show wpAny _ _ (call (.builtin "range.__reversed__") [.ref r]) _ _ _ from rw_call f L ?_)));first
 |exact wpAny_pure h
 |exact wpAny_bind (wpAny_pure (wpAny_pure h))
theorem rw_sub:isSubtype (.type "range_iterator") (.type "reversed")=pure false:=by rw[isSubtype_type];kernel_rfl
theorem rw_hint{I:Addr}{x:Int}{n:Nat}{Q:Bool->Shared->Prop}(f:n<=1000)(D:IsRangeIter s.heap I x (n:Int) (-1))(h:∀ tk,Q false { s with toks:=tk }):wpAny (model prog w) A (Builtin.List.listLengthHint (.ref I)) Q E s:=by
 have M:s.TypeIs (.ref I) "range_iterator":=⟨_,D,rfl⟩;unfold Builtin.List.listLengthHint;refine wpAny_bind (wpAny_specialOf M PySem.F.nolen_ra ?_);wp_delta;refine wpAny_ite_split (λc=>absurd c (by decide)) (λ_=>?_)
 refine wpAny_ite_split (λc=>absurd c (by decide)) (λ_=>?_)
 refine wpAny_bind (wpAny_specialOf M PySem.F.hint_ra ?_);generalize d:("range_iterator.__length_hint__" : String)=e;wp_delta;rw[show splitId e=some ("range_iterator","__length_hint__") from by subst d;decide]
 subst d;refine wpAny_bind (wpAny_isInstance (T:="range_iterator") (b:=true) M (by rw[isSubtype_type];kernel_rfl) ?_)
 refine wpAny_ite_split (λc=>absurd c (by decide)) (λ_=>?_)
 refine wpAny_ite_split (λ_=>?_) (λc=>absurd (by decide) c)
 refine wpAny_ite_split (λ_=>?_) (λc=>absurd (by decide) c)
 refine wpAny_bind (wpAny_call_entry PySem.F.slot_range_iterator_length_hint M PySem.F.entry_range_iterator_length_hint ?_ (PySem.F.args_range_iterator_length_hint_1 _));unfold Builtin.«range_iterator.__length_hint__»;refine wpAny_bind (wpAny_of_eq (a:=Value.ref I) rfl (wpAny_bind (wpAny_field D rfl (x:=rawInt (n:Int)) rfl ?_)));have g:Builtin.List.listTooLong ((n:Int).toNat)=false:=by simp[Builtin.List.listTooLong,sizeLine];omega
 refine wpAny_bind (wpAny_mkInt (wpAny_pure ⟨_,rfl,wpAny_bind (m:=asInt? _) (wpAny_pure ?_)⟩));exact wpAny_ite_split (λc=>absurd c (by rw[g];decide)) (λ_=>wpAny_pure (h _))
end
section
variable{X:Cx}
theorem CM{ys:List V}{its:List Value}{k:Array Value}(O:Vals ys its)(h:ItemsOf (λi v=>its.toArray[its.toArray.size-1-i]?=some v) k its.toArray.size):Vals ys.reverse k.toList:=by
 have e:k.toList=its.reverse:=by
  apply List.ext_getElem?;intro i;by_cases I:i<its.length
  ·have m:i<k.size:=by rw[h.1];simpa using I
   have q:=h.2 i k[i] (Je m);rw[Hu,Je m,HY I,← q];simp
  ·rw[HZ (by rw[Gs,h.1];simpa using I),HZ (by rw[Gi];omega)]
 rw[e];exact O.reverse
theorem ym{e:Expr}{te:TE}{p Y pos al:Pos}(E:X.calm=true) (L:Gl X "list") (i:X.mg "list" = none) (am:Gl X "reversed") (an:X.mg "reversed" = none) (j:PE X e te)
  (J:starEach [.Call (.Name "reversed" Y) [e] [] al] X.env = [(false,eval (.Call (.Name "reversed" Y) [e] [] al) X.env)]:=by rfl) (h2:starEach [e] X.env=(false,eval e X.env)::starEach [] X.env:=by rfl) :
  PE X (.Call (.Name "list" p) [.Call (.Name "reversed" Y) [e] [] al] [] pos) (λσ H Q=>te σ H λx H1=>∃ l ys,x=.ref l/\SqL X.K H1 l ys/\∀ q,H1 q=none->Q (.ref q) (upd H1 q (.lst ys.reverse))):=by
 intro B s σ H Q I h;refine wpAny_Call_Name_kw (eh I L i gd ?_);refine PyProof.Rows.callWith_type1 ?_ J rfl;rw[J];refine Calls.spliced_cons ?_;refine wpAny_Call_Name_kw (eh I am an my ?_);refine PyProof.Rows.callWith_type1 ?_ h2 rfl;rw[h2];refine Calls.spliced_cons (thn (j B s σ H _ I h) λu m ⟨x,H1,y,M,O⟩=>?_);obtain⟨l,ys,rfl,v,q⟩:=O
 cases M
 refine Calls.spliced_nil ?_;obtain⟨c,rv,pl,hz⟩:=y.list v;have f:c.toArray.size=ys.length:=by rw[E9,rv.length]
 refine call_reversed_list pl.isList ?_;refine Calls.spliced_nil ?_;have d:l<m.heap.objs.size:=by
  obtain⟨o,n,D,_⟩:=pl;exact Heap.lt_size D
 have r:Inv X B σ H1 { m with heap:=m.heap.push (revObj l ((c.toArray.size:Int)-1)) }:=y.kept (t':=m.toks) λb o e=>Heap.get?_push_of_some _ e;have ac:(m.heap.push (revObj l ((c.toArray.size:Int)-1))).IsRevIter m.heap.objs.size l ((c.toArray.size:Int)-1):=⟨_,Heap.get?_push_size _ rfl,rfl,rfl⟩;refine qu (T:="list_reverseiterator") (Walks.listRev (A:=X.A.in1.in1) (I.ok.hd E) m.heap.objs.size l (Fo d) c.toArray) (by rw[f];exact hz) ⟨FT _,by simpa using ac,pl.isList.push _⟩ (by simp) (λb G=>?fp) (λh z=>let ⟨o,N,E,_⟩:=z.2.1;⟨o,N,E⟩) (by decide) (by decide) (λh Q' E' z k=>Bz z.2.1.typeIs (k m.toks)) λt tk aa C g a ab=>?_
 case fp =>
  rw[Heap.size_push];rcases EE.mp G with e | e
  ·rw[e];exact FV _
  ·rw[Fi.mp e];exact Hc d
 obtain⟨f0,w,f2,f3,f4,f5⟩:=y.fpOk (H':=H1) (EI _) (y.hok.fresh (EI _));have I3:Inv X B σ H1 { m with heap:=t,toks:=tk }:=r.turned (t':=tk) (λb o G e=>g b o G e) f0 w f3 f4 f5;have fS:=r.fpOk (H':=H1) (EI _) (r.hok.fresh (EI _));have I4:=I3.track (o:=.lst ys.reverse) fS ⟨by rw[Gi];exact hz,aa.toList,C,CM rv ab,by rw[Ii];exact a⟩
 exact⟨.ref _,_,I4,rfl,q _ fS.1⟩
theorem yk{e:Expr}{te:TE}{p p2 p3 pos am an:Pos}(l:X.calm=true) (D:Gl X "list") (L:X.mg "list" = none) (ap:Gl X "reversed") (aP:X.mg "reversed" = none) (a0:Gl X "range") (a3:X.mg "range" = none) (g:PE X e te)
  (J:starEach [.Call (.Name "reversed" p2) [.Call (.Name "range" p3) [e] [] an] [] am] X.env = [(false,eval (.Call (.Name "reversed" p2) [.Call (.Name "range" p3) [e] [] an] [] am) X.env)]:=by rfl) (h2:starEach [.Call (.Name "range" p3) [e] [] an] X.env = [(false,eval (.Call (.Name "range" p3) [e] [] an) X.env)]:=by rfl) (Y:starEach [e] X.env=(false,eval e X.env)::starEach [] X.env:=by rfl) :
  PE X (.Call (.Name "list" p) [.Call (.Name "reversed" p2) [.Call (.Name "range" p3) [e] [] an] [] am] [] pos) (λσ H Q=>te σ H λx H1=>∃ n:Nat,x=.int (n:Int)/\n<=1000/\∀ q,H1 q=none->Q (.ref q) (upd H1 q (.lst ((EY n).reverse.map λ(i:Nat)=>V.int ((i:Nat):Int))))):=by
 intro B s σ H Q I h;refine wpAny_Call_Name_kw (eh I D L gd ?_);refine PyProof.Rows.callWith_type1 ?_ J rfl;rw[J];refine Calls.spliced_cons (wpAny_Call_Name_kw (eh I ap aP my ?_));refine PyProof.Rows.callWith_type1 ?_ h2 rfl;rw[h2];refine Calls.spliced_cons (wpAny_Call_Name_kw (eh I a0 a3 boot_range ?_));refine PyProof.Rows.callWith_type1 ?_ Y rfl;rw[Y];refine Calls.spliced_cons (thn (g B s σ H _ I h) λu m ⟨x,H1,c,M,O⟩=>?_);obtain⟨n,rfl,r,q⟩:=O;obtain⟨t,rfl⟩:=M;refine Calls.spliced_nil (call_range_1 (Calls.spliced_nil ?_));have I2:Inv X B σ H1 { m with heap:=m.heap.push { cls:=.type "range",data:=.fields #[.int 0 m.toks,.int (n:Int) t,.int 1 (m.toks+1)] },toks:=m.toks+1+1 }:=c.kept λb o e=>Heap.get?_push_of_some _ e;refine callType_other (U:="range_iterator") (Q₁:=λaT E=>aT=.ref _/\E={ m with heap:=(m.heap.push { cls:=.type "range",data:=.fields #[.int 0 m.toks,.int (n:Int) t,.int 1 (m.toks+1)] }).push (xW n),toks:=m.toks+1+1 }) (by decide) PySem.F.create_reversed ⟨_,_,PySem.F.mro_reversed⟩ PySem.F.made_reversed rw_sub (PySem.F.typeCall_reversed_1 _) (rw_new r (IsRange.new ..) ⟨rfl,rfl⟩) ?_
 rintro aT E ⟨rfl,rfl⟩;refine⟨⟨_,Heap.get?_push_size _ rfl,rfl⟩,Calls.spliced_nil ?_⟩;have I3:=I2.kept (t':=m.toks+1+1) (h':=(m.heap.push { cls:=.type "range",data:=.fields #[.int 0 m.toks,.int (n:Int) t,.int 1 (m.toks+1)] }).push (xW n)) λb o e=>Heap.get?_push_of_some _ e;have al:IsRangeIter ((m.heap.push { cls:=.type "range",data:=.fields #[.int 0 m.toks,.int (n:Int) t,.int 1 (m.toks+1)] }).push (xW n)) _ ((n:Int)-1) (n:Int) (-1):=Heap.get?_push_size _ rfl;refine qu (T:="range_iterator") (Walks.range (A:=X.A.in1.in1) (I.ok.hd l) _ ((n:Int)-1) (-1) n) (FF r (by decide)) (by simpa using al) (by simp) (λb G=>by rw[Fi.mp G];exact Heap.lt_size al) (λh z=>⟨_,z,rfl⟩) (by decide) (by decide) (λh Q' E' z k=>rw_hint r (by simpa using z) k) λh' tk ab C d hS ac=>?_
 obtain⟨f0,f1,f2,f3,f4,f5⟩:=I2.fpOk (H':=H1) (EI _) (I2.hok.fresh (EI _));have I4:Inv X B σ H1 { m with heap:=h',toks:=tk }:=I3.turned (t':=tk) (λb o G e=>d b o G e) f0 f1 f3 f4 f5;have fS:=I3.fpOk (H':=H1) (EI _) (I3.hok.fresh (EI _));have w:Vals ((EY n).reverse.map λ(i:Nat)=>V.int ((i:Nat):Int)) ab.toList:=by
  refine rG (by rw[EJ,Gi,Fh,Gs,ac.1]) λi y u a b=>?_
  rw[Hu]at b;obtain⟨aa,e⟩:=ac.2 i u b;rw[EO]at a;obtain⟨j,v,N⟩:=Fm.mp a;have f:i<n:=by
   have:=(EB.mp v).1;rwa[Gi,Fh]at this
  rw[HY (by rw[Fh];exact f),Fh,FU (by omega)]at v
  cases v
  subst N;subst e;exact⟨aa,by congr 1;omega⟩
 have I5:=I4.track (o:=.lst ((EY n).reverse.map λ(i:Nat)=>V.int ((i:Nat):Int))) fS ⟨by rw[EJ,Gi,Fh];exact FF r (by decide),ab.toList,C,w,by rw[Ii];exact hS⟩
 exact⟨.ref _,_,I5,rfl,q _ fS.1⟩
end
end L2
namespace K2
noncomputable def S:List Nat->Nat
 |[]=>0
 |p::r=>2^p+S r
theorem Ex{n p:Nat}(h:n.testBit p=false)(i:Nat):(n+2^p).testBit i=(n.testBit i||decide (i=p)):=by
 have e:n+2^p=n|||2^p:=by
  have w:n&&&2^p=0:=by
   apply FA;intro j;rw[Gv,Fg,FC];by_cases E:p=j
   ·subst E;simp[h]
   ·simp[E]
  have q:∀ m k:Nat,(m|||k)+(m&&&k)=m+k:=by
   intro m;induction m using Nat.strongRecOn with
   |ind m Y =>
    intro n;by_cases u:m=0
    ·subst u;simp
    ·have a:=Y (m/2) (by omega) (n/2)
     rw[← Nat.or_div_two,← Nat.and_div_two]at a;have Q:=@Nat.or_mod_two_eq_one m n;have B:=@Nat.and_mod_two_eq_one m n;omega
  have:=q n (2^p);rw[w]at this;omega
 rw[e,Gu,Fg];congr 1;exact decide_eq_decide.mpr ⟨λh=>h.symm,λh=>h.symm⟩
theorem S_bit:∀{D:List Nat},D.Nodup->∀ i,(S D).testBit i=decide (i∈D)
 |[],_,i=>by simp[S]
 |p::r,o,i=>by
  have ⟨J,C⟩:=EL.mp o;have M:(S r).testBit p=false:=by rw[S_bit C];exact decide_eq_false J
  have e:S (p::r)=S r+2^p:=Nat.add_comm _ _;rw[e,Ex M,S_bit C];by_cases a:i=p<;>by_cases b:i∈r<;>simp[a,b]
noncomputable def bitsF(k n:Nat):List Nat:=if h:n=0 then[] else(if n%2=1 then[k] else[])++bitsF (k+1) (n/2)
termination_by n
decreasing_by omega
theorem bitsF_zero(k:Nat):bitsF k 0 = []:=by rw[bitsF];simp
theorem bitsF_odd{k n:Nat}(h:n%2=1):bitsF k n=k::bitsF (k+1) (n/2):=by
 rw[bitsF,dif_neg (by omega),if_pos h];rfl
theorem bitsF_even{k n:Nat}(u:n≠0)(h:¬ n%2=1):bitsF k n=bitsF (k+1) (n/2):=by
 rw[bitsF,dif_neg u,if_neg h];rfl
theorem pB:∀(f n k:Nat),n<=f->∀ p∈bitsF k n,k<=p
 |0,n,k,h=>by
  have z:n=0:=by omega
  subst z;rw[bitsF_zero];intro p M;cases M
 |f+1,n,k,h=>by
  intro p M;by_cases z:n=0
  ·subst z;rw[bitsF_zero]at M;cases M
  ·by_cases o:n%2=1
   ·rw[bitsF_odd o]at M;rcases EE.mp M with e | M
    ·omega
    ·have:=pB f (n/2) (k+1) (by omega) p M;omega
   ·rw[bitsF_even z o]at M;have:=pB f (n/2) (k+1) (by omega) p M;omega
theorem bitsF_sorted:∀(f n k:Nat),n<=f->(bitsF k n).Pairwise (· < ·)
 |0,n,k,h=>by
  have z:n=0:=by omega
  subst z;rw[bitsF_zero];exact HN
 |f+1,n,k,h=>by
  by_cases z:n=0
  ·subst z;rw[bitsF_zero];exact HN
  ·by_cases o:n%2=1
   ·rw[bitsF_odd o];exact List.Pairwise.cons (λp M=>pB f (n/2) (k+1) (by omega) p M) (bitsF_sorted f (n/2) (k+1) (by omega))
   ·rw[bitsF_even z o];exact bitsF_sorted f (n/2) (k+1) (by omega)
theorem bitsF_sum:∀(f n k:Nat),n<=f->S (bitsF k n)=n*2^k
 |0,n,k,h=>by
  have z:n=0:=by omega
  subst z;rw[bitsF_zero];simp[S]
 |f+1,n,k,h=>by
  by_cases z:n=0
  ·subst z;rw[bitsF_zero];simp[S]
  ·have Y:=bitsF_sum f (n/2) (k+1) (by omega)
   have e:n/2*2^(k+1)=(2*(n/2))*2^k:=by rw[Nat.pow_succ,Nat.mul_comm (2^k) 2,← Nat.mul_assoc,Nat.mul_comm (n/2) 2]
   by_cases o:n%2=1
   ·rw[bitsF_odd o];show 2^k+S (bitsF (k+1) (n/2))=_;rw[Y,e];have:n=2*(n/2)+1:=by omega
    have Q:n*2^k=(2*(n/2)+1)*2^k:=by rw[← this]
    rw[Q,Nat.add_mul,Nat.one_mul];omega
   ·rw[bitsF_even z o,Y,e];have:n=2*(n/2):=by omega
    have Q:n*2^k=(2*(n/2))*2^k:=by rw[← this]
    rw[Q]
theorem bitsF_lt:∀(m n k:Nat),n<2^m->∀ p∈bitsF k n,p<k+m
 |0,n,k,h=>by
  have z:n=0:=by omega
  subst z;rw[bitsF_zero];intro p M;cases M
 |m+1,n,k,h=>by
  intro p M;have C:n/2<2^m:=by rw[Nat.pow_succ]at h;omega
  by_cases z:n=0
  ·subst z;rw[bitsF_zero]at M;cases M
  ·by_cases o:n%2=1
   ·rw[bitsF_odd o]at M;rcases EE.mp M with e | M
    ·omega
    ·have:=bitsF_lt m (n/2) (k+1) C p M;omega
   ·rw[bitsF_even z o]at M;have:=bitsF_lt m (n/2) (k+1) C p M;omega
theorem bitsF_len:∀(m n k:Nat),n<2^m->(bitsF k n).length<=m
 |0,n,k,h=>by
  have z:n=0:=by omega
  subst z;rw[bitsF_zero];exact EI _
 |m+1,n,k,h=>by
  have C:n/2<2^m:=by rw[Nat.pow_succ]at h;omega
  by_cases z:n=0
  ·subst z;rw[bitsF_zero];exact FT _
  ·by_cases o:n%2=1
   ·rw[bitsF_odd o];have:=bitsF_len m (n/2) (k+1) C;show _+1<=_;omega
   ·rw[bitsF_even z o];have:=bitsF_len m (n/2) (k+1) C;omega
theorem nodup_of_lt{l:List Nat}(h:l.Pairwise (· < ·)):l.Nodup:=h.imp λh=>Fo h
end K2
namespace KF
open PySem L2
local macro_rules | `(tactic| walk_at "cc") => `(tactic| first | exact ⟨by decide, by decide⟩ | (show (0 : Int) < _; decide) | (show (0 : Int) < _; omega) | (show (0 : Int) ≤ _; omega) | exact ⟨by decide, by decide, by decide⟩ | exact ⟨by omega, by omega, by decide⟩ | exact Or.inl ⟨by decide, by decide⟩ | exact Or.inl ⟨by omega, by omega⟩)
local macro_rules | `(tactic| walk_at "rd") => `(tactic| repeat (first | refine ⟨_, rfl, ?_⟩ | refine ⟨_, _, rfl, rfl, ?_⟩ | refine ⟨rfl, ?_⟩ | (refine ⟨?cc, ?_⟩; (case cc => walk_at "cc"))))
noncomputable def top(i:Nat):Stmt:=PySem.Challenge.pw_spinfloor_k36_both_ways.main.body.getD i (.Pass ⟨0,0,0,0⟩)
noncomputable abbrev eQ:Stmt:=top 18
noncomputable abbrev ko:Stmt:=top 20
noncomputable abbrev hO:Stmt:=top 21
noncomputable abbrev gu:Stmt:=top 22
noncomputable abbrev ki:Stmt:=top 23
noncomputable abbrev nN:Stmt:=top 24
noncomputable abbrev uS:Stmt:=top 13
noncomputable abbrev uR:Stmt:=top 14
noncomputable abbrev AE:Stmt:=top 15
noncomputable abbrev eU:Stmt:=top 16
noncomputable abbrev cX:Stmt:=top 27
noncomputable abbrev fL:Stmt:=top 28
noncomputable abbrev bM:Stmt:=top 29
noncomputable abbrev fJ:Stmt:=top 30
noncomputable abbrev kj:Stmt:=top 31
noncomputable abbrev Lk:=Nat×Nat×Int
noncomputable def bey(l:Lk)(r:Nat):Nat:=if r=l.1 then l.2.1 else l.1
noncomputable def kc(l:Lk)(r:Nat):Prop:=r=l.1∨r=l.2.1
theorem pC{l:Lk}{r:Nat}(h:kc l r):kc l (bey l r):=by
 unfold bey;split
 ·exact .inr rfl
 ·exact .inl rfl
theorem mz{l:Lk}{r:Nat}(h:kc l r):bey l (bey l r)=r:=by
 unfold bey;by_cases c:r=l.1
 ·rw[if_pos c];by_cases d:l.2.1=l.1
  ·rw[if_pos d];omega
  ·rw[if_neg d];exact c.symm
 ·rw[if_neg c,if_pos rfl];rcases h with h | h
  ·exact absurd h c
  ·exact h.symm
theorem bey_lt{l:Lk}{r n:Nat}(J:l.1<n)(h2:l.2.1<n):bey l r<n:=by
 unfold bey;split<;>assumption
inductive Up(ls:List Lk)(vv:List (Option Nat))(s:Nat):Nat->Nat->Prop where
 |root:Up ls vv s 0 s
 |step {j r k:Nat} {l:Lk} (hv:vv[r]?=some (some k)) (hl:ls[k]?=some l) (h:Up ls vv s j (bey l r)):Up ls vv s (j+1) r
theorem Up.uniq{ls:List Lk}{v:List (Option Nat)}{s:Nat}(u:v[s]?=some none):∀{j i r:Nat},Up ls v s j r->Up ls v s i r->j=i
 |_,_,_,.root,.root=>rfl
 |_,_,_,.root,.step B _ _=>by rw[u]at B;cases B
 |_,_,_,.step B _ _,.root=>by rw[u]at B;cases B
 |_,_,_,.step B D h,.step a g G=>by
  rw[B]at a;cases a;rw[D]at g;cases g;rw[Up.uniq u h G]
theorem Up.lt{ls:List Lk}{v:List (Option Nat)}{s j r:Nat}(u:v[s]?=some none)(h:Up ls v s j r):r<v.length:=by
 cases h with
 |root=>exact(EB.mp u).1
 |step B _ _=>exact(EB.mp B).1
theorem Up.chain{ls:List Lk}{v:List (Option Nat)}{s:Nat}(u:v[s]?=some none):∀{j r:Nat},Up ls v s j r->∃ c:List Nat,c.length=j+1/\c.Nodup/\∀ x∈c,x<v.length/\∃ i,i<=j/\Up ls v s i x
 |_,_,.root=>⟨[s],rfl,EL.mpr ⟨(by simp),GN⟩,λx O=>by rw[Fi.mp O];exact⟨Up.lt (ls:=ls) u .root,0,EI _,.root⟩⟩
 |j+1,r,.step B D h=>by
  obtain⟨c,k,o,l⟩:=Up.chain u h;have b:Up ls v s (j+1) r:=.step B D h;refine⟨r::c,by rw[E7,k],EL.mpr ⟨λL=>?_,o⟩,λx O=>?_⟩
  ·obtain⟨_,i,I,f⟩:=l r L;have:=Up.uniq u b f;omega
  ·rcases EE.mp O with rfl | O
   ·exact⟨Up.lt u b,j+1,EI _,b⟩
   ·obtain⟨a,i,I,f⟩:=l x O;exact⟨a,i,by omega,f⟩
theorem i9:∀(n:Nat)(c:List Nat),c.Nodup->(∀ x∈c,x<n)->c.length<=n
 |0,c,_,h=>by
  cases c with
  |nil=>exact EI _
  |cons x r=>exact absurd (h x (EM ..)) (FN _)
 |n+1,c,o,h=>by
  have J:=i9 n (c.erase n) (o.erase _) λx O=>by
   have i:=List.mem_of_mem_erase O;have:=h x i;have:x≠n:=λe=>by rw[e]at O;exact absurd O (List.Nodup.not_mem_erase o)
   omega
  have C:c.length<=(c.erase n).length+1:=by rw[List.length_erase];split<;>omega
  omega
theorem Up.short{ls:List Lk}{v:List (Option Nat)}{s j r:Nat}(u:v[s]?=some none)(h:Up ls v s j r):j+1<=v.length:=by
 obtain⟨c,k,o,l⟩:=Up.chain u h;rw[← k];exact i9 _ c o λx O=>(l x O).1
noncomputable def cOf(o:Option Int):Nat:=if o.isSome then 1 else 0
noncomputable def cnt(T:List (Option Int)):Nat:=(T.map cOf).sum
noncomputable def vOf(B:Nat)(o:Option Int):Nat:=match o with | none=>B | some x=>x.toNat
noncomputable def wgt(B:Nat)(T:List (Option Int)):Nat:=(T.map (vOf B)).sum
theorem nC{α:Type}(f:α->Nat):∀(l:List α)(i:Nat)(x y:α),l[i]?=some x->((l.set i y).map f).sum+f x=(l.map f).sum+f y
 |a::l,0,x,y,e=>by
  cases e
  rw[List.set_cons_zero,E6,E6,GJ,GJ];omega
 |a::l,i+1,x,y,e=>by
  have:=nC f l i x y e;rw[List.set_cons_succ,E6,E6,GJ,GJ];omega
 |[],i,x,y,e=>by cases i<;>cases e
theorem Cv:∀(T:List (Option Int)){i:Nat},T[i]?=some none->cnt T+1<=T.length
 |[],i,e=>by cases i<;>cases e
 |a::T,0,e=>by
  cases e
  have:∀ T:List (Option Int),cnt T<=T.length:=λT=>by
   induction T with
   |nil=>exact EI _
   |cons b T Y =>
    have D:cnt (b::T)=cOf b+cnt T:=by unfold cnt;rw[E6,GJ]
    have Q:cOf b<=1:=by unfold cOf;split<;>omega
    rw[D,E7];omega
  have D:cnt (none::T)=cOf none+cnt T:=by unfold cnt;rw[E6,GJ]
  have Q:cOf none=0:=rfl;have:=this T;rw[D,E7];omega
 |a::T,i+1,e=>by
  have Y:=Cv T (i:=i) e;have D:cnt (a::T)=cOf a+cnt T:=by unfold cnt;rw[E6,GJ]
  have Q:cOf a<=1:=by unfold cOf;split<;>omega
  rw[D,E7];omega
structure FI(n:Nat)(ls:List Lk)(s:Nat)(M:Nat)(T:List (Option Int))(vv:List (Option Nat))(W:List Nat)(ex:Nat->Nat->Prop):Prop where
 w0:∀ l∈ls,0<=l.2.2/\l.2.2<=(M:Int)
 tl:T.length=n
 vl:vv.length=n
 st:T[s]?=some (some 0)
 vs:vv[s]?=some none
 nn:∀(r:Nat)(x:Int),T[r]?=some (some x)->0<=x
 bd:∀(r:Nat)(x:Int),T[r]?=some (some x)->x+(M:Int)<=(cnt T:Int)*(M:Int)
 pr:∀(r k:Nat),vv[r]?=some (some k)->∃(l:Lk)(x y:Int),ls[k]?=some l/\kc l r/\T[r]?=some (some x)/\T[bey l r]?=some (some y)/\y+l.2.2<=x
 up:∀(r:Nat)(x:Int),T[r]?=some (some x)->∃ j,Up ls vv s j r
 rl:∀(r:Nat)(x:Int)(i:Nat)(l:Lk),T[r]?=some (some x)->r∉W->ls[i]?=some l->kc l r->ex r i∨∃ y:Int,T[bey l r]?=some (some y)/\y<=x+l.2.2
 wk:∀ r∈W,∃ x:Int,T[r]?=some (some x)
theorem pO{α:Type}{l:List α}{i j:Nat}{x:α}(I:i<l.length):(l.set i x)[j]?=if i=j then some x else l[j]?:=by
 rw[Fl];by_cases c:i=j
 ·rw[if_pos c,if_pos c,if_pos I]
 ·rw[if_neg c,if_neg c]
theorem FI.mend{n:Nat}{ls:List Lk}{s M:Nat}{T:List (Option Int)}{v:List (Option Nat)}{W W':List Nat}{ex ex':Nat->Nat->Prop}(I:FI n ls s M T v W ex){m k:Nat}{l:Lk}{x:Int}{o:Option Int}
  (hl:ls[k]?=some l) (a:kc l m) (O:T[m]?=some (some x)) (N:T[bey l m]?=some o) (E:∀ y,o=some y->x+l.2.2<y)
  (hW:∀ r,r∈W'↔r∈W∨r=bey l m) (ab:∀ r i,ex r i->ex' r i∨(r=m/\i=k)) :
  FI n ls s M (T.set (bey l m) (some (x+l.2.2))) (v.set (bey l m) (some k)) W' ex':=by
 obtain⟨d,hM⟩:=I.w0 l (EC hl);have tt:bey l m<T.length:=(EB.mp N).1;have tl:=I.tl;have vl:=I.vl;have x0:=I.nn m x O;have t:bey l m≠s:=λe=>by
  rw[e,I.st]at N
  cases N
  have:=E 0 rfl;omega
 have nm:bey l m≠m:=λe=>by
  rw[e,O]at N
  cases N
  have:=E x rfl;omega
 have gT:∀ r:Nat,(T.set (bey l m) (some (x+l.2.2)))[r]?=if bey l m=r then some (some (x+l.2.2)) else T[r]?:=λr=>pO tt;have gV:∀ r:Nat,(v.set (bey l m) (some k))[r]?=if bey l m=r then some (some k) else v[r]?:=λr=>pO (by omega)
 have ac:∀(r:Nat)(y:Int),T[r]?=some (some y)->∃ z:Int,(T.set (bey l m) (some (x+l.2.2)))[r]?=some (some z)/\z<=y:=λr y e=>by
  rw[gT];by_cases c:bey l m=r
  ·rw[if_pos c];rw[← c,N]at e
   cases e
   exact⟨_,rfl,Int.le_of_lt (E y rfl)⟩
  ·rw[if_neg c];exact⟨y,e,F6 _⟩
 have keep:∀{j r:Nat},Up ls v s j r->∀ y,T[r]?=some (some y)->(∀ z,o=some z->y<z)->Up ls (v.set (bey l m) (some k)) s j r:=by
  intro j r h;induction h with
  |root=>intro _ _ _;exact .root
  | @step j r k' l' B g h Y =>
   intro y H w;have ne:bey l m≠r:=λe=>by
    rw[e,H]at N
    cases N
    exact absurd (w y rfl) (Int.lt_irrefl _)
   obtain⟨l2,b,p,D,Q,A,e4,e5⟩:=I.pr r k' B;rw[g]at D;cases D;rw[H]at A;cases A;have w0:=(I.w0 l' (EC g)).1;refine .step (by rw[gV,if_neg ne];exact B) g (Y p e4 λz am=>?_)
   have:=w z am;omega
 obtain⟨jm,um⟩:=I.up m x O;have an:=keep um x O λz w=>by have:=E z w;omega
 have ut:Up ls (v.set (bey l m) (some k)) s (jm+1) (bey l m):=.step (by rw[gV,if_pos rfl]) hl (by rw[mz a];exact an)
 have all:∀{j r:Nat},Up ls v s j r->∃ i,Up ls (v.set (bey l m) (some k)) s i r:=by
  intro j r h;induction h with
  |root=>exact⟨0,.root⟩
  | @step j r k' l' B g h Y =>
   by_cases c:bey l m=r
   ·rw[← c];exact⟨_,ut⟩
   ·obtain⟨i,f⟩:=Y;exact⟨i+1,.step (by rw[gV,if_neg c];exact B) g f⟩
 have cs:=nC cOf T (bey l m) o (some (x+l.2.2)) N;have c1:cOf (some (x+l.2.2))=1:=rfl;have cc:cnt (T.set (bey l m) (some (x+l.2.2)))+cOf o=cnt T+1:=by unfold cnt;rw[c1]at cs;exact cs
 have al:cnt T<=cnt (T.set (bey l m) (some (x+l.2.2))):=by
  have:cOf o<=1:=by unfold cOf;split<;>omega
  omega
 have mul_le:(cnt T:Int)*(M:Int)<=(cnt (T.set (bey l m) (some (x+l.2.2))):Int)*(M:Int):=Int.mul_le_mul_of_nonneg_right (by omega) (by omega)
 have bm:=I.bd m x O;refine⟨I.w0,by rw[Fc];exact tl,by rw[Fc];exact vl,by rw[gT,if_neg t];exact I.st,by rw[gV,if_neg t];exact I.vs,λr y e=>?_,λr y e=>?_,λr k' e=>?_,λr y e=>?_,λr y i l' e L g aa=>?_,λr L=>?_⟩
 ·rw[gT]at e;by_cases c:bey l m=r
  ·rw[if_pos c]at e;cases e;omega
  ·rw[if_neg c]at e;exact I.nn r y e
 ·rw[gT]at e;by_cases c:bey l m=r
  ·rw[if_pos c]at e;cases e
   cases o with
   |none =>
    have D:cnt (T.set (bey l m) (some (x+l.2.2)))=cnt T+1:=by have:cOf none=0:=rfl;omega
    rw[D];have:((cnt T+1:Nat):Int)*(M:Int)=(cnt T:Int)*(M:Int)+(M:Int):=by push_cast;rw[Int.add_mul,IS]
    omega
   |some z =>
    have:=E z rfl;have:=I.bd (bey l m) z N;omega
  ·rw[if_neg c]at e;have:=I.bd r y e;omega
 ·rw[gV]at e;by_cases c:bey l m=r
  ·rw[if_pos c]at e;cases e;refine⟨l,x+l.2.2,x,hl,c▸pC a,by rw[gT,if_pos c],?_,F6 _⟩
   rw[← c,mz a,gT,if_neg nm];exact O
  ·rw[if_neg c]at e;obtain⟨l2,b,p,D,Q,A,e4,e5⟩:=I.pr r k' e;obtain⟨z,e6,e7⟩:=ac _ _ e4;exact⟨l2,b,z,D,Q,by rw[gT,if_neg c];exact A,e6,by omega⟩
 ·rw[gT]at e;by_cases c:bey l m=r
  ·rw[← c];exact⟨_,ut⟩
  ·rw[if_neg c]at e;obtain⟨j,u⟩:=I.up r y e;exact all u
 ·have nr:r∉W/\r≠bey l m:=⟨λz=>L ((hW r).mpr (.inl z)),λz=>L ((hW r).mpr (.inr z))⟩
  rw[gT,if_neg (Ne.symm nr.2)]at e;rcases I.rl r y i l' e nr.1 g aa with h | ⟨z,J,C⟩
  ·rcases ab r i h with h | ⟨J,C⟩
   ·exact .inl h
   ·subst J;subst C;rw[hl]at g;cases g;rw[O]at e;cases e;exact .inr ⟨x+l.2.2,by rw[gT,if_pos rfl],F6 _⟩
  ·obtain⟨z',G,q⟩:=ac _ _ J;exact .inr ⟨z',G,by omega⟩
 ·rcases(hW r).mp L with h | h
  ·obtain⟨y,e⟩:=I.wk r h;obtain⟨z,G,_⟩:=ac _ _ e;exact⟨z,G⟩
  ·rw[h];exact⟨_,by rw[gT,if_pos rfl]⟩
theorem FI.leave{n:Nat}{ls:List Lk}{s M:Nat}{T:List (Option Int)}{v:List (Option Nat)}{W:List Nat}{ex ex':Nat->Nat->Prop}(I:FI n ls s M T v W ex){m k:Nat}{l:Lk}{x y:Int}
  (hl:ls[k]?=some l) (O:T[m]?=some (some x)) (B:T[bey l m]?=some (some y)) (b:y<=x+l.2.2) (c:∀ r i,ex r i->ex' r i∨(r=m/\i=k)):FI n ls s M T v W ex' :=
 ⟨I.w0,I.tl,I.vl,I.st,I.vs,I.nn,I.bd,I.pr,I.up,λr z i d e L g a=>by
  rcases I.rl r z i d e L g a with h | h
  ·rcases c r i h with h | ⟨J,C⟩
   ·exact .inl h
   ·subst J;subst C;rw[hl]at g;cases g;rw[O]at e;cases e;exact .inr ⟨y,B,b⟩
  ·exact .inr h,I.wk⟩
theorem Ar{n M:Nat}{ls:List Lk}{s:Nat}{T:List (Option Int)}{v:List (Option Nat)}{W:List Nat}{ex:Nat->Nat->Prop}(I:FI n ls s M T v W ex){m t:Nat}{x w:Int}{o:Option Int}(p:0<=w)(c:w<=(M:Int))(O:T[m]?=some (some x))(N:T[t]?=some o)(E:∀ y,o=some y->x+w<y) :
  wgt (n*M+1) (T.set t (some (x+w)))+1<=wgt (n*M+1) T:=by
 have e:=nC (vOf (n*M+1)) T t o (some (x+w)) N;have a:=I.nn m x O;have b:=I.bd m x O;have D:vOf (n*M+1) (some (x+w))=(x+w).toNat:=rfl;unfold wgt;rw[D]at e
 cases o with
 |none =>
  have k:=Cv T N;have Q:vOf (n*M+1) none=n*M+1:=rfl;rw[Q]at e;have J:cnt T*M<=n*M:=Ie M (by rw[I.tl]at k;omega)
  have C:x+(M:Int)<=((n*M:Nat):Int):=by
   have:((cnt T*M:Nat):Int)<=((n*M:Nat):Int):=by exact_mod_cast J
   have G:((cnt T*M:Nat):Int)=(cnt T:Int)*(M:Int):=by push_cast;rfl
   omega
  omega
 |some z =>
  have:=E z rfl;have Q:vOf (n*M+1) (some z)=z.toNat:=rfl;rw[Q]at e;omega
theorem FI.first{n:Nat}{ls:List Lk}{s M:Nat}(p:∀ l∈ls,0<=l.2.2/\l.2.2<=(M:Int))(J:s<n):FI n ls s M ((ET n none).set s (some 0)) (ET n none) [s] (λ_ _=>False):=by
 have b:∀ r:Nat,((ET n (none:Option Int)).set s (some 0))[r]?=if s=r then some (some 0) else(ET n none)[r]?:=λr=>pO (by rw[Gw];exact J)
 have f:∀{a:Type}(r:Nat)(x:a),(ET n (none:Option a))[r]?≠some (some x):=λr x e=>by
  have:=EC e;have:=(HG.mp this).2
  cases this
 have one:∀(r:Nat)(x:Int),((ET n (none:Option Int)).set s (some 0))[r]?=some (some x)->r=s/\x=0:=λr x e=>by
  rw[b]at e;by_cases c:s=r
  ·rw[if_pos c]at e;cases e;exact⟨c.symm,rfl⟩
  ·rw[if_neg c]at e;exact absurd e (f r x)
 refine⟨p,by rw[Fc,Gw],Gw,by rw[b,if_pos rfl],by rw[Gb,if_pos J],λr x e=>?_,λr x e=>?_,λr k e=>absurd e (f r k),λr x e=>?_,λr x i l e L=>?_,λr L=>?_⟩
 ·rw[(one r x e).2];exact F6 _
 ·rw[(one r x e).2];have d:=nC cOf (ET n (none:Option Int)) s none (some 0) (by rw[Gb,if_pos J])
  have c1:cOf (some 0)=1:=rfl;have c0:cOf none=0:=rfl;have:1<=cnt ((ET n (none:Option Int)).set s (some 0)):=by unfold cnt;omega
  have C:1*M<=cnt ((ET n (none:Option Int)).set s (some 0))*M:=Ie M this;have G:((1*M:Nat):Int)<=((cnt ((ET n (none:Option Int)).set s (some 0))*M:Nat):Int):=by exact_mod_cast C
  push_cast at G;omega
 ·rw[(one r x e).1];exact⟨0,.root⟩
 ·rw[(one r x e).1]at L;exact absurd (Fi.mpr rfl) L
 ·rw[Fi.mp L];exact⟨0,by rw[b,if_pos rfl]⟩
theorem FI.take{n:Nat}{ls:List Lk}{s M:Nat}{T:List (Option Int)}{v:List (Option Nat)}{W W':List Nat}(I:FI n ls s M T v W (λ_ _=>False)){m:Nat}(b:∀ r,r∈W'↔r∈W/\r≠m):FI n ls s M T v W' (λr _=>r=m) :=
 ⟨I.w0,I.tl,I.vl,I.st,I.vs,I.nn,I.bd,I.pr,I.up,λr x i l e L D a=>by
  by_cases c:r=m
  ·exact .inl c
  ·rcases I.rl r x i l e (λz=>L ((b r).mpr ⟨z,c⟩)) D a with h | h
   ·exact h.elim
   ·exact .inr h,λr L=>I.wk r ((b r).mp L).1⟩
theorem FI.exw{n:Nat}{ls:List Lk}{s M:Nat}{T:List (Option Int)}{v:List (Option Nat)}{W:List Nat}{ex ex':Nat->Nat->Prop}(I:FI n ls s M T v W ex)(h:∀ r i l,ls[i]?=some l->kc l r->ex r i->ex' r i):FI n ls s M T v W ex' :=
 ⟨I.w0,I.tl,I.vl,I.st,I.vs,I.nn,I.bd,I.pr,I.up,λr x i l e L D a=>by
  rcases I.rl r x i l e L D a with z | z
  ·exact .inl (h r i l D a z)
  ·exact .inr z,I.wk⟩
theorem aj{H:Hp}{p:Addr}(h:H p=none)(o:HO):Same H (upd H p o):=λb u q=>by rw[ao (aE q h)];exact q
theorem aV{H H2:Hp}{l:Addr}(h:Same H H2)(hl:H l=none)(o:HO):Same H (upd H2 l o):=λb u q=>by rw[ao (aE q hl)];exact h b u q
theorem gm{H H':Hp}(s:Same H H'){p:Addr}(h:H' p=none):H p=none:=by
 cases y:H p with
 |none=>rfl
 |some o=>rw[s _ _ y]at h;cases h
noncomputable def iV(p:Nat):V:=.int (p:Int)
theorem at1{x y:V}:atI [x,y] 1=some y:=rfl
theorem a30{x y z:V}:atI [x,y,z] 0=some x:=rfl
theorem a31{x y z:V}:atI [x,y,z] 1=some y:=rfl
theorem a32{x y z:V}:atI [x,y,z] 2=some z:=rfl
noncomputable def LkAt(H:Hp)(v:V)(l:Lk):Prop:=∃ t,v=.ref t/\H t=some (.tup [.int (l.1:Int),.int (l.2.1:Int),.int l.2.2])
noncomputable def LnAt(H:Hp)(v:V)(ls:List Lk):Prop:=∃ a I,v=.ref a/\H a=some (.lst I)/\LsAt LkAt H I ls
theorem LkAt.mono{H H':Hp}{v:V}{p:Lk}(h:LkAt H v p)(s:Same H H'):LkAt H' v p:=by
 obtain⟨t,e,z⟩:=h;exact⟨t,e,s _ _ z⟩
theorem LnAt.mono{H H':Hp}{v:V}{r:List Lk}(h:LnAt H v r)(s:Same H H'):LnAt H' v r:=by
 obtain⟨a,I,e,z,l⟩:=h;exact⟨a,I,e,s _ _ z,l.imp λ_ _ q=>q.mono s⟩
noncomputable def MM:Nat:=10^31
structure Lok(n:Nat)(ls:List Lk):Prop where
 n1:n<=40
 l9:ls.length<=60
 sm:∀ l∈ls,l.1<n/\l.2.1<n
 w0:∀ l∈ls,0<=l.2.2/\l.2.2<=(MM:Int)
noncomputable def bb(S:Addr->Prop)(H:Hp)(xs:List V)(ts:List (List Nat)):Prop:=xs.length=ts.length/\∀(i:Nat)(l:List Nat),ts[i]?=some l->∃ p,xs[i]?=some (.ref p)/\¬ S p/\H p=some (.lst (l.map iV))
theorem bb.mono{S:Addr->Prop}{H H':Hp}{xs:List V}{ts:List (List Nat)}(h:bb S H xs ts)(s:∀ b u,¬ S b->H b=some u->H' b=some u):bb S H' xs ts:=⟨h.1,λi e q=>by
 obtain⟨p,a,n,b⟩:=h.2 i e q
 exact⟨p,a,n,s _ _ n b⟩⟩
theorem bb.snoc{S:Addr->Prop}{H:Hp}{xs:List V}{ts:List (List Nat)}{q:Addr}{l:List Nat}(h:bb S H xs ts)(n:¬ S q)(e:H q=some (.lst (l.map iV))):bb S H (xs++[.ref q]) (ts++[l]):=by
 refine⟨by rw[EG,EG,h.1];rfl,λj k y=>?_⟩
 by_cases E:j<ts.length
 ·rw[EH E]at y;obtain⟨p,B,s⟩:=h.2 j k y;exact⟨p,by rw[EH (by rw[h.1];exact E)];exact B,s⟩
 ·rw[EF (HQ E)]at y;have b:j=ts.length:=by
   have:=(EB.mp y).1;rw[ES]at this;omega
  subst b;rw[EW]at y
  cases y
  exact⟨q,by rw[← h.1,EF (EI _),EW];rfl,n,e⟩
noncomputable def Dist(xs:List V):Prop:=∀(i j:Nat)(p:Addr),xs[i]?=some (.ref p)->xs[j]?=some (.ref p)->i=j
theorem bb.set{S:Addr->Prop}{H:Hp}{xs:List V}{ts:List (List Nat)}{i:Nat}{p:Addr}{l':List Nat}(h:bb S H xs ts)(D:Dist xs)(e:xs[i]?=some (.ref p)):bb S (upd H p (.lst (l'.map iV))) xs (ts.set i l'):=by
 refine⟨by rw[Fc];exact h.1,λj l z=>?_⟩
 have I:i<ts.length:=by rw[← h.1];exact(EB.mp e).1
 rw[Fl]at z;by_cases E:i=j
 ·subst E;rw[if_pos rfl,if_pos I]at z
  cases z
  obtain⟨A,B,s,f⟩:=h.2 i _ (EA I);rw[e]at B
  cases B
  exact⟨p,e,s,af⟩
 ·rw[if_neg E]at z;obtain⟨A,B,s,f⟩:=h.2 j l z;exact⟨A,B,s,by rw[ao (λy=>by rw[y]at B;exact E (D i j p e B))];exact f⟩
theorem lV{S:Addr->Prop}{H:Hp}{xs:List V}{ts:List (List Nat)}{q:Addr}(h:bb S H xs ts)(D:Dist xs)(v:H q=none):Dist (xs++[.ref q]):=by
 have d:∀ i p,xs[i]?=some (V.ref p)->p≠q:=λi p e z=>by
  have I:i<ts.length:=by rw[← h.1];exact(EB.mp e).1
  obtain⟨A,B,_,f⟩:=h.2 i _ (EA I);rw[e]at B;cases B;rw[z,v]at f;cases f
 have g:∀ i p,(xs++[V.ref q])[i]?=some (V.ref p)->(xs[i]?=some (V.ref p))∨(i=xs.length/\p=q):=λi p e=>by
  by_cases c:i<xs.length
  ·rw[EH c]at e;exact .inl e
  ·rw[EF (HQ c)]at e;have C:=(EB.mp e).1;rw[ES]at C;have G:i-xs.length=0:=by omega
   rw[G]at e
   cases e
   exact .inr ⟨by omega,rfl⟩
 intro i j p T Q;rcases g i p T with J | ⟨J,b⟩
 ·rcases g j p Q with C | ⟨C,a⟩
  ·exact D i j p J C
  ·exact absurd a (d i p J)
 ·rcases g j p Q with C | ⟨C,a⟩
  ·exact absurd b (d j p C)
  ·omega
structure AtM(n c:Nat)(rows:List (List Nat))(mem:Nat->Nat->Prop):Prop where
 len:rows.length=n
 mm:∀(r:Nat)(row:List Nat),rows[r]?=some row->∀ j,j∈row↔mem r j
 few:∀ row∈rows,row.length<=c
theorem AtM.put{n c:Nat}{rows:List (List Nat)}{mem:Nat->Nat->Prop}(h:AtM n c rows mem){a i:Nat}{l:List Nat}(hl:rows[a]?=some l):AtM n (c+1) (rows.set a (l++[i])) (λr j=>mem r j∨(r=a/\j=i)):=by
 have E:=(EB.mp hl).1;refine⟨by rw[Fc];exact h.len,λr b e j=>?_,λb L=>?_⟩
 ·rw[pO E]at e;by_cases z:a=r
  ·rw[if_pos z]at e
   cases e
   subst z;rw[ER,Fi,h.mm a l hl j];exact⟨λy=>y.imp id λy=>⟨rfl,y⟩,λy=>y.imp id λy=>y.2⟩
  ·rw[if_neg z]at e;rw[h.mm r b e j];exact⟨.inl,λy=>y.elim id λy=>absurd y.1.symm z⟩
 ·rcases He L with y | y
  ·have:=h.few b y;omega
  ·have:=h.few l (EC hl)
   rw[y,EG,ES];omega
noncomputable def memL(ls:List Lk)(r j:Nat):Prop:=∃ l,ls[j]?=some l/\kc l r
structure Txt(mg:Str->Option Value):Prop where
 n_len:mg "len" = none
 n_int:mg "int" = none
 n_bool:mg "bool" = none
 n_list:mg "list" = none
 n_tuple:mg "tuple" = none
 n_range:mg "range" = none
 n_min:mg "min" = none
 n_abs:mg "abs" = none
 n_enumerate:mg "enumerate" = none
 n_isinstance:mg "isinstance" = none
noncomputable def CZ:Sp:=λN H Q _=>∃(v:V)(l:Lk)(r:Nat),N = [v,.int (r:Int)]/\LkAt H v l/\Q (.int ((bey l r:Nat):Int)) H
noncomputable def spAt:Sp:=λN H Q _=>∃(v:V)(n:Nat)(B:List Lk),N = [.int (n:Int),v]/\LnAt H v B/\Lok n B/\∀(p:Addr)(I:List V)(rows:List (List Nat)) j,Same H j->H p=none->j p=some (.lst I)->bb (λq=>q=p∨H q≠none) j I rows->AtM n 120 rows (memL B)->Q (.ref p) j
section
variable{P:Program}{w:World}{K:ED}{mg:Str->Option Value}{base:Heap}
theorem xS:ax ["link","room"] ["link","room"] (aq ko):=by ac_nf
theorem ok_bey{f:Addr}{fd:FuncData} (F:Fun K "beyond" "beyond" ko f fd):FnOk P w K mg base CX0 1 f fd ["link","room"] CZ:=by
 refine F.ok xS (λN H Q E h=>?_) (λy A G s H N Q E L h=>?_)
 ·obtain⟨v,l,r,rfl,_⟩:=h;rfl
 obtain⟨v,l,r,rfl,⟨t,rfl,Y⟩,q⟩:=h;refine⟨_,(ak (aH (i8 (aG dD (pv 1) (aB aK (pv 0) ai (λ_ _=>rfl)) (aM _)) (aB aK (pv 0) ai (λ_ _=>rfl)) (aB aK (pv 0) ai (λ_ _=>rfl))))),?_⟩;refine⟨_,rfl,_,rfl,t,_,0,_,rfl,rfl,SqT.of Y,a30,rfl,_,rfl,?_⟩;refine ite2 (λc=>?_) (λc=>?_)
 ·have C:r=l.1:=by have:=V.int.inj (of_decide_eq_true c);omega
  have e:bey l r=l.2.1:=by unfold bey;rw[if_pos C]
  rw[e]at q;exact⟨_,rfl,t,_,1,_,rfl,rfl,SqT.of Y,a31,q⟩
 ·have C:¬ r=l.1:=λz=>c (decide_eq_true (congrArg V.int (by omega)))
  have e:bey l r=l.1:=by unfold bey;rw[if_neg C]
  rw[e]at q;exact⟨_,rfl,t,_,0,_,rfl,rfl,SqT.of Y,a30,q⟩
theorem fA:ax ["many","links","at","number","link"] ["many","links"] (aq hO):=by ac_nf
theorem ok_at{f:Addr}{fd:FuncData} (F:Fun K "links_at" "links_at" hO f fd) (T:Txt mg):FnOk P w K mg base CX0 1 f fd ["many","links"] spAt:=by
 refine F.ok fA (λN H Q E h=>?_) (λg A k s H N Q E L h=>?_)
 ·obtain⟨v,n,ls,rfl,_⟩:=h;rfl
 obtain⟨v,n,ls,rfl,⟨a,xs,rfl,hA,hL⟩,ok,m⟩:=h;have n1:=ok.n1;have l9:=ok.l9;have xl:=hL.1
 refine⟨_,(ag (cg (i:=2) rfl rfl rfl rfl fA.nd rfl rfl (fr:=[]) (xs:=["room"]) (bH.of (by rfl) (by decide) (by rfl) (by decide) (λp M=>nomatch M) (by decide) (λp M=>nomatch M)) (aN rfl T.n_range (ae (pv 0) ah)) (λC ex s H=>(aC (i:=0) (show(["room"]:List Str).Nodup from by decide) rfl (Or.inl rfl))) (λC ex s H=>bg) (λC ex s H ps XE=>(bO ah)))
   (ag (bK PassesOwn.never rfl (n9 rfl T.n_enumerate (ae (pv 1) ah)) (mX rfl (bx (aC (i:=3) fA.nd rfl (Or.inl rfl)) (bx (aC (i:=4) fA.nd rfl (Or.inl rfl)) gv))) (ag (aW (dQ EX Ff Fe aZ (aB aD (pv 2) (aB aK (pv 4) ai (λ_ _=>rfl)) (λ_ _=>rfl)) (ae (pv 3) ah)))
   (ak (aW (dQ EX Ff Fe aZ (aB aD (pv 2) (aB aK (pv 4) ai (λ_ _=>rfl)) (λ_ _=>rfl)) (ae (pv 3) ah))))))
   (ak (aH (pv 2))))),?_⟩
 refine⟨_,rfl,_,rfl,by omega,by omega,cn (n:=(n:Int).toNat) (λi t d=>Same H d/\bb (λp=>H p≠none) d t (ET i [])/\Dist t) (by rw[EN];exact Fq (av (by omega))) ⟨λ_ _ e=>e,⟨rfl,λi l e=>by simp at e⟩,λi j p e=>by simp at e⟩ ?_ ?_⟩
 ·rintro i t d I ⟨q,rx,D⟩;refine⟨(by show 0<=sizeLine;decide),λl B=>?_⟩
  have s3:=aj B (.lst []);refine⟨q.trans s3,?_,lV rx D B⟩;rw[Hd];exact(rx.mono λb u _ z=>s3 _ _ z).snoc (λz=>z (gm q B)) af
 rintro t d an ⟨q,rx,D⟩ pn ap;rw[EN]at rx;have s3:=aj ap (.lst t);have bv:H pn=none:=gm q ap
 have bA:bb (λp=>p=pn∨H p≠none) (upd d pn (.lst t)) t (ET n []):=⟨rx.1,λi l z=>by
  obtain⟨p,a1,a2,a3⟩:=rx.2 i l z;have n2:p≠pn:=aE a3 ap
  exact⟨p,a1,by rintro(y | y);exact n2 y;exact a2 y,s3 _ _ a3⟩⟩
 have m0:AtM n 0 (ET n []) (memL (ls.take 0)):=⟨Gw,λr ac e j=>by
  have:=(HG.mp (EC e)).2;subst this
  exact⟨(λz=>nomatch z),λ⟨l,z,_⟩=>by rw[Jb]at z;cases z⟩,λac L=>by rw[(HG.mp L).2];exact EI _⟩
 refine⟨_,rfl,a,rfl,⟨_,SqL.of ((q.trans s3) _ _ hA)⟩,oO (K:=K) (xs:=xs) (λi Y H5=>∃ v4 v5 rows,Y = [some (.int (n:Int)),some (.ref a),some (.ref pn),v4,v5]/\Same H H5/\H5 pn=some (.lst t)/\bb (λp=>p=pn∨H p≠none) H5 t rows/\AtM n (2*i) rows (memL (ls.take i)))
  ⟨_,_,_,rfl,q.trans s3,af,bA,m0⟩ (λi Y H5 _ ⟨_,_,_,_,z,_⟩=>SqL.of (z _ _ hA)) ?_ ?_⟩
 ·rintro i x Y H5 T2 O ⟨v4,v5,rows,rfl,s5,aP,aT,am⟩ ab;obtain⟨l,B,p,rfl,M⟩:=hL.get O;obtain⟨b1,b2⟩:=ok.sm l (EC B);have sT:=aj ab (.tup [.int (i:Int),.ref p]);have s6:=s5.trans sT;have bU:=s6 _ _ M;have al:=am.len;have b0:i<ls.length:=(EB.mp B).1;obtain⟨r1,aa⟩:∃ r,rows[l.1]?=some r:=⟨_,EA (by omega)⟩
  have bi:bb (λp=>p=pn∨H p≠none) (upd H5 T2 (.tup [.int (i:Int),.ref p])) t rows:=aT.mono λb u _ z=>sT _ _ z;obtain⟨p1,y1,y2,y3⟩:=bi.2 _ _ aa;have ba:∀{p:Addr},¬ (p=pn∨H p≠none)->H p=none/\p≠pn:=λ{p} n=>by
   refine⟨?_,λz=>n (.inl z)⟩
   cases y:H p with
   |none=>rfl
   |some o=>exact absurd (.inr (by rw[y];exact λz=>nomatch z)) n
  obtain⟨a4,bB⟩:=ba y2;have f1:=am.few r1 (EC aa);have bd:=sT _ _ aP;refine⟨T2,_,rfl,SqT.of af,rfl,_,_,rfl,_,_,rfl,rfl,?_⟩;refine⟨_,rfl,_,rfl,p,_,0,_,rfl,rfl,SqT.of bU,a30,pn,t,_,_,rfl,rfl,SqL.of bd,aA y1,.inl ⟨rfl,_,SqL.of y3⟩,_,rfl,p1,_,_,rfl,rfl,y3,av (by rw[EJ];omega),?_⟩
  have a0:(r1.map iV)++[V.int (i:Int)]=(r1++[i]).map iV:=by rw[Fv];rfl
  rw[a0];have bQ:=bi.set D y1 (l':=r1++[i]);have bR:=am.put (i:=i) aa;have s7:Same H (upd (upd H5 T2 (.tup [.int (i:Int),.ref p])) p1 (.lst ((r1++[i]).map iV))):=aV s6 a4 _;have bY:=s7 _ _ M;have be:(upd (upd H5 T2 (.tup [.int (i:Int),.ref p])) p1 (.lst ((r1++[i]).map iV))) pn=some (.lst t):=by rw[ao bB.symm];exact bd
  obtain⟨r2,bm⟩:∃ r,(rows.set l.1 (r1++[i]))[l.2.1]?=some r:=⟨_,EA (by rw[Fc];omega)⟩
  obtain⟨p2,z1,z2,z3⟩:=bQ.2 _ _ bm;obtain⟨a6,bn⟩:=ba z2;have f2:=bR.few r2 (EC bm);refine⟨_,rfl,_,rfl,p,_,1,_,rfl,rfl,SqT.of bY,a31,pn,t,_,_,rfl,rfl,SqL.of be,aA z1,.inl ⟨rfl,_,SqL.of z3⟩,_,rfl,p2,_,_,rfl,rfl,z3,av (by rw[EJ];omega),?_⟩
  have a5:(r2.map iV)++[V.int (i:Int)]=(r2++[i]).map iV:=by rw[Fv];rfl
  rw[a5];have bF:=bR.put (i:=i) bm;refine⟨_,_,(rows.set l.1 (r1++[i])).set l.2.1 (r2++[i]),rfl,aV s7 a6 _,by rw[ao bn.symm];exact be,bQ.set D z1,bF.len,λr ac e j=>?_,λac L=>?_⟩
  ·rw[bF.mm r ac e j];unfold memL;rw[Fj,B];have bf:(ls.take i).length=i:=by rw[Fy];omega
   constructor
   ·rintro((⟨l',J,G⟩ | ⟨J,G⟩) | ⟨J,G⟩)
    ·exact⟨l',by rw[EH (EB.mp J).1];exact J,G⟩
    ·subst G;exact⟨l,by rw[EF (by omega),bf,EW];rfl,.inl J⟩
    ·subst G;exact⟨l,by rw[EF (by omega),bf,EW];rfl,.inr J⟩
   ·rintro⟨l',J,G⟩;by_cases c:j<i
    ·rw[EH (by omega)]at J
     exact .inl (.inl ⟨l',J,G⟩)
    ·rw[EF (by omega)]at J
     have h3:=(EB.mp J).1;have h4:j=i:=by
      have:(Option.toList (some l)).length=1:=rfl;omega
     subst h4;rw[bf,EW]at J
     cases J
     rcases G with G | G
     ·exact .inl (.inr ⟨G,rfl⟩)
     ·exact .inr ⟨G,rfl⟩
  ·have:=bF.few ac L;omega
 ·rintro Y H5 ⟨v4,v5,rows,rfl,s5,aP,aT,am⟩;rw[xl,Fu]at am;exact⟨_,rfl,m pn t rows H5 s5 bv aP aT ⟨am.len,am.mm,λac L=>by have:=am.few ac L;omega⟩⟩
end
noncomputable def pJ:Sp:=λN H Q _=>∃ n:Int,N = [.int n]/\0<=n/\n<1208925819614629174706176/\∀ r j,Same H j->H r=none->j r=some (.lst ((K2.bitsF 0 n.toNat).map iV))->Q (.ref r) j
section
variable{P:Program}{w:World}{K:ED}{mg:Str->Option Value}{base:Heap}
theorem jx:ax ["mask","numbers","number","rest"] ["mask"] (aq uS):=by ac_nf
theorem ok_bits{f:Addr}{fd:FuncData} (F:Fun K "bits" "bits" uS f fd):FnOk P w K mg base CX0 1 f fd ["mask"] pJ:=by
 refine F.ok jx (λN H Q E h=>?_) (λy A d s H N Q E L h=>?_)
 ·obtain⟨n,rfl,_⟩:=h;rfl
 obtain⟨n,rfl,x,J,k⟩:=h
 refine⟨_,(ag (au (i:=1) jx.nd rfl (Or.inl rfl) (bO ah))
   (ag (au (i:=2) jx.nd rfl (Or.inl rfl) ai)
   (ag (au (i:=3) jx.nd rfl (Or.inl rfl) (pv 0))
   (ag (fN PassesOwn.never (aG AQ (pv 3) ai (aM _)) (ag (bN (aG dD (aw bh (pv 3) ai) ai (aM _)) (ak (aW (dQ EX Ff Fe aZ (pv 1) (ae (pv 2) ah)))) aR)
   (ag (au (i:=3) jx.nd rfl (Or.inl rfl) (aw bX (pv 3) ai))
   (ak (au (i:=2) jx.nd rfl (Or.inl rfl) (aw br (pv 2) ai))))))
   (ak (aH (pv 1))))))),?_⟩
 refine⟨(by show 0<=sizeLine;decide),λl D=>?_⟩
 have aa:(2:Nat)^80=1208925819614629174706176:=by decide
 have g:(K2.bitsF 0 n.toNat).length<=80:=K2.bitsF_len 80 n.toNat 0 (by omega)
 refine⟨_,rfl,fk (λY u=>∃(kn T:Nat)(O:List Nat),Y = [some (.int n),some (.ref l),some (.int (kn:Int)),some (.int (T:Int))]/\u l=some (.lst (O.map iV))/\O++K2.bitsF kn T=K2.bitsF 0 n.toNat/\Same H u)
  (λY _=>match Y with | [_,_,_,some (.int r)]=>r.toNat | _=>0) ⟨0,n.toNat,[],?_,af,rfl,aj D _⟩ ?_ ?_⟩
 ·have e:((n.toNat:Nat):Int)=n:=by omega
  rw[e];rfl
 ·rintro Y u ⟨kn,T,O,rfl,M,G,p⟩;refine⟨_,rfl,_,_,rfl,rfl,_,rfl,?_⟩;refine ite2 (λc=>?_) (λc=>?_)
  ·have C:(0:Int)<(T:Int):=of_decide_eq_true c
   have d2:((T:Int)/2)=((T/2:Nat):Int):=by omega
   have ab:O.length<=80:=by
    have:=congrArg List.length G;rw[EG]at this;omega
   walk_at "rd";refine ite2 (λo=>?_) (λo=>?_)
   ·have B:(T:Int)%2=1:=V.int.inj (of_decide_eq_true o)
    refine⟨_,rfl,.inl ⟨rfl,_,SqL.of M⟩,_,rfl,l,_,_,rfl,rfl,M,av (by rw[EJ];omega),?_⟩
    walk_at "rd";refine⟨⟨kn+1,T/2,O++[kn],?_,?_,?_,?_⟩,?_⟩
    ·show[some (V.int n),some (V.ref l),some (V.int ((kn:Int)+1)),some (V.int ((T:Int)/2))]=_;rw[d2];rfl
    ·rw[af,Fv];rfl
    ·rw[Gk,← G];have z:=K2.bitsF_odd (k:=kn) (n:=T) (by omega)
     rw[z];rfl
    ·exact aV p D _
    ·show((T:Int)/2).toNat<((T:Nat):Int).toNat;omega
   ·have B:¬ (T:Int)%2=1:=λz=>o (decide_eq_true (congrArg V.int z))
    walk_at "rd";refine⟨⟨kn+1,T/2,O,?_,M,?_,p⟩,?_⟩
    ·show[some (V.int n),some (V.ref l),some (V.int ((kn:Int)+1)),some (V.int ((T:Int)/2))]=_;rw[d2];rfl
    ·rw[← G,K2.bitsF_even (k:=kn) (n:=T) (by omega) (by omega)]
    ·show((T:Int)/2).toNat<((T:Nat):Int).toNat;omega
  ·have C:¬ (0:Int)<(T:Int):=λz=>c (decide_eq_true z)
   have z:T=0:=by omega
   subst z;rw[K2.bitsF_zero,GV]at G;refine⟨_,rfl,?_⟩;exact k l u p D (by rw[M,G])
 ·rintro Y u Q1 Q2 I ⟨v,e,i,j,a,b,m,t,q⟩;exact⟨v,e,i,j,a,b,m,t,I _ _ q⟩
end
noncomputable def flat(PL:List (Nat×Nat)):List Nat:=PL.flatMap λp=>[p.1,p.2]
noncomputable def cst(d:Nat->Nat->Int)(PL:List (Nat×Nat)):Int:=(PL.map λp=>d p.1 p.2).sum
noncomputable def Cs(d:Nat->Nat->Int)(S:List Nat)(c:Int):Prop:=∃ k,(flat k).Perm S/\cst d k=c
structure Met(n:Nat)(d:Nat->Nat->Int):Prop where
 sy:∀ a b,d a b=d b a
 nn:∀ a b,0<=d a b
 tr:∀ a b c,a<n->b<n->c<n->d a c<=d a b+d b c
theorem flat_cons(p:Nat×Nat)(PL:List (Nat×Nat)):flat (p::PL)=p.1::p.2::flat PL:=rfl
theorem jh(d:Nat->Nat->Int)(p:Nat×Nat)(PL:List (Nat×Nat)):cst d (p::PL)=d p.1 p.2+cst d PL:=by unfold cst;rw[E6,GJ]
theorem Cs.perm{d:Nat->Nat->Int}{S S':List Nat}{c:Int}(h:Cs d S c)(p:S.Perm S'):Cs d S' c:=by
 obtain⟨k,J,C⟩:=h;exact⟨k,J.trans p,C⟩
theorem part0{d:Nat->Nat->Int}(sy:∀ a b,d a b=d b a){a:Nat}:∀{PL:List (Nat×Nat)},a∈flat PL->∃ e f,(flat PL).Perm (a::e::flat f)/\cst d PL=d a e+cst d f
 |[],h=>nomatch h
 | (x,y)::PL,h=>by
  rw[flat_cons]at h;by_cases c1:a=x
  ·subst c1;exact⟨y,PL,.refl _,jh ..⟩
  by_cases c2:a=y
  ·subst c2;exact⟨x,PL,.swap _ _ _,by rw[jh];show d x a+_=_;rw[sy x a]⟩
  have G:a∈flat PL:=by
   rcases EE.mp h with h | h
   ·exact absurd h c1
   ·rcases EE.mp h with h | h
    ·exact absurd h c2
    ·exact h
  obtain⟨e,f,p,g⟩:=part0 sy G;refine⟨e,(x,y)::f,?_,by rw[jh,jh,g];omega⟩
  rw[flat_cons,flat_cons];have I:(x::y::flat PL).Perm (x::y::a::e::flat f):=(p.cons y).cons x;refine I.trans ?_;have n:([x,y]++([a,e]++flat f)).Perm ([a,e]++([x,y]++flat f)):=by
   rw[← Gk,← Gk];exact(F7).append_right _
  exact n
theorem Cs.part{d:Nat->Nat->Int}(sy:∀ a b,d a b=d b a){S:List Nat}{c:Int}{a:Nat}(h:Cs d S c)(E:a∈S):∃ e R c0,S.Perm (a::e::R)/\Cs d R c0/\c=d a e+c0:=by
 obtain⟨k,p,g⟩:=h;obtain⟨e,f,A,i⟩:=part0 sy (p.mem_iff.mpr E);exact⟨e,flat f,cst d f,p.symm.trans A,⟨f,.refl _,rfl⟩,by rw[← g,i]⟩
theorem Cs.add{d:Nat->Nat->Int}{R:List Nat}{c0:Int}(a e:Nat)(h:Cs d R c0):Cs d (a::e::R) (d a e+c0):=by
 obtain⟨k,p,g⟩:=h;exact⟨(a,e)::k,by rw[flat_cons];exact(p.cons e).cons a,by rw[jh,g]⟩
noncomputable def tog(S:List Nat)(a:Nat):List Nat:=if a∈S then S.erase a else a::S
theorem tog_nd{S:List Nat}(h:S.Nodup)(a:Nat):(tog S a).Nodup:=by
 unfold tog;split
 ·exact h.erase _
 ·exact EL.mpr ⟨by assumption,h⟩
theorem Av{S S':List Nat}(p:S.Perm S')(a:Nat):(tog S a).Perm (tog S' a):=by
 unfold tog;by_cases c:a∈S
 ·rw[if_pos c,if_pos (p.mem_iff.mp c)];exact p.erase a
 ·rw[if_neg c,if_neg (λz=>c (p.mem_iff.mpr z))];exact p.cons a
theorem CO{S:List Nat}(h:S.Nodup)(a:Nat):(tog (tog S a) a).Perm S:=by
 by_cases c:a∈S
 ·have e:tog S a=S.erase a:=by unfold tog;rw[if_pos c]
  have n:a∉S.erase a:=h.not_mem_erase;have Q:tog (S.erase a) a=a::S.erase a:=by unfold tog;rw[if_neg n]
  rw[e,Q];exact(List.perm_cons_erase c).symm
 ·have e:tog S a=a::S:=by unfold tog;rw[if_neg c]
  have Q:tog (a::S) a=S:=by unfold tog;rw[if_pos (EM ..),GP]
  rw[e,Q]
theorem DN{S:List Nat}(h:S.Nodup){a x:Nat}:x∈tog S a↔(x∈S/\x≠a)∨(x=a/\a∉S):=by
 unfold tog;by_cases c:a∈S
 ·rw[if_pos c,h.mem_erase_iff];exact⟨λz=>.inl ⟨z.2,z.1⟩,λz=>z.elim (λy=>⟨y.2,y.1⟩) λy=>absurd c y.2⟩
 ·rw[if_neg c,EE];constructor
  ·rintro(z | z)
   ·exact .inr ⟨z,c⟩
   ·exact .inl ⟨z,λy=>c (y▸z)⟩
  ·rintro(z | z)
   ·exact .inr z.1
   ·exact .inl z.1
theorem Cs.two{n:Nat}{d:Nat->Nat->Int}(M:Met n d){S:List Nat}{c:Int}(nd:S.Nodup)(lt:∀ x∈S,x<n)(h:Cs d S c){a b:Nat}(E:a<n)(G:b<n):∃ c',Cs d (tog (tog S a) b) c'/\c'<=c+d a b:=by
 have k:=M.nn a b;by_cases s:a=b
 ·subst s;exact⟨c,h.perm (CO nd a).symm,by omega⟩
 by_cases l:a∈S
 ·obtain⟨e,R,c0,p,u,g⟩:=h.part M.sy l;have D:tog S a=S.erase a:=by unfold tog;rw[if_pos l]
  have I:(S.erase a).Perm (e::R):=by
   have:=p.erase a;rw[GP]at this;exact this
  have i:e<n:=lt e (p.mem_iff.mpr (EK _ (EM ..)));rw[D];by_cases j:b∈S.erase a
  ·have Y:tog (S.erase a) b=(S.erase a).erase b:=by unfold tog;rw[if_pos j]
   rw[Y];by_cases o:e=b
   ·subst o;have r:=I.erase e;rw[GP]at r;refine⟨c0,u.perm r.symm,?_⟩;have:=M.nn a e;omega
   ·have w:b∈R:=by
     rcases EE.mp (I.mem_iff.mp j)with z | z
     ·exact absurd z.symm o
     ·exact z
    obtain⟨f,R2,c1,q,J,y⟩:=u.part M.sy w;have flt:f<n:=lt f (p.mem_iff.mpr (EK _ (EK _ (q.mem_iff.mpr (EK _ (EM ..))))));have r:((S.erase a).erase b).Perm (e::f::R2):=by
     have O:(S.erase a).Perm (b::e::f::R2):=I.trans ((q.cons e).trans (.swap _ _ _));have v:=O.erase b;rw[GP]at v;exact v
    refine⟨d e f+c1,(J.add e f).perm r.symm,?_⟩;have t:=M.tr e a f i E flt;have A:=M.tr a b f E G flt;have m:=M.sy e a;omega
  ·have Y:tog (S.erase a) b=b::S.erase a:=by unfold tog;rw[if_neg j]
   rw[Y];refine⟨d b e+c0,(u.add b e).perm (I.symm.cons b),?_⟩;have t:=M.tr b a e G E i;have m:=M.sy b a;omega
 ·have D:tog S a=a::S:=by unfold tog;rw[if_neg l]
  rw[D];by_cases j:b∈S
  ·have Y:tog (a::S) b=a::S.erase b:=by
    unfold tog;rw[if_pos (EK _ j),List.erase_cons_tail (by simpa using s)]
   rw[Y];obtain⟨e,R,c0,p,u,g⟩:=h.part M.sy j;have I:(S.erase b).Perm (e::R):=by
    have:=p.erase b;rw[GP]at this;exact this
   have i:e<n:=lt e (p.mem_iff.mpr (EK _ (EM ..)));refine⟨d a e+c0,(u.add a e).perm (I.symm.cons a),?_⟩;have t:=M.tr a b e E G i;omega
  ·have Y:tog (a::S) b=b::a::S:=by
    unfold tog;rw[if_neg (λz=>by rcases EE.mp z with z | z;exact s z.symm;exact j z)]
   rw[Y];refine⟨d b a+c,h.add b a,?_⟩;have:=M.sy b a;omega
end KF
namespace KF
open PySem L2
noncomputable def lpF:Pos:=⟨73,32,73,55⟩
theorem Fun.okT{P:Program}{w:World}{K:ED}{mg:Str->Option Value}{base:Heap}{x m:Str}{st:Stmt}{f c TT:Addr}{fd:FuncData}{N ps:List Str}{k:Nat}{sp:Sp}(F:Fun K x m st f fd)(S:ax N ps (aq st))(Y:G9 K x=some (c,TT))(r:Fn K mainGlobals x=some (some (.ref f)))
  (len:∀ vs H Q E,sp vs H Q E->vs.length=ps.length)
  (a:∀(A:Around)(outer:List Env)(s:Shared)(H:Hp)(vs:List V)(Q:VK)(E:XK),Room k (A.deeper (PyProof.Rows.envOfC m (aq st) s.heap.objs.size f (.ref c)))->sp vs H Q E ->
   ∃ t,PSs (cxOf CX0 P w K mg base N m (aq st) f (.ref c) A outer s H E).nox (bp st) t/\t { nx:=λ_ H'=>Q .non H',rt:=Q } (start N vs) H):FnOk P w K mg base CX0 (k+1) f fd ps sp:=by
 obtain⟨oc,G,kV,M,u,i,y,j,b,rfl,v,O⟩:=F.ex;have e:y=.ref c:=by
  unfold G9 at Y;rw[r]at Y;simp only[v]at Y
  cases y<;>first | (cases Y;done) | skip
  simp only at Y;split at Y
  ·split at Y
   ·cases Y;rfl
   ·cases Y
  ·cases Y
 subst e;refine BC v O S len λA outer s H vs Q E L B=>?_;obtain⟨t,h,q⟩:=a A outer s H vs Q E L B;exact⟨t,h.nox,q⟩
noncomputable def oV:Option Int->V | none=>.non | some x=>.int x
noncomputable def oN:Option Nat->V | none=>.non | some k=>.int (k:Int)
noncomputable def kw(r:Nat):Key×V:=(Sum.inl (r:Int),.bl true)
noncomputable def lqF:Str:=("fares" : Str)++".<locals>."++"<lambda>"
noncomputable def sF(w va wd TT p:Addr):Prop:=p=TT∨p=w∨p=va∨p=wd
noncomputable def KpS(S:Addr->Prop)(H H':Hp):Prop:=∀ b o,¬ S b->H b=some o->H' b=some o
theorem KpS.upd{S:Addr->Prop}{H H1:Hp}(a:KpS S H H1){p:Addr}(M:S p)(o:HO):KpS S H (L2.upd H1 p o):=λc u n h=>by
 rw[ao (λz=>n (by rw[z];exact M))]
 exact a c u n h
noncomputable def spFares(TT:Addr):Sp:=λN H Q _=>∃(v:V)(n s:Nat)(B:List Lk),N = [.int (n:Int),v,.int (s:Int)]/\LnAt H v B/\Lok n B/\s<n/\Tb lqF lpF TT H /\
 ∀(t w c:Addr)(f:List (Option Int))(d:List (Option Nat)) j,TbS TT H j->Tb lqF lpF TT j->H w=none->H c=none->j t=some (.tup [.ref w,.ref c])->j w=some (.lst (f.map oV))->j c=some (.lst (d.map oN))->FI n B s MM f d [] (λ_ _=>False)->Q (.ref t) j
structure FH(ta va wd TT:Addr)(n s:Nat)(ls:List Lk)(H1:Hp)(TL:List (Option Int))(VL:List (Option Nat))(W:List Nat)(ex:Nat->Nat->Prop)(H:Hp):Prop where
 kp:KpS (sF ta va wd TT) H1 H
 ht:H ta=some (.lst (TL.map oV))
 hv:H va=some (.lst (VL.map oN))
 hw:H wd=some (.dK (W.map kw))
 tb:Tb lqF lpF TT H
 fi:FI n ls s MM TL VL W ex
 nd:W.Nodup
noncomputable def vW(n:Nat)(v:V):Nat:=match v with | .int x=>x.toNat | _=>n*MM+1
noncomputable def mesH(n:Nat)(w wd:Addr)(H:Hp):Nat:=match H w,H wd with
 |some (.lst M),some (.dK L)=>(M.map (vW n)).sum*(n+1)+L.length
 |_,_=>0
theorem FH.mes{w va wd TT:Addr}{n s:Nat}{ls:List Lk}{H1 H:Hp}{f:List (Option Int)}{d:List (Option Nat)}{W:List Nat}{ex:Nat->Nat->Prop}(h:FH w va wd TT n s ls H1 f d W ex H):mesH n w wd H=wgt (n*MM+1) f*(n+1)+W.length:=by
 unfold mesH wgt;rw[h.ht,h.hw];have e:(f.map oV).map (vW n)=f.map (vOf (n*MM+1)):=by
  rw[Hs];refine HD λo _=>?_
  cases o<;>rfl
 show((f.map oV).map (vW n)).sum*(n+1)+(W.map kw).length=_;rw[e,EJ]
theorem FH.wlen{w va wd TT:Addr}{n s:Nat}{ls:List Lk}{H1 H:Hp}{f:List (Option Int)}{d:List (Option Nat)}{W:List Nat}{ex:Nat->Nat->Prop}(h:FH w va wd TT n s ls H1 f d W ex H):W.length<=n :=
 i9 n W h.nd λx O=>by
  obtain⟨y,B⟩:=h.fi.wk x O;have:=(EB.mp B).1;rw[h.fi.tl]at this;exact this
theorem Cn{r s:Nat}(h:(kw r).1=(kw s).1):r=s:=by
 have:(r:Int)=(s:Int):=by injection h
 omega
theorem wZ{r:Nat}:∀{W:List Nat},r∈W->valV (W.map kw) (.inl (r:Int))=some (.bl true)
 |w::W,h=>by
  rw[E6];by_cases c:(kw w).1=Sum.inl (r:Int)
  ·rw[bI c];rfl
  ·rw[bJ c];refine wZ ?_;rcases EE.mp h with h | h
   ·exact absurd (by rw[h];rfl) c
   ·exact h
theorem no_kw{r:Nat}:∀{W:List Nat},r∉W->valV (W.map kw) (.inl (r:Int))=none
 |[],_=>rfl
 |w::W,h=>by
  rw[E6,bJ (λc=>h (by rw[Cn (r:=w) (s:=r) c];exact EM ..))]
  exact no_kw λz=>h (EK _ z)
theorem tV(r:Nat):∀ W:List Nat,ke (W.map kw) (.inl (r:Int))=(W.filter (λx=>decide (x≠r))).map kw
 |[]=>rfl
 |w::W=>by
  rw[E6];by_cases c:w=r
  ·rw[zx (by rw[c];rfl),tV r W,List.filter_cons_of_neg (by simpa using c)]
  ·rw[zy (k:=Sum.inl (r:Int)) (λz=>c (Cn (r:=w) (s:=r) z)),tV r W,List.filter_cons_of_pos (by simpa using c),E6]
theorem put_kw{t:Nat}{W:List Nat}(nd:W.Nodup):∃ W':List Nat,putK (W.map kw) (.inl (t:Int)) (.bl true)=W'.map kw/\W'.Nodup/\∀ r,r∈W'↔r∈W∨r=t:=by
 by_cases c:t∈W
 ·refine⟨W,?_,nd,λr=>⟨.inl,λz=>z.elim id λz=>z▸c⟩⟩;unfold putK;rw[ft,wZ c,Option.isSome_some,if_pos rfl];rw[Hs];refine HD λx _=>?_;show(if(kw x).1=Sum.inl (t:Int) then((kw x).1,V.bl true) else kw x)=kw x;split<;>rfl
 ·refine⟨W++[t],by rw[uT _ (no_kw c),Fv];rfl,sM nd c,λr=>by rw[ER,Fi]⟩
structure Sg(la aa ta va wd TT:Addr)(n s:Nat)(ls:List Lk)(xs ys:List V)(rows:List (List Nat))(H1:Hp):Prop where
 hA:H1 la=some (.lst xs)
 hL:LsAt LkAt H1 xs ls
 ok:Lok n ls
 hR:H1 aa=some (.lst ys)
 rx:bb (sF ta va wd TT) H1 ys rows
 am:AtM n 120 rows (memL ls)
 nla:¬ sF ta va wd TT la
 naa:¬ sF ta va wd TT aa
 tt:∀ t o,H1 t=some (.tup o)->¬ sF ta va wd TT t
 ntv:ta≠va
 ntw:ta≠wd
 nvw:va≠wd
 nTt:ta≠TT
 nTv:va≠TT
 nTw:wd≠TT
theorem nB{q:Str}{f:Pos}{TT:Addr}{H H':Hp}(h:Tb q f TT H)(k:∀ b,(b=TT∨∃ c,H b=some (codO c q))->H' b=H b):Tb q f TT H':=by
 rcases h with h | ⟨c,J,C⟩
 ·exact .inl ((k TT (.inl rfl)).trans h)
 ·exact .inr ⟨c,(k TT (.inl rfl)).trans J,(k c (.inr ⟨c,C⟩)).trans C⟩
theorem FH.new{w va wd TT:Addr}{n s:Nat}{ls:List Lk}{H1 H:Hp}{f:List (Option Int)}{d:List (Option Nat)}{W:List Nat}{ex:Nat->Nat->Prop}(h:FH w va wd TT n s ls H1 f d W ex H){p:Addr}(M:H p=none)(o:HO):FH w va wd TT n s ls H1 f d W ex (upd H p o):=by
 have sm:=aj M o;refine⟨λb u O e=>sm _ _ (h.kp b u O e),sm _ _ h.ht,sm _ _ h.hv,sm _ _ h.hw,nB h.tb λb G=>ao λz=>?_,h.fi,h.nd⟩;subst z;rcases G with G | ⟨c,G⟩
 ·subst G;rcases h.tb with y | ⟨_,y,_⟩<;>rw[M]at y<;>cases y
 ·rw[M]at G;cases G
theorem FH.tab{w va wd TT:Addr}{n s:Nat}{ls:List Lk}{H1 H H':Hp}{f:List (Option Int)}{d:List (Option Nat)}{W:List Nat}{ex:Nat->Nat->Prop}(h:FH w va wd TT n s ls H1 f d W ex H)(c:w≠TT)(g:va≠TT)(a:wd≠TT)(sm:TbS TT H H')(tb:Tb lqF lpF TT H'):FH w va wd TT n s ls H1 f d W ex H' :=
 ⟨λb u O e=>sm _ _ (λz=>O (.inl z)) (h.kp b u O e),sm _ _ c h.ht,sm _ _ g h.hv,sm _ _ a h.hw,tb,h.fi,h.nd⟩
noncomputable def FrI(a e w va wd TT:Addr)(n s:Nat)(ls:List Lk)(H1:Hp)(σ:St)(H:Hp):Prop:=∃(h g k b:Option V)(f:List (Option Int))(d:List (Option Nat))(W:List Nat),
 σ = [some (.int (n:Int)),some (.ref a),some (.int (s:Int)),some (.ref e),some (.ref w),some (.ref va),some (.ref wd),h,g,k,b]/\FH w va wd TT n s ls H1 f d W (λ_ _=>False) H
noncomputable def InI(a e w va wd TT:Addr)(n s:Nat)(ls:List Lk)(row:List Nat)(m p E:Nat)(H1:Hp)(i:Nat)(σ:St)(H:Hp):Prop:=∃(g k b:Option V)(f:List (Option Int))(d:List (Option Nat))(W:List Nat),
 σ = [some (.int (n:Int)),some (.ref a),some (.int (s:Int)),some (.ref e),some (.ref w),some (.ref va),some (.ref wd),some (.int (m:Int)),g,k,b]/\FH w va wd TT n s ls H1 f d W (λr j=>r=m/\j∉row.take i) H/\(∃ x,f[m]?=some (some x)) /\
 ((wgt (n*MM+1) f=p/\W.length<E)∨wgt (n*MM+1) f<p)
noncomputable def restF(a TT:Addr)(n s:Nat)(ls:List Lk):TS:=λD Y H=>∃(e w c h:Addr)(M v:List V)(rows:List (List Nat))(O:Hp)(g k b:Option V)(f:List (Option Int))(d:List (Option Nat))(W:List Nat)(m E:Nat),Sg a e w c h TT n s ls M v rows O /\
 Y = [some (.int (n:Int)),some (.ref a),some (.int (s:Int)),some (.ref e),some (.ref w),some (.ref c),some (.ref h),some (.int (m:Int)),g,k,b]/\FH w c h TT n s ls O f d W (λr _=>r=m) H/\(∃ x,f[m]?=some (some x))/\W.length<E /\
 ∀ z j,FrI a e w c h TT n s ls O z j->mesH n w h j<wgt (n*MM+1) f*(n+1)+E->D.nx z j
noncomputable def restM(a TT:Addr)(n s:Nat)(ls:List Lk):TS:=λD Y H=>∃(e w c h:Addr)(M v:List V)(rows:List (List Nat))(O:Hp)(f:List (Option Int))(d:List (Option Nat))(W:List Nat)(m p E i k:Nat)(b:List Nat)(l:Lk)(x:Int)(o:Option Int),Sg a e w c h TT n s ls M v rows O /\
 Y = [some (.int (n:Int)),some (.ref a),some (.int (s:Int)),some (.ref e),some (.ref w),some (.ref c),some (.ref h),some (.int (m:Int)),some (.int (k:Int)),some (.int ((bey l m:Nat):Int)),some (.int (x+l.2.2))]/\FH w c h TT n s ls O f d W (λr j=>r=m/\j∉b.take i) H /\
 ls[k]?=some l/\kc l m/\f[m]?=some (some x)/\f[bey l m]?=some o/\(∀ y,o=some y->x+l.2.2<y)/\b[i]?=some k/\((wgt (n*MM+1) f=p/\W.length<E)∨wgt (n*MM+1) f<p) /\
 ∀ z g,InI a e w c h TT n s ls b m p E O (i+1) z g->D.nx z g
theorem zv{row:List Nat}{m i k:Nat}(g:row[i]?=some k):∀ r j,(r=m/\j∉row.take i)->(r=m/\j∉row.take (i+1))∨(r=m/\j=k):=λr j ⟨J,C⟩=>by
 by_cases c:j=k
 ·exact .inr ⟨J,c⟩
 ·refine .inl ⟨J,λz=>?_⟩;rw[Fj,g]at z;rcases ER.mp z with z | z
  ·exact C z
  ·exact c (Fi.mp z)
theorem yG{f:List (Option Int)}{r:Nat}{o:Option Int}(h:f[r]?=some o):(f.map oV)[r]?=some (oV o):=by rw[EO,h];rfl
section
variable{P:Program}{w:World}{K:ED}{mg:Str->Option Value}{base:Heap}
theorem dA:ax ["many","links","start","at","told","via","waiting","room","number","there","fare"] ["many","links","start"] (aq gu):=by ac_nf
theorem ok_fares{f f1 f2 c TT:Addr}{fd a5 cd:FuncData} (F:Fun K "fares" "fares" gu f fd) (T:Txt mg) (B:G9 K "fares" = some (c,TT)) (hn:Fn K mainGlobals "fares" = some (some (.ref f))) (a1:GY base c TT) (cc:Bm mg base)
  (a2:Cal P w K mg base 1 "links_at" ["many","links"] spAt f1 a5) (aP:Cal P w K mg base 1 "beyond" ["link","room"] CZ f2 cd):FnOk P w K mg base CX0 2 f fd ["many","links","start"] (spFares TT):=by
 refine Fun.okT F dA B hn (λj H Q E h=>?_) (λA ab s H j Q E L h=>?_)
 ·obtain⟨v,n,a0,ls,rfl,_⟩:=h;rfl
 obtain⟨v,n,a0,ls,rfl,⟨la,xs,rfl,hA,hL⟩,ok,hs,b8,kk⟩:=h;have hu:=y9 L;have bi:=L.units;have n1:=ok.n1;have l9:=ok.l9;have LM:∀ N,Lam (cxOf CX0 P w K mg base N "fares" (aq gu) f (.ref c) A ab s H E).nox c TT (s.heap.objs.size+1) lqF:=λN=>⟨rfl,a1,cc,rfl,rfl,rfl,rfl⟩
 refine⟨_,(ag (au (i:=3) dA.nd rfl (Or.inl rfl) (az a2.ok (L.mono (by decide)) rfl a2.mg a2.kp a2.bn .nil aL (ae (pv 0) (ae (pv 1) ah))))
   (ag (au (i:=4) dA.nd rfl (Or.inr rfl) (a9 rfl rfl rfl rfl (fr:=[]) (xs:=["room"]) (bH.of (by rfl) (by decide) (by rfl) (by decide) (λp M=>nomatch M) (by decide) (λp M=>nomatch M)) (aN rfl T.n_range (ae (pv 0) ah)) (λC ex s H=>(aC (i:=0) (show(["room"]:List Str).Nodup from by decide) rfl (Or.inl rfl))) (λC ex s H=>bg) (λC ex s H ps XE=>lg)))
   (ag (cg (i:=5) rfl rfl rfl rfl dA.nd rfl rfl (fr:=[]) (xs:=["room"]) (bH.of (by rfl) (by decide) (by rfl) (by decide) (λp M=>nomatch M) (by decide) (λp M=>nomatch M)) (aN rfl T.n_range (ae (pv 0) ah)) (λC ex s H=>(aC (i:=0) (show(["room"]:List Str).Nodup from by decide) rfl (Or.inl rfl))) (λC ex s H=>bg) (λC ex s H ps XE=>lg))
   (ag (jU ai (jW (pv 4) (pv 2) d7))
   (ag (au (i:=6) dA.nd rfl (Or.inl rfl) (yn (uV (pv 2) mI yc) rfl rfl (λz=>by cases z) (by decide)))
   (ag (fN PassesOwn.never (aG (op_neE bi) (pv 6) oj (aM _)) (ag (au (i:=7) dA.nd rfl (Or.inl rfl) (Di (it:=4) (LM _) rfl rfl (L.mono (by decide)) rfl (Or.inr (Or.inl rfl)) rfl T.n_min (ae (pv 6) ah)))
   (ag (aW (AL (pv 6) (pv 7) ⟨rfl,rfl,rfl,rfl⟩))
   (jG (t2:=restF la TT n a0 ls) (ak (bK PassesOwn.never rfl (a8 (aB aD (pv 3) (pv 7) (λ_ _=>rfl))) (aC (i:=8) dA.nd rfl (Or.inl rfl)) (ag (au (i:=9) dA.nd rfl (Or.inl rfl) (az aP.ok (L.mono (by decide)) rfl aP.mg aP.kp aP.bn .nil aL (ae (aB aD (pv 1) (pv 8) (λ_ _=>rfl)) (ae (pv 7) ah))))
   (ag (au (i:=10) dA.nd rfl (Or.inl rfl) (aw br (aB aD (pv 4) (pv 7) (λ_ _=>rfl)) (aB aK (aB aD (pv 1) (pv 8) (λ_ _=>rfl)) ai (λ_ _=>rfl))))
   (ak (bN (PW.pt (rZ (aG op_isN (aB aD (pv 4) (pv 9) (λ_ _=>rfl)) lg (aM _)) (kZ (aG yw (pv 10) (aB aD (pv 4) (pv 9) (λ_ _=>rfl)) (aM _))))) (jG (t2:=restM la TT n a0 ls) (ag (jU (pv 10) (jW (pv 4) (pv 9) d7))
   (ag (jU (pv 8) (jW (pv 5) (pv 9) d7))
   (ak (nX hu (pv 6) (pv 9) mI rfl)))) (λD0 S0 H0 h0=>?restm)) aR)))))) (λD0 S0 H0 h0=>?restf)))))
   (ak (aH (cO (ae (pv 4) (ae (pv 5) ah))))))))))),?_⟩
 case restm =>
  obtain⟨aa,ta,va,wd,xs,ys,rows,H1,TL,VL,W,m,w0,l0,i,k,row,l,x,o,sg,rfl,fh,D,hm,O,ho,an,hk,bQ,kn⟩:=h0;have tl:=fh.fi.tl;have vl:=fh.fi.vl;have tt:bey l m<n:=by rw[← tl];exact(EB.mp ho).1
  have cj:=(fh.fi.w0 l (EC D));have ca:=sg.ntv;have bm:=sg.ntw;have bR:=sg.nvw;have b6:=sg.nTt;have b7:=sg.nTv;have bF:=sg.nTw;refine⟨_,rfl,_,rfl,_,rfl,ta,_,_,bey l m,rfl,rfl,fh.ht,fZ (by rw[EJ];omega),?_⟩
  refine⟨_,rfl,_,rfl,_,rfl,va,_,_,bey l m,rfl,rfl,by rw[ao (Ne.symm ca)];exact fh.hv,fZ (by rw[EJ];omega),?_⟩
  have cx:(upd (upd H0 ta (.lst ((TL.map oV).set (bey l m) (.int (x+l.2.2))))) va (.lst ((VL.map oN).set (bey l m) (.int (k:Int))))) wd=some (.dK (W.map kw)):=by rw[ao (Ne.symm bR),ao (Ne.symm bm)];exact fh.hw
  have wl:=fh.wlen;refine⟨_,rfl,_,rfl,wd,_,rfl,DPut.k (k:=.inl ((bey l m:Nat):Int)) (v:=.bl true) cx (by rw[EJ];exact av (by omega)),?_⟩
  obtain⟨W',eW,cB,mW⟩:=put_kw (t:=bey l m) fh.nd;rw[eW];have e1:(TL.map oV).set (bey l m) (.int (x+l.2.2))=(TL.set (bey l m) (some (x+l.2.2))).map oV:=by rw[IE];rfl
  have e2:(VL.map oN).set (bey l m) (.int (k:Int))=(VL.set (bey l m) (some k)).map oN:=by rw[IE];rfl
  rw[e1,e2];have cE:=fh.fi.mend (W':=W') D hm O ho an mW (zv hk);have cN:=Ar fh.fi cj.1 cj.2 O ho an;have nm:bey l m≠m:=λe=>by
   rw[e,O]at ho
   cases ho
   have:=an x rfl;omega
  refine kn _ _ ⟨_,_,_,_,_,W',rfl,⟨((fh.kp.upd (.inr (.inl rfl)) _).upd (.inr (.inr (.inl rfl))) _).upd (.inr (.inr (.inr rfl))) _,?_,?_,af,?_,cE,cB⟩,⟨x,by rw[pO (by omega),if_neg nm];exact O⟩,.inr (by rcases bQ with d | d<;>omega)⟩
  ·rw[ao bm,ao ca];exact af
  ·rw[ao bR];exact af
  ·refine nB fh.tb λb G=>?_;rw[ao (λz=>?_),ao (λz=>?_),ao (λz=>?_)]
   ·rcases G with G | ⟨c',G⟩
    ·exact b6 (z▸G)
    ·rw[z,fh.ht]at G;cases G
   ·rcases G with G | ⟨c',G⟩
    ·exact b7 (z▸G)
    ·rw[z,fh.hv]at G;cases G
   ·rcases G with G | ⟨c',G⟩
    ·exact bF (z▸G)
    ·rw[z,fh.hw]at G;cases G
 case restf =>
  obtain⟨aa,ta,va,wd,xs,ys,rows,H1,v8,v9,aT,TL,VL,W,m,l0,sg,rfl,fh,⟨x,O⟩,ct,kn⟩:=h0;have mn:m<n:=by rw[← fh.fi.tl];exact(EB.mp O).1
  have rl:=sg.am.len;obtain⟨row,bf⟩:∃ row,rows[m]?=some row:=⟨_,EA (by omega)⟩
  obtain⟨pr,r1,r2,r3⟩:=sg.rx.2 _ _ bf;have hR:=fh.kp _ _ sg.naa sg.hR;have cM:=fh.kp _ _ r2 r3;have ap:=sg.am.few row (EC bf);refine⟨_,rfl,_,rfl,aa,_,_,_,rfl,rfl,SqL.of hR,aA r1,pr,rfl,⟨_,SqL.of cM⟩,cJ (K:=K) (xs:=row.map iV) (InI la aa ta va wd TT n a0 ls row m (wgt (n*MM+1) TL) l0 H1) ⟨_,_,_,TL,VL,W,rfl,⟨fh.kp,fh.ht,fh.hv,fh.hw,fh.tb,fh.fi.exw λr i l _ _ z=>⟨z,by rw[Jb];exact λy=>nomatch y⟩,fh.nd⟩,⟨x,O⟩,.inl ⟨rfl,ct⟩⟩ (λi Y u _ z=>?_) ?_ ?_⟩
  ·obtain⟨_,_,_,_,_,_,_,f2,_⟩:=z;exact SqL.of (f2.kp _ _ r2 r3)
  ·rintro i y Y u hy ⟨v8,v9,aT,bv,cb,W2,rfl,f2,⟨x2,bA⟩,bQ⟩;rw[EO]at hy;obtain⟨k,hk,rfl⟩:=Fm.mp hy;obtain⟨l,D,a4⟩:=(sg.am.mm m row bf k).mp (EC hk);obtain⟨lv,ck,ce⟩:=sg.hL.2 k l D;obtain⟨lt,rfl,cm⟩:=ce;have co:=f2.kp _ _ (sg.tt _ _ cm) cm;have cu:=f2.kp _ _ sg.nla sg.hA;obtain⟨b1,b2⟩:=sg.ok.sm l (EC D);have tt:bey l m<n:=bey_lt b1 b2;have cT:=f2.fi.tl;obtain⟨o,ho⟩:∃ o,bv[bey l m]?=some o:=⟨_,EA (by omega)⟩
   refine⟨_,rfl,_,rfl,la,_,_,_,rfl,rfl,SqL.of cu,aA ck,_,rfl,.ref lt,l,m,rfl,⟨lt,rfl,co⟩,?_⟩;refine⟨_,rfl,_,rfl,ta,_,_,_,rfl,rfl,SqL.of f2.ht,aA (yG bA),_,rfl,_,rfl,la,_,_,_,rfl,rfl,SqL.of cu,aA ck,lt,_,2,_,rfl,rfl,SqT.of co,a32,_,_,rfl,rfl,?_⟩;refine⟨_,rfl,_,rfl,ta,_,_,_,rfl,rfl,SqL.of f2.ht,aA (yG ho),rfl,_,rfl,?_⟩
   cases o with
   |none =>
    refine iteT (iteT ?_);exact⟨aa,ta,va,wd,xs,ys,rows,H1,bv,cb,W2,m,wgt (n*MM+1) TL,l0,i,k,row,l,x2,none,sg,rfl,f2,D,a4,bA,ho,(λy e=>nomatch e),hk,bQ,λal g z=>z⟩
   |some y0 =>
    refine iteF ?_;refine⟨_,rfl,_,rfl,_,rfl,ta,_,_,_,rfl,rfl,SqL.of f2.ht,aA (yG ho),_,_,rfl,rfl,_,rfl,?_⟩;refine ite2 (λc=>?_) (λc=>?_)
    ·have c':x2+l.2.2<y0:=of_decide_eq_true c
     exact⟨aa,ta,va,wd,xs,ys,rows,H1,bv,cb,W2,m,wgt (n*MM+1) TL,l0,i,k,row,l,x2,some y0,sg,rfl,f2,D,a4,bA,ho,(λy e=>by cases e;exact c'),hk,bQ,λal g z=>z⟩
    ·have c':¬ x2+l.2.2<y0:=λz=>c (decide_eq_true z)
     exact⟨_,_,_,bv,cb,W2,rfl,⟨f2.kp,f2.ht,f2.hv,f2.hw,f2.tb,f2.fi.leave D bA ho (by omega) (zv hk),f2.nd⟩,⟨x2,bA⟩,bQ⟩
  ·rintro Y u ⟨v8,v9,aT,bv,cb,W2,rfl,f2,_,bQ⟩
   have fin:FH ta va wd TT n a0 ls H1 bv cb W2 (λ_ _=>False) u:=⟨f2.kp,f2.ht,f2.hv,f2.hw,f2.tb,f2.fi.exw λr i l D a4 ⟨z1,z2⟩=>by
    subst z1;rw[EJ,Fu]at z2
    exact z2 ((sg.am.mm r row bf i).mpr ⟨l,D,a4⟩),f2.nd⟩
   refine kn _ _ ⟨_,_,_,_,bv,cb,W2,rfl,fin⟩ ?_;rw[fin.mes];have wl:=fin.wlen;rcases bQ with⟨d1,d2⟩ | d
   ·rw[d1];omega
   ·have J:(wgt (n*MM+1) bv+1)*(n+1)<=wgt (n*MM+1) TL*(n+1):=Ie _ d
    rw[Nat.add_mul,Nat.one_mul]at J;omega
 refine⟨_,rfl,_,rfl,.ref la,n,ls,rfl,⟨la,xs,rfl,hA,hL⟩,ok,λaa ys rows Ha sa cv cw rx am=>?_⟩;refine⟨_,rfl,_,rfl,by omega,by omega,cn (n:=(n:Int).toNat) (λi zs u=>u=Ha/\zs=ET i V.non) (by rw[EN];exact Fq (av (by omega))) ⟨rfl,rfl⟩ ?_ ?_⟩
 ·rintro i zs u I ⟨rfl,rfl⟩;exact⟨rfl,by rw[Hd]⟩
 rintro zs u _ ⟨rfl,rfl⟩ ta bd;rw[EN];have z1:=aj bd (.lst (ET n V.non));refine⟨_,rfl,_,rfl,by omega,by omega,cn (n:=(n:Int).toNat) (λi zs H3=>H3=upd u ta (.lst (ET n V.non))/\zs=ET i V.non) (by rw[EN];exact Fq (av (by omega))) ⟨rfl,rfl⟩ ?_ ?_⟩
 ·rintro i zs H3 I ⟨rfl,rfl⟩;exact⟨rfl,by rw[Hd]⟩
 rintro zs H3 _ ⟨rfl,rfl⟩ va ba;rw[EN];have ca:ta≠va:=λz=>by rw[← z,af]at ba;cases ba
 have z2:=aj ba (.lst (ET n V.non));refine⟨_,rfl,_,rfl,ta,_,_,a0,rfl,rfl,by rw[ao ca];exact af,fZ (by rw[Gw];exact hs),?_⟩
 intro wd cl;refine⟨_,rfl,af,[kw a0],rfl,(by show 1<=15;decide),?_⟩
 have bm:ta≠wd:=λz=>by rw[← z,af]at cl;cases cl
 have ch:u va=none:=gm z1 ba;have ci:(upd (upd u ta (.lst (ET n V.non))) va (.lst (ET n V.non))) wd=none:=by rw[ao (Ne.symm bm)]at cl;exact cl
 have bR:va≠wd:=λz=>by rw[← z,af]at ci;cases ci
 have b0:u wd=none:=gm (z1.trans z2) ci;have cp:H TT≠none:=by rcases b8 with y | ⟨_,y,_⟩<;>rw[y]<;>simp
 have a3:u TT≠none:=by
  cases y:H TT with
  |none=>exact absurd y cp
  |some o=>rw[sa _ _ y];simp
 have b6:ta≠TT:=λz=>a3 (z▸bd);have b7:va≠TT:=λz=>a3 (z▸ch);have bF:wd≠TT:=λz=>a3 (z▸b0);have be:Same u (upd (upd (upd (upd (upd u ta (.lst (ET n V.non))) va (.lst (ET n V.non))) ta (.lst ((ET n V.non).set a0 (.int 0)))) wd (.dK [])) wd (.dK (ic [] [kw a0]))):=aV (aV (aV (z1.trans z2) bd _) b0 _) b0 _;have eT:((ET n V.non).set a0 (.int 0))=((ET n (none:Option Int)).set a0 (some 0)).map oV:=by rw[IE,List.map_replicate];rfl
 have eV:(ET n V.non)=(ET n (none:Option Nat)).map oN:=by rw[List.map_replicate];rfl
 have g1:(upd (upd (upd (upd (upd u ta (.lst (ET n V.non))) va (.lst (ET n V.non))) ta (.lst ((ET n V.non).set a0 (.int 0)))) wd (.dK [])) wd (.dK (ic [] [kw a0]))) ta=some (.lst (((ET n (none:Option Int)).set a0 (some 0)).map oV)):=by
  rw[ao bm,ao bm,← eT];exact af
 have g2:(upd (upd (upd (upd (upd u ta (.lst (ET n V.non))) va (.lst (ET n V.non))) ta (.lst ((ET n V.non).set a0 (.int 0)))) wd (.dK [])) wd (.dK (ic [] [kw a0]))) va=some (.lst ((ET n (none:Option Nat)).map oN)):=by
  rw[ao bR,ao bR,ao (Ne.symm ca),← eV];exact af
 have g3:(upd (upd (upd (upd (upd u ta (.lst (ET n V.non))) va (.lst (ET n V.non))) ta (.lst ((ET n V.non).set a0 (.int 0)))) wd (.dK [])) wd (.dK (ic [] [kw a0]))) wd=some (.dK ([a0].map kw)):=af;generalize (upd (upd (upd (upd (upd u ta (.lst (ET n V.non))) va (.lst (ET n V.non))) ta (.lst ((ET n V.non).set a0 (.int 0)))) wd (.dK [])) wd (.dK (ic [] [kw a0])))=H1 at be g1 g2 g3;have sH:Same H H1:=sa.trans be;have nS:∀ b,u b≠none->b≠TT->¬ sF ta va wd TT b:=λb G nT z=>by
  rcases z with z | z | z | z
  ·exact nT z
  ·exact G (z▸bd)
  ·exact G (z▸ch)
  ·exact G (z▸b0)
 have sg:Sg la aa ta va wd TT n a0 ls xs ys rows H1:=⟨sH _ _ hA,hL.imp λ_ _ q=>q.mono sH,ok,be _ _ cw,⟨rx.1,λi l e=>by
   obtain⟨p,p1,p2,p3⟩:=rx.2 i l e;exact⟨p,p1,nS p (by rw[p3];simp) (λz=>p2 (.inr (z▸cp))),be _ _ p3⟩⟩,am,nS la (by rw[sa _ _ hA];simp) (λz=>by rcases b8 with y | ⟨_,y,_⟩<;>rw[← z,hA]at y<;>cases y),nS aa (by rw[cw];simp) (λz=>cp (z▸cv)),(λt o e z=>by
   rcases z with z | z | z | z
   ·rw[z]at e;rcases b8 with y | ⟨_,y,_⟩<;>rw[sH _ _ y]at e<;>cases e
   ·rw[z,g1]at e;cases e
   ·rw[z,g2]at e;cases e
   ·rw[z,g3]at e;cases e),ca,bm,bR,b6,b7,bF⟩
 have cq:Tb lqF lpF TT H1:=by
  rcases b8 with y | ⟨c',y1,y2⟩
  ·exact .inl (sH _ _ y)
  ·exact .inr ⟨c',sH _ _ y1,sH _ _ y2⟩
 refine fk (FrI la aa ta va wd TT n a0 ls H1) (λ_ g=>mesH n ta wd g) ⟨_,_,_,_,_,_,[a0],rfl,⟨λ_ _ _ e=>e,g1,g2,g3,cq,FI.first ok.w0 hs,EL.mpr ⟨(by simp),GN⟩⟩⟩ ?_ ?_
 ·rintro Y H3 ⟨v7,v8,v9,aT,TL,VL,W,rfl,fh⟩;refine⟨_,rfl,λp M=>?_⟩;have bU:=fh.new M (.dK []);refine⟨wd,p,W.map kw,rfl,rfl,bU.hw,af,_,rfl,?_⟩;refine ite2 (λc=>?_) (λc=>?_)
  ·have ne:W.map kw≠[]:=λz=>by rw[z]at c;cases c
   refine⟨_,rfl,wd,W.map kw,ta,_,rfl,bU.hw,ne,rfl,bU.ht,bU.tb,λkv cs=>?_,λkv cs H4 bY bB=>?_⟩
   ·obtain⟨r,L,rfl⟩:=FJ.mp cs;obtain⟨x,O⟩:=bU.fi.wk r L;exact⟨r,x,rfl,yG O⟩
   obtain⟨r,L,rfl⟩:=FJ.mp cs;have a6:=bU.tab b6 b7 bF bY bB;obtain⟨x,O⟩:=a6.fi.wk r L;refine⟨_,rfl,wd,rfl,.inl ⟨_,.inl a6.hw⟩,_,rfl,W.map kw,.inl (r:Int),.bl true,a6.hw,rfl,wZ L,?_⟩;rw[tV];have mW:∀ y,y∈W.filter (λx=>decide (x≠r))↔y∈W/\y≠r:=λy=>by rw[HC];simp
   have lW:(W.filter (λx=>decide (x≠r))).length<W.length:=by
    refine Nat.lt_of_le_of_ne (Ht _ _) λz=>?_;have:=List.filter_eq_self.mp (List.Sublist.eq_of_length (List.filter_sublist ..) z) r L;simp at this
   refine⟨aa,ta,va,wd,xs,ys,rows,H1,_,_,_,TL,VL,_,r,W.length,sg,rfl,⟨a6.kp.upd (.inr (.inr (.inr rfl))) _,by rw[ao bm];exact a6.ht,by rw[ao bR];exact a6.hv,af,nB a6.tb λb G=>ao λz=>?_,a6.fi.take mW,a6.nd.filter _⟩,⟨x,O⟩,lW,λal g y1 y2=>⟨y1,by rw[fh.mes];exact y2⟩⟩
   rcases G with G | ⟨c',G⟩
   ·exact bF (z▸G)
   ·rw[z,a6.hw]at G;cases G
  ·have e0:W = []:=by
    cases W with
    |nil=>rfl
    |cons a b=>exact absurd rfl c
   subst e0;refine⟨_,rfl,_,rfl,(by show 2<=sizeLine;decide),λt B=>?_⟩
   have a6:=bU.new B (.tup [.ref ta,.ref va]);refine kk t ta va TL VL _ (λb o nb e=>?_) a6.tb (gm sa bd) (gm sa ch) af a6.ht a6.hv a6.fi;exact a6.kp _ _ (nS b (by rw[sa _ _ e];simp) nb) (sH _ _ e)
 ·rintro Y H4 Q1 Q2 I ⟨v1,e1,h⟩;refine⟨v1,e1,λp M=>?_⟩;obtain⟨a,b,ac,q1,q2,q3,q4,c',q5,q6⟩:=h p M;exact⟨a,b,ac,q1,q2,q3,q4,c',q5,I _ _ q6⟩
end
theorem andN(a b:Nat):Builtin.bitAnd (a:Int) (b:Int)=((a&&&b:Nat):Int):=by
 rw[PyProof.Rows.bitAnd_pp (Hl _) (Hl _),EN,EN]
theorem shlN(p:Nat):(1:Int)*2^((p:Nat):Int).toNat=((2^p:Nat):Int):=by
 rw[IS,EN,Ia];rfl
theorem xa(m n:Nat):(m^^^n)+2*(m&&&n)=m+n:=by
 have h:=PyProof.Rows.nat_or_add_and m n;have C:(m|||n)=(m^^^n)+(m&&&n):=by
  have e:(m^^^n)+(m&&&n)=(m^^^n)|||(m&&&n):=by
   have q:=PyProof.Rows.nat_or_add_and (m^^^n) (m&&&n);have z:(m^^^n)&&&(m&&&n)=0:=by
    apply FA;intro i;simp only[Gv,FP,FC]
    cases m.testBit i<;>cases n.testBit i<;>rfl
   omega
  rw[e];apply FA;intro i;simp only[Gv,FP,Gu]
  cases m.testBit i<;>cases n.testBit i<;>rfl
 omega
theorem xorN(a b:Nat):Builtin.bitXor (a:Int) (b:Int)=((a^^^b:Nat):Int):=by
 rw[PyProof.Rows.bitXor_and,andN];have q:=xa a b;omega
noncomputable def bl(c:Nat):List Nat:=K2.bitsF 0 c
theorem Ac(c:Nat):(bl c).Pairwise (· < ·):=K2.bitsF_sorted c c 0 (EI _)
theorem bl_nd(c:Nat):(bl c).Nodup:=K2.nodup_of_lt (Ac c)
theorem mem_bl{c x:Nat}:x∈bl c↔c.testBit x=true:=by
 have e:K2.S (K2.bitsF 0 c)=c:=by
  have:=K2.bitsF_sum c c 0 (EI _);rw[this,Nat.pow_zero,Nat.mul_one]
 have b:=K2.S_bit (bl_nd c) x;unfold bl at b ⊢;rw[e]at b;rw[b,decide_eq_true_iff]
theorem bl_lt{c m x:Nat}(h:c<2^m)(O:x∈bl c):x<m:=by
 have:=K2.bitsF_lt m c 0 h x O;omega
theorem ux:bl 0 = []:=K2.bitsF_zero 0
noncomputable def cut2(c f t:Nat):Nat:=c^^^2^f^^^2^t
theorem kG{c f t:Nat}(p:f∈bl c)(Y:t∈bl c)(n:f≠t)(x:Nat):x∈bl (cut2 c f t)↔x∈bl c/\x≠f/\x≠t:=by
 rw[mem_bl]at p Y;rw[mem_bl,mem_bl];unfold cut2;rw[FP,FP,Fg,Fg];by_cases c1:x=f
 ·subst c1;rw[p];simp[Ne.symm n]
 ·by_cases c2:x=t
  ·subst c2;rw[Y];simp[n]
  ·have a:¬ f=x:=λz=>c1 z.symm
   have b:¬ t=x:=λz=>c2 z.symm;simp[c1,c2,a,b]
theorem zP{c f t:Nat}{rest:List Nat}(e:bl c=f::rest)(Y:t∈rest):(bl (cut2 c f t)).Perm (rest.erase t):=by
 have o:=bl_nd c;rw[e]at o;obtain⟨r,v⟩:=EL.mp o;have a:f≠t:=λz=>r (z▸Y);refine(FR (bl_nd _) (v.erase _)).mpr λx=>?_;rw[kG (by rw[e];exact EM ..) (by rw[e];exact EK _ Y) a,e,v.mem_erase_iff,EE]
 constructor
 ·rintro⟨J | J,C,G⟩
  ·exact absurd J C
  ·exact⟨G,J⟩
 ·rintro⟨J,C⟩;exact⟨.inr C,λz=>r (z▸C),J⟩
theorem Eo{c f t m:Nat}(h:c<2^m)(p:f<m)(Y:t<m):cut2 c f t<2^m :=
 GG (GG h (FW (by decide) p)) (FW (by decide) Y)
noncomputable def Opt(D:Nat->Nat->Int)(l:List Nat)(t:Int):Prop:=Cs D l t/\∀ c,Cs D l c->t<=c
theorem Opt.perm{D:Nat->Nat->Int}{l l':List Nat}{t:Int}(h:Opt D l t)(p:l.Perm l'):Opt D l' t:=⟨h.1.perm p,λc z=>h.2 c (z.perm p.symm)⟩
theorem Opt.nil{D:Nat->Nat->Int}:Opt D [] 0:=by
 refine⟨⟨[],.refl _,rfl⟩,λc h=>?_⟩;obtain⟨k,p,e⟩:=h
 cases k with
 |nil=>rw[← e];exact F6 _
 |cons q r=>have:=p.length_eq;cases this
theorem Opt.step{D:Nat->Nat->Int}(sy:∀ a b,D a b=D b a){f n:Nat}{rest:List Nat}{h:Int}(u:n∈rest)(j:Opt D (rest.erase n) h)(i:∀ t∈rest,∃ tr,Opt D (rest.erase t) tr/\D f n+h<=D f t+tr):Opt D (f::rest) (D f n+h):=by
 refine⟨(j.1.add f n).perm ((List.perm_cons_erase u).symm.cons f),λc l=>?_⟩;obtain⟨e,R,c0,p,k,g⟩:=l.part sy (EM ..);have I:rest.Perm (e::R):=p.cons_inv;have d:e∈rest:=I.mem_iff.mpr (EM ..);have r:R.Perm (rest.erase e):=by
  have:=(I.erase e).symm;rw[GP]at this;exact this
 obtain⟨tr,Q,C⟩:=i e d;have J:=Q.2 c0 (k.perm r);omega
noncomputable def BtAt(H:Hp)(v:V)(D:Nat->Nat->Int)(m:Nat):Prop:=∃ a I,v=.ref a/\H a=some (.lst I)/\∀ i,i<m->∃ p M,I[i]?=some (.ref p)/\H p=some (.lst M)/\∀ k,k<m->M[k]?=some (.int (D i k))
noncomputable def jP(H:Hp)(v:V)(t:Int):Prop:=∃ a y z,v=.ref a/\H a=some (.tup [.int t,y,z])
noncomputable def Ent(H:Hp)(D:Nat->Nat->Int)(m:Nat)(kvs:List (Key×V))(c:Nat)(v:V):Prop:=c<2^m/\((c=0/\jP H v 0)∨∃(t:Int)(f g:Nat)(a:Addr)(j:V)(p:Int),v=.ref a/\H a=some (.tup [.int t,.int (f:Int),.int (g:Int)])/\f∈bl c/\g∈bl c/\f≠g/\valV kvs (.inl ((cut2 c f g:Nat):Int))=some j/\jP H j p/\t=D f g+p/\Opt D (bl c) t)
structure TI(H:Hp)(D:Nat->Nat->Int)(m:Nat)(kvs:List (Key×V)):Prop where
 en:∀ k v,valV kvs k=some v->∃ c:Nat,k=.inl (c:Int)/\Ent H D m kvs c v
 z:∃ v,valV kvs (.inl ((0:Nat):Int))=some v
 nd:(kvs.map (·.1)).Nodup
noncomputable def Grw(kvs b:List (Key×V))(n:Nat):Prop:=(∀ k v,valV kvs k=some v->valV b k=some v)/\∀ c:Nat,valV kvs (.inl (c:Int))=none->valV b (.inl (c:Int))≠none->(bl c).length<=n
noncomputable def Tps(H H':Hp):Prop:=∀ a M,H a=some (.tup M)->H' a=some (.tup M)
theorem jP.mono{H H':Hp}{v:V}{t:Int}(h:jP H v t)(s:Tps H H'):jP H' v t:=by
 obtain⟨a,y,z,e,q⟩:=h;exact⟨a,y,z,e,s _ _ q⟩
theorem Ent.cost{H:Hp}{D:Nat->Nat->Int}{m c:Nat}{kvs:List (Key×V)}{v:V}(h:Ent H D m kvs c v):∃ t,jP H v t/\Opt D (bl c) t:=by
 obtain⟨_,⟨rfl,h⟩ | ⟨t,f,g,a,j,p,T,Q,_,_,_,_,_,_,l⟩⟩:=h
 ·exact⟨0,h,by rw[ux];exact Opt.nil⟩
 ·exact⟨t,⟨a,_,_,T,Q⟩,l⟩
theorem Ent.mono{H H':Hp}{D:Nat->Nat->Int}{m c:Nat}{kvs b:List (Key×V)}{v:V}(h:Ent H D m kvs c v)(s:Tps H H')(g:∀ k v,valV kvs k=some v->valV b k=some v):Ent H' D m b c v:=by
 obtain⟨u,⟨e,h⟩ | ⟨t,f,q,a,j,p,T,Q,A,o,i,d,n,r,l⟩⟩:=h
 ·exact⟨u,.inl ⟨e,h.mono s⟩⟩
 ·exact⟨u,.inr ⟨t,f,q,a,j,p,T,s _ _ Q,A,o,i,g _ _ d,n.mono s,r,l⟩⟩
theorem TI.mono{H H':Hp}{D:Nat->Nat->Int}{m:Nat}{kvs:List (Key×V)}(h:TI H D m kvs)(s:Tps H H'):TI H' D m kvs:=⟨λk v e=>by
 obtain⟨C,T,Q⟩:=h.en k v e
 exact⟨C,T,Q.mono s λ_ _ z=>z⟩,h.z,h.nd⟩
theorem TrA.mono{H H':Hp}{v:V}{t:T3}(h:TrA H v t)(s:Tps H H'):TrA H' v t:=by
 obtain⟨a,e,q⟩:=h;exact⟨a,e,s _ _ q⟩
theorem TbS.tps{H H':Hp}{tb:Addr}{kvs:List (Key×V)}(s:TbS tb H H')(Y:H tb=some (.dK kvs)):Tps H H':=λa M q=>s _ _ (λw=>by rw[w,Y]at q;cases q) q
theorem BtAt.mono{H H':Hp}{D:Nat->Nat->Int}{m:Nat}{v:V}{tb:Addr}{kvs:List (Key×V)}(h:BtAt H v D m)(Y:H tb=some (.dK kvs))(s:TbS tb H H'):BtAt H' v D m:=by
 obtain⟨a,t,e,q,r⟩:=h;refine⟨a,t,e,s _ _ (λw=>by rw[w,Y]at q;cases q) q,λi I=>?_⟩
 obtain⟨p,M,C,J,A⟩:=r i I;exact⟨p,M,C,s _ _ (λw=>by rw[w,Y]at J;cases J) J,A⟩
theorem qm{α H:Type}{f:α->H}:∀{l:List α},l.Nodup->(∀ a∈l,∀ b∈l,f a=f b->a=b)->(l.map f).Nodup
 |[],_,_=>GN
 |x::l,o,h=>by
  obtain⟨r,v⟩:=EL.mp o;rw[E6];refine EL.mpr ⟨λz=>?_,qm v λa E b G=>h a (EK _ E) b (EK _ G)⟩;obtain⟨y,B,e⟩:=FJ.mp z;exact r (h x (EM ..) y (EK _ B) e.symm▸B)
theorem TI.len{H:Hp}{D:Nat->Nat->Int}{m:Nat}{kvs:List (Key×V)}(h:TI H D m kvs)(L:m<=14):kvs.length<sizeLine:=by
 have o:∀ k∈kvs.map (·.1),∃ c:Nat,k=Sum.inl (c:Int)/\c<2^m:=λk g=>by
  cases B:valV kvs k with
  |none=>exact absurd g (uE B)
  |some v =>
   obtain⟨c,e,q⟩:=h.en k v B;exact⟨c,e,q.1⟩
 have w:((kvs.map (·.1)).map λk:Key=>match k with | .inl i=>i.toNat | .inr _=>0).Nodup:=by
  refine qm h.nd λa E b G e=>?_;obtain⟨c1,rfl,_⟩:=o a E;obtain⟨c2,rfl,_⟩:=o b G;have u:c1=c2:=by simpa using e
  rw[u]
 have t:=i9 (2^m) _ w λx O=>by
  obtain⟨k,g,rfl⟩:=FJ.mp O;obtain⟨c,rfl,l⟩:=o k g;simpa using l
 rw[EJ,EJ]at t;have:2^m<=2^14:=FL (by decide) L
 have d:(2:Nat)^14=16384:=by decide
 have:=PySem.sizeLine_eq;omega
noncomputable def restR(tb:Addr)(q:V)(c m:Nat)(D:Nat->Nat->Int)(kvs:List (Key×V))(a:Hp)(Q:VK):TS:=λi Y H=>∃(e d f h g:Option V)(b:List (Key×V))(v:V),Y = [some q,some (.int (c:Int)),some (.ref tb),e,d,f,h,g]/\TbS tb a H/\H tb=some (.dK b)/\TI H D m b/\Grw kvs b (bl c).length/\valV b (.inl (c:Int))=some v/\∀ x j,Q x j->i.rt x j
noncomputable def LpI(q:V)(tb r wa:Addr)(c f m:Nat)(D:Nat->Nat->Int)(kvs:List (Key×V))(rest:List Nat)(Hb:Hp)(i:Nat)(σ:St)(H:Hp):Prop:=∃(h g:Option V)(a:List (Key×V))(l:List T3)(v:List V),σ = [some q,some (.int (c:Int)),some (.ref tb),some (.ref r),some (.int (f:Int)),some (.ref wa),h,g]/\(∀ b o,b≠tb->b≠wa->Hb b=some o->H b=some o)/\H tb=some (.dK a)/\TI H D m a/\Grw kvs a (rest.length-1)/\H wa=some (.lst v)/\LsAt TrA H v l/\l.length=i /\
 ∀(d t:Nat),(rest.take i)[d]?=some t->∃(p:Int)(j:V),l[d]?=some (D f t+p,(f:Int),(t:Int))/\Opt D (rest.erase t) p/\valV a (.inl ((cut2 c f t:Nat):Int))=some j/\jP H j p
noncomputable def spLaid(D:Nat->Nat->Int)(m j:Nat):Sp:=λN H Q _=>∃(q:V)(k:Addr)(c:Nat)(L:List (Key×V)),N = [q,.int (c:Int),.ref k]/\BtAt H q D m/\H k=some (.dK L)/\TI H D m L/\c<2^m/\m<=14/\(bl c).length<2*j/\(bl c).length%2=0 /\
 ∀ v t b g,TbS k H g->g k=some (.dK b)->TI g D m b->Grw L b (bl c).length->valV b (.inl (c:Int))=some v->jP g v t->Opt D (bl c) t->Q v g
section
variable{P:Program}{w:World}{K:ED}{mg:Str->Option Value}{base:Heap}
theorem bq:ax ["between","chosen","table","numbers","first","ways","mate","rest"] ["between","chosen","table"] (aq bM):=by ac_nf
theorem A8{f f1:Addr}{fd a0:FuncData}{D:Nat->Nat->Int}{m j:Nat}(sy:∀ a b,D a b=D b a) (F:Fun K "laid_in_pairs" "laid_in_pairs" bM f fd) (T:Txt mg) (al:Cal P w K mg base 1 "bits" ["mask"] pJ f1 a0) (ab:Cal P w K mg base (j+2) "laid_in_pairs" ["between","chosen","table"] (spLaid D m j) f fd):FnOk P w K mg base CX0 (j+3) f fd ["between","chosen","table"] (spLaid D m (j+1)):=by
 refine F.ok bq (λN H Q E h=>?_) (λaa A G s H N Q E L h=>?_)
 ·obtain⟨bv,tb,c,kvs,rfl,_⟩:=h;rfl
 obtain⟨bv,tb,c,kvs,rfl,hB,hT,ti,l,ce,len,ev,kk⟩:=h;have hu:=y9 L;have be:=L.units
 refine⟨_,(ag (bN (Cj (qa hu (pv 1) (pv 2))) (ag (au (i:=3) bq.nd rfl (Or.inl rfl) (az al.ok (L.mono (by omega)) rfl al.mg al.kp al.bn .nil aL (ae (pv 1) ah)))
   (ag (au (i:=4) bq.nd rfl (Or.inl rfl) (aB aD (pv 3) ai (λ_ _=>rfl)))
   (ag (au (i:=5) bq.nd rfl (Or.inl rfl) (bO ah))
   (ag (bK PassesOwn.never rfl (a8 (dB fx (pv 3) (dN ai) iB)) (aC (i:=6) bq.nd rfl (Or.inl rfl)) (ag (au (i:=7) bq.nd rfl (Or.inl rfl) (aw ib (aw ib (pv 1) (aw cP ai (pv 4))) (aw cP ai (pv 6))))
   (ak (aW (dQ EX Ff Fe aZ (pv 5) (ae (cO (ae (aw br (aB aD (aB aD (pv 0) (pv 4) (λ_ _=>rfl)) (pv 6) (λ_ _=>rfl)) (aB aK (az ab.ok (L.mono (by omega)) rfl ab.mg ab.kp ab.bn .nil aL (ae (pv 0) (ae (pv 7) (ae (pv 2) ah)))) ai (λ_ _=>rfl))) (ae (pv 4) (ae (pv 6) ah)))) ah))))))
   (ak (nX hu (pv 2) (pv 1) (ay (zY rfl be) (by rfl) T.n_min qW (ae (pv 5) ah)) rfl)))))) aR)
   (jG (t2:=restR tb bv c m D kvs H Q) (ak (aH (lj hu (pv 2) (pv 1) (λ_ _=>rfl)))) (λD0 S0 H0 h0=>?restr))),?_⟩
 case restr =>
  obtain⟨v4,v5,v6,v7,v8,ac,v,rfl,sT,b0,b6,gr,hv,kq⟩:=h0;obtain⟨c',e,en⟩:=b6.en _ v hv;have ec:c'=c:=by
   have:((c:Nat):Int)=(c':Int):=by injection e
   omega
  subst ec;obtain⟨t,J,C⟩:=en.cost;refine⟨_,rfl,_,rfl,tb,v,rfl,by have:=DGet.k (k:=.inl ((c':Nat):Int)) b0;rw[hv]at this;exact this,?_⟩
  exact kq _ _ (kk v t ac H0 sT b0 b6 gr hv J C)
 refine⟨_,rfl,_,rfl,tb,_,rfl,DGet.k (k:=.inl ((c:Nat):Int)) hT,_,rfl,?_⟩
 cases hv:valV kvs (.inl ((c:Nat):Int)) with
 |some v =>
  exact iteF ⟨_,_,_,_,_,kvs,v,rfl,(λ_ _ _ e=>e),hT,ti,⟨λ_ _ z=>z,λc' z1 z2=>absurd z1 z2⟩,hv,λ_ _ z=>z⟩
 |none =>
  refine iteT ?_;have c0:c≠0:=λz=>by
   subst z;obtain⟨v0,b7⟩:=ti.z;rw[hv]at b7;cases b7
  obtain⟨f,rest,bd⟩:∃ f rest,bl c=f::rest:=by
   cases q:bl c with
   |cons f rest=>exact⟨f,rest,rfl⟩
   |nil =>
    refine absurd (FA λi=>?_) c0;rw[FC]
    cases z:c.testBit i with
    |false=>rfl
    |true =>
     have:=mem_bl.mpr z;rw[q]at this;cases this
  have nd:=bl_nd c;rw[bd]at nd;obtain⟨nf,a3⟩:=EL.mp nd;have aT:(bl c).length=rest.length+1:=by rw[bd,E7]
  have flt:f<m:=bl_lt l (by rw[bd];exact EM ..)
  have da:∀ t∈rest,t<m:=λt g=>bl_lt l (by rw[bd];exact EK _ g)
  have rm:rest.length+1<=m:=by
   rw[← aT];exact i9 m _ (bl_nd c) λx O=>bl_lt l O
  have ds:c<16384:=by
   have:2^m<=2^14:=FL (by decide) ce
   have cd:(2:Nat)^14=16384:=by decide
   omega
  refine⟨_,rfl,(c:Int),rfl,by omega,by omega,λr M B a4 an=>?_⟩
  have db:(K2.bitsF 0 ((c:Nat):Int).toNat).map iV=iV f::rest.map iV:=by
   rw[EN];show(bl c).map iV=_;rw[bd,E6]
  rw[db]at an;refine⟨_,rfl,r,_,0,_,rfl,rfl,SqL.of an,(show atI (iV f::rest.map iV) ((0:Nat):Int)=some (iV f) from aA rfl),?_⟩;refine⟨(by show 0<=sizeLine;decide),λwa cq=>?_⟩
  have s2:=aj cq (.lst []);refine⟨_,rfl,_,rfl,r,_,rfl,SqL.of (s2 _ _ an),λsl ch=>?_⟩;have cs:cutV (iV f::rest.map iV) (some 1) none=rest.map iV:=by
   have n:HT.sIx (iV f::rest.map iV).length 0 (some ((1:Nat):Int))=1:=by rw[HT.sIx_nat,E7,EJ];omega
   unfold cutV;rw[show(some (1:Int))=some ((1:Nat):Int) from rfl,n,HT.sIx_none,List.drop_succ_cons,Jc,E7];exact FX (by omega)
  rw[cs];have s3:=aj ch (.lst (rest.map iV));have am:Same H (upd (upd M wa (.lst [])) sl (.lst (rest.map iV))):=B.trans (s2.trans s3);have bB:wa≠sl:=λz=>by rw[← z,af]at ch;cases ch
  have g1:(upd (upd M wa (.lst [])) sl (.lst (rest.map iV))) wa=some (.lst []):=by rw[ao bB];exact af
  have g2:=af (H:=upd M wa (.lst [])) (a:=sl) (o:=.lst (rest.map iV));have b8:H wa=none:=gm B cq;generalize (upd (upd M wa (.lst [])) sl (.lst (rest.map iV)))=Hb at am g1 g2;have ct:=am _ _ hT;have cu:wa≠tb:=λz=>by rw[z,hT]at b8;cases b8
  have cv:sl≠tb:=λz=>by rw[z,ct]at g2;cases g2
  have dc:TbS tb H Hb:=λb o _ e=>am _ _ e;have dd:TI Hb D m kvs:=ti.mono λa xs q=>am _ _ q;have dt:BtAt Hb bv D m:=hB.mono hT dc;refine⟨sl,rfl,⟨_,SqL.of g2⟩,cJ (K:=K) (xs:=rest.map iV) (LpI bv tb r wa c f m D kvs rest Hb) ⟨_,_,kvs,[],[],rfl,λ_ _ _ _ e=>e,ct,dd,⟨λ_ _ z=>z,λc' z1 z2=>absurd z1 z2⟩,g1,LsAt.nil,rfl,λa5 t e=>by simp at e⟩ (λi Y u _ ⟨_,_,_,_,_,_,z,_⟩=>SqL.of (z _ _ cv (Ne.symm bB) g2)) ?_ ?_⟩
  ·rintro i x Y u O ⟨v7,v8,ap,ws,I,rfl,k2,aP,bF,bQ,bm,hL,wl,done⟩;rw[EO]at O;obtain⟨t,g,rfl⟩:=Fm.mp O;have tm:=EC g;have tl:=da t tm;have cj:f≠t:=λz=>nf (z▸tm);have cp:=zP bd tm;have cl:(bl (cut2 c f t)).length+1=rest.length:=by
    rw[cp.length_eq,HL tm];have:=FY tm;omega
   refine⟨_,rfl,_,rfl,_,_,rfl,rfl,⟨by show(0:Int)<=(f:Int);omega,by show(f:Int)<=1000000;omega,by decide⟩,_,_,rfl,rfl,_,rfl,_,_,rfl,rfl,⟨by show(0:Int)<=(t:Int);omega,by show(t:Int)<=1000000;omega,by decide⟩,_,_,rfl,rfl,?_⟩
   have ec:Builtin.bitXor (Builtin.bitXor (c:Int) (1*2^((f:Nat):Int).toNat)) (1*2^((t:Nat):Int).toNat)=((cut2 c f t:Nat):Int):=by rw[shlN,shlN,xorN,xorN];rfl
   simp only[ec];have yl:=hL.1;have upL:∀ b zs,H b=some (.lst zs)->u b=some (.lst zs):=λb zs q=>k2 b _ (λz=>by rw[z,hT]at q;cases q) (λz=>by rw[z,b8]at q;cases q) (am _ _ q)
   obtain⟨ba,zs,rfl,cw,rr⟩:=id hB
   have de:BtAt u (.ref ba) D m:=⟨ba,zs,rfl,upL _ _ cw,λi' a1=>by
    obtain⟨p,xs,r1,r2,r3⟩:=rr i' a1
    exact⟨p,xs,r1,upL _ _ r2,r3⟩⟩
   obtain⟨p,xs,r1,r2,r3⟩:=rr f flt;refine⟨_,rfl,.inl ⟨rfl,_,SqL.of bm⟩,_,rfl,_,rfl,ba,_,_,_,rfl,rfl,SqL.of (upL _ _ cw),aA r1,_,rfl,p,_,_,_,rfl,rfl,SqL.of (upL _ _ r2),aA (r3 t tl),_,rfl,_,rfl,_,rfl,.ref ba,tb,cut2 c f t,ap,rfl,de,aP,bF,Eo l flt tl,ce,by omega,by omega,λv tr cx H3 cm df dg co dh cB di=>?_⟩
   obtain⟨va,y,z,rfl,a2⟩:=id cB;refine⟨va,_,0,_,rfl,rfl,SqT.of a2,a30,_,_,rfl,rfl,_,rfl,_,rfl,(by show 3<=sizeLine;decide),λt3 bi=>?_⟩
   have s4:=aj bi (.tup [.int (D f t+tr),.int (f:Int),.int (t:Int)]);have bU:H3 wa=some (.lst I):=cm _ _ cu bm;have dw:i<rest.length:=(EB.mp g).1;refine⟨wa,I,_,rfl,rfl,s4 _ _ bU,av (by omega),?_⟩
   have cE:Tps u H3:=TbS.tps cm aP;have bY:Tps H3 (upd (upd H3 t3 (.tup [.int (D f t+tr),.int (f:Int),.int (t:Int)])) wa (.lst (I++[.ref t3]))):=λa xs q=>by
    rw[ao (λz=>by rw[z,bU]at q;cases q)]
    exact s4 _ _ q
   have ca:Tps u (upd (upd H3 t3 (.tup [.int (D f t+tr),.int (f:Int),.int (t:Int)])) wa (.lst (I++[.ref t3]))):=λa xs q=>bY _ _ (cE _ _ q);have dj:t3≠wa:=λz=>by rw[z,bU]at bi;cases bi
   refine⟨_,_,cx,ws++[(D f t+tr,(f:Int),(t:Int))],I++[.ref t3],rfl,λb o n1 n2 e=>?_,?_,dg.mono bY,⟨λk v z=>co.1 _ _ (bQ.1 _ _ z),λc' y1 y2=>?_⟩,af,?_,by rw[EG,wl];rfl,λa5 t' e=>?_⟩
   ·rw[ao n2];exact s4 _ _ (cm _ _ n1 (k2 b o n1 n2 e))
   ·rw[ao (Ne.symm cu)];exact s4 _ _ df
   ·cases q2:valV ap (.inl (c':Int)) with
    |none=>have:=co.2 c' q2 y2;omega
    |some v'=>exact bQ.2 c' y1 (by rw[q2];simp)
   ·exact(hL.imp λ_ _ q=>TrA.mono q ca).snoc ⟨t3,rfl,by rw[ao dj];exact af⟩
   ·have bf:(rest.take i).length=i:=by rw[Fy];omega
    rw[Fj,g]at e;by_cases ci:a5<i
    ·rw[EH (by omega)]at e
     obtain⟨bR,vr,d1,d2,d3,d4⟩:=done a5 t' e;exact⟨bR,vr,by rw[EH (by omega)];exact d1,d2,co.1 _ _ d3,d4.mono ca⟩
    ·rw[EF (by omega)]at e
     have h5:=(EB.mp e).1;have h6:a5=i:=by
      have:(Option.toList (some t)).length=1:=rfl;omega
     subst h6;rw[bf,EW]at e
     cases e
     exact⟨tr,.ref va,by rw[EF (by omega),wl,EW];rfl,di.perm cp,dh,cB.mono bY⟩
  ·rintro Y u ⟨v7,v8,ap,ws,I,rfl,k2,aP,bF,bQ,bm,hL,wl,done⟩;rw[EJ]at wl done;rw[Fu]at done;have rp:1<=rest.length:=by omega
   have dn:ws≠[]:=λz=>by rw[z]at wl;simp at wl;omega
   refine⟨_,rfl,wa,I,ws,rfl,SqL.of bm,hL,dn,λa5 y t3 hy bi cM=>?_⟩;have il:a5<rest.length:=by rw[← wl];exact(EB.mp bi).1
   obtain⟨t,et⟩:∃ t,rest[a5]?=some t:=⟨_,EA il⟩;have tm:=EC et;obtain⟨tr,vr,d1,d2,d3,d4⟩:=done a5 t et;rw[bi]at d1
   cases d1
   obtain⟨w',cN,a,rfl,ha⟩:=hL.get hy;rw[bi]at cN
   cases cN
   have cj:f≠t:=λz=>nf (z▸tm);have fb:f∈bl c:=by rw[bd];exact EM ..
   have cT:t∈bl c:=by rw[bd];exact EK _ tm
   have dp:Opt D (bl c) (D f t+tr):=by
    rw[bd];refine Opt.step sy tm d2 λt' a6=>?_;obtain⟨k,d,ek⟩:=Gj a6;obtain⟨bR,dx,dq,dr,_,_⟩:=done k t' (by rw[EA d,ek])
    exact⟨bR,dr,cM _ (EC dq)⟩
   have cb:valV ap (.inl ((c:Nat):Int))=none:=by
    cases q2:valV ap (.inl ((c:Nat):Int)) with
    |none=>rfl
    |some v'=>have:=bQ.2 c hv (by rw[q2];simp);omega
   have cne:((cut2 c f t:Nat):Int)≠(c:Int):=λz=>by
    have z':cut2 c f t=c:=by omega
    have:=(kG fb cT cj f).mp (by rw[z'];exact fb)
    exact this.2.1 rfl
   have bA:∀ k v,valV ap k=some v->valV (putK ap (.inl ((c:Nat):Int)) (.ref a)) k=some v:=λk v e=>by
    rw[fq,if_neg (λz=>by rw[z,cb]at e;cases e)]
    exact e
   refine⟨_,rfl,_,rfl,tb,_,rfl,DPut.k (k:=.inl ((c:Nat):Int)) (v:=.ref a) aP (bF.len ce),?_⟩;have tp:Tps u (upd u tb (.dK (putK ap (.inl ((c:Nat):Int)) (.ref a)))):=λb xs q=>by
    rw[ao (λz=>by rw[z,aP]at q;cases q)]
    exact q
   refine⟨_,_,_,_,_,putK ap (.inl ((c:Nat):Int)) (.ref a),.ref a,rfl,λb o n1 e=>?_,af,⟨λk v e=>?_,?_,DI _ bF.nd cb⟩,⟨λk v e=>bA _ _ (bQ.1 _ _ e),λc' y1 y2=>?_⟩,by rw[fq,if_pos rfl],λ_ _ z=>z⟩
   ·rw[ao n1];exact k2 b o n1 (λz=>by rw[z,b8]at e;cases e) (am _ _ e)
   ·rw[fq]at e;by_cases ck:k=.inl ((c:Nat):Int)
    ·rw[if_pos ck]at e
     cases e
     exact⟨c,ck,l,.inr ⟨D f t+tr,f,t,a,vr,tr,rfl,tp _ _ ha,fb,cT,cj,bA _ _ d3,d4.mono tp,rfl,dp⟩⟩
    ·rw[if_neg ck]at e;obtain⟨c',n,e2⟩:=bF.en k v e;exact⟨c',n,e2.mono tp bA⟩
   ·obtain⟨v0,b7⟩:=bF.z;exact⟨v0,bA _ _ b7⟩
   ·by_cases cc:c'=c
    ·rw[cc];exact EI _
    ·rw[fq,if_neg (λz=>cc (by have:(c':Int)=(c:Int):=by injection z
                              omega))]at y2
     have:=bQ.2 c' y1 y2;omega
theorem ok_laid{f g:Addr}{fd o:FuncData}{D:Nat->Nat->Int}{m:Nat}(sy:∀ a b,D a b=D b a) (F:Fun K "laid_in_pairs" "laid_in_pairs" bM f fd) (T:Txt mg) (e:Cal P w K mg base 1 "bits" ["mask"] pJ g o) (l:cW K fd ["between","chosen","table"] []) (i:mg "laid_in_pairs" = some (.ref f)) (y:Ft K (.ref f)=true):∀ j,FnOk P w K mg base CX0 (j+2) f fd ["between","chosen","table"] (spLaid D m j)
 |0=>⟨λN H Q E h=>by
   obtain⟨q,k,c,L,_,_,_,_,_,_,z,_⟩:=h;omega,λA G s H x d N Q E _ _ _ _ h=>by
   obtain⟨q,k,c,L,_,_,_,_,_,_,z,_⟩:=h
   omega⟩
 |j+1=>A8 sy F T e ⟨ok_laid sy F T e l i y j,l,i,y⟩
end
theorem Bh{d:List (Option Nat)}{r:Nat}{o:Option Nat}(h:d[r]?=some o):(d.map oN)[r]?=some (oN o):=by rw[EO,h];rfl
theorem FI.even{n:Nat}{ls:List Lk}{s M:Nat}{T:List (Option Int)}{v:List (Option Nat)}(I:FI n ls s M T v [] (λ_ _=>False)){r k:Nat}(h:v[r]?=some (some k)):∃(l:Lk)(x y:Int),ls[k]?=some l/\kc l r/\T[r]?=some (some x)/\T[bey l r]?=some (some y)/\y+l.2.2=x:=by
 obtain⟨l,x,y,D,Q,A,o,i⟩:=I.pr r k h;rcases I.rl (bey l r) y k l o (by simp) D (pC Q)with G | ⟨t,G,O⟩
 ·exact G.elim
 ·rw[mz Q,A]at G;cases G;exact⟨l,x,y,D,Q,A,o,by omega⟩
inductive Pth(ls:List Lk)(vv:List (Option Nat))(s:Nat):Nat->List Nat->Prop where
 |root:Pth ls vv s s []
 |step {r k:Nat} {l:Lk} {ks:List Nat} (hv:vv[r]?=some (some k)) (hl:ls[k]?=some l) (h:Pth ls vv s (bey l r) ks):Pth ls vv s r (k::ks)
theorem Up.path{ls:List Lk}{v:List (Option Nat)}{s j r:Nat}(h:Up ls v s j r):∃ ks,Pth ls v s r ks/\ks.length=j:=by
 induction h with
 |root=>exact⟨[],.root,rfl⟩
 |step B D _ Y =>
  obtain⟨ks,p,e⟩:=Y;exact⟨_::ks,.step B D p,by rw[E7,e]⟩
theorem Pth.up{ls:List Lk}{v:List (Option Nat)}{s r:Nat}{ks:List Nat}(h:Pth ls v s r ks):Up ls v s ks.length r:=by
 induction h with
 |root=>exact .root
 |step B D _ Y=>exact .step B D Y
noncomputable def lkA(ls:List Lk)(k:Nat):Lk:=ls.getD k (0,0,0)
theorem lkA_is{ls:List Lk}{k:Nat}{l:Lk}(h:ls[k]?=some l):lkA ls k=l:=by unfold lkA;rw[Fs,h];rfl
noncomputable def endX(l:Lk):Nat:=2^l.1^^^2^l.2.1
noncomputable def oddE(ls:List Lk)(u:Nat):Nat->Nat
 |0=>0
 |i+1=>if u.testBit i=true then oddE ls u i^^^endX (lkA ls i) else oddE ls u i
noncomputable def cstU(ls:List Lk)(u:Nat):Nat->Int
 |0=>0
 |i+1=>if u.testBit i=true then cstU ls u i+(lkA ls i).2.2 else cstU ls u i
theorem wU(x a:Nat):(bl (x^^^2^a)).Perm (tog (bl x) a):=by
 refine(FR (bl_nd _) (tog_nd (bl_nd x) a)).mpr λy=>?_;rw[DN (bl_nd x),mem_bl,FP,Fg,mem_bl,mem_bl];by_cases c:y=a
 ·subst c
  cases x.testBit y<;>simp
 ·have C:¬ a=y:=λz=>c z.symm
  cases x.testBit y<;>simp[c,C]
theorem low_join{n:Nat}{d:Nat->Nat->Int}(M:Met n d){ls:List Lk}(u:Nat)(hl:∀ l∈ls,l.1<n/\l.2.1<n/\d l.1 l.2.1<=l.2.2):∀ i,i<=ls.length->oddE ls u i<2^n/\∃ c,Cs d (bl (oddE ls u i)) c/\c<=cstU ls u i
 |0,_=>⟨F9 n,0,by show Cs d (bl 0) 0;rw[ux];exact Opt.nil.1,F6 _⟩
 |i+1,h=>by
  obtain⟨J,c,C,G⟩:=low_join M u hl i (by omega)
  unfold oddE cstU;by_cases b:u.testBit i=true
  ·rw[if_pos b,if_pos b];obtain⟨l,e⟩:∃ l,ls[i]?=some l:=⟨_,EA (by omega)⟩
   obtain⟨w,t,a⟩:=hl l (EC e);rw[lkA_is e];have j:oddE ls u i^^^endX l=oddE ls u i^^^2^l.1^^^2^l.2.1:=by unfold endX;rw[FK]
   rw[j];refine⟨GG (GG J (FW (by decide) w)) (FW (by decide) t),?_⟩
   obtain⟨o,H,L⟩:=C.two M (bl_nd _) (λx O=>bl_lt J O) w t;refine⟨o,H.perm ?_,by omega⟩
   exact((wU _ _).trans (Av (wU _ _) _)).symm
  ·rw[if_neg b,if_neg b];exact⟨J,c,C,G⟩
theorem oq(ls:List Lk)(u v:Nat):∀ i,oddE ls (u^^^v) i=oddE ls u i^^^oddE ls v i
 |0=>(G4 0).symm
 |i+1=>by
  unfold oddE;rw[oq ls u v i,FP];have c:∀ a b e:Nat,(a^^^e)^^^(b^^^e)=a^^^b:=λa b e=>by rw[Ho b e,← FK,FK a e e,G4,G3]
  cases u.testBit i<;>cases v.testBit i<;>simp
  ·rw[FK]
  ·rw[FK,FK,Ho (oddE ls v i)]
  ·exact(c _ _ _).symm
theorem pj(ls:List Lk)(hw:∀ l∈ls,0<=l.2.2)(u v:Nat):∀ i,i<=ls.length->cstU ls (u^^^v) i<=cstU ls u i+cstU ls v i
 |0,_=>F6 _
 |i+1,h=>by
  have Y:=pj ls hw u v i (by omega)
  obtain⟨l,e⟩:∃ l,ls[i]?=some l:=⟨_,EA (by omega)⟩
  have p:=hw l (EC e);unfold cstU;rw[FP,lkA_is e]
  cases u.testBit i<;>cases v.testBit i<;>simp<;>omega
inductive Wk(ls:List Lk):Nat->Nat->Int->Prop where
 |nil (a:Nat):Wk ls a a 0
 |step {a b i:Nat} {x:Int} {l:Lk} (h:Wk ls a b x) (hl:ls[i]?=some l) (he:kc l b):Wk ls a (bey l b) (x+l.2.2)
theorem Wk.trans{ls:List Lk}{a b c:Nat}{x y:Int}(h:Wk ls a b x)(g:Wk ls b c y):Wk ls a c (x+y):=by
 induction g with
 |nil=>rw[IF];exact h
 |step _ D j Y =>
  rw[← Int.add_assoc];exact .step Y D j
theorem Wk.link{ls:List Lk}{a i:Nat}{l:Lk}(hl:ls[i]?=some l)(j:kc l a):Wk ls a (bey l a) l.2.2:=by
 have:=Wk.step (.nil a) hl j;rw[F1]at this;exact this
theorem Wk.rev{ls:List Lk}{a b:Nat}{x:Int}(h:Wk ls a b x):Wk ls b a x:=by
 induction h with
 |nil=>exact .nil _
 | @step b i x l h D j Y =>
  have g:=Wk.link D (pC j);rw[mz j]at g;rw[Int.add_comm];exact g.trans Y
theorem Wk.nn{ls:List Lk}(hw:∀ l∈ls,0<=l.2.2){a b:Nat}{x:Int}(h:Wk ls a b x):0<=x:=by
 induction h with
 |nil=>exact F6 _
 |step _ D _ Y=>have:=hw _ (EC D);omega
theorem Wk.rel{n:Nat}{ls:List Lk}{s M:Nat}{T:List (Option Int)}{v:List (Option Nat)}(I:FI n ls s M T v [] (λ_ _=>False)){a b:Nat}{x:Int}(h:Wk ls a b x):∀ y,T[a]?=some (some y)->∃ z,T[b]?=some (some z)/\z<=y+x:=by
 induction h with
 |nil=>intro y B;exact⟨y,B,by omega⟩
 | @step b i x l h D j Y =>
  intro y B;obtain⟨z,J,C⟩:=Y y B;rcases I.rl b z i l J (by simp) D j with q | ⟨d,G,k⟩
  ·exact q.elim
  ·exact⟨d,G,by omega⟩
theorem Up.wk{n:Nat}{ls:List Lk}{s M:Nat}{T:List (Option Int)}{v:List (Option Nat)}(I:FI n ls s M T v [] (λ_ _=>False)){j r:Nat}(h:Up ls v s j r):∀ x,T[r]?=some (some x)->Wk ls s r x:=by
 induction h with
 |root=>intro x O;rw[I.st]at O;cases O;exact .nil _
 | @step j r k l B D h Y =>
  intro x O;obtain⟨d,t,y,m,Q,A,o,i⟩:=I.even B;rw[D]at m;cases m;rw[O]at A;cases A;have g:=Wk.step (Y y o) D (pC Q);rw[mz Q,i]at g;exact g
theorem least{P:Nat->Prop}(h:∃ n,P n):∃ n,P n/\∀ m,P m->n<=m:=by
 obtain⟨n,f⟩:=h;induction n using Nat.strongRecOn with
 |ind n Y =>
  by_cases c:∃ m,m<n/\P m
  ·obtain⟨m,J,C⟩:=c;exact Y m J C
  ·exact⟨n,f,λm i=>HQ λz=>c ⟨m,z,i⟩⟩
open Classical in
noncomputable def farD (ls:List Lk) (a b:Nat):Int:=if h:∃ x:Nat,Wk ls a b (x:Int) then((Classical.choose (least h):Nat):Int) else 0
theorem jf{ls:List Lk}(hw:∀ l∈ls,0<=l.2.2){a b:Nat}{x:Int}(h:Wk ls a b x):Wk ls a b (farD ls a b)/\∀ y,Wk ls a b y->farD ls a b<=y:=by
 have N:=h.nn hw;have j:∃ x:Nat,Wk ls a b (x:Int):=⟨x.toNat,by rw[Gn N];exact h⟩
 have e:farD ls a b=((Classical.choose (least j):Nat):Int):=by unfold farD;rw[dif_pos j]
 obtain⟨c1,c2⟩:=Ib (least j);rw[e];refine⟨c1,λy B=>?_⟩;have d:=B.nn hw;have:=c2 y.toNat (by rw[Gn d];exact B)
 omega
theorem Cp(ls:List Lk)(a b:Nat):farD ls a b=farD ls b a:=by
 have e:∀ x:Nat,Wk ls a b (x:Int)=Wk ls b a (x:Int):=λx=>propext ⟨Wk.rev,Wk.rev⟩;have Q:(λx:Nat=>Wk ls a b (x:Int))=λx:Nat=>Wk ls b a (x:Int):=funext e;unfold farD;by_cases h:∃ x:Nat,Wk ls a b (x:Int)
 ·have G:∃ x:Nat,Wk ls b a (x:Int):=h.imp λx z=>z.rev
  rw[dif_pos h,dif_pos G];have c1:=Ib (least h);have c2:=Ib (least G);have w:=c1.2 _ c2.1.rev;have t:=c2.2 _ c1.1.rev;omega
 ·have G:¬ ∃ x:Nat,Wk ls b a (x:Int):=λz=>h (z.imp λx y=>y.rev)
  rw[dif_neg h,dif_neg G]
noncomputable def Conn(n:Nat)(ls:List Lk):Prop:=∀ b,b<n->∃ x,Wk ls 0 b x
theorem Conn.two{n:Nat}{ls:List Lk}(h:Conn n ls){a b:Nat}(E:a<n)(G:b<n):∃ x,Wk ls a b x:=by
 obtain⟨x,O⟩:=h a E;obtain⟨y,B⟩:=h b G;exact⟨_,O.rev.trans B⟩
theorem far_met{n:Nat}{ls:List Lk}(hw:∀ l∈ls,0<=l.2.2)(E:Conn n ls):Met n (farD ls) where
 sy:=Cp ls
 nn:=λa b=>by
  unfold farD;split
  ·omega
  ·exact F6 _
 tr:=λa b c d G e=>by
  obtain⟨x,O⟩:=E.two d G;obtain⟨y,B⟩:=E.two G e;exact(jf hw (O.trans B)).2 _ ((jf hw O).1.trans (jf hw B).1)
theorem far_link{ls:List Lk}(hw:∀ l∈ls,0<=l.2.2){l:Lk}(hl:l∈ls):farD ls l.1 l.2.1<=l.2.2:=by
 obtain⟨i,I,e⟩:=Gj hl;have g:=Wk.link (ls:=ls) (i:=i) (l:=l) (a:=l.1) (by rw[EA I,e]) (.inl rfl)
 have b1:bey l l.1=l.2.1:=by unfold bey;rw[if_pos rfl]
 rw[b1]at g;exact(jf hw g).2 _ g
theorem FI.is{n:Nat}{ls:List Lk}{s M:Nat}{T:List (Option Int)}{v:List (Option Nat)}(I:FI n ls s M T v [] (λ_ _=>False))(E:Conn n ls)(p:s<n){r:Nat}(L:r<n):T[r]?=some (some (farD ls s r)):=by
 have c:∀ l∈ls,0<=l.2.2:=λl D=>(I.w0 l D).1;obtain⟨x,O⟩:=E.two p L;obtain⟨z,J,C⟩:=O.rel I 0 I.st;obtain⟨j,u⟩:=I.up r z J;have a:=u.wk I z J;obtain⟨g,t⟩:=jf c O;obtain⟨d,G,k⟩:=g.rel I 0 I.st;rw[J]at G;cases G;have:=t z a;have e:z=farD ls s r:=by omega
 rw[← e];exact J
noncomputable def fV(ks:List Nat):Nat:=ks.foldl (λm k=>m|||2^k) 0
theorem gG(ks:List Nat)(i:Nat):(fV ks).testBit i=decide (i∈ks):=by
 have d:∀(ks:List Nat)(m:Nat),(ks.foldl (λm k=>m|||2^k) m).testBit i=(m.testBit i||decide (i∈ks)):=by
  intro ks;induction ks with
  |nil=>intro m;simp
  |cons k ks Y =>
   intro m;rw[List.foldl_cons,Y,Gu,Fg];by_cases c:k=i
   ·subst c;simp
   ·have C:¬ i=k:=λz=>c z.symm
    simp[c,C]
 unfold fV;rw[d];simp
theorem uY(ls:List Lk)(k:Nat):∀ i,oddE ls (2^k) i=if k<i then endX (lkA ls k) else 0
 |0=>by rw[if_neg (FN _)];rfl
 |i+1=>by
  unfold oddE;rw[uY ls k i,Fg];by_cases c:k=i
  ·subst c;rw[if_pos (by simp),if_neg (FG _),if_pos (FV _),Nat.zero_xor]
  ·rw[if_neg (by simpa using c)]
   by_cases d:k<i
   ·rw[if_pos d,if_pos (by omega)]
   ·rw[if_neg d,if_neg (by omega)]
theorem vk(ls:List Lk)(k:Nat):∀ i,cstU ls (2^k) i=if k<i then(lkA ls k).2.2 else 0
 |0=>by rw[if_neg (FN _)];rfl
 |i+1=>by
  unfold cstU;rw[vk ls k i,Fg];by_cases c:k=i
  ·subst c;rw[if_pos (by simp),if_neg (FG _),if_pos (FV _),F1]
  ·rw[if_neg (by simpa using c)]
   by_cases d:k<i
   ·rw[if_pos d,if_pos (by omega)]
   ·rw[if_neg d,if_neg (by omega)]
theorem lD(ls:List Lk):∀ i,oddE ls 0 i=0
 |0=>rfl
 |i+1=>by unfold oddE;rw[FC,if_neg Fd];exact lD ls i
theorem l8(ls:List Lk):∀ i,cstU ls 0 i=0
 |0=>rfl
 |i+1=>by unfold cstU;rw[FC,if_neg Fd];exact l8 ls i
theorem Pth.node{ls:List Lk}{v:List (Option Nat)}{s r:Nat}{ks:List Nat}(h:Pth ls v s r ks):∀ k∈ks,∃ q j,v[q]?=some (some k)/\Up ls v s j q/\j<=ks.length:=by
 induction h with
 |root=>intro k g;cases g
 | @step r k l ks B D h Y =>
  intro m g;rcases EE.mp g with rfl | g
  ·exact⟨r,_,B,.step B D h.up,EI _⟩
  ·obtain⟨q,j,J,C,G⟩:=Y m g;exact⟨q,j,J,C,by rw[E7];omega⟩
theorem Pth.join{n:Nat}{ls:List Lk}{s M:Nat}{T:List (Option Int)}{b:List (Option Nat)}(I:FI n ls s M T b [] (λ_ _=>False)){r:Nat}{ks:List Nat}(h:Pth ls b s r ks) :
  (∀ k∈ks,k<ls.length)/\oddE ls (fV ks) ls.length=2^s^^^2^r/\∀ x,T[r]?=some (some x)->cstU ls (fV ks) ls.length<=x:=by
 induction h with
 |root =>
  refine⟨(λk g=>nomatch g),?_,λx O=>?_⟩
  ·show oddE ls 0 ls.length=_;rw[lD,G4]
  ·rw[I.st]at O;cases O;show cstU ls 0 ls.length<=0;rw[l8];exact F6 _
 | @step r k l ks B D h Y =>
  obtain⟨u,J,C⟩:=Y;obtain⟨N,x,y,m,Q,A,L,e5⟩:=I.even B;rw[D]at m;cases m;have e:k<ls.length:=(EB.mp D).1;have me:Up ls b s (ks.length+1) r:=.step B D h.up;have nk:k∉ks:=λz=>by
   obtain⟨q,j,H,g2,g3⟩:=h.node k z;obtain⟨d,_,_,a,t,_⟩:=I.pr q k H;rw[D]at a;cases a;have p:q≠r:=λw=>by
    subst w;have:=Up.uniq I.vs me g2;omega
   have G:bey l q=r:=by
    unfold bey;rcases t with f | f<;>rcases Q with v | v
    ·exact absurd (f.trans v.symm) p
    ·rw[if_pos f];exact v.symm
    ·rw[if_neg (λw=>p (w.trans v.symm))];exact v.symm
    ·exact absurd (f.trans v.symm) p
   have:Up ls b s (ks.length+1+1) q:=.step H D (by rw[G];exact me)
   have:=Up.uniq I.vs this g2;omega
  have em:fV (k::ks)=fV ks^^^2^k:=FA λi=>by
   rw[gG,FP,gG,Fg];by_cases c:i=k
   ·subst c;simp[nk]
   ·have o:¬ k=i:=λz=>c z.symm
    simp[c,o]
  rw[em];refine⟨λk' g=>?_,?_,λx' E=>?_⟩
  ·rcases EE.mp g with rfl | g
   ·exact e
   ·exact u k' g
  ·rw[oq,J,uY,if_pos e,lkA_is D];have ee:endX l=2^bey l r^^^2^r:=by
    unfold endX bey;rcases Q with z | z
    ·rw[if_pos z,z,Ho]
    ·by_cases w:r=l.1
     ·rw[if_pos w,w,Ho]
     ·rw[if_neg w,z]
   rw[ee,← FK,FK (2^s),G4,G3]
  ·rw[E]at A;cases A;have H:=pj ls (λl D=>(I.w0 l D).1) (fV ks) (2^k) ls.length (EI _);have g2:=C y L;rw[vk,if_pos e,lkA_is D]at H;omega
noncomputable def tS(l:Lk):Nat:=2^l.1|||2^l.2.1
noncomputable def one1(m:Nat)(l:Lk):Nat:=if m&&&tS l=0 then m else m|||tS l
noncomputable def cF(ls:List Lk)(m:Nat):Nat:=ls.foldl one1 m
inductive Run(ls:List Lk):Nat->Nat->Nat->Prop where
 |stop {m:Nat}:Run ls m m m
 |go {m a r:Nat} (h:m≠a) (n:Run ls (cF ls m) m r):Run ls m a r
theorem yy(m:Nat)(l:Lk):m<=one1 m l:=by
 unfold one1;split
 ·exact EI _
 ·exact Ja
theorem yx{n m:Nat}{l:Lk}(h:m<2^n)(J:l.1<n)(h2:l.2.1<n):one1 m l<2^n:=by
 unfold one1 tS;split
 ·exact h
 ·exact HK h (HK (FW (by decide) J) (FW (by decide) h2))
theorem qb{ls:List Lk}{i:Nat}{l:Lk}{m:Nat}(h:ls[i]?=some l):cF (ls.take (i+1)) m=one1 (cF (ls.take i) m) l:=by
 unfold cF;rw[Fj,h,HM];rfl
theorem orN(a b:Nat):Builtin.bitOr (a:Int) (b:Int)=((a|||b:Nat):Int):=by
 rw[PyProof.Rows.bitOr_and,andN];have q:=PyProof.Rows.nat_or_add_and a b;omega
theorem endsV(l:Lk):Builtin.bitOr (1*2^((l.1:Nat):Int).toNat) (1*2^((l.2.1:Nat):Int).toNat)=((tS l:Nat):Int):=by rw[shlN,shlN,orN];rfl
noncomputable def PaAt(H:Hp)(v:V)(l:Lk):Prop:=∃ t,v=.ref t/\H t=some (.tup [.int (l.1:Int),.int (l.2.1:Int)])
theorem zC(a b:Int):decide (V.int a=V.int b)=decide (a=b):=decide_eq_decide.mpr ⟨V.int.inj,congrArg V.int⟩
noncomputable def kM:Sp:=λN H Q _=>∃(a:Addr)(v:List V)(n:Nat)(B:List Lk),N = [.int 0,.ref a]/\H a=some (.lst v)/\LsAt PaAt H v B/\Lok n B/\1<=n/\∀ r:Nat,Run B 1 0 r->Q (.int (r:Int)) H
noncomputable def spWhl:Sp:=λN H Q _=>∃(v:V)(n:Nat)(B:List Lk),N = [.int (n:Int),v]/\LnAt H v B/\Lok n B/\1<=n/\∀(r:Nat) j,Run B 1 0 r->Same H j->Q (.bl (decide ((r:Int)=1*2^((n:Nat):Int).toNat-1))) j
structure TxtR(mg:Str->Option Value):Prop where
 n_list:mg "list" = none
 n_reversed:mg "reversed" = none
section
variable{P:Program}{w:World}{K:ED}{mg:Str->Option Value}{base:Heap}
theorem aS:ax ["start","pairs","mask","ahead","one","two","ends"] ["start","pairs"] (aq eQ):=by ac_nf
theorem ok_reached{f:Addr}{fd:FuncData} (F:Fun K "reached" "reached" eQ f fd):FnOk P w K mg base CX0 1 f fd ["start","pairs"] kM:=by
 refine F.ok aS (λj H Q E h=>?_) (λg A G s H j Q E L h=>?_)
 ·obtain⟨a,v,n,B,rfl,_⟩:=h;rfl
 obtain⟨a,v,n,B,rfl,hA,hL,ok,q,J⟩:=h;have ac:=ok.n1
 refine⟨_,(ag (au (i:=2) aS.nd rfl (Or.inl rfl) (aw cP ai (pv 0)))
   (ag (au (i:=3) aS.nd rfl (Or.inl rfl) ai)
   (ag (fN PassesOwn.never (aG lB (pv 2) (pv 3) (aM _)) (ag (au (i:=3) aS.nd rfl (Or.inl rfl) (pv 2))
   (ak (bK PassesOwn.never rfl (a8 (pv 1)) (mX rfl (bx (aC (i:=4) aS.nd rfl (Or.inl rfl)) (bx (aC (i:=5) aS.nd rfl (Or.inl rfl)) gv))) (ag (au (i:=6) aS.nd rfl (Or.inl rfl) (aw vC (aw cP ai (pv 4)) (aw cP ai (pv 5))))
   (ak (bN (aG lB (aw mY (pv 2) (pv 6)) ai (aM _)) (ak (au (i:=2) aS.nd rfl (Or.inl rfl) (aw vC (pv 2) (pv 6)))) aR)))))))
   (ak (aH (pv 2)))))),?_⟩
 refine⟨_,rfl,_,_,rfl,rfl,⟨by decide,by decide,by decide⟩,?_⟩
 refine fk (λY u=>∃(M Ah:Nat),∃ v4 v5 v6,u=H/\Y = [some (.int 0),some (.ref a),some (.int (M:Int)),some (.int (Ah:Int)),v4,v5,v6]/\M<2^n/\∀ r,Run B M Ah r->Run B 1 0 r)
  (λY _=>match Y with | [_,_,some (.int M),some (.int Ah),_,_,_]=>2*((2^n:Nat)-M).toNat+(if M=Ah then 0 else 1) | _=>0) ⟨1,0,_,_,_,rfl,rfl,Iq (by ac_rfl),λr z=>z⟩ ?_ ?_
 ·rintro Y u ⟨M,Ah,v4,v5,v6,rfl,rfl,hM,run⟩;refine⟨_,rfl,_,rfl,rfl,_,rfl,?_⟩;by_cases C:M=Ah
  ·subst C;refine tj rfl ?_;exact⟨_,rfl,J M (run M .stop)⟩
  refine ite2 (λc=>?_) (λc=>absurd (by rw[zC,decide_eq_false (λz=>C (by ac_rfl))];rfl) c)
  refine⟨_,rfl,?_⟩;refine⟨_,rfl,a,rfl,⟨_,SqL.of hA⟩,cJ (K:=K) (xs:=v) (λi Y o=>∃ v4 v5 v6,o=u/\Y = [some (.int 0),some (.ref a),some (.int ((cF (B.take i) M:Nat):Int)),some (.int (M:Int)),v4,v5,v6]/\cF (B.take i) M<2^n/\M<=cF (B.take i) M) ⟨_,_,_,rfl,rfl,hM,EI _⟩ (λi Y o _ ⟨_,_,_,z,_⟩=>by rw[z];exact SqL.of hA) ?_ ?_⟩
  ·rintro i x Y o O ⟨v4,v5,v6,rfl,rfl,aa,ab⟩;obtain⟨l,D,p,rfl,t⟩:=hL.get O;obtain⟨b1,b2⟩:=ok.sm l (EC D);refine⟨p,_,rfl,SqT.of t,rfl,_,_,rfl,_,_,rfl,rfl,?_⟩;refine⟨_,rfl,_,_,rfl,rfl,⟨by ac_rfl,by ac_rfl,by decide⟩,_,rfl,_,_,rfl,rfl,⟨by ac_rfl,by ac_rfl,by decide⟩,_,_,rfl,rfl,?_⟩
   simp only[endsV];refine⟨_,rfl,_,rfl,_,_,rfl,rfl,rfl,_,rfl,?_⟩;have d:=qb (m:=M) D;have al:=yx aa b1 b2;have am:=yy (cF (B.take i) M) l;simp only[andN];by_cases z:cF (B.take i) M&&&tS l=0
   ·refine tj (by rw[z];rfl) ?_
    have e:one1 (cF (B.take i) M) l=cF (B.take i) M:=by unfold one1;rw[if_pos z]
    exact⟨_,_,_,rfl,by rw[d,e];rfl,by rw[d];exact al,by rw[d];ac_rfl⟩
   ·refine ite2 (λ_=>?_) (λc=>absurd (by rw[zC,decide_eq_false (λy=>z (by ac_rfl))];rfl) c)
    have e:one1 (cF (B.take i) M) l=cF (B.take i) M|||tS l:=by unfold one1;rw[if_neg z]
    refine⟨_,rfl,_,rfl,_,_,rfl,rfl,?_⟩;simp only[orN];exact⟨_,_,_,rfl,by rw[d,e];rfl,by rw[d];exact al,by rw[d];ac_rfl⟩
  ·rintro Y o ⟨v4,v5,v6,rfl,rfl,aa,ab⟩;rw[hL.1,Fu]at aa ab ⊢;refine⟨⟨_,M,_,_,_,rfl,rfl,aa,λr z=>run r (.go C z)⟩,?_⟩;show 2*(((2^n:Nat):Int)-((cF B M:Nat):Int)).toNat+(if((cF B M:Nat):Int)=(M:Int) then 0 else 1)<2*(((2^n:Nat):Int)-(M:Int)).toNat+(if(M:Int)=(Ah:Int) then 0 else 1);rw[if_neg (show ¬ (M:Int)=(Ah:Int) from λz=>C (by ac_rfl))]
   generalize (2^n:Nat)=N at hM aa;split<;>ac_rfl
 ·rintro Y H4 Q1 Q2 I ⟨v1,T,v2,k,e3,b,e4,q'⟩;exact⟨v1,T,v2,k,e3,b,e4,I _ _ q'⟩
theorem AD:ax ["many","links"] ["many","links"] (aq nN):=by ac_nf
theorem ok_whl{f g:Addr}{fd aa:FuncData} (F:Fun K "whole" "whole" nN f fd) (q:Cal P w K mg base 1 "reached" ["start","pairs"] kM g aa):FnOk P w K mg base CX0 2 f fd ["many","links"] spWhl:=by
 refine F.ok AD (λN H Q E h=>?_) (λy A G s H N Q E L h=>?_)
 ·obtain⟨v,n,c,rfl,_⟩:=h;rfl
 obtain⟨v,n,c,rfl,⟨a,xs,rfl,hA,I⟩,ok,m,J⟩:=h;have ac:=ok.n1;have l9:=ok.l9;have xl:=I.1;refine⟨_,(ak (aH (sA dD (az q.ok (L.mono (by decide)) rfl q.mg q.kp q.bn .nil aL (ae ai (ae (a9 rfl rfl rfl rfl (fr:=[]) (xs:=["link"]) (bH.of (by rfl) (by decide) (by rfl) (by decide) (λp M=>nomatch M) (by decide) (λp M=>nomatch M)) (a8 (pv 1)) (λC b s H=>(aC (i:=0) (show(["link"]:List Str).Nodup from by decide) rfl (Or.inl rfl))) (λC b s H=>bg) (λC b s H d T=>(cO (ae (aB (lK (K:=K) rfl) (pv 0) ai (λ_ _=>rfl)) (ae (aB (lK (K:=K) rfl) (pv 0) ai (λ_ _=>rfl)) ah))))) ah))) (aw ly (aw cP ai (pv 0)) ai) (aM _)))),?_⟩
 refine⟨_,rfl,a,rfl,⟨_,SqL.of hA⟩,bE (K:=K) (xs:=xs) (λi o u=>Same H u/\LsAt PaAt u o (c.take i)) (Fq (av (by omega))) ⟨λ_ _ e=>e,LsAt.nil⟩ (λi o u _ z=>SqL.of (z.1 _ _ hA)) ?_ ?_⟩
 ·rintro i x o u O ⟨j,hZ⟩;obtain⟨l,B,p,rfl,M⟩:=I.get O;have ab:=j _ _ M;refine⟨_,rfl,p,_,0,_,rfl,rfl,SqT.of ab,a30,_,rfl,p,_,1,_,rfl,rfl,SqT.of ab,a31,(by show 2<=sizeLine;decide),λt Y=>?_⟩
  have k:=aj Y (.tup [.int (l.1:Int),.int (l.2.1:Int)]);refine⟨j.trans k,?_⟩;rw[Fj,B];exact(hZ.imp λ_ _ ⟨t,e,z⟩=>⟨t,e,k _ _ z⟩).snoc ⟨t,rfl,af⟩
 rintro o u _ ⟨j,hZ⟩ D hD;rw[xl,Fu]at hZ;have k:=aj hD (.lst o);refine⟨D,o,n,c,rfl,af,hZ.imp λ_ _ ⟨t,e,z⟩=>⟨t,e,k _ _ z⟩,ok,m,λr run=>?_⟩;refine⟨_,rfl,_,_,rfl,rfl,⟨by omega,by omega,by decide⟩,_,_,rfl,rfl,rfl,?_⟩
 rw[zC];exact J r _ run (j.trans k)
end
structure TxtM(mg:Str->Option Value):Prop where
 most:∃ t,mg "MOST_MARKS" = some (.int 14 t)
theorem nA{M p q:Nat}:(M&&&(2^p|||2^q)=0↔M.testBit p=false/\M.testBit q=false)/\(M|||(2^p|||2^q)=M->M.testBit p=true/\M.testBit q=true):=by
 have b1:∀ i,(2^p|||2^q).testBit i=(decide (p=i)||decide (q=i)):=λi=>by rw[Gu,Fg,Fg]
 refine⟨⟨λh=>?_,λ⟨J,C⟩=>?_⟩,λh=>?_⟩
 ·have J:=congrArg (λz=>Hh z p) h
  have C:=congrArg (λz=>Hh z q) h;simp only[Gv,b1,FC]at J C;constructor
  ·simpa using J
  ·simpa using C
 ·refine FA λi=>?_;rw[Gv,b1,FC];by_cases f:p=i
  ·subst f;rw[J];rfl
  ·by_cases v:q=i
   ·subst v;rw[C];rfl
   ·simp[f,v]
 ·have J:=congrArg (λz=>Hh z p) h
  have C:=congrArg (λz=>Hh z q) h;simp only[Gu (x:=M),b1]at J C;constructor
  ·simpa using J.symm
  ·simpa using C.symm
theorem lQ{M m:Nat}(h:M<2^m)(k:∀ p,p<m->M.testBit p=true):M=2^m-1:=by
 refine FA λi=>?_;rw[G5];by_cases z:i<m
 ·rw[k i z,decide_eq_true z]
 ·rw[decide_eq_false z];exact G0 (EZ h (FL (by decide) (by omega)))
theorem ku{X:Cx}{x:Str}{n:Int}{pos:Pos}(L:Gl X x)(i:∃ t,X.mg x=some (.int n t)) (hd:(x == ("__debug__" : Str))=false:=by decide):PE X (.Name x pos) (tC (.int n)):=by
 obtain⟨t,h⟩:=i;exact lh L h ⟨t,rfl⟩ hd
theorem jX{ls:List Lk}{m:Nat}:∀ i,m<=cF (ls.take i) m/\cF (ls.take i) m<=cF ls m:=λi=>by
 have s:∀(l:List Lk)(m:Nat),m<=cF l m:=λl=>by
  induction l with
  |nil=>intro m;exact EI _
  |cons x l Y=>intro m;exact FF (yy m x) (Y _)
 refine⟨s _ _,?_⟩;have e:cF ls m=cF (ls.drop i) (cF (ls.take i) m):=by
  unfold cF;rw[← HM,GH]
 rw[e];exact s _ _
theorem uu{ls:List Lk}{r:Nat}(h:cF ls r=r){l:Lk}(hl:l∈ls):r.testBit l.1=r.testBit l.2.1:=by
 obtain⟨i,I,e⟩:=Gj hl;have a:ls[i]?=some l:=by rw[EA I,e]
 have t:=jX (ls:=ls) (m:=r) i;have A:=jX (ls:=ls) (m:=r) (i+1);have T:cF (ls.take i) r=r:=by omega
 have Q:cF (ls.take (i+1)) r=r:=by omega
 rw[qb a,T]at Q;obtain⟨b1,b2⟩:=nA (M:=r) (p:=l.1) (q:=l.2.1);unfold one1 tS at Q;split at Q
 ·rename_i c;obtain⟨f,v⟩:=b1.mp c;rw[f,v]
 ·obtain⟨f,v⟩:=b2 Q;rw[f,v]
theorem Run.shut{ls:List Lk}{n m a r:Nat}(h:Run ls m a r)(hl:∀ l∈ls,l.1<n/\l.2.1<n):(m=a->cF ls m=m)->m<2^n->cF ls r=r/\r<2^n/\(m.testBit 0=true->r.testBit 0=true):=by
 induction h with
 |stop=>intro J C;exact⟨J rfl,C,id⟩
 | @go m a r h f Y =>
  intro _ C;have lt:∀(k:List Lk),(∀ l∈k,l.1<n/\l.2.1<n)->∀ m,m<2^n->cF k m<2^n:=λk=>by
   induction k with
   |nil=>intro _ m i;exact i
   |cons x k b =>
    intro g m i;obtain⟨b1,b2⟩:=g x (EM ..);exact b (λl hl=>g l (EK _ hl)) _ (yx i b1 b2)
  have bit:∀(k:List Lk)(m:Nat),m.testBit 0=true->(cF k m).testBit 0=true:=λk=>by
   induction k with
   |nil=>intro m i;exact i
   |cons x k b =>
    intro m i;refine b _ ?_;unfold one1;split
    ·exact i
    ·rw[Gu,i];rfl
  obtain⟨H,L,o⟩:=Y (λe=>by rw[e];exact e) (lt ls hl m C)
  exact⟨H,L,λz=>o (bit ls m z)⟩
theorem AG{ls:List Lk}{n r:Nat}(h:Run ls 1 0 r)(hl:∀ l∈ls,l.1<n/\l.2.1<n)(n1:1<=n)(E:Conn n ls):r=2^n-1:=by
 obtain⟨H,L,o⟩:=h.shut hl (λz=>by cases z) (Iq (by omega))
 refine lQ L λp M=>?_;obtain⟨x,O⟩:=E p M;have d:∀{a b:Nat}{x:Int},Wk ls a b x->r.testBit a=r.testBit b:=λh=>by
  induction h with
  |nil=>rfl
  | @step b i x l G g j Y =>
   rw[Y];have k:=uu H (EC g);unfold bey;rcases j with z | z
   ·rw[if_pos z,z];exact k
   ·by_cases w:b=l.1
    ·rw[if_pos w,w];exact k
    ·rw[if_neg w,z];exact k.symm
 rw[← d O];exact o (by decide)
noncomputable def spOnes:Sp:=λN H Q _=>∃ n:Nat,N = [.int (n:Int)]/\n<2^80/\∀ j,Same H j->Q (.int (((bl n).length:Nat):Int)) j
noncomputable def spOdd:Sp:=λN H Q _=>∃ n:Nat,N = [.int (n:Int)]/\n<2^40/\∀ j,Same H j->Q (.int (((bl n).length:Nat)%2:Int)) j
noncomputable def mT(K:ED):Sp:=λN H Q _=>∃(a:Addr)(r:List Nat),N = [.ref a]/\SqL K H a (r.map iV)/\(∀ k∈r,k<80)/\Q (.int ((fV r:Nat):Int)) H
noncomputable def spRef:Sp:=λN H Q _=>∃(v:V)(n d:Nat)(B:List Lk),N = [.int (n:Int),v,.int (d:Int)]/\LnAt H v B/\Lok n B/\1<=n/\Conn n B/\d<2^n/\(bl d).length%2=0/\(bl d).length<=14/\∀ j,Same H j->Q .non j
section
variable{P:Program}{w:World}{K:ED}{mg:Str->Option Value}{base:Heap}
theorem C4:ax ["mask"] ["mask"] (aq uR):=by ac_nf
theorem ok_ones{f g:Addr}{fd o:FuncData} (F:Fun K "ones" "ones" uR f fd) (T:Txt mg) (e:Cal P w K mg base 1 "bits" ["mask"] pJ g o):FnOk P w K mg base CX0 2 f fd ["mask"] spOnes:=by
 refine F.ok C4 (λN H Q E h=>?_) (λy A G s H N Q E L h=>?_)
 ·obtain⟨n,rfl,_⟩:=h;rfl
 obtain⟨n,rfl,t,D⟩:=h;have a:(2:Nat)^80=1208925819614629174706176:=by decide
 refine⟨_,(ak (aH (ay ar (by rfl) T.n_len aY (ae (az e.ok (L.mono (by decide)) rfl e.mg e.kp e.bn .nil aL (ae (pv 0) ah)) ah)))),?_⟩
 refine⟨_,rfl,_,rfl,by omega,by omega,λr O m _ d=>?_⟩
 refine⟨r,_,rfl,.inl (SqL.of d),?_⟩;rw[EJ,EN];exact D _ m
theorem sc_odd:ax ["mask"] ["mask"] (aq AE):=by ac_nf
theorem ok_odd{f g:Addr}{fd o:FuncData} (F:Fun K "odd" "odd" AE f fd) (c:Cal P w K mg base 2 "ones" ["mask"] spOnes g o):FnOk P w K mg base CX0 3 f fd ["mask"] spOdd:=by
 refine F.ok sc_odd (λN H Q E h=>?_) (λy A G s H N Q E L h=>?_)
 ·obtain⟨n,rfl,_⟩:=h;rfl
 obtain⟨n,rfl,r,D⟩:=h;refine⟨_,(ak (aH (aw bh (az c.ok (L.mono (by decide)) rfl c.mg c.kp c.bn .nil aL (ae (pv 0) ah)) ai))),?_⟩
 exact⟨_,rfl,n,rfl,EZ r (by decide),λO m=>⟨_,_,rfl,rfl,(by show(0:Int)<2;decide),D _ m⟩⟩
theorem bT:ax ["places","mask","place"] ["places"] (aq eU):=by ac_nf
theorem ok_mask{f:Addr}{fd:FuncData} (F:Fun K "mask_of" "mask_of" eU f fd):FnOk P w K mg base CX0 1 f fd ["places"] (mT K):=by
 refine F.ok bT (λN H Q E h=>?_) (λy A G s H N Q E L h=>?_)
 ·obtain⟨a,r,rfl,_⟩:=h;rfl
 obtain⟨a,r,rfl,I,b,q⟩:=h
 refine⟨_,(ag (au (i:=1) bT.nd rfl (Or.inl rfl) ai)
   (ag (bK PassesOwn.never rfl (a8 (pv 0)) (aC (i:=2) bT.nd rfl (Or.inl rfl)) (ak (au (i:=1) bT.nd rfl (Or.inl rfl) (aw vC (pv 1) (aw cP ai (pv 2))))))
   (ak (aH (pv 1))))),?_⟩
 refine⟨_,rfl,a,rfl,⟨_,I⟩,cJ (K:=K) (xs:=r.map iV) (λi Y u=>∃ v,Y = [some (.ref a),some (.int ((fV (r.take i):Nat):Int)),v]/\u=H) ⟨_,rfl,rfl⟩ (λi Y u _ ⟨_,_,z⟩=>by rw[z];exact I) ?_ ?_⟩
 ·rintro i x Y u O ⟨v,rfl,rfl⟩;rw[EO]at O;obtain⟨k,g,rfl⟩:=Fm.mp O;have B:=b k (EC g);refine⟨_,rfl,_,rfl,_,_,rfl,rfl,⟨by show(0:Int)<=(k:Int);omega,by show(k:Int)<=1000000;omega,by decide⟩,_,_,rfl,rfl,?_⟩
  have e:Builtin.bitOr ((fV (r.take i):Nat):Int) (1*2^((k:Nat):Int).toNat)=((fV (r.take (i+1)):Nat):Int):=by
   rw[shlN,orN];unfold fV;rw[Fj,g,HM];rfl
  simp only[e];exact⟨_,rfl,rfl⟩
 ·rintro Y u ⟨v,rfl,rfl⟩;rw[EJ,Fu];exact⟨_,rfl,q⟩
theorem kP:ax ["many","links","marks"] ["many","links","marks"] (aq cX):=by ac_nf
theorem ok_ref{f g t a:Addr}{fd o q ab:FuncData} (F:Fun K "refuse_marks" "refuse_marks" cX f fd) (T:TxtM mg) (p:Cal P w K mg base 3 "odd" ["mask"] spOdd g o) (b:Cal P w K mg base 2 "whole" ["many","links"] spWhl t q) (c:Cal P w K mg base 2 "ones" ["mask"] spOnes a ab):FnOk P w K mg base CX0 4 f fd ["many","links","marks"] spRef:=by
 refine F.ok kP (λN H Q E h=>?_) (λy A G s H N Q E L h=>?_)
 ·obtain⟨v,n,d,B,rfl,_⟩:=h;rfl
 obtain⟨v,n,d,B,rfl,hV,ok,C,l,M,i,J,D⟩:=h;have x:=ok.n1;have aa:d<2^40:=EZ M (FL (by decide) x)
 obtain⟨tM,I⟩:=T.most
 refine⟨_,(ag (bN (aG dD (az p.ok (L.mono (by decide)) rfl p.mg p.kp p.bn .nil aL (ae (pv 2) ah)) ai (aM _)) (ak cH) aR)
   (ag (bN (i7 (i6 (az b.ok (L.mono (by decide)) rfl b.mg b.kp b.bn .nil aL (ae (pv 0) (ae (pv 1) ah))))) (ak cH) aR)
   (ak (bN (aG AQ (az c.ok (L.mono (by decide)) rfl c.mg c.kp c.bn .nil aL (ae (pv 2) ah)) (ku rfl T.most) (aM _)) (ak cH) aR)))),?_⟩
 refine⟨_,rfl,d,rfl,aa,λO m=>?_⟩;refine⟨rfl,_,rfl,ite2 (λz=>absurd (V.int.inj (of_decide_eq_true z)) (by omega)) (λ_=>?_)⟩
 refine⟨_,rfl,_,rfl,v,n,B,rfl,hV.mono m,ok,C,λr u run j=>?_⟩;have er:=AG run ok.sm C l
 have Y:decide ((r:Int)=1*2^((n:Nat):Int).toNat-1)=true:=decide_eq_true (by
  rw[shlN,er];have:=F9 n
  omega)
 rw[Y];refine⟨_,rfl,iteF ?_⟩;refine⟨_,rfl,d,rfl,EZ aa (by decide),λe k=>?_⟩
 refine⟨_,_,rfl,rfl,_,rfl,ite2 (λz=>absurd (of_decide_eq_true z) (by show ¬ (((bl d).length:Nat):Int) > 14;omega)) (λ_=>?_)⟩
 exact D _ (m.trans (j.trans k))
end
noncomputable def spRow:Sp:=λN H Q _=>∃(v:V)(c:Addr)(r s:Nat)(B:List Lk)(d:List (Option Nat))(a:List Nat),N = [v,.ref c,.int (r:Int)]/\LnAt H v B/\H c=some (.lst (d.map oN))/\d[s]?=some none/\Pth B d s r a/\a.length<=40/\∀ q j,Same H j->j q=some (.lst (a.reverse.map iV))->Q (.ref q) j
section
variable{P:Program}{w:World}{K:ED}{mg:Str->Option Value}{base:Heap}
theorem i0:ax ["links","via","room","back","here"] ["links","via","room"] (aq ki):=by ac_nf
theorem ok_row{f x:Addr}{fd al:FuncData} (F:Fun K "row_to" "row_to" ki f fd) (T:TxtR mg) (aa:Cal P w K mg base 1 "beyond" ["link","room"] CZ x al):FnOk P w K mg base CX0 2 f fd ["links","via","room"] spRow:=by
 refine F.ok i0 (λN H Q E h=>?_) (λy A G s H N Q E L h=>?_)
 ·obtain⟨v,va,r,s0,O,VL,c,rfl,_⟩:=h;rfl
 obtain⟨v,va,r,s0,O,VL,c,rfl,⟨a,b,rfl,hA,hL⟩,am,a2,hP,a4,J⟩:=h
 refine⟨_,(ag (au (i:=3) i0.nd rfl (Or.inl rfl) (bO ah))
   (ag (au (i:=4) i0.nd rfl (Or.inl rfl) (pv 2))
   (ag (fN PassesOwn.never (aG Dj (aB aD (pv 1) (pv 4) (λ_ _=>rfl)) lg (aM _)) (ag (aW (dQ EX Ff Fe aZ (pv 3) (ae (aB aD (pv 1) (pv 4) (λ_ _=>rfl)) ah)))
   (ak (au (i:=4) i0.nd rfl (Or.inl rfl) (az aa.ok (L.mono (by decide)) rfl aa.mg aa.kp aa.bn .nil aL (ae (aB aD (pv 0) (aB aD (pv 1) (pv 4) (λ_ _=>rfl)) (λ_ _=>rfl)) (ae (pv 4) ah)))))))
   (ak (aH (ym rfl rfl T.n_list rfl T.n_reversed (pv 3))))))),?_⟩
 refine⟨(by show 0<=sizeLine;decide),λl D=>?_⟩
 have lv:l≠va:=λz=>by rw[z,am]at D;cases D
 refine⟨_,rfl,fk (λY u=>∃(ap:Nat)(ac rest:List Nat),Y = [some (.ref a),some (.ref va),some (.int (r:Int)),some (.ref l),some (.int (ap:Int))]/\u l=some (.lst (ac.map iV))/\ac++rest=c/\Pth O VL s0 ap rest/\Same H u)
  (λ_ u=>match u l with | some (.lst o)=>100-o.length | _=>0) ⟨r,[],c,rfl,af,rfl,hP,aj D _⟩ ?_ ?_⟩
 ·rintro Y u ⟨ap,ac,rest,rfl,M,an,n,p⟩;have ab:ac.length+rest.length<=40:=by
   have:=congrArg List.length an;rw[EG]at this;omega
  have a0:=p _ _ am
  cases n with
  |root =>
   refine⟨_,rfl,_,rfl,va,_,_,_,rfl,rfl,SqL.of a0,aA (Bh a2),rfl,_,rfl,iteF ?_⟩;rw[GV]at an;subst an;refine⟨_,rfl,l,_,rfl,SqL.of M,λq d=>?_⟩;refine J q _ (p.trans (aj d _)) ?_;rw[af,List.map_reverse]
  | @step _ k lk a3 B aT aP =>
   obtain⟨a5,a1,lt,rfl,m⟩:=hL.2 k lk aT;refine⟨_,rfl,_,rfl,va,_,_,_,rfl,rfl,SqL.of a0,aA (Bh B),rfl,_,rfl,iteT ?_⟩;rw[E7]at ab;refine⟨_,rfl,.inl ⟨rfl,_,SqL.of M⟩,_,rfl,_,rfl,va,_,_,_,rfl,rfl,SqL.of a0,aA (Bh B),l,_,_,rfl,rfl,M,av (by rw[EJ];omega),?_⟩
   have t:=aV p D (.lst (ac.map iV++[.int (k:Int)]));refine⟨_,rfl,_,rfl,_,rfl,va,_,_,_,rfl,rfl,SqL.of (t _ _ am),aA (Bh B),a,_,_,_,rfl,rfl,SqL.of (t _ _ hA),aA a1,_,rfl,.ref lt,lk,ap,rfl,⟨lt,rfl,t _ _ m⟩,?_⟩;refine⟨⟨bey lk ap,ac++[k],a3,rfl,?_,?_,aP,t⟩,?_⟩
   ·rw[af,Fv];rfl
   ·rw[Gk];exact an
   ·rw[M];show(match(upd u l (.lst (ac.map iV++[.int (k:Int)]))) l with | some (.lst o)=>100-o.length | _=>0)<100-(ac.map iV).length
    rw[af];show 100-(ac.map iV++[V.int (k:Int)]).length<100-(ac.map iV).length;rw[EG,EJ,ES];omega
 ·rintro Y u Q1 Q2 I ⟨v',e,i,j,a',b',C,d',f',g',g,i',j',k',l',q⟩;exact⟨v',e,i,j,a',b',C,d',f',g',g,i',j',k',l',I _ _ q⟩
end
noncomputable def RM(rho:Nat->Nat)(c:Nat):Nat->Nat
 |0=>0
 |i+1=>if c.testBit i=true then RM rho c i^^^2^rho i else RM rho c i
theorem Ak(rho:Nat->Nat)(u v:Nat):∀ i,RM rho (u^^^v) i=RM rho u i^^^RM rho v i
 |0=>(G4 0).symm
 |i+1=>by
  unfold RM;rw[Ak rho u v i,FP];have c:∀ a b e:Nat,(a^^^e)^^^(b^^^e)=a^^^b:=λa b e=>by rw[Ho b e,← FK,FK a e e,G4,G3]
  cases u.testBit i<;>cases v.testBit i<;>simp
  ·rw[FK]
  ·rw[FK,FK,Ho (RM rho v i)]
  ·exact(c _ _ _).symm
theorem Al(rho:Nat->Nat)(k:Nat):∀ i,RM rho (2^k) i=if k<i then 2^rho k else 0
 |0=>by rw[if_neg (FN _)];rfl
 |i+1=>by
  unfold RM;rw[Al rho k i,Fg];by_cases c:k=i
  ·subst c;rw[if_pos (by simp),if_neg (FG _),if_pos (FV _),Nat.zero_xor]
  ·rw[if_neg (by simpa using c)]
   by_cases d:k<i
   ·rw[if_pos d,if_pos (by omega)]
   ·rw[if_neg d,if_neg (by omega)]
theorem Aj(rho:Nat->Nat):∀ i,RM rho 0 i=0
 |0=>rfl
 |i+1=>by unfold RM;rw[FC,if_neg Fd];exact Aj rho i
theorem Am{l:List Nat}(nd:l.Nodup)(x:Nat):∀ i,i<=l.length->(RM (λi=>l.getD i 0) (2^l.length-1) i).testBit x=decide (x∈l.take i)
 |0,_=>by rw[Jb];show(0:Nat).testBit x=_;rw[FC];simp
 |i+1,h=>by
  unfold RM;rw[if_pos (by rw[G5];exact decide_eq_true (by omega)),FP,Am nd x i (by omega),Fg]
  have e:l[i]?=some l[i]:=EA (by omega)
  have b:l.getD i 0=l[i]:=by rw[Fs,e];rfl
  rw[b];have Y:l[i]∉l.take i:=λz=>by
   obtain⟨k,g,t⟩:=Gj z;rw[Fy]at g;rw[List.getElem_take]at t;have:=(List.getElem_inj nd).mp t;omega
  have a:x∈l.take (i+1)↔(x∈l.take i∨x=l[i]):=by
   rw[Fj,e];exact ER.trans (or_congr Iff.rfl Fi)
  by_cases c:x=l[i]
  ·rw[decide_eq_false (λz=>Y (c▸z)),decide_eq_true c.symm,decide_eq_true (a.mpr (.inr c))];rfl
  ·rw[decide_eq_false (show ¬ l[i]=x from λz=>c z.symm),Hf];exact decide_eq_decide.mpr ⟨λh=>a.mpr (.inl h),λh=>(a.mp h).resolve_right c⟩
theorem RM_all(mk:Nat):RM (λi=>(bl mk).getD i 0) (2^(bl mk).length-1) (bl mk).length=mk:=FA λx=>by
 rw[Am (bl_nd mk) x _ (EI _),Fu]
 cases z:mk.testBit x with
 |true=>exact decide_eq_true (mem_bl.mpr z)
 |false=>exact decide_eq_false λy=>by rw[mem_bl,z]at y;cases y
theorem zQ{c f g:Nat}(p:f∈bl c)(L:g∈bl c)(n:f≠g):cut2 c f g<c:=by
 have sub:cut2 c f g&&&c=cut2 c f g:=FA λi=>by
  rw[Gv]
  cases z:(cut2 c f g).testBit i with
  |false=>rfl
  |true =>
   have:=(kG p L n i).mp (mem_bl.mpr z);rw[mem_bl.mp this.1];rfl
 have s:cut2 c f g<=c:=by rw[← sub];exact Nat.and_le_right
 have ne:cut2 c f g≠c:=λz=>by
  have:=(kG p L n f).mp (by rw[z];exact p)
  exact this.2.1 rfl
 omega
theorem Cs.map{d:Nat->Nat->Int}{rho:Nat->Nat}{l:List Nat}{c:Int}(h:Cs (λi j=>d (rho i) (rho j)) l c):Cs d (l.map rho) c:=by
 obtain⟨k,p,e⟩:=h;refine⟨k.map λq=>(rho q.1,rho q.2),?_,?_⟩
 ·have f:∀ k:List (Nat×Nat),flat (k.map λq=>(rho q.1,rho q.2))=(flat k).map rho:=λk=>by
   induction k with
   |nil=>rfl
   |cons q r Y=>rw[E6,flat_cons,flat_cons,Y,E6,E6]
  rw[f];exact p.map rho
 ·rw[← e];unfold cst;rw[Hs];rfl
theorem Cs.back{d:Nat->Nat->Int}{rho ix:Nat->Nat}{l:List Nat}{c:Int}(I:∀ i∈l,ix (rho i)=i)(h:Cs d (l.map rho) c):Cs (λi j=>d (rho i) (rho j)) l c:=by
 obtain⟨PL,p,e⟩:=h;have b:∀ x∈flat PL,rho (ix x)=x:=λx O=>by
  obtain⟨i,a,rfl⟩:=FJ.mp (p.mem_iff.mp O);rw[I i a]
 refine⟨PL.map λq=>(ix q.1,ix q.2),?_,?_⟩
 ·have f:∀ PL:List (Nat×Nat),flat (PL.map λq=>(ix q.1,ix q.2))=(flat PL).map ix:=λPL=>by
   induction PL with
   |nil=>rfl
   |cons q r Y=>rw[E6,flat_cons,flat_cons,Y,E6,E6]
  rw[f];refine(p.map ix).trans ?_;rw[Hs];have:l.map (ix∘rho)=l:=by
   conv=>rhs;rw[← List.map_id l]
   exact HD λi a=>I i a
  rw[this]
 ·rw[← e];unfold cst;rw[Hs];refine congrArg List.sum (HD λq T=>?_);have J:q.1∈flat PL:=by
   unfold flat;exact List.mem_flatMap.mpr ⟨q,T,EM ..⟩
  have w:q.2∈flat PL:=by
   unfold flat;exact List.mem_flatMap.mpr ⟨q,T,EK _ (EM ..)⟩
  show d (rho (ix q.1)) (rho (ix q.2))=d q.1 q.2;rw[b _ J,b _ w]
theorem Ad(m:Nat):(bl (2^m-1)).Perm (EY m):=by
 refine(FR (bl_nd _) (List.nodup_range)).mpr λx=>?_;rw[mem_bl,G5,F8,decide_eq_true_iff]
theorem Opt.rooms{d:Nat->Nat->Int}{l:List Nat}(nd:l.Nodup){t:Int}(h:Opt (λi j=>d (l.getD i 0) (l.getD j 0)) (bl (2^l.length-1)) t):Opt d l t:=by
 have G:=h.perm (Ad l.length);have em:(EY l.length).map (λi=>l.getD i 0)=l:=by
  refine List.ext_getElem (by rw[EJ,Fh]) λi J C=>?_
  rw[List.getElem_map,List.getElem_range,Fs,EA C];rfl
 have ix:∀ i∈EY l.length,l.idxOf (l.getD i 0)=i:=λi I=>by
  have a:=F8.mp I;rw[Fs,EA a];exact nd.idxOf_getElem i a
 refine⟨?_,λc E=>G.2 c (Cs.back (rho:=λi=>l.getD i 0) (ix:=λx=>l.idxOf x) ix (by rw[em];exact E))⟩
 have:=Cs.map (rho:=λi=>l.getD i 0) G.1;rw[em]at this;exact this
noncomputable def uN:Sp:=λN H Q _=>∃(w r:Addr)(M e:List V)(a:List Nat),N = [.ref w,.ref r]/\H w=some (.lst M)/\H r=some (.lst (a.map iV))/\e.length=a.length/\a.length<=900/\(∀(i k:Nat),a[i]?=some k->∃ y,M[k]?=some y/\e[i]?=some y)/\∀ q j,Same H j->H q=none->j q=some (.lst e)->Q (.ref q) j
noncomputable def xr:Sp:=λN H Q _=>N = []/\∀ p t j,Same H j->H p=none->j p=some (.dK [(.inl ((0:Nat):Int),.ref t)])->j t=some (.tup [.int 0,.non,.non])->Q (.ref p) j
section
variable{P:Program}{w:World}{K:ED}{mg:Str->Option Value}{base:Heap}
theorem pS:ax ["entries","numbers"] ["entries","numbers"] (aq fL):=by ac_nf
theorem ok_chosen{f:Addr}{fd:FuncData} (F:Fun K "chosen_of" "chosen_of" fL f fd):FnOk P w K mg base CX0 1 f fd ["entries","numbers"] uN:=by
 refine F.ok pS (λN H Q E h=>?_) (λl A d s H N Q E L h=>?_)
 ·obtain⟨b,r,xs,e,a,rfl,_⟩:=h;rfl
 obtain⟨b,r,xs,e,a,rfl,m,c,t,v,B,D⟩:=h;refine⟨_,(ak (aH (a9 rfl rfl rfl rfl (fr:=[("entries",0)]) (xs:=["number"]) (bH.of (by rfl) (by decide) (by rfl) (by decide) (by intro p M;simp only[EE,E5,or_false]at M;rcases M with rfl<;>exact⟨rfl,rfl⟩) (by decide) (by intro p M;simp only[EE,E5,or_false]at M;rcases M with rfl<;>rfl)) (a8 (pv 1)) (λC j s H=>(aC (i:=0) (show(["number","entries"]:List Str).Nodup from by decide) rfl (Or.inl rfl))) (λC j s H=>bg) (λC j s H Y n=>(aB (jd (K:=K) rfl) (pv 1) (pv 0) (λ_ _=>rfl)))))),?_⟩
 refine⟨_,rfl,r,rfl,⟨_,SqL.of c⟩,bE (K:=K) (xs:=a.map iV) (λi o u=>u=H/\o=e.take i) (Fq (av (by rw[EJ];omega))) ⟨rfl,rfl⟩ (λi o u _ z=>by rw[z.1];exact SqL.of c) ?_ ?_⟩
 ·rintro i x o u O ⟨rfl,rfl⟩;rw[EO]at O;obtain⟨k,g,rfl⟩:=Fm.mp O;obtain⟨y,J,G⟩:=B i k g;refine⟨_,rfl,_,rfl,b,_,_,_,rfl,rfl,SqL.of m,aA J,rfl,?_⟩;rw[Fj,G];rfl
 rintro o u _ ⟨rfl,rfl⟩ q T;rw[EJ,← t,Fu];exact D q _ (aj T _) T af
theorem pP:ax [] [] (aq fJ):=by ac_nf
theorem ok_table{f:Addr}{fd:FuncData} (F:Fun K "new_table" "new_table" fJ f fd):FnOk P w K mg base CX0 1 f fd [] xr:=by
 refine F.ok pP (λN H Q E h=>?_) (λy A G s H N Q E L h=>?_)
 ·rw[h.1];rfl
 obtain⟨rfl,D⟩:=h;refine⟨_,(ak (aH (yn (uV ai (cO (ae ai (ae lg (ae lg ah)))) yc) rfl rfl (λz=>by cases z) (by decide)))),?_⟩
 intro p M;refine⟨(by show 3<=sizeLine;decide),λt Y=>?_⟩
 have O:=aj M (.dK []);have v:=aj Y (.tup [.int 0,.non,.non]);have pt:p≠t:=λz=>by rw[← z,af]at Y;cases Y
 refine⟨by rw[ao pt];exact af,[(.inl ((0:Nat):Int),.ref t)],rfl,(by show 1<=15;decide),?_⟩
 refine D p t _ (aV (O.trans v) M _) M af ?_;rw[ao (Ne.symm pt)];exact af
end
noncomputable def FdAt(n:Nat)(ls:List Lk)(H:Hp)(v:V)(s:Nat):Prop:=∃ t w c f d,v=.ref t/\H t=some (.tup [.ref w,.ref c])/\H w=some (.lst (f.map oV))/\H c=some (.lst (d.map oN))/\FI n ls s MM f d [] (λ_ _=>False)
theorem tb_same{q:Str}{f:Pos}{TT:Addr}{H H':Hp}(h:Tb q f TT H)(s:Same H H'):Tb q f TT H':=by
 rcases h with y | ⟨C,c,p⟩
 ·exact .inl (s _ _ y)
 ·exact .inr ⟨C,s _ _ c,s _ _ p⟩
theorem tb_ne{q:Str}{f:Pos}{TT:Addr}{H:Hp}(h:Tb q f TT H){b:Addr}{o:HO}(e:H b=some o)(n:∀ ps,o≠.tbl ps):b≠TT:=λz=>by
 rw[z]at e;rcases h with y | ⟨_,y,_⟩<;>rw[y]at e<;>cases e<;>exact n _ rfl
noncomputable def SmT(H H':Hp):Prop:=∀ b o,(∀ d,o≠.tbl d)->H b=some o->H' b=some o
theorem SmT.trans{H H1 H2:Hp}(a:SmT H H1)(b:SmT H1 H2):SmT H H2:=λc o n e=>b c o n (a c o n e)
theorem SmT.of{H H':Hp}(s:Same H H'):SmT H H':=λc o _ e=>s c o e
theorem TbS.smT{q:Str}{f:Pos}{TT:Addr}{H H':Hp}(s:TbS TT H H')(h:Tb q f TT H):SmT H H':=λb o n e=>s b o (tb_ne h e n) e
theorem SmT.lst{H H':Hp}(s:SmT H H'){b:Addr}{xs:List V}(e:H b=some (.lst xs)):H' b=some (.lst xs):=s _ _ (λd z=>by cases z) e
theorem SmT.tup{H H':Hp}(s:SmT H H'){b:Addr}{xs:List V}(e:H b=some (.tup xs)):H' b=some (.tup xs):=s _ _ (λd z=>by cases z) e
theorem FdAt.mono{n:Nat}{ls:List Lk}{H H':Hp}{v:V}{s:Nat}(h:FdAt n ls H v s)(sm:SmT H H'):FdAt n ls H' v s:=by
 obtain⟨t,w,c,f,d,e,J,C,G,k⟩:=h;exact⟨t,w,c,f,d,e,sm.tup J,sm.lst C,sm.lst G,k⟩
theorem LnAt.smT{H H':Hp}{v:V}{r:List Lk}(h:LnAt H v r)(s:SmT H H'):LnAt H' v r:=by
 obtain⟨a,I,e,z,l⟩:=h;exact⟨a,I,e,s.lst z,l.imp λ_ _ ⟨t,e,q⟩=>⟨t,e,s.tup q⟩⟩
noncomputable def LT(H H':Hp):Prop:=(∀ b M,H b=some (.lst M)->H' b=some (.lst M))/\∀ b M,H b=some (.tup M)->H' b=some (.tup M)
theorem LT.same{H H':Hp}(s:Same H H'):LT H H':=⟨λ_ _ e=>s _ _ e,λ_ _ e=>s _ _ e⟩
theorem LT.tbS{H H':Hp}{tb:Addr}{kvs:List (Key×V)}(s:TbS tb H H')(h:H tb=some (.dK kvs)):LT H H':=⟨λb M e=>s _ _ (λz=>by rw[z,h]at e;cases e) e,λb M e=>s _ _ (λz=>by rw[z,h]at e;cases e) e⟩
theorem FdAt.lt{n:Nat}{ls:List Lk}{H H':Hp}{v:V}{s:Nat}(h:FdAt n ls H v s)(sm:LT H H'):FdAt n ls H' v s:=by
 obtain⟨t,w,c,f,d,e,J,C,G,k⟩:=h;exact⟨t,w,c,f,d,e,sm.2 _ _ J,sm.1 _ _ C,sm.1 _ _ G,k⟩
theorem jP.uniq{H:Hp}{v:V}{t t':Int}(h:jP H v t)(h':jP H v t'):t=t':=by
 obtain⟨a,y,z,e,q⟩:=h;obtain⟨Y,Q,d,u,J⟩:=h';rw[e]at u
 cases u
 rw[q]at J
 cases J
 rfl
theorem Bo{ks:List Nat}{N:Nat}(h:∀ k∈ks,k<N):fV ks<2^N:=GK _ λi I=>by
 rw[gG];exact decide_eq_false λz=>by have:=h i z;omega
theorem yL(ks:List Nat):fV ks.reverse=fV ks:=FA λi=>by
 rw[gG,gG];exact decide_eq_decide.mpr II
noncomputable def PrI(v:V)(n mk m N:Nat)(ls:List Lk)(r p q tb:Addr)(kvs:List (Key×V))(t:Int)(H8:Hp)(σ:St)(H:Hp):Prop:=∃(c u:Nat)(b e:Option V)(w:V)(T:Int),σ = [some (.int (n:Int)),some v,some (.int (mk:Int)),some (.ref r),some (.ref p),some (.ref q),some (.ref tb),some (.int (c:Int)),some (.int t),some (.int (u:Int)),b,e]/\Same H8 H/\valV kvs (.inl (c:Int))=some w/\jP H8 w T/\u<2^N/\oddE ls u N=mk^^^RM (λi=>(bl mk).getD i 0) c m/\cstU ls u N<=t-T
noncomputable def spPaired(TT:Addr):Sp:=λN H Q _=>∃(v:V)(n d:Nat)(B:List Lk),N = [.int (n:Int),v,.int (d:Int)]/\LnAt H v B/\Lok n B/\1<=n/\Conn n B/\d<2^n/\(bl d).length%2=0/\(bl d).length<=14/\Tb lqF lpF TT H /\
 ∀(t:Addr)(cost:Int)(u:Nat) j,SmT H j->Tb lqF lpF TT j->j t=some (.tup [.int cost,.int (u:Int)])->u<2^B.length->oddE B u B.length=d->Opt (farD B) (bl d) cost->cstU B u B.length<=cost->Q (.ref t) j
noncomputable def RwA(ls:List Lk)(mk:Nat)(H:Hp)(v:V)(s:Nat):Prop:=∃ p,v=V.ref p/\H p=some (.lst ((bl mk).map λx=>V.int (farD ls s x)))
noncomputable def dR (ls:List Lk) (mk:Nat) (i j:Nat):Int:=farD ls ((bl mk).getD i 0) ((bl mk).getD j 0)
section
variable{P:Program}{w:World}{K:ED}{mg:Str->Option Value}{base:Heap}
theorem bC:ax ["many","links","marks","rooms","found","between","table","left","cost","used","first","mate"] ["many","links","marks"] (aq kj):=by ac_nf
theorem ok_paired{TT f f1 f2 f3 f4 f5 f6 f7 f8:Addr}{fd a3 b6 cE dr ds dt dw dx:FuncData} (F:Fun K "paired" "paired" kj f fd) (T:Txt mg) (aP:Cal P w K mg base 4 "refuse_marks" ["many","links","marks"] spRef f1 a3) (an:Cal P w K mg base 1 "bits" ["mask"] pJ f2 b6) (ba:Cal P w K mg base 2 "fares" ["many","links","start"] (spFares TT) f3 cE)
  (a1:Cal P w K mg base 1 "chosen_of" ["entries","numbers"] uN f4 dr) (a2:Cal P w K mg base 1 "new_table" [] xr f5 ds) (GL:∀(D:Nat->Nat->Int)(m:Nat),(∀ a b,D a b=D b a)->Cal P w K mg base 10 "laid_in_pairs" ["between","chosen","table"] (spLaid D m 8) f6 dt)
  (al:Cal P w K mg base 1 "mask_of" ["places"] (mT K) f7 dw) (a4:Cal P w K mg base 2 "row_to" ["links","via","room"] spRow f8 dx):FnOk P w K mg base CX0 11 f fd ["many","links","marks"] (spPaired TT):=by
 refine F.ok bC (λN H Q E h=>?_) (λab A aa s H N Q E L h=>?_)
 ·obtain⟨v,n,mk,ls,rfl,_⟩:=h;rfl
 obtain⟨v,n,mk,ls,rfl,hV,ok,n1,hc,cj,ev,ap,b0,kk⟩:=h;have hu:=y9 L;have b7:=ok.n1;have cM:=ok.l9;have ac:=GL (dR ls mk) (bl mk).length (λa b=>Cp _ _ _);have ck:mk<1099511627776:=by
  have J:2^n<=2^40:=FL (by decide) b7
  have dq:(2:Nat)^40=1099511627776:=by decide
  omega
 have bF:∀ x∈bl mk,x<n:=λx O=>bl_lt cj O
 refine⟨_,(ag (aW (az aP.ok (L.mono (by decide)) rfl aP.mg aP.kp aP.bn .nil aL (ae (pv 0) (ae (pv 1) (ae (pv 2) ah)))))
   (ag (au (i:=3) bC.nd rfl (Or.inr rfl) (az an.ok (L.mono (by decide)) rfl an.mg an.kp an.bn .nil aL (ae (pv 2) ah)))
   (ag (cg (i:=4) rfl rfl rfl rfl bC.nd rfl rfl (fr:=[("many",0),("links",1)]) (xs:=["room"]) (bH.of (by rfl) (by decide) (by rfl) (by decide) (by intro p M;simp only[EE,E5,or_false]at M;rcases M with rfl | rfl<;>exact⟨rfl,rfl⟩) (by decide) (by intro p M;simp only[EE,E5,or_false]at M;rcases M with rfl | rfl<;>rfl)) (a8 (pv 3)) (λC ex s H=>(aC (i:=0) (show(["room","many","links"]:List Str).Nodup from by decide) rfl (Or.inl rfl))) (λC ex s H=>bg) (λC ex s H ps XE=>(az ba.ok (L.mono (by decide)) rfl ba.mg ba.kp ba.bn .nil aL (ae (pv 1) (ae (pv 2) (ae (pv 0) ah))))))
   (ag (cg (i:=5) rfl rfl rfl rfl bC.nd rfl rfl (fr:=[("rooms",3)]) (xs:=["told","via"]) (bH.of (by rfl) (by decide) (by rfl) (by decide) (by intro p M;simp only[EE,E5,or_false]at M;rcases M with rfl<;>exact⟨rfl,rfl⟩) (by decide) (by intro p M;simp only[EE,E5,or_false]at M;rcases M with rfl<;>rfl)) (a8 (pv 4)) (λC ex s H=>(sq (n:=2) (K:=K) rfl rfl (bx (aC (i:=0) (show(["told","via","rooms"]:List Str).Nodup from by decide) rfl (Or.inl rfl)) (bx (aC (i:=1) (show(["told","via","rooms"]:List Str).Nodup from by decide) rfl (Or.inl rfl)) gv)))) (λC ex s H=>bg) (λC ex s H ps XE=>(az a1.ok (L.mono (by decide)) rfl a1.mg a1.kp a1.bn .nil aL (ae (pv 0) (ae (pv 2) ah)))))
   (ag (au (i:=6) bC.nd rfl (Or.inl rfl) (AM a2.ok (L.mono (by decide)) rfl a2.mg a2.kp a2.bn .nil aL))
   (ag (au (i:=7) bC.nd rfl (Or.inl rfl) (aw ly (aw cP ai (ay ar (by rfl) T.n_len aY (ae (pv 3) ah))) ai))
   (ag (au (i:=8) bC.nd rfl (Or.inl rfl) (aB aK (az ac.ok (L.mono (by decide)) rfl ac.mg ac.kp ac.bn .nil aL (ae (pv 5) (ae (pv 7) (ae (pv 6) ah)))) ai (λ_ _=>rfl)))
   (ag (au (i:=9) bC.nd rfl (Or.inl rfl) ai)
   (ag (fN PassesOwn.never (aG lB (pv 7) ai (aM _)) (ag (au (i:=10) bC.nd rfl (Or.inl rfl) (aB aK (lj hu (pv 6) (pv 7) (λ_ _=>rfl)) ai (λ_ _=>rfl)))
   (ag (au (i:=11) bC.nd rfl (Or.inl rfl) (aB aK (lj hu (pv 6) (pv 7) (λ_ _=>rfl)) ai (λ_ _=>rfl)))
   (ag (au (i:=9) bC.nd rfl (Or.inl rfl) (aw ib (pv 9) (az al.ok (L.mono (by decide)) rfl al.mg al.kp al.bn .nil aL (ae (az a4.ok (L.mono (by decide)) rfl a4.mg a4.kp a4.bn .nil aL (ae (pv 1) (ae (aB aK (aB aD (pv 4) (pv 10) (λ_ _=>rfl)) ai (λ_ _=>rfl)) (ae (aB aD (pv 3) (pv 11) (λ_ _=>rfl)) ah)))) ah))))
   (ak (au (i:=7) bC.nd rfl (Or.inl rfl) (aw ib (aw ib (pv 7) (aw cP ai (pv 10))) (aw cP ai (pv 11)))))))))
   (ak (aH (cO (ae (pv 8) (ae (pv 9) ah)))))))))))))),?_⟩
 refine⟨_,rfl,_,rfl,_,rfl,v,n,mk,ls,rfl,hV,ok,n1,hc,cj,ev,ap,λH1 s1=>?_⟩;refine⟨_,rfl,(mk:Int),rfl,by omega,by omega,λr B s2 bd bY=>?_⟩
 rw[EN]at bY;have aT:=s1.trans s2;have b8:=tb_same b0 aT;have ca:B r=some (.lst ((bl mk).map iV)):=bY;have cb:((bl mk).map iV).length=(bl mk).length:=EJ ..;refine⟨_,rfl,r,rfl,⟨_,SqL.of ca⟩,nh (K:=K) (xs:=(bl mk).map iV) (λi zs H3=>SmT B H3/\Tb lqF lpF TT H3/\LsAt (FdAt n ls) H3 zs ((bl mk).take i)) (Fq (av (by omega))) ⟨λ_ _ _ e=>e,b8,LsAt.nil⟩ (λi zs H3 _ z=>SqL.of (z.1.lst ca)) ?_ ?_ ?_⟩
 ·rintro i x zs H3 O ⟨bQ,bm,hZ⟩;rw[EO]at O;obtain⟨k,hk,rfl⟩:=Fm.mp O;refine⟨rfl,yesT ⟨_,rfl,_,rfl,_,rfl,v,n,k,ls,rfl,LnAt.smT (hV.mono aT) bQ,ok,bF k (EC hk),bm,λt ta va TL VL H4 bB bi _ _ ht be a6 fi=>?_⟩⟩;have cs:=TbS.smT bB bm;refine⟨bQ.trans cs,bi,?_⟩;rw[Fj,hk];exact(hZ.imp λ_ _ q=>q.mono cs).snoc ⟨t,ta,va,TL,VL,rfl,ht,be,a6,fi⟩
 ·rintro zs H3 ⟨bQ,bm,hZ⟩ fa cN;rw[cb,Fu]at hZ;have z4:=aj cN (.lst zs);have cc:SmT B (upd H3 fa (.lst zs)):=bQ.trans (.of z4);have bi:=tb_same bm z4;have cm:LsAt (FdAt n ls) (upd H3 fa (.lst zs)) zs (bl mk):=hZ.imp λ_ _ q=>q.mono (.of z4);have co:(upd H3 fa (.lst zs)) fa=some (.lst zs):=af;generalize upd H3 fa (.lst zs)=H4 at cc bi cm co;have zl:=cm.1;have cp:=cc.lst ca;refine⟨_,rfl,fa,rfl,⟨_,SqL.of co⟩,nh (K:=K) (xs:=zs) (λi ws H5=>Same H4 H5/\LsAt (RwA ls mk) H5 ws ((bl mk).take i)) (Fq (av (by omega))) ⟨λ_ _ e=>e,LsAt.nil⟩ (λi ws H5 _ z=>SqL.of (z.1 _ _ co)) ?_ ?_ ?_⟩
  ·rintro i x ws H5 O ⟨s5,hW⟩;obtain⟨s0,cl,t,ta,va,TL,VL,rfl,ht,be,a6,fi⟩:=cm.get O;have dC:=bF s0 (EC cl);refine⟨t,_,rfl,SqT.of (s5 _ _ ht),rfl,_,_,rfl,_,_,rfl,rfl,rfl,yesT ⟨_,rfl,_,rfl,ta,r,_,(bl mk).map λx=>V.int (farD ls s0 x),bl mk,rfl,s5 _ _ be,s5 _ _ cp,EJ ..,by omega,λj k hk=>?_,λq H6 s6 eb hq=>?_⟩⟩
   ·refine⟨.int (farD ls s0 k),?_,by rw[EO,hk];rfl⟩
    exact yG (fi.is hc dC (bF k (EC hk)))
   ·refine⟨s5.trans s6,?_⟩;rw[Fj,cl];exact(hW.imp λ_ _ ⟨p,e,z⟩=>⟨p,e,s6 _ _ z⟩).snoc ⟨q,rfl,hq⟩
  ·rintro ws H5 ⟨s5,hW⟩ bv dF;rw[zl,Fu]at hW;have z6:=aj dF (.lst ws);refine⟨rfl,λtb t0 H7 s7 da bA bU=>?_⟩;have bR:Same H4 H7:=s5.trans (z6.trans s7);have dG:LsAt (RwA ls mk) H7 ws (bl mk):=hW.imp λ_ _ ⟨p,e,z⟩=>⟨p,e,s7 _ _ (z6 _ _ z)⟩;have db:H7 bv=some (.lst ws):=s7 _ _ af;have bf:∀ i,i<(bl mk).length->(bl mk)[i]?=some ((bl mk).getD i 0):=λi I=>by rw[Fs,EA I];rfl
   have bt:BtAt H7 (.ref bv) (dR ls mk) (bl mk).length:=⟨bv,ws,rfl,db,λi I=>by
    obtain⟨y,hy,p,rfl,M⟩:=dG.2 i _ (bf i I)
    exact⟨p,_,hy,M,λk hk=>by rw[EO,bf k hk];rfl⟩⟩
   have ti:TI H7 (dR ls mk) (bl mk).length [(.inl ((0:Nat):Int),.ref t0)]:=⟨(λk w e=>by
    by_cases c:(Sum.inl ((0:Nat):Int):Key)=k
    ·rw[bI c]at e
     cases e
     exact⟨0,c.symm,F9 _,.inl ⟨rfl,t0,_,_,rfl,bU⟩⟩
    ·rw[bJ c]at e
     cases e),⟨_,bI rfl⟩,EL.mpr ⟨(by simp),GN⟩⟩
   have dc:=bR _ _ cp;have dd:=tb_same bi bR;have eL:(1:Int)*2^((((bl mk).map iV).length:Nat):Int).toNat-1=((2^(bl mk).length-1:Nat):Int):=by
    rw[cb,shlN];have:=F9 (bl mk).length;omega
   refine⟨_,rfl,r,_,rfl,.inl (SqL.of dc),_,_,rfl,rfl,⟨by omega,by rw[cb];omega,by decide⟩,_,_,rfl,rfl,?_⟩
   simp only[eL];have cd:(bl (2^(bl mk).length-1)).length=(bl mk).length:=by rw[(Ad _).length_eq,Fh]
   refine⟨_,rfl,_,rfl,_,rfl,.ref bv,tb,2^(bl mk).length-1,_,rfl,bt,bA,ti,by have:=F9 (bl mk).length;omega,ap,by rw[cd];omega,by rw[cd];exact ev,λw t am H8 sT ch ci gr hv cv op=>?_⟩
   have ce:=LT.tbS sT bA;obtain⟨va,y,z,rfl,a6⟩:=id cv;refine⟨va,_,0,_,rfl,rfl,SqT.of a6,a30,?_⟩;have de:Opt (farD ls) (bl mk) t:=Opt.rooms (bl_nd mk) op;have dL:Tb lqF lpF TT H8:=nB dd λb G=>by
    have hs:∃ o,H7 b=some o/\b≠tb:=by
     rcases G with rfl | ⟨c',G⟩
     ·rcases dd with q | ⟨_,q,_⟩
      ·exact⟨_,q,λz=>by rw[z,bA]at q;cases q⟩
      ·exact⟨_,q,λz=>by rw[z,bA]at q;cases q⟩
     ·exact⟨_,G,λz=>by rw[z,bA]at G;cases G⟩
    obtain⟨o,J,d⟩:=hs;rw[J];exact sT _ _ d J
   have ct:SmT H H8:=λb o no e=>by
    have e4:=cc b o no (aT _ _ e);have e7:=bR _ _ e4;refine sT _ _ (λz=>?_) e7;subst z;have:=gm (s5.trans z6) da;rw[this]at e4;cases e4
   have dO:LsAt (FdAt n ls) H8 zs (bl mk):=cm.imp λ_ _ q=>(q.lt (LT.same bR)).lt ce;have df:=ce.1 _ _ (bR _ _ co);have dP:=ce.1 _ _ dc;have dS:LnAt H8 v ls:=(LnAt.smT hV ct);refine fk (PrI v n mk (bl mk).length ls.length ls r fa bv tb am t H8) (λY _=>match Y with | [_,_,_,_,_,_,_,some (.int c),_,_,_,_]=>c.toNat | _=>0) ⟨2^(bl mk).length-1,0,_,_,_,t,rfl,λ_ _ e=>e,hv,cv,F9 _,by rw[lD,RM_all,G4],by rw[l8];ac_rfl⟩ ?_ ?_
   ·rintro Y H9 ⟨c,u,a0,a5,w,tc,rfl,s9,hw,cw,dh,ou,cu⟩;obtain⟨c',cB,di,en⟩:=ci.en _ _ hw;have dV:c'=c:=by
     have:(c:Int)=(c':Int):=by injection cB
     ac_rfl
    subst dV;refine⟨_,rfl,rfl,_,rfl,?_⟩;by_cases c0:c'=0
    ·subst c0;refine tj rfl ?_;have ee:tc=0:=by
      rcases en with⟨_,q⟩ | ⟨_,f,_,_,_,_,_,_,q,_⟩
      ·exact cw.uniq q
      ·rw[ux]at q;cases q
     refine⟨_,rfl,_,rfl,(by show 2<=sizeLine;decide),λt9 dW=>?_⟩
     have z9:=aj dW (.tup [.int t,.int (u:Int)]);refine kk t9 t u _ (ct.trans (.of (s9.trans z9))) (tb_same dL (s9.trans z9)) af dh ?_ de (by ac_rfl)
     rw[ou,Aj,G3]
    ·refine ite2 (λ_=>?_) (λz=>absurd (by rw[decide_eq_false (λy=>c0 (by have:=V.int.inj y;ac_rfl))];rfl) z)
     obtain⟨tt,f,g,a,vr,tr,rfl,ha,hf,hg,fg,dY,d0,ef,_⟩:∃(t:Int)(f g:Nat)(a:Addr)(vr:V)(tr:Int),w=.ref a/\H8 a=some (.tup [.int t,.int (f:Int),.int (g:Int)])/\f∈bl c'/\g∈bl c'/\f≠g/\valV am (.inl ((cut2 c' f g:Nat):Int))=some vr/\jP H8 vr tr/\t=dR ls mk f g+tr/\Opt (dR ls mk) (bl c') t:=by
      rcases en with⟨q,_⟩ | q
      ·exact absurd q c0
      ·exact q
     have eg:tc=tt:=cw.uniq ⟨a,_,_,rfl,ha⟩;have flt:=bl_lt di hf;have cT:=bl_lt di hg;have d3:=s9 _ _ ch;have dj:=s9 _ _ ha;have dg:DGet H9 tb (.int (c':Int)) (some (.ref a)):=by have:=DGet.k (k:=.inl ((c':Nat):Int)) d3;rw[hw]at this;exact this
     refine⟨_,rfl,_,rfl,tb,_,rfl,dg,a,_,1,_,rfl,rfl,SqT.of dj,a31,?_⟩;refine⟨_,rfl,_,rfl,tb,_,rfl,dg,a,_,2,_,rfl,rfl,SqT.of dj,a32,?_⟩;obtain⟨y,hy,tF,ei,d4,TL,VL,rfl,d5,ea,dn,fi⟩:=dO.2 f _ (bf f flt);have gl:=bF _ (EC (bf g cT));have fl:=bF _ (EC (bf f flt));have xg:=fi.is hc fl gl;obtain⟨j,up⟩:=fi.up _ _ xg;obtain⟨ks,dp,kl⟩:=up.path;have sh:=up.short fi.vs;have vl:=fi.vl;obtain⟨j1,j2,j3⟩:=dp.join fi;have ej:=j3 _ xg;refine⟨_,rfl,_,rfl,_,rfl,_,rfl,fa,_,_,_,rfl,rfl,SqL.of (s9 _ _ df),aA hy,tF,_,1,_,rfl,rfl,SqT.of (s9 _ _ d5),at1,_,rfl,_,rfl,r,_,_,_,rfl,rfl,SqL.of (s9 _ _ dP),aA (show((bl mk).map iV)[g]?=some (V.int (((bl mk).getD g 0:Nat):Int)) by rw[EO,bf g cT];rfl),v,d4,(bl mk).getD g 0,(bl mk).getD f 0,ls,VL,ks,rfl,dS.mono s9,s9 _ _ dn,fi.vs,dp,by ac_rfl,λq ek cq hq=>?_⟩
     refine⟨q,ks.reverse,rfl,SqL.of hq,λk hk=>by have:=j1 k (II.mp hk);ac_rfl,_,_,rfl,rfl,?_⟩
     have ex:Builtin.bitXor (u:Int) ((fV ks.reverse:Nat):Int)=((u^^^fV ks:Nat):Int):=by rw[yL,xorN]
     simp only[ex];refine⟨_,rfl,_,rfl,_,_,rfl,rfl,⟨by ac_rfl,by ac_rfl,by decide⟩,_,_,rfl,rfl,_,rfl,_,_,rfl,rfl,⟨by ac_rfl,by ac_rfl,by decide⟩,_,_,rfl,rfl,?_⟩
     have ec:Builtin.bitXor (Builtin.bitXor (c':Int) (1*2^((f:Nat):Int).toNat)) (1*2^((g:Nat):Int).toNat)=((cut2 c' f g:Nat):Int):=by rw[shlN,shlN,xorN,xorN];rfl
     simp only[ec];have cx:=pj ls (λl hl=>(ok.w0 l hl).1) u (fV ks) ls.length (EI _);refine⟨⟨cut2 c' f g,u^^^fV ks,some (.int (f:Int)),some (.int (g:Int)),vr,tr,rfl,s9.trans cq,dY,d0,GG dh (Bo j1),?_,?_⟩,?_⟩
     ·rw[oq,ou,j2];unfold cut2;rw[Ak,Ak,Al,Al,if_pos flt,if_pos cT,FK,FK]
     ·have ed:dR ls mk f g=farD ls ((bl mk).getD f 0) ((bl mk).getD g 0):=rfl
      ac_rfl
     ·show((cut2 c' f g:Nat):Int).toNat<((c':Nat):Int).toNat;have:=zQ hf hg fg;ac_rfl
   ·rintro Y H9 Q1 Q2 I ⟨v1,e1,e2,b,e3,q⟩;exact⟨v1,e1,e2,b,e3,I _ _ q⟩
  ·rintro i ws H5 ⟨_,hW⟩;rw[hW.1,Fy];ac_rfl
 ·rintro i zs H3 ⟨_,_,hZ⟩;rw[hZ.1,Fy];ac_rfl
end
end KF
namespace L2
theorem len_0{α:Type}{l:List α}(h:l.length=0):l = []:=Jm.mp h
theorem vI{α:Type}{l:List α}{n:Nat}(h:l.length=n+1):∃ x r,l=x::r/\r.length=n:=by
 cases l with
 |nil=>cases h
 |cons x r=>exact⟨x,r,rfl,Nat.succ.inj h⟩
theorem Bs{α:Type}{l:List α}(h:l.length=1):∃ a,l = [a]:=by
 obtain⟨a,r,rfl,e⟩:=vI h;exact⟨a,by rw[len_0 e]⟩
theorem len_2{α:Type}{l:List α}(h:l.length=2):∃ a b,l = [a,b]:=by
 obtain⟨a,r,rfl,e⟩:=vI h;obtain⟨b,rfl⟩:=Bs e;exact⟨a,b,rfl⟩
theorem len_3{α:Type}{l:List α}(h:l.length=3):∃ a b c,l = [a,b,c]:=by
 obtain⟨a,r,rfl,e⟩:=vI h;obtain⟨b,c,rfl⟩:=len_2 e;exact⟨a,b,c,rfl⟩
theorem DQ{α:Type}{l:List α}(h:l.length=4):∃ a b c d,l = [a,b,c,d]:=by
 obtain⟨a,r,rfl,e⟩:=vI h;obtain⟨b,c,d,rfl⟩:=len_3 e;exact⟨a,b,c,d,rfl⟩
theorem len_5{α:Type}{l:List α}(h:l.length=5):∃ a b c d e,l = [a,b,c,d,e]:=by
 obtain⟨a,r,rfl,z⟩:=vI h;obtain⟨b,c,d,e,rfl⟩:=DQ z;exact⟨a,b,c,d,e,rfl⟩
theorem len_6{α:Type}{l:List α}(h:l.length=6):∃ a b c d e f,l = [a,b,c,d,e,f]:=by
 obtain⟨a,r,rfl,z⟩:=vI h;obtain⟨b,c,d,e,f,rfl⟩:=len_5 z;exact⟨a,b,c,d,e,f,rfl⟩
end L2
namespace K8
theorem B5:∀{a b:List Nat},a.Nodup->(∀ x∈a,x∈b)->a.length<=b.length
 |[],_,_,_=>FT _
 |x::a,b,o,h=>by
  obtain⟨r,v⟩:=EL.mp o;have O:=h x (by simp)
  have Y:=B5 (a:=a) (b:=b.erase x) v λy B=>(List.mem_erase_of_ne (λe:y=x=>r (e▸B))).mpr (h y (EK _ B));rw[HL O]at Y;have:0<b.length:=FY O;rw[E7];omega
theorem dv{a:List Nat}{N:Nat}(nd:a.Nodup)(h:∀ x∈a,x<N):a.length<=N:=by
 have:=B5 (b:=EY N) nd λx O=>F8.mpr (h x O);rwa[Fh]at this
theorem u6{l:List Nat}(nd:l.Nodup){i j x:Nat}(I:l[i]?=some x)(hj:l[j]?=some x):i=j:=by
 have p:=HI.mp nd;obtain⟨J,T⟩:=EB.mp I;obtain⟨C,Q⟩:=EB.mp hj;rcases Nat.lt_trichotomy i j with z | z | z
 ·exact absurd (T.trans Q.symm) (p i j J C z)
 ·exact z
 ·exact absurd (Q.trans T.symm) (p j i C J z)
noncomputable abbrev En:=List (Nat×Nat)
structure bz(m:Nat)(es:En)(ts:List (List Nat)):Prop where
 len:ts.length=m
 ends:∀ e∈es,e.1<m/\e.2<m/\e.1≠e.2
 nd:∀(p:Nat)(l:List Nat),ts[p]?=some l->l.Nodup
 mem:∀(p:Nat)(l:List Nat),ts[p]?=some l->∀ t,t∈l↔∃ e,es[t]?=some e/\(e.1=p∨e.2=p)
theorem Au(m:Nat):bz m [] (ET m []) where
 len:=by simp
 ends:=λe h=>by cases h
 nd:=λp l h=>by
  rw[Gb]at h;split at h
  ·cases h;exact GN
  ·cases h
 mem:=λp l h t=>by
  rw[Gb]at h;split at h
  ·cases h;simp
  ·cases h
noncomputable def ins(l:List Nat)(k x:Nat):List Nat:=l.take k++x::l.drop k
theorem tq{l:List Nat}{k x y:Nat}:y∈ins l k x↔y=x∨y∈l:=by
 unfold ins;rw[ER,EE];have:=GH k l;constructor
 ·rintro(h | h | h)
  ·exact .inr (List.mem_of_mem_take h)
  ·exact .inl h
  ·exact .inr (List.mem_of_mem_drop h)
 ·rintro(h | h)
  ·exact .inr (.inl h)
  ·rw[← this]at h;rcases ER.mp h with z | z
   ·exact .inl z
   ·exact .inr (.inr z)
theorem yY{l:List Nat}{k x:Nat}(nd:l.Nodup)(h:x∉l):(ins l k x).Nodup:=by
 unfold ins;have e:=GH k l;rw[← e]at nd;obtain⟨a,b,c⟩:=EU.mp nd;refine EU.mpr ⟨a,EL.mpr ⟨λz=>h (List.mem_of_mem_drop z),b⟩,λy B z i=>?_⟩;rcases EE.mp i with q | q
 ·intro w;exact h (by rw[← q,← w];exact List.mem_of_mem_take B)
 ·exact c y B z q
theorem bz.put{m:Nat}{es:En}{ts:List (List Nat)}{one two k j:Nat}{l l':List Nat}(w:bz m es ts)(J:one<m)(h2:two<m)(f:one≠two)(e1:ts[one]?=some l)(Q:ts[two]?=some l') :
  bz m (es++[(one,two)]) ((ts.set one (ins l k es.length)).set two (ins l' j es.length)):=by
 have d:∀{p l},ts[p]?=some l->es.length∉l:=λ{p l} e z=>by
  obtain⟨x,O,_⟩:=(w.mem p l e es.length).mp z;have:=(EB.mp O).1;omega
 have get:∀ p q,((ts.set one (ins l k es.length)).set two (ins l' j es.length))[p]?=some q->(p=two/\q=ins l' j es.length)∨(p=one/\p≠two/\q=ins l k es.length)∨(p≠one/\p≠two/\ts[p]?=some q):=λp q e=>by
  have L:two<(ts.set one (ins l k es.length)).length:=by rw[Fc,w.len];exact h2
  have H:one<ts.length:=by rw[w.len];exact J
  rw[Fl]at e;by_cases z:two=p
  ·rw[if_pos z,if_pos L]at e;exact .inl ⟨z.symm,(E8 e).symm⟩
  ·rw[if_neg z,Fl]at e;by_cases y:one=p
   ·rw[if_pos y,if_pos H]at e;exact .inr (.inl ⟨y.symm,Ne.symm z,(E8 e).symm⟩)
   ·rw[if_neg y]at e;exact .inr (.inr ⟨Ne.symm y,Ne.symm z,e⟩)
 have a:∀ t x,(es++[(one,two)])[t]?=some x↔(es[t]?=some x)∨(t=es.length/\x=(one,two)):=λt x=>by
  by_cases z:t<es.length
  ·rw[EH z];constructor
   ·exact .inl
   ·rintro(y | y)
    ·exact y
    ·omega
  ·rw[EF (by omega)]
   constructor
   ·intro y;have D:=(EB.mp y).1;rw[ES]at D;have Y:t=es.length:=by omega
    subst Y;rw[EW]at y
    cases y
    exact .inr ⟨rfl,rfl⟩
   ·rintro(y | ⟨y,rfl⟩)
    ·have:=(EB.mp y).1;omega
    ·rw[y,EW];rfl
 refine⟨by rw[Fc,Fc];exact w.len,λe o=>?_,λp q e=>?_,λp q e t=>?_⟩
 ·rcases ER.mp o with z | z
  ·exact w.ends e z
  ·have:e=(one,two):=by simpa using z
   subst this;exact⟨J,h2,f⟩
 ·rcases get p q e with⟨_,rfl⟩ | ⟨_,_,rfl⟩ | ⟨_,_,y⟩
  ·exact yY (w.nd two l' Q) (d Q)
  ·exact yY (w.nd one l e1) (d e1)
  ·exact w.nd p q y
 ·rcases get p q e with⟨rfl,rfl⟩ | ⟨rfl,b,rfl⟩ | ⟨r,v,y⟩
  ·rw[tq,w.mem p l' Q t];constructor
   ·rintro(z | ⟨x,O,M⟩)
    ·exact⟨(one,p),(a _ _).mpr (.inr ⟨z,rfl⟩),.inr rfl⟩
    ·exact⟨x,(a _ _).mpr (.inl O),M⟩
   ·rintro⟨x,O,M⟩;rcases(a _ _).mp O with z | ⟨z,_⟩
    ·exact .inr ⟨x,z,M⟩
    ·exact .inl z
  ·rw[tq,w.mem p l e1 t];constructor
   ·rintro(z | ⟨x,O,M⟩)
    ·exact⟨(p,two),(a _ _).mpr (.inr ⟨z,rfl⟩),.inl rfl⟩
    ·exact⟨x,(a _ _).mpr (.inl O),M⟩
   ·rintro⟨x,O,M⟩;rcases(a _ _).mp O with z | ⟨z,_⟩
    ·exact .inr ⟨x,z,M⟩
    ·exact .inl z
  ·rw[w.mem p q y t];constructor
   ·rintro⟨x,O,M⟩;exact⟨x,(a _ _).mpr (.inl O),M⟩
   ·rintro⟨x,O,M⟩;rcases(a _ _).mp O with z | ⟨z,rfl⟩
    ·exact⟨x,z,M⟩
    ·rcases M with M | M
     ·exact absurd M.symm r
     ·exact absurd M.symm v
noncomputable def hd(es:En)(d:Nat):Nat:=match es[d/2]? with | some e=>if d%2=0 then e.2 else e.1 | none=>0
noncomputable def tl(es:En)(d:Nat):Nat:=match es[d/2]? with | some e=>if d%2=0 then e.1 else e.2 | none=>0
noncomputable def leave(es:En)(t p:Nat):Nat:=match es[t]? with | some e=>if e.1=p then 2*t else 2*t+1 | none=>0
noncomputable def nxt(l:List Nat)(t:Nat):Nat:=(l[(l.idxOf t+1)%l.length]?).getD 0
noncomputable def fol(es:En)(ts:List (List Nat))(d:Nat):Nat:=leave es (nxt ((ts[hd es d]?).getD []) (d/2)) (hd es d)
section
variable{m:Nat}{es:En}{ts:List (List Nat)}
theorem lP{l:List Nat}{t:Nat}(h:t∈l):l[l.idxOf t]?=some t:=by
 have D:=GU.mpr h;rw[EA D,List.getElem_idxOf]
theorem gz{l:List Nat}{t:Nat}(h:t∈l):l[(l.idxOf t+1)%l.length]?=some (nxt l t):=by
 have D:0<l.length:=FY h;have:=Jh (l.idxOf t+1) D;unfold nxt;rw[EA this];rfl
theorem bz.at(w:bz m es ts){d:Nat}(h:d<2*es.length):∃ e l,es[d/2]?=some e/\hd es d=(if d%2=0 then e.2 else e.1)/\tl es d=(if d%2=0 then e.1 else e.2)/\hd es d<m/\ts[hd es d]?=some l/\d/2∈l:=by
 have D:d/2<es.length:=by omega
 have T:es[d/2]?=some es[d/2]:=EA D;have q:=w.ends _ (EC T);generalize es[d/2]=e at T q;have J:hd es d=(if d%2=0 then e.2 else e.1):=by unfold hd;rw[T]
 have C:tl es d=(if d%2=0 then e.1 else e.2):=by unfold tl;rw[T]
 have G:hd es d<m:=by rw[J];split<;>omega
 have k:ts[hd es d]?=some (ts[hd es d]'(by rw[w.len];exact G)):=EA _
 refine⟨e,_,T,J,C,G,k,(w.mem _ _ k _).mpr ⟨e,T,?_⟩⟩;rw[J];split
 ·exact .inr rfl
 ·exact .inl rfl
theorem bz.foll(w:bz m es ts){d:Nat}(h:d<2*es.length):∃ l e,ts[hd es d]?=some l/\d/2∈l/\es[nxt l (d/2)]?=some e/\(e.1=hd es d∨e.2=hd es d)/\e.1≠e.2/\fol es ts d=(if e.1=hd es d then 2*nxt l (d/2) else 2*nxt l (d/2)+1)/\fol es ts d<2*es.length/\fol es ts d/2=nxt l (d/2)/\tl es (fol es ts d)=hd es d:=by
 obtain⟨t,l,J,C,G,k,v,g⟩:=w.at h;have f:=gz g;obtain⟨e,j,M⟩:=(w.mem _ _ v _).mp (EC f);have E:=(EB.mp j).1;have N:=(w.ends e (EC j)).2.2;have p:fol es ts d=(if e.1=hd es d then 2*nxt l (d/2) else 2*nxt l (d/2)+1):=by
  unfold fol;rw[v];show leave es (nxt l (d/2)) (hd es d)=_;unfold leave;rw[j]
 refine⟨l,e,v,g,j,M,N,p,?_,?_,?_⟩
 ·rw[p];split<;>omega
 ·rw[p];split<;>omega
 ·rw[p];by_cases z:e.1=hd es d
  ·have B:2*nxt l (d/2)/2=nxt l (d/2):=by omega
   have s:2*nxt l (d/2)%2=0:=by omega
   rw[if_pos z];unfold tl;rw[B,j];show(if 2*nxt l (d/2)%2=0 then e.1 else e.2)=_;rw[if_pos s,z]
  ·have B:(2*nxt l (d/2)+1)/2=nxt l (d/2):=by omega
   have s:¬ (2*nxt l (d/2)+1)%2=0:=by omega
   rw[if_neg z];unfold tl;rw[B,j];show(if(2*nxt l (d/2)+1)%2=0 then e.1 else e.2)=_;rw[if_neg s];exact M.elim (λy=>absurd y z) id
theorem bz.inj(w:bz m es ts){a b:Nat}(E:a<2*es.length)(G:b<2*es.length)(h:fol es ts a=fol es ts b):a=b:=by
 obtain⟨l,e,I,r,_,_,_,_,_,g,B⟩:=w.foll E;obtain⟨d,u,n,M,_,_,_,_,_,t,s⟩:=w.foll G;have q:hd es a=hd es b:=by rw[← B,← s,h]
 rw[q,n]at I
 cases I
 have O:nxt l (a/2)=nxt l (b/2):=by rw[← g,← t,h]
 have H:=gz r;have L:=gz M;rw[O]at H;have A:=u6 (w.nd _ _ n) H L;have k:=GU.mpr r;have p:=GU.mpr M;have D:l.idxOf (a/2)=l.idxOf (b/2):=by
  generalize l.idxOf (a/2)=x at *;generalize l.idxOf (b/2)=y at *;by_cases f:x+1=l.length
  ·by_cases v:y+1=l.length
   ·omega
   ·rw[f,Hr,F4 (by omega)]at A;omega
  ·by_cases v:y+1=l.length
   ·rw[v,Hr,F4 (by omega)]at A;omega
   ·rw[F4 (by omega),F4 (by omega)]at A;omega
 have Y:a/2=b/2:=by
  have o:=lP r;have i:=lP M;rw[D,i]at o;exact(E8 o).symm
 obtain⟨T,_,C,c,_,_,_,_⟩:=w.at E;obtain⟨Q,_,J,j,_,_,_,_⟩:=w.at G;rw[Y,J]at C;have z:Q=T:=E8 C;rw[z]at J j;have N:=(w.ends T (EC J)).2.2;rw[c,j]at q;have:a%2=b%2:=by
  by_cases f:a%2=0<;>by_cases v:b%2=0
  ·omega
  ·rw[if_pos f,if_neg v]at q;exact absurd q.symm N
  ·rw[if_neg f,if_pos v]at q;exact absurd q N
  ·omega
 omega
end
structure An(f:Nat->Nat)(N:Nat):Prop where
 lt:∀ d,d<N->f d<N
 inj:∀ a b,a<N->b<N->f a=f b->a=b
structure Path(f:Nat->Nat)(N first:Nat)(r:List Nat):Prop where
 hd:r[0]?=some first
 lt:∀ d∈r,d<N
 nd:r.Nodup
 nx:∀ i x y,r[i]?=some x->r[i+1]?=some y->y=f x
theorem AN{f:Nat->Nat}{N d:Nat}(h:d<N):Path f N d [d] where
 hd:=rfl
 lt:=λx O=>by have:x=d:=by simpa using O
              rw[this];exact h
 nd:=by simp
 nx:=λi x y J C=>by
  have:=(EB.mp C).1;rw[ES]at this;omega
theorem Path.snoc{f:Nat->Nat}{N d x:Nat}{r:List Nat}(p:An f N)(h:Path f N d (r++[x]))(t:f x≠d):Path f N d (r++[x]++[f x]) where
 hd:=by rw[EH (by rw[EG,ES];omega)];exact h.hd
 lt:=λy B=>by
  rcases ER.mp B with z | z
  ·exact h.lt y z
  ·have:y=f x:=by simpa using z
   rw[this];exact p.lt x (h.lt x (by simp))
 nd:=by
  refine EU.mpr ⟨h.nd,by simp,λa E b G e=>?_⟩
  have Y:b=f x:=by simpa using G
  subst Y;obtain⟨i,I⟩:=FD.mp E;rw[e]at I;have c:=(EB.mp I).1;rw[EG,ES]at c
  cases i with
  |zero =>
   rw[h.hd]at I;exact t (E8 I).symm
  |succ i =>
   have j:(r++[x])[i]?=some ((r++[x])[i]'(by rw[EG,ES];omega)):=EA _
   have:=h.nx i _ _ j I;have l:=h.lt _ (EC j);have m:=h.lt x (by simp)
   have Q:=p.inj _ _ m l this;rw[← Q]at j;have n:(r++[x])[r.length]?=some x:=by rw[EF (EI _),EW];rfl
   have:=u6 h.nd j n;omega
 nx:=λi a b J C=>by
  have k:=(EB.mp C).1;rw[EG,EG,ES,ES]at k;rw[EH (by rw[EG,ES];omega)]at J
  by_cases z:i+1<(r++[x]).length
  ·rw[EH z]at C;exact h.nx i a b J C
  ·rw[EG,ES]at z;have g:i=r.length:=by omega
   subst g;rw[EF (by rw[EG,ES];omega)]at C
   have:r.length+1-(r++[x]).length=0:=by rw[EG,ES];omega
   rw[this]at C;rw[EF (EI _),EW]at J;have T:x=a:=E8 J;have Q:f x=b:=E8 C;rw[← Q,T]
structure Ring(f:Nat->Nat)(N:Nat)(r:List Nat):Prop where
 lt:∀ d∈r,d<N
 nd:r.Nodup
 ne:0<r.length
 nx:∀ i x,r[i]?=some x->r[(i+1)%r.length]?=some (f x)
theorem Path.ring{f:Nat->Nat}{N d x:Nat}{r:List Nat}(p:An f N)(h:Path f N d (r++[x]))(j:f x=d):Ring f N (r++[x]) where
 lt:=h.lt
 nd:=h.nd
 ne:=by rw[EG,ES];omega
 nx:=λi y B=>by
  have D:=(EB.mp B).1;by_cases z:i+1=(r++[x]).length
  ·rw[z,Hr];have:i=r.length:=by rw[EG,ES]at z;omega
   subst this;rw[EF (EI _),EW]at B;have:x=y:=E8 B;subst this;rw[j];exact h.hd
  ·have t:i+1<(r++[x]).length:=by omega
   rw[F4 t];have g:=EA t;rw[g,h.nx i _ _ B g]
theorem Ring.back{f:Nat->Nat}{N a:Nat}{r:List Nat}(p:An f N)(h:Ring f N r)(E:a<N)(n:f a∈r):a∈r:=by
 obtain⟨i,I⟩:=FD.mp n;have D:=(EB.mp I).1;have o:∃ j,j<r.length/\(j+1)%r.length=i:=by
  cases i with
  |zero=>exact⟨r.length-1,by have:=h.ne;omega,by have:=h.ne;rw[show r.length-1+1=r.length by omega,Hr]⟩
  |succ i=>exact⟨i,by omega,F4 D⟩
 obtain⟨j,d,y⟩:=o;have g:=EA d;have q:=h.nx j _ g;rw[y,I]at q;have b:=h.lt _ (EC g);have:=p.inj _ _ E b (E8 q);rw[this];exact EC g
structure b9(f:Nat->Nat)(N i:Nat)(rs:List (List Nat)):Prop where
 ring:∀ r∈rs,Ring f N r
 hdl:∀ r∈rs,∀ h,r[0]?=some h->h<i/\∀ d∈r,h<=d
 asc:∀(a b:Nat)(r r':List Nat)(h h':Nat),a<b->rs[a]?=some r->rs[b]?=some r'->r[0]?=some h->r'[0]?=some h'->h<h'
 nd:rs.flatten.Nodup
 all:∀ d,d<i->d∈rs.flatten
theorem vB(f:Nat->Nat)(N:Nat):b9 f N 0 [] where
 ring:=λr h=>by cases h
 hdl:=λr h=>by cases h
 asc:=λa b r O h G _ e=>by cases e
 nd:=by simp
 all:=λd h=>by omega
theorem b9.skip{f:Nat->Nat}{N i:Nat}{rs:List (List Nat)}(w:b9 f N i rs)(h:i∈rs.flatten):b9 f N (i+1) rs where
 ring:=w.ring
 hdl:=λr L x O=>⟨by have:=(w.hdl r L x O).1;omega,(w.hdl r L x O).2⟩
 asc:=w.asc
 nd:=w.nd
 all:=λd hd=>by
  by_cases z:d=i
  ·rw[z];exact h
  ·exact w.all d (by omega)
theorem b9.put{f:Nat->Nat}{N i:Nat}{rs:List (List Nat)}{r:List Nat}(p:An f N)(w:b9 f N i rs)(h:i∉rs.flatten)(I:i<N)(L:Ring f N r)(l:Path f N i r):b9 f N (i+1) (rs++[r]):=by
 have m:∀(k x:Nat),r[k]?=some x->x∉rs.flatten:=λk=>by
  induction k with
  |zero =>
   intro x O;rw[l.hd]at O
   cases O
   exact h
  |succ k Y =>
   intro x O z;have D:=(EB.mp O).1;have g:=EA (show k<r.length by omega)
   have e:=l.nx k _ _ g O;obtain⟨q,T,o⟩:=Fp.mp z;rw[e]at o;exact Y _ g (Fp.mpr ⟨q,T,(w.ring q T).back p (L.lt _ (EC g)) o⟩)
 have least:∀ d∈r,i<=d:=λd hd=>by
  obtain⟨k,A⟩:=FD.mp hd;by_cases z:i<=d
  ·exact z
  ·exact absurd (w.all d (by omega)) (m k d A)
 refine⟨λq T=>?_,λq T x O=>?_,λa b q J x t c E G O n=>?_,?_,λd hd=>?_⟩
 ·rcases ER.mp T with z | z
  ·exact w.ring q z
  ·have:q=r:=by simpa using z
   rw[this];exact L
 ·rcases ER.mp T with z | z
  ·have:=w.hdl q z x O
   exact⟨by omega,this.2⟩
  ·have e:q=r:=by simpa using z
   subst e;rw[l.hd]at O
   cases O
   exact⟨by omega,least⟩
 ·have bl:=(EB.mp G).1
  rw[EG,ES]at bl;rw[EH (by omega)]at E
  by_cases z:b<rs.length
  ·rw[EH z]at G;exact w.asc a b q J x t c E G O n
  ·have j:b=rs.length:=by omega
   subst j;rw[EF (EI _),EW]at G;have e:r=J:=E8 G;subst e;rw[l.hd]at n
   cases n
   exact(w.hdl q (EC E) x O).1
 ·rw[F5];have e : [r].flatten=r:=by simp
  rw[e];refine EU.mpr ⟨w.nd,L.nd,λa E b G e=>?_⟩;obtain⟨k,A⟩:=FD.mp G;exact m k b A (e▸E)
 ·rw[F5,ER];by_cases z:d=i
  ·right;rw[z];simp;exact EC l.hd
  ·exact .inl (w.all d (by omega))
theorem lR{rs:List (List Nat)}(nd:rs.flatten.Nodup){a b:Nat}{r r':List Nat}{d:Nat}(E:rs[a]?=some r)(G:rs[b]?=some r')(J:d∈r)(h2:d∈r'):a=b:=by
 induction rs generalizing a b with
 |nil=>cases E
 |cons q rs Y =>
  rw[Fb]at nd;obtain⟨_,v,u⟩:=EU.mp nd
  cases a with
  |zero =>
   cases b with
   |zero=>rfl
   |succ b =>
    have e:q=r:=E8 E;subst e;exact absurd rfl (u d J d (Fp.mpr ⟨r',EC G,h2⟩))
  |succ a =>
   cases b with
   |zero =>
    have e:q=r':=E8 G;subst e;exact absurd rfl (u d h2 d (Fp.mpr ⟨r,EC E,J⟩))
   |succ b=>exact congrArg Nat.succ (Y v E G)
noncomputable def chain(f:Nat->Nat):Nat->List Nat->Nat->Prop
 |x,[],z=>f x=z
 |x,y::l,z=>f x=y/\chain f y l z
theorem cy{f:Nat->Nat}:∀{x:Nat}{l:List Nat}{y:Nat}{k:List Nat}{z:Nat},chain f x (l++y::k) z↔chain f x l y/\chain f y k z
 |x,[],y,k,z=>Iff.rfl
 |x,a::l,y,k,z=>by
  show(f x=a/\chain f a (l++y::k) z)↔(f x=a/\chain f a l y)/\chain f y k z;rw[cy,and_assoc]
theorem eE{f g:Nat->Nat}:∀{x y:Nat}{l:List Nat}{z:Nat},chain f x l z->g y=f x->(∀ t∈l,g t=f t)->chain g y l z
 |x,y,[],z,h,e,_=>e.trans h
 |x,y,a::l,z,h,e,k=>⟨e.trans h.1,eE h.2 (k a (EM ..)) λt Y=>k t (EK _ Y)⟩
theorem ji{f g F:Nat->Nat}:∀{x:Nat}{l:List Nat}{z:Nat},chain f x l z->(∀ t∈x::l,g (F t)=F (f t))->chain g (F x) (l.map F) (F z)
 |x,[],z,h,k=>by
  show g (F x)=F z;rw[k x (EM ..),show f x=z from h]
 |x,a::l,z,h,k=>⟨by rw[k x (EM ..),h.1],ji h.2 λt Y=>k t (EK _ Y)⟩
theorem ml{f:Nat->Nat}{S:Nat->Prop}:∀{x:Nat}{l:List Nat}{z:Nat},chain f x l z->(∀ t∈x::l,S t->S (f t))->S x->S z/\∀ t∈l,S t
 |x,[],z,h,k,s=>⟨by have:=k x (EM ..) s;rwa[show f x=z from h]at this,λt Y=>nomatch Y⟩
 |x,a::l,z,h,k,s=>by
  have m:S a:=by have:=k x (EM ..) s;rwa[h.1]at this
  obtain⟨J,C⟩:=ml h.2 (λt Y=>k t (EK _ Y)) m;refine⟨J,λt Y=>?_⟩;rcases EE.mp Y with y | y
  ·rw[y];exact m
  ·exact C t y
structure CR(f:Nat->Nat)(N:Nat)(r:List Nat):Prop where
 ch:∃ x l,r=x::l/\chain f x l x
 lt:∀ d∈r,d<N
 nd:r.Nodup
theorem CR.closed{f:Nat->Nat}{N:Nat}{r:List Nat}(h:CR f N r):∀ d∈r,f d∈r:=by
 obtain⟨x,l,rfl,c⟩:=h.ch;intro d hd;rcases EE.mp hd with y | y
 ·subst y
  cases l with
  |nil=>rw[show f d=d from c];exact EM ..
  |cons a l=>rw[c.1];simp
 ·obtain⟨A,B,rfl⟩:=HH y;have c2:=(cy.mp c).2
  cases B with
  |nil=>rw[show f d=x from c2];exact EM ..
  |cons a B=>rw[c2.1];simp
theorem CR.sub{f:Nat->Nat}{N:Nat}{r:List Nat}{S:Nat->Prop}(h:CR f N r)(k:∀ t∈r,S t->S (f t)){d:Nat}(hd:d∈r)(s:S d):∀ t∈r,S t:=by
 obtain⟨x,l,rfl,c⟩:=h.ch;have a:S x->∀ t∈x::l,S t:=λb t Y=>by
  rcases EE.mp Y with y | y
  ·rw[y];exact b
  ·exact(ml c k b).2 t y
 rcases EE.mp hd with y | y
 ·exact a (y▸s)
 ·obtain⟨A,B,rfl⟩:=HH y;have c2:=(cy.mp c).2;exact a (ml c2 (λt Y=>k t (by simp only[EE,ER]at Y ⊢;rcases Y with z | z<;>simp[z])) s).1
theorem CR.same{f:Nat->Nat}{N:Nat}{r r':List Nat}(h:CR f N r)(h':CR f N r'){d:Nat}(J:d∈r)(h2:d∈r'):∀ t∈r,t∈r':=h.sub (S:=λt=>t∈r') (λt _=>h'.closed t) J h2
theorem CR.ne{f:Nat->Nat}{N:Nat}{r:List Nat}(h:CR f N r):∃ d,d∈r:=by
 obtain⟨x,l,rfl,_⟩:=h.ch;exact⟨x,EM ..⟩
structure Part(f:Nat->Nat)(N:Nat)(rs:List (List Nat)):Prop where
 cr:∀ r∈rs,CR f N r
 nd:rs.flatten.Nodup
 all:∀ d,d<N->d∈rs.flatten
theorem Part.pick{f:Nat->Nat}{N:Nat}{rs:List (List Nat)}(p:Part f N rs){r:List Nat}(h:CR f N r):∃ rest,Part f N (r::rest)/\rest.length+1=rs.length:=by
 obtain⟨d,hd⟩:=h.ne;obtain⟨g,J,w⟩:=Fp.mp (p.all d (h.lt d hd));have c0:=p.cr g J;have m:=h.same c0 hd w;have j:=c0.same h w hd;obtain⟨A,B,rfl⟩:=HH J;have o:=p.nd;rw[F5,Fb]at o;obtain⟨C,v,u⟩:=EU.mp o;obtain⟨x,I,L⟩:=EU.mp v;refine⟨A++B,⟨λq T=>?_,?_,λy H=>?_⟩,by simp;omega⟩
 ·rcases EE.mp T with z | z
  ·rw[z];exact h
  ·refine p.cr q ?_;rcases ER.mp z with z | z
   ·simp[z]
   ·simp[z]
 ·rw[Fb,F5];refine EU.mpr ⟨h.nd,EU.mpr ⟨C,I,λa E b G=>u a E b (by simp[G])⟩,λa E b G=>?_⟩
  rcases ER.mp G with z | z
  ·exact λe=>u b z a (Fw _ (m a E)) e.symm
  ·exact L a (m a E) b z
 ·have:=p.all y H
  rw[F5,Fb]at this;rw[Fb,F5];simp only[ER]at this ⊢;rcases this with z | z | z
  ·exact .inr (.inl z)
  ·exact .inl (j y z)
  ·exact .inr (.inr z)
theorem Part.same:∀{rs qs:List (List Nat)}{f:Nat->Nat}{N:Nat},Part f N rs->Part f N qs->rs.length=qs.length:=by
 have s:∀(k:Nat){rs qs:List (List Nat)}{f:Nat->Nat}{N:Nat},Part f N rs->Part f N qs->rs.length<=qs.length:=by
  intro _ rs qs f N p q;have g:∀ r∈rs,∃ i,i<qs.length/\∃ O,qs[i]?=some O/\∀ t∈O,t∈r:=λr L=>by
   have c:=p.cr r L;obtain⟨d,hd⟩:=c.ne;obtain⟨O,e,w⟩:=Fp.mp (q.all d (c.lt d hd));obtain⟨i,I⟩:=FD.mp e;exact⟨i,(EB.mp I).1,O,I,(q.cr O e).same c w hd⟩
  have:∀(l:List (List Nat)),(∀ r∈l,r∈rs)->l.flatten.Nodup->∃ is:List Nat,is.length=l.length/\is.Nodup/\∀ i∈is,i<qs.length/\∃ r∈l,∃ O,qs[i]?=some O/\∀ t∈O,t∈r:=λl=>by
   induction l with
   |nil=>intro _ _;exact⟨[],rfl,GN,λi I=>nomatch I⟩
   |cons r l Y =>
    intro h o;rw[Fb]at o;obtain⟨m,a,u⟩:=EU.mp o;obtain⟨is,T,Q,A⟩:=Y (λr L=>h r (EK _ L)) a;obtain⟨i,J,O,C,G⟩:=g r (h r (EM ..));refine⟨i::is,by simp[T],EL.mpr ⟨λz=>?_,Q⟩,λj E=>?_⟩
    ·obtain⟨_,v,w,b,n,y⟩:=A i z;rw[C]at n
     cases n
     obtain⟨d,hd⟩:=(q.cr O (EC C)).ne;exact u d (G d hd) d (Fp.mpr ⟨v,w,y d hd⟩) rfl
    ·rcases EE.mp E with z | z
     ·subst z;exact⟨J,r,EM ..,O,C,G⟩
     ·obtain⟨x,v,H,B⟩:=A j z;exact⟨x,v,EK _ H,B⟩
  obtain⟨is,T,Q,A⟩:=this rs (λ_ h=>h) p.nd;rw[← T];exact dv Q λi I=>(A i I).1
 intro rs qs f N p q;exact Nat.le_antisymm (s 0 p q) (s 0 q p)
theorem Ring.cr{f:Nat->Nat}{N:Nat}{r:List Nat}(h:Ring f N r):CR f N r:=by
 refine⟨?_,h.lt,h.nd⟩;have ne:=h.ne;match r,h,ne with
 |x::l,h,_ =>
  refine⟨x,l,rfl,?_⟩;have o:∀(k i:Nat)(y:Nat),i+k+1=(x::l).length->(x::l)[i]?=some y->chain f y ((x::l).drop (i+1)) x:=λk=>by
   induction k with
   |zero =>
    intro i y I B;have e:=h.nx i y B;rw[show(i+1)%(x::l).length=0 by rw[← I];simp]at e
    rw[List.drop_of_length_le (by omega)]
    exact(E8 e).symm
   |succ k Y =>
    intro i y I B;have e:=h.nx i y B;rw[F4 (by omega)]at e
    obtain⟨D,Q⟩:=EB.mp e;rw[List.drop_eq_getElem_cons D,Q];exact⟨rfl,Y (i+1) (f y) (by omega) e⟩
  exact o l.length 0 x (by simp) rfl
theorem b9.part{f:Nat->Nat}{N:Nat}{rs:List (List Nat)}(w:b9 f N N rs):Part f N rs:=⟨λr L=>(w.ring r L).cr,w.nd,w.all⟩
theorem qA{A B:List Nat}{t:Nat}(h:t∉A):(A++t::B).idxOf t=A.length:=by
 rw[List.idxOf_append,if_neg h,Ih,Nat.zero_add]
theorem bj{A B:List Nat}{t:Nat}(h:t∉A):nxt (A++t::B) t=((B++(A++t::B)).head?).getD 0:=by
 unfold nxt;rw[qA h]
 cases B with
 |nil =>
  have e:(A.length+1)%(A++[t]).length=0:=by rw[EG,ES,Hr]
  rw[e,List.nil_append,List.head?_eq_getElem?]
 |cons b B =>
  have e:(A.length+1)%(A++t::b::B).length=A.length+1:=F4 (by simp)
  rw[e,EF (by omega)]
  rw[show A.length+1-A.length=1 by omega]
  rfl
theorem lM{A B:List Nat}{u n:Nat}(h:u∉A):ins (A++u::B) ((A++u::B).idxOf u+1) n=A++u::n::B:=by
 rw[qA h];unfold ins;have T:(A++u::B).take (A.length+1)=A++[u]:=by
  rw[List.take_append,FX (by omega),show A.length+1-A.length=1 by omega]
  rfl
 have Q:(A++u::B).drop (A.length+1)=B:=by simp
 rw[T,Q];simp
theorem fu{l:List Nat}{u:Nat}(h:u∈l):∃ A B,l=A++u::B/\u∉A:=by
 induction l with
 |nil=>exact nomatch h
 |cons a l Y =>
  by_cases z:a=u
  ·subst z;exact⟨[],l,rfl,E5⟩
  ·rcases EE.mp h with y | y
   ·exact absurd y.symm z
   ·obtain⟨A,B,rfl,k⟩:=Y y;exact⟨a::A,B,rfl,λw=>by rcases EE.mp w with w | w;exact z w.symm;exact k w⟩
theorem DG{l:List Nat}{u n:Nat}(L:u∈l)(f:n∉l) :
  nxt (ins l (l.idxOf u+1) n) u=n/\nxt (ins l (l.idxOf u+1) n) n=nxt l u/\∀ t∈l,t≠u->nxt (ins l (l.idxOf u+1) n) t=nxt l t:=by
 obtain⟨A,B,rfl,k⟩:=fu L;rw[lM k];have h:n∉A:=λz=>f (by simp[z])
 have m:n≠u:=λz=>f (by simp[z])
 refine⟨?_,?_,λt Y g=>?_⟩
 ·rw[bj k];rfl
 ·have e:A++u::n::B=(A++[u])++n::B:=by simp
  rw[e,bj (λz=>by rcases ER.mp z with z | z;exact h z;exact m (by simpa using z)),bj k]
  cases B<;>cases A<;>rfl
 ·rcases ER.mp Y with z | z
  ·obtain⟨c,b,rfl,H⟩:=fu z;have T:(c++t::b)++u::n::B=c++t::(b++u::n::B):=by simp
   have Q:(c++t::b)++u::B=c++t::(b++u::B):=by simp
   rw[T,Q,bj H,bj H]
   cases b<;>rfl
  ·have d:t∈B:=by
    rcases EE.mp z with z | z
    ·exact absurd z g
    ·exact z
   by_cases o:t∈A
   ·obtain⟨c,b,rfl,H⟩:=fu o;have T:(c++t::b)++u::n::B=c++t::(b++u::n::B):=by simp
    have Q:(c++t::b)++u::B=c++t::(b++u::B):=by simp
    rw[T,Q,bj H,bj H]
    cases b<;>rfl
   ·obtain⟨j,i,rfl,H⟩:=fu d;have a:t≠n:=λy=>f (by rw[← y];simp)
    have T:A++u::n::(j++t::i)=(A++u::n::j)++t::i:=by simp
    have Q:A++u::(j++t::i)=(A++u::j)++t::i:=by simp
    rw[T,Q,bj (by simp[o,g,a,H]),bj (by simp[o,g,H])]
    cases i<;>cases A<;>rfl
theorem lG{es:En}{e:Nat×Nat}{t p:Nat}(h:t<es.length):leave (es++[e]) t p=leave es t p:=by
 unfold leave;rw[EH h]
theorem lH{es:En}{e:Nat×Nat}{p:Nat}:leave (es++[e]) es.length p=if e.1=p then 2*es.length else 2*es.length+1:=by
 unfold leave;rw[EF (EI _),EW];rfl
theorem m9{es:En}{e:Nat×Nat}{d:Nat}(h:d<2*es.length):hd (es++[e]) d=hd es d:=by
 unfold hd;rw[EH (by omega)]
theorem hd_new{es:En}{e:Nat×Nat}:hd (es++[e]) (2*es.length)=e.2/\hd (es++[e]) (2*es.length+1)=e.1:=by
 have T:2*es.length/2=es.length:=by omega
 have Q:(2*es.length+1)/2=es.length:=by omega
 constructor
 ·unfold hd;rw[T,EF (EI _),EW];show(if 2*es.length%2=0 then e.2 else e.1)=_;rw[if_pos (by omega)]
 ·unfold hd;rw[Q,EF (EI _),EW];show(if(2*es.length+1)%2=0 then e.2 else e.1)=_;rw[if_neg (by omega)]
theorem hd_inj{m:Nat}{es:En}{ts:List (List Nat)}(w:bz m es ts){a b:Nat}(E:a<2*es.length)(G:b<2*es.length)(h:hd es a=hd es b)(h2:a/2=b/2):a=b:=by
 obtain⟨T,_,C,c,_⟩:=w.at E;obtain⟨Q,_,J,j,_⟩:=w.at G;rw[h2,J]at C
 cases C
 have N:=(w.ends T (EC J)).2.2;rw[c,j]at h;by_cases f:a%2=0<;>by_cases v:b%2=0
 ·omega
 ·rw[if_pos f,if_neg v]at h;exact absurd h.symm N
 ·rw[if_neg f,if_pos v]at h;exact absurd h N
 ·omega
noncomputable def bD(n:Nat)(e:Nat×Nat)(p:Nat):Nat:=if e.1=p then 2*n else 2*n+1
theorem cV{es:En}{ts:List (List Nat)}{d:Nat}{l:List Nat}(h:ts[hd es d]?=some l):fol es ts d=leave es (nxt l (d/2)) (hd es d):=by
 unfold fol;rw[h];rfl
theorem bz.flip{m:Nat}{es:En}{ts:List (List Nat)}{a b:Nat}(w:bz m (es++[(a,b)]) ts):bz m (es++[(b,a)]) ts:=by
 have o:∀(x y:Nat)(t p:Nat),(∃ e,(es++[(x,y)])[t]?=some e/\(e.1=p∨e.2=p))->∃ e,(es++[(y,x)])[t]?=some e/\(e.1=p∨e.2=p):=λx y t p=>by
  rintro⟨e,J,C⟩;by_cases z:t<es.length
  ·rw[EH z]at J;exact⟨e,by rw[EH z];exact J,C⟩
  ·have D:=(EB.mp J).1
   rw[EG,ES]at D;have d:t=es.length:=by omega
   subst d;rw[EF (EI _),EW]at J
   cases J
   exact⟨(y,x),by rw[EF (EI _),EW];rfl,C.symm⟩
 refine⟨w.len,λe j=>?_,w.nd,λp l h t=>⟨λz=>o a b t p ((w.mem p l h t).mp z),λz=>(w.mem p l h t).mpr (o b a t p z)⟩⟩;rcases ER.mp j with z | z
 ·exact w.ends e (Fw _ z)
 ·have:e=(b,a):=by simpa using z
  subst this;obtain⟨J,C,G⟩:=w.ends (a,b) (by simp)
  exact⟨C,J,λy=>G y.symm⟩
theorem bz.room{m:Nat}{es:En}{ts:List (List Nat)}(w:bz m es ts):bz (m+1) es (ts++[[]]):=by
 refine⟨by rw[EG,w.len];rfl,λe j=>?_,λp l h=>?_,λp l h t=>?_⟩
 ·obtain⟨J,C,G⟩:=w.ends e j;exact⟨by omega,by omega,G⟩
 all_goals by_cases z:p<ts.length
 ·rw[EH z]at h;exact w.nd p l h
 ·have D:=(EB.mp h).1
  rw[EG,ES]at D;have d:p=ts.length:=by omega
  subst d;rw[EF (EI _),EW]at h
  cases h
  exact GN
 ·rw[EH z]at h;exact w.mem p l h t
 ·have D:=(EB.mp h).1
  rw[EG,ES]at D;have d:p=ts.length:=by omega
  subst d;rw[EF (EI _),EW]at h
  cases h
  refine⟨(λy=>nomatch y),?_⟩;rintro⟨e,J,C⟩;obtain⟨f,H,_⟩:=w.ends e (EC J);have:=w.len;omega
theorem Eg{m:Nat}{es:En}{ts:List (List Nat)}(w:bz m es ts){p:Nat}{l:List Nat}(h:ts[p]?=some l):es.length∉l:=λz=>by
 obtain⟨x,O,_⟩:=(w.mem p l h es.length).mp z;have:=(EB.mp O).1;omega
theorem jK{m:Nat}{es:En}{ts ts':List (List Nat)}{e:Nat×Nat}{p u:Nat}{l:List Nat}(w:bz m es ts)(hl:ts[p]?=some l)(f:u<2*es.length)(M:hd es u=p)(g:ts'[p]?=some (ins l (l.idxOf (u/2)+1) es.length)) :
  fol (es++[e]) ts' u=bD es.length e p/\(∀ b,b/2=es.length->hd (es++[e]) b=p->fol (es++[e]) ts' b=fol es ts u)/\∀ d,d<2*es.length->d≠u->hd es d=p->fol (es++[e]) ts' d=fol es ts d:=by
 obtain⟨_,E,_,_,_,_,h,n⟩:=w.at f;rw[M,hl]at h
 cases h
 have nn:=Eg w hl;obtain⟨r,v,C⟩:=DG n nn;have lt:∀ t∈l,nxt l t<es.length:=λt Y=>by
  obtain⟨x,O,_⟩:=(w.mem p l hl (nxt l t)).mp (EC (gz Y));exact(EB.mp O).1
 refine⟨?_,λb G j=>?_,λd A N c=>?_⟩
 ·rw[cV (l:=ins l (l.idxOf (u/2)+1) es.length) (by rw[m9 f,M];exact g),r,m9 f,M,lH]
  rfl
 ·rw[cV (l:=ins l (l.idxOf (u/2)+1) es.length) (by rw[j];exact g),G,v,j,lG (lt _ n),cV (l:=l) (by rw[M];exact hl),M]
 ·obtain⟨_,E,_,_,_,_,a,i⟩:=w.at A;rw[c,hl]at a
  cases a
  have k:d/2≠u/2:=λz=>N (hd_inj w A f (c.trans M.symm) z);rw[cV (l:=ins l (l.idxOf (u/2)+1) es.length) (by rw[m9 A,c];exact g),C _ i k,m9 A,c,lG (lt _ i),cV (l:=l) (by rw[c];exact hl),c]
theorem kD{m:Nat}{es:En}{ts ts':List (List Nat)}{e:Nat×Nat}(w:bz m es ts){d:Nat}(A:d<2*es.length)(h:ts'[hd es d]?=ts[hd es d]?):fol (es++[e]) ts' d=fol es ts d:=by
 obtain⟨_,l,_,_,_,_,a,i⟩:=w.at A;have lt:nxt l (d/2)<es.length:=by
  obtain⟨x,O,_⟩:=(w.mem _ l a (nxt l (d/2))).mp (EC (gz i));exact(EB.mp O).1
 rw[cV (l:=l) (by rw[m9 A,h];exact a),m9 A,lG lt,cV a]
theorem aX(n:Nat)(e:Nat×Nat)(p:Nat):bD n e p/2=n:=by
 unfold bD;split<;>omega
theorem kE{es:En}{one two:Nat}{e:Nat×Nat}(N:one≠two)(j:e=(one,two)∨e=(two,one)):hd (es++[e]) (bD es.length e one)=two/\hd (es++[e]) (bD es.length e two)=one/\bD es.length e one≠bD es.length e two/\∀ d,d<2*(es.length+1)->d<2*es.length∨d=bD es.length e one∨d=bD es.length e two:=by
 obtain⟨J,C⟩:=hd_new (es:=es) (e:=e);unfold bD;rcases j with j | j
 ·have c1:e.1=one:=by rw[j]
  have c2:¬ e.1=two:=by rw[j];exact N
  have c3:e.2=two:=by rw[j]
  rw[if_pos c1,if_neg c2,J,C];exact⟨c3,c1,by omega,λd hd=>by omega⟩
 ·have c1:e.1=two:=by rw[j]
  have c2:¬ e.1=one:=by rw[j];exact λz=>N z.symm
  have c3:e.2=one:=by rw[j]
  rw[if_pos c1,if_neg c2,J,C];exact⟨c1,c3,by omega,λd hd=>by omega⟩
noncomputable def par(S:Nat->Bool):List Nat->Bool
 |[]=>false
 |d::l=>S (d/2) ^^ par S l
theorem aI(S:Nat->Bool)(d:Nat)(l:List Nat):par S (d::l)=(S (d/2) ^^ par S l):=rfl
theorem oo(S:Nat->Bool):∀ a b:List Nat,par S (a++b)=(par S a ^^ par S b)
 |[],b=>by show par S b=(false ^^ par S b);rw[GZ]
 |x::a,b=>by rw[GD,aI,aI,oo S a b,Jd]
theorem ky(S:Nat->Bool){a b:List Nat}(p:a.Perm b):par S a=par S b:=by
 induction p with
 |nil=>rfl
 |cons x _ Y=>rw[aI,aI,Y]
 |swap x y l=>rw[aI,aI,aI,aI,← Jd,← Jd,Iy (S (y/2))]
 |trans _ _ a b=>exact a.trans b
theorem yu(S:Nat->Bool)(σ:Nat->Nat):∀ l:List Nat,par S (l.map λd=>2*σ (d/2)+d%2)=par (λt=>S (σ t)) l
 |[]=>rfl
 |d::l=>by
  rw[E6,aI,aI,yu S σ l,show(2*σ (d/2)+d%2)/2=σ (d/2) by omega]
noncomputable def uD(es:En)(S Pl:Nat->Bool):Prop:=∀(t:Nat)(e:Nat×Nat),es[t]?=some e->S t=(Pl e.1 ^^ Pl e.2)
theorem vj{es:En}{S Pl:Nat->Bool}(h:uD es S Pl){d:Nat}(A:d<2*es.length):S (d/2)=(Pl (tl es d) ^^ Pl (hd es d)):=by
 have T:es[d/2]?=some (es[d/2]'(by omega)):=EA _
 rw[h _ _ T];unfold tl hd;rw[T];show _=(Pl (if d%2=0 then es[d/2].1 else es[d/2].2) ^^ Pl (if d%2=0 then es[d/2].2 else es[d/2].1));split
 ·rfl
 ·exact Iy _ _
theorem o9{m:Nat}{es:En}{ts:List (List Nat)}{S Pl:Nat->Bool}(w:bz m es ts)(h:uD es S Pl):∀{x:Nat}{l:List Nat}{z:Nat},chain (fol es ts) x l z->x<2*es.length->(∀ t∈l,t<2*es.length)->z<2*es.length->par S (l++[z])=(Pl (hd es x) ^^ Pl (hd es z))
 |x,[],z,c,O,_,i=>by
  obtain⟨_,_,_,_,_,_,_,_,_,_,k⟩:=w.foll O;have C:fol es ts x=z:=c;rw[List.nil_append,aI,vj h i,← C,k];exact Hf _
 |x,a::l,z,c,O,D,i=>by
  obtain⟨_,_,_,_,_,_,_,_,_,_,k⟩:=w.foll O;have E:=D a (EM ..);rw[GD,aI,o9 w h c.2 E (λt Y=>D t (EK _ Y)) i,vj h E,← c.1,k]
  cases Pl (hd es x)<;>cases Pl (hd es (fol es ts x))<;>cases Pl (hd es z)<;>rfl
structure Gr(m:Nat)(es:En)(ts:List (List Nat)):Prop where
 w:bz m es ts
 part:∃ rs,Part (fol es ts) (2*es.length) rs/\m+rs.length=es.length+2
 conn:∀ S:Nat->Prop,(∀ e∈es,S e.1↔S e.2)->∀ p q,p<m->q<m->S p->S q
 cut:∀ S:Nat->Bool,(∀ r,CR (fol es ts) (2*es.length) r->par S r=false)->∃ Pl:Nat->Bool,uD es S Pl
theorem CR.mono{f g:Nat->Nat}{N M:Nat}{r:List Nat}(h:CR f N r)(o:N<=M)(k:∀ t∈r,g t=f t):CR g M r:=by
 obtain⟨x,l,rfl,c⟩:=h.ch;exact⟨⟨x,l,rfl,eE c (k x (EM ..)) λt Y=>k t (EK _ Y)⟩,λd hd=>EZ (h.lt d hd) o,h.nd⟩
theorem BU{m:Nat}{es:En}{e:Nat×Nat}(c:∀ S:Nat->Prop,(∀ e∈es,S e.1↔S e.2)->∀ p q,p<m->q<m->S p->S q):∀ S:Nat->Prop,(∀ x∈es++[e],S x.1↔S x.2)->∀ p q,p<m->q<m->S p->S q :=
 λS h=>c S λx O=>h x (Fw _ O)
theorem Gr.join{m:Nat}{es:En}{ts:List (List Nat)}(g:Gr m es ts){left right one two:Nat}{e:Nat×Nat}{l l' tail:List Nat}(hl:left<2*es.length)(L:CR (fol es ts) (2*es.length) (left::tail))(ab:chain (fol es ts) left tail left)(i:right∈left::tail)
  (J:hd es left=one) (h2:hd es right=two) (N:one≠two) (j:e=(one,two)∨e=(two,one)) (e1:ts[one]?=some l) (Q:ts[two]?=some l') :
  Gr m (es++[e]) ((ts.set one (ins l (l.idxOf (left/2)+1) es.length)).set two (ins l' (l'.idxOf (right/2)+1) es.length)):=by
 have w:=g.w;have a6:right<2*es.length:=L.lt right i;have D:=w.len;have o1:one<m:=by rw[← D];exact(EB.mp e1).1
 have o2:two<m:=by rw[← D];exact(EB.mp Q).1
 have W:bz m (es++[e]) ((ts.set one (ins l (l.idxOf (left/2)+1) es.length)).set two (ins l' (l'.idxOf (right/2)+1) es.length)):=by
  rcases j with rfl | rfl
  ·exact w.put o1 o2 N e1 Q
  ·exact(w.put o1 o2 N e1 Q).flip
 have C:((ts.set one (ins l (l.idxOf (left/2)+1) es.length)).set two (ins l' (l'.idxOf (right/2)+1) es.length))[one]?=some (ins l (l.idxOf (left/2)+1) es.length):=by
  rw[Fl,if_neg (λz=>N z.symm),Fl,if_pos rfl,if_pos (by rw[D];exact o1)]
 have r2:((ts.set one (ins l (l.idxOf (left/2)+1) es.length)).set two (ins l' (l'.idxOf (right/2)+1) es.length))[two]?=some (ins l' (l'.idxOf (right/2)+1) es.length):=by
  rw[Fl,if_pos rfl,if_pos (by rw[Fc,D];exact o2)]
 have r3:∀ p,p≠one->p≠two->((ts.set one (ins l (l.idxOf (left/2)+1) es.length)).set two (ins l' (l'.idxOf (right/2)+1) es.length))[p]?=ts[p]?:=λp n1 n2=>by
  rw[Fl,if_neg (λz=>n2 z.symm),Fl,if_neg (λz=>n1 z.symm)]
 generalize (ts.set one (ins l (l.idxOf (left/2)+1) es.length)).set two (ins l' (l'.idxOf (right/2)+1) es.length)=ts' at W C r2 r3;obtain⟨B,s,a3⟩:=jK (e:=e) w e1 hl J C;obtain⟨b1,b2,b3⟩:=jK (e:=e) w Q a6 h2 r2;obtain⟨d1,d2,d3,d4⟩:=kE (es:=es) N j;have fa:=b2 _ (aX _ _ _) d1;have fb:=s _ (aX _ _ _) d2;have ap:∀ d,d<2*es.length->d≠left->d≠right->fol (es++[e]) ts' d=fol es ts d:=λd A n1 n2=>by
  by_cases z1:hd es d=one
  ·exact a3 d A n1 z1
  ·by_cases k:hd es d=two
   ·exact b3 d A n2 k
   ·exact kD w A (r3 _ z1 k)
 generalize E:bD es.length e one=α at *;generalize G:bD es.length e two=β at *;have bd:α/2=es.length:=by rw[← E];exact aX _ _ _
 have be:β/2=es.length:=by rw[← G];exact aX _ _ _
 have ba:right≠left:=λz=>N (by rw[← J,← h2,z])
 have bv:right∈tail:=by
  rcases EE.mp i with z | z
  ·exact absurd z ba
  ·exact z
 obtain⟨M,v,rfl⟩:=HH bv;obtain⟨c1,c2⟩:=cy.mp ab;have nd:=L.nd;have al:∀ t∈M,t<2*es.length/\t≠left/\t≠right:=λt Y=>by
  refine⟨L.lt t (by simp[Y]),λz=>?_,λz=>?_⟩
  ·subst z;exact(EL.mp nd).1 (by simp[Y])
  ·subst z;have:=(EU.mp (EL.mp nd).2).2.2 t Y t (by simp)
   exact this rfl
 have am:∀ t∈v,t<2*es.length/\t≠left/\t≠right:=λt Y=>by
  refine⟨L.lt t (by simp[Y]),λz=>?_,λz=>?_⟩
  ·subst z;exact(EL.mp nd).1 (by simp[Y])
  ·subst z;exact(EL.mp (EU.mp (EL.mp nd).2).2.1).1 Y
 obtain⟨h,p,cnt⟩:=g.part;obtain⟨rest,pr,bf⟩:=p.pick L;have a0:=pr.nd;rw[Fb]at a0;obtain⟨_,a5,aP⟩:=EU.mp a0;have aT:∀ t∈rest.flatten,t<2*es.length/\t≠left/\t≠right:=λt Y=>by
  obtain⟨q,n,o⟩:=Fp.mp Y;exact⟨(pr.cr q (EK _ n)).lt t o,λz=>aP left (by simp) t Y z.symm,λz=>aP right (by simp) t Y z.symm⟩
 have I:(es++[e]).length=es.length+1:=by rw[EG];rfl
 have PP:Part (fol (es++[e]) ts') (2*(es++[e]).length) ((left::α::v)::(right::β::M)::rest):=by
  refine⟨λq T=>?_,?_,λd A=>?_⟩
  ·rcases EE.mp T with z | z
   ·subst z;refine⟨⟨left,α::v,rfl,B,eE c2 fa λt Y=>ap t (am t Y).1 (am t Y).2.1 (am t Y).2.2⟩,λd A=>?_,?_⟩
    ·rw[I];simp only[EE]at A;rcases A with y | y | y
     ·omega
     ·omega
     ·have:=(am d y).1;omega
    ·refine EL.mpr ⟨λy=>?_,EL.mpr ⟨λy=>?_,?_⟩⟩
     ·rcases EE.mp y with y | y
      ·omega
      ·exact(am _ y).2.1 rfl
     ·have:=(am _ y).1;omega
     ·exact(EL.mp (EU.mp (EL.mp nd).2).2.1).2
   ·rcases EE.mp z with z | z
    ·subst z;refine⟨⟨right,β::M,rfl,b1,eE c1 fb λt Y=>ap t (al t Y).1 (al t Y).2.1 (al t Y).2.2⟩,λd A=>?_,?_⟩
     ·rw[I];simp only[EE]at A;rcases A with y | y | y
      ·omega
      ·omega
      ·have:=(al d y).1;omega
     ·refine EL.mpr ⟨λy=>?_,EL.mpr ⟨λy=>?_,?_⟩⟩
      ·rcases EE.mp y with y | y
       ·omega
       ·exact(al _ y).2.2 rfl
      ·have:=(al _ y).1;omega
      ·exact(EU.mp (EL.mp nd).2).1
    ·refine(pr.cr q (EK _ z)).mono (by rw[I];omega) λt Y=>?_
     obtain⟨k1,k2,k3⟩:=aT t (Fp.mpr ⟨q,z,Y⟩);exact ap t k1 k2 k3
  ·have bm:∀ x∈M,∀ y∈v,x≠y:=λx O y H=>(EU.mp (EL.mp nd).2).2.2 x O y (by simp[H])
   rw[Fb,Fb];refine EU.mpr ⟨?_,EU.mpr ⟨?_,a5,λa E b G=>?_⟩,λa E b G=>?_⟩
   ·refine EL.mpr ⟨λy=>?_,EL.mpr ⟨λy=>?_,(EL.mp (EU.mp (EL.mp nd).2).2.1).2⟩⟩
    ·rcases EE.mp y with y | y
     ·omega
     ·exact(am _ y).2.1 rfl
    ·have:=(am _ y).1;omega
   ·refine EL.mpr ⟨λy=>?_,EL.mpr ⟨λy=>?_,(EU.mp (EL.mp nd).2).1⟩⟩
    ·rcases EE.mp y with y | y
     ·omega
     ·exact(al _ y).2.2 rfl
    ·have:=(al _ y).1;omega
   ·obtain⟨k1,k2,k3⟩:=aT b G;simp only[EE]at E;rcases E with y | y | y
    ·exact λz=>k3 (z▸y)
    ·omega
    ·exact aP a (by simp[y]) b G
   ·simp only[EE,ER]at E G;rcases G with(y | y | y) | y
    ·rcases E with z | z | z
     ·exact λu=>ba (by rw[← y,← u,z])
     ·have:=a6;omega
     ·exact λu=>(am a z).2.2 (u.trans y)
    ·rcases E with z | z | z
     ·omega
     ·omega
     ·have:=(am a z).1;omega
    ·rcases E with z | z | z
     ·exact λu=>(al b y).2.1 (u▸z)
     ·have:=(al b y).1;omega
     ·exact λu=>bm b y a z u.symm
    ·obtain⟨k1,k2,k3⟩:=aT b y;rcases E with z | z | z
     ·exact λu=>k2 (u▸z)
     ·omega
     ·exact aP a (by simp[z]) b y
  ·rw[I]at A;simp only[Fb,ER,EE];rcases d4 d A with y | y | y
   ·have:=pr.all d y
    simp only[Fb,ER,EE]at this;rcases this with(z | z | z | z) | z
    ·exact .inl (.inl z)
    ·exact .inr (.inl (.inr (.inr z)))
    ·exact .inr (.inl (.inl z))
    ·exact .inl (.inr (.inr z))
    ·exact .inr (.inr z)
   ·exact .inl (.inr (.inl y))
   ·exact .inr (.inl (.inr (.inl y)))
 refine⟨W,⟨_,PP,by rw[I];simp only[E7]at bf ⊢;omega⟩,BU g.conn,λS ev=>?_⟩
 have e1:=ev _ (PP.cr _ (EM ..));have Q:=ev _ (PP.cr _ (EK _ (EM ..)));rw[aI,aI,bd]at e1;rw[aI,aI,be]at Q;have lr:left∈left::(M++right::v):=EM ..;have rr:right∈left::(M++right::v):=by simp
 have ac:∀ r,CR (fol es ts) (2*es.length) r->par S r=false:=λr aa=>by
  by_cases a4:left∈r
  ·have pm:r.Perm (left::(M++right::v)):=(FR aa.nd L.nd).mpr λt=>⟨aa.same L a4 lr t,L.same aa lr a4 t⟩
   rw[ky S pm,aI,oo,aI];revert e1 Q;generalize S (left/2)=a;generalize S (right/2)=b;generalize S es.length=c;generalize par S M=d;generalize par S v=f
   cases a<;>cases b<;>cases c<;>cases d<;>cases f<;>decide
  ·refine ev r (aa.mono (by rw[I];omega) λt Y=>ap t (aa.lt t Y) (λz=>a4 (z▸Y)) λz=>a4 (L.same aa rr (z▸Y) left lr))
 obtain⟨Pl,hP⟩:=g.cut S ac;refine⟨Pl,λt x O=>?_⟩;by_cases Y:t<es.length
 ·rw[EH Y]at O;exact hP t x O
 ·have bn:t=es.length:=by
   have:=(EB.mp O).1;rw[I]at this;omega
  subst bn;rw[EF (EI _),EW]at O;have an:e=x:=E8 O;subst an;have tw:=o9 w hP c1 hl (λt Y=>(al t Y).1) a6;rw[J,h2,oo,aI]at tw;have bi:S es.length=(Pl one ^^ Pl two):=by
   rw[← tw];revert Q;show _->S es.length=(par S M ^^ (S (right/2) ^^ false));generalize S (right/2)=b;generalize S es.length=c;generalize par S M=d
   cases b<;>cases c<;>cases d<;>decide
  rcases j with z | z
  ·rw[z];exact bi
  ·rw[z];exact bi.trans (Iy _ _)
theorem Gr.leaf{m:Nat}{es:En}{ts:List (List Nat)}(g:Gr m es ts){left one:Nat}{e:Nat×Nat}{l tail:List Nat}(hl:left<2*es.length)(L:CR (fol es ts) (2*es.length) (left::tail))(ab:chain (fol es ts) left tail left)
  (J:hd es left=one) (o:e=(one,m)∨e=(m,one)) (e1:ts[one]?=some l) :
  Gr (m+1) (es++[e]) (ts.set one (ins l (l.idxOf (left/2)+1) es.length)++[[es.length]]):=by
 have w:=g.w;have D:=w.len;have o1:one<m:=by rw[← D];exact(EB.mp e1).1
 have N:one≠m:=by omega
 have W:bz (m+1) (es++[e]) (ts.set one (ins l (l.idxOf (left/2)+1) es.length)++[[es.length]]):=by
  have q:=w.room.put (one:=one) (two:=m) (k:=l.idxOf (left/2)+1) (j:=0) (l:=l) (l':=[]) (by omega) (by omega) N (by rw[EH (by omega)];exact e1) (by rw[EF (by omega),D,EW];rfl)
  have M:((ts++[[]]).set one (ins l (l.idxOf (left/2)+1) es.length)).set m (ins [] 0 es.length)=ts.set one (ins l (l.idxOf (left/2)+1) es.length)++[[es.length]]:=by
   rw[Ig _ _ (by omega),List.set_append_right _ _ (by rw[Fc];omega),Fc,D,EW]
   rfl
  rw[M]at q;rcases o with rfl | rfl
  ·exact q
  ·exact q.flip
 have C:(ts.set one (ins l (l.idxOf (left/2)+1) es.length)++[[es.length]])[one]?=some (ins l (l.idxOf (left/2)+1) es.length):=by
  rw[EH (by rw[Fc];omega),Fl,if_pos rfl,if_pos (by omega)]
 have v:(ts.set one (ins l (l.idxOf (left/2)+1) es.length)++[[es.length]])[m]?=some [es.length]:=by
  rw[EF (by rw[Fc];omega),Fc,D,EW]
  rfl
 have r3:∀ p,p≠one->p<m->(ts.set one (ins l (l.idxOf (left/2)+1) es.length)++[[es.length]])[p]?=ts[p]?:=λp Q n2=>by
  rw[EH (by rw[Fc];omega),Fl,if_neg (λz=>Q z.symm)]
 generalize ts.set one (ins l (l.idxOf (left/2)+1) es.length)++[[es.length]]=ts' at W C v r3;obtain⟨B,s,a3⟩:=jK (e:=e) w e1 hl J C;obtain⟨d1,d2,d3,d4⟩:=kE (es:=es) N o;have fb:=s _ (aX _ _ _) d2;have fa:fol (es++[e]) ts' (bD es.length e one)=bD es.length e m:=by
  rw[cV (l:=[es.length]) (by rw[d1];exact v),aX,d1]
  have:nxt [es.length] es.length=es.length:=by
   unfold nxt;rw[Ih];simp
  rw[this,lH];rfl
 have am:∀ d,d<2*es.length->d≠left->fol (es++[e]) ts' d=fol es ts d:=λd A Q=>by
  by_cases f:hd es d=one
  ·exact a3 d A Q f
  ·obtain⟨_,_,_,_,_,k4,_⟩:=w.at A;exact kD w A (r3 _ f k4)
 generalize E:bD es.length e one=α at *;generalize G:bD es.length e m=β at *;have a5:α/2=es.length:=by rw[← E];exact aX _ _ _
 have a6:β/2=es.length:=by rw[← G];exact aX _ _ _
 have nd:=L.nd;have aP:∀ t∈tail,t<2*es.length/\t≠left:=λt Y=>⟨L.lt t (by simp[Y]),λz=>(EL.mp nd).1 (z▸Y)⟩
 obtain⟨h,p,cnt⟩:=g.part;obtain⟨rest,pr,ba⟩:=p.pick L;have aT:=pr.nd;rw[Fb]at aT;obtain⟨_,a4,an⟩:=EU.mp aT;have ap:∀ t∈rest.flatten,t<2*es.length/\t≠left:=λt Y=>by
  obtain⟨q,n,M⟩:=Fp.mp Y;exact⟨(pr.cr q (EK _ n)).lt t M,λz=>an left (by simp) t Y z.symm⟩
 have I:(es++[e]).length=es.length+1:=by rw[EG];rfl
 have bd:(left::α::β::tail).Nodup:=by
  refine EL.mpr ⟨λy=>?_,EL.mpr ⟨λy=>?_,EL.mpr ⟨λy=>?_,(EL.mp nd).2⟩⟩⟩
  ·simp only[EE]at y;rcases y with y | y | y
   ·omega
   ·omega
   ·exact(aP _ y).2 rfl
  ·simp only[EE]at y;rcases y with y | y
   ·exact d3 y
   ·have:=(aP _ y).1;omega
  ·have:=(aP _ y).1;omega
 have PP:Part (fol (es++[e]) ts') (2*(es++[e]).length) ((left::α::β::tail)::rest):=by
  refine⟨λq T=>?_,?_,λd A=>?_⟩
  ·rcases EE.mp T with z | z
   ·subst z;refine⟨⟨left,α::β::tail,rfl,B,fa,eE ab fb λt Y=>am t (aP t Y).1 (aP t Y).2⟩,λd A=>?_,bd⟩;rw[I];simp only[EE]at A;rcases A with y | y | y | y
    ·omega
    ·omega
    ·omega
    ·have:=(aP d y).1;omega
   ·refine(pr.cr q (EK _ z)).mono (by rw[I];omega) λt Y=>?_
    obtain⟨k1,k2⟩:=ap t (Fp.mpr ⟨q,z,Y⟩);exact am t k1 k2
  ·rw[Fb];refine EU.mpr ⟨bd,a4,λa E b G=>?_⟩;obtain⟨k1,k2⟩:=ap b G;simp only[EE]at E;rcases E with y | y | y | y
   ·exact λu=>k2 (u▸y)
   ·omega
   ·omega
   ·exact an a (by simp[y]) b G
  ·rw[I]at A;simp only[Fb,ER,EE];rcases d4 d A with y | y | y
   ·have:=pr.all d y
    simp only[Fb,ER,EE]at this;rcases this with(z | z) | z
    ·exact .inl (.inl z)
    ·exact .inl (.inr (.inr (.inr z)))
    ·exact .inr z
   ·exact .inl (.inr (.inl y))
   ·exact .inl (.inr (.inr (.inl y)))
 refine⟨W,⟨_,PP,by rw[I];simp only[E7]at ba ⊢;omega⟩,λS i x y O H sx=>?_,λS ev=>?_⟩
 ·skip
  have bi:S one↔S m:=by
   have:=i e (by simp)
   rcases o with rfl | rfl
   ·exact this
   ·exact this.symm
  have ac:=g.conn S λx O=>i x (Fw _ O);have be:S one:=by
   by_cases z:x<m
   ·exact ac x one z o1 sx
   ·have:x=m:=by omega
    subst this;exact bi.mpr sx
  by_cases z:y<m
  ·exact ac one y o1 z be
  ·have:y=m:=by omega
   subst this;exact bi.mp be
 ·have e1:=ev _ (PP.cr _ (EM ..))
  rw[aI,aI,aI,a5,a6]at e1;have ac:∀ r,CR (fol es ts) (2*es.length) r->par S r=false:=λr aa=>by
   by_cases a0:left∈r
   ·have pm:r.Perm (left::tail):=(FR aa.nd L.nd).mpr λt=>⟨aa.same L a0 (EM ..) t,L.same aa (EM ..) a0 t⟩
    rw[ky S pm,aI];revert e1;generalize S (left/2)=a;generalize S es.length=c;generalize par S tail=d
    cases a<;>cases c<;>cases d<;>decide
   ·exact ev r (aa.mono (by rw[I];omega) λt Y=>am t (aa.lt t Y) λz=>a0 (z▸Y))
  obtain⟨Pl,hP⟩:=g.cut S ac;refine⟨λp=>if p=m then(Pl one ^^ S es.length) else Pl p,λt x O=>?_⟩;by_cases Y:t<es.length
  ·rw[EH Y]at O;obtain⟨b1,b2,_⟩:=w.ends x (EC O);show S t=((if x.1=m then _ else Pl x.1) ^^ (if x.2=m then _ else Pl x.2));rw[if_neg (by omega),if_neg (by omega)]
   exact hP t x O
  ·have bf:t=es.length:=by
    have:=(EB.mp O).1;rw[I]at this;omega
   subst bf;rw[EF (EI _),EW]at O;have al:e=x:=E8 O;subst al;rcases o with z | z
   ·rw[z];show S es.length=((if one=m then _ else Pl one) ^^ (if m=m then(Pl one ^^ S es.length) else _));rw[if_neg N,if_pos rfl]
    cases Pl one<;>cases S es.length<;>rfl
   ·rw[z];show S es.length=((if m=m then(Pl one ^^ S es.length) else _) ^^ (if one=m then _ else Pl one));rw[if_neg N,if_pos rfl]
    cases Pl one<;>cases S es.length<;>rfl
theorem ze:Gr 2 [(0,1)] [[0],[0]]:=by
 have W:bz 2 [(0,1)] [[0],[0]]:=by
  refine⟨rfl,λe j=>?_,λp l h=>?_,λp l h t=>?_⟩
  ·have:e=(0,1):=by simpa using j
   subst this;exact⟨by decide,by decide,by decide⟩
  ·match p,h with
   |0,h=>cases h;decide
   |1,h=>cases h;decide
   |p+2,h=>cases h
  ·have o:(∃ e,([(0,1)]:En)[t]?=some e/\(e.1=p∨e.2=p))↔t=0/\(p=0∨p=1):=by
    constructor
    ·rintro⟨e,J,C⟩;match t,J with
     |0,J=>cases J;exact⟨rfl,C.imp Eq.symm Eq.symm⟩
     |t+1,J=>cases J
    ·rintro⟨rfl,C⟩;exact⟨(0,1),rfl,C.imp Eq.symm Eq.symm⟩
   rw[o];match p,h with
   |0,h=>cases h;simp
   |1,h=>cases h;simp
   |p+2,h=>cases h
 refine⟨W,⟨[[0,1]],⟨λr L=>?_,by decide,λd hd=>?_⟩,rfl⟩,λS I p q M T m=>?_,λS i=>?_⟩
 ·have:r = [0,1]:=by simpa using L
  subst this;exact⟨⟨0,[1],rfl,by decide,(by show fol [(0,1)] [[0],[0]] 1=0;decide)⟩,λd hd=>by simp at hd ⊢;omega,by decide⟩
 ·have g:d<2:=hd
  simp;omega
 ·have:=I (0,1) (by simp)
  have a:S 0↔S 1:=this;have b:p=0∨p=1:=by omega
  have N:q=0∨q=1:=by omega
  rcases b with rfl | rfl<;>rcases N with rfl | rfl
  ·exact m
  ·exact a.mp m
  ·exact a.mpr m
  ·exact m
 ·refine⟨λp=>if p=1 then S 0 else false,λt x O=>?_⟩;match t,O with
  |0,O =>
   cases O
   show S 0=((if(0:Nat)=1 then S 0 else false) ^^ (if(1:Nat)=1 then S 0 else false));rw[if_neg (by decide),if_pos rfl,GZ]
  |t+1,O=>cases O
structure Bij(F:Nat->Nat)(n:Nat):Prop where
 lt:∀ k,k<n->F k<n
 inj:∀ a b,a<n->b<n->F a=F b->a=b
 sur:∀ y,y<n->∃ k,k<n/\F k=y
noncomputable def ofL(o:List Nat)(k:Nat):Nat:=(o[k]?).getD 0
theorem vo{o:List Nat}{n:Nat}(hl:o.length=n)(nd:o.Nodup)(h:∀ x∈o,x<n):Bij (ofL o) n:=by
 have get:∀ k,k<n->o[k]?=some (ofL o k):=λk g=>by
  unfold ofL;rw[EA (by omega)]
  rfl
 refine⟨λk g=>h _ (EC (get k g)),λa b E G e=>u6 nd (get a E) (by rw[get b G,e]),λy B=>?_⟩
 have i:y∈o:=by
  by_cases z:y∈o
  ·exact z
  ·have:=dv (a:=y::o) (N:=n) (EL.mpr ⟨z,nd⟩) λx O=>by
    rcases EE.mp O with u | u
    ·omega
    ·exact h x u
   rw[E7]at this;omega
 obtain⟨k,g⟩:=FD.mp i;have c:=(EB.mp g).1;refine⟨k,by omega,?_⟩
 have:=get k (by omega)
 rw[g]at this;exact(E8 this).symm
theorem lE{F:Nat->Nat}:∀{l:List Nat},l.Nodup->(∀ x∈l,∀ y∈l,F x=F y->x=y)->(l.map F).Nodup
 |[],_,_=>GN
 |a::l,o,h=>by
  obtain⟨r,v⟩:=EL.mp o;refine EL.mpr ⟨λz=>?_,lE v λx O y B=>h x (EK _ O) y (EK _ B)⟩;obtain⟨x,O,e⟩:=FJ.mp z;have:=h x (EK _ O) a (EM ..) e;exact r (this▸O)
theorem DF{F:Nat->Nat}{l:List Nat}{t:Nat}(Y:t∈l)(h:∀ x∈l,F x=F t->x=t):nxt (l.map F) (F t)=F (nxt l t):=by
 obtain⟨A,B,rfl,k⟩:=fu Y;have H:F t∉A.map F:=λz=>by
  obtain⟨x,O,e⟩:=FJ.mp z;exact k (h x (by simp[O]) e▸O)
 rw[Fv,E6,bj H,bj k]
 cases B<;>cases A<;>rfl
theorem DD{X Y:List Nat}{t:Nat}(nd:(X++Y).Nodup)(g:t∈X++Y):nxt (Y++X) t=nxt (X++Y) t:=by
 obtain⟨r,v,u⟩:=EU.mp nd;rcases ER.mp g with z | z
 ·have a:t∉Y:=λy=>u t z t y rfl
  obtain⟨A,B,rfl,k⟩:=fu z;have T:Y++(A++t::B)=(Y++A)++t::B:=by simp
  have Q:(A++t::B)++Y=A++t::(B++Y):=by simp
  rw[T,Q,bj (by simp[a,k]),bj k]
  cases B<;>cases Y<;>cases A<;>rfl
 ·have b:t∉X:=λy=>u t y t z rfl
  obtain⟨A,B,rfl,k⟩:=fu z;have T:(A++t::B)++X=A++t::(B++X):=by simp
  have Q:X++(A++t::B)=(X++A)++t::B:=by simp
  rw[T,Q,bj k,bj (by simp[b,k])]
  cases B<;>cases X<;>cases A<;>rfl
structure Ren(m:Nat)(es es2:En)(ts ts2:List (List Nat))(π σ:Nat->Nat):Prop where
 pi:Bij π m
 si:Bij σ es.length
 l1:es2.length=es.length
 l2:ts2.length=m
 es:∀(k:Nat)(e:Nat×Nat),es[k]?=some e->es2[σ k]?=some (π e.1,π e.2)
 ts:∀(p:Nat)(l:List Nat),ts[p]?=some l->∃ X Y,l=X++Y/\ts2[π p]?=some ((Y++X).map σ)
section
variable{m:Nat}{es es2:En}{ts ts2:List (List Nat)}{π σ:Nat->Nat}
theorem Ren.es'(R:Ren m es es2 ts ts2 π σ){j:Nat}{x:Nat×Nat}(h:es2[j]?=some x):∃ k e,σ k=j/\es[k]?=some e/\x=(π e.1,π e.2):=by
 have E:=(EB.mp h).1;rw[R.l1]at E;obtain⟨k,g,rfl⟩:=R.si.sur j E;have T:es[k]?=some es[k]:=EA g;have:=R.es k _ T;rw[h]at this;exact⟨k,_,rfl,T,E8 this⟩
theorem Ren.ts'(R:Ren m es es2 ts ts2 π σ)(w:bz m es ts){j:Nat}{L:List Nat}(h:ts2[j]?=some L):∃ p l X Y,p<m/\π p=j/\ts[p]?=some l/\l=X++Y/\L=(Y++X).map σ:=by
 have E:=(EB.mp h).1;rw[R.l2]at E;obtain⟨p,M,rfl⟩:=R.pi.sur j E;have T:ts[p]?=some (ts[p]'(by rw[w.len];exact M)):=EA _
 obtain⟨X,Y,J,C⟩:=R.ts p _ T;rw[h]at C;exact⟨p,_,X,Y,M,rfl,T,J,E8 C⟩
theorem jY(w:bz m es ts){p:Nat}{l:List Nat}(h:ts[p]?=some l){t:Nat}(Y:t∈l):t<es.length:=by
 obtain⟨x,O,_⟩:=(w.mem p l h t).mp Y;exact(EB.mp O).1
theorem Ren.turn(R:Ren m es es2 ts ts2 π σ)(w:bz m es ts):bz m es2 ts2:=by
 refine⟨R.l2,λx O=>?_,λj L h=>?_,λj L h t=>?_⟩
 ·obtain⟨j,d⟩:=FD.mp O;obtain⟨k,e,_,J,rfl⟩:=R.es' d;obtain⟨B,s,f⟩:=w.ends e (EC J);exact⟨R.pi.lt _ B,R.pi.lt _ s,λz=>f (R.pi.inj _ _ B s z)⟩
 ·obtain⟨p,l,X,Y,M,rfl,J,rfl,rfl⟩:=R.ts' w h;have o:=w.nd p _ J;obtain⟨r,v,u⟩:=EU.mp o;refine lE (EU.mpr ⟨v,r,λa E b G z=>u b G a E z.symm⟩) λx O y H=>R.si.inj x y (jY w J ?_) (jY w J ?_)
  ·simp only[ER]at O ⊢;exact O.symm
  ·simp only[ER]at H ⊢;exact H.symm
 ·obtain⟨p,l,X,Y,M,rfl,J,rfl,rfl⟩:=R.ts' w h;constructor
  ·intro z;obtain⟨k,g,rfl⟩:=FJ.mp z;obtain⟨e,C,c⟩:=(w.mem p _ J k).mp (by simp only[ER]at g ⊢;exact g.symm)
   exact⟨_,R.es k e C,c.imp (congrArg π) (congrArg π)⟩
  ·rintro⟨x,C,c⟩;obtain⟨k,e,rfl,T,rfl⟩:=R.es' C;obtain⟨B,s,f⟩:=w.ends e (EC T);have g:=(w.mem p _ J k).mpr ⟨e,T,c.imp (R.pi.inj _ _ B M) (R.pi.inj _ _ s M)⟩;exact FJ.mpr ⟨k,by simp only[ER]at g ⊢;exact g.symm,rfl⟩
noncomputable def Phi(σ:Nat->Nat)(d:Nat):Nat:=2*σ (d/2)+d%2
theorem kJ(d:Nat):Phi σ d/2=σ (d/2):=by unfold Phi;omega
theorem Ren.hd(R:Ren m es es2 ts ts2 π σ){d:Nat}(A:d<2*es.length):hd es2 (Phi σ d)=π (hd es d):=by
 have T:es[d/2]?=some (es[d/2]'(by omega)):=EA _
 have Q:=R.es _ _ T;unfold K8.hd;rw[kJ,T,Q];have i:Phi σ d%2=d%2:=by unfold Phi;omega
 show(if Phi σ d%2=0 then π es[d/2].2 else π es[d/2].1)=π (if d%2=0 then es[d/2].2 else es[d/2].1);rw[i];split<;>rfl
theorem Ren.fol(R:Ren m es es2 ts ts2 π σ)(w:bz m es ts){d:Nat}(A:d<2*es.length):fol es2 ts2 (Phi σ d)=Phi σ (fol es ts d):=by
 obtain⟨_,l,_,_,_,q,a,i⟩:=w.at A;obtain⟨X,Y,rfl,C⟩:=R.ts _ _ a;have o:=w.nd _ _ a;rw[cV (l:=(Y++X).map σ) (by rw[R.hd A];exact C),cV a,kJ,R.hd A]
 have b:d/2∈Y++X:=by simp only[ER]at i ⊢;exact i.symm
 rw[DF b λx O=>R.si.inj x _ (jY w a (by simp only[ER]at O ⊢;exact O.symm)) (jY w a i),DD o i]
 have f:=EC (gz i);have E:=jY w a f;generalize nxt (X++Y) (d/2)=t at E;have T:es[t]?=some es[t]:=EA E;have B:=(w.ends _ (EC T)).1;unfold leave;rw[R.es _ _ T,T];show(if π es[t].1=π (K8.hd es d) then 2*σ t else 2*σ t+1)=Phi σ (if es[t].1=K8.hd es d then 2*t else 2*t+1);by_cases z:es[t].1=K8.hd es d
 ·rw[if_pos z,if_pos (congrArg π z)];unfold Phi;rw[show 2*t/2=t by omega]
  omega
 ·rw[if_neg z,if_neg (λy=>z (R.pi.inj _ _ B q y))];unfold Phi;rw[show(2*t+1)/2=t by omega]
  omega
theorem mC(b:Bij σ es.length){x y:Nat}(O:x<2*es.length)(B:y<2*es.length)(e:Phi σ x=Phi σ y):x=y:=by
 have T:σ (x/2)=σ (y/2):=by
  have J:=kJ (σ:=σ) x;have C:=kJ (σ:=σ) y;rw[e]at J;exact J.symm.trans C
 have:=b.inj _ _ (by omega) (by omega) T
 unfold Phi at e;omega
theorem Ren.gr(R:Ren m es es2 ts ts2 π σ)(g:Gr m es ts):Gr m es2 ts2:=by
 obtain⟨h,p,cnt⟩:=g.part;have flt:∀ d∈h.flatten,d<2*es.length:=λd hd=>by
  obtain⟨r,J,C⟩:=Fp.mp hd;exact(p.cr r J).lt d C
 have D:(h.map (Iu (Phi σ))).flatten=h.flatten.map (Phi σ):=List.map_flatten.symm;refine⟨R.turn g.w,⟨h.map (Iu (Phi σ)),⟨λq T=>?_,?_,λd hd=>?_⟩,by rw[EJ,R.l1];exact cnt⟩,λS I x y O B H=>?_,λS i=>?_⟩
 ·obtain⟨r,L,rfl⟩:=FJ.mp T;have c:=p.cr r L;obtain⟨x,l,rfl,N⟩:=c.ch;refine⟨⟨Phi σ x,l.map (Phi σ),rfl,ji N λt Y=>R.fol g.w (c.lt t Y)⟩,λd hd=>?_,lE c.nd λa E b G=>mC R.si (c.lt a E) (c.lt b G)⟩;obtain⟨t,Y,rfl⟩:=FJ.mp hd;have J:=c.lt t Y;have C:=R.si.lt (t/2) (by omega)
  rw[R.l1];unfold Phi;omega
 ·rw[D];exact lE p.nd λa E b G=>mC R.si (flt a E) (flt b G)
 ·rw[R.l1]at hd;obtain⟨k,A,e⟩:=R.si.sur (d/2) (by omega)
  rw[D];refine FJ.mpr ⟨2*k+d%2,p.all _ (by omega),?_⟩
  unfold Phi;rw[show(2*k+d%2)/2=k by omega,e]
  omega
 ·obtain⟨x',n,rfl⟩:=R.pi.sur x O;obtain⟨Q,aa,rfl⟩:=R.pi.sur y B;refine g.conn (λp=>S (π p)) (λe o=>?_) x' Q n aa H;obtain⟨k,A⟩:=FD.mp o;exact I (π e.1,π e.2) (EC (R.es k e A))
 ·obtain⟨s,f⟩:=g.cut (λt=>S (σ t)) λr L=>by
   rw[← yu S σ r];refine i _ ?_;obtain⟨x,l,rfl,N⟩:=L.ch;refine⟨⟨Phi σ x,l.map (Phi σ),rfl,ji N λt Y=>R.fol g.w (L.lt t Y)⟩,λd hd=>?_,lE L.nd λa E b G=>mC R.si (L.lt a E) (L.lt b G)⟩;obtain⟨t,Y,rfl⟩:=FJ.mp hd;have J:=L.lt t Y;have C:=R.si.lt (t/2) (by omega)
   rw[R.l1];omega
  have v:∀ p,p<m->((EY m).find? λq=>decide (π q=π p))=some p:=λp M=>by
   cases z:(EY m).find? λq=>decide (π q=π p) with
   |none=>exact absurd (decide_eq_true rfl) (List.find?_eq_none.mp z p (F8.mpr M))
   |some q =>
    have u:=List.find?_some z;have J:π q=π p:=of_decide_eq_true u;rw[R.pi.inj q p (F8.mp (List.mem_of_find?_eq_some z)) M J]
  refine⟨λy=>s (((EY m).find? λq=>decide (π q=y)).getD 0),λj x O=>?_⟩;obtain⟨k,e,rfl,J,rfl⟩:=R.es' O;obtain⟨b1,b2,_⟩:=g.w.ends e (EC J);show S (σ k)=(s (((EY m).find? λq=>decide (π q=π e.1)).getD 0) ^^ s (((EY m).find? λq=>decide (π q=π e.2)).getD 0));rw[v _ b1,v _ b2];exact f k e J
end
end K8
namespace K8
open PySem L2
local macro_rules | `(tactic| walk_at "cc") => `(tactic| first | exact ⟨by decide, by decide⟩ | (show (0 : Int) < _; decide) | (show (0 : Int) < _; omega) | (show (0 : Int) ≤ _; omega) | exact ⟨by decide, by decide, by decide⟩ | exact ⟨by omega, by omega, by decide⟩ | exact Or.inl ⟨by decide, by decide⟩ | exact Or.inl ⟨by omega, by omega⟩)
local macro_rules | `(tactic| walk_at "rd") => `(tactic| repeat (first | refine ⟨_, rfl, ?_⟩ | refine ⟨_, _, rfl, rfl, ?_⟩ | refine ⟨rfl, ?_⟩ | (refine ⟨?cc, ?_⟩; (case cc => walk_at "cc"))))
noncomputable def top(i:Nat):Stmt:=PySem.Challenge.pw_spinfloor_k36_both_ways.main.body.getD i (.Pass ⟨0,0,0,0⟩)
noncomputable abbrev eU:Stmt:=top 16
noncomputable abbrev eQ:Stmt:=top 18
noncomputable abbrev nO:Stmt:=top 41
noncomputable abbrev nP:Stmt:=top 42
noncomputable abbrev gq:Stmt:=top 43
noncomputable abbrev jA:Stmt:=top 47
noncomputable abbrev g9:Stmt:=top 50
noncomputable abbrev rX:Stmt:=top 51
noncomputable abbrev cD:Stmt:=lN (top 53) 0
noncomputable abbrev dH:Stmt:=lN (top 53) 1
noncomputable abbrev cC:Stmt:=lN (top 53) 4
noncomputable abbrev cU:Stmt:=lN (top 55) 0
noncomputable abbrev xV:Stmt:=top 57
noncomputable abbrev kS:Stmt:=top 58
noncomputable abbrev jF:Stmt:=top 59
noncomputable abbrev gn:Stmt:=top 60
noncomputable abbrev ip:Stmt:=top 61
noncomputable abbrev jy:Stmt:=top 62
noncomputable abbrev fD:Stmt:=top 64
noncomputable abbrev eI:Stmt:=top 65
noncomputable abbrev dJ:Stmt:=top 66
noncomputable abbrev cA:Stmt:=lN (top 67) 0
noncomputable abbrev uQ:Stmt:=top 69
noncomputable abbrev gp:Stmt:=top 70
noncomputable abbrev fH:Stmt:=top 71
noncomputable abbrev cY:Stmt:=top 73
noncomputable abbrev fM:Stmt:=top 74
noncomputable abbrev kQ:Stmt:=top 75
noncomputable abbrev jz:Stmt:=top 76
noncomputable abbrev cS:Stmt:=top 96
noncomputable abbrev jE:Stmt:=top 98
noncomputable abbrev jD:Stmt:=top 99
noncomputable abbrev kW:Stmt:=top 100
noncomputable abbrev jB:Stmt:=top 101
noncomputable abbrev iw:Stmt:=top 102
noncomputable abbrev ir:Stmt:=top 103
noncomputable abbrev dm:Stmt:=top 104
noncomputable abbrev iu:Stmt:=top 105
noncomputable abbrev kU:Stmt:=top 106
noncomputable abbrev iq:Stmt:=top 107
noncomputable abbrev iy:Stmt:=top 108
noncomputable abbrev gs:Stmt:=top 109
noncomputable abbrev iz:Stmt:=top 110
noncomputable abbrev dM:Stmt:=top 111
noncomputable abbrev kX:Stmt:=top 112
noncomputable abbrev jC:Stmt:=top 113
noncomputable abbrev nQ:Stmt:=top 114
noncomputable def tf(a b s:Int):List (Str×V):=putF "strength" (.int s) (putF "two" (.int b) (putF "one" (.int a) []))
theorem mS(a b s:Int):(tf a b s).lookup ("one" : Str)=some (.int a):=by
 unfold tf;rw[aF,if_neg (by decide),aF,if_neg (by decide),aF,if_pos rfl]
theorem uG(a b s:Int):(tf a b s).lookup ("two" : Str)=some (.int b):=by
 unfold tf;rw[aF,if_neg (by decide),aF,if_pos rfl]
theorem xh(a b s:Int):(tf a b s).lookup ("strength" : Str)=some (.int s):=by
 unfold tf;rw[aF,if_pos rfl]
theorem rH(a b s:Int){m:Str} (J:¬ m = "strength") (h2:¬ m = "two") (G:¬ m = "one"):(tf a b s).lookup m=none:=by
 unfold tf;rw[aF,if_neg J,aF,if_neg h2,aF,if_neg G]
 all_goals rfl
theorem f1_len(a:Int):(putF "one" (.int a) []).length<1000:=by show 1<1000;decide
theorem f2_len(a b:Int):(putF "two" (.int b) (putF "one" (.int a) [])).length<1000:=by
 have e:(putF "two" (.int b) (putF "one" (.int a) []):List (Str×V))=([("one",.int a),("two",.int b)]:List (Str×V)):=by
  show(if("one" : Str) = "two" then[(("one" : Str),V.int b)] else(("one" : Str),V.int a)::putF "two" (V.int b) [])=_;rw[if_neg (by decide)]
  all_goals rfl
 rw[e];show 2<1000;decide
structure CT(K:ED)(C:Addr):Prop where
 cl:Cls K C
 n1:eG K C "one"
 n2:eG K C "two"
 n3:eG K C "strength"
noncomputable def jQ(K:ED):Sp:=λN H Q _=>∃(p C l:Addr)(a b s:Int),N = [.ref p,.int a,.int b,.int s]/\H p=some (.ins C l [])/\CT K C/\a≠b/\0<=a/\0<=b/\0<=s /\
 ∀ j,j p=some (.ins C l (tf a b s))->(∀ q o,H q=some o->q≠p->j q=some o)->Q .non j
theorem aj{H:Hp}{p:Addr}(h:H p=none)(o:HO):Same H (upd H p o):=λb u q=>by rw[ao (aE q h)];exact q
theorem aV{H H2:Hp}{l:Addr}(h:Same H H2)(hl:H l=none)(o:HO):Same H (upd H2 l o):=λb u q=>by rw[ao (aE q hl)];exact h b u q
noncomputable def iV(p:Nat):V:=.int (p:Int)
theorem iV_at{J:List Nat}{k x:Nat}(h:J[k]?=some x):atI (J.map iV) (k:Int)=some (iV x):=aA (by rw[EO,h];rfl)
noncomputable def cR(H:Hp)(ys:List V)(es:En):Prop:=ys.length=es.length/\∀(i:Nat)(e:Nat×Nat),es[i]?=some e->∃ p,ys[i]?=some (.ref p)/\H p=some (.tup [iV e.1,iV e.2])
theorem cR.mono{H H':Hp}{ys:List V}{es:En}(h:cR H ys es)(s:Same H H'):cR H' ys es:=⟨h.1,λi e q=>by
 obtain⟨p,a,b⟩:=h.2 i e q
 exact⟨p,a,s _ _ b⟩⟩
noncomputable def dy(K:ED)(H:Hp)(xs:List V)(es:En):Prop:=xs.length=es.length/\∀(i:Nat)(e:Nat×Nat),es[i]?=some e->∃ p C l s,xs[i]?=some (.ref p)/\H p=some (.ins C l (tf (e.1:Int) (e.2:Int) s))/\CT K C
theorem dy.mono{K:ED}{H H':Hp}{xs:List V}{es:En}(t:dy K H xs es)(h:Same H H'):dy K H' xs es:=⟨t.1,λi e q=>by
 obtain⟨p,C,l,s,a,b,d⟩:=t.2 i e q
 exact⟨p,C,l,s,a,h _ _ b,d⟩⟩
noncomputable def bS(H:Hp)(xs:List V)(ts:List (List Nat)):Prop:=xs.length=ts.length/\∀(i:Nat)(l:List Nat),ts[i]?=some l->∃ p,xs[i]?=some (.ref p)/\H p=some (.lst (l.map iV))
theorem bS.mono{H H':Hp}{xs:List V}{ts:List (List Nat)}(h:bS H xs ts)(s:Same H H'):bS H' xs ts:=⟨h.1,λi e q=>by
 obtain⟨p,a,b⟩:=h.2 i e q
 exact⟨p,a,s _ _ b⟩⟩
theorem bS.snoc{H:Hp}{xs:List V}{ts:List (List Nat)}{q:Addr}{l:List Nat}(h:bS H xs ts)(e:H q=some (.lst (l.map iV))):bS H (xs++[.ref q]) (ts++[l]):=by
 refine⟨by rw[EG,EG,h.1];rfl,λj k y=>?_⟩
 by_cases E:j<ts.length
 ·rw[EH E]at y;obtain⟨p,B,s⟩:=h.2 j k y;exact⟨p,by rw[EH (by rw[h.1];exact E)];exact B,s⟩
 ·rw[EF (by omega)]at y
  have b:j=ts.length:=by
   have:=(EB.mp y).1;rw[ES]at this;omega
  subst b;rw[EW]at y
  cases y
  exact⟨q,by rw[← h.1,EF (EI _),EW];rfl,e⟩
noncomputable def bb(S:Addr->Prop)(H:Hp)(xs:List V)(ts:List (List Nat)):Prop:=xs.length=ts.length/\∀(i:Nat)(l:List Nat),ts[i]?=some l->∃ p,xs[i]?=some (.ref p)/\¬ S p/\H p=some (.lst (l.map iV))
theorem bb.mono{S:Addr->Prop}{H H':Hp}{xs:List V}{ts:List (List Nat)}(h:bb S H xs ts)(s:∀ b u,¬ S b->H b=some u->H' b=some u):bb S H' xs ts:=⟨h.1,λi e q=>by
 obtain⟨p,a,n,b⟩:=h.2 i e q
 exact⟨p,a,n,s _ _ n b⟩⟩
theorem bb.off{S:Addr->Prop}{H:Hp}{xs:List V}{ts:List (List Nat)}(h:bb S H xs ts):bS H xs ts:=⟨h.1,λi e q=>by
 obtain⟨p,a,n,b⟩:=h.2 i e q
 exact⟨p,a,b⟩⟩
theorem bb.snoc{S:Addr->Prop}{H:Hp}{xs:List V}{ts:List (List Nat)}{q:Addr}{l:List Nat}(h:bb S H xs ts)(n:¬ S q)(e:H q=some (.lst (l.map iV))):bb S H (xs++[.ref q]) (ts++[l]):=by
 refine⟨by rw[EG,EG,h.1];rfl,λj k y=>?_⟩
 by_cases E:j<ts.length
 ·rw[EH E]at y;obtain⟨p,B,s⟩:=h.2 j k y;exact⟨p,by rw[EH (by rw[h.1];exact E)];exact B,s⟩
 ·rw[EF (by omega)]at y
  have b:j=ts.length:=by
   have:=(EB.mp y).1;rw[ES]at this;omega
  subst b;rw[EW]at y
  cases y
  exact⟨q,by rw[← h.1,EF (EI _),EW];rfl,n,e⟩
theorem oP{f:Nat->Nat}{N i:Nat}{rs:List (List Nat)}(w:b9 f N i rs):rs.flatten.length<=N:=dv w.nd λx O=>by
 obtain⟨r,J,C⟩:=Fp.mp O;exact(w.ring r J).lt x C
theorem AH{f:Nat->Nat}{N i:Nat}{rs:List (List Nat)}(w:b9 f N i rs):rs.length<=N:=by
 have h:∀(l:List (List Nat)),(∀ r∈l,0<r.length)->l.length<=l.flatten.length:=λl=>by
  induction l with
  |nil=>intro _;exact EI _
  |cons a l Y =>
   intro h;rw[Fb,EG,E7];have J:=h a (EM ..);have C:=Y λr L=>h r (EK _ L);omega
 exact FF (h rs λr L=>(w.ring r L).ne) (oP w)
structure TT(K:ED)(H:Hp)(a b:Addr)(m:Nat)(es:En)(ts:List (List Nat)):Prop where
 xs:∃ xs,SqL K H a xs/\dy K H xs es
 ys:∃ ys,SqL K H b ys/\bS H ys ts
 w:bz m es ts
 few:es.length<=78
theorem TT.mono{K:ED}{H H':Hp}{a b:Addr}{m:Nat}{es:En}{ts:List (List Nat)}(t:TT K H a b m es ts)(s:Same H H'):TT K H' a b m es ts:=by
 obtain⟨⟨M,J,C⟩,⟨v,G,k⟩,w,f⟩:=t;exact⟨⟨M,s.seq J,C.mono s⟩,⟨v,s.seq G,k.mono s⟩,w,f⟩
theorem jv{m N:Nat}{es:En}{ts:List (List Nat)}(w:bz m es ts)(f:es.length<=N){p:Nat}{l:List Nat}(h:ts[p]?=some l):(∀ t∈l,t<N)/\l.length<=N:=by
 have a:∀ t∈l,t<es.length:=λt Y=>by
  obtain⟨e,j,_⟩:=(w.mem p l h t).mp Y;exact(EB.mp j).1
 exact⟨λt Y=>by have:=a t Y;omega,FF (dv (w.nd p l h) a) f⟩
theorem perm{m:Nat}{es:En}{ts:List (List Nat)}(w:bz m es ts):An (fol es ts) (2*es.length):=⟨λd h=>by
 obtain⟨_,_,_,_,_,_,_,_,z,_⟩:=w.foll h
 exact z,λa b E G h=>w.inj E G h⟩
noncomputable def Ce(K:ED):Sp:=λN H Q _=>∃(a:Addr)(M:List V)(B:En)(d:Nat),N = [.ref a,.int (d:Int)]/\SqL K H a M/\dy K H M B/\d<2*B.length/\Q (iV (hd B d)) H
noncomputable def Cd(K:ED):Sp:=λN H Q _=>∃(a:Addr)(M:List V)(B:En)(t p:Nat)(e:Nat×Nat),N = [.ref a,.int (t:Int),.int (p:Int)]/\SqL K H a M/\dy K H M B/\B[t]?=some e/\Q (iV (if e.1=p then 2*t else 2*t+1)) H
noncomputable def spFol(K:ED):Sp:=λN H Q _=>∃(a b:Addr)(m:Nat)(B:En)(g:List (List Nat))(d:Nat),N = [.ref a,.ref b,.int (d:Int)]/\TT K H a b m B g/\d<2*B.length/\Q (iV (fol B g d)) H
noncomputable def Cf(K:ED):Sp:=λN H Q _=>∃(a b:Addr)(m:Nat)(B:En)(g:List (List Nat))(d:Nat),N = [.ref a,.ref b,.int (d:Int)]/\TT K H a b m B g/\d<2*B.length /\
 ∀ q r j,Same H j->H q=none->j q=some (.lst (r.map iV))->Path (fol B g) (2*B.length) d r->Ring (fol B g) (2*B.length) r->Q (.ref q) j
noncomputable def uI(K:ED):Sp:=λN H Q _=>∃(a b:Addr)(m:Nat)(B:En)(g:List (List Nat)),N = [.ref a,.ref b]/\TT K H a b m B g /\
 ∀ q v x j,Same H j->j q=some (.lst v)->bS j v x->b9 (fol B g) (2*B.length) (2*B.length) x->Q (.ref q) j
noncomputable def gh(H:Hp)(ys:List V)(n:Nat)(rs:List (List Nat)):Prop:=ys.length=n/\∀ i,i<n->∃ p a b r O,ys[i]?=some (.ref p)/\H p=some (.tup [iV a,iV b])/\rs[a]?=some r/\2*i∈r/\rs[b]?=some O/\2*i+1∈O
noncomputable def xt(K:ED):Sp:=λN H Q _=>∃(a b:Addr)(M v:List V)(B:En)(f:Nat->Nat)(x:List (List Nat)),N = [.ref a,.ref b]/\SqL K H a M/\dy K H M B/\B.length<=78/\SqL K H b v/\bS H v x/\b9 f (2*B.length) (2*B.length) x /\
 ∀ q o j,Same H j->j q=some (.lst o)->gh j o B.length x->Q (.ref q) j
noncomputable def pq(ns:List Int)(k:Nat):Int:=ns.getD k 0
noncomputable def xJ(K:ED):Sp:=λN H Q _=>∃(a:Addr)(k:Nat)(t:List Int),N = [.ref a,.int (k:Int)]/\SqL K H a (t.map V.int)/\Q (.int (pq t k)) H
noncomputable def spNum:Sp:=λN H Q _=>∃ i:Int,N = [.int i]/\Q (.bl true) H
structure Txt(mg:Str->Option Value):Prop where
 n_len:mg "len" = none
 n_int:mg "int" = none
 n_bool:mg "bool" = none
 n_list:mg "list" = none
 n_tuple:mg "tuple" = none
 n_range:mg "range" = none
 n_enumerate:mg "enumerate" = none
 n_isinstance:mg "isinstance" = none
 n_min:mg "min" = none
 n_sum:mg "sum" = none
 n_sorted:mg "sorted" = none
section
variable{P:Program}{w:World}{K:ED}{mg:Str->Option Value}{base:Heap}
theorem xR:ax ["ties","dart","tie"] ["ties","dart"] (aq xV):=by ac_nf
theorem Dw{f:Addr}{fd:FuncData} (F:Fun K "head" "head" xV f fd):FnOk P w K mg base CX0 1 f fd ["ties","dart"] (Ce K):=by
 refine F.ok xR (λN H Q E h=>?_) (λy A G s H N Q E L h=>?_)
 ·obtain⟨a,M,B,d,rfl,_⟩:=h;rfl
 obtain⟨a,M,B,d,rfl,I,r,e,k⟩:=h;have D:d/2<B.length:=by omega
 have T:B[d/2]?=some B[d/2]:=EA D;obtain⟨p,C,l,g,n,o,u⟩:=r.2 _ _ T;have c:hd B d=if d%2=0 then B[d/2].2 else B[d/2].1:=by unfold hd;rw[T]
 have j:(d:Int)/2=((d/2:Nat):Int):=by omega
 refine⟨_,(ag (au (i:=2) xR.nd rfl (Or.inl rfl) (aB aD (pv 0) (aw bX (pv 1) ai) (λ_ _=>rfl)))
   (ak (aH (i8 (aG dD (aw bh (pv 1) ai) ai (aM _)) (bW (pv 2) rfl) (bW (pv 2) rfl))))),?_⟩
 refine⟨_,rfl,_,rfl,_,_,rfl,rfl,⟨by decide,by decide⟩,a,M,_,_,rfl,rfl,I,(by rw[j];exact aA n),?_⟩
 refine⟨_,rfl,_,_,rfl,rfl,(by show(0:Int)<2;decide),rfl,_,rfl,?_⟩
 refine ite2 (λq=>?_) (λq=>?_)
 ·have J:(d:Int)%2=0:=V.int.inj (of_decide_eq_true q)
  refine⟨_,rfl,p,C,l,_,_,rfl,o,u.cl,u.n2,uG _ _ _,?_⟩;rw[c,if_pos (by omega)]at k
  exact k
 ·have J:¬ (d:Int)%2=0:=λz=>q (decide_eq_true (congrArg V.int z))
  refine⟨_,rfl,p,C,l,_,_,rfl,o,u.cl,u.n1,mS _ _ _,?_⟩;rw[c,if_neg (by omega)]at k
  exact k
theorem vA:ax ["ties","number","place"] ["ties","number","place"] (aq kS):=by ac_nf
theorem vD{f:Addr}{fd:FuncData} (F:Fun K "leaving" "leaving" kS f fd):FnOk P w K mg base CX0 1 f fd ["ties","number","place"] (Cd K):=by
 refine F.ok vA (λN H Q E h=>?_) (λy A G s H N Q E L h=>?_)
 ·obtain⟨a,M,B,t,p,e,rfl,_⟩:=h;rfl
 obtain⟨a,M,B,t,D,e,rfl,I,r,j,k⟩:=h;obtain⟨p,C,l,g,n,o,u⟩:=r.2 _ _ j;have b:CMul 2 (t:Int):=.inl ⟨by decide,by decide⟩
 refine⟨_,(ak (aH (i8 (aG dD (bW (aB aD (pv 0) (pv 1) (λ_ _=>rfl)) rfl) (pv 2) (aM _)) (aw du ai (pv 1)) (aw br (aw du ai (pv 1)) ai)))),?_⟩;refine⟨_,rfl,_,rfl,a,M,_,_,rfl,rfl,I,aA n,p,C,l,_,_,rfl,o,u.cl,u.n1,mS _ _ _,_,rfl,rfl,_,rfl,?_⟩;refine ite2 (λq=>?_) (λq=>?_)
 ·have J:(e.1:Int)=(D:Int):=V.int.inj (of_decide_eq_true q)
  refine⟨_,rfl,_,_,rfl,rfl,b,?_⟩;rw[if_pos (by omega)]at k
  exact k
 ·have J:¬ (e.1:Int)=(D:Int):=λz=>q (decide_eq_true (congrArg V.int z))
  refine⟨_,rfl,_,_,rfl,rfl,b,_,_,rfl,rfl,?_⟩;rw[if_neg (by omega)]at k
  exact k
theorem fB:ax ["ties","turns","dart","place","about","behind"] ["ties","turns","dart"] (aq jF):=by ac_nf
theorem sG{f fh fl:Addr}{fd an ap:FuncData} (F:Fun K "follower" "follower" jF f fd) (T:Txt mg) (aa:Cal P w K mg base 1 "head" ["ties","dart"] (Ce K) fh an) (x:Cal P w K mg base 1 "leaving" ["ties","number","place"] (Cd K) fl ap):FnOk P w K mg base CX0 2 f fd ["ties","turns","dart"] (spFol K):=by
 refine F.ok fB (λN H Q E h=>?_) (λy A G s H N Q E L h=>?_)
 ·obtain⟨a,b,m,B,g,d,rfl,_⟩:=h;rfl
 obtain⟨a,b,m,B,g,d,rfl,u,ab,k⟩:=h;obtain⟨⟨j,J,C⟩,⟨v,Y,o⟩,O,n⟩:=u;obtain⟨l,e,I,r,p3,p4,p5,p6,p7,p8,p9⟩:=O.foll ab;obtain⟨ac,len⟩:=jv O n I;obtain⟨q,c,t⟩:=o.2 _ _ I;have ed:(d:Int)/2=((d/2:Nat):Int):=by omega
 refine⟨_,(ag (au (i:=3) fB.nd rfl (Or.inl rfl) (az aa.ok (L.mono (by decide)) rfl aa.mg aa.kp aa.bn .nil aL (ae (pv 0) (ae (pv 2) ah))))
   (ag (au (i:=4) fB.nd rfl (Or.inl rfl) (aB aD (pv 1) (pv 3) (λ_ _=>rfl)))
   (ag (au (i:=5) fB.nd rfl (Or.inl rfl) (aw bh (aw br (dQ EX Jl Jk u9 (pv 4) (ae (aw bX (pv 2) ai) ah)) ai) (ay ar (by rfl) T.n_len aY (ae (pv 4) ah))))
   (ak (aH (az x.ok (L.mono (by decide)) rfl x.mg x.kp x.bn .nil aL (ae (pv 0) (ae (aB aD (pv 4) (pv 5) (λ_ _=>rfl)) (ae (pv 3) ah))))))))),?_⟩
 refine⟨_,rfl,_,rfl,a,j,B,d,rfl,J,C,ab,?_⟩;refine⟨_,rfl,_,rfl,b,v,_,_,rfl,rfl,Y,aA c,?_⟩;have D:(l.map iV).length=l.length:=EJ _;have al:0<l.length:=FY r;have am:(((l.idxOf (d/2):Nat):Int)+1)%((l.map iV).length:Int)=(((l.idxOf (d/2)+1)%l.length:Nat):Int):=by rw[D];rfl
 refine⟨_,rfl,.inl ⟨rfl,_,SqL.of t⟩,_,rfl,_,_,rfl,rfl,⟨by decide,by decide⟩,q,l,d/2,rfl,congrArg (λz=>[V.int z]) ed,SqL.of t,λp M=>by have:=ac p M;omega,by omega,r,_,_,rfl,rfl,_,rfl,q,_,rfl,.inl (SqL.of t),_,_,rfl,rfl,(by show(0:Int)<((l.map iV).length:Int);rw[D];omega),?_⟩
 refine⟨_,rfl,_,rfl,_,rfl,q,_,_,_,rfl,rfl,SqL.of t,(by rw[am];exact iV_at (gz r)),_,rfl,a,j,B,nxt l (d/2),hd B d,e,rfl,J,C,p3,?_⟩
 rw[p6]at k;exact k
theorem dz:ax ["ties","turns","first","row","dart"] ["ties","turns","first"] (aq gn):=by ac_nf
theorem Dx{f ff:Addr}{fd al:FuncData} (F:Fun K "round_from" "round_from" gn f fd) (p:Cal P w K mg base 2 "follower" ["ties","turns","dart"] (spFol K) ff al):FnOk P w K mg base CX0 3 f fd ["ties","turns","first"] (Cf K):=by
 refine F.ok dz (λN H Q E h=>?_) (λl A G s H N Q E L h=>?_)
 ·obtain⟨a,b,m,B,g,d,rfl,_⟩:=h;rfl
 obtain⟨a,b,m,B,g,d,rfl,tt,ab,k⟩:=h;have pm:=perm tt.w
 refine⟨_,(ag (au (i:=3) dz.nd rfl (Or.inl rfl) (bO (ae (pv 2) ah)))
   (ag (au (i:=4) dz.nd rfl (Or.inl rfl) (az p.ok (L.mono (by decide)) rfl p.mg p.kp p.bn .nil aL (ae (pv 0) (ae (pv 1) (ae (pv 2) ah)))))
   (ag (fN PassesOwn.never (aG lB (pv 4) (pv 2) (aM _)) (ag (aW (dQ EX Ff Fe aZ (pv 3) (ae (pv 4) ah)))
   (ak (au (i:=4) dz.nd rfl (Or.inl rfl) (az p.ok (L.mono (by decide)) rfl p.mg p.kp p.bn .nil aL (ae (pv 0) (ae (pv 1) (ae (pv 4) ah))))))))
   (ak (aH (pv 3)))))),?_⟩
 refine⟨_,rfl,(by show 1<=sizeLine;decide),λq T=>?_⟩
 have J:=aj T (.lst [.int (d:Int)]);refine⟨_,rfl,_,rfl,_,rfl,a,b,m,B,g,d,rfl,tt.mono J,ab,?_⟩;refine fk (λY u=>∃(r:List Nat)(x:Nat),Y = [some (.ref a),some (.ref b),some (.int (d:Int)),some (.ref q),some (iV (fol B g x))]/\Same H u/\u q=some (.lst ((r++[x]).map iV))/\Path (fol B g) (2*B.length) d (r++[x]))
  (λY u=>match u q with | some (.lst M)=>200-M.length | _=>0) ⟨[],d,rfl,J,af,AN ab⟩ ?_ ?_
 ·rintro Y u ⟨r,x,rfl,j,aa,pa⟩;refine⟨_,rfl,_,rfl,rfl,_,rfl,?_⟩;have v:=tt.few;have D:=dv pa.nd pa.lt;refine ite2 (λc=>?_) (λc=>?_)
  ·have C:fol B g x≠d:=λz=>by
    rw[decide_eq_true (show iV (fol B g x)=V.int (d:Int) by rw[z];rfl)]at c
    cases c
   have ac:=pa.snoc pm C;have n:=dv ac.nd ac.lt;have am:fol B g x<2*B.length:=ac.lt _ (by simp)
   refine⟨_,rfl,.inl ⟨rfl,_,SqL.of aa⟩,_,rfl,q,_,_,rfl,rfl,aa,av (by rw[EJ];omega),?_⟩
   have o:=aV j T (.lst ((r++[x]).map iV++[iV (fol B g x)]));refine⟨_,rfl,_,rfl,_,rfl,a,b,m,B,g,fol B g x,rfl,tt.mono o,am,?_⟩;refine⟨⟨r++[x],fol B g x,rfl,o,?_,ac⟩,?_⟩
   ·rw[af,show((r++[x]++[fol B g x]).map iV)=(r++[x]).map iV++[iV (fol B g x)] from by rw[Fv];rfl]
   ·show(match(upd u q (.lst ((r++[x]).map iV++[iV (fol B g x)]))) q with | some (.lst M)=>200-M.length | _=>0)<(match u q with | some (.lst M)=>200-M.length | _=>0)
    rw[af,aa];show 200-((r++[x]).map iV++[iV (fol B g x)]).length<200-((r++[x]).map iV).length;rw[EG,EJ,ES];omega
  ·have C:fol B g x=d:=by
    by_cases z:fol B g x=d
    ·exact z
    ·exact absurd (by rw[decide_eq_false (λy=>z (by have:=V.int.inj y;omega))];rfl) c
   refine⟨_,rfl,?_⟩;exact k q _ u j T aa pa (pa.ring pm C)
 ·rintro Y u Q1 Q2 I ⟨v',e,b',t,O,C,e3,q'⟩;exact⟨v',e,b',t,O,C,e3,I _ _ q'⟩
theorem cz:ax ["ties","turns","rounds","seen","dart","row","gone"] ["ties","turns"] (aq ip):=by ac_nf
theorem yA{f ff:Addr}{fd a6:FuncData} (F:Fun K "rounds_of" "rounds_of" ip f fd) (T:Txt mg) (an:Cal P w K mg base 3 "round_from" ["ties","turns","first"] (Cf K) ff a6):FnOk P w K mg base CX0 4 f fd ["ties","turns"] (uI K):=by
 refine F.ok cz (λN H Q E h=>?_) (λaa A G s H N Q E L h=>?_)
 ·obtain⟨a,b,m,B,ts,rfl,_⟩:=h;rfl
 obtain⟨a,b,m,B,ts,rfl,tt,k⟩:=h;have hu:=y9 L;have pm:=perm tt.w;have am:=tt.few;obtain⟨xs,J,C⟩:=tt.xs
 refine⟨_,(ag (au (i:=2) cz.nd rfl (Or.inl rfl) (bO ah))
   (ag (au (i:=3) cz.nd rfl (Or.inl rfl) oj)
   (ag (bK PassesOwn.never rfl (aN rfl T.n_range (ae (aw du ai (ay ar (by rfl) T.n_len aY (ae (pv 0) ah))) ah)) (aC (i:=4) cz.nd rfl (Or.inl rfl)) (ak (bN (Cj (qa hu (pv 4) (pv 3))) (ag (au (i:=5) cz.nd rfl (Or.inl rfl) (az an.ok (L.mono (by decide)) rfl an.mg an.kp an.bn .nil aL (ae (pv 0) (ae (pv 1) (ae (pv 4) ah)))))
   (ag (aW (dQ EX Ff Fe aZ (pv 2) (ae (pv 5) ah)))
   (ak (bK PassesOwn.never rfl (a8 (pv 5)) (aC (i:=6) cz.nd rfl (Or.inl rfl)) (ak (nX hu (pv 3) (pv 6) mI rfl)))))) aR)))
   (ak (aH (pv 2)))))),?_⟩
 refine⟨(by show 0<=sizeLine;decide),λqr aP=>λqs a4=>?_⟩
 have M:=(aj aP (.lst [])).trans (aj a4 (.dK []));have ba:H qs=none:=by
  cases z:H qs with
  |none=>rfl
  |some o=>rw[aj aP (.lst []) qs o z]at a4;cases a4
 have ac:qr≠qs:=λz=>by rw[← z,af]at a4;cases a4
 have ap:xs.length=B.length:=C.1;have hN:(2*(xs.length:Int)).toNat=2*B.length:=by omega
 refine⟨_,rfl,a,xs,rfl,.inl (M.seq J),_,_,rfl,rfl,.inl ⟨by decide,by decide⟩,_,rfl,by omega,by omega,bZ (n:=(2*(xs.length:Int)).toNat) (λi Y u=>∃ v4 v5 v6 v rs ab,Y = [some (.ref a),some (.ref b),some (.ref qr),some (.ref qs),v4,v5,v6]/\Same H u/\u qr=some (.lst v)/\bb (λp=>p=qr∨p=qs) u v rs/\u qs=some (.dK ab)/\ab.length<=rs.flatten.length/\(∀ d:Nat,(valV ab (Sum.inl (d:Int))).isSome=true↔d∈rs.flatten)/\b9 (fol B ts) (2*B.length) i rs)
  ⟨_,_,_,[],[],[],rfl,M,by rw[ao ac,af],⟨rfl,λi l e=>by simp at e⟩,af,EI _,λd=>by simp[valV],vB _ _⟩ ?_ ?_⟩
 ·rintro i Y u I ⟨v4,v5,v6,v,rs,ab,rfl,s2,D,rx,t,kl,km,ro⟩;rw[hN]at I;have e0:(0:Int)+(i:Int)=(i:Int):=F1 _;rw[e0];have fl:=oP ro;have rl:=AH ro;refine⟨_,rfl,_,rfl,_,_,rfl,DGet.k (k:=Sum.inl (i:Int)) t,_,rfl,?_⟩;refine ite2 (λc=>?_) (λc=>?_)
  ·have a5:i∉rs.flatten:=λz=>by
    rw[(km i).mpr z]at c
    cases c
   refine⟨_,rfl,_,rfl,_,rfl,a,b,m,B,ts,i,rfl,tt.mono s2,I,λq r H3 s3 hq a0 pa ri=>?_⟩;have be:=s2.trans s3;have nq:¬ (q=qr∨q=qs):=by
    rintro(z | z)
    ·rw[z,D]at hq;cases hq
    ·rw[z,t]at hq;cases hq
   refine⟨_,rfl,.inl ⟨rfl,_,SqL.of (s3 _ _ D)⟩,_,rfl,qr,_,_,rfl,rfl,s3 _ _ D,av (by rw[rx.1];omega),?_⟩
   have s4:=aV be aP (.lst (v++[.ref q]));have a1:∀{H5:Hp},bb (λp=>p=qr∨p=qs) H5 (v++[.ref q]) (rs++[r])->H5 q=some (.lst (r.map iV)):=λh=>by
    obtain⟨p,z1,_,z2⟩:=h.2 rs.length r (by rw[EF (EI _),EW];rfl)
    rw[← rx.1,EF (EI _),EW]at z1
    cases z1
    exact z2
   have bd:bb (λp=>p=qr∨p=qs) (upd H3 qr (.lst (v++[.ref q]))) (v++[.ref q]) (rs++[r]):=by
    refine(rx.mono λp o n z=>?_).snoc nq ?_
    ·rw[ao (λz=>n (.inl z))];exact s3 _ _ z
    ·rw[ao (λz=>nq (.inl z))];exact a0
   have rl:r.length<=2*B.length:=dv ri.nd ri.lt
   refine⟨_,rfl,q,rfl,⟨_,SqL.of (a1 bd)⟩,cJ (xs:=r.map iV) (λj Y H5=>∃ v6 al,Y = [some (.ref a),some (.ref b),some (.ref qr),some (.ref qs),some (.int (i:Int)),some (.ref q),v6]/\Same H H5/\H5 qr=some (.lst (v++[.ref q]))/\bb (λp=>p=qr∨p=qs) H5 (v++[.ref q]) (rs++[r])/\H5 qs=some (.dK al)/\al.length<=rs.flatten.length+j/\∀ d:Nat,(valV al (Sum.inl (d:Int))).isSome=true↔d∈rs.flatten∨d∈r.take j)
    ⟨_,ab,rfl,s4,af,bd,by rw[ao ac.symm];exact s3 _ _ t,kl,λd=>by rw[km d];simp⟩ (λj Y H5 _ p=>?_) ?_ ?_⟩
   ·obtain⟨_,_,_,_,_,z,_⟩:=p;exact SqL.of (a1 z)
   ·rintro j x Y H5 O ⟨v6,al,rfl,s5,f1,aT,f2,a3,a2⟩;rw[EO]at O;obtain⟨g,hg,rfl⟩:=Fm.mp O;have bf:j<r.length:=(EB.mp hg).1;refine⟨_,rfl,_,rfl,qs,_,rfl,DPut.k (k:=Sum.inl (g:Int)) f2 (av (by omega)),?_⟩
    refine⟨_,_,rfl,aV s5 ba _,by rw[ao ac];exact f1,aT.mono λp o n z=>by rw[ao (λz=>n (.inr z))];exact z,af,by have:=dX al (Sum.inl (g:Int)) (V.bl true);omega,λd=>?_⟩
    rw[fq];have tk:r.take (j+1)=r.take j++[g]:=by rw[Fj,hg];rfl
    rw[tk];by_cases z:d=g
    ·subst z;simp
    ·rw[if_neg (λy=>z (by have:=Sum.inl.inj y;omega)),a2 d]
     simp[z]
   ·rintro Y H5 ⟨v6,al,rfl,s5,f1,aT,f2,a3,a2⟩;rw[EJ]at a3 a2;refine⟨_,_,_,_,rs++[r],al,rfl,s5,f1,aT,f2,by rw[F5,EG];simpa using a3,λd=>?_,ro.put pm a5 I ri pa⟩
    rw[a2 d,Fu,F5,ER];simp
  ·have bi:i∈rs.flatten:=(km i).mp (by
    cases z:(valV ab (Sum.inl (i:Int))).isSome with
    |true=>rfl
    |false=>exact absurd (by rw[z];rfl) c)
   exact⟨_,_,_,v,rs,ab,rfl,s2,D,rx,t,kl,km,ro.skip bi⟩
 ·rintro Y u ⟨v4,v5,v6,v,rs,ab,rfl,s2,D,rx,t,kl,km,ro⟩;rw[hN]at ro;exact⟨_,rfl,k qr v rs u s2 D rx.off ro⟩
theorem dI:ax ["ties","rounds","number_at","number","row","dart"] ["ties","rounds"] (aq jy):=by ac_nf
theorem AW{f:Addr}{fd:FuncData} (F:Fun K "sides_of" "sides_of" jy f fd) (T:Txt mg):FnOk P w K mg base CX0 1 f fd ["ties","rounds"] (xt K):=by
 refine F.ok dI (λN H Q E h=>?_) (λaa A G s H N Q E L h=>?_)
 ·obtain⟨a,b,xs,v,B,g,rs,rfl,_⟩:=h;rfl
 obtain⟨a,b,xs,v,B,g,rs,rfl,hS,hT,al,hB,hR,ro,k⟩:=h;have hu:=y9 L;have fl:=oP ro
 refine⟨_,(ag (au (i:=2) dI.nd rfl (Or.inr rfl) oj)
   (ag (bK PassesOwn.never rfl (n9 rfl T.n_enumerate (ae (pv 1) ah)) (mX rfl (bx (aC (i:=3) dI.nd rfl (Or.inl rfl)) (bx (aC (i:=4) dI.nd rfl (Or.inl rfl)) gv))) (ak (bK PassesOwn.never rfl (a8 (pv 4)) (aC (i:=5) dI.nd rfl (Or.inl rfl)) (ak (nX hu (pv 2) (pv 5) (pv 3) rfl)))))
   (ak (aH (a9 rfl rfl rfl rfl (fr:=[("number_at",2)]) (xs:=["i"]) (bH.of (by rfl) (by decide) (by rfl) (by decide) (by intro p M;simp only[EE,E5,or_false]at M;rcases M with rfl<;>exact⟨rfl,rfl⟩) (by decide) (by intro p M;simp only[EE,E5,or_false]at M;rcases M with rfl<;>rfl)) (aN rfl T.n_range (ae (ay ar (by rfl) T.n_len aY (ae (pv 0) ah)) ah)) (λC ex s H=>(aC (i:=0) (show(["i","number_at"]:List Str).Nodup from by decide) rfl (Or.inl rfl))) (λC ex s H=>bg) (λC ex s H ps XE=>(cO (ae (lj hu (pv 1) (aw du ai (pv 0)) (λ_ _=>rfl)) (ae (lj hu (pv 1) (aw br (aw du ai (pv 0)) ai) (λ_ _=>rfl)) ah))))))))),?_⟩
 intro q hq;have J:=aj hq (.dK []);have kF:∀ i,(rs.take i).flatten.length<=rs.flatten.length:=λi=>by
  have:=congrArg (λz=>z.flatten.length) (GH i rs);simp only[F5,EG]at this;omega
 refine⟨_,rfl,b,rfl,⟨_,J.seq hB⟩,oO (K:=K) (xs:=v) (λi Y u=>∃ v3 v4 v5 ab,Y = [some (.ref a),some (.ref b),some (.ref q),v3,v4,v5]/\Same H u/\u q=some (.dK ab)/\ab.length<=(rs.take i).flatten.length/\∀(d c:Nat)(r:List Nat),c<i->rs[c]?=some r->d∈r->valV ab (Sum.inl (d:Int))=some (iV c))
  ⟨_,_,_,[],rfl,J,af,FT _,λd c r z=>absurd z (FN _)⟩ (λi Y u _ ⟨_,_,_,_,_,s2,_⟩=>s2.seq hB) ?_ ?_⟩
 ·rintro i x Y u T2 O ⟨v3,v4,v5,ab,rfl,s2,m,kl,km⟩ an;have a2:i<rs.length:=by
   have:=(EB.mp O).1;rw[hR.1]at this;exact this
  have am:rs[i]?=some rs[i]:=EA a2;obtain⟨p,x1,x2⟩:=hR.2 i _ am;rw[O]at x1
  cases x1
  generalize rs[i]=r at am x2;have s3:Same H (upd u T2 (.tup [.int (i:Int),.ref p])):=s2.trans (aj an _);have f1:(rs.take (i+1)).flatten=(rs.take i).flatten++r:=by rw[Fj,am];simp
  have f2:=kF (i+1);rw[f1,EG]at f2;refine⟨T2,_,rfl,SqT.of af,rfl,_,_,rfl,_,_,rfl,rfl,?_⟩
  refine⟨_,rfl,p,rfl,⟨_,SqL.of (s3 _ _ x2)⟩,cJ (xs:=r.map iV) (λj Y H5=>∃ v5 ac,Y = [some (.ref a),some (.ref b),some (.ref q),some (.int (i:Int)),some (.ref p),v5]/\Same H H5/\H5 q=some (.dK ac)/\ac.length<=(rs.take i).flatten.length+j/\(∀(d c:Nat)(r:List Nat),c<i->rs[c]?=some r->d∈r->valV ac (Sum.inl (d:Int))=some (iV c))/\∀ d∈r.take j,valV ac (Sum.inl (d:Int))=some (iV i))
   ⟨_,ab,rfl,s3,aj an _ _ _ m,kl,km,λd hd=>by simp at hd⟩ (λj Y H5 _ ⟨_,_,_,z,_⟩=>SqL.of (z _ _ x2)) ?_ ?_⟩
  ·rintro j x Y H5 aT ⟨v5,ac,rfl,s5,g1,a1,a0,a4⟩;rw[EO]at aT;obtain⟨g,hg,rfl⟩:=Fm.mp aT;have a5:j<r.length:=(EB.mp hg).1;refine⟨_,rfl,_,rfl,_,rfl,q,_,rfl,DPut.k (k:=Sum.inl (g:Int)) g1 (av (by omega)),?_⟩
   refine⟨_,_,rfl,aV s5 hq _,af,by have:=dX ac (Sum.inl (g:Int)) (V.int (i:Int));omega,λd c r' n a3 hd=>?_,λd hd=>?_⟩
   ·rw[fq,if_neg (λz=>?_)]
    ·exact a0 d c r' n a3 hd
    ·have z':d=g:=by have:=Sum.inl.inj z;omega
     subst z';have:=lR ro.nd a3 am hd (EC hg);omega
   ·rw[fq];by_cases z:d=g
    ·subst z;rw[if_pos rfl];rfl
    ·rw[if_neg (λy=>z (by have:=Sum.inl.inj y;omega))]
     refine a4 d ?_;rw[Fj,hg]at hd;simpa[z] using hd
  ·rintro Y H5 ⟨v5,ac,rfl,s5,g1,a1,a0,a4⟩;rw[EJ]at a1 a4;rw[Fu]at a4;refine⟨_,_,_,ac,rfl,s5,g1,by rw[f1,EG];exact a1,λd c r' n a3 hd=>?_⟩
   by_cases z:c=i
   ·subst z;rw[am]at a3
    cases a3
    exact a4 d hd
   ·exact a0 d c r' (by omega) a3 hd
 ·rintro Y u ⟨v3,v4,v5,ab,rfl,s2,m,kl,km⟩;rw[hR.1]at km;have get:∀ d,d<2*B.length->∃ c r,rs[c]?=some r/\d∈r/\valV ab (Sum.inl (d:Int))=some (iV c):=λd hd=>by
   obtain⟨r,z1,z2⟩:=Fp.mp (ro.all d hd);obtain⟨c,z3⟩:=FD.mp z1;exact⟨c,r,z3,z2,km d c r (EB.mp z3).1 z3 z2⟩
  have ap:xs.length=B.length:=hT.1;refine⟨_,rfl,a,xs,rfl,.inl (s2.seq hS),_,rfl,by omega,by omega,cn (λi o H3=>Same u H3/\gh H3 o i rs) (by rw[EN,ap];exact Fq (av (by omega))) ⟨λ_ _ e=>e,rfl,λi I=>absurd I (FN _)⟩ ?_ ?_⟩
  ·rintro i o H3 I ⟨s3,sd⟩;have e0:(0:Int)+(i:Int)=(i:Int):=F1 _;rw[e0];rw[EN,ap]at I;obtain⟨c1,r1,z1,z2,z3⟩:=get (2*i) (by omega)
   obtain⟨c2,r2,y1,y2,y3⟩:=get (2*i+1) (by omega)
   have m2:CMul 2 (i:Int):=.inl ⟨by decide,by decide⟩
   have d1:DGet H3 q (V.int (2*(i:Int))) (some (iV c1)):=by
    rw[← z3,show((2*i:Nat):Int)=2*(i:Int) by omega]
    exact DGet.k (k:=Sum.inl (2*(i:Int))) (s3 _ _ m)
   have d2:DGet H3 q (V.int (2*(i:Int)+1)) (some (iV c2)):=by
    rw[← y3,show((2*i+1:Nat):Int)=2*(i:Int)+1 by omega]
    exact DGet.k (k:=Sum.inl (2*(i:Int)+1)) (s3 _ _ m)
   refine⟨_,rfl,_,rfl,_,_,rfl,rfl,m2,q,_,rfl,d1,_,rfl,_,rfl,_,_,rfl,rfl,m2,_,_,rfl,rfl,q,_,rfl,d2,(by show 2<=sizeLine;decide),λt l=>?_⟩
   have s4:=aj l (.tup [iV c1,iV c2]);refine⟨s3.trans s4,by rw[EG,sd.1];rfl,λj hj=>?_⟩
   by_cases z:j=i
   ·subst z;exact⟨t,c1,c2,r1,r2,by rw[← sd.1,EF (EI _),EW];rfl,af,z1,z2,y1,y2⟩
   ·obtain⟨p,a',b',r,r',w1,w2,w3⟩:=sd.2 j (by omega)
    exact⟨p,a',b',r,r',by rw[EH (by rw[sd.1];omega)];exact w1,s4 _ _ w2,w3⟩
  ·rintro o H3 aP ⟨s3,sd⟩ D hD;rw[EN,ap]at sd
   exact k D o _ ((s2.trans s3).trans (aj hD _)) af ⟨sd.1,λi I=>by
    obtain⟨p,a',b',r,r',w1,w2,w3⟩:=sd.2 i I
    exact⟨p,a',b',r,r',w1,aj hD _ _ _ w2,w3⟩⟩
theorem nM:ax ["self","one","two","strength"] ["self","one","two","strength"] (aq cD):=by ac_nf
theorem Dv{f:Addr}{fd:FuncData} (F:Fun K "__init__" "Tie.__init__" cD f fd):FnOk P w K mg base CX0 1 f fd ["self","one","two","strength"] (jQ K):=by
 refine F.ok nM (λN H Q E h=>?_) (λy A d s H N Q E L h=>?_)
 ·obtain⟨p,C,l,a,b,s,rfl,_⟩:=h;rfl
 obtain⟨p,C,l,a,b,st,rfl,M,T,x,B,G,J,k⟩:=h
 refine⟨_,(ag (bN (aG dD (pv 1) (pv 2) (aM _)) (ak cH) aR)
   (ag (bN (PW.pt (rZ (aG yw (pv 1) ai (aM _)) (kZ (aG yw (pv 2) ai (aM _))))) (ak cH) aR)
   (ag (bN (aG yw (pv 3) ai (aM _)) (ak cH) aR)
   (ag (jT (pv 0) (pv 1) rfl)
   (ag (jT (pv 0) (pv 2) rfl)
   (ak (jT (pv 0) (pv 3) rfl))))))),?_⟩
 walk_at "rd";refine ite2 (λc=>absurd (V.int.inj (of_decide_eq_true c)) x) (λ_=>?_);walk_at "rd";refine ite2 (λc=>absurd (of_decide_eq_true c) (by omega)) (λ_=>?_)
 walk_at "rd";refine ite2 (λc=>absurd (of_decide_eq_true c) (by omega)) (λ_=>?_)
 walk_at "rd";refine ite2 (λc=>absurd (of_decide_eq_true c) (by omega)) (λ_=>?_)
 refine⟨_,rfl,_,rfl,p,C,l,[],rfl,M,T.cl,T.n1,(by show 0<1000;decide),?_⟩
 refine⟨_,rfl,_,rfl,p,C,l,_,rfl,af,T.cl,T.n2,f1_len a,?_⟩;refine⟨_,rfl,_,rfl,p,C,l,_,rfl,af,T.cl,T.n3,f2_len a b,?_⟩;exact k _ af λq o e v=>by rw[ao v,ao v,ao v];exact e
theorem rS:ax ["script","k"] ["script","k"] (aq jE):=by ac_nf
theorem Dy{f:Addr}{fd:FuncData} (F:Fun K "_law_cell" "_law_cell" jE f fd) (T:Txt mg):FnOk P w K mg base CX0 1 f fd ["script","k"] (xJ K):=by
 refine F.ok rS (λN H Q E h=>?_) (λy A G s H N Q E L h=>?_)
 ·obtain⟨a,k,t,rfl,_⟩:=h;rfl
 obtain⟨a,k,t,rfl,I,q⟩:=h
 refine⟨_,(ag (bN (aG yw (pv 1) (ay ar (by rfl) T.n_len aY (ae (pv 0) ah)) (aM _)) (ak (aH (aB aD (pv 0) (pv 1) (λ_ _=>rfl)))) aR)
   (ak (aH ai))),?_⟩
 refine⟨_,rfl,_,rfl,a,_,rfl,.inl I,_,_,rfl,rfl,_,rfl,?_⟩;refine ite2 (λc=>?_) (λc=>?_)
 ·have C:(k:Int)<((t.map V.int).length:Int):=of_decide_eq_true c
  rw[EJ]at C;have g:k<t.length:=by omega
  have i:atI (t.map V.int) (k:Int)=some (.int (pq t k)):=aA (by rw[EO,EA g];unfold pq;rw[Fs,EA g];rfl)
  exact⟨_,rfl,_,rfl,a,_,_,_,rfl,rfl,I,i,q⟩
 ·have C:¬ (k:Int)<((t.map V.int).length:Int):=λz=>c (decide_eq_true z)
  rw[EJ]at C;have e:pq t k=0:=by unfold pq;rw[Fs,HZ (by omega)];rfl
  rw[e]at q;exact q
theorem at0{u v:V}:atI [u,v] 0=some u:=rfl
theorem at1{u v:V}:atI [u,v] 1=some v:=rfl
theorem DJ{H:Hp}{a:Addr}{ps:List Nat}(h:SqL K H a (ps.map iV)):RdD K H (.ref a) (.list ((ps.map λ(p:Nat)=>((p:Nat):Int)).map PyData.int)):=by
 refine RdD.lst h (by simp) λi x d T Q=>?_
 rw[EO]at T;rw[EO,EO]at Q
 cases z:ps[i]? with
 |none=>rw[z]at T;cases T
 |some n =>
  rw[z]at T Q
  cases T
  cases Q
  exact .int _
theorem yX(l:List Int):(PyData.list (l.map PyData.int)).canLay0=true/\(PyData.list (l.map PyData.int)).depth<=10:=by
 have J:∀ d∈l.map PyData.int,d.canLay0=true/\d.depth<=1:=λd hd=>by
  obtain⟨x,_,rfl⟩:=FJ.mp hd;exact⟨by simp[PyData.canLay0],by simp[PyData.depth]⟩
 have C:=gR λd hd=>(J d hd).1;have G:=iR λd hd=>(J d hd).2;exact⟨by simp only[PyData.canLay0];exact C,by simp only[PyData.depth];omega⟩
theorem cR.put{H:Hp}{ys:List V}{es:En}{q:Addr}{zs:List V}{o:HO}(t:cR H ys es)(h:H q=some (.lst zs)):cR (upd H q o) ys es:=⟨t.1,λi e z=>by
 obtain⟨p,a,b⟩:=t.2 i e z;refine⟨p,a,?_⟩;rw[ao (λz=>by rw[z,h]at b;cases b)]
 exact b⟩
theorem cR.snoc{H:Hp}{xs:List V}{es:En}{e:Nat×Nat}{p:Addr}(t:cR H xs es)(h:H p=some (.tup [iV e.1,iV e.2])):cR H (xs++[.ref p]) (es++[e]):=by
 refine⟨by rw[EG,EG,t.1];rfl,λj k y=>?_⟩
 by_cases E:j<es.length
 ·rw[EH E]at y;obtain⟨p,B,s⟩:=t.2 j k y;exact⟨p,by rw[EH (by rw[t.1];exact E)];exact B,s⟩
 ·rw[EF (by omega)]at y
  have b:j=es.length:=by
   have:=(EB.mp y).1;rw[ES]at this;omega
  subst b;rw[EW]at y
  cases y
  exact⟨p,by rw[← t.1,EF (EI _),EW];rfl,h⟩
theorem DW{l:List Nat}{k n:Nat}:(ins l k n).length=l.length+1:=by
 unfold ins;rw[EG,E7,Fy,Ge];omega
theorem Cm(X:Int)(n:Nat):0<=X%((n:Int)+1)/\X%((n:Int)+1)<=(n:Int):=⟨GB _ (by omega),by have:=Gd X (show(0:Int)<(n:Int)+1 by omega);omega⟩
noncomputable def Dist(xs:List V):Prop:=∀(i j:Nat)(p:Addr),xs[i]?=some (.ref p)->xs[j]?=some (.ref p)->i=j
theorem bb.set{S:Addr->Prop}{H:Hp}{xs:List V}{ts:List (List Nat)}{i:Nat}{p:Addr}{l':List Nat}(h:bb S H xs ts)(D:Dist xs)(e:xs[i]?=some (.ref p)):bb S (upd H p (.lst (l'.map iV))) xs (ts.set i l'):=by
 refine⟨by rw[Fc];exact h.1,λj l z=>?_⟩
 have I:i<ts.length:=by rw[← h.1];exact(EB.mp e).1
 rw[Fl]at z;by_cases E:i=j
 ·subst E;rw[if_pos rfl,if_pos I]at z
  cases z
  obtain⟨A,B,s,f⟩:=h.2 i _ (EA I);rw[e]at B
  cases B
  exact⟨p,e,s,af⟩
 ·rw[if_neg E]at z;obtain⟨A,B,s,f⟩:=h.2 j l z;exact⟨A,B,s,by rw[ao (λy=>by rw[y]at B;exact E (D i j p e B))];exact f⟩
theorem insV{l:List Nat}{k n:Nat}:(l.map iV).take k++V.int (n:Int)::(l.map iV).drop k=(ins l k n).map iV:=by
 unfold ins;rw[Fv,E6,Hx,Hy];rfl
theorem xY{H:Hp}{a:Addr}{xs:List V}{ts:List (List Nat)}(h:SqL K H a xs)(k:bS H xs ts):RdD K H (.ref a) (.list (ts.map λl=>PyData.list ((l.map λ(p:Nat)=>((p:Nat):Int)).map PyData.int))):=by
 refine RdD.lst h (by rw[EJ];exact k.1) λi x d T Q=>?_
 rw[EO]at Q;obtain⟨l,D,rfl⟩:=Fm.mp Q;obtain⟨p,B,s⟩:=k.2 i l D;rw[T]at B
 cases B
 exact DJ (SqL.of s)
theorem rY(ts:List (List Nat)):SeqAt.shaped (.list (ts.map λl=>PyData.list ((l.map λ(p:Nat)=>((p:Nat):Int)).map PyData.int)))=true:=rN λd hd=>by
 obtain⟨l,_,rfl⟩:=FJ.mp hd;exact yX _
end
end K8
namespace K8
open PySem L2
noncomputable def xG(K:ED):Sp:=λN H Q _=>∃(a:Addr)(v:List V)(B:En)(d:Nat),N = [.ref a,.int (d:Int)]/\SqL K H a v/\cR H v B/\d<2*B.length/\Q (iV (hd B d)) H
section
variable{P:Program}{w:World}{K:ED}{mg:Str->Option Value}{base:Heap}
theorem rR:ax ["ends","dart"] ["ends","dart"] (aq jD):=by ac_nf
theorem A7{f:Addr}{fd:FuncData} (F:Fun K "_law_head" "_law_head" jD f fd):FnOk P w K mg base CX0 1 f fd ["ends","dart"] (xG K):=by
 refine F.ok rR (λN H Q E h=>?_) (λy A G s H N Q E L h=>?_)
 ·obtain⟨a,v,B,d,rfl,_⟩:=h;rfl
 obtain⟨a,v,B,d,rfl,I,b,e,k⟩:=h;have D:d/2<B.length:=by omega
 have T:B[d/2]?=some B[d/2]:=EA D;obtain⟨p,n,o⟩:=b.2 _ _ T;have q:hd B d=if d%2=0 then B[d/2].2 else B[d/2].1:=by unfold hd;rw[T]
 have j:(d:Int)/2=((d/2:Nat):Int):=by omega
 have i:atI [iV B[d/2].1,iV B[d/2].2] (1-(d:Int)%2)=some (iV (hd B d)):=by
  by_cases z:d%2=0
  ·rw[q,if_pos z,show(1-(d:Int)%2)=1 by omega];rfl
  ·rw[q,if_neg z,show(1-(d:Int)%2)=0 by omega];rfl
 refine⟨_,(ak (aH (aB aK (aB aD (pv 0) (aw bX (pv 1) ai) (λ_ _=>rfl)) (aw ly ai (aw bh (pv 1) ai)) (λ_ _=>rfl)))),?_⟩;exact⟨_,rfl,_,rfl,_,_,rfl,rfl,⟨by decide,by decide⟩,a,v,_,_,rfl,rfl,I,(by rw[j];exact aA n),_,rfl,_,_,rfl,rfl,(by show(0:Int)<2;decide),_,_,rfl,rfl,p,_,_,_,rfl,rfl,SqT.of o,i,k⟩
end
theorem Gr.joinP{m:Nat}{es:En}{ts:List (List Nat)}(g:Gr m es ts){left right one two:Nat}{e:Nat×Nat}{l l' xs ys:List Nat}{rest:List (List Nat)}(hl:left<2*es.length)(L:CR (fol es ts) (2*es.length) (left::(xs++right::ys)))(k:chain (fol es ts) left (xs++right::ys) left)(i:right∈left::(xs++right::ys))
  (J:hd es left=one) (h2:hd es right=two) (N:one≠two) (j:e=(one,two)∨e=(two,one)) (e1:ts[one]?=some l) (Q:ts[two]?=some l')
  (pr:Part (fol es ts) (2*es.length) ((left::(xs++right::ys))::rest)) :
  Part (fol (es++[e]) ((ts.set one (ins l (l.idxOf (left/2)+1) es.length)).set two (ins l' (l'.idxOf (right/2)+1) es.length))) (2*(es++[e]).length) ((left::bD es.length e one::ys)::(right::bD es.length e two::xs)::rest):=by
 have w:=g.w;have aP:right<2*es.length:=L.lt right i;have D:=w.len;have o1:one<m:=by rw[← D];exact(EB.mp e1).1
 have o2:two<m:=by rw[← D];exact(EB.mp Q).1
 have W:bz m (es++[e]) ((ts.set one (ins l (l.idxOf (left/2)+1) es.length)).set two (ins l' (l'.idxOf (right/2)+1) es.length)):=by
  rcases j with rfl | rfl
  ·exact w.put o1 o2 N e1 Q
  ·exact(w.put o1 o2 N e1 Q).flip
 have C:((ts.set one (ins l (l.idxOf (left/2)+1) es.length)).set two (ins l' (l'.idxOf (right/2)+1) es.length))[one]?=some (ins l (l.idxOf (left/2)+1) es.length):=by
  rw[Fl,if_neg (λz=>N z.symm),Fl,if_pos rfl,if_pos (by rw[D];exact o1)]
 have c:((ts.set one (ins l (l.idxOf (left/2)+1) es.length)).set two (ins l' (l'.idxOf (right/2)+1) es.length))[two]?=some (ins l' (l'.idxOf (right/2)+1) es.length):=by
  rw[Fl,if_pos rfl,if_pos (by rw[Fc,D];exact o2)]
 have r3:∀ p,p≠one->p≠two->((ts.set one (ins l (l.idxOf (left/2)+1) es.length)).set two (ins l' (l'.idxOf (right/2)+1) es.length))[p]?=ts[p]?:=λp r h=>by
  rw[Fl,if_neg (λz=>h z.symm),Fl,if_neg (λz=>r z.symm)]
 generalize (ts.set one (ins l (l.idxOf (left/2)+1) es.length)).set two (ins l' (l'.idxOf (right/2)+1) es.length)=ts' at W C c r3;obtain⟨B,s,a3⟩:=jK (e:=e) w e1 hl J C;obtain⟨b1,b2,b3⟩:=jK (e:=e) w Q aP h2 c;obtain⟨d1,d2,d3,d4⟩:=kE (es:=es) N j;have fa:=b2 _ (aX _ _ _) d1;have fb:=s _ (aX _ _ _) d2;have ac:∀ d,d<2*es.length->d≠left->d≠right->fol (es++[e]) ts' d=fol es ts d:=λd A r h=>by
  by_cases f:hd es d=one
  ·exact a3 d A r f
  ·by_cases v:hd es d=two
   ·exact b3 d A h v
   ·exact kD w A (r3 _ f v)
 generalize E:bD es.length e one=α at *;generalize G:bD es.length e two=β at *;have a0:α/2=es.length:=by rw[← E];exact aX _ _ _
 have a4:β/2=es.length:=by rw[← G];exact aX _ _ _
 have aT:right≠left:=λz=>N (by rw[← J,← h2,z])
 have a6:right∈xs++right::ys:=by
  rcases EE.mp i with z | z
  ·exact absurd z aT
  ·exact z
 obtain⟨c1,c2⟩:=cy.mp k;have o:=L.nd;have aa:∀ t∈xs,t<2*es.length/\t≠left/\t≠right:=λt Y=>by
  refine⟨L.lt t (by simp[Y]),λz=>?_,λz=>?_⟩
  ·subst z;exact(EL.mp o).1 (by simp[Y])
  ·subst z;have:=(EU.mp (EL.mp o).2).2.2 t Y t (by simp)
   exact this rfl
 have ab:∀ t∈ys,t<2*es.length/\t≠left/\t≠right:=λt Y=>by
  refine⟨L.lt t (by simp[Y]),λz=>?_,λz=>?_⟩
  ·subst z;exact(EL.mp o).1 (by simp[Y])
  ·subst z;exact(EL.mp (EU.mp (EL.mp o).2).2.1).1 Y
 have an:=pr.nd;rw[Fb]at an;obtain⟨_,ap,al⟩:=EU.mp an;have am:∀ t∈rest.flatten,t<2*es.length/\t≠left/\t≠right:=λt Y=>by
  obtain⟨q,n,M⟩:=Fp.mp Y;exact⟨(pr.cr q (EK _ n)).lt t M,λz=>al left (by simp) t Y z.symm,λz=>al right (by simp) t Y z.symm⟩
 have I:(es++[e]).length=es.length+1:=by rw[EG];rfl
 have PP:Part (fol (es++[e]) ts') (2*(es++[e]).length) ((left::α::ys)::(right::β::xs)::rest):=by
  refine⟨λq T=>?_,?_,λd A=>?_⟩
  ·rcases EE.mp T with z | z
   ·subst z;refine⟨⟨left,α::ys,rfl,B,eE c2 fa λt Y=>ac t (ab t Y).1 (ab t Y).2.1 (ab t Y).2.2⟩,λd A=>?_,?_⟩
    ·rw[I];simp only[EE]at A;rcases A with y | y | y
     ·omega
     ·omega
     ·have:=(ab d y).1;omega
    ·refine EL.mpr ⟨λy=>?_,EL.mpr ⟨λy=>?_,?_⟩⟩
     ·rcases EE.mp y with y | y
      ·omega
      ·exact(ab _ y).2.1 rfl
     ·have:=(ab _ y).1;omega
     ·exact(EL.mp (EU.mp (EL.mp o).2).2.1).2
   ·rcases EE.mp z with z | z
    ·subst z;refine⟨⟨right,β::xs,rfl,b1,eE c1 fb λt Y=>ac t (aa t Y).1 (aa t Y).2.1 (aa t Y).2.2⟩,λd A=>?_,?_⟩
     ·rw[I];simp only[EE]at A;rcases A with y | y | y
      ·omega
      ·omega
      ·have:=(aa d y).1;omega
     ·refine EL.mpr ⟨λy=>?_,EL.mpr ⟨λy=>?_,?_⟩⟩
      ·rcases EE.mp y with y | y
       ·omega
       ·exact(aa _ y).2.2 rfl
      ·have:=(aa _ y).1;omega
      ·exact(EU.mp (EL.mp o).2).1
    ·refine(pr.cr q (EK _ z)).mono (by rw[I];omega) λt Y=>?_
     obtain⟨k1,k2,k3⟩:=am t (Fp.mpr ⟨q,z,Y⟩);exact ac t k1 k2 k3
  ·have a5:∀ x∈xs,∀ y∈ys,x≠y:=λx O y H=>(EU.mp (EL.mp o).2).2.2 x O y (by simp[H])
   rw[Fb,Fb];refine EU.mpr ⟨?_,EU.mpr ⟨?_,ap,λa E b G=>?_⟩,λa E b G=>?_⟩
   ·refine EL.mpr ⟨λy=>?_,EL.mpr ⟨λy=>?_,(EL.mp (EU.mp (EL.mp o).2).2.1).2⟩⟩
    ·rcases EE.mp y with y | y
     ·omega
     ·exact(ab _ y).2.1 rfl
    ·have:=(ab _ y).1;omega
   ·refine EL.mpr ⟨λy=>?_,EL.mpr ⟨λy=>?_,(EU.mp (EL.mp o).2).1⟩⟩
    ·rcases EE.mp y with y | y
     ·omega
     ·exact(aa _ y).2.2 rfl
    ·have:=(aa _ y).1;omega
   ·obtain⟨k1,k2,k3⟩:=am b G;simp only[EE]at E;rcases E with y | y | y
    ·exact λz=>k3 (z▸y)
    ·omega
    ·exact al a (by simp[y]) b G
   ·simp only[EE,ER]at E G;rcases G with(y | y | y) | y
    ·rcases E with z | z | z
     ·exact λu=>aT (by rw[← y,← u,z])
     ·have:=aP;omega
     ·exact λu=>(ab a z).2.2 (u.trans y)
    ·rcases E with z | z | z
     ·omega
     ·omega
     ·have:=(ab a z).1;omega
    ·rcases E with z | z | z
     ·exact λu=>(aa b y).2.1 (u▸z)
     ·have:=(aa b y).1;omega
     ·exact λu=>a5 b y a z u.symm
    ·obtain⟨k1,k2,k3⟩:=am b y;rcases E with z | z | z
     ·exact λu=>k2 (u▸z)
     ·omega
     ·exact al a (by simp[z]) b y
  ·rw[I]at A;simp only[Fb,ER,EE];rcases d4 d A with y | y | y
   ·have:=pr.all d y
    simp only[Fb,ER,EE]at this;rcases this with(z | z | z | z) | z
    ·exact .inl (.inl z)
    ·exact .inr (.inl (.inr (.inr z)))
    ·exact .inr (.inl (.inl z))
    ·exact .inl (.inr (.inr z))
    ·exact .inr (.inr z)
   ·exact .inl (.inr (.inl y))
   ·exact .inr (.inl (.inr (.inl y)))
 exact PP
theorem Gr.leafP{m:Nat}{es:En}{ts:List (List Nat)}(g:Gr m es ts){left one:Nat}{e:Nat×Nat}{l tail:List Nat}{rest:List (List Nat)}(hl:left<2*es.length)(L:CR (fol es ts) (2*es.length) (left::tail))(i:chain (fol es ts) left tail left)
  (J:hd es left=one) (o:e=(one,m)∨e=(m,one)) (e1:ts[one]?=some l)
  (pr:Part (fol es ts) (2*es.length) ((left::tail)::rest)) :
  Part (fol (es++[e]) (ts.set one (ins l (l.idxOf (left/2)+1) es.length)++[[es.length]])) (2*(es++[e]).length) ((left::bD es.length e one::bD es.length e m::tail)::rest):=by
 have w:=g.w;have D:=w.len;have Q:one<m:=by rw[← D];exact(EB.mp e1).1
 have N:one≠m:=by omega
 have W:bz (m+1) (es++[e]) (ts.set one (ins l (l.idxOf (left/2)+1) es.length)++[[es.length]]):=by
  have q:=w.room.put (one:=one) (two:=m) (k:=l.idxOf (left/2)+1) (j:=0) (l:=l) (l':=[]) (by omega) (by omega) N (by rw[EH (by omega)];exact e1) (by rw[EF (by omega),D,EW];rfl)
  have M:((ts++[[]]).set one (ins l (l.idxOf (left/2)+1) es.length)).set m (ins [] 0 es.length)=ts.set one (ins l (l.idxOf (left/2)+1) es.length)++[[es.length]]:=by
   rw[Ig _ _ (by omega),List.set_append_right _ _ (by rw[Fc];omega),Fc,D,EW]
   rfl
  rw[M]at q;rcases o with rfl | rfl
  ·exact q
  ·exact q.flip
 have C:(ts.set one (ins l (l.idxOf (left/2)+1) es.length)++[[es.length]])[one]?=some (ins l (l.idxOf (left/2)+1) es.length):=by
  rw[EH (by rw[Fc];omega),Fl,if_pos rfl,if_pos (by omega)]
 have c:(ts.set one (ins l (l.idxOf (left/2)+1) es.length)++[[es.length]])[m]?=some [es.length]:=by
  rw[EF (by rw[Fc];omega),Fc,D,EW]
  rfl
 have r3:∀ p,p≠one->p<m->(ts.set one (ins l (l.idxOf (left/2)+1) es.length)++[[es.length]])[p]?=ts[p]?:=λp r v=>by
  rw[EH (by rw[Fc];omega),Fl,if_neg (λz=>r z.symm)]
 generalize ts.set one (ins l (l.idxOf (left/2)+1) es.length)++[[es.length]]=ts' at W C c r3;obtain⟨B,s,H⟩:=jK (e:=e) w e1 hl J C;obtain⟨d1,d2,d3,d4⟩:=kE (es:=es) N o;have fb:=s _ (aX _ _ _) d2;have fa:fol (es++[e]) ts' (bD es.length e one)=bD es.length e m:=by
  rw[cV (l:=[es.length]) (by rw[d1];exact c),aX,d1]
  have:nxt [es.length] es.length=es.length:=by
   unfold nxt;rw[Ih];simp
  rw[this,lH];rfl
 have aa:∀ d,d<2*es.length->d≠left->fol (es++[e]) ts' d=fol es ts d:=λd A r=>by
  by_cases f:hd es d=one
  ·exact H d A r f
  ·obtain⟨_,_,_,_,_,k4,_⟩:=w.at A;exact kD w A (r3 _ f k4)
 generalize E:bD es.length e one=α at *;generalize G:bD es.length e m=β at *;have ap:α/2=es.length:=by rw[← E];exact aX _ _ _
 have aP:β/2=es.length:=by rw[← G];exact aX _ _ _
 have h:=L.nd;have al:∀ t∈tail,t<2*es.length/\t≠left:=λt Y=>⟨L.lt t (by simp[Y]),λz=>(EL.mp h).1 (z▸Y)⟩
 have am:=pr.nd;rw[Fb]at am;obtain⟨_,an,ab⟩:=EU.mp am;have ac:∀ t∈rest.flatten,t<2*es.length/\t≠left:=λt Y=>by
  obtain⟨q,n,M⟩:=Fp.mp Y;exact⟨(pr.cr q (EK _ n)).lt t M,λz=>ab left (by simp) t Y z.symm⟩
 have I:(es++[e]).length=es.length+1:=by rw[EG];rfl
 have aT:(left::α::β::tail).Nodup:=by
  refine EL.mpr ⟨λy=>?_,EL.mpr ⟨λy=>?_,EL.mpr ⟨λy=>?_,(EL.mp h).2⟩⟩⟩
  ·simp only[EE]at y;rcases y with y | y | y
   ·omega
   ·omega
   ·exact(al _ y).2 rfl
  ·simp only[EE]at y;rcases y with y | y
   ·exact d3 y
   ·have:=(al _ y).1;omega
  ·have:=(al _ y).1;omega
 have PP:Part (fol (es++[e]) ts') (2*(es++[e]).length) ((left::α::β::tail)::rest):=by
  refine⟨λq T=>?_,?_,λd A=>?_⟩
  ·rcases EE.mp T with z | z
   ·subst z;refine⟨⟨left,α::β::tail,rfl,B,fa,eE i fb λt Y=>aa t (al t Y).1 (al t Y).2⟩,λd A=>?_,aT⟩;rw[I];simp only[EE]at A;rcases A with y | y | y | y
    ·omega
    ·omega
    ·omega
    ·have:=(al d y).1;omega
   ·refine(pr.cr q (EK _ z)).mono (by rw[I];omega) λt Y=>?_
    obtain⟨x,O⟩:=ac t (Fp.mpr ⟨q,z,Y⟩);exact aa t x O
  ·rw[Fb];refine EU.mpr ⟨aT,an,λa E b G=>?_⟩;obtain⟨x,O⟩:=ac b G;simp only[EE]at E;rcases E with y | y | y | y
   ·exact λu=>O (u▸y)
   ·omega
   ·omega
   ·exact ab a (by simp[y]) b G
  ·rw[I]at A;simp only[Fb,ER,EE];rcases d4 d A with y | y | y
   ·have:=pr.all d y
    simp only[Fb,ER,EE]at this;rcases this with(z | z) | z
    ·exact .inl (.inl z)
    ·exact .inl (.inr (.inr (.inr z)))
    ·exact .inr z
   ·exact .inl (.inr (.inl y))
   ·exact .inl (.inr (.inr (.inl y)))
 exact PP
theorem CR.turn{f:Nat->Nat}{N:Nat}{A B:List Nat}(h:CR f N (A++B))(O:B≠[]):CR f N (B++A):=by
 have u:(B++A).Perm (A++B):=F7;refine⟨?_,λd hd=>h.lt d (u.mem_iff.mp hd),u.nodup_iff.mpr h.nd⟩;match A,B,h,O with
 |[],B,h,_ =>
  rw[GV];exact h.ch
 |x::A,b::B,h,_ =>
  obtain⟨y,l,e,c⟩:=h.ch;rw[GD]at e
  cases e
  obtain⟨c1,c2⟩:=cy.mp c;exact⟨b,B++x::A,rfl,cy.mpr ⟨c2,c1⟩⟩
theorem Part.perm{f:Nat->Nat}{N:Nat}{rs rs':List (List Nat)}(p:Part f N rs)(h:rs.Perm rs'):Part f N rs' :=
 ⟨λr L=>p.cr r (h.mem_iff.mpr L),h.flatten.nodup_iff.mp p.nd,λd hd=>h.flatten.mem_iff.mp (p.all d hd)⟩
theorem Part.swap{f:Nat->Nat}{N:Nat}{r r':List Nat}{rest:List (List Nat)}(p:Part f N (r::rest))(h:CR f N r')(u:r'.Perm r):Part f N (r'::rest):=by
 have q:((r'::rest).flatten).Perm ((r::rest).flatten):=by
  rw[Fb,Fb];exact u.append_right _
 refine⟨λx O=>?_,q.nodup_iff.mpr p.nd,λd hd=>q.mem_iff.mpr (p.all d hd)⟩;rcases EE.mp O with z | z
 ·rw[z];exact h
 ·exact p.cr x (EK _ z)
theorem oi:∀{rs:List (List Nat)}{i:Nat}{r:List Nat},rs[i]?=some r->rs.Perm (r::rs.eraseIdx i)
 |[],i,r,h=>by cases h
 |x::rs,0,r,h=>by cases h;exact List.Perm.refl _
 |x::rs,i+1,r,h=>by
  have Y:=oi (rs:=rs) (i:=i) (r:=r) h;show(x::rs).Perm (r::x::rs.eraseIdx i);exact(Y.cons x).trans (List.Perm.swap r x _)
theorem uW{rs:List (List Nat)}{i:Nat}(I:i<rs.length)(r:List Nat):(r::rs.eraseIdx i).Perm (rs.set i r):=by
 have h:(rs.set i r)[i]?=some r:=by rw[HU I]
 have:=oi h;rw[List.eraseIdx_set_eq]at this;exact this.symm
theorem xo{m:Nat}{es:En}{ts c:List (List Nat)}(g:Gr m es ts)(pt:Part (fol es ts) (2*es.length) c){w left right one two:Nat}{A B C:List Nat}(hw:c[w]?=some (A++left::(B++right::C))){e:Nat×Nat}{l l':List Nat}(J:hd es left=one)(h2:hd es right=two)(N:one≠two)(j:e=(one,two)∨e=(two,one))(e1:ts[one]?=some l)(Q:ts[two]?=some l') :
  Gr m (es++[e]) ((ts.set one (ins l (l.idxOf (left/2)+1) es.length)).set two (ins l' (l'.idxOf (right/2)+1) es.length)) /\
  Part (fol (es++[e]) ((ts.set one (ins l (l.idxOf (left/2)+1) es.length)).set two (ins l' (l'.idxOf (right/2)+1) es.length))) (2*(es++[e]).length) (c.set w (A++left::bD es.length e one::C)++[B++[right,bD es.length e two]]):=by
 have d:=(EB.mp hw).1;have I:=pt.perm (oi hw);have c0:=I.cr _ (EM ..);have c1:CR (fol es ts) (2*es.length) (left::(B++right::(C++A))):=by
  have:=c0.turn (List.cons_ne_nil _ _);rw[GD,Gk,GD]at this;exact this
 have u:(left::(B++right::(C++A))).Perm (A++left::(B++right::C)):=by
  have:(left::(B++right::C)++A).Perm (A++left::(B++right::C)):=F7;rw[GD,Gk,GD]at this;exact this
 have r:=I.swap c1 u;have D:=c1.lt left (EM ..);obtain⟨x,tl,b,f⟩:=c1.ch
 cases b
 have i:right∈left::(B++right::(C++A)):=by simp
 refine⟨g.join D c1 f i J h2 N j e1 Q,?_⟩;have q:=g.joinP D c1 f i J h2 N j e1 Q r;generalize (ts.set one (ins l (l.idxOf (left/2)+1) es.length)).set two (ins l' (l'.idxOf (right/2)+1) es.length)=ts' at q ⊢;generalize bD es.length e one=a at q ⊢;generalize bD es.length e two=H at q ⊢;have d1:CR (fol (es++[e]) ts') (2*(es++[e]).length) (A++left::a::C):=by
  have h:=q.cr _ (EM ..);by_cases p:A = []
  ·subst p;rw[GV]at h;exact h
  ·have G:CR (fol (es++[e]) ts') (2*(es++[e]).length) ((left::a::C)++A):=h
   exact G.turn p
 have k:(A++left::a::C).Perm (left::a::(C++A)):=(F7:(A++(left::a::C)).Perm ((left::a::C)++A));have n:=q.swap d1 k;have M:=n.perm (List.Perm.swap _ _ _);have d2:CR (fol (es++[e]) ts') (2*(es++[e]).length) (B++[right,H]):=by
  have h:=M.cr _ (EM ..);by_cases O:B = []
  ·subst O;exact h
  ·have G:CR (fol (es++[e]) ts') (2*(es++[e]).length) ([right,H]++B):=h
   exact G.turn O
 have t:=M.swap d2 (F7:(B++[right,H]).Perm ([right,H]++B));refine t.perm ?_;refine(List.Perm.cons _ (uW d _)).trans ?_;exact(F7:([B++[right,H]]++c.set w (A++left::a::C)).Perm _)
theorem xn{m:Nat}{es:En}{ts c:List (List Nat)}(g:Gr m es ts)(pt:Part (fol es ts) (2*es.length) c){w left one:Nat}{A B:List Nat}(hw:c[w]?=some (A++left::B)){e:Nat×Nat}{l:List Nat}(J:hd es left=one)(j:e=(one,m)∨e=(m,one))(e1:ts[one]?=some l) :
  Gr (m+1) (es++[e]) (ts.set one (ins l (l.idxOf (left/2)+1) es.length)++[[es.length]]) /\
  Part (fol (es++[e]) (ts.set one (ins l (l.idxOf (left/2)+1) es.length)++[[es.length]])) (2*(es++[e]).length) (c.set w (A++left::bD es.length e one::bD es.length e m::B)):=by
 have d:=(EB.mp hw).1;have I:=pt.perm (oi hw);have c0:=I.cr _ (EM ..);have c1:CR (fol es ts) (2*es.length) (left::(B++A)):=c0.turn (List.cons_ne_nil _ _);have r:=I.swap c1 (F7:((left::B)++A).Perm (A++left::B));have D:=c1.lt left (EM ..);obtain⟨x,tl,b,N⟩:=c1.ch
 cases b
 refine⟨g.leaf D c1 N J j e1,?_⟩;have q:=g.leafP D c1 N J j e1 r;generalize ts.set one (ins l (l.idxOf (left/2)+1) es.length)++[[es.length]]=ts' at q ⊢;generalize bD es.length e one=a at q ⊢;generalize bD es.length e m=H at q ⊢;have d1:CR (fol (es++[e]) ts') (2*(es++[e]).length) (A++left::a::H::B):=by
  have h:=q.cr _ (EM ..);by_cases p:A = []
  ·subst p;rw[GV]at h;exact h
  ·have G:CR (fol (es++[e]) ts') (2*(es++[e]).length) ((left::a::H::B)++A):=h
   exact G.turn p
 have n:=q.swap d1 (F7:(A++(left::a::H::B)).Perm ((left::a::H::B)++A));exact n.perm (uW d _)
noncomputable def Ca(K:ED):Sp:=λN H Q _=>∃(pt q:Addr)(M:List V)(p d n:Nat)(l:List Nat),N = [.ref pt,.int (p:Int),.int (d:Int),.int (n:Int)]/\SqL K H pt M/\M[p]?=some (.ref q)/\H q=some (.lst (l.map iV))/\d/2∈l/\l.length<=70/\(∀ x∈l,x<1000)/\Q .non (upd H q (.lst ((ins l (l.idxOf (d/2)+1) n).map iV)))
section
variable{P:Program}{w:World}{K:ED}{mg:Str->Option Value}{base:Heap}
theorem mV:ax ["turns","place","behind","fresh","row"] ["turns","place","behind","fresh"] (aq kW):=by ac_nf
theorem ok_put{f:Addr}{fd:FuncData} (F:Fun K "_law_put" "_law_put" kW f fd):FnOk P w K mg base CX0 1 f fd ["turns","place","behind","fresh"] (Ca K):=by
 refine F.ok mV (λN H Q E h=>?_) (λy A G s H N Q E L h=>?_)
 ·obtain⟨pt,q,j,p,d,n,l,rfl,_⟩:=h;rfl
 obtain⟨pt,q,j,p,d,n,l,rfl,I,O,T,hd,a,c,D⟩:=h;have g:l.idxOf (d/2)<l.length:=List.idxOf_lt_length_of_mem hd;have b:(l.map iV).length=l.length:=EJ ..;have e:(d:Int)/2=((d/2:Nat):Int):=by omega
 refine⟨_,(ag (au (i:=4) mV.nd rfl (Or.inl rfl) (aB aD (pv 0) (pv 1) (λ_ _=>rfl)))
   (ak (aW (dQ EX Jg Jf qo (pv 4) (ae (aw br (dQ EX Jl Jk u9 (pv 4) (ae (aw bX (pv 2) ai) ah)) ai) (ae (pv 3) ah)))))),?_⟩
 refine⟨_,rfl,_,rfl,pt,j,_,_,rfl,rfl,I,aA O,?_⟩;refine⟨_,rfl,.inl ⟨rfl,_,SqL.of T⟩,_,rfl,.inl ⟨rfl,_,SqL.of T⟩,_,rfl,_,_,rfl,rfl,⟨by decide,by decide⟩,q,l,d/2,rfl,congrArg (λz=>[V.int z]) e,SqL.of T,λp M=>by have:=c p M;omega,by omega,hd,_,_,rfl,rfl,_,rfl,q,_,_,_,rfl,rfl,T,by omega,by omega,av (by omega),?_⟩
 rw[insV,show(((l.idxOf (d/2):Nat):Int)+1).toNat=l.idxOf (d/2)+1 by omega]
 exact D
end
structure GwC(S:Addr->Prop)(H:Hp)(pe pt pr:Addr)(ys xs zs:List V)(es:En)(ts rg:List (List Nat)):Prop where
 he:H pe=some (.lst ys)
 en:cR H ys es
 ht:H pt=some (.lst xs)
 rx:bb (λp=>p=pe∨p=pt∨p=pr∨S p) H xs ts
 di:Dist xs
 hr:H pr=some (.lst zs)
 rz:bb (λp=>(p=pe∨p=pt∨p=pr)∨V.ref p∈xs∨S p) H zs rg
 ne:pe≠pt/\pe≠pr/\pt≠pr/\¬ S pe/\¬ S pt/\¬ S pr
 sl:∀ p,S p->H p≠none
noncomputable def Keep(S:Addr->Prop)(H H':Hp):Prop:=∀ p o,S p->H p=some o->H' p=some o
theorem Keep.trans{S:Addr->Prop}{H H1 H2:Hp}(a:Keep S H H1)(b:Keep S H1 H2):Keep S H H2:=λp o s h=>b p o s (a p o s h)
theorem Keep.of{S:Addr->Prop}{H H1:Hp}(a:Same H H1):Keep S H H1:=λp o _ h=>a p o h
theorem Keep.upd{S:Addr->Prop}{H:Hp}{q:Addr}{o:HO}(n:¬ S q):Keep S H (upd H q o):=λp u s h=>by rw[ao (show p≠q from λz=>n (z▸s))];exact h
theorem wR{S:Addr->Prop}{H:Hp}{xs:List V}{ts:List (List Nat)}(h:bb S H xs ts){p:Addr}(m:V.ref p∈xs):H p≠none:=by
 obtain⟨i,I⟩:=FD.mp m;have a:=(EB.mp I).1;obtain⟨A,B,_,f⟩:=h.2 i _ (EA (by rw[← h.1];exact a))
 rw[I]at B
 cases B
 rw[f];exact λz=>nomatch z
section
variable{S:Addr->Prop}{H H':Hp}{pe pt pr:Addr}{ys xs zs:List V}{es:En}{ts rg:List (List Nat)}
theorem GwC.same(c:GwC S H pe pt pr ys xs zs es ts rg)(s:Same H H'):GwC S H' pe pt pr ys xs zs es ts rg :=
 ⟨s _ _ c.he,c.en.mono s,s _ _ c.ht,c.rx.mono λp o _ z=>s _ _ z,c.di,s _ _ c.hr,c.rz.mono λp o _ z=>s _ _ z,c.ne,λp m z=>by
  cases y:H p with
  |none=>exact c.sl p m y
  |some o=>rw[s _ _ y]at z;cases z⟩
theorem GwC.new(c:GwC S H pe pt pr ys xs zs es ts rg){b:Addr}(h:H b=none):b≠pe/\b≠pt/\b≠pr/\¬ S b/\V.ref b∉xs/\V.ref b∉zs :=
 ⟨λz=>(by rw[z,c.he]at h;cases h),λz=>(by rw[z,c.ht]at h;cases h),λz=>(by rw[z,c.hr]at h;cases h),λz=>c.sl b z h,λz=>wR c.rx z h,λz=>wR c.rz z h⟩
theorem GwC.put(c:GwC S H pe pt pr ys xs zs es ts rg){i:Nat}{q:Addr}(O:xs[i]?=some (.ref q))(l':List Nat):GwC S (upd H q (.lst (l'.map iV))) pe pt pr ys xs zs es (ts.set i l') rg/\¬ S q:=by
 have a:i<ts.length:=by rw[← c.rx.1];exact(EB.mp O).1
 obtain⟨J,B,s,f⟩:=c.rx.2 i _ (EA a);rw[O]at B
 cases B
 have r:pe≠q:=λz=>s (.inl z.symm);have v:pt≠q:=λz=>s (.inr (.inl z.symm));have u:pr≠q:=λz=>s (.inr (.inr (.inl z.symm)));have x:¬ S q:=λz=>s (.inr (.inr (.inr z)));refine⟨⟨by rw[ao r];exact c.he,c.en.put f,by rw[ao v];exact c.ht,c.rx.set c.di O,c.di,by rw[ao u];exact c.hr,c.rz.mono λp o n z=>?_,c.ne,λp m z=>?_⟩,x⟩
 ·rw[ao (show p≠q from λy=>n (.inr (.inl (y▸EC O))))];exact z
 ·rw[ao (show p≠q from λy=>x (y▸m))]at z;exact c.sl p m z
theorem GwC.updR(c:GwC S H pe pt pr ys xs zs es ts rg){a:List V}{rg':List (List Nat)}(hz:bb (λp=>(p=pe∨p=pt∨p=pr)∨V.ref p∈xs∨S p) H a rg'):GwC S (upd H pr (.lst a)) pe pt pr ys xs a es ts rg':=by
 obtain⟨r,v,u,x,I,L⟩:=c.ne;refine⟨by rw[ao v];exact c.he,c.en.put c.hr,by rw[ao u];exact c.ht,c.rx.mono λp o n z=>?_,c.di,af,hz.mono λp o n z=>?_,c.ne,λp m z=>?_⟩
 ·rw[ao (λy=>n (.inr (.inr (.inl y))))];exact z
 ·rw[ao (λy=>n (.inl (.inr (.inr y))))];exact z
 ·rw[ao (show p≠pr from λy=>L (y▸m))]at z;exact c.sl p m z
theorem pU{S:Addr->Prop}{H:Hp}{zs:List V}{rg:List (List Nat)}(h:bb S H zs rg){W:Nat}{b:Addr}{r:List Nat}(n:¬ S b)(e:H b=some (.lst (r.map iV))):bb S H (zs.set W (.ref b)) (rg.set W r):=by
 refine⟨by rw[Fc,Fc];exact h.1,λj l z=>?_⟩
 rw[Fl]at z ⊢;by_cases E:W=j
 ·rw[if_pos E]at z ⊢;by_cases D:W<rg.length
  ·rw[if_pos D]at z
   cases z
   exact⟨b,by rw[if_pos (by rw[h.1];exact D)],n,e⟩
  ·rw[if_neg D]at z;cases z
 ·rw[if_neg E]at z ⊢;exact h.2 j l z
theorem GwC.leaf(c:GwC S H pe pt pr ys xs zs es ts rg){pn:Addr}(M:pn≠pe/\pn≠pt/\pn≠pr/\¬ S pn/\V.ref pn∉xs/\V.ref pn∉zs){l:List Nat}(e:H pn=some (.lst (l.map iV))):GwC S (upd H pt (.lst (xs++[.ref pn]))) pe pt pr ys (xs++[.ref pn]) zs es (ts++[l]) rg:=by
 obtain⟨r,v,u,x,I,L⟩:=c.ne;obtain⟨J,w,h,A,E,G⟩:=M;have R:=c.rx.snoc (q:=pn) (l:=l) (by rintro(z | z | z | z);exact J z;exact w z;exact h z;exact A z) e
 refine⟨by rw[ao r];exact c.he,c.en.put c.ht,af,R.mono λp o n z=>?_,λi j p T Q=>?_,by rw[ao (Ne.symm u)];exact c.hr,⟨c.rz.1,λi l D=>?_⟩,c.ne,λp m z=>?_⟩
 ·rw[ao (λy=>n (.inr (.inl y)))];exact z
 ·have d:∀ k,(xs++[V.ref pn])[k]?=some (.ref p)->(xs[k]?=some (.ref p))∨(k=xs.length/\p=pn):=λk t=>by
   by_cases g:k<xs.length
   ·rw[EH g]at t;exact .inl t
   ·have:=(EB.mp t).1
    rw[EG,ES]at this;have C:k=xs.length:=by omega
    subst C;rw[EF (EI _),EW]at t
    cases t
    exact .inr ⟨rfl,rfl⟩
  rcases d i T with a | ⟨a,Y⟩
  ·rcases d j Q with b | ⟨b,N⟩
   ·exact c.di i j p a b
   ·exact absurd (N▸EC a) E
  ·rcases d j Q with b | ⟨b,N⟩
   ·exact absurd (Y▸EC b) E
   ·rw[a,b]
 ·obtain⟨p,B,s,f⟩:=c.rz.2 i l D;refine⟨p,B,?_,?_⟩
  ·rintro(y | y | y)
   ·exact s (.inl y)
   ·rcases ER.mp y with y | y
    ·exact s (.inr (.inl y))
    ·have:p=pn:=by
      have:=Fi.mp y
      cases this;rfl
     exact G (this▸EC B)
   ·exact s (.inr (.inr y))
  ·rw[ao (λy=>s (.inl (.inr (.inl y))))];exact f
 ·rw[ao (show p≠pt from λy=>I (y▸m))]at z;exact c.sl p m z
theorem GwC.fin(c:GwC S H pe pt pr ys xs zs es ts rg){i:Nat}{q:Addr}(O:xs[i]?=some (.ref q))(l':List Nat){t:Addr}(Y:(upd H q (.lst (l'.map iV))) t=none)(e:Nat×Nat) :
  GwC S (upd (upd (upd H q (.lst (l'.map iV))) t (.tup [iV e.1,iV e.2])) pe (.lst (ys++[.ref t]))) pe pt pr (ys++[.ref t]) xs zs (es++[e]) (ts.set i l') rg/\Keep S H (upd (upd (upd H q (.lst (l'.map iV))) t (.tup [iV e.1,iV e.2])) pe (.lst (ys++[.ref t]))):=by
 obtain⟨c1,b⟩:=c.put O l';have a:=aj Y (.tup [iV e.1,iV e.2]);have c2:=c1.same a;obtain⟨r,v,u,x,I,L⟩:=c.ne;refine⟨⟨af,(c2.en.snoc af).put c2.he,by rw[ao (Ne.symm r)];exact c2.ht,c2.rx.mono λp o n z=>?_,c2.di,by rw[ao (Ne.symm v)];exact c2.hr,c2.rz.mono λp o n z=>?_,c.ne,λp m z=>?_⟩,?_⟩
 ·rw[ao (λy=>n (.inl y))];exact z
 ·rw[ao (λy=>n (.inl (.inl y)))];exact z
 ·rw[ao (show p≠pe from λy=>x (y▸m))]at z;exact c2.sl p m z
 ·exact((Keep.upd b).trans (Keep.of a)).trans (Keep.upd x)
end
noncomputable def GwA(S:Addr->Prop)(H:Hp)(pe pt pr:Addr)(m:Nat)(es:En)(ts rg:List (List Nat)):Prop:=(∃ v M o,GwC S H pe pt pr v M o es ts rg)/\Gr m es ts/\Part (fol es ts) (2*es.length) rg
noncomputable def stepT:TS:=λD Y H=>∃(C pt q r:Addr)(k g e d f h b i:Option V)(a L one two n o:Nat)(M v:List V)(ring l:List Nat),Y = [k,some (.ref C),some (.ref pt),g,e,d,f,h,some (.ref r),some (.int (a:Int)),b,some (.int (one:Int)),some (.int (two:Int)),some (.int (n:Int)),some (.int ((2*n+o:Nat):Int)),i]/\o<2/\H pt=some (.lst M)/\M[one]?=some (.ref q)/\H q=some (.lst (l.map iV))/\L/2∈l/\l.length<=70/\(∀ x∈l,x<1000)/\H r=some (.lst (ring.map iV))/\ring[a]?=some L/\q≠C/\H C=some (.lst v)/\v.length<=70 /\
 ∀ t,(upd H q (.lst ((ins l (l.idxOf (L/2)+1) n).map iV))) t=none->D.nx Y (upd (upd (upd H q (.lst ((ins l (l.idxOf (L/2)+1) n).map iV))) t (.tup (if o=0 then[iV one,iV two] else[iV two,iV one]))) C (.lst (v++[.ref t])))
noncomputable def Ey(S:Addr->Prop)(H:Hp)(pe pt pr:Addr)(N P:Nat)(Q:Hp->Prop):Prop:=∀(d:Nat)(es':En)(ts' b:List (List Nat))(j:Hp),Keep S H j->GwA S j pe pt pr d es' ts' b->N<=es'.length->es'.length<=N+1->d<=P->Q j
noncomputable def stepO:TS:=λD Y H=>∃(S:Addr->Prop)(c:Int)(C pt O f:Addr)(P m W a b:Nat)(d h e j k l i:Option V)(v M o:List V)(B:En)(g r:List (List Nat))(ring:List Nat),Y = [some (.int c),some (.ref C),some (.ref pt),some (.ref O),some (.int (P:Int)),d,some (.int (W:Int)),h,some (.ref f),some (.int (a:Int)),some (.int (b:Int)),e,j,k,l,i]/\GwC S H C pt O v M o B g r/\Gr m B g/\Part (fol B g) (2*B.length) r/\B.length<=62/\m<=P/\o[W]?=some (.ref f)/\r[W]?=some ring/\H f=some (.lst (ring.map iV))/\a<=b/\b<ring.length/\(∀ z,Ey S H C pt O B.length P (D.nx z))/\Ey S H C pt O B.length P (D.rt .non)
theorem rJ{r:List Nat}{a L:Nat}(h:r[a]?=some L):r.take (a+1)=r.take a++[L]:=by
 rw[Fj,h];rfl
theorem nE{r:List Nat}{a L:Nat}(h:r[a]?=some L):r=r.take a++L::r.drop (a+1):=by
 have:=(GH (a+1) r).symm;rw[rJ h,Gk]at this;exact this
theorem xq{r:List Nat}{a b L R:Nat}(h:r[a]?=some L)(h2:r[b]?=some R)(lt:a<b):r=r.take a++L::((r.drop (a+1)).take (b-a-1)++R::r.drop (b+1)):=by
 have e:(r.drop (a+1))[b-a-1]?=some R:=by rw[Iv,show a+1+(b-a-1)=b by omega];exact h2
 have:=nE e;rw[List.drop_drop,show a+1+(b-a-1+1)=b+1 by omega]at this
 rw[← this];exact nE h
theorem mid_at{r:List Nat}{a b R:Nat}(h2:r[b]?=some R)(lt:a<b):(r.drop (a+1)).take (b-a)=(r.drop (a+1)).take (b-a-1)++[R]:=by
 have e:(r.drop (a+1))[b-a-1]?=some R:=by rw[Iv,show a+1+(b-a-1)=b by omega];exact h2
 rw[show b-a=b-a-1+1 by omega]
 exact rJ e
theorem Em{xs:List V}{c:Nat}(h:c<=xs.length):cutV xs (some (c:Int)) none=xs.drop c:=by
 unfold cutV;rw[HT.sIx_nat,G7 h];show(xs.drop c).take (xs.length-c)=_;exact FX (by rw[Ge];exact EI _)
theorem El{xs:List V}{c:Nat}(h:c<=xs.length):cutV xs none (some (c:Int))=xs.take c:=by
 unfold cutV;rw[HT.sIx_nat,G7 h];show(xs.drop 0).take (c-0)=_;rw[Jc,Nat.sub_zero]
theorem Ek{xs:List V}{c d:Nat}(h:c<=xs.length)(h2:d<=xs.length):cutV xs (some (c:Int)) (some (d:Int))=(xs.drop c).take (d-c):=by
 unfold cutV;rw[HT.sIx_nat,HT.sIx_nat,G7 h,G7 h2]
theorem cZ{H G:Hp}{p:Addr}(sm:Same H G)(z:G p=none):H p=none:=by
 cases y:H p with
 |none=>rfl
 |some o=>rw[sm _ _ y]at z;cases z
theorem BQ{n o x y:Nat}(o2:o<2)(ne:x≠y):bD n (if o=0 then(x,y) else(y,x)) x=2*n+o/\bD n (if o=0 then(x,y) else(y,x)) y=2*n+1-o:=by
 by_cases z:o=0
 ·subst z;rw[if_pos rfl];unfold bD;exact⟨by rw[if_pos rfl];rfl,by rw[if_neg ne];rfl⟩
 ·have:o=1:=by omega
  subst this;rw[if_neg (by decide)]
  unfold bD;exact⟨by rw[if_neg (Ne.symm ne)],by rw[if_pos rfl];rfl⟩
theorem B3{o x y:Nat}:HO.tup (if o=0 then[iV x,iV y] else[iV y,iV x])=HO.tup [iV (if o=0 then(x,y) else(y,x)).1,iV (if o=0 then(x,y) else(y,x)).2]:=by
 by_cases z:o=0
 ·rw[if_pos z,if_pos z]
 ·rw[if_neg z,if_neg z]
theorem yv{o x y:Nat}:(if o=0 then(x,y) else(y,x))=(x,y)∨(if o=0 then(x,y) else(y,x))=(y,x):=by
 by_cases z:o=0
 ·exact .inl (if_pos z)
 ·exact .inr (if_neg z)
theorem ng{m:Nat}{es:En}{ts:List (List Nat)}(g:Gr m es ts):m<=es.length+2:=by
 obtain⟨x,_,c⟩:=g.part;omega
noncomputable def B7:Sp:=λN H Q _=>∃(S:Addr->Prop)(c:Int)(C pt O:Addr)(P m:Nat)(B:En)(g r:List (List Nat)),N = [.int c,.ref C,.ref pt,.ref O,.int (P:Int)]/\GwA S H C pt O m B g r/\0<B.length/\B.length<=62/\m<=P/\Ey S H C pt O B.length P (Q .non)
section
variable{P:Program}{w:World}{K:ED}{mg:Str->Option Value}{base:Heap}
theorem aU:ax ["cell","ends","turns","rings","places","mixed","which","rest","ring","a","b","one","two","fresh","out","back"] ["cell","ends","turns","rings","places"] (aq jB):=by ac_nf
theorem Dm{f fh fp:Addr}{fd dh dp:FuncData} (F:Fun K "_law_step" "_law_step" jB f fd) (T:Txt mg) (ac:Cal P w K mg base 1 "_law_head" ["ends","dart"] (xG K) fh dh) (an:Cal P w K mg base 1 "_law_put" ["turns","place","behind","fresh"] (Ca K) fp dp):FnOk P w K mg base CX0 2 f fd ["cell","ends","turns","rings","places"] B7:=by
 refine F.ok aU (λN H Q E h=>?_) (λy A k s H N Q E v h=>?_)
 ·obtain⟨S,c,pe,pt,pr,P,m,B,ts,rg,rfl,_⟩:=h;rfl
 obtain⟨S,c,pe,pt,pr,P,m,B,ts,rg,rfl,⟨⟨I,xs,p,C⟩,g,part⟩,e0,am,mP,kk⟩:=h
 refine⟨_,(ag (au (i:=5) aU.nd rfl (Or.inl rfl) (aw bh (aw du (aw bh (pv 0) ai) ai) ai))
   (ag (au (i:=6) aU.nd rfl (Or.inl rfl) (aw bh (aw bX (pv 5) ai) (ay ar (by rfl) T.n_len aY (ae (pv 3) ah))))
   (ag (au (i:=7) aU.nd rfl (Or.inl rfl) (aw bX (aw bX (pv 5) ai) (ay ar (by rfl) T.n_len aY (ae (pv 3) ah))))
   (ag (au (i:=8) aU.nd rfl (Or.inl rfl) (aB aD (pv 3) (pv 6) (λ_ _=>rfl)))
   (ag (au (i:=9) aU.nd rfl (Or.inl rfl) (aw bh (pv 7) (ay ar (by rfl) T.n_len aY (ae (pv 8) ah))))
   (ag (au (i:=10) aU.nd rfl (Or.inl rfl) (pv 9))
   (ag (bN (aG dD (aw bh (pv 5) ai) ai (aM _)) (ak (au (i:=10) aU.nd rfl (Or.inl rfl) (aw br (pv 9) (aw bh (aw bX (pv 7) (ay ar (by rfl) T.n_len aY (ae (pv 8) ah))) (aw ly (ay ar (by rfl) T.n_len aY (ae (pv 8) ah)) (pv 9)))))) aR)
   (jG (t2:=stepO) (ag (au (i:=11) aU.nd rfl (Or.inl rfl) (az ac.ok (v.mono (by decide)) rfl ac.mg ac.kp ac.bn .nil aL (ae (pv 1) (ae (aB aD (pv 8) (pv 9) (λ_ _=>rfl)) ah))))
   (ag (au (i:=12) aU.nd rfl (Or.inl rfl) (az ac.ok (v.mono (by decide)) rfl ac.mg ac.kp ac.bn .nil aL (ae (pv 1) (ae (aB aD (pv 8) (pv 10) (λ_ _=>rfl)) ah))))
   (ag (au (i:=13) aU.nd rfl (Or.inl rfl) (ay ar (by rfl) T.n_len aY (ae (pv 1) ah)))
   (ag (au (i:=14) aU.nd rfl (Or.inl rfl) (aw br (aw du ai (pv 13)) (aw bh (aw bX (pv 0) ai) ai)))
   (ag (au (i:=15) aU.nd rfl (Or.inl rfl) (aw ly (aw br (aw du ai (pv 13)) ai) (pv 14)))
   (ag (bN (PW.pt (pw_and (aG dD (pv 11) (pv 12) (aM _)) (Df (aG Dk (ay ar (by rfl) T.n_len aY (ae (pv 2) ah)) (pv 4) (aM _))))) (ak Dg) aR)
   (ag (bN (aG dD (pv 11) (pv 12) (aM _)) (ag (au (i:=12) aU.nd rfl (Or.inl rfl) (ay ar (by rfl) T.n_len aY (ae (pv 2) ah)))
   (ag (aW (dQ EX Ff Fe aZ (pv 2) (ae (bO (ae (pv 13) ah)) ah)))
   (ak (jU (aw lC (aw lC (dB fx (pv 8) iB (dN (aw br (pv 9) ai))) (bO (ae (pv 14) (ae (pv 15) ah)))) (dB fx (pv 8) (dN (aw br (pv 9) ai)) iB)) (jW (pv 3) (pv 6) d7))))) (ag (aW (az an.ok (v.mono (by decide)) rfl an.mg an.kp an.bn .nil aL (ae (pv 2) (ae (pv 12) (ae (aB aD (pv 8) (pv 10) (λ_ _=>rfl)) (ae (pv 13) ah))))))
   (ag (jU (aw lC (aw lC (dB fx (pv 8) iB (dN (aw br (pv 9) ai))) (bO (ae (pv 14) ah))) (dB fx (pv 8) (dN (aw br (pv 10) ai)) iB)) (jW (pv 3) (pv 6) d7))
   (ak (aW (dQ EX Ff Fe aZ (pv 3) (ae (aw lC (dB fx (pv 8) (dN (aw br (pv 9) ai)) (dN (aw br (pv 10) ai))) (bO (ae (pv 15) ah))) ah)))))))
   (jG (t2:=stepT) (ag (aW (az an.ok (v.mono (by decide)) rfl an.mg an.kp an.bn .nil aL (ae (pv 2) (ae (pv 11) (ae (aB aD (pv 8) (pv 9) (λ_ _=>rfl)) (ae (pv 13) ah))))))
   (ak (bN (aG dD (aw bh (pv 14) ai) ai (aM _)) (ak (aW (dQ EX Ff Fe aZ (pv 1) (ae (cO (ae (pv 11) (ae (pv 12) ah))) ah)))) (ak (aW (dQ EX Ff Fe aZ (pv 1) (ae (cO (ae (pv 12) (ae (pv 11) ah))) ah))))))) (λD0 S0 H0 h0=>?restp))))))))) (λD0 S0 H0 h0=>?resto))))))))),?_⟩
 case restp =>
  obtain⟨pe,pt,q,rg,v0,v3,v4,v5,v6,v7,ap,bR,a,L,one,two,n,o,xs,I,ring,l,rfl,o2,a4,O,hq,hL,cp,lb,dj,dn,dq,aT,dV,kk⟩:=h0;have cx:(ring.map iV)[a]?=some (iV L):=by rw[EO,dn];rfl
  refine⟨_,rfl,_,rfl,_,rfl,_,rfl,rg,_,_,_,rfl,rfl,SqL.of dj,aA cx,_,rfl,pt,q,xs,one,L,n,l,rfl,SqL.of a4,O,hq,hL,cp,lb,?_⟩;have bB:(upd H0 q (.lst ((ins l (l.idxOf (L/2)+1) n).map iV))) pe=some (.lst I):=by rw[ao (Ne.symm dq)];exact aT
  refine⟨_,rfl,_,_,rfl,rfl,(by show(0:Int)<2;decide),rfl,_,rfl,ite2 (λc=>?_) (λc=>?_)⟩
  ·have c':((2*n+o:Nat):Int)%2=0:=V.int.inj (of_decide_eq_true c)
   have o0:o=0:=by omega
   refine⟨_,rfl,.inl ⟨rfl,_,SqL.of bB⟩,_,rfl,_,rfl,(by show 2<=sizeLine;decide),λt Y=>⟨pe,I,_,rfl,rfl,aj Y _ _ _ bB,av (by omega),?_⟩⟩
   have:=kk t Y;rw[if_pos o0]at this;exact this
  ·have c':¬ ((2*n+o:Nat):Int)%2=0:=λz=>c (decide_eq_true (congrArg V.int z))
   have o0:¬ o=0:=by omega
   refine⟨_,rfl,.inl ⟨rfl,_,SqL.of bB⟩,_,rfl,_,rfl,(by show 2<=sizeLine;decide),λt Y=>⟨pe,I,_,rfl,rfl,aj Y _ _ _ bB,av (by omega),?_⟩⟩
   have:=kk t Y;rw[if_neg o0]at this;exact this
 case resto =>
  clear C g part kk mP am e0;obtain⟨S,c,pe,pt,pr,rq,P,m,W,a,b,v5,v7,a0,bU,cv,cw,bR,I,xs,p,B,ts,rg,ring,rfl,C,g,part,am,mP,dr,bY,bi,ab,bl,kN,kR⟩:=h0;have wf:=g.w;have mf:=ng g;have cr:=part.cr ring (EC bY);obtain⟨L,hL⟩:∃ L,ring[a]?=some L:=⟨_,EA (by omega)⟩
  obtain⟨R,hR⟩:∃ R,ring[b]?=some R:=⟨_,EA bl⟩;have cB:=cr.lt L (EC hL);have cE:=cr.lt R (EC hR);have yl:I.length=B.length:=C.en.1;have xl:xs.length=m:=by rw[C.rx.1,wf.len]
  have ds:(ring.map iV)[a]?=some (iV L):=by rw[EO,hL];rfl
  have cM:(ring.map iV)[b]?=some (iV R):=by rw[EO,hR];rfl
  have aP:(ring.map iV).length=ring.length:=EJ _;have dt:ring.length<=2*B.length:=dv cr.nd cr.lt;obtain⟨_,l,_,_,_,k4,k5,k6⟩:=wf.at cB;obtain⟨_,l',_,_,_,dW,cq,dw⟩:=wf.at cE;obtain⟨bd,f1⟩:=jv wf am k5;obtain⟨bF,f2⟩:=jv wf am cq;obtain⟨p1,y1,y2,y3⟩:=C.rx.2 _ _ k5;obtain⟨p2,z1,z2,z3⟩:=C.rx.2 _ _ cq;obtain⟨dY,a1,a2,a3⟩:=C.rz.2 _ _ bY;rw[dr]at a1
  cases a1
  obtain⟨n1,n2,n3,n4,n5,n6⟩:=C.ne;obtain⟨o,ho,o2⟩:∃ o:Nat,c/3%2=(o:Int)/\o<2:=⟨(c/3%2).toNat,by omega,by omega⟩
  have dx:rq≠pt:=λz=>a2 (.inl (.inr (.inl z)));have cs:rq≠pr:=λz=>a2 (.inl (.inr (.inr z)));have dC:V.ref rq∉xs:=λz=>a2 (.inr (.inl z));refine⟨_,rfl,_,rfl,_,rfl,rq,_,_,_,rfl,rfl,SqL.of bi,aA ds,pe,I,B,L,rfl,SqL.of C.he,C.en,cB,?_⟩;refine⟨_,rfl,_,rfl,_,rfl,rq,_,_,_,rfl,rfl,SqL.of bi,aA cM,pe,I,B,R,rfl,SqL.of C.he,C.en,cE,?_⟩;refine⟨_,rfl,pe,I,rfl,.inl (SqL.of C.he),?_⟩;refine⟨_,rfl,_,_,rfl,rfl,.inl ⟨by decide,by decide⟩,_,rfl,_,_,rfl,rfl,⟨by decide,by decide⟩,_,_,rfl,rfl,(by show(0:Int)<2;decide),_,_,rfl,rfl,?_⟩
  refine⟨_,rfl,_,_,rfl,rfl,.inl ⟨by decide,by decide⟩,_,_,rfl,rfl,_,rfl,_,_,rfl,rfl,?_⟩
  have G:4*(B.length:Int)+1-(2*(B.length:Int)+(o:Int))=((2*B.length+1-o:Nat):Int):=by omega
  have ha:2*(B.length:Int)+(o:Int)=((2*B.length+o:Nat):Int):=by omega
  rw[ho,yl];dsimp only;rw[G,ha];have cl:cutV (ring.map iV) none (some ((a:Int)+1))=((ring.take a++[L]).map iV):=by
   rw[show(a:Int)+1=((a+1:Nat):Int) by omega,El (by rw[aP];omega),← rJ hL,Hx]
  have cm:∀ x,x<ring.length->cutV (ring.map iV) (some ((x:Int)+1)) none=((ring.drop (x+1)).map iV):=λx O=>by
   rw[show(x:Int)+1=((x+1:Nat):Int) by omega,Em (by rw[aP];omega),Hy]
  have zl:p.length=rg.length:=C.rz.1;have cN:rg.length<=B.length+2:=by
   obtain⟨rs,u,q2⟩:=g.part;have:=part.same u;omega
  have Wl:W<rg.length:=(EB.mp bY).1;refine⟨_,rfl,_,rfl,rfl,_,rfl,ite2 (λD=>?_) (λD=>?_)⟩
  ·refine⟨_,rfl,pt,xs,rfl,.inl (SqL.of C.ht),_,rfl,_,_,rfl,rfl,_,rfl,ite2 (λj=>?_) (λj=>?_)⟩
   ·exact kR m B ts rg H0 (Keep.of (λ_ _ z=>z)) ⟨⟨I,xs,p,C⟩,g,part⟩ (EI _) (GW _) mP
   have ci:m<P:=by
    by_cases z:m<P
    ·exact z
    ·exact absurd (decide_eq_true (by rw[xl];omega)) j
   refine⟨_,rfl,_,rfl,rfl,_,rfl,ite2 (λ_=>?_) (λz=>absurd D z)⟩;refine⟨_,rfl,pt,xs,rfl,.inl (SqL.of C.ht),?_⟩;refine⟨_,rfl,.inl ⟨rfl,_,SqL.of C.ht⟩,_,rfl,(by show 1<=sizeLine;decide),λpn a6=>⟨pt,xs,_,rfl,rfl,aj a6 _ _ _ C.ht,av (by omega),?_⟩⟩
   have sn:=aj a6 (.lst [V.int (B.length:Int)]);have C1:=(C.same sn).leaf (C.new a6) (l:=[B.length]) af;have cT:=sn _ _ bi;have a5:(upd (upd H0 pn (.lst [V.int (B.length:Int)])) pt (.lst (xs++[.ref pn]))) rq=some (.lst (ring.map iV)):=by rw[ao dx];exact cT
   have b0:Keep S H0 (upd (upd H0 pn (.lst [V.int (B.length:Int)])) pt (.lst (xs++[.ref pn]))):=(Keep.of sn).trans (Keep.upd n5);generalize dF:upd (upd H0 pn (.lst [V.int (B.length:Int)])) pt (.lst (xs++[.ref pn]))=G1 at C1 a5 b0;refine⟨_,rfl,_,rfl,_,_,rfl,rfl,_,rfl,rq,_,rfl,SqL.of a5,λb1 ca=>?_⟩;rw[cl];have t1:=aj ca (.lst ((ring.take a++[L]).map iV));refine⟨_,rfl,_,rfl,(by show 2<=sizeLine;decide),λb2 cb=>?_⟩
   have t2:=aj cb (.lst ([2*B.length+o,2*B.length+1-o].map iV));refine⟨b1,b2,(ring.take a++[L]).map iV,[2*B.length+o,2*B.length+1-o].map iV,rfl,rfl,SqL.of (t2 _ _ af),SqL.of af,(by rw[EJ,EJ,EG,Fy];exact Fq (av (by simp;omega))),λb3 be=>?_⟩
   have t3:=aj be (.lst ((ring.take a++[L]).map iV++[2*B.length+o,2*B.length+1-o].map iV));have cc:=(t1.trans t2).trans t3;refine⟨_,rfl,_,rfl,_,_,rfl,rfl,_,rfl,rq,_,rfl,SqL.of (cc _ _ a5),λb4 cd=>?_⟩;rw[cm a (by omega)]
   have t4:=aj cd (.lst ((ring.drop (a+1)).map iV));refine⟨b3,b4,_,_,rfl,rfl,SqL.of (t4 _ _ af),SqL.of af,(by rw[EG,EJ,EJ,EG,Fy,EJ,Ge];exact Fq (av (by simp;omega))),λb5 ce=>?_⟩
   have bv:(ring.take a++[L]).map iV++[2*B.length+o,2*B.length+1-o].map iV++(ring.drop (a+1)).map iV=(ring.take a++L::(2*B.length+o)::(2*B.length+1-o)::ring.drop (a+1)).map iV:=by simp
   rw[bv];have t5:=aj ce (.lst ((ring.take a++L::(2*B.length+o)::(2*B.length+1-o)::ring.drop (a+1)).map iV));have ch:=cc.trans t4;have bA:=ch.trans t5;have C5:=C1.same bA;obtain⟨w1,w2,w3,w4,w5,w6⟩:=C1.new (cZ ch ce);have C6:=C5.updR (pU C5.rz (W:=W) (b:=b5) (by rintro((z | z | z) | z | z);exact w1 z;exact w2 z;exact w3 z;exact w5 z;exact w4 z) af)
   refine⟨_,rfl,_,rfl,pr,p,_,W,rfl,rfl,C5.hr,fZ (by omega),?_⟩
   have bm:=(ao (o:=.lst (p.set W (.ref b5))) cs).trans (bA _ _ a5);have cj:=(b0.trans (Keep.of bA)).trans (Keep.upd (q:=pr) (o:=.lst (p.set W (.ref b5))) n6);have da:hd B L<ts.length:=by rw[wf.len];exact k4
   obtain⟨ct,u1,u2,u3⟩:=C6.rx.2 (hd B L) l (by rw[EH da];exact k5)
   refine⟨pe,pt,ct,rq,_,_,_,_,_,_,_,_,a,L,hd B L,xs.length,B.length,o,xs++[.ref pn],I,ring,l,rfl,o2,C6.ht,u1,u3,k6,by omega,λx O=>by have:=bd x O;omega,bm,hL,λz=>u2 (.inl z),C6.he,by omega,λt Y=>?_⟩
   obtain⟨C7,dG⟩:=C6.fin u1 (ins l (l.idxOf (L/2)+1) B.length) Y (if o=0 then(hd B L,xs.length) else(xs.length,hd B L));rw[B3];have aa:hd B L≠xs.length:=by omega
   have hS:=xn (e:=if o=0 then(hd B L,xs.length) else(xs.length,hd B L)) (w:=W) g part (bY.trans (congrArg some (nE hL))) rfl (by rw[xl];exact yv) k5
   rw[← xl,(BQ o2 aa).1,(BQ o2 aa).2]at hS;rw[Ig _ _ da]at C7;exact kN _ (xs.length+1) _ _ _ _ (cj.trans dG) ⟨⟨_,_,_,C7⟩,hS.1,hS.2⟩ (by rw[EG];omega) (by rw[EG];exact EI _) (by omega)
  ·refine iteF ?_;refine⟨_,rfl,_,rfl,rfl,_,rfl,ite2 (λz=>absurd z D) (λ_=>?_)⟩;have aa:hd B L≠hd B R:=λz=>D (decide_eq_true (by rw[z]))
   have db:a<b:=by
    rcases Nat.lt_or_ge a b with z | z
    ·exact z
    ·have:a=b:=by omega
     subst this;rw[hL]at hR
     cases hR
     exact absurd rfl aa
   refine⟨_,rfl,_,rfl,_,rfl,_,rfl,rq,_,_,_,rfl,rfl,SqL.of bi,aA cM,_,rfl,pt,p2,xs,hd B R,R,B.length,l',rfl,SqL.of C.ht,z1,z3,dw,by omega,λx O=>by have:=bF x O;omega,?_⟩
   obtain⟨C1,bQ⟩:=C.put z1 (ins l' (l'.idxOf (R/2)+1) B.length);have a5:(upd H0 p2 (.lst ((ins l' (l'.idxOf (R/2)+1) B.length).map iV))) rq=some (.lst (ring.map iV)):=by rw[ao (show rq≠p2 from λz=>dC (z▸EC z1))];exact bi
   have b0:Keep S H0 (upd H0 p2 (.lst ((ins l' (l'.idxOf (R/2)+1) B.length).map iV))):=Keep.upd bQ;generalize dF:upd H0 p2 (.lst ((ins l' (l'.idxOf (R/2)+1) B.length).map iV))=G1 at C1 a5 b0;refine⟨_,rfl,_,rfl,_,_,rfl,rfl,_,rfl,rq,_,rfl,SqL.of a5,λb1 ca=>?_⟩;rw[cl];have t1:=aj ca (.lst ((ring.take a++[L]).map iV));refine⟨_,rfl,(by show 1<=sizeLine;decide),λb2 cb=>?_⟩
   have t2:=aj cb (.lst ([2*B.length+o].map iV));refine⟨b1,b2,(ring.take a++[L]).map iV,[2*B.length+o].map iV,rfl,rfl,SqL.of (t2 _ _ af),SqL.of af,(by rw[EJ,EJ,EG,Fy];exact Fq (av (by simp;omega))),λb3 be=>?_⟩
   have t3:=aj be (.lst ((ring.take a++[L]).map iV++[2*B.length+o].map iV));have cc:=(t1.trans t2).trans t3;refine⟨_,rfl,_,rfl,_,_,rfl,rfl,_,rfl,rq,_,rfl,SqL.of (cc _ _ a5),λb4 cd=>?_⟩;rw[cm b bl];have t4:=aj cd (.lst ((ring.drop (b+1)).map iV));refine⟨b3,b4,_,_,rfl,rfl,SqL.of (t4 _ _ af),SqL.of af,(by rw[EG,EJ,EJ,EG,Fy,EJ,Ge];exact Fq (av (by simp;omega))),λb5 ce=>?_⟩
   have bv:(ring.take a++[L]).map iV++[2*B.length+o].map iV++(ring.drop (b+1)).map iV=(ring.take a++L::(2*B.length+o)::ring.drop (b+1)).map iV:=by simp
   rw[bv];have t5:=aj ce (.lst ((ring.take a++L::(2*B.length+o)::ring.drop (b+1)).map iV));have ch:=cc.trans t4;have bA:=ch.trans t5;have C5:=C1.same bA;obtain⟨w1,w2,w3,w4,w5,w6⟩:=C1.new (cZ ch ce);have C6:=C5.updR (pU C5.rz (W:=W) (b:=b5) (by rintro((z | z | z) | z | z);exact w1 z;exact w2 z;exact w3 z;exact w5 z;exact w4 z) af)
   refine⟨_,rfl,_,rfl,pr,p,_,W,rfl,rfl,C5.hr,fZ (by omega),?_⟩
   have bm:=(ao (o:=.lst (p.set W (.ref b5))) cs).trans (bA _ _ a5);have cj:=(b0.trans (Keep.of bA)).trans (Keep.upd (q:=pr) (o:=.lst (p.set W (.ref b5))) n6);generalize d0:upd _ pr (HO.lst (p.set W (.ref b5)))=G6 at C6 bm cj;refine⟨_,rfl,.inl ⟨rfl,_,SqL.of C6.hr⟩,_,rfl,_,rfl,_,_,rfl,rfl,_,rfl,_,rfl,_,_,rfl,rfl,_,rfl,rq,_,rfl,SqL.of bm,λb6 dL=>?_⟩;have dc:cutV (ring.map iV) (some ((a:Int)+1)) (some ((b:Int)+1))=(((ring.drop (a+1)).take (b-a-1)++[R]).map iV):=by
    rw[show(a:Int)+1=((a+1:Nat):Int) by omega,show(b:Int)+1=((b+1:Nat):Int) by omega,Ek (by rw[aP];omega) (by rw[aP];omega),← mid_at hR db,Hx,Hy,show b+1-(a+1)=b-a by omega]
   rw[dc];have t6:=aj dL (.lst (((ring.drop (a+1)).take (b-a-1)++[R]).map iV));refine⟨_,rfl,(by show 1<=sizeLine;decide),λb7 dO=>?_⟩
   have t7:=aj dO (.lst ([2*B.length+1-o].map iV));refine⟨b6,b7,((ring.drop (a+1)).take (b-a-1)++[R]).map iV,[2*B.length+1-o].map iV,rfl,rfl,SqL.of (t7 _ _ af),SqL.of af,(by rw[EJ,EJ,EG,Fy,Ge];exact Fq (av (by simp;omega))),λb8 dd=>?_⟩
   have ck:((ring.drop (a+1)).take (b-a-1)++[R]).map iV++[2*B.length+1-o].map iV=((ring.drop (a+1)).take (b-a-1)++[R,2*B.length+1-o]).map iV:=by simp
   rw[ck];have t8:=aj dd (.lst (((ring.drop (a+1)).take (b-a-1)++[R,2*B.length+1-o]).map iV));have de:=t6.trans t7;have cu:=de.trans t8;have C8:=C6.same cu;obtain⟨x1,x2,x3,x4,x5,x6⟩:=C6.new (cZ de dd);have C9:=C8.updR (C8.rz.snoc (q:=b8) (by rintro((z | z | z) | z | z);exact x1 z;exact x2 z;exact x3 z;exact x5 z;exact x4 z) af)
   refine⟨pr,p.set W (.ref b5),_,rfl,rfl,C8.hr,av (by rw[Fc];omega),?_⟩
   have df:=(ao (o:=.lst (p.set W (.ref b5)++[.ref b8])) cs).trans (cu _ _ bm);have dP:=(cj.trans (Keep.of cu)).trans (Keep.upd (q:=pr) (o:=.lst (p.set W (.ref b5)++[.ref b8])) n6);obtain⟨ct,u1,u2,u3⟩:=C9.rx.2 (hd B L) l (by rw[Hw (Ne.symm aa)];exact k5)
   refine⟨pe,pt,ct,rq,_,_,_,_,_,_,_,_,a,L,hd B L,hd B R,B.length,o,xs,I,ring,l,rfl,o2,C9.ht,u1,u3,k6,by omega,λx O=>by have:=bd x O;omega,df,hL,λz=>u2 (.inl z),C9.he,by omega,λt Y=>?_⟩
   obtain⟨dg,di⟩:=C9.fin u1 (ins l (l.idxOf (L/2)+1) B.length) Y (if o=0 then(hd B L,hd B R) else(hd B R,hd B L));rw[B3];have hS:=xo (e:=if o=0 then(hd B L,hd B R) else(hd B R,hd B L)) (w:=W) g part (bY.trans (congrArg some (xq hL hR db))) rfl rfl aa yv k5 cq;rw[(BQ o2 aa).1,(BQ o2 aa).2]at hS;rw[List.set_comm _ _ (Ne.symm aa)]at dg;exact kN _ m _ _ _ _ (dP.trans di) ⟨⟨_,_,_,dg⟩,hS.1,hS.2⟩ (by rw[EG];omega) (by rw[EG];exact EI _) mP
 have zl:p.length=rg.length:=C.rz.1;have mf:=ng g;have d3:0<rg.length:=by
  rcases Nat.eq_zero_or_pos rg.length with z | z
  ·have:=part.all 0 (by omega)
   rw[Jm.mp z]at this
   cases this
  ·exact z
 have cN:rg.length<=B.length+2:=by
  obtain⟨rs,u,q2⟩:=g.part;have:=part.same u;omega
 refine⟨_,rfl,_,_,rfl,rfl,(by show(0:Int)<1000000007;decide),_,_,rfl,rfl,.inr ⟨by decide,by decide⟩,_,_,rfl,rfl,(by show(0:Int)<2147483647;decide),?_⟩
 have o0:(0:Int)<=c%1000000007*48271%2147483647:=GB _ (by decide)
 have o1:c%1000000007*48271%2147483647<2147483647:=Gd _ (by decide)
 refine⟨_,rfl,_,_,rfl,rfl,⟨by decide,by decide⟩,_,rfl,pr,p,rfl,.inl (SqL.of C.hr),_,_,rfl,rfl,(by show(0:Int)<(p.length:Int);omega),?_⟩
 refine⟨_,rfl,_,_,rfl,rfl,⟨by decide,by decide⟩,_,rfl,pr,p,rfl,.inl (SqL.of C.hr),_,_,rfl,rfl,⟨(by show(0:Int)<(p.length:Int);omega),(by show(p.length:Int)<1073741824;ac_rfl)⟩,?_⟩
 dsimp only;generalize c%1000000007*48271%2147483647=M at o0 o1;obtain⟨W,hW,Wl⟩:∃ W:Nat,M/2%(p.length:Int)=(W:Int)/\W<rg.length:=by
  have h0:=GB (M/2) (show(p.length:Int)≠0 by omega)
  have J:=Gd (M/2) (show(0:Int)<(p.length:Int) by omega)
  exact⟨_,(Gn h0).symm,by omega⟩
 obtain⟨R,hR⟩:∃ R:Nat,M/2/(p.length:Int)=(R:Int):=⟨_,(Gn (Int.ediv_nonneg (by omega) (by omega))).symm⟩
 rw[hW,hR];obtain⟨ring,bf⟩:∃ r,rg[W]?=some r:=⟨_,EA Wl⟩;obtain⟨rq,u,q2,q3⟩:=C.rz.2 W ring bf;have cr:=part.cr ring (EC bf);have dt:ring.length<=2*B.length:=dv cr.nd cr.lt;have aP:(ring.map iV).length=ring.length:=EJ _;have dS:0<ring.length:=by
  obtain⟨d,hd⟩:=cr.ne;exact FY hd
 have ba:(0:Int)<((ring.map iV).length:Int):=by omega
 refine⟨_,rfl,_,rfl,pr,p,_,_,rfl,rfl,SqL.of C.hr,aA u,?_⟩;refine⟨_,rfl,_,rfl,rq,_,rfl,.inl (SqL.of q3),_,_,rfl,rfl,ba,?_⟩;dsimp only;obtain⟨a,ha,al⟩:∃ a:Nat,(R:Int)%((ring.map iV).length:Int)=(a:Int)/\a<ring.length:=by
  have h0:=GB (R:Int) (show((ring.map iV).length:Int)≠0 by omega)
  have J:=Gd (R:Int) ba;exact⟨_,(Gn h0).symm,by omega⟩
 rw[ha];refine⟨_,rfl,?_⟩;refine⟨_,rfl,_,_,rfl,rfl,(by show(0:Int)<2;decide),rfl,_,rfl,ite2 (λc1=>?_) (λc1=>?_)⟩
 ·have co:(0:Int)<((ring.map iV).length:Int)-(a:Int):=by omega
  refine⟨_,rfl,_,rfl,_,rfl,rq,_,rfl,.inl (SqL.of q3),_,_,rfl,rfl,⟨ba,(by show((ring.map iV).length:Int)<1073741824;ac_rfl)⟩,_,rfl,rq,_,rfl,.inl (SqL.of q3),_,rfl,_,_,rfl,rfl,_,_,rfl,rfl,co,_,_,rfl,rfl,?_⟩
  dsimp only;obtain⟨d,hd,dl⟩:∃ d:Nat,(R:Int)/((ring.map iV).length:Int)%(((ring.map iV).length:Int)-(a:Int))=(d:Int)/\a+d<ring.length:=by
   have h0:=GB ((R:Int)/((ring.map iV).length:Int)) (show((ring.map iV).length:Int)-(a:Int)≠0 by omega)
   have J:=Gd ((R:Int)/((ring.map iV).length:Int)) co;exact⟨_,(Gn h0).symm,by omega⟩
  rw[hd,show(a:Int)+(d:Int)=((a+d:Nat):Int) by omega]
  exact⟨S,c,pe,pt,pr,rq,P,m,W,a,a+d,_,_,_,_,_,_,_,I,xs,p,B,ts,rg,ring,rfl,C,g,part,am,mP,u,bf,q3,by omega,dl,λ_=>kk,kk⟩
 ·exact⟨S,c,pe,pt,pr,rq,P,m,W,a,a,_,_,_,_,_,_,_,I,xs,p,B,ts,rg,ring,rfl,C,g,part,am,mP,u,bf,q3,EI _,al,λ_=>kk,kk⟩
end
noncomputable def xA:Sp:=λN H Q _=>∃(c:Int)(m:Nat),N = [.int c,.int (m:Int)]/\m<=100/\∀(q:Addr)(o:List Nat)(j:Hp),Same H j->H q=none->j q=some (.lst (o.map iV))->o.length=m->o.Nodup->(∀ x∈o,x<m)->Q (.ref q) j
noncomputable def uM(K:ED):Sp:=λN H Q _=>∃(a:Addr)(P:Nat)(d:List Int),N = [.ref a,.int (P:Int)]/\SqL K H a (d.map V.int)/\d.length<=62/\2<=P /\
 ∀(t C pt O:Addr)(m:Nat)(B:En)(g r:List (List Nat))(j:Hp),Same H j->j t=some (.tup [.ref C,.ref pt,.ref O])->GwA (λp=>H p≠none) j C pt O m B g r->0<B.length->B.length<=d.length+1->m<=P->Q (.ref t) j
theorem AO:Part (fol [(0,1)] [[0],[0]]) 2 [[0,1]]:=by
 refine⟨λr L=>?_,by decide,λd hd=>?_⟩
 ·have:r = [0,1]:=by simpa using L
  subst this;exact⟨⟨0,[1],rfl,by decide,(by show fol [(0,1)] [[0],[0]] 1=0;decide)⟩,λd hd=>by simp at hd ⊢;omega,by decide⟩
 ·simp;omega
theorem Keep.same{H H1 H2:Hp}(s:Same H H1)(k:Keep (λp=>H p≠none) H1 H2):Same H H2:=λp o h=>k p o (λz=>by rw[z]at h;cases h) (s p o h)
section
variable{P:Program}{w:World}{K:ED}{mg:Str->Option Value}{base:Heap}
theorem c7:ax ["cell","many","order","mixed","k"] ["cell","many"] (aq ir):=by ac_nf
theorem A3{f:Addr}{fd:FuncData} (F:Fun K "_law_order" "_law_order" ir f fd) (T:Txt mg):FnOk P w K mg base CX0 1 f fd ["cell","many"] xA:=by
 refine F.ok c7 (λN H Q E h=>?_) (λy A G s H N Q E L h=>?_)
 ·obtain⟨c,m,rfl,_⟩:=h;rfl
 obtain⟨c,m,rfl,a,k⟩:=h
 refine⟨_,(ag (au (i:=2) c7.nd rfl (Or.inl rfl) (bO ah))
   (ag (au (i:=3) c7.nd rfl (Or.inl rfl) (aw bh (pv 0) ai))
   (ag (bK PassesOwn.never rfl (aN rfl T.n_range (ae (pv 1) ah)) (aC (i:=4) c7.nd rfl (Or.inl rfl)) (ag (au (i:=3) c7.nd rfl (Or.inl rfl) (aw bh (aw br (aw du (pv 3) ai) (aw du ai (pv 4))) ai))
   (ak (aW (dQ EX Jg Jf qo (pv 2) (ae (aw bh (pv 3) (aw br (pv 4) ai)) (ae (pv 4) ah)))))))
   (ak (aH (pv 2)))))),?_⟩
 refine⟨(by show 0<=sizeLine;decide),λq v=>?_⟩
 refine⟨_,rfl,_,_,rfl,rfl,(by show(0:Int)<1000000007;decide),?_⟩
 refine⟨_,rfl,_,rfl,by omega,by omega,bZ (n:=(m:Int).toNat) (λi Y u=>∃(M:Int),∃ e o,Y = [some (.int c),some (.int (m:Int)),some (.ref q),some (.int M),e]/\Same H u/\u q=some (.lst (o.map iV))/\o.length=i/\o.Nodup/\∀ x∈o,x<i) ⟨_,_,[],rfl,aj v _,af,rfl,GN,λx O=>nomatch O⟩ ?_ ?_⟩
 ·rintro i Y u I ⟨M,e,o,rfl,j,d,g,b,lt⟩;rw[EN]at I;have t:(0:Int)+(i:Int)=(i:Int):=F1 _;rw[t];have D:(o.map iV).length=i:=by rw[EJ];exact g
  refine⟨_,rfl,_,_,rfl,rfl,.inr ⟨by decide,by decide⟩,_,rfl,_,_,rfl,rfl,.inl ⟨by decide,by decide⟩,_,_,rfl,rfl,_,_,rfl,rfl,(by show(0:Int)<2147483647;decide),?_⟩
  refine⟨_,rfl,.inl ⟨rfl,_,SqL.of d⟩,_,rfl,_,rfl,_,_,rfl,rfl,_,_,rfl,rfl,(by show(0:Int)<(i:Int)+1;omega),_,rfl,q,_,_,_,rfl,rfl,d,(Cm _ _).1,(by rw[D];exact(Cm _ _).2),av (by omega),?_⟩
  rw[insV];refine⟨_,_,_,rfl,aV j v _,af,by rw[DW,g],yY b λz=>by have:=lt i z;omega,λx O=>?_⟩
  rcases tq.mp O with z | z
  ·omega
  ·have:=lt x z;omega
 ·rintro Y u ⟨M,e,o,rfl,j,d,g,b,lt⟩;rw[EN]at g lt;exact⟨_,rfl,k q o u j v d g b lt⟩
theorem c8:ax ["cells","places","ends","turns","rings","cell"] ["cells","places"] (aq iw):=by ac_nf
theorem Ba{f fs:Addr}{fd ds:FuncData} (F:Fun K "_law_grown" "_law_grown" iw f fd) (ac:Cal P w K mg base 2 "_law_step" ["cell","ends","turns","rings","places"] B7 fs ds):FnOk P w K mg base CX0 3 f fd ["cells","places"] (uM K):=by
 refine F.ok c8 (λN H Q E h=>?_) (λM A d s H N Q E L h=>?_)
 ·obtain⟨a,P,cs,rfl,_⟩:=h;rfl
 obtain⟨a,P,cs,rfl,hS,cj,P2,I⟩:=h;have a1:(cs.map V.int).length=cs.length:=EJ _
 refine⟨_,(ag (au (i:=2) c8.nd rfl (Or.inl rfl) (bO (ae (cO (ae ai (ae ai ah))) ah)))
   (ag (au (i:=3) c8.nd rfl (Or.inl rfl) (bO (ae (bO (ae ai ah)) (ae (bO (ae ai ah)) ah))))
   (ag (au (i:=4) c8.nd rfl (Or.inl rfl) (bO (ae (bO (ae ai (ae ai ah))) ah)))
   (ag (bK PassesOwn.never rfl (a8 (pv 0)) (aC (i:=5) c8.nd rfl (Or.inl rfl)) (ak (aW (az ac.ok (L.mono (by decide)) rfl ac.mg ac.kp ac.bn .nil aL (ae (pv 5) (ae (pv 2) (ae (pv 3) (ae (pv 4) (ae (pv 1) ah)))))))))
   (ak (aH (cO (ae (pv 2) (ae (pv 3) (ae (pv 4) ah)))))))))),?_⟩
 refine⟨(by show 2<=sizeLine;decide),λt0 a5=>⟨(by show 1<=sizeLine;decide),λpe al=>?_⟩⟩
 refine⟨(by show 1<=sizeLine;decide),λp0 bd=>⟨(by show 1<=sizeLine;decide),λp1 a0=>⟨(by show 2<=sizeLine;decide),λpt an=>?_⟩⟩⟩
 refine⟨(by show 2<=sizeLine;decide),λr0 aT=>⟨(by show 1<=sizeLine;decide),λpr am=>?_⟩⟩
 have J:=aj a5 (.tup [.int 0,.int 1]);have D:=aj al (.lst [.ref t0]);have s3:=aj bd (.lst [.int 0]);have s4:=aj a0 (.lst [.int 0]);have s5:=aj an (.lst [.ref p0,.ref p1]);have s6:=aj aT (.lst [.int 0,.int 1]);have s7:=aj am (.lst [.ref r0]);have ab:=J.trans D;have aa:=ab.trans s3;have bf:=aa.trans s4;have ap:=bf.trans s5;have be:=ap.trans s6;have aP:=be.trans s7;have bi:=((s3.trans s4).trans s5).trans (s6.trans s7);have b8:=(s4.trans s5).trans (s6.trans s7);have a2:=s5.trans (s6.trans s7);have a6:=s6.trans s7;have bm:=(D.trans bi) _ _ (af (a:=t0) (o:=.tup [.int 0,.int 1]));have bv:=bi _ _ (af (a:=pe) (o:=.lst [.ref t0]));have bA:=b8 _ _ (af (a:=p0) (o:=.lst [.int 0]));have bB:=a2 _ _ (af (a:=p1) (o:=.lst [.int 0]));have bF:=a6 _ _ (af (a:=pt) (o:=.lst [.ref p0,.ref p1]));have bQ:=s7 _ _ (af (a:=r0) (o:=.lst [.int 0,.int 1]));have bR:=cZ J al;have bU:=cZ ab bd;have bY:=cZ aa a0;have b0:=cZ bf an;have b6:=cZ ap aT;have b7:=cZ be am;have d1:∀{x:Addr}{G G':Hp}{o:HO},G x=some o->Same G G'->∀{y},G' y=none->y≠x:=λh s y z e=>by
  rw[e,s _ _ h]at z;cases z
 have T:p0≠pe:=d1 af (λ_ _ z=>z) bd;have k:p1≠pe:=d1 af s3 a0;have e3:pt≠pe:=d1 af (s3.trans s4) an;have e4:r0≠pe:=d1 af ((s3.trans s4).trans s5) aT;have e5:pr≠pe:=d1 af (((s3.trans s4).trans s5).trans s6) am;have e6:p1≠p0:=d1 af (λ_ _ z=>z) a0;have e7:pt≠p0:=d1 af s4 an;have e8:r0≠p0:=d1 af (s4.trans s5) aT;have e9:pr≠p0:=d1 af ((s4.trans s5).trans s6) am;have ca:pt≠p1:=d1 af (λ_ _ z=>z) an;have cb:r0≠p1:=d1 af s5 aT;have cc:pr≠p1:=d1 af (s5.trans s6) am;have cd:r0≠pt:=d1 af (λ_ _ z=>z) aT;have ba:pr≠pt:=d1 af s6 am;have ce:pr≠r0:=d1 af (λ_ _ z=>z) am;have C0:GwC (λp=>H p≠none) (upd (upd (upd (upd (upd (upd (upd H t0 (.tup [.int 0,.int 1])) pe (.lst [.ref t0])) p0 (.lst [.int 0])) p1 (.lst [.int 0])) pt (.lst [.ref p0,.ref p1])) r0 (.lst [.int 0,.int 1])) pr (.lst [.ref r0])) pe pt pr [.ref t0] [.ref p0,.ref p1] [.ref r0] [(0,1)] [[0],[0]] [[0,1]]:=by
  refine⟨bv,⟨rfl,λi e z=>?_⟩,bF,⟨rfl,λi l z=>?_⟩,λi j p z1 z2=>?_,af,⟨rfl,λi l z=>?_⟩,⟨Ne.symm e3,Ne.symm e5,Ne.symm ba,λz=>z bR,λz=>z b0,λz=>z b7⟩,λp sp z=>sp (cZ aP z)⟩
  ·match i,z with
   |0,z=>cases z;exact⟨t0,rfl,bm⟩
   |i+1,z=>cases z
  ·match i,z with
   |0,z=>cases z;exact⟨p0,rfl,by rintro(y | y | y | y);exact T y;exact e7 y.symm;exact e9 y.symm;exact y bU,bA⟩
   |1,z=>cases z;exact⟨p1,rfl,by rintro(y | y | y | y);exact k y;exact ca y.symm;exact cc y.symm;exact y bY,bB⟩
   |i+2,z=>cases z
  ·match i,z1,j,z2 with
   |0,z1,0,z2=>rfl
   |1,z1,1,z2=>rfl
   |0,z1,1,z2=>cases z1;cases z2;exact absurd rfl e6
   |1,z1,0,z2=>cases z1;cases z2;exact absurd rfl e6
   |i+2,z1,_,_=>cases z1
   |0,_,j+2,z2=>cases z2
   |1,_,j+2,z2=>cases z2
  ·match i,z with
   |0,z =>
    cases z
    refine⟨r0,rfl,?_,bQ⟩;rintro((y | y | y) | y | y)
    ·exact e4 y
    ·exact cd y
    ·exact ce y.symm
    ·have:r0=p0∨r0=p1:=by simpa using y
     rcases this with y | y
     ·exact e8 y
     ·exact cb y
    ·exact y b6
   |i+1,z=>cases z
 refine⟨_,rfl,a,rfl,⟨_,aP.seq hS⟩,cJ (xs:=cs.map V.int) (λi Y H5=>∃ v5 m B u rg,Y = [some (.ref a),some (.int (P:Int)),some (.ref pe),some (.ref pt),some (.ref pr),v5]/\Same H H5/\GwA (λp=>H p≠none) H5 pe pt pr m B u rg/\0<B.length/\B.length<=i+1/\m<=P)
  ⟨_,2,[(0,1)],[[0],[0]],[[0,1]],rfl,aP,⟨⟨_,_,_,C0⟩,ze,AO⟩,Nat.one_pos,EI _,P2⟩ (λi Y H5 _ ⟨_,_,_,_,_,_,z,_⟩=>z.seq hS) ?_ ?_⟩
 ·rintro i x Y H5 O ⟨v5,m,B,u,rg,rfl,s5,gw,e0,ei,mP⟩;rw[EO]at O;obtain⟨c,n,rfl⟩:=Fm.mp O;have a4:i<cs.length:=(EB.mp n).1;refine⟨_,rfl,_,rfl,_,rfl,_,rfl,_,rfl,_,c,pe,pt,pr,P,m,B,u,rg,rfl,gw,e0,by omega,mP,λm' es' ts' a3 b kp ch l1 l2 ci=>?_⟩
  exact⟨_,m',es',ts',a3,rfl,kp.same s5,ch,by omega,by omega,ci⟩
 ·rintro Y H5 ⟨v5,m,B,u,rg,rfl,s5,gw,e0,ei,mP⟩;rw[a1]at ei;refine⟨_,rfl,_,rfl,_,rfl,(by show 3<=sizeLine;decide),λt r=>?_⟩
  have sn:=aj r (.tup [.ref pe,.ref pt,.ref pr]);obtain⟨⟨v,xs,q,C⟩,g,part⟩:=gw;exact I t pe pt pr m B u rg _ (s5.trans sn) af ⟨⟨v,xs,q,C.same sn⟩,g,part⟩ e0 ei mP
end
noncomputable def cutp(c:Int)(p n:Nat):Nat:=(c%1009*((p:Int)+1)%(n:Int)).toNat
noncomputable def rowN(c:Int)(o2:List Nat)(p:Nat)(l:List Nat):List Nat:=(l.drop (cutp c p l.length)++l.take (cutp c p l.length)).map (ofL o2)
noncomputable def en2(o1 o2:List Nat)(es:En):En:=(EY es.length).map λj=>(ofL o1 ((es[o2.idxOf j]?).getD (0,0)).1,ofL o1 ((es[o2.idxOf j]?).getD (0,0)).2)
noncomputable def ts2(c:Int)(o1 o2:List Nat)(ts:List (List Nat)):List (List Nat):=(EY ts.length).map λj=>rowN c o2 (o1.idxOf j) ((ts[o1.idxOf j]?).getD [])
theorem y8{o:List Nat}(nd:o.Nodup){k:Nat}(h:k<o.length):o.idxOf (ofL o k)=k:=by
 have e:o[k]?=some (ofL o k):=by unfold ofL;rw[EA h];rfl
 exact u6 nd (lP (EC e)) e
theorem ren_of{m:Nat}{es:En}{ts:List (List Nat)}{c:Int}{o1 o2:List Nat}(w:bz m es ts)(a:o1.length=m)(n1:o1.Nodup)(b1:∀ x∈o1,x<m)(t:o2.length=es.length)(v:o2.Nodup)(b2:∀ x∈o2,x<es.length) :
  Ren m es (en2 o1 o2 es) ts (ts2 c o1 o2 ts) (ofL o1) (ofL o2):=by
 have j:=vo a n1 b1;have i:=vo t v b2;refine⟨j,i,by simp[en2],by simp[ts2,w.len],λk e h=>?_,λp l h=>?_⟩
 ·have g:=(EB.mp h).1
  unfold en2;rw[EO,FU (i.lt k g)];show some (ofL o1 ((es[o2.idxOf (ofL o2 k)]?).getD (0,0)).1,ofL o1 ((es[o2.idxOf (ofL o2 k)]?).getD (0,0)).2)=_;rw[y8 v (by omega),h]
  rfl
 ·have M:p<m:=by rw[← w.len];exact(EB.mp h).1
  refine⟨l.take (cutp c p l.length),l.drop (cutp c p l.length),(GH _ _).symm,?_⟩;unfold ts2;rw[EO,FU (by rw[w.len];exact j.lt p M)]
  show some (rowN c o2 (o1.idxOf (ofL o1 p)) ((ts[o1.idxOf (ofL o1 p)]?).getD []))=_;rw[y8 n1 (by omega),h]
  rfl
theorem Gr.rows{m:Nat}{es:En}{ts:List (List Nat)}(g:Gr m es ts)(h2:2<=m){p:Nat}{l:List Nat}(h:ts[p]?=some l):0<l.length:=by
 have M:p<m:=by rw[← g.w.len];exact(EB.mp h).1
 cases l with
 |cons a l=>exact Nat.succ_pos _
 |nil =>
  exfalso;have c:∀ e∈es,e.1≠p/\e.2≠p:=λe j=>by
   obtain⟨t,Y⟩:=FD.mp j;refine⟨λz=>?_,λz=>?_⟩
   ·exact nomatch (g.w.mem p [] h t).mpr ⟨e,Y,.inl z⟩
   ·exact nomatch (g.w.mem p [] h t).mpr ⟨e,Y,.inr z⟩
  have:=g.conn (λx=>x=p) (λe j=>⟨λz=>absurd z (c e j).1,λz=>absurd z (c e j).2⟩) p (if p=0 then 1 else 0) M (by split<;>omega) rfl
  have b:(if p=0 then 1 else 0)=p:=this;split at b<;>omega
theorem cut_hi{xs:List V}{c:Nat}(h:c<=xs.length):cutV xs (some (c:Int)) none=xs.drop c:=by
 unfold cutV;rw[HT.sIx_nat,G7 h];show(xs.drop c).take (xs.length-c)=_;exact FX (by rw[Ge];exact EI _)
theorem cut_lo{xs:List V}{c:Nat}(h:c<=xs.length):cutV xs none (some (c:Int))=xs.take c:=by
 unfold cutV;rw[HT.sIx_nat,G7 h];show(xs.drop 0).take (c-0)=_;rw[Jc,Nat.sub_zero]
structure WebP(H:Hp)(pe pt:Addr)(m:Nat)(es:En)(ts:List (List Nat)):Prop where
 en:∃ ys,H pe=some (.lst ys)/\cR H ys es
 tu:∃ xs,H pt=some (.lst xs)/\bS H xs ts
 g:Gr m es ts
theorem WebP.mono{H H':Hp}{pe pt:Addr}{m:Nat}{es:En}{ts:List (List Nat)}(h:WebP H pe pt m es ts)(s:Same H H'):WebP H' pe pt m es ts:=by
 obtain⟨⟨v,a,b⟩,⟨M,c,d⟩,g⟩:=h;exact⟨⟨v,s _ _ a,b.mono s⟩,⟨M,s _ _ c,d.mono s⟩,g⟩
theorem at30{u v x:V}:atI [u,v,x] 0=some u:=rfl
theorem at31{u v x:V}:atI [u,v,x] 1=some v:=rfl
theorem at32{u v x:V}:atI [u,v,x] 2=some x:=rfl
structure TxtM(mg:Str->Option Value):Prop extends Txt mg where
 n_max:mg "max" = none
noncomputable def Cz(H:Hp)(pr:Addr)(rg:List (List Nat)):Prop:=∃ o,H pr=some (.lst o)/\bS H o rg
theorem AI{m:Nat}{es f:En}{ts ts2 rs:List (List Nat)}{π σ:Nat->Nat}(R:Ren m es f ts ts2 π σ)(g:Gr m es ts)(p:Part (fol es ts) (2*es.length) rs):Part (fol f ts2) (2*f.length) (rs.map (Iu (Phi σ))):=by
 have flt:∀ d∈rs.flatten,d<2*es.length:=λd hd=>by
  obtain⟨r,J,C⟩:=Fp.mp hd;exact(p.cr r J).lt d C
 have D:(rs.map (Iu (Phi σ))).flatten=rs.flatten.map (Phi σ):=List.map_flatten.symm;refine⟨λq T=>?_,?_,λd hd=>?_⟩
 ·obtain⟨r,L,rfl⟩:=FJ.mp T;have c:=p.cr r L;obtain⟨x,l,rfl,N⟩:=c.ch;refine⟨⟨Phi σ x,l.map (Phi σ),rfl,ji N λt Y=>R.fol g.w (c.lt t Y)⟩,λd hd=>?_,lE c.nd λa E b G=>mC R.si (c.lt a E) (c.lt b G)⟩;obtain⟨t,Y,rfl⟩:=FJ.mp hd;have J:=c.lt t Y;have C:=R.si.lt (t/2) (by omega)
  rw[R.l1];unfold Phi;omega
 ·rw[D];exact lE p.nd λa E b G=>mC R.si (flt a E) (flt b G)
 ·rw[R.l1]at hd;obtain⟨k,A,e⟩:=R.si.sur (d/2) (by omega)
  rw[D];refine FJ.mpr ⟨2*k+d%2,p.all _ (by omega),?_⟩
  unfold Phi;rw[show(2*k+d%2)/2=k by omega,e]
  omega
noncomputable def B9:Sp:=λN H Q _=>∃(t C pt O:Addr)(c:Int)(m:Nat)(B:En)(g r:List (List Nat)),N = [.ref t,.int c]/\H t=some (.tup [.ref C,.ref pt,.ref O])/\WebP H C pt m B g/\Cz H O r/\Part (fol B g) (2*B.length) r/\2<=m/\B.length<=63 /\
 ∀(n a d e:Addr)(es':En)(ts' b:List (List Nat))(j:Hp),Same H j->j n=some (.tup [.ref a,.ref d,.ref e])->WebP j a d m es' ts'->Cz j e b->Part (fol es' ts') (2*es'.length) b->es'.length=B.length->Q (.ref n) j
section
variable{P:Program}{w:World}{K:ED}{mg:Str->Option Value}{base:Heap}
theorem aJ:ax ["grown","cell","places","ties","ends","k","turns","p","row","cut","rings","ring"] ["grown","cell"] (aq dm):=by ac_nf
theorem ok_ren{f fo:Addr}{fd cu:FuncData} (F:Fun K "_law_renumbered" "_law_renumbered" dm f fd) (T:TxtM mg) (ac:Cal P w K mg base 1 "_law_order" ["cell","many"] xA fo cu):FnOk P w K mg base CX0 2 f fd ["grown","cell"] B9:=by
 refine F.ok aJ (λN H Q E h=>?_) (λab A aa s H N Q E v h=>?_)
 ·obtain⟨t,pe,pt,pr,c,m,B,ts,rg,rfl,_⟩:=h;rfl
 obtain⟨t,pe,pt,pr,c,m,B,ts,rg,rfl,ht,⟨⟨ys,a0,en⟩,⟨xs,a5,tu⟩,g⟩,⟨us,a4,ru⟩,part,G,dt,kk⟩:=h;have w':=g.w;have mf:=ng g;have a6:ys.length=B.length:=en.1;have ba:xs.length=m:=by rw[tu.1,w'.len]
 refine⟨_,(ag (au (i:=2) aJ.nd rfl (Or.inl rfl) (az ac.ok (v.mono (by decide)) rfl ac.mg ac.kp ac.bn .nil aL (ae (pv 1) (ae (ay ar (by rfl) T.n_len aY (ae (aB aK (pv 0) ai (λ_ _=>rfl)) ah)) ah))))
   (ag (au (i:=3) aJ.nd rfl (Or.inr rfl) (az ac.ok (v.mono (by decide)) rfl ac.mg ac.kp ac.bn .nil aL (ae (aw bX (pv 1) ai) (ae (ay ar (by rfl) T.n_len aY (ae (aB aK (pv 0) ai (λ_ _=>rfl)) ah)) ah))))
   (ag (au (i:=4) aJ.nd rfl (Or.inl rfl) (gy eF (by rfl) T.n_list gd (ae (aB aK (pv 0) ai (λ_ _=>rfl)) ah)))
   (ag (bK PassesOwn.never rfl (aN rfl T.n_range (ae (ay ar (by rfl) T.n_len aY (ae (pv 4) ah)) ah)) (aC (i:=5) aJ.nd rfl (Or.inl rfl)) (ak (jU (cO (ae (aB aD (pv 2) (aB aK (aB aD (aB aK (pv 0) ai (λ_ _=>rfl)) (pv 5) (λ_ _=>rfl)) ai (λ_ _=>rfl)) (λ_ _=>rfl)) (ae (aB aD (pv 2) (aB aK (aB aD (aB aK (pv 0) ai (λ_ _=>rfl)) (pv 5) (λ_ _=>rfl)) ai (λ_ _=>rfl)) (λ_ _=>rfl)) ah))) (jW (pv 4) (aB aD (pv 3) (pv 5) (λ_ _=>rfl)) d7))))
   (ag (au (i:=6) aJ.nd rfl (Or.inl rfl) (gy eF (by rfl) T.n_list gd (ae (aB aK (pv 0) ai (λ_ _=>rfl)) ah)))
   (ag (bK PassesOwn.never rfl (aN rfl T.n_range (ae (ay ar (by rfl) T.n_len aY (ae (pv 6) ah)) ah)) (aC (i:=7) aJ.nd rfl (Or.inl rfl)) (ag (cg (i:=8) rfl rfl rfl rfl aJ.nd rfl rfl (fr:=[("ties",3)]) (xs:=["k"]) (bH.of (by rfl) (by decide) (by rfl) (by decide) (by intro p M;simp only[EE,E5,or_false]at M;rcases M with rfl<;>exact⟨rfl,rfl⟩) (by decide) (by intro p M;simp only[EE,E5,or_false]at M;rcases M with rfl<;>rfl)) (a8 (aB aD (aB aK (pv 0) ai (λ_ _=>rfl)) (pv 7) (λ_ _=>rfl))) (λC ex s H=>(aC (i:=0) (show(["k","ties"]:List Str).Nodup from by decide) rfl (Or.inl rfl))) (λC ex s H=>bg) (λC ex s H ps XE=>(aB (jd (K:=K) rfl) (pv 1) (pv 0) (λ_ _=>rfl))))
   (ag (au (i:=9) aJ.nd rfl (Or.inl rfl) (aw bh (aw du (aw bh (pv 1) ai) (aw br (pv 7) ai)) (ay (mv rfl) (by rfl) T.n_max z8 (ae ai (ae (ay ar (by rfl) T.n_len aY (ae (pv 8) ah)) ah)))))
   (ak (jU (aw op_cat (dB fx (pv 8) (dN (pv 9)) iB) (dB fx (pv 8) iB (dN (pv 9)))) (jW (pv 6) (aB aD (pv 2) (pv 7) (λ_ _=>rfl)) d7))))))
   (ag (au (i:=10) aJ.nd rfl (Or.inl rfl) (bO ah))
   (ag (bK PassesOwn.never rfl (a8 (aB aK (pv 0) ai (λ_ _=>rfl))) (aC (i:=11) aJ.nd rfl (Or.inl rfl)) (ak (aW (dQ EX Ff Fe aZ (pv 10) (ae (a9 rfl rfl rfl rfl (fr:=[("ties",3)]) (xs:=["dart"]) (bH.of (by rfl) (by decide) (by rfl) (by decide) (by intro p M;simp only[EE,E5,or_false]at M;rcases M with rfl<;>exact⟨rfl,rfl⟩) (by decide) (by intro p M;simp only[EE,E5,or_false]at M;rcases M with rfl<;>rfl)) (a8 (pv 11)) (λC ex s H=>(aC (i:=0) (show(["dart","ties"]:List Str).Nodup from by decide) rfl (Or.inl rfl))) (λC ex s H=>bg) (λC ex s H ps XE=>(aw br (aw du ai (aB (jd (K:=K) rfl) (pv 1) (aw bX (pv 0) ai) (λ_ _=>rfl))) (aw bh (pv 0) ai)))) ah)))))
   (ak (aH (cO (ae (pv 4) (ae (pv 6) (ae (pv 10) ah)))))))))))))),?_⟩
 refine⟨_,rfl,_,rfl,t,_,1,_,rfl,rfl,SqT.of ht,at31,pt,xs,rfl,.inl (SqL.of a5),c,m,(by rw[ba];rfl),by omega,λq1 o1 H1 s1 _ J l1 n1 b1=>?_⟩
 refine⟨_,rfl,_,_,rfl,rfl,⟨by decide,by decide⟩,_,rfl,t,_,0,_,rfl,rfl,SqT.of (s1 _ _ ht),at30,pe,ys,rfl,.inl (SqL.of (s1 _ _ a0)),_,B.length,(by rw[a6];rfl),by omega,λq2 o2 a s2 _ bQ l2 n2 b2=>?_⟩
 have an:=s1.trans s2;have R:=ren_of (c:=c) w' l1 n1 b1 l2 n2 b2;have b8:=s2 _ _ J;refine⟨_,rfl,t,_,0,_,rfl,rfl,SqT.of (an _ _ ht),at30,pe,ys,rfl,.inl (SqL.of (an _ _ a0)),λqe cl=>?_⟩;have s3:=aj cl (.lst ys);have am:=an.trans s3;have dw:=s3 _ _ bQ;have dx:=s3 _ _ b8;have cd:∀ k,k<m->(o1.map iV)[k]?=some (iV (ofL o1 k)):=λk hk=>by
  rw[EO];unfold ofL;rw[EA (by omega)];rfl
 have ce:∀ k,k<B.length->(o2.map iV)[k]?=some (iV (ofL o2 k)):=λk hk=>by
  rw[EO];unfold ofL;rw[EA (by omega)];rfl
 have ds:H qe=none:=by
  cases y:H qe with
  |none=>rfl
  |some o=>rw[an _ _ y]at cl;cases cl
 refine⟨_,rfl,qe,ys,rfl,.inl (SqL.of af),_,rfl,by omega,by omega,bZ (n:=(ys.length:Int).toNat) (λi Y H5=>∃ v5 v6 v7 v8 v9 ap a3 zs,Y = [some (.ref t),some (.int c),some (.ref q1),some (.ref q2),some (.ref qe),v5,v6,v7,v8,v9,ap,a3]/\Same a H5/\H5 qe=some (.lst zs)/\zs.length=B.length/\∀(k:Nat)(e:Nat×Nat),k<i->B[k]?=some e->∃ p,zs[ofL o2 k]?=some (.ref p)/\H5 p=some (.tup [iV (ofL o1 e.1),iV (ofL o1 e.2)]))
  ⟨_,_,_,_,_,_,_,ys,rfl,s3,af,a6,λk e z=>absurd z (FN _)⟩ ?_ ?_⟩
 ·rintro i Y H5 I ⟨v5,v6,v7,v8,v9,ap,a3,zs,rfl,s5,hz,zl,bU⟩;rw[EN,a6]at I;have e0:(0:Int)+(i:Int)=(i:Int):=F1 _;rw[e0];have bd:=an.trans s5;obtain⟨e,he⟩:∃ e,B[i]?=some e:=⟨_,EA I⟩;obtain⟨p,x1,x2⟩:=(en.mono bd).2 i e he;obtain⟨a1,a2,_⟩:=w'.ends e (EC he);have cM:=R.si.lt i I;refine⟨_,rfl,_,rfl,t,_,0,_,rfl,rfl,SqT.of (bd _ _ ht),at30,_,rfl,pe,ys,_,_,rfl,rfl,SqL.of (bd _ _ a0),aA x1,p,_,0,_,rfl,rfl,SqT.of x2,at0,q1,_,_,_,rfl,rfl,SqL.of (s5 _ _ b8),aA (cd _ a1),_,rfl,_,rfl,t,_,0,_,rfl,rfl,SqT.of (bd _ _ ht),at30,_,rfl,pe,ys,_,_,rfl,rfl,SqL.of (bd _ _ a0),aA x1,p,_,1,_,rfl,rfl,SqT.of x2,at1,q1,_,_,_,rfl,rfl,SqL.of (s5 _ _ b8),aA (cd _ a2),(by show 2<=sizeLine;decide),λtt bY=>?_⟩
  have sn:=aj bY (.tup [iV (ofL o1 e.1),iV (ofL o1 e.2)]);refine⟨_,rfl,_,rfl,_,rfl,q2,_,_,_,rfl,rfl,SqL.of (sn _ _ (s5 _ _ bQ)),aA (ce _ I),qe,zs,_,ofL o2 i,rfl,rfl,sn _ _ hz,fZ (by omega),?_⟩
  refine⟨_,_,_,_,_,_,_,_,rfl,aV (s5.trans sn) cl _,af,by rw[Fc];exact zl,λk e' hk cm=>?_⟩
  by_cases z:k=i
  ·subst z;rw[he]at cm
   cases cm
   exact⟨tt,by rw[Fl,if_pos rfl,if_pos (by omega)],by rw[ao (λz=>by rw[z,hz]at bY;cases bY)];exact af⟩
  ·obtain⟨p',u1,u2⟩:=bU k e' (by omega) cm
   have cB:k<B.length:=(EB.mp cm).1;refine⟨p',by rw[Fl,if_neg (λy=>z (R.si.inj _ _ cB I y.symm))];exact u1,?_⟩
   rw[ao (λz=>by rw[z,hz]at u2;cases u2)]
   exact sn _ _ u2
 rintro Y H5 ⟨v5,v6,v7,v8,v9,ap,a3,zs,rfl,s5,hz,zl,bU⟩;rw[EN,a6]at bU;have bd:=an.trans s5
 have dd:cR H5 zs (en2 o1 o2 B):=⟨by rw[zl,R.l1],λj x h=>by
  obtain⟨k,e,rfl,h4,rfl⟩:=R.es' h
  exact bU k e (EB.mp h4).1 h4⟩
 refine⟨_,rfl,t,_,1,_,rfl,rfl,SqT.of (bd _ _ ht),at31,pt,xs,rfl,.inl (SqL.of (bd _ _ a5)),λqt bi=>?_⟩;have s6:=aj bi (.lst xs);have ct:=bd.trans s6
 refine⟨_,rfl,qt,xs,rfl,.inl (SqL.of af),_,rfl,by omega,by omega,bZ (n:=(xs.length:Int).toNat) (λi Y H7=>∃ v5 v7 v8 v9 ap a3 ws,Y = [some (.ref t),some (.int c),some (.ref q1),some (.ref q2),some (.ref qe),v5,some (.ref qt),v7,v8,v9,ap,a3]/\Same H5 H7/\H7 qt=some (.lst ws)/\ws.length=m/\∀(p:Nat)(l:List Nat),p<i->ts[p]?=some l->∃ q,ws[ofL o1 p]?=some (.ref q)/\H7 q=some (.lst ((rowN c o2 p l).map iV))/\q≠qt)
  ⟨_,_,_,_,_,_,xs,rfl,s6,af,ba,λk e z=>absurd z (FN _)⟩ ?_ ?_⟩
 ·rintro i Y H7 I ⟨w5,w7,w8,w9,de,df,ws,rfl,s7,hw,wl,b6⟩;rw[EN,ba]at I;have e0:(0:Int)+(i:Int)=(i:Int):=F1 _;rw[e0];have be:=bd.trans s7;have cN:=s5.trans s7;obtain⟨l,hl⟩:∃ l,ts[i]?=some l:=⟨_,EA (by rw[w'.len];exact I)⟩
  obtain⟨p,x1,x2⟩:=(tu.mono be).2 i l hl;have bm:=g.rows G hl;have cT:∀ k∈l,k<B.length:=λk hk=>jY w' hl hk;have cv:l.length<=B.length:=dv (w'.nd _ _ hl) cT;have ch:(l.map iV).length=l.length:=EJ _;refine⟨_,rfl,t,_,1,_,rfl,rfl,SqT.of (be _ _ ht),at31,_,rfl,pt,xs,_,_,rfl,rfl,SqL.of (be _ _ a5),aA x1,p,rfl,⟨_,SqL.of x2⟩,bE (K:=K) (xs:=l.map iV) (λj zs H8=>H8=H7/\zs=((l.map (ofL o2)).map iV).take j) (by rw[ch];exact Fq (av (by omega))) ⟨rfl,rfl⟩ (λj zs H8 _ z=>z.1▸SqL.of x2) ?_ ?_⟩
  ·rintro j x zs H8 O ⟨rfl,rfl⟩;rw[EO]at O;obtain⟨k,hk,rfl⟩:=Fm.mp O;refine⟨_,rfl,_,rfl,q2,_,_,_,rfl,rfl,SqL.of (cN _ _ bQ),aA (ce _ (cT k (EC hk))),rfl,?_⟩;rw[Fj,EO,EO,hk];rfl
  rintro zs H8 bA ⟨rfl,rfl⟩ D hD;rw[ch,FX (by rw[EJ,EJ];exact EI _)]
  have sD:=aj hD (.lst ((l.map (ofL o2)).map iV));have dlen:((l.map (ofL o2)).map iV).length=l.length:=by rw[EJ,EJ]
  have cp:(0:Int)<(((l.map (ofL o2)).map iV).length:Int):=by omega
  have da:(if(((l.map (ofL o2)).map iV).length:Int) > 1 then(((l.map (ofL o2)).map iV).length:Int) else 1)=(((l.map (ofL o2)).map iV).length:Int):=by split<;>omega
  have c0:=GB c (show(1009:Int)≠0 by decide)
  have c1:=Gd c (show(0:Int)<1009 by decide)
  refine⟨_,rfl,_,_,rfl,rfl,(by show(0:Int)<1009;decide),_,rfl,_,_,rfl,rfl,_,_,rfl,rfl,.inl ⟨by show -(2^64:Int)<c%1009;omega,by show c%1009<(2^64:Int);omega⟩,_,rfl,D,_,rfl,.inl (SqL.of af),_,_,rfl,_,_,rfl,rfl,(by rw[da];exact cp),?_⟩
  rw[da];have u0:=GB (c%1009*((i:Int)+1)) (show(((l.map (ofL o2)).map iV).length:Int)≠0 by omega)
  have u1:=Gd (c%1009*((i:Int)+1)) cp;have cq:c%1009*((i:Int)+1)%(((l.map (ofL o2)).map iV).length:Int)=((cutp c i l.length:Nat):Int):=by
   unfold cutp;rw[dlen]at u0 ⊢;exact(Gn u0).symm
  have cs:cutp c i l.length<=((l.map (ofL o2)).map iV).length:=by omega
  refine⟨_,rfl,_,rfl,_,rfl,D,_,rfl,SqL.of af,λdg cb=>?_⟩;rw[cq,cut_hi cs];have sB:=aj cb (.lst (((l.map (ofL o2)).map iV).drop (cutp c i l.length)));refine⟨_,rfl,_,rfl,_,rfl,D,_,rfl,SqL.of (sB _ _ af),λcM cc=>?_⟩;rw[cq,cut_lo cs];have sC:=aj cc (.lst (((l.map (ofL o2)).map iV).take (cutp c i l.length)));refine⟨dg,cM,_,_,rfl,rfl,sC _ _ af,af,by rw[Ge,Fy];exact Fq (av (by omega)),λb3 bF=>?_⟩
  have bB:((l.map (ofL o2)).map iV).drop (cutp c i l.length)++((l.map (ofL o2)).map iV).take (cutp c i l.length)=(rowN c o2 i l).map iV:=by
   unfold rowN;rw[Fv,Fv,Hy,Hy,Hx,Hx]
  rw[bB];have sE:=aj bF (.lst ((rowN c o2 i l).map iV));have b7:=((sD.trans sB).trans sC).trans sE;refine⟨_,rfl,_,rfl,_,rfl,q1,_,_,_,rfl,rfl,SqL.of (b7 _ _ (cN _ _ b8)),aA (cd _ I),qt,ws,_,ofL o1 i,rfl,rfl,b7 _ _ hw,fZ (by rw[wl];exact R.pi.lt i I),?_⟩
  have db:b3≠qt:=λz=>by rw[z,((sD.trans sB).trans sC) _ _ hw]at bF;cases bF
  refine⟨_,_,_,_,_,_,_,rfl,aV (s7.trans b7) bi _,af,by rw[Fc];exact wl,λp' l' cx al=>?_⟩
  by_cases z:p'=i
  ·subst z;rw[hl]at al
   cases al
   exact⟨b3,by rw[Fl,if_pos rfl,if_pos (by rw[wl];exact R.pi.lt p' I)],by rw[ao db];exact af,db⟩
  ·obtain⟨q,u1,u2,u3⟩:=b6 p' l' (by omega) al
   have aP:p'<m:=by rw[← w'.len];exact(EB.mp al).1
   exact⟨q,by rw[Fl,if_neg (λy=>z (R.pi.inj _ _ aP I y.symm))];exact u1,by rw[ao u3];exact b7 _ _ u2,u3⟩
 rintro Y H7 ⟨w5,w7,w8,w9,de,df,ws,rfl,s7,hw,wl,b6⟩;rw[EN,ba]at b6
 have dh:bS H7 ws (ts2 c o1 o2 ts):=⟨by rw[wl,R.l2],λj L h=>by
  have hj:j<m:=by rw[← R.l2];exact(EB.mp h).1
  obtain⟨p,M,rfl⟩:=R.pi.sur j hj;obtain⟨l,hl⟩:∃ l,ts[p]?=some l:=⟨_,EA (by rw[w'.len];exact M)⟩
  obtain⟨q,z1,z2,_⟩:=b6 p l M hl;refine⟨q,z1,?_⟩;unfold ts2 at h;rw[EO,FU (by rw[w'.len];exact R.pi.lt p M)]at h
  have h':some (rowN c o2 (o1.idxOf (ofL o1 p)) ((ts[o1.idxOf (ofL o1 p)]?).getD []))=some L:=h;rw[y8 n1 (by omega),hl]at h'
  cases h'
  exact z2⟩
 have be:=bd.trans s7;refine⟨(by show 0<=sizeLine;decide),λqr bf=>?_⟩
 have s8:=aj bf (.lst []);have dC:=ru.mono (be.trans s8);have ul:us.length=rg.length:=ru.1;have cE:rg.length<=B.length+2:=by
  obtain⟨rs,x1,x2⟩:=g.part;have:=part.same x1;omega
 have cw:∀(r:List Nat),r∈rg->r.length<=2*B.length/\∀ d∈r,d<2*B.length:=λr v=>⟨dv (part.cr r v).nd (part.cr r v).lt,(part.cr r v).lt⟩;have di:=s5.trans s7
 refine⟨_,rfl,t,_,2,_,rfl,rfl,SqT.of ((be.trans s8) _ _ ht),at32,pr,rfl,⟨us,SqL.of ((be.trans s8) _ _ a4)⟩,cJ (xs:=us) (λi Y H9=>∃ v5 v7 v8 v9 a3 b0,Y = [some (.ref t),some (.int c),some (.ref q1),some (.ref q2),some (.ref qe),v5,some (.ref qt),v7,v8,v9,some (.ref qr),a3]/\Same H7 H9/\H9 qr=some (.lst b0)/\bb (λp=>p=qr) H9 b0 ((rg.map (Iu (Phi (ofL o2)))).take i))
  ⟨_,_,_,_,_,[],rfl,s8,af,⟨rfl,λi l z=>by simp at z⟩⟩ (λi Y H9 _ ⟨_,_,_,_,_,_,_,z,_⟩=>SqL.of ((be.trans z) _ _ a4)) ?_ ?_⟩
 ·rintro i x Y H9 O ⟨dj,dn,dp,dq,dc,b0,rfl,s9,ci,cj⟩;have I:i<rg.length:=by rw[← ul];exact(EB.mp O).1
  obtain⟨r,v⟩:∃ r,rg[i]?=some r:=⟨_,EA I⟩;obtain⟨p,x1,x2⟩:=(ru.mono (be.trans s9)).2 i r v;rw[O]at x1
  cases x1
  obtain⟨rl,bR⟩:=cw r (EC v);have aT:(r.map iV).length=r.length:=EJ _;have ca:b0.length=i:=by rw[cj.1,Fy,EJ];omega
  refine⟨_,rfl,.inl ⟨rfl,_,SqL.of ci⟩,_,rfl,p,rfl,⟨_,SqL.of x2⟩,bE (K:=K) (xs:=r.map iV) (λj zs H8=>H8=H9/\zs=((r.map (Phi (ofL o2))).map iV).take j) (by rw[aT];exact Fq (av (by omega))) ⟨rfl,rfl⟩ (λj zs H8 _ z=>z.1▸SqL.of x2) ?_ ?_⟩
  ·rintro j x zs H8 O ⟨rfl,rfl⟩;rw[EO]at O;obtain⟨d,hd,rfl⟩:=Fm.mp O;have dl:=bR d (EC hd);have e2:(d:Int)/2=((d/2:Nat):Int):=by omega
   refine⟨_,rfl,_,rfl,_,_,rfl,rfl,⟨by decide,by decide⟩,q2,_,_,_,rfl,rfl,SqL.of ((di.trans s9) _ _ bQ),(by rw[e2];exact aA (ce _ (by omega))),_,_,rfl,rfl,.inl ⟨by decide,by decide⟩,_,rfl,_,_,rfl,rfl,(by show(0:Int)<2;decide),_,_,rfl,rfl,rfl,?_⟩
   rw[Fj,EO,EO,hd];have:V.int (2*((ofL o2 (d/2):Nat):Int)+(d:Int)%2)=iV (Phi (ofL o2) d):=by
    unfold Phi iV;congr 1
   simpa[iV] using this
  rintro zs H8 bA ⟨rfl,rfl⟩ D hD;rw[aT,FX (by rw[EJ,EJ];exact EI _)]
  have sD:=aj hD (.lst ((r.map (Phi (ofL o2))).map iV));have Dq:D≠qr:=λz=>by rw[z,ci]at hD;cases hD
  refine⟨qr,b0,_,rfl,rfl,sD _ _ ci,av (by omega),?_⟩
  have ck:H7 qr=none:=bf;refine⟨_,_,_,_,_,_,rfl,aV (s9.trans sD) ck _,af,?_⟩;have tk:(rg.map (Iu (Phi (ofL o2)))).take (i+1)=(rg.map (Iu (Phi (ofL o2)))).take i++[r.map (Phi (ofL o2))]:=by
   rw[Fj,EO,v];rfl
  rw[tk];refine bb.mono (bb.snoc (bb.mono cj λb u _ z=>sD _ _ z) Dq af) λb u n z=>?_;rw[ao n];exact z
 rintro Y H9 ⟨dj,dn,dp,dq,dc,b0,rfl,s9,ci,cj⟩;rw[ul,FX (by rw[EJ];exact EI _)]at cj
 have dr:=be.trans s9;refine⟨_,rfl,_,rfl,_,rfl,(by show 3<=sizeLine;decide),λt' bv=>?_⟩
 have sT:=aj bv (.tup [.ref qe,.ref qt,.ref qr]);have co:=s9.trans sT;exact kk t' qe qt qr (en2 o1 o2 B) (ts2 c o1 o2 ts) _ _ (dr.trans sT) af ⟨⟨zs,co _ _ (s7 _ _ hz),(dd.mono s7).mono co⟩,⟨ws,co _ _ hw,dh.mono co⟩,R.gr g⟩ ⟨b0,sT _ _ ci,cj.off.mono sT⟩ (AI R g part) R.l1
end
theorem qW:bootBuiltins "min" = some (.builtin "min"):=by decide
theorem lV{S:Addr->Prop}{H:Hp}{xs:List V}{ts:List (List Nat)}{q:Addr}(h:bb S H xs ts)(D:Dist xs)(v:H q=none):Dist (xs++[.ref q]):=by
 have d:∀(j:Nat)(p:Addr),j<xs.length->(xs++[V.ref q])[j]?=some (.ref p)->xs[j]?=some (.ref p)/\p≠q:=λj p E e=>by
  rw[EH E]at e;obtain⟨A,B,_,f⟩:=h.2 j _ (EA (by rw[← h.1];exact E))
  rw[e]at B
  cases B
  exact⟨e,aE f v⟩
 have new:∀(j:Nat)(p:Addr),¬ j<xs.length->(xs++[V.ref q])[j]?=some (.ref p)->j=xs.length/\p=q:=λj p E e=>by
  have:=(EB.mp e).1;rw[EG,ES]at this;have b:j=xs.length:=by omega
  subst b;rw[EF (EI _),EW]at e
  cases e
  exact⟨rfl,rfl⟩
 intro j k p T Q;by_cases E:j<xs.length
 ·obtain⟨w,a⟩:=d j p E T;by_cases g:k<xs.length
  ·exact D j k p w (d k p g Q).1
  ·exact absurd (new k p g Q).2 a
 ·obtain⟨w,a⟩:=new j p E T;by_cases g:k<xs.length
  ·exact absurd a (d k p g Q).2
  ·rw[w,(new k p g Q).1]
noncomputable abbrev Kn:=List (Int×Int)
noncomputable def gY(H:Hp)(l:List V)(ks:Kn):Prop:=l.length=ks.length/\∀(i:Nat)(k:Int×Int),ks[i]?=some k->(k.1=0∨k.1=1)/\0<=k.2/\∃ p,l[i]?=some (.ref p)/\H p=some (.tup [.int k.1,.int k.2])
theorem gY.mono{H H':Hp}{l:List V}{ks:Kn}(h:gY H l ks)(s:Same H H'):gY H' l ks:=⟨h.1,λi k z=>by
 obtain⟨a,b,p,c,d⟩:=h.2 i k z
 exact⟨a,b,p,c,s _ _ d⟩⟩
theorem gY.snoc{H:Hp}{l:List V}{ks:Kn}{k:Int×Int}{p:Addr}(t:gY H l ks)(h:H p=some (.tup [.int k.1,.int k.2]))(J:k.1=0∨k.1=1)(h2:0<=k.2):gY H (l++[.ref p]) (ks++[k]):=by
 refine⟨by rw[EG,EG,t.1];rfl,λj x y=>?_⟩
 by_cases E:j<ks.length
 ·rw[EH E]at y;obtain⟨u,v,p,B,s⟩:=t.2 j x y;exact⟨u,v,p,by rw[EH (by rw[t.1];exact E)];exact B,s⟩
 ·rw[EF (by omega)]at y
  have b:j=ks.length:=by
   have:=(EB.mp y).1;rw[ES]at this;omega
  subst b;rw[EW]at y
  cases y
  exact⟨J,h2,p,by rw[← t.1,EF (EI _),EW];rfl,h⟩
theorem Gr.two{m:Nat}{es:En}{ts:List (List Nat)}(g:Gr m es ts)(h:0<es.length):2<=m:=by
 obtain⟨a,b,c⟩:=g.w.ends _ (EC (EA h));omega
noncomputable def xH(K:ED):Sp:=λN H Q _=>∃(a c:Addr)(n:Nat)(t b:List Int),N = [.ref a,.int (n:Int),.ref c]/\SqL K H a (t.map V.int)/\t.length<=63/\SqL K H c (b.map V.int)/\0<b.length/\b.length<1000/\(∀ x∈b,1<=x/\x<=10^(30:Int).toNat+1)/\0<n/\n<=100 /\
 ∀(q:Addr)(l:List V)(r:Kn)(j:Hp),Same H j->j q=some (.lst l)->gY j l r->r.length=n->(∀ k∈r,k.2<=10^(30:Int).toNat)->Q (.ref q) j
section
variable{P:Program}{w:World}{K:ED}{mg:Str->Option Value}{base:Heap}
theorem d8:ax ["script","many","limits","limit","totals","k"] ["script","many","limits"] (aq iu):=by ac_nf
theorem A9{f fc:Addr}{fd dc:FuncData} (F:Fun K "_law_kinds" "_law_kinds" iu f fd) (T:Txt mg) (ab:Cal P w K mg base 1 "_law_cell" ["script","k"] (xJ K) fc dc):FnOk P w K mg base CX0 2 f fd ["script","many","limits"] (xH K):=by
 refine F.ok d8 (λN H Q E h=>?_) (λc A G s H N Q E l h=>?_)
 ·obtain⟨a,lm,n,ns,Ls,rfl,_⟩:=h;rfl
 obtain⟨a,lm,n,ns,Ls,rfl,hS,an,hL,L0,L1,Lb,n0,aT,B⟩:=h;have aa:(ns.map V.int).length=ns.length:=EJ _;have am:(Ls.map V.int).length=Ls.length:=EJ _;have ac:(0:Int)<((Ls.map V.int).length:Int):=by omega
 refine⟨_,(ag (au (i:=3) d8.nd rfl (Or.inl rfl) (aB aD (pv 2) (aw bh (az ab.ok (l.mono (by decide)) rfl ab.mg ab.kp ab.bn .nil aL (ae (pv 0) (ae ai ah))) (ay ar (by rfl) T.n_len aY (ae (pv 2) ah))) (λ_ _=>rfl)))
   (ag (cg (i:=4) rfl rfl rfl rfl d8.nd rfl rfl (fr:=[]) (xs:=["k"]) (bH.of (by rfl) (by decide) (by rfl) (by decide) (λp M=>nomatch M) (by decide) (λp M=>nomatch M)) (aN rfl T.n_range (ae (pv 1) ah)) (λC ex s H=>(aC (i:=0) (show(["k"]:List Str).Nodup from by decide) rfl (Or.inl rfl))) (λC ex s H=>bg) (λC ex s H ps XE=>ai))
   (ag (bK PassesOwn.never rfl (aN rfl T.n_range (ae (ay ar (by rfl) T.n_len aY (ae (pv 0) ah)) ah)) (aC (i:=5) d8.nd rfl (Or.inl rfl)) (ak (jU (aw bh (aw br (aw du (aB aD (pv 4) (aw bh (pv 5) (pv 1)) (λ_ _=>rfl)) ai) (aB aD (pv 0) (pv 5) (λ_ _=>rfl))) (aw du ai (pv 3))) (jW (pv 4) (aw bh (pv 5) (pv 1)) d7))))
   (ak (aH (a9 rfl rfl rfl rfl (fr:=[]) (xs:=["total"]) (bH.of (by rfl) (by decide) (by rfl) (by decide) (λp M=>nomatch M) (by decide) (λp M=>nomatch M)) (a8 (pv 4)) (λC ex s H=>(aC (i:=0) (show(["total"]:List Str).Nodup from by decide) rfl (Or.inl rfl))) (λC ex s H=>bg) (λC ex s H ps XE=>(cO (ae (aw bh (pv 0) ai) (ae (aw bX (pv 0) ai) ah)))))))))),?_⟩
 obtain⟨i,I,il⟩:∃ i:Nat,pq ns 1%((Ls.map V.int).length:Int)=(i:Int)/\i<Ls.length:=by
  have h0:=GB (pq ns 1) (show((Ls.map V.int).length:Int)≠0 by omega)
  have J:=Gd (pq ns 1) ac;exact⟨_,(Gn h0).symm,by omega⟩
 obtain⟨L,a1⟩:∃ L,Ls[i]?=some L:=⟨_,EA il⟩;obtain⟨b1,b2⟩:=Lb L (EC a1);have ap:(0:Int)<2*L:=by omega
 refine⟨_,rfl,_,rfl,a,1,ns,rfl,hS,_,rfl,lm,_,rfl,.inl hL,_,_,rfl,rfl,ac,lm,_,_,_,rfl,rfl,hL,(by rw[I];exact aA (v:=.int L) (by rw[EO,a1];rfl)),?_⟩
 refine⟨_,rfl,_,rfl,by omega,by ac_rfl,cn (n:=(n:Int).toNat) (λj b u=>u=H/\b=(ET j (0:Int)).map V.int) (by rw[EN];exact Fq (av (by omega))) ⟨rfl,rfl⟩ (λj b u _ ⟨z1,z2⟩=>?_) ?_⟩
 ·subst z1 z2;refine⟨rfl,?_⟩;rw[Hd,Fv];rfl
 rintro b u _ ⟨rfl,rfl⟩ q e;rw[EN];have m:=aj e (.lst ((ET n (0:Int)).map V.int))
 refine⟨_,rfl,a,_,rfl,.inl (m.seq hS),_,rfl,by omega,by ac_rfl,bZ (n:=((ns.map V.int).length:Int).toNat) (λj Y H3=>∃(v5:Option V)(xs:List Int),Y = [some (.ref a),some (.int (n:Int)),some (.ref lm),some (.int L),some (.ref q),v5]/\Same u H3/\H3 q=some (.lst (xs.map V.int))/\xs.length=n/\∀ x∈xs,0<=x/\x<2*L)
  ⟨_,ET n 0,rfl,m,af,Gw,λx O=>by rw[List.eq_of_mem_replicate O];omega⟩ ?_ ?_⟩
 ·rintro j Y H3 hj ⟨v5,xs,rfl,s3,al,xl,xb⟩;rw[EN,aa]at hj;have e0:(0:Int)+(j:Int)=(j:Int):=F1 _;rw[e0];have a0:(0:Int)<(n:Int):=by omega
  have jm:(j:Int)%(n:Int)=((j%n:Nat):Int):=by omega
  have jl:j%n<n:=Jh _ n0;obtain⟨x,O⟩:∃ x,xs[j%n]?=some x:=⟨_,EA (by omega)⟩
  have a2:(xs.map V.int)[j%n]?=some (.int x):=by rw[EO,O];rfl
  have a3:(ns.map V.int)[j]?=some (.int ns[j]):=by rw[EO,EA hj];rfl
  refine⟨_,rfl,_,rfl,_,rfl,_,_,rfl,rfl,a0,q,_,_,_,rfl,rfl,SqL.of al,(by rw[jm];exact aA a2),_,_,rfl,rfl,.inr ⟨by decide,by decide⟩,_,rfl,_,rfl,a,_,_,_,rfl,rfl,s3.seq hS,aA a3,_,_,rfl,rfl,_,rfl,_,_,rfl,rfl,.inl ⟨by decide,by decide⟩,_,_,rfl,rfl,ap,?_⟩
  have aP:(xs.map V.int).length=xs.length:=EJ _;refine⟨_,rfl,_,rfl,_,rfl,_,_,rfl,rfl,a0,q,xs.map V.int,_,j%n,rfl,rfl,al,(by rw[jm];exact fZ (by omega)),?_⟩
  refine⟨_,xs.set (j%n) ((x*5+ns[j])%(2*L)),rfl,aV s3 e _,?_,by rw[Fc];exact xl,λy hy=>?_⟩
  ·rw[af,IE]
  ·rcases He hy with z | z
   ·exact xb y z
   ·rw[z];exact⟨GB _ (by omega),Gd _ ap⟩
 rintro Y H3 ⟨v5,xs,rfl,s3,al,xl,xb⟩;have aP:(xs.map V.int).length=xs.length:=EJ _;refine⟨_,rfl,q,rfl,⟨_,SqL.of al⟩,bE (K:=K) (xs:=xs.map V.int) (λj o H4=>Same H3 H4/\∃ r:Kn,gY H4 o r/\r.length=j/\∀ k∈r,k.2<=10^(30:Int).toNat) (by rw[aP];exact Fq (av (by omega))) ⟨λ_ _ z=>z,[],⟨rfl,λi k z=>by simp at z⟩,rfl,λk z=>nomatch z⟩ (λj o H4 _ z=>SqL.of (z.1 _ _ al)) ?_ ?_⟩
 ·rintro j v o H4 hv ⟨s4,r,tk,kl,kb⟩;rw[EO]at hv;obtain⟨x,O,rfl⟩:=Fm.mp hv;obtain⟨x0,x1⟩:=xb x (EC O);refine⟨_,rfl,_,_,rfl,rfl,(by show(0:Int)<2;decide),_,rfl,_,_,rfl,rfl,⟨by decide,by decide⟩,(by show 2<=sizeLine;decide),λt g=>?_⟩
  have sn:=aj g (.tup [.int (x%2),.int (x/2)]);refine⟨s4.trans sn,r++[(x%2,x/2)],(tk.mono sn).snoc af (by show x%2=0∨x%2=1;omega) (by show 0<=x/2;omega),by rw[EG,kl];rfl,λk d=>?_⟩
  rcases ER.mp d with z | z
  ·exact kb k z
  ·rw[Fi.mp z];show x/2<=_;generalize (10:Int)^(30:Int).toNat=Z at b2 ⊢;omega
 rintro o H4 _ ⟨s4,r,tk,kl,kb⟩ D hD;have sD:=aj hD (.lst o);exact B D o r _ ((s3.trans s4).trans sD) af (tk.mono sD) (by rw[kl,aP,xl]) kb
end
theorem andN(a b:Nat):Builtin.bitAnd (a:Int) (b:Int)=((a&&&b:Nat):Int):=by
 rw[PyProof.Rows.bitAnd_pp (Hl _) (Hl _),EN,EN]
theorem orN(a b:Nat):Builtin.bitOr (a:Int) (b:Int)=((a|||b:Nat):Int):=by
 rw[PyProof.Rows.bitOr_and,andN];have q:=PyProof.Rows.nat_or_add_and a b;omega
theorem shlN(p:Nat):(1:Int)*2^((p:Nat):Int).toNat=((2^p:Nat):Int):=by
 rw[IS,EN,Ia];rfl
theorem nA{M p q:Nat}:(M&&&(2^p|||2^q)=0↔M.testBit p=false/\M.testBit q=false)/\(M|||(2^p|||2^q)=M->M.testBit p=true/\M.testBit q=true):=by
 have b1:∀ i,(2^p|||2^q).testBit i=(decide (p=i)||decide (q=i)):=λi=>by rw[Gu,Fg,Fg]
 refine⟨⟨λh=>?_,λ⟨J,C⟩=>?_⟩,λh=>?_⟩
 ·have J:=congrArg (λz=>Hh z p) h
  have C:=congrArg (λz=>Hh z q) h;simp only[Gv,b1,FC]at J C;constructor
  ·simpa using J
  ·simpa using C
 ·refine FA λi=>?_;rw[Gv,b1,FC];by_cases f:p=i
  ·subst f;rw[J];rfl
  ·by_cases v:q=i
   ·subst v;rw[C];rfl
   ·simp[f,v]
 ·have J:=congrArg (λz=>Hh z p) h
  have C:=congrArg (λz=>Hh z q) h;simp only[Gu (x:=M),b1]at J C;constructor
  ·simpa using J.symm
  ·simpa using C.symm
theorem lQ{M m:Nat}(h:M<2^m)(k:∀ p,p<m->M.testBit p=true):M=2^m-1:=by
 refine FA λi=>?_;rw[G5];by_cases z:i<m
 ·rw[k i z,decide_eq_true z]
 ·rw[decide_eq_false z];exact G0 (EZ h (FL (by decide) (by omega)))
noncomputable def kM(K:ED):Sp:=λN H Q _=>∃(a:Addr)(v:List V)(m:Nat)(B:En)(g:List (List Nat)),N = [.int 0,.ref a]/\SqL K H a v/\cR H v B/\Gr m B g/\2<=m/\m<=40/\Q (.int ((2^m-1:Nat):Int)) H
section
variable{P:Program}{w:World}{K:ED}{mg:Str->Option Value}{base:Heap}
theorem aS:ax ["start","pairs","mask","ahead","one","two","ends"] ["start","pairs"] (aq eQ):=by ac_nf
theorem ok_reached{f:Addr}{fd:FuncData} (F:Fun K "reached" "reached" eQ f fd):FnOk P w K mg base CX0 1 f fd ["start","pairs"] (kM K):=by
 refine F.ok aS (λN H Q E h=>?_) (λl A G s H N Q E L h=>?_)
 ·obtain⟨a,v,m,B,b,rfl,_⟩:=h;rfl
 obtain⟨a,v,m,B,b,rfl,hS,hE,g,m2,al,D⟩:=h
 refine⟨_,(ag (au (i:=2) aS.nd rfl (Or.inl rfl) (aw cP ai (pv 0)))
   (ag (au (i:=3) aS.nd rfl (Or.inl rfl) ai)
   (ag (fN PassesOwn.never (aG lB (pv 2) (pv 3) (aM _)) (ag (au (i:=3) aS.nd rfl (Or.inl rfl) (pv 2))
   (ak (bK PassesOwn.never rfl (a8 (pv 1)) (mX rfl (bx (aC (i:=4) aS.nd rfl (Or.inl rfl)) (bx (aC (i:=5) aS.nd rfl (Or.inl rfl)) gv))) (ag (au (i:=6) aS.nd rfl (Or.inl rfl) (aw vC (aw cP ai (pv 4)) (aw cP ai (pv 5))))
   (ak (bN (aG lB (aw mY (pv 2) (pv 6)) ai (aM _)) (ak (au (i:=2) aS.nd rfl (Or.inl rfl) (aw vC (pv 2) (pv 6)))) aR)))))))
   (ak (aH (pv 2)))))),?_⟩
 refine⟨_,rfl,_,_,rfl,rfl,⟨by decide,by decide,by decide⟩,?_⟩
 have p2:∀ p,p<m->2^p<2^m:=λp t=>FW (by decide) t
 refine fk (λY u=>∃(M Ah:Nat),∃ v4 v5 v6,u=H/\Y = [some (.int 0),some (.ref a),some (.int (M:Int)),some (.int (Ah:Int)),v4,v5,v6]/\M.testBit 0=true/\M<2^m/\(M=Ah->∀ e∈B,M.testBit e.1=M.testBit e.2))
  (λY _=>match Y with | [_,_,some (.int M),some (.int Ah),_,_,_]=>2*((2^m:Nat)-M).toNat+(if M=Ah then 0 else 1) | _=>0) ⟨1,0,_,_,_,rfl,rfl,by decide,Iq (by ac_rfl),λz=>absurd z (by decide)⟩ ?_ ?_
 ·rintro Y u ⟨M,Ah,v4,v5,v6,rfl,rfl,b0,hM,cl⟩;refine⟨_,rfl,_,rfl,rfl,_,rfl,?_⟩;refine ite2 (λc=>?_) (λc=>?_)
  ·have n:M≠Ah:=λz=>by
    rw[decide_eq_true (show V.int (M:Int)=V.int (Ah:Int) by rw[z])]at c
    cases c
   refine⟨_,rfl,?_⟩;refine⟨_,rfl,a,rfl,⟨_,hS⟩,cJ (K:=K) (xs:=v) (λi Y H3=>∃(M':Nat),∃ v4 v5 v6,H3=u/\Y = [some (.int 0),some (.ref a),some (.int (M':Int)),some (.int (M:Int)),v4,v5,v6]/\M'.testBit 0=true/\M'<2^m/\M<=M'/\(M'=M->∀(j:Nat)(e:Nat×Nat),j<i->B[j]?=some e->M.testBit e.1=M.testBit e.2)) ⟨M,_,_,_,rfl,rfl,b0,hM,EI _,λ_ j e z=>absurd z (FN _)⟩ (λi Y H3 _ ⟨_,_,_,_,z,_⟩=>z▸hS) ?_ ?_⟩
   ·rintro i x Y H3 O ⟨M',v4,v5,v6,rfl,rfl,am,ab,ac,an⟩;have I:i<B.length:=by rw[← hE.1];exact(EB.mp O).1
    obtain⟨e,o⟩:∃ e,B[i]?=some e:=⟨_,EA I⟩;obtain⟨p,x1,x2⟩:=hE.2 i e o;rw[O]at x1
    cases x1
    obtain⟨T,k,_⟩:=g.w.ends e (EC o);obtain⟨t1,t2⟩:=nA (M:=M') (p:=e.1) (q:=e.2);refine⟨p,_,rfl,SqT.of x2,rfl,_,_,rfl,_,_,rfl,rfl,?_⟩;refine⟨_,rfl,_,_,rfl,rfl,⟨by ac_rfl,by ac_rfl,by decide⟩,_,rfl,_,_,rfl,rfl,⟨by ac_rfl,by ac_rfl,by decide⟩,_,_,rfl,rfl,?_⟩
    have eo:Builtin.bitOr (1*2^((e.1:Nat):Int).toNat) (1*2^((e.2:Nat):Int).toNat)=((2^e.1|||2^e.2:Nat):Int):=by rw[shlN,shlN,orN]
    refine⟨_,rfl,_,rfl,_,_,rfl,rfl,rfl,_,rfl,?_⟩;have step:∀ ap:Nat,M'<=ap->(ap=M'->M'.testBit e.1=M'.testBit e.2)->ap=M->∀(j:Nat)(x:Nat×Nat),j<i+1->B[j]?=some x->M.testBit x.1=M.testBit x.2:=λap J C r j x d aa=>by
     have e3:M'=M:=by ac_rfl
     by_cases z:j=i
     ·subst z;rw[o]at aa
      cases aa
      have:=C (by ac_rfl)
      rwa[e3]at this
     ·exact an e3 j x (by ac_rfl) aa
    refine ite2 (λc=>?_) (λc=>?_)
    ·refine⟨_,rfl,_,rfl,_,_,rfl,rfl,?_⟩;refine⟨M'|||(2^e.1|||2^e.2),some (iV e.1),some (iV e.2),some (V.int (Builtin.bitOr (1*2^((e.1:Nat):Int).toNat) (1*2^((e.2:Nat):Int).toNat))),rfl,?_,?_,HK ab (HK (p2 _ T) (p2 _ k)),FF ac Ja,step _ Ja λz=>?_⟩
     ·show[some (V.int 0),some (V.ref a),some (V.int (Builtin.bitOr (M':Int) (Builtin.bitOr (1*2^((e.1:Nat):Int).toNat) (1*2^((e.2:Nat):Int).toNat)))),some (V.int (M:Int)),some (iV e.1),some (iV e.2),some (V.int (Builtin.bitOr (1*2^((e.1:Nat):Int).toNat) (1*2^((e.2:Nat):Int).toNat)))]=_;rw[eo,orN]
     ·rw[Gu,am];rfl
     ·obtain⟨u1,u2⟩:=t2 z;rw[u1,u2]
    ·refine⟨M',_,_,_,rfl,rfl,am,ab,ac,step M' (EI _) λ_=>?_⟩;have c3:M'&&&(2^e.1|||2^e.2)=0:=by
      by_cases z:M'&&&(2^e.1|||2^e.2)=0
      ·exact z
      ·refine absurd ?_ c;rw[decide_eq_false (λy=>z ?_)]
       ·rfl
       ·have y':=V.int.inj y
        rw[eo,andN]at y';ac_rfl
     obtain⟨u1,u2⟩:=t1.mp c3;rw[u1,u2]
   ·rintro Y H3 ⟨M',v4,v5,v6,rfl,rfl,am,ab,ac,an⟩;rw[hE.1]at an;refine⟨⟨M',M,_,_,_,rfl,rfl,am,ab,λz e o=>?_⟩,?_⟩
    ·obtain⟨j,d⟩:=FD.mp o;have:=an z j e (EB.mp d).1 d;rw[z];exact this
    ·show 2*(((2^m:Nat):Int)-(M':Int)).toNat+(if(M':Int)=(M:Int) then 0 else 1)<2*(((2^m:Nat):Int)-(M:Int)).toNat+(if(M:Int)=(Ah:Int) then 0 else 1);rw[if_neg (show ¬ (M:Int)=(Ah:Int) from λz=>n (by ac_rfl))]
     have aT:(M':Int)<((2^m:Nat):Int):=by exact_mod_cast ab
     have a0:(M:Int)<=(M':Int):=by ac_rfl
     generalize ((2^m:Nat):Int)=Z at aT ⊢;split<;>ac_rfl
  ·have n:M=Ah:=by
    by_cases z:M=Ah
    ·exact z
    ·exact absurd (by rw[decide_eq_false (λy=>z (by have:=V.int.inj y;ac_rfl))];rfl) c
   have aP:=lQ hM λp t=>by
    have:=g.conn (λx=>M.testBit x=true) (λe o=>by rw[cl n e o]) 0 p (by ac_rfl) t b0
    exact this
   refine⟨_,rfl,?_⟩;rw[aP];exact D
 ·rintro Y u Q1 Q2 I ⟨v',e,b',k,z1,n,e3,q'⟩;exact⟨v',e,b',k,z1,n,e3,I _ _ q'⟩
end
theorem uv{X:Cx}{K:ED}(h:X.K=K):jq X (.builtin "sorted") (Ci K):=h▸wF
noncomputable def MoR(l:List Nat):Prop:=l.length<64∨(l.length<100/\(l.Pairwise (· < ·)∨l.Pairwise (· > ·)))
theorem mU:∀{a b:List Int},a.Perm b->a.Pairwise (·<=·)->b.Pairwise (·<=·)->a=b
 |[],b,h,_,_=>(List.nil_perm.mp h).symm▸rfl
 |x::a,[],h,_,_=>absurd h.length_eq (by simp)
 |x::a,y::b,h,l,c=>by
  obtain⟨B,s⟩:=List.pairwise_cons.mp l;obtain⟨b1,b2⟩:=List.pairwise_cons.mp c;have J:x<=y:=by
   rcases EE.mp (h.mem_iff.mpr (EM ..):y∈x::a)with z | z
   ·rw[z];exact F6 _
   ·exact B y z
  have C:y<=x:=by
   rcases EE.mp (h.mem_iff.mp (EM ..):x∈y::b)with z | z
   ·rw[z];exact F6 _
   ·exact b1 x z
  have e:x=y:=Int.le_antisymm J C;subst e;rw[mU (List.Perm.cons_inv h) s b2]
noncomputable def cI(l:List Nat):List Int:=l.map λ(p:Nat)=>((p:Nat):Int)
theorem cI_V(l:List Nat):(cI l).map V.int=l.map iV:=by unfold cI;rw[Hs];rfl
theorem C2{l r:List Nat}{c:List Int}(M:c.Perm (cI l))(J:c.Pairwise (·<=·))(y:l.Nodup)(pr:r.Pairwise (· < ·))(i:∀ t,t∈l↔t∈r):c=cI r:=by
 have d:r.Nodup:=pr.imp λh=>Fo h;have q:(cI l).Perm (cI r):=((FR y d).mpr i).map _;refine mU (M.trans q) J ?_;unfold cI;exact Jo.map _ (λa b h=>by omega) pr
theorem yZ{l:List Nat}{n:Nat}:ins l l.length n=l++[n]:=by
 unfold ins;rw[Fu,List.drop_length]
theorem MoR.i{l:List Nat}(h:MoR l):(cI l).length<64∨((cI l).length<100/\((cI l).Pairwise (·<=·)∨(cI l).Pairwise (· > ·))):=by
 unfold cI;rw[EJ];rcases h with z | ⟨z,y | y⟩
 ·exact .inl z
 ·exact .inr ⟨z,.inl (Jo.map _ (λa b h=>by omega) y)⟩
 ·exact .inr ⟨z,.inr (Jo.map _ (λa b h=>by show(b:Int)<(a:Int);have h:b<a:=h;omega) y)⟩
noncomputable def xy(K:ED):Sp:=λN H Q _=>∃(a:Addr)(M:List V)(m:Nat)(B:En),N = [.int (m:Int),.ref a]/\SqL K H a M/\dy K H M B/\(∀ e∈B,e.1<m/\e.2<m)/\Q .non H
noncomputable def uJ(K:ED):Sp:=λN H Q _=>∃(a b:Addr)(M o:List V)(m:Nat)(B:En)(g:List (List Nat)),N = [.int (m:Int),.ref a,.ref b]/\SqL K H a M/\dy K H M B/\SqL K H b o/\bS H o g/\bz m B g/\B.length<=78/\m<=40/\(∀ l∈g,MoR l)/\∀ j,Same H j->Q .non j
noncomputable def xw(K:ED):Sp:=λN H Q _=>∃(a:Addr)(M:List V)(m:Nat)(B:En)(g:List (List Nat)),N = [.int (m:Int),.ref a]/\SqL K H a M/\dy K H M B/\Gr m B g/\2<=m/\m<=40/\B.length<=78/\∀ j,Same H j->Q .non j
section
variable{P:Program}{w:World}{K:ED}{mg:Str->Option Value}{base:Heap}
theorem ia:ax ["many","ties","tie"] ["many","ties"] (aq fD):=by ac_nf
theorem A0{f:Addr}{fd:FuncData} (F:Fun K "refuse_ends" "refuse_ends" fD f fd):FnOk P w K mg base CX0 1 f fd ["many","ties"] (xy K):=by
 refine F.ok ia (λN H Q E h=>?_) (λy A G s H N Q E L h=>?_)
 ·obtain⟨a,xs,m,B,rfl,_⟩:=h;rfl
 obtain⟨a,xs,m,B,rfl,d,M,b,k⟩:=h;refine⟨_,(ak (bK PassesOwn.never rfl (a8 (pv 1)) (aC (i:=2) ia.nd rfl (Or.inl rfl)) (ak (bN (PW.pt (rZ (aG Dk (bW (pv 2) rfl) (pv 0) (aM _)) (kZ (aG Dk (bW (pv 2) rfl) (pv 0) (aM _))))) (ak cH) aR)))),?_⟩;refine⟨_,rfl,a,rfl,⟨_,d⟩,cJ (K:=K) (xs:=xs) (λi Y u=>∃ v,Y = [some (.int (m:Int)),some (.ref a),v]/\u=H) ⟨_,rfl,rfl⟩ (λi Y u _ ⟨_,_,z⟩=>z▸d) ?_ ?_⟩
 ·rintro i x Y u O ⟨v,rfl,rfl⟩;have I:i<B.length:=by rw[← M.1];exact(EB.mp O).1
  obtain⟨e,j⟩:∃ e,B[i]?=some e:=⟨_,EA I⟩;obtain⟨p,C,l,st,n,o,g⟩:=M.2 i e j;rw[O]at n
  cases n
  obtain⟨T,t⟩:=b e (EC j);refine⟨_,rfl,p,C,l,_,_,rfl,o,g.cl,g.n1,mS _ _ _,_,rfl,_,_,rfl,rfl,_,rfl,?_⟩;refine ite2 (λc=>absurd (of_decide_eq_true c) (by omega)) (λ_=>?_)
  refine⟨_,rfl,p,C,l,_,_,rfl,o,g.cl,g.n2,uG _ _ _,_,rfl,_,_,rfl,rfl,_,rfl,?_⟩;refine ite2 (λc=>absurd (of_decide_eq_true c) (by omega)) (λ_=>?_)
  exact⟨_,rfl,rfl⟩
 ·rintro Y u ⟨v,rfl,rfl⟩;exact k
theorem cG:ax ["many","ties","turns","ending","number","tie"] ["many","ties","turns"] (aq eI):=by ac_nf
theorem yz{f:Addr}{fd:FuncData} (F:Fun K "refuse_turns" "refuse_turns" eI f fd) (T:Txt mg):FnOk P w K mg base CX0 1 f fd ["many","ties","turns"] (uJ K):=by
 refine F.ok cG (λN H Q E h=>?_) (λaa A G s H N Q E L h=>?_)
 ·obtain⟨a,b,xs,zs,m,B,ts,rfl,_⟩:=h;rfl
 obtain⟨a,b,xs,zs,m,B,ts,rfl,hS,hT,hB,hR,w',ab,bQ,mo,kk⟩:=h;have bn:=L.units
 refine⟨_,(ag (cg (i:=3) rfl rfl rfl rfl cG.nd rfl rfl (fr:=[]) (xs:=["place"]) (bH.of (by rfl) (by decide) (by rfl) (by decide) (λp M=>nomatch M) (by decide) (λp M=>nomatch M)) (aN rfl T.n_range (ae (pv 0) ah)) (λC ex s H=>(aC (i:=0) (show(["place"]:List Str).Nodup from by decide) rfl (Or.inl rfl))) (λC ex s H=>bg) (λC ex s H ps XE=>(bO ah)))
   (ag (bK PassesOwn.never rfl (n9 rfl T.n_enumerate (ae (pv 1) ah)) (mX rfl (bx (aC (i:=4) cG.nd rfl (Or.inl rfl)) (bx (aC (i:=5) cG.nd rfl (Or.inl rfl)) gv))) (ag (aW (dQ EX Ff Fe aZ (aB aD (pv 3) (bW (pv 5) rfl) (λ_ _=>rfl)) (ae (pv 4) ah)))
   (ak (aW (dQ EX Ff Fe aZ (aB aD (pv 3) (bW (pv 5) rfl) (λ_ _=>rfl)) (ae (pv 4) ah))))))
   (ak (bN (aG (op_neD bn) (a9 rfl rfl rfl rfl (fr:=[]) (xs:=["about"]) (bH.of (by rfl) (by decide) (by rfl) (by decide) (λp M=>nomatch M) (by decide) (λp M=>nomatch M)) (a8 (pv 2)) (λC ex s H=>(aC (i:=0) (show(["about"]:List Str).Nodup from by decide) rfl (Or.inl rfl))) (λC ex s H=>bg) (λC ex s H ps XE=>(ay (uv (K:=K) rfl) (by rfl) T.n_sorted zZ (ae (pv 0) ah)))) (pv 3) (aM _)) (ak cH) aR)))),?_⟩
 refine⟨_,rfl,_,rfl,by omega,by omega,cn (n:=(m:Int).toNat) (λi J d=>Same H d/\bb (λp=>H p≠none) d J (ET i [])/\Dist J) (by rw[EN];exact Fq (av (by omega))) ⟨λ_ _ e=>e,⟨rfl,λi l e=>by simp at e⟩,λi j p e=>by simp at e⟩ ?_ ?_⟩
 ·rintro i J d I ⟨s2,rx,D⟩;refine⟨(by show 0<=sizeLine;decide),λl v=>?_⟩
  have s3:=aj v (.lst []);refine⟨s2.trans s3,?_,lV rx D v⟩;rw[Hd];refine(rx.mono λb u _ z=>s3 _ _ z).snoc (λz=>z ?_) af
  cases y:H l with
  |none=>rfl
  |some o=>rw[s2 _ _ y]at v;cases v
 rintro J d aP ⟨s2,rx,D⟩ pn aT;rw[EN]at rx;have s3:=aj aT (.lst J);have bR:H pn=none:=by
  cases y:H pn with
  |none=>rfl
  |some o=>rw[s2 _ _ y]at aT;cases aT
 have bU:bb (λp=>p=pn∨H p≠none) (upd d pn (.lst J)) J (ET m []):=⟨rx.1,λi l z=>by
  obtain⟨p,a1,a2,a3⟩:=rx.2 i l z;have n2:p≠pn:=aE a3 aT
  exact⟨p,a1,by rintro(y | y);exact n2 y;exact a2 y,s3 _ _ a3⟩⟩
 refine⟨_,rfl,a,rfl,⟨_,(s2.trans s3).seq hS⟩,oO (K:=K) (xs:=xs) (λi Y H5=>∃ v4 v5 rows,Y = [some (.int (m:Int)),some (.ref a),some (.ref b),some (.ref pn),v4,v5]/\Same H H5/\H5 pn=some (.lst J)/\bb (λp=>p=pn∨H p≠none) H5 J rows/\bz m (B.take i) rows/\∀ r∈rows,r.Pairwise (· < ·))
  ⟨_,_,_,rfl,s2.trans s3,af,bU,Au m,λr L=>by rw[(HG.mp L).2];exact HN⟩ (λi Y H5 _ ⟨_,_,_,_,z,_⟩=>z.seq hS) ?_ ?_⟩
 ·rintro i x Y H5 T2 O ⟨v4,v5,rows,rfl,s5,a0,a4,w5,pw⟩ am;have I:i<B.length:=by rw[← hT.1];exact(EB.mp O).1
  obtain⟨e,c⟩:∃ e,B[i]?=some e:=⟨_,EA I⟩;obtain⟨p,C,dx,st,x1,x2,x3⟩:=hT.2 i e c;rw[O]at x1
  cases x1
  have sT:=aj am (.tup [.int (i:Int),.ref p]);have s6:=s5.trans sT;have x6:=s6 _ _ x2;obtain⟨e1,e2,e3⟩:=w'.ends e (EC c);have bv:(B.take i).length=i:=by rw[Fy];omega
  have ap:=w5.len;obtain⟨l,v⟩:∃ l,rows[e.1]?=some l:=⟨_,EA (by omega)⟩
  obtain⟨l',al⟩:∃ l,rows[e.2]?=some l:=⟨_,EA (by omega)⟩
  have bA:bb (λp=>p=pn∨H p≠none) (upd H5 T2 (.tup [.int (i:Int),.ref p])) J rows:=a4.mono λb u _ z=>sT _ _ z;obtain⟨p1,y1,y2,y3⟩:=bA.2 _ _ v;obtain⟨p2,z1,z2,z3⟩:=bA.2 _ _ al;have bf:∀{p:Addr},¬ (p=pn∨H p≠none)->H p=none/\p≠pn:=λ{p} n=>by
   refine⟨?_,λz=>n (.inl z)⟩
   cases y:H p with
   |none=>rfl
   |some o=>exact absurd (.inr (by rw[y];exact λz=>nomatch z)) n
  obtain⟨a6,bY⟩:=bf y2;obtain⟨be,bB⟩:=bf z2;have b8:p2≠p1:=λy=>by rw[y]at z1;exact e3 (D _ _ p1 y1 z1)
  have ll:∀{q:Nat}{r:List Nat},rows[q]?=some r->∀ t∈r,t<i:=λ{q r} h t g=>by
   have:=jY w5 h g;omega
  have b0:∀{q:Nat}{r:List Nat},rows[q]?=some r->r.length<=78:=λ{q r} h=>by
   have:=dv (w5.nd _ _ h) (ll h);omega
  have f1:=b0 v;have f2:=b0 al;have bi:=sT _ _ a0;refine⟨T2,_,rfl,SqT.of af,rfl,_,_,rfl,_,_,rfl,rfl,?_⟩;refine⟨_,rfl,_,rfl,p,C,dx,_,_,rfl,x6,x3.cl,x3.n1,mS _ _ _,pn,J,_,_,rfl,rfl,SqL.of bi,aA y1,.inl ⟨rfl,_,SqL.of y3⟩,_,rfl,p1,_,_,rfl,rfl,y3,av (by rw[EJ];omega),?_⟩
  have a5:(l.map iV)++[V.int (i:Int)]=(l++[i]).map iV:=by rw[Fv];rfl
  rw[a5];have x7:(upd (upd H5 T2 (.tup [.int (i:Int),.ref p])) p1 (.lst ((l++[i]).map iV))) p=some (.ins C dx (tf (e.1:Int) (e.2:Int) st)):=by rw[ao (λz=>by rw[z]at x2;rw[x2]at a6;cases a6)];exact x6
  have bm:(upd (upd H5 T2 (.tup [.int (i:Int),.ref p])) p1 (.lst ((l++[i]).map iV))) pn=some (.lst J):=by rw[ao bY.symm];exact bi
  have z7:(upd (upd H5 T2 (.tup [.int (i:Int),.ref p])) p1 (.lst ((l++[i]).map iV))) p2=some (.lst (l'.map iV)):=by rw[ao b8];exact z3
  refine⟨_,rfl,_,rfl,p,C,dx,_,_,rfl,x7,x3.cl,x3.n2,uG _ _ _,pn,J,_,_,rfl,rfl,SqL.of bm,aA z1,.inl ⟨rfl,_,SqL.of z7⟩,_,rfl,p2,_,_,rfl,rfl,z7,av (by rw[EJ];omega),?_⟩
  have bd:(l'.map iV)++[V.int (i:Int)]=(l'++[i]).map iV:=by rw[Fv];rfl
  rw[bd];refine⟨_,_,(rows.set e.1 (l++[i])).set e.2 (l'++[i]),rfl,aV (aV s6 a6 _) be _,by rw[ao bB.symm];exact bm,(bA.set D y1).set D z1,?_,λr L=>?_⟩
  ·have q:=w5.put (k:=l.length) (j:=l'.length) e1 e2 e3 v al
   rw[yZ,yZ,bv]at q;rw[Fj,c];exact q
  ·have b7:∀{q:Nat}{r:List Nat},rows[q]?=some r->(r++[i]).Pairwise (· < ·):=λ{q r} h=>List.pairwise_append.mpr ⟨pw r (EC h),List.pairwise_singleton _ _,λx O y hy=>by
    have:=ll h x O;have:y=i:=by simpa using hy
    omega⟩
   rcases He L with z | z
   ·rcases He z with z | z
    ·exact pw r z
    ·rw[z];exact b7 v
   ·rw[z];exact b7 al
 rintro Y H5 ⟨v4,v5,rows,rfl,s5,a0,a4,w5,pw⟩;rw[hT.1,Fu]at w5;have ba:zs.length=m:=by rw[hR.1,w'.len]
 refine⟨_,rfl,b,rfl,⟨_,s5.seq hB⟩,bE (K:=K) (xs:=zs) (λi N H6=>Same H5 H6/\bS H6 N (rows.take i)) (Fq (av (by omega))) ⟨λ_ _ e=>e,rfl,λi l e=>by simp at e⟩ (λi N H6 _ z=>(s5.trans z.1).seq hB) ?_ ?_⟩
 ·rintro i x N H6 O ⟨s6,rz⟩;have I:i<ts.length:=by rw[← hR.1];exact(EB.mp O).1
  obtain⟨l,v⟩:∃ l,ts[i]?=some l:=⟨_,EA I⟩;obtain⟨r,ac⟩:∃ r,rows[i]?=some r:=⟨_,EA (by rw[w5.len,← w'.len];exact I)⟩
  obtain⟨p,a1,a2⟩:=(hR.mono (s5.trans s6)).2 i l v;rw[O]at a1
  cases a1
  refine⟨_,rfl,p,cI l,rfl,(by rw[cI_V];exact SqL.of a2),(mo l (EC v)).i,λq an hq M hs=>?_⟩
  have eo:=C2 M hs (w'.nd _ _ v) (pw r (EC ac)) λt=>(w'.mem i l v t).trans (w5.mem i r ac t).symm;subst eo;have s7:=aj hq (.lst ((cI r).map V.int));refine⟨s6.trans s7,?_⟩;rw[show rows.take (i+1)=rows.take i++[r] by rw[Fj,ac];rfl]
  exact(rz.mono s7).snoc (by rw[af,cI_V])
 rintro N H6 _ ⟨s6,rz⟩ D' b6;rw[ba,← w5.len,Fu]at rz;have s7:=aj b6 (.lst N);have bF:=s6.trans s7;refine⟨_,rfl,_,xY (SqL.of af) (rz.mono s7),xY (SqL.of (bF _ _ a0)) (a4.off.mono bF),rY rows,_,rfl,iteF ?_⟩;exact kk _ (s5.trans bF)
theorem ka:ax ["many","ties"] ["many","ties"] (aq dJ):=by ac_nf
theorem AY{f fr:Addr}{fd am:FuncData} (F:Fun K "refuse_parted" "refuse_parted" dJ f fd) (q:Cal P w K mg base 1 "reached" ["start","pairs"] (kM K) fr am):FnOk P w K mg base CX0 2 f fd ["many","ties"] (xw K):=by
 refine F.ok ka (λN H Q E h=>?_) (λy A G s H N Q E L h=>?_)
 ·obtain⟨a,xs,m,B,u,rfl,_⟩:=h;rfl
 obtain⟨a,xs,m,B,u,rfl,d,r,g,m2,ab,n,J⟩:=h;have an:xs.length=B.length:=r.1;refine⟨_,(ak (bN (aG lB (az q.ok (L.mono (by decide)) rfl q.mg q.kp q.bn .nil aL (ae ai (ae (a9 rfl rfl rfl rfl (fr:=[]) (xs:=["tie"]) (bH.of (by rfl) (by decide) (by rfl) (by decide) (λp M=>nomatch M) (by decide) (λp M=>nomatch M)) (a8 (pv 1)) (λC b s H=>(aC (i:=0) (show(["tie"]:List Str).Nodup from by decide) rfl (Or.inl rfl))) (λC b s H=>bg) (λC b s H k XE=>(cO (ae (sv (K:=K) rfl (pv 0) rfl) (ae (sv (K:=K) rfl (pv 0) rfl) ah))))) ah))) (aw ly (aw cP ai (pv 0)) ai) (aM _)) (ak cH) aR)),?_⟩
 refine⟨_,rfl,a,rfl,⟨_,d⟩,bE (K:=K) (xs:=xs) (λi o ac=>Same H ac/\cR ac o (B.take i)) (Fq (av (by omega))) ⟨λ_ _ e=>e,rfl,λi l e=>by simp at e⟩ (λi o ac _ z=>z.1.seq d) ?_ ?_⟩
 ·rintro i x o ac O ⟨al,ez⟩;have I:i<B.length:=by rw[← r.1];exact(EB.mp O).1
  obtain⟨e,j⟩:∃ e,B[i]?=some e:=⟨_,EA I⟩;obtain⟨p,C,t,st,v,c,T⟩:=(r.mono al).2 i e j;rw[O]at v
  cases v
  refine⟨_,rfl,p,C,t,_,_,rfl,c,T.cl,T.n1,mS _ _ _,_,rfl,p,C,t,_,_,rfl,c,T.cl,T.n2,uG _ _ _,(by show 2<=sizeLine;decide),λg Y=>?_⟩
  have aa:=aj Y (.tup [iV e.1,iV e.2]);refine⟨al.trans aa,?_⟩;rw[show B.take (i+1)=B.take i++[e] by rw[Fj,j];rfl]
  exact(ez.mono aa).snoc af
 rintro o ac _ ⟨al,ez⟩ D hD;rw[r.1,Fu]at ez;have aa:=aj hD (.lst o);refine⟨D,o,m,B,u,rfl,SqL.of af,ez.mono aa,g,m2,ab,_,rfl,_,_,rfl,rfl,⟨by omega,by omega,by decide⟩,_,_,rfl,rfl,rfl,_,rfl,?_⟩
 refine tj ?_ (J _ (al.trans aa));show V.int _=V.int _;rw[shlN];have:=F9 m;congr 1;omega
end
noncomputable def cls(PL PS:Addr)(push:Bool):Addr:=if push=true then PS else PL
noncomputable def gg(PL PS:Addr)(H:Hp)(xs:List V)(es:En)(ks:Kn):Prop:=xs.length=es.length/\∀(i:Nat)(e:Nat×Nat)(k:Int×Int),es[i]?=some e->ks[i]?=some k->∃ p l,xs[i]?=some (.ref p)/\H p=some (.ins (cls PL PS (decide (k.1=1))) l (tf (e.1:Int) (e.2:Int) k.2))
theorem gg.mono{PL PS:Addr}{H H':Hp}{xs:List V}{es:En}{ks:Kn}(t:gg PL PS H xs es ks)(h:Same H H'):gg PL PS H' xs es ks:=⟨t.1,λi e k q r=>by
 obtain⟨p,l,a,b⟩:=t.2 i e k q r
 exact⟨p,l,a,h _ _ b⟩⟩
structure CW(K:ED)(C:Addr):Prop where
 cl:Cls K C
 n1:eG K C "many"
 n2:eG K C "ties"
 n3:eG K C "turns"
 n4:eG K C "rounds"
 n5:eG K C "sides"
theorem hX(k:Str)(v:V):∀ fs:List (Str×V),(putF k v fs).length<=fs.length+1
 |[]=>EI _
 | (a,b)::r=>by
  show(if a=k then(a,v)::r else(a,b)::putF k v r).length<=_;have:=hX k v r;split<;>simp only[E7]<;>omega
theorem none_of{H H':Hp}{b:Addr}(s:Same H H')(z:H' b=none):H b=none:=by
 cases y:H b with
 |none=>rfl
 |some o=>rw[s _ _ y]at z;cases z
structure WebG(S:Addr->Prop)(H:Hp)(fs:List (Str×V))(m:Nat)(es:En)(ts rs:List (List Nat)):Prop where
 many:fs.lookup ("many" : Str)=some (.int (m:Int))
 turns:∃ q z,fs.lookup ("turns" : Str)=some (.ref q)/\¬ S q/\H q=some (.lst z)/\bb S H z ts
 rounds:∃ q z,fs.lookup ("rounds" : Str)=some (.ref q)/\H q=some (.lst z)/\bS H z rs
 sides:∃ q z,fs.lookup ("sides" : Str)=some (.ref q)/\H q=some (.lst z)/\gh H z es.length rs
 part:b9 (fol es ts) (2*es.length) (2*es.length) rs
theorem gh.mono{H H':Hp}{z:List V}{n:Nat}{rs:List (List Nat)}(h:gh H z n rs)(s:Same H H'):gh H' z n rs:=⟨h.1,λi I=>by
 obtain⟨t,a,b,r,O,c,p,G⟩:=h.2 i I
 exact⟨t,a,b,r,O,c,s _ _ p,G⟩⟩
theorem WebG.mono{S S':Addr->Prop}{H H':Hp}{fs:List (Str×V)}{m:Nat}{es:En}{ts rs:List (List Nat)}(h:WebG S H fs m es ts rs)(s:Same H H')(i:∀ a,S' a->S a):WebG S' H' fs m es ts rs:=by
 obtain⟨a,⟨q,z,b1,I,b2,b3⟩,⟨J,d,c1,c2,c3⟩,⟨M,v,d1,d2,D⟩,e⟩:=h;refine⟨a,⟨q,z,b1,λy=>I (i _ y),s _ _ b2,b3.1,λj l y=>?_⟩,⟨J,d,c1,s _ _ c2,c3.mono s⟩,⟨M,v,d1,s _ _ d2,D.mono s⟩,e⟩;obtain⟨r,c,p,G⟩:=b3.2 j l y;exact⟨r,c,λx=>p (i _ x),s _ _ G⟩
noncomputable def kL(K:ED):Sp:=λN H Q _=>∃(p C t b c:Addr)(m:Nat)(M f:List V)(B:En)(g:List (List Nat)),N = [.ref p,.int (m:Int),.ref b,.ref c]/\H p=some (.ins C t [])/\CW K C/\H b=some (.lst M)/\dy K H M B/\H c=some (.lst f)/\bS H f g/\Gr m B g/\0<B.length/\B.length<=78/\m<=40/\(∀ l∈g,MoR l) /\
 ∀(fs:List (Str×V))(n:Addr)(x:List (List Nat))(j:Hp),j p=some (.ins C t fs)->WebG (λa=>H a≠none) j fs m B g x->H n=none->fs.lookup ("ties" : Str)=some (.ref n)->j n=some (.lst M)->(∀ q o,H q=some o->q≠p->j q=some o)->Q .non j
theorem dy.keep{K:ED}{H G:Hp}{xs:List V}{es:En}{p C l:Addr}(t:dy K H xs es)(M:H p=some (.ins C l []))(k:∀ q u,q≠p->H q=some u->G q=some u):dy K G xs es:=⟨t.1,λi e z=>by
 obtain⟨q,c,o,s,a,b,d⟩:=t.2 i e z;refine⟨q,c,o,s,a,k _ _ (λz=>?_) b,d⟩;rw[z,M]at b;have T:([]:List (Str×V))=tf (e.1:Int) (e.2:Int) s:=by
  injection b with b;injection b
 have Q:=mS (e.1:Int) (e.2:Int) s;rw[← T]at Q
 cases Q⟩
section
variable{P:Program}{w:World}{K:ED}{mg:Str->Option Value}{base:Heap}
theorem i5:ax ["self","many","ties","turns","rounds"] ["self","many","ties","turns"] (aq cA):=by ac_nf
theorem AV{f f1 f2 f3 f4 f5:Addr}{fd d1 d2 d3 d4 d5:FuncData} (F:Fun K "__init__" "Web.__init__" cA f fd) (T:Txt mg) (am:Cal P w K mg base 1 "refuse_ends" ["many","ties"] (xy K) f1 d1) (al:Cal P w K mg base 1 "refuse_turns" ["many","ties","turns"] (uJ K) f2 d2) (ac:Cal P w K mg base 2 "refuse_parted" ["many","ties"] (xw K) f3 d3) (aP:Cal P w K mg base 4 "rounds_of" ["ties","turns"] (uI K) f4 d4) (aT:Cal P w K mg base 1 "sides_of" ["ties","rounds"] (xt K) f5 d5) :
  FnOk P w K mg base CX0 5 f fd ["self","many","ties","turns"] (kL K):=by
 refine F.ok i5 (λN H Q E h=>?_) (λaa A k s H N Q E L h=>?_)
 ·obtain⟨p,C,dx,qt,qh,m,xs,zs,es,ts,rfl,_⟩:=h;rfl
 obtain⟨p,C,dx,qt,qh,m,xs,zs,es,ts,rfl,M,cw,a6,hT,bv,hR,g,e0,ab,bf,mo,kk⟩:=h;have w':=g.w;have m2:=g.two e0;have mf:=ng g;have b8:xs.length=es.length:=hT.1;have ba:zs.length=m:=by rw[hR.1,w'.len]
 have pl:∀{q:Addr}{v:List V},H q=some (.lst v)->q≠p:=λ{q v} h z=>by rw[z,M]at h;cases h
 refine⟨_,(ag (aW (az am.ok (L.mono (by decide)) rfl am.mg am.kp am.bn .nil aL (ae (pv 1) (ae (pv 2) ah))))
   (ag (aW (az al.ok (L.mono (by decide)) rfl al.mg al.kp al.bn .nil aL (ae (pv 1) (ae (pv 2) (ae (pv 3) ah)))))
   (ag (aW (az ac.ok (L.mono (by decide)) rfl ac.mg ac.kp ac.bn .nil aL (ae (pv 1) (ae (pv 2) ah))))
   (ag (au (i:=4) i5.nd rfl (Or.inl rfl) (az aP.ok (L.mono (by decide)) rfl aP.mg aP.kp aP.bn .nil aL (ae (pv 2) (ae (pv 3) ah))))
   (ag (bN (aG lB (aw br (aw ly (pv 1) (ay ar (by rfl) T.n_len aY (ae (pv 2) ah))) (ay ar (by rfl) T.n_len aY (ae (pv 4) ah))) ai (aM _)) (ak cH) aR)
   (ag (jT (pv 0) (pv 1) rfl)
   (ag (jT (pv 0) (gy eF (by rfl) T.n_list gd (ae (pv 2) ah)) rfl)
   (ag (jT (pv 0) (a9 rfl rfl rfl rfl (fr:=[]) (xs:=["about"]) (bH.of (by rfl) (by decide) (by rfl) (by decide) (λp M=>nomatch M) (by decide) (λp M=>nomatch M)) (a8 (pv 3)) (λC ex s H=>(aC (i:=0) (show(["about"]:List Str).Nodup from by decide) rfl (Or.inl rfl))) (λC ex s H=>bg) (λC ex s H ps XE=>(gy (nj (K:=K) rfl) (by rfl) T.n_list gd (ae (pv 0) ah)))) rfl)
   (ag (jT (pv 0) (pv 4) rfl)
   (ak (jT (pv 0) (az aT.ok (L.mono (by decide)) rfl aT.mg aT.kp aT.bn .nil aL (ae (pv 2) (ae (pv 4) ah))) rfl))))))))))),?_⟩
 refine⟨_,rfl,_,rfl,qt,xs,m,es,rfl,SqL.of a6,hT,λe j=>⟨(w'.ends e j).1,(w'.ends e j).2.1⟩,?_⟩;refine⟨_,rfl,_,rfl,_,rfl,qt,qh,xs,zs,m,es,ts,rfl,SqL.of a6,hT,SqL.of bv,hR,w',ab,bf,mo,λJ Y=>?_⟩;refine⟨_,rfl,_,rfl,qt,xs,m,es,ts,rfl,SqL.of (Y _ _ a6),hT.mono Y,g,m2,by omega,ab,λd s2=>?_⟩
 have ap:=Y.trans s2;refine⟨_,rfl,_,rfl,qt,qh,m,es,ts,rfl,⟨⟨xs,SqL.of (ap _ _ a6),hT.mono ap⟩,⟨zs,SqL.of (ap _ _ bv),hR.mono ap⟩,w',by omega⟩,λqr N rs H3 s3 a5 bi ro=>?_⟩
 have an:=ap.trans s3;have cnt:m+rs.length=es.length+2:=by
  obtain⟨ca,p',c⟩:=g.part;rw[← p'.same ro.part];exact c
 have bR:N.length=rs.length:=bi.1;refine⟨_,rfl,_,rfl,qt,xs,rfl,.inl (SqL.of (an _ _ a6)),_,_,rfl,rfl,_,rfl,qr,N,rfl,.inl (SqL.of a5),_,_,rfl,rfl,rfl,_,rfl,?_⟩;refine tj (congrArg V.int (by omega)) ?_
 have bF:=an _ _ M;refine⟨_,rfl,_,rfl,p,C,dx,[],rfl,bF,cw.cl,cw.n1,(by show 0<1000;decide),?_⟩
 have keep:∀{G:Hp}{o:HO}{q:Addr}{u:HO},q≠p->G q=some u->(upd G p o) q=some u:=λn z=>by rw[ao n];exact z
 refine⟨_,rfl,qt,xs,rfl,.inl (SqL.of (keep (pl a6) (an _ _ a6))),λq1 a3=>?_⟩;have bm:q1≠p:=λz=>by rw[z,af]at a3;cases a3
 have t4:=aj a3 (.lst xs);refine⟨_,rfl,p,C,dx,_,rfl,t4 _ _ af,cw.cl,cw.n2,?_,?_⟩
 ·have:=hX "many" (.int (m:Int)) ([]:List (Str×V));simp only[HX]at this;omega
 have t1:∀ q u,q≠p->H3 q=some u->(upd (upd (upd H3 p (.ins C dx (putF "many" (.int (m:Int)) []))) q1 (.lst xs)) p (.ins C dx (putF "ties" (.ref q1) (putF "many" (.int (m:Int)) [])))) q=some u:=λq u n z=>keep n (t4 _ _ (keep n z));have bU:(upd (upd (upd H3 p (.ins C dx (putF "many" (.int (m:Int)) []))) q1 (.lst xs)) p (.ins C dx (putF "ties" (.ref q1) (putF "many" (.int (m:Int)) [])))) q1=some (.lst xs):=keep bm af;have pa:(upd (upd (upd H3 p (.ins C dx (putF "many" (.int (m:Int)) []))) q1 (.lst xs)) p (.ins C dx (putF "ties" (.ref q1) (putF "many" (.int (m:Int)) [])))) p=some (.ins C dx (putF "ties" (.ref q1) (putF "many" (.int (m:Int)) []))):=af;generalize upd (upd (upd H3 p (.ins C dx (putF "many" (.int (m:Int)) []))) q1 (.lst xs)) p (.ins C dx (putF "ties" (.ref q1) (putF "many" (.int (m:Int)) [])))=H4 at t1 bU pa;have lk:(putF "ties" (.ref q1) (putF "many" (.int (m:Int)) []):List (Str×V)).lookup ("ties" : Str)=some (.ref q1):=by rw[aF,if_pos rfl]
 have ln:(putF "ties" (.ref q1) (putF "many" (.int (m:Int)) []):List (Str×V)).length<=2:=by
  have a1:=hX "many" (.int (m:Int)) ([]:List (Str×V));have a2:=hX "ties" (.ref q1) (putF "many" (.int (m:Int)) ([]:List (Str×V)));simp only[HX]at a1;omega
 have bY:(putF "ties" (.ref q1) (putF "many" (.int (m:Int)) []):List (Str×V)).lookup ("many" : Str)=some (.int (m:Int)):=by rw[aF,if_neg (by decide),aF,if_pos rfl]
 generalize (putF "ties" (.ref q1) (putF "many" (.int (m:Int)) []):List (Str×V))=fs at pa lk ln bY;have bA:=t1 _ _ (pl bv) (an _ _ bv);have bB:∀{b:Addr},H4 b=none->H b=none:=λ{b} z=>by
  cases y:H b with
  |none=>rfl
  |some o =>
   by_cases n:b=p
   ·rw[n,pa]at z;cases z
   ·rw[t1 _ _ n (an _ _ y)]at z;cases z
 have b0:H q1=none:=by
  cases y:H q1 with
  |none=>rfl
  |some o=>rw[keep bm (an _ _ y)]at a3;cases a3
 refine⟨_,rfl,qh,rfl,⟨_,SqL.of bA⟩,bE (K:=K) (xs:=zs) (λi v H5=>Same H4 H5/\bb (λa=>H a≠none) H5 v (ts.take i)) (Fq (av (by omega))) ⟨λ_ _ e=>e,rfl,λi l e=>by simp at e⟩ (λi _ H5 _ z=>SqL.of (z.1 _ _ bA)) ?_ ?_⟩
 ·rintro i x v H5 O ⟨s5,rz⟩;have I:i<ts.length:=by rw[← hR.1];exact(EB.mp O).1
  obtain⟨l,B⟩:∃ l,ts[i]?=some l:=⟨_,EA I⟩;obtain⟨r,a1,a2⟩:=hR.2 i l B;rw[O]at a1
  cases a1
  refine⟨_,rfl,r,_,rfl,.inl (SqL.of (s5 _ _ (t1 _ _ (pl a2) (an _ _ a2)))),λg hg=>⟨s5.trans (aj hg _),?_⟩⟩;rw[show ts.take (i+1)=ts.take i++[l] by rw[Fj,B];rfl]
  exact(rz.mono λb u _ z=>aj hg _ _ _ z).snoc (λz=>z (bB (none_of s5 hg))) af
 rintro v H5 _ ⟨s5,rz⟩ D hD;rw[hR.1,Fu]at rz;have bQ:D≠p:=λz=>by rw[z,s5 _ _ pa]at hD;cases hD
 have s6:=s5.trans (aj hD (.lst v));refine⟨_,rfl,p,C,dx,fs,rfl,s6 _ _ pa,cw.cl,cw.n3,by omega,?_⟩
 have ch:=hX "turns" (.ref D) fs;have cb:(putF "turns" (.ref D) fs).lookup ("ties" : Str)=some (.ref q1):=by rw[aF,if_neg (by decide)];exact lk
 refine⟨_,rfl,_,rfl,p,C,dx,_,rfl,af,cw.cl,cw.n4,by omega,?_⟩
 have ci:=hX "rounds" (.ref qr) (putF "turns" (.ref D) fs);have cc:(putF "rounds" (.ref qr) (putF "turns" (.ref D) fs)).lookup ("ties" : Str)=some (.ref q1):=by rw[aF,if_neg (by decide)];exact cb
 have t7:∀ q u,q≠p->H3 q=some u->(upd (upd (upd H5 D (.lst v)) p (.ins C dx (putF "turns" (.ref D) fs))) p (.ins C dx (putF "rounds" (.ref qr) (putF "turns" (.ref D) fs)))) q=some u:=λq u n z=>keep n (keep n (s6 _ _ (t1 q u n z)));have b6:(upd (upd (upd H5 D (.lst v)) p (.ins C dx (putF "turns" (.ref D) fs))) p (.ins C dx (putF "rounds" (.ref qr) (putF "turns" (.ref D) fs)))) q1=some (.lst xs):=keep bm (keep bm (s6 _ _ bU));have p7:(upd (upd (upd H5 D (.lst v)) p (.ins C dx (putF "turns" (.ref D) fs))) p (.ins C dx (putF "rounds" (.ref qr) (putF "turns" (.ref D) fs)))) p=some (.ins C dx (putF "rounds" (.ref qr) (putF "turns" (.ref D) fs))):=af;have D7:(upd (upd (upd H5 D (.lst v)) p (.ins C dx (putF "turns" (.ref D) fs))) p (.ins C dx (putF "rounds" (.ref qr) (putF "turns" (.ref D) fs)))) D=some (.lst v):=keep bQ (keep bQ af);have u7:∀ q u,q≠p->H5 q=some u->(upd (upd (upd H5 D (.lst v)) p (.ins C dx (putF "turns" (.ref D) fs))) p (.ins C dx (putF "rounds" (.ref qr) (putF "turns" (.ref D) fs)))) q=some u:=λq u n z=>keep n (keep n (aj hD _ _ _ z));generalize upd (upd (upd H5 D (.lst v)) p (.ins C dx (putF "turns" (.ref D) fs))) p (.ins C dx (putF "rounds" (.ref qr) (putF "turns" (.ref D) fs)))=H7 at t7 b6 p7 D7 u7;have bd:∀{q:Addr}{v:List V},H3 q=some (.lst v)->q≠p:=λ{q v} h z=>by rw[z,bF]at h;cases h
 have cd:bS H7 N rs:=⟨bi.1,λi l z=>by
  obtain⟨r,a1,a2⟩:=bi.2 i l z
  exact⟨r,a1,t7 _ _ (bd a2) a2⟩⟩
 have T7:dy K H7 xs es:=(hT.mono an).keep bF t7;refine⟨_,rfl,_,rfl,qt,qr,xs,N,es,_,rs,rfl,SqL.of (t7 _ _ (pl a6) (an _ _ a6)),T7,by omega,SqL.of (t7 _ _ (bd a5) a5),cd,ro,λq5 z5 H8 s8 a4 b7=>?_⟩
 refine⟨_,rfl,p,C,dx,_,rfl,s8 _ _ p7,cw.cl,cw.n5,by omega,?_⟩
 have ce:q5≠p:=λz=>by rw[z,s8 _ _ p7]at a4;cases a4
 have be:=t7 _ _ (bd a5) a5;refine kk _ q1 rs _ af ⟨?_,⟨D,v,?_,λz=>z (bB (none_of s5 hD)),keep bQ (s8 _ _ D7),rz.1,λi l z=>?_⟩,⟨qr,N,?_,keep (bd a5) (s8 _ _ be),bi.1,λi l z=>?_⟩,⟨q5,z5,?_,keep ce a4,b7.1,λi I=>?_⟩,ro⟩ b0 (by rw[aF,if_neg (by decide)];exact cc) (keep bm (s8 _ _ b6)) λq o z n=>keep n (s8 _ _ (t7 q o n (an _ _ z)))
 ·rw[aF,if_neg (by decide),aF,if_neg (by decide),aF,if_neg (by decide)]
  exact bY
 ·rw[aF,if_neg (by decide),aF,if_neg (by decide),aF,if_pos rfl]
 ·obtain⟨r,a1,a0,a2⟩:=rz.2 i l z;have nr:r≠p:=λz=>by rw[z,s5 _ _ pa]at a2;cases a2
  exact⟨r,a1,a0,keep nr (s8 _ _ (u7 r _ nr a2))⟩
 ·rw[aF,if_neg (by decide),aF,if_pos rfl]
 ·obtain⟨r,a1,a2⟩:=bi.2 i l z;exact⟨r,a1,keep (bd a2) (s8 _ _ (t7 _ _ (bd a2) a2))⟩
 ·rw[aF,if_pos rfl]
 ·obtain⟨t,a,b,r,r',y1,y2,y3⟩:=b7.2 i I;exact⟨t,a,b,r,r',y1,keep (λz=>by rw[z,s8 _ _ p7]at y2;cases y2) y2,y3⟩
theorem gg.at{PL PS:Addr}{H:Hp}{xs:List V}{es:En}{ks:Kn}(t:gg PL PS H xs es ks)(d:ks.length=es.length)(f:CT K PL)(TS:CT K PS):dy K H xs es:=⟨t.1,λi e z=>by
 have I:=(EB.mp z).1;obtain⟨k,g⟩:∃ k,ks[i]?=some k:=⟨_,EA (by omega)⟩
 obtain⟨p,l,a,b⟩:=t.2 i e k z g;refine⟨p,_,l,k.2,a,b,?_⟩;unfold cls;split
 ·exact TS
 ·exact f⟩
noncomputable def WebF(S:Addr->Prop)(PL PS q:Addr)(H:Hp)(p:Addr)(m:Nat)(es:En)(ts rs:List (List Nat))(ks:Kn):Prop:=∃ l fs n M,H p=some (.ins q l fs)/\WebG S H fs m es ts rs/\¬ S n/\fs.lookup ("ties" : Str)=some (.ref n)/\H n=some (.lst M)/\gg PL PS H M es ks
noncomputable def xF(PL PS q:Addr):Sp:=λN H Q _=>∃(t C pt O b:Addr)(m:Nat)(B:En)(g:List (List Nat))(r:Kn),N = [.ref t,.ref b]/\H t=some (.tup [.ref C,.ref pt,.ref O])/\WebP H C pt m B g/\(∃ l,H b=some (.lst l)/\gY H l r)/\B.length<=30/\r.length=B.length/\0<B.length /\
 ∀(p:Addr)(x:List (List Nat))(j:Hp),Same H j->WebF (λa=>H a≠none) PL PS q j p m B g x r->Q (.ref p) j
theorem g8:ax ["grown","kinds","ties","k","end"] ["grown","kinds"] (aq kU):=by ac_nf
theorem Du{f fI PL PS WC fW:Addr}{fd bf bv:FuncData} (F:Fun K "_law_web" "_law_web" kU f fd) (T:Txt mg) (am:Mak P w K mg base 1 "Pull" ["self","one","two","strength"] (jQ K) PL fI bf) (an:Mak P w K mg base 1 "Push" ["self","one","two","strength"] (jQ K) PS fI bf) (TL:CT K PL) (TS:CT K PS)
  (aP:Mak P w K mg base 5 "Web" ["self","many","ties","turns"] (kL K) WC fW bv) (cw:CW K WC):FnOk P w K mg base CX0 7 f fd ["grown","kinds"] (xF PL PS WC):=by
 refine F.ok g8 (λN H Q E h=>?_) (λab A aa s H N Q E L h=>?_)
 ·obtain⟨t,pe,pt,pr,pk,m,B,ts,ks,rfl,_⟩:=h;rfl
 obtain⟨t,pe,pt,pr,pk,m,B,ts,ks,rfl,r,⟨⟨ys,aT,hE⟩,⟨xs,a0,hR⟩,g⟩,⟨ws,a4,tk⟩,ac,kl,bF,kk⟩:=h;have bd:ws.length=B.length:=by rw[tk.1,kl]
 have a3:ys.length=B.length:=hE.1;have mf:=ng g;have bQ:xs.length=m:=by rw[hR.1,g.w.len]
 refine⟨_,(ag (au (i:=2) g8.nd rfl (Or.inl rfl) (bO ah))
   (ag (bK PassesOwn.never rfl (aN rfl T.n_range (ae (ay ar (by rfl) T.n_len aY (ae (pv 1) ah)) ah)) (aC (i:=3) g8.nd rfl (Or.inl rfl)) (ag (au (i:=4) g8.nd rfl (Or.inl rfl) (aB aD (aB aK (pv 0) ai (λ_ _=>rfl)) (pv 3) (λ_ _=>rfl)))
   (ak (bN (aG dD (aB aK (aB aD (pv 1) (pv 3) (λ_ _=>rfl)) ai (λ_ _=>rfl)) ai (aM _)) (ak (aW (dQ EX Ff Fe aZ (pv 2) (ae (jH an.mkc an.ok (L.mono (by decide)) rfl an.mg an.bn .nil aL (ae (aB aK (pv 4) ai (λ_ _=>rfl)) (ae (aB aK (pv 4) ai (λ_ _=>rfl)) (ae (aB aK (aB aD (pv 1) (pv 3) (λ_ _=>rfl)) ai (λ_ _=>rfl)) ah)))) ah)))) (ak (aW (dQ EX Ff Fe aZ (pv 2) (ae (jH am.mkc am.ok (L.mono (by decide)) rfl am.mg am.bn .nil aL (ae (aB aK (pv 4) ai (λ_ _=>rfl)) (ae (aB aK (pv 4) ai (λ_ _=>rfl)) (ae (aB aK (aB aD (pv 1) (pv 3) (λ_ _=>rfl)) ai (λ_ _=>rfl)) ah)))) ah))))))))
   (ak (aH (jH aP.mkc aP.ok (L.mono (by decide)) rfl aP.mg aP.bn .nil aL (ae (ay ar (by rfl) T.n_len aY (ae (aB aK (pv 0) ai (λ_ _=>rfl)) ah)) (ae (pv 2) (ae (a9 rfl rfl rfl rfl (fr:=[]) (xs:=["row"]) (bH.of (by rfl) (by decide) (by rfl) (by decide) (λp M=>nomatch M) (by decide) (λp M=>nomatch M)) (a8 (aB aK (pv 0) ai (λ_ _=>rfl))) (λC ex s H=>(aC (i:=0) (show(["row"]:List Str).Nodup from by decide) rfl (Or.inl rfl))) (λC ex s H=>bg) (λC ex s H ps XE=>(gy (nj (K:=K) rfl) (by rfl) T.n_list gd (ae (pv 0) ah)))) ah)))))))),?_⟩
 refine⟨(by show 0<=sizeLine;decide),λq hq=>?_⟩
 have s1:=aj hq (.lst []);refine⟨_,rfl,pk,ws,rfl,.inl (SqL.of (s1 _ _ a4)),_,rfl,by omega,by omega,bZ (n:=(ws.length:Int).toNat) (λi Y d=>∃ v2 v3 us,Y = [some (.ref t),some (.ref pk),some (.ref q),v2,v3]/\Same H d/\d q=some (.lst us)/\gg PL PS d us (B.take i) ks) ⟨_,_,[],rfl,s1,af,rfl,λi e k z=>by simp at z⟩ ?_ ?_⟩
 ·rintro i Y d I ⟨v2,v3,us,rfl,s2,al,tt⟩;rw[EN,bd]at I;have e0:(0:Int)+(i:Int)=(i:Int):=F1 _;rw[e0];obtain⟨e,he⟩:∃ e,B[i]?=some e:=⟨_,EA I⟩;obtain⟨k,hk⟩:∃ k,ks[i]?=some k:=⟨_,EA (by omega)⟩
  obtain⟨_,_,ne⟩:=g.w.ends e (EC he);obtain⟨p,x1,x2⟩:=(hE.mono s2).2 i e he;obtain⟨k1,k2,be,y1,y2⟩:=(tk.mono s2).2 i k hk;have ul:us.length=i:=by rw[tt.1,Fy];omega
  refine⟨_,rfl,t,_,0,_,rfl,rfl,SqT.of (s2 _ _ r),at30,_,rfl,pe,ys,_,_,rfl,rfl,SqL.of (s2 _ _ aT),aA x1,?_⟩;refine⟨_,rfl,_,rfl,pk,ws,_,_,rfl,rfl,SqL.of (s2 _ _ a4),aA y1,be,_,0,_,rfl,rfl,SqT.of y2,at0,rfl,_,rfl,?_⟩;have fin:∀(x dx:Addr)(H':Hp),Same d H'->H' x=some (.ins (cls PL PS (decide (k.1=1))) dx (tf (e.1:Int) (e.2:Int) k.2))->∃ v2 v3 zs,([some (.ref t),some (.ref pk),some (.ref q),some (.int (i:Int)),some (.ref p)]:St) = [some (.ref t),some (.ref pk),some (.ref q),v2,v3]/\Same H (upd H' q (.lst (us++[.ref x])))/\(upd H' q (.lst (us++[.ref x]))) q=some (.lst zs)/\gg PL PS (upd H' q (.lst (us++[.ref x]))) zs (B.take (i+1)) ks:=λx dx H' s4 J=>by
   refine⟨_,_,_,rfl,aV (s2.trans s4) hq _,af,by rw[EG,ul,Fy];simp;omega,λj e' k' hj ba=>?_⟩
   have bA:∀{b:Addr}{C dx:Addr}{fs:List (Str×V)},H' b=some (.ins C dx fs)->b≠q:=λz y=>by rw[y,s4 _ _ al]at z;cases z
   rw[List.getElem?_take]at hj;by_cases z:j<i
   ·rw[if_pos (by omega)]at hj
    obtain⟨p',ap,a1,a2⟩:=(tt.mono s4).2 j e' k' (by rw[List.getElem?_take,if_pos z];exact hj) ba
    exact⟨p',ap,by rw[EH (by omega)];exact a1,by rw[ao (bA a2)];exact a2⟩
   ·by_cases z2:j=i
    ·subst z2;rw[if_pos (by omega),he]at hj
     cases hj
     rw[hk]at ba
     cases ba
     exact⟨x,dx,by rw[← ul,EF (EI _),EW];rfl,by rw[ao (bA J)];exact J⟩
    ·rw[if_neg (by omega)]at hj
     cases hj
  refine ite2 (λc=>?_) (λc=>?_)
  ·have c':k.1=1:=V.int.inj (of_decide_eq_true c)
   refine⟨_,rfl,.inl ⟨rfl,_,SqL.of al⟩,_,rfl,p,_,0,_,rfl,rfl,SqT.of x2,at0,_,rfl,p,_,1,_,rfl,rfl,SqT.of x2,at1,_,rfl,_,rfl,pk,ws,_,_,rfl,rfl,SqL.of (s2 _ _ a4),aA y1,be,_,1,_,rfl,rfl,SqT.of y2,at1,?_⟩;intro x dx nx a5 bi;refine⟨x,PS,dx,_,_,_,rfl,af,TS,by omega,by omega,by omega,k2,λH' J G=>?_⟩
   have s4:Same d H':=λb o z=>G b o (by rw[ao (aE z nx),ao (aE z a5)];exact z) (aE z nx)
   refine⟨rfl,q,us,_,rfl,rfl,s4 _ _ al,av (by omega),fin x dx H' s4 ?_⟩
   rw[decide_eq_true c'];exact J
  ·have c':¬ k.1=1:=λz=>c (decide_eq_true (by rw[z]))
   refine⟨_,rfl,.inl ⟨rfl,_,SqL.of al⟩,_,rfl,p,_,0,_,rfl,rfl,SqT.of x2,at0,_,rfl,p,_,1,_,rfl,rfl,SqT.of x2,at1,_,rfl,_,rfl,pk,ws,_,_,rfl,rfl,SqL.of (s2 _ _ a4),aA y1,be,_,1,_,rfl,rfl,SqT.of y2,at1,?_⟩;intro x dx nx a5 bi;refine⟨x,PL,dx,_,_,_,rfl,af,TL,by omega,by omega,by omega,k2,λH' J G=>?_⟩
   have s4:Same d H':=λb o z=>G b o (by rw[ao (aE z nx),ao (aE z a5)];exact z) (aE z nx)
   refine⟨rfl,q,us,_,rfl,rfl,s4 _ _ al,av (by omega),fin x dx H' s4 ?_⟩
   rw[decide_eq_false c'];exact J
 rintro Y d ⟨v2,v3,us,rfl,s2,al,tt⟩;rw[EN,bd,Fu]at tt;have bm:=s2 _ _ a0;refine⟨_,rfl,t,_,1,_,rfl,rfl,SqT.of (s2 _ _ r),at31,pt,xs,rfl,.inl (SqL.of bm),_,rfl,_,rfl,t,_,1,_,rfl,rfl,SqT.of (s2 _ _ r),at31,pt,rfl,⟨_,SqL.of bm⟩,bE (K:=K) (xs:=xs) (λi zs H3=>Same d H3/\bS H3 zs (ts.take i)) (Fq (av (by omega))) ⟨λ_ _ e=>e,rfl,λi l e=>by simp at e⟩ (λi zs H3 _ z=>SqL.of (z.1 _ _ bm)) ?_ ?_⟩
 ·rintro i x zs H3 O ⟨s3,rz⟩;have I:i<ts.length:=by rw[← hR.1];exact(EB.mp O).1
  obtain⟨l,v⟩:∃ l,ts[i]?=some l:=⟨_,EA I⟩;obtain⟨p,a1,a2⟩:=(hR.mono (s2.trans s3)).2 i l v;rw[O]at a1
  cases a1
  refine⟨_,rfl,p,_,rfl,.inl (SqL.of a2),λg hg=>?_⟩;have s4:=aj hg (.lst (l.map iV));refine⟨s3.trans s4,?_⟩;rw[show ts.take (i+1)=ts.take i++[l] by rw[Fj,v];rfl]
  exact(rz.mono s4).snoc af
 rintro zs H3 _ ⟨s3,rz⟩ D hD;rw[hR.1,Fu]at rz;have s4:=aj hD (.lst zs);have a6:=s3.trans s4;intro x dx nx a5 bi;have up:∀ b o,(upd H3 D (.lst zs)) b=some o->(upd (upd (upd H3 D (.lst zs)) dx (.own x)) x (.ins WC dx [])) b=some o:=λb o z=>by rw[ao (aE z nx),ao (aE z a5)];exact z
 refine⟨x,WC,dx,q,D,m,us,zs,B,ts,(by rw[bQ];rfl),af,cw,up _ _ (a6 _ _ al),((tt.at kl TL TS).mono a6).mono up,up _ _ af,(rz.mono s4).mono up,g,bF,by omega,by have:=ng g;omega,λl v=>.inl (by
  obtain⟨i,I⟩:=FD.mp v;have:=dv (g.w.nd _ _ I) λt r=>jY g.w I r
  omega),λfs q1 rs H' J hg hn G h3 h4=>⟨rfl,?_⟩⟩
 have s5:Same d H':=λb o z=>h4 b o (up _ _ (a6 _ _ z)) (aE (a6 _ _ z) nx)
 have bB:∀ a,H a≠none->(upd (upd (upd H3 D (.lst zs)) dx (.own x)) x (.ins WC dx [])) a≠none:=λa z y=>z (by
  cases u:H a with
  |none=>rfl
  |some o=>rw[up _ _ (a6 _ _ (s2 _ _ u))]at y;cases y)
 exact kk x rs H' (s2.trans s5) ⟨dx,fs,q1,us,J,hg.mono (λ_ _ z=>z) bB,λz=>bB _ z hn,G,h3,tt.mono s5⟩
end
theorem bt_sum:bootBuiltins "sum" = some (.builtin "sum"):=by decide
theorem Dh{X:Cx}{e:Expr}{t t2:TE}(J:PE X e t)(h2:PE X e t2):PE X e (λσ H Q=>t σ H Q∨t2 σ H Q):=λB s σ H Q I h=>h.elim (J B s σ H Q I) (h2 B s σ H Q I)
noncomputable def bit(l a:Int):Int:=l/2^a.toNat%2
theorem CI(x y:Int):Builtin.bitAnd (Builtin.bitXor x y) 1=(x%2+y%2)%2:=by
 have e:Builtin.bitAnd (Builtin.bitXor x y) 1=Builtin.bitXor x y%2:=PySem.W.kbt_mask _ 1;rw[e,PyProof.Rows.bitXor_and];omega
noncomputable def iY(push:Bool):Sp:=λN H Q _=>∃ p,N = [.ref p]/\Q (.int (if push=true then 1 else 0)) H
noncomputable def TieAt(H:Hp)(p C:Addr)(a b s:Int):Prop:=∃ l,H p=some (.ins C l (tf a b s))
noncomputable def upL(u:Nat->Bool)(i:Nat):List Nat:=(EY i).filter u
theorem nz(u:Nat->Bool)(i:Nat):upL u (i+1)=if u i=true then upL u i++[i] else upL u i:=by
 unfold upL;rw[G8,List.filter_append];by_cases h:u i=true
 ·rw[if_pos h];simp[h]
 ·rw[if_neg h];simp[h]
noncomputable def qp(ps:List Nat):Nat:=ps.foldl (λm p=>m|||2^p) 0
theorem mZ(ps:List Nat)(p:Nat):qp (ps++[p])=qp ps|||2^p:=by unfold qp;rw[HM];rfl
noncomputable def MK(u:Nat->Bool):Nat->Nat
 |0=>0
 |i+1=>if u i=true then MK u i|||2^i else MK u i
theorem oF(u:Nat->Bool):∀ i,qp (upL u i)=MK u i
 |0=>rfl
 |i+1=>by
  rw[nz];show _=if u i=true then MK u i|||2^i else MK u i
  split
  ·rw[mZ,oF u i]
  ·exact oF u i
theorem bw(u:Nat->Bool)(k:Nat):∀ i,(MK u i).testBit k=(decide (k<i)&&u k)
 |0=>by show Hh 0 k=_;simp
 |i+1=>by
  show(if u i=true then MK u i|||2^i else MK u i).testBit k=_
  have Y:=bw u k i;by_cases h:u i=true
  ·rw[if_pos h,Gu,Y,Fg];by_cases z:i=k
   ·subst z;simp[h]
   ·by_cases v:k<i
    ·simp[v,Hc v,z]
    ·have:¬ k<i+1:=by omega
     simp[v,z,this]
  ·rw[if_neg h,Y];by_cases v:k<i
   ·simp[v,Hc v]
   ·by_cases z:i=k
    ·subst z;simp[h]
    ·have:¬ k<i+1:=by omega
     simp[v,this]
noncomputable def stg(ks:Kn)(t:Nat):Int:=match ks[t]? with | some k=>k.2 | none=>0
theorem bitN(N a:Nat):bit (N:Int) (a:Int)=if N.testBit a=true then 1 else 0:=by
 unfold bit;rw[EN,Iz];have e:((N:Int)/2^a%2)=((N/2^a%2:Nat):Int):=by
  rw[Int.natCast_emod,Int.natCast_ediv,Ia];rfl
 rw[e];by_cases z:N/2^a%2=1
 ·rw[z,decide_eq_true rfl];rfl
 ·rw[decide_eq_false z];have:N/2^a%2=0:=by omega
  rw[this];rfl
theorem xa(m n:Nat):(m^^^n)+2*(m&&&n)=m+n:=by
 have h:=PyProof.Rows.nat_or_add_and m n;have C:(m|||n)=(m^^^n)+(m&&&n):=by
  have e:(m^^^n)+(m&&&n)=(m^^^n)|||(m&&&n):=by
   have q:=PyProof.Rows.nat_or_add_and (m^^^n) (m&&&n);have z:(m^^^n)&&&(m&&&n)=0:=by
    apply FA;intro i;simp only[Gv,FP,FC]
    cases m.testBit i<;>cases n.testBit i<;>rfl
   omega
  rw[e];apply FA;intro i;simp only[Gv,FP,Gu]
  cases m.testBit i<;>cases n.testBit i<;>rfl
 omega
theorem xorN(a b:Nat):Builtin.bitXor (a:Int) (b:Int)=((a^^^b:Nat):Int):=by
 rw[PyProof.Rows.bitXor_and,andN];have q:=xa a b;omega
noncomputable def mT(K:ED):Sp:=λN H Q _=>∃(a:Addr)(d:List Nat),N = [.ref a]/\SqL K H a (d.map iV)/\(∀ p∈d,p<80)/\Q (.int ((qp d:Nat):Int)) H
theorem b9.at{f:Nat->Nat}{N d:Nat}{rs:List (List Nat)}(w:b9 f N N rs)(h:d<N):∃(a:Nat)(r:List Nat),rs[a]?=some r/\d∈r:=by
 obtain⟨r,J,C⟩:=Fp.mp (w.all d h);obtain⟨a,E,e⟩:=Gj J;exact⟨a,r,by rw[EA E,e],C⟩
noncomputable def sm(l:List Nat)(g:Nat->Nat):Nat:=(l.map g).sum
theorem xM(x:Nat)(l:List Nat)(g:Nat->Nat):sm (x::l) g=g x+sm l g:=by unfold sm;rw[E6,GJ]
section
variable{P:Program}{w:World}{K:ED}{mg:Str->Option Value}{base:Heap}
theorem rT:ax ["self"] ["self"] (aq dH):=by ac_nf
theorem AU{f:Addr}{fd:FuncData} (F:Fun K "wish" "Tie.wish" dH f fd):FnOk P w K mg base CX0 1 f fd ["self"] (iY false):=by
 refine F.ok rT (λN H Q E h=>?_) (λy A G s H N Q E L h=>?_)
 ·obtain⟨p,rfl,_⟩:=h;rfl
 obtain⟨p,rfl,k⟩:=h;exact⟨_,(ak (aH ai)),k⟩
theorem pT:ax ["self"] ["self"] (aq cU):=by ac_nf
theorem AS{f:Addr}{fd:FuncData} (F:Fun K "wish" "Push.wish" cU f fd):FnOk P w K mg base CX0 1 f fd ["self"] (iY true):=by
 refine F.ok pT (λN H Q E h=>?_) (λy A G s H N Q E L h=>?_)
 ·obtain⟨p,rfl,_⟩:=h;rfl
 obtain⟨p,rfl,k⟩:=h;exact⟨_,(ak (aH ai)),k⟩
theorem bT:ax ["places","mask","place"] ["places"] (aq eU):=by ac_nf
theorem ok_mask{f:Addr}{fd:FuncData} (F:Fun K "mask_of" "mask_of" eU f fd):FnOk P w K mg base CX0 1 f fd ["places"] (mT K):=by
 refine F.ok bT (λN H Q E h=>?_) (λy A G s H N Q E L h=>?_)
 ·obtain⟨a,d,rfl,_⟩:=h;rfl
 obtain⟨a,d,rfl,I,b,D⟩:=h
 refine⟨_,(ag (au (i:=1) bT.nd rfl (Or.inl rfl) ai)
   (ag (bK PassesOwn.never rfl (a8 (pv 0)) (aC (i:=2) bT.nd rfl (Or.inl rfl)) (ak (au (i:=1) bT.nd rfl (Or.inl rfl) (aw vC (pv 1) (aw cP ai (pv 2))))))
   (ak (aH (pv 1))))),?_⟩
 refine⟨_,rfl,a,rfl,⟨_,I⟩,cJ (K:=K) (xs:=d.map iV) (λi Y u=>∃ v,Y = [some (.ref a),some (.int ((qp (d.take i):Nat):Int)),v]/\u=H) ⟨_,rfl,rfl⟩ (λi Y u _ ⟨_,_,z⟩=>z▸I) ?_ ?_⟩
 ·rintro i x Y u O ⟨v,rfl,rfl⟩;rw[EO]at O;obtain⟨p,M,rfl⟩:=Fm.mp O;have c:=b p (EC M);refine⟨_,rfl,_,rfl,_,_,rfl,rfl,⟨by omega,by omega,by decide⟩,_,_,rfl,rfl,some (iV p),?_,rfl⟩
  show[some (V.ref a),some (V.int (Builtin.bitOr ((qp (d.take i):Nat):Int) (1*2^((p:Nat):Int).toNat))),some (iV p)]=_;rw[shlN,orN,Fj,M];show _ = [some (V.ref a),some (V.int ((qp (d.take i++[p]):Nat):Int)),some (iV p)];rw[mZ]
 ·rintro Y u ⟨v,rfl,rfl⟩;rw[EJ,Fu];exact⟨_,rfl,D⟩
theorem nK:ax ["found"] ["found"] (aq gs):=by ac_nf
theorem yB{f:Addr}{fd:FuncData} (F:Fun K "_law_number" "_law_number" gs f fd) (T:Txt mg):FnOk P w K mg base CX0 1 f fd ["found"] spNum:=by
 refine F.ok nK (λN H Q E h=>?_) (λy A G s H N Q E L h=>?_)
 ·obtain⟨i,rfl,_⟩:=h;rfl
 obtain⟨i,rfl,k⟩:=h;refine⟨_,(ak (aH (yq (ay kH (by rfl) T.n_isinstance bu (ae (pv 0) (ae (lu (v:=.ty "int") rfl T.n_int Aa rfl) ah))) (yi (yj (ay kH (by rfl) T.n_isinstance bu (ae (pv 0) (ae (lu (v:=.ty "bool") rfl T.n_bool Es rfl) ah)))))))),?_⟩
 refine⟨_,rfl,_,_,_,_,_,rfl,TyOf.int i,Or.inl ⟨_,rfl,rfl⟩,kit_ii K,_,rfl,iteT ?_⟩;exact⟨_,rfl,_,_,_,_,_,rfl,TyOf.int i,Or.inl ⟨_,rfl,rfl⟩,kit_ib K,_,rfl,k⟩
end
noncomputable def bt(M t:Nat):Nat:=M/2^t%2
theorem Er(M t:Nat):bt M t=if M.testBit t=true then 1 else 0:=by
 unfold bt;rw[Iz];by_cases z:M/2^t%2=1
 ·rw[z,decide_eq_true rfl,if_pos rfl]
 ·rw[decide_eq_false z,if_neg Fd];omega
theorem Aa(M t:Nat):Builtin.bitAnd ((M:Int)/2^((t:Nat):Int).toNat) 1=((bt M t:Nat):Int):=by
 have e:Builtin.bitAnd ((M:Int)/2^((t:Nat):Int).toNat) 1=((M:Int)/2^((t:Nat):Int).toNat)%2:=PySem.W.kbt_mask _ 1;rw[e,EN];unfold bt;rw[Int.natCast_emod,Int.natCast_ediv,Ia];rfl
noncomputable def parR(M:Nat)(r:List Nat):Nat:=sm r (λd=>bt M (d/2))%2
theorem Ax(l:List Nat)(g:Nat->Nat):(l.map λd=>((g d:Nat):Int)).sum=((sm l g:Nat):Int):=by
 induction l with
 |nil=>rfl
 |cons x l Y=>rw[E6,GJ,Y,xM];omega
noncomputable def aQ(ks:Kn)(t:Nat):Bool:=match ks[t]? with | some k=>decide (k.1=1) | none=>false
theorem x9{ks:Kn}{t:Nat}{k:Int×Int}(h:ks[t]?=some k):aQ ks t=decide (k.1=1):=by unfold aQ;rw[h]
noncomputable def oddU(M:Nat)(rs:List (List Nat))(k:Nat):Bool:=decide (parR M (rs.getD k [])=1)
theorem vf{rs:List (List Nat)}{k:Nat}{r:List Nat}(h:rs[k]?=some r):rs.getD k []=r:=by rw[Fs,h];rfl
noncomputable def WebR(PL PS q:Addr)(H:Hp)(p:Addr)(es:En)(ks:Kn)(rs:List (List Nat)):Prop:=∃ l fs n M j i,H p=some (.ins q l fs)/\fs.lookup ("ties" : Str)=some (.ref n)/\H n=some (.lst M)/\gg PL PS H M es ks/\fs.lookup ("rounds" : Str)=some (.ref j)/\H j=some (.lst i)/\bS H i rs
theorem WebR.mono{PL PS q:Addr}{H H':Hp}{p:Addr}{es:En}{ks:Kn}{rs:List (List Nat)}(h:WebR PL PS q H p es ks rs)(s:Same H H'):WebR PL PS q H' p es ks rs:=by
 obtain⟨l,fs,n,M,j,i,a,b,c,d,e,f,g⟩:=h;exact⟨l,fs,n,M,j,i,s _ _ a,b,s _ _ c,d.mono s,e,s _ _ f,g.mono s⟩
noncomputable def Cb(PL PS q:Addr):Sp:=λN H Q _=>∃(p:Addr)(B:En)(a:Kn)(x:List (List Nat)),N = [.ref p]/\WebR PL PS q H p B a x/\a.length=B.length/\B.length<=78/\∀ j,Same H j->Q (.int ((MK (aQ a) B.length:Nat):Int)) j
noncomputable def rK(PL PS q:Addr):Sp:=λN H Q _=>∃(p:Addr)(M k:Nat)(B:En)(a:Kn)(x:List (List Nat))(r:List Nat),N = [.ref p,.int (M:Int),.int (k:Int)]/\WebR PL PS q H p B a x/\x[k]?=some r/\r.length<=900/\∀ j,Same H j->Q (.int ((parR M r:Nat):Int)) j
noncomputable def xB(PL PS q:Addr):Sp:=λN H Q _=>∃(p:Addr)(B:En)(a:Kn)(x:List (List Nat)),N = [.ref p]/\WebR PL PS q H p B a x/\a.length=B.length/\B.length<=78/\x.length<=78/\(∀ r∈x,r.length<=900)/\∀ j,Same H j->Q (.int ((MK (oddU (MK (aQ a) B.length) x) x.length:Nat):Int)) j
theorem WebF.r{S:Addr->Prop}{PL PS q p:Addr}{H:Hp}{m:Nat}{es:En}{ts rs:List (List Nat)}{ks:Kn}(h:WebF S PL PS q H p m es ts rs ks):WebR PL PS q H p es ks rs:=by
 obtain⟨l,fs,n,M,a,g,_,b,c,d⟩:=h;obtain⟨j,i,f,v,e⟩:=g.rounds;exact⟨l,fs,n,M,j,i,a,b,c,d,f,v,e⟩
section
variable{P:Program}{w:World}{K:ED}{mg:Str->Option Value}{base:Heap}
theorem xP:ax ["web"] ["web"] (aq nO):=by ac_nf
theorem Dp{f fm PL PS Y f0 f1:Addr}{fd a1 d0 d1:FuncData} (F:Fun K "pushes" "pushes" nO f fd) (T:Txt mg) (cw:CW K Y) (TL:CT K PL) (TS:CT K PS) (aa:Cal P w K mg base 1 "mask_of" ["places"] (mT K) fm a1) (u0:Met P w K mg base 1 PL "wish" ["self"] (iY false) f0 d0) (u1:Met P w K mg base 1 PS "wish" ["self"] (iY true) f1 d1) :
  FnOk P w K mg base CX0 2 f fd ["web"] (Cb PL PS Y):=by
 refine F.ok xP (λN H Q E h=>?_) (λl A d s H N Q E L h=>?_)
 ·obtain⟨p,B,a,o,rfl,_⟩:=h;rfl
 obtain⟨p,B,a,o,rfl,⟨t,fs,m,xs,q5,z5,M,ap,al,tk,_⟩,kl,ab,J⟩:=h;have aP:=TL.cl;have aT:=TS.cl;have an:xs.length=B.length:=tk.1;refine⟨_,(ak (aH (az aa.ok (L.mono (by decide)) rfl aa.mg aa.kp aa.bn .nil aL (ae (a9 rfl rfl rfl rfl (fr:=[]) (xs:=["number","tie"]) (bH.of (by rfl) (by decide) (by rfl) (by decide) (λp M=>nomatch M) (by decide) (λp M=>nomatch M)) (n9 rfl T.n_enumerate (ae (bW (pv 0) rfl) ah)) (λC ex s H=>(sq (n:=2) (K:=K) rfl rfl (bx (aC (i:=0) (show(["number","tie"]:List Str).Nodup from by decide) rfl (Or.inl rfl)) (bx (aC (i:=1) (show(["number","tie"]:List Str).Nodup from by decide) rfl (Or.inl rfl)) gv)))) (λC ex s H=>(nW (aG dD (Dh (fQ (pv 1) aP u0.me u0.ok (L.mono (by decide)) u0.bn .nil aL) (fQ (pv 1) aT u1.me u1.ok (L.mono (by decide)) u1.bn .nil aL)) ai (aM _)))) (λC ex s H ps XE=>(pv 0))) ah)))),?_⟩
 refine⟨_,rfl,p,Y,t,fs,_,rfl,M,cw.cl,cw.n2,ap,m,rfl,⟨_,SqL.of al⟩,wD (K:=K) (xs:=xs) (λi v u=>Same H u/\v=(upL (aQ a) i).map iV) (Fq (av (by omega))) ⟨λ_ _ e=>e,rfl⟩ (λi v u _ z=>SqL.of (z.1 _ _ al)) ?_ ?_ ?_⟩
 ·rintro i x v u T2 O ⟨q,rfl⟩ ac;have I:i<B.length:=by rw[← tk.1];exact(EB.mp O).1
  obtain⟨e,j⟩:∃ e,B[i]?=some e:=⟨_,EA I⟩;obtain⟨k,g⟩:∃ k,a[i]?=some k:=⟨_,EA (by omega)⟩
  have r:=q.trans (aj ac (.tup [.int (i:Int),x]));obtain⟨p',am,x1,x2⟩:=(tk.mono r).2 i e k j g;rw[O]at x1
  cases x1
  refine⟨T2,_,rfl,SqT.of af,rfl,_,_,rfl,_,_,rfl,rfl,rfl,?_⟩;have hU:=x9 g;have a0:∀ b:Bool,b=aQ a i->(if b=true then tVar 0 ([some (.int (i:Int)),some (.ref p')]:St) (upd u T2 (.tup [.int (i:Int),.ref p'])) (λy H4=>Same H H4/\(upL (aQ a) i).map iV++[y]=(upL (aQ a) (i+1)).map iV) else Same H (upd u T2 (.tup [.int (i:Int),.ref p']))/\(upL (aQ a) i).map iV=(upL (aQ a) (i+1)).map iV):=λb G=>by
   rw[nz,← G]
   cases b with
   |true =>
    refine iteT ⟨_,rfl,r,?_⟩;rw[if_pos rfl,Fv];rfl
   |false =>
    refine iteF ⟨r,?_⟩;rw[if_neg (by decide)]
  by_cases c:k.1=1
  ·rw[decide_eq_true c]at x2 hU;refine .inr ⟨_,rfl,p',am,_,rfl,x2,rH _ _ _ (by decide) (by decide) (by decide),p',rfl,rfl,_,rfl,?_⟩
   exact a0 _ hU.symm
  ·rw[decide_eq_false c]at x2 hU;refine .inl ⟨_,rfl,p',am,_,rfl,x2,rH _ _ _ (by decide) (by decide) (by decide),p',rfl,rfl,_,rfl,?_⟩
   exact a0 _ hU.symm
 ·rintro v u ⟨q,rfl⟩ D hD;rw[an];refine⟨D,upL (aQ a) B.length,rfl,SqL.of af,λp M=>?_,?_⟩
  ·have:=F8.mp (HC.mp M).1;omega
  ·rw[oF];exact J _ (q.trans (aj hD _))
 ·rintro i v u ⟨_,rfl⟩;rw[EJ];exact FF (Ht _ _) (by rw[Fh];exact EI _)
theorem xQ:ax ["web","ties","number"] ["web","ties","number"] (aq nP):=by ac_nf
theorem A4{f PL PS q:Addr}{fd:FuncData} (F:Fun K "odd_at" "odd_at" nP f fd) (T:Txt mg) (cw:CW K q):FnOk P w K mg base CX0 1 f fd ["web","ties","number"] (rK PL PS q):=by
 refine F.ok xQ (λN H Q E h=>?_) (λy A G s H N Q E L h=>?_)
 ·obtain⟨p,M,k,B,a,o,r,rfl,_⟩:=h;rfl
 obtain⟨p,M,k,B,a,o,r,rfl,⟨l,fs,n,xs,q5,z5,t,_,_,_,l5,aa,hR⟩,g,v,J⟩:=h;obtain⟨pr,m,x2⟩:=hR.2 k r g;refine⟨_,(ak (aH (aw bh (ay (BV rfl) (by rfl) T.n_sum bt_sum (ae (a9 rfl rfl rfl rfl (fr:=[("ties",1)]) (xs:=["dart"]) (bH.of (by rfl) (by decide) (by rfl) (by decide) (by intro p t;simp only[EE,E5,or_false]at t;rcases t with rfl<;>exact⟨rfl,rfl⟩) (by decide) (by intro p t;simp only[EE,E5,or_false]at t;rcases t with rfl<;>rfl)) (a8 (aB aD (bW (pv 0) rfl) (pv 2) (λ_ _=>rfl))) (λC b s H=>(aC (i:=0) (show(["dart","ties"]:List Str).Nodup from by decide) rfl (Or.inl rfl))) (λC b s H=>bg) (λC b s H Y XE=>(aw mY (aw lA (pv 1) (aw bX (pv 0) ai)) ai))) ah)) ai))),?_⟩
 refine⟨_,rfl,p,q,l,fs,_,rfl,t,cw.cl,cw.n4,l5,_,rfl,q5,z5,_,_,rfl,rfl,SqL.of aa,aA m,pr,rfl,⟨_,SqL.of x2⟩,bE (K:=K) (xs:=r.map iV) (λi I u=>Same H u/\I=((r.take i).map λd=>((bt M (d/2):Nat):Int)).map V.int) (Fq (av (by rw[EJ];omega))) ⟨λ_ _ e=>e,rfl⟩ (λi I u _ z=>SqL.of (z.1 _ _ x2)) ?_ ?_⟩
 ·rintro i x I u O ⟨j,rfl⟩;rw[EO]at O;obtain⟨d,c,rfl⟩:=Fm.mp O;have ed:(d:Int)/2=((d/2:Nat):Int):=by omega
  refine⟨_,rfl,_,rfl,_,_,rfl,rfl,⟨by decide,by decide⟩,_,_,rfl,rfl,(show(0:Int)<=(d:Int)/2 by omega),_,_,rfl,rfl,j,?_⟩
  rw[Fj,c,Fv,Fv];show _++[V.int (Builtin.bitAnd ((M:Int)/2^((d:Int)/2).toNat) 1)]=_++[V.int ((bt M (d/2):Nat):Int)];rw[ed,Aa]
 rintro I u _ ⟨j,rfl⟩ D hD;rw[EJ,Fu];refine⟨D,_,rfl,SqL.of af,_,_,rfl,rfl,(by show(0:Int)<2;decide),?_⟩
 have e:(r.map λd=>((bt M (d/2):Nat):Int)).sum%2=((parR M r:Nat):Int):=by
  rw[Ax r λd=>bt M (d/2)];unfold parR;omega
 show Q (V.int ((r.map λd=>((bt M (d/2):Nat):Int)).sum%2)) _;rw[e];exact J _ (j.trans (aj hD _))
theorem i4:ax ["web","pushing"] ["web"] (aq gq):=by ac_nf
theorem Dt{f fm fp fo PL PS q:Addr}{fd aT a1 aP:FuncData} (F:Fun K "odd_rounds" "odd_rounds" gq f fd) (T:Txt mg) (cw:CW K q) (b:Cal P w K mg base 1 "mask_of" ["places"] (mT K) fm aT) (ac:Cal P w K mg base 2 "pushes" ["web"] (Cb PL PS q) fp a1) (al:Cal P w K mg base 1 "odd_at" ["web","ties","number"] (rK PL PS q) fo aP) :
  FnOk P w K mg base CX0 3 f fd ["web"] (xB PL PS q):=by
 refine F.ok i4 (λN H Q E h=>?_) (λy A G s H N Q E L h=>?_)
 ·obtain⟨p,B,a,x,rfl,_⟩:=h;rfl
 obtain⟨p,B,a,x,rfl,wb,kl,aa,a2,ap,J⟩:=h
 refine⟨_,(ag (au (i:=1) i4.nd rfl (Or.inr rfl) (az ac.ok (L.mono (by decide)) rfl ac.mg ac.kp ac.bn .nil aL (ae (pv 0) ah)))
   (ak (aH (az b.ok (L.mono (by decide)) rfl b.mg b.kp b.bn .nil aL (ae (a9 rfl rfl rfl rfl (fr:=[("web",0),("pushing",1)]) (xs:=["number"]) (bH.of (by rfl) (by decide) (by rfl) (by decide) (by intro p t;simp only[EE,E5,or_false]at t;rcases t with rfl | rfl<;>exact⟨rfl,rfl⟩) (by decide) (by intro p t;simp only[EE,E5,or_false]at t;rcases t with rfl | rfl<;>rfl)) (aN rfl T.n_range (ae (ay ar (by rfl) T.n_len aY (ae (bW (pv 0) rfl) ah)) ah)) (λC d s H=>(aC (i:=0) (show(["number","web","pushing"]:List Str).Nodup from by decide) rfl (Or.inl rfl))) (λC d s H=>(nW (aG dD (az al.ok (L.mono (by decide)) rfl al.mg al.kp al.bn .nil aL (ae (pv 1) (ae (pv 2) (ae (pv 0) ah)))) ai (aM _)))) (λC d s H Y XE=>(pv 0))) ah))))),?_⟩
 refine⟨_,rfl,p,B,a,x,rfl,wb,kl,aa,λO m=>?_⟩;have a0:=wb.mono m;obtain⟨l,fs,n,xs,q5,z5,t,_,_,_,l5,am,hR⟩:=id a0;have an:z5.length=x.length:=hR.1;generalize hM:MK (aQ a) B.length=M;rw[hM]at J;refine⟨_,rfl,p,q,l,fs,_,rfl,t,cw.cl,cw.n4,l5,q5,z5,rfl,.inl (SqL.of am),_,rfl,by omega,by omega,gc (λi v u=>Same O u/\v=(upL (oddU M x) i).map iV) (Fq (av (by omega))) ⟨λ_ _ e=>e,rfl⟩ ?_ ?_ ?_⟩
 ·rintro i v u I ⟨j,rfl⟩;have e0:(0:Int)+(i:Int)=(i:Int):=F1 _;rw[e0];obtain⟨r,ab⟩:∃ r,x[i]?=some r:=⟨_,EA (by omega)⟩
  refine⟨rfl,_,rfl,_,rfl,_,rfl,p,M,i,B,a,x,r,rfl,a0.mono j,ab,ap r (EC ab),λg k=>⟨rfl,_,rfl,?_⟩⟩;have hu:oddU M x i=decide (parR M r=1):=by unfold oddU;rw[vf ab]
  rw[nz,hu];refine ite2 (λc=>?_) (λc=>?_)
  ·have o:parR M r=1:=by have:=V.int.inj (of_decide_eq_true c);omega
   refine⟨_,rfl,j.trans k,?_⟩;rw[if_pos (decide_eq_true o),Fv];rfl
  ·have o:¬ parR M r=1:=λz=>c (decide_eq_true (congrArg V.int (by omega)))
   refine⟨j.trans k,?_⟩;rw[if_neg (by simpa using o)]
 ·rintro v u ⟨j,rfl⟩ D hD;rw[EN,an];refine⟨D,upL (oddU M x) x.length,rfl,SqL.of af,λp t=>?_,?_⟩
  ·have:=F8.mp (HC.mp t).1;omega
  ·rw[oF];exact J _ (m.trans (j.trans (aj hD _)))
 ·rintro i v u ⟨_,rfl⟩;rw[EJ];exact FF (Ht _ _) (by rw[Fh];exact EI _)
end
structure TxtZ(mg:Str->Option Value):Prop extends Txt mg where
 n_zip:mg "zip" = none
noncomputable def WebS(PL PS q:Addr)(H:Hp)(p:Addr)(es:En)(ks:Kn)(rs:List (List Nat)):Prop:=∃ l fs n M j i,H p=some (.ins q l fs)/\fs.lookup ("ties" : Str)=some (.ref n)/\H n=some (.lst M)/\gg PL PS H M es ks/\fs.lookup ("sides" : Str)=some (.ref j)/\H j=some (.lst i)/\gh H i es.length rs
noncomputable def wJ(H:Hp)(zs:List V)(n:Nat)(ks:Kn)(rs:List (List Nat)):Prop:=zs.length=n/\∀ i,i<n->∃ k t a b r O,ks[i]?=some k/\zs[i]?=some (.ref t)/\H t=some (.tup [iV a,iV b,.int k.2])/\rs[a]?=some r/\2*i∈r/\rs[b]?=some O/\2*i+1∈O
theorem wJ.mono{H H':Hp}{zs:List V}{n:Nat}{ks:Kn}{rs:List (List Nat)}(h:wJ H zs n ks rs)(s:Same H H'):wJ H' zs n ks rs:=⟨h.1,λi I=>by
 obtain⟨k,t,a,b,r,O,d,c,p,G⟩:=h.2 i I
 exact⟨k,t,a,b,r,O,d,c,s _ _ p,G⟩⟩
noncomputable def xE(PL PS Y:Addr):Sp:=λN H Q _=>∃(p:Addr)(B:En)(a:Kn)(x:List (List Nat)),N = [.ref p]/\WebS PL PS Y H p B a x/\a.length=B.length/\B.length<=62/\∀ q o j,Same H j->H q=none->j q=some (.lst o)->wJ j o B.length a x->Q (.ref q) j
section
variable{P:Program}{w:World}{K:ED}{mg:Str->Option Value}{base:Heap}
theorem rP:ax ["web"] ["web"] (aq jA):=by ac_nf
theorem A6{f PL PS WC:Addr}{fd:FuncData} (F:Fun K "links_of" "links_of" jA f fd) (T:TxtZ mg) (cw:CW K WC) (TL:CT K PL) (TS:CT K PS):FnOk P w K mg base CX0 1 f fd ["web"] (xE PL PS WC):=by
 refine F.ok rP (λN H Q E h=>?_) (λy A G s H N Q E L h=>?_)
 ·obtain⟨p,B,q,rs,rfl,_⟩:=h;rfl
 obtain⟨p,B,q,rs,rfl,⟨l,fs,m,xs,q5,z5,M,l1,ac,tk,l5,an,J⟩,kl,aa,kk⟩:=h;have am:xs.length=B.length:=tk.1;have aP:z5.length=B.length:=J.1;have ct:∀ b,CT K (cls PL PS b):=λb=>by
  unfold cls;split
  ·exact TS
  ·exact TL
 refine⟨_,(ak (aH (a9 rfl rfl rfl rfl (fr:=[]) (xs:=["sides","tie"]) (bH.of (by rfl) (by decide) (by rfl) (by decide) (λp M=>nomatch M) (by decide) (λp M=>nomatch M)) (pi_zip rfl T.n_zip (ae (bW (pv 0) rfl) (ae (bW (pv 0) rfl) ah))) (λC ex s H=>(sq (n:=2) (K:=K) rfl rfl (bx (aC (i:=0) (show(["sides","tie"]:List Str).Nodup from by decide) rfl (Or.inl rfl)) (bx (aC (i:=1) (show(["sides","tie"]:List Str).Nodup from by decide) rfl (Or.inl rfl)) gv)))) (λC ex s H=>bg) (λC ex s H ps XE=>(cO (ae (aB (lK (K:=K) rfl) (pv 0) ai (λ_ _=>rfl)) (ae (aB (lK (K:=K) rfl) (pv 0) ai (λ_ _=>rfl)) (ae (sv (K:=K) rfl (pv 1) rfl) ah)))))))),?_⟩
 refine⟨_,rfl,p,WC,l,fs,_,rfl,M,cw.cl,cw.n5,l5,_,rfl,p,WC,l,fs,_,rfl,M,cw.cl,cw.n2,l1,q5,m,rfl,⟨_,SqL.of an⟩,⟨_,SqL.of ac⟩,zW (K:=K) (xs:=z5) (zs:=xs) (λi v u=>Same H u/\wJ u v i q rs) (Fq (av (by omega))) (by omega) ⟨λ_ _ e=>e,rfl,λi I=>by omega⟩ (λi v u _ z=>⟨SqL.of (z.1 _ _ an),SqL.of (z.1 _ _ ac)⟩) ?_ ?_ ?_⟩
 ·rintro i x z v u T2 O hz ⟨Y,hY⟩ ab;have I:i<B.length:=by rw[← aP];exact(EB.mp O).1
  obtain⟨e,g⟩:∃ e,B[i]?=some e:=⟨_,EA I⟩;obtain⟨k,d⟩:∃ k,q[i]?=some k:=⟨_,EA (by omega)⟩
  obtain⟨t,a,b,r,r',y1,y2,y3,y4,y5,y6⟩:=J.2 i I;rw[O]at y1
  cases y1
  obtain⟨p',al,x1,x2⟩:=tk.2 i e k g d;rw[hz]at x1
  cases x1
  have s3:=Y.trans (aj ab (.tup [.ref t,.ref p']));refine⟨T2,_,rfl,SqT.of af,rfl,_,_,rfl,_,_,rfl,rfl,rfl,yesT ?_⟩;refine⟨_,rfl,t,_,0,_,rfl,rfl,SqT.of (s3 _ _ y2),at0,_,rfl,t,_,1,_,rfl,rfl,SqT.of (s3 _ _ y2),at1,_,rfl,p',_,al,_,_,rfl,s3 _ _ x2,(ct _).cl,(ct _).n3,xh _ _ _,(by show 3<=sizeLine;decide),λt4 aT=>?_⟩
  have s4:=aj aT (.tup [iV a,iV b,.int k.2]);have ap:=(aj ab (.tup [.ref t,.ref p'])).trans s4;have a0:=hY.mono ap;refine⟨Y.trans ap,by rw[EG,hY.1];rfl,λj hj=>?_⟩
  by_cases c:j<i
  ·obtain⟨k',t',a',b',w1,w2,v0,v1,v2⟩:=a0.2 j c;exact⟨k',t',a',b',w1,w2,v0,by rw[EH (by rw[hY.1];exact c)];exact v1,v2⟩
  ·have:j=i:=by omega
   subst this;exact⟨k,t4,a,b,r,r',d,by rw[← hY.1,EF (EI _),EW];rfl,af,y3,y4,y5,y6⟩
 ·rintro v u ⟨Y,hY⟩ D hD;rw[aP]at hY;have a1:H D=none:=by
   cases z:H D with
   |none=>rfl
   |some o=>rw[Y _ _ z]at hD;cases hD
  exact kk D v _ (Y.trans (aj hD _)) a1 af (hY.mono (aj hD _))
 ·rintro i v u ⟨_,hY⟩;rw[hY.1];exact EI _
end
noncomputable def UN(es:En)(ks:Kn)(L t:Nat):Bool:=match es[t]? with | some e=>(L.testBit e.1 ^^ L.testBit e.2 ^^ aQ ks t) | none=>false
theorem UN_at{es:En}{ks:Kn}{L t:Nat}{e:Nat×Nat}(h:es[t]?=some e):UN es ks L t=(L.testBit e.1 ^^ L.testBit e.2 ^^ aQ ks t):=by unfold UN;rw[h]
theorem nV{ks:Kn}{t:Nat}{k:Int×Int}(h:ks[t]?=some k):aQ ks t=decide (k.1=1):=by unfold aQ;rw[h]
theorem stg_at{ks:Kn}{t:Nat}{k:Int×Int}(h:ks[t]?=some k):stg ks t=k.2:=by unfold stg;rw[h]
noncomputable def wS(es:En)(ks:Kn)(L:Nat):Nat->Int
 |0=>0
 |i+1=>if UN es ks L i=true then wS es ks L i+stg ks i else wS es ks L i
noncomputable def wT(es:En)(ks:Kn)(L:Nat):Int:=wS es ks L es.length
noncomputable def ma(es:En)(ks:Kn)(m:Nat):List Int:=(EY (2^m)).map (wT es ks)
theorem wB(es:En)(ks:Kn)(m:Nat):(ma es ks m).length=2^m:=by unfold ma;rw[EJ,Fh]
theorem zT{es:En}{ks:Kn}{m L:Nat}(h:L<2^m):(ma es ks m)[L]?=some (wT es ks L):=by unfold ma;rw[EO,FU h];rfl
theorem xorI{a b:Nat}(L:Nat):Builtin.bitAnd (Builtin.bitXor ((L:Int)/2^((a:Nat):Int).toNat) ((L:Int)/2^((b:Nat):Int).toNat)) 1=if(L.testBit a ^^ L.testBit b)=true then 1 else 0:=by
 rw[CI];have J:=bitN L a;have C:=bitN L b;unfold bit at J C;rw[J,C]
 cases L.testBit a<;>cases L.testBit b<;>rfl
theorem UN_is{es:En}{ks:Kn}{L k:Nat}{e:Nat×Nat}{D:Int×Int}(j:es[k]?=some e)(g:ks[k]?=some D)(k1:D.1=0∨D.1=1):(!decide (V.int (if(L.testBit e.1 ^^ L.testBit e.2)=true then 1 else 0)=V.int D.1))=UN es ks L k:=by
 rw[UN_at j,nV g];rcases k1 with z | z
 ·rw[z]
  cases L.testBit e.1<;>cases L.testBit e.2<;>rfl
 ·rw[z]
  cases L.testBit e.1<;>cases L.testBit e.2<;>rfl
theorem yd{m:Nat}(h:m<=10):(0:Int)<((2^m:Nat):Int)/\((2^m:Nat):Int)<=1024/\(2:Nat)^m<=1024/\0<2^m:=by
 have r:(2:Nat)^m<=2^10:=FL (by decide) h
 have e:(2:Nat)^10=1024:=by decide
 rw[e]at r;have a:0<2^m:=F9 m;exact⟨by omega,by omega,r,a⟩
noncomputable def spWor(K:ED):Sp:=λN H Q _=>∃(C b:Addr)(v l:List V)(B:En)(a:Kn)(L:Nat),N = [.ref C,.ref b,.int (L:Int)]/\SqL K H C v/\cR H v B/\SqL K H b l/\gY H l a/\a.length=B.length/\B.length<=900/\Q (.int (wT B a L)) H
noncomputable def xI:Sp:=λN H Q _=>∃(t C pt O b:Addr)(m:Nat)(B:En)(g:List (List Nat))(a:Kn),N = [.ref t,.ref b]/\H t=some (.tup [.ref C,.ref pt,.ref O])/\WebP H C pt m B g/\(∃ l,H b=some (.lst l)/\gY H l a)/\a.length=B.length/\B.length<=900/\m<=10/\∀(q:Addr)(j:Hp),Same H j->H q=none->j q=some (.lst ((ma B a m).map V.int))->Q (.ref q) j
section
variable{P:Program}{w:World}{K:ED}{mg:Str->Option Value}{base:Heap}
theorem c6:ax ["ends","kinds","laying","found","k","unlike"] ["ends","kinds","laying"] (aq iq):=by ac_nf
theorem AR{f:Addr}{fd:FuncData} (F:Fun K "_law_worth" "_law_worth" iq f fd) (T:Txt mg):FnOk P w K mg base CX0 1 f fd ["ends","kinds","laying"] (spWor K):=by
 refine F.ok c6 (λN H Q E h=>?_) (λy A G s H N Q E v h=>?_)
 ·obtain⟨C,pk,I,l,B,a,L,rfl,_⟩:=h;rfl
 obtain⟨C,pk,I,l,B,a,L,rfl,aa,hE,ac,m,kl,e9,D⟩:=h;have ab:I.length=B.length:=hE.1
 refine⟨_,(ag (au (i:=3) c6.nd rfl (Or.inl rfl) ai)
   (ag (bK PassesOwn.never rfl (aN rfl T.n_range (ae (ay ar (by rfl) T.n_len aY (ae (pv 0) ah)) ah)) (aC (i:=4) c6.nd rfl (Or.inl rfl)) (ag (au (i:=5) c6.nd rfl (Or.inl rfl) (aw mY (aw ib (aw lA (pv 2) (aB aK (aB aD (pv 0) (pv 4) (λ_ _=>rfl)) ai (λ_ _=>rfl))) (aw lA (pv 2) (aB aK (aB aD (pv 0) (pv 4) (λ_ _=>rfl)) ai (λ_ _=>rfl)))) ai))
   (ak (bN (aG lB (pv 5) (aB aK (aB aD (pv 1) (pv 4) (λ_ _=>rfl)) ai (λ_ _=>rfl)) (aM _)) (ak (au (i:=3) c6.nd rfl (Or.inl rfl) (aw br (pv 3) (aB aK (aB aD (pv 1) (pv 4) (λ_ _=>rfl)) ai (λ_ _=>rfl))))) aR))))
   (ak (aH (pv 3))))),?_⟩
 refine⟨_,rfl,C,I,rfl,.inl aa,_,rfl,by omega,by omega,bZ (n:=(I.length:Int).toNat) (λi Y u=>∃(v4 d:Option V),Y = [some (.ref C),some (.ref pk),some (.int (L:Int)),some (.int (wS B a L i)),v4,d]/\u=H) ⟨_,_,rfl,rfl⟩ ?_ ?_⟩
 ·rintro k Y u g ⟨v4,d,rfl,rfl⟩;rw[EN,ab]at g;have M:(0:Int)+(k:Int)=(k:Int):=F1 _;rw[M];obtain⟨e,j⟩:∃ e,B[k]?=some e:=⟨_,EA g⟩;obtain⟨an,al⟩:∃ x,a[k]?=some x:=⟨_,EA (by omega)⟩
  obtain⟨p,q,o⟩:=hE.2 k e j;obtain⟨r,O,am,b,t⟩:=m.2 k an al;refine⟨_,rfl,_,rfl,_,rfl,C,I,_,_,rfl,rfl,aa,aA q,p,_,0,_,rfl,rfl,SqT.of o,at0,_,_,rfl,rfl,(show(0:Int)<=(e.1:Int) by omega),_,rfl,_,rfl,_,rfl,C,I,_,_,rfl,rfl,aa,aA q,p,_,1,_,rfl,rfl,SqT.of o,at1,_,_,rfl,rfl,(show(0:Int)<=(e.2:Int) by omega),_,_,rfl,rfl,_,_,rfl,rfl,?_⟩
  dsimp only;rw[xorI];refine⟨_,rfl,_,rfl,_,rfl,pk,l,_,_,rfl,rfl,ac,aA b,am,_,0,_,rfl,rfl,SqT.of t,at0,rfl,_,rfl,ite2 (λc=>?_) (λc=>?_)⟩
  ·have cu:UN B a L k=true:=(UN_is j al r).symm.trans c
   refine⟨_,rfl,_,rfl,_,rfl,pk,l,_,_,rfl,rfl,ac,aA b,am,_,1,_,rfl,rfl,SqT.of t,at1,_,_,rfl,rfl,?_⟩;refine⟨some (.int (k:Int)),some (.int (if(L.testBit e.1 ^^ L.testBit e.2)=true then 1 else 0)),?_,rfl⟩;have J:wS B a L (k+1)=wS B a L k+an.2:=by
    show(if UN B a L k=true then _ else _)=_;rw[if_pos cu,stg_at al]
   rw[J];rfl
  ·have cu:¬ UN B a L k=true:=λz=>c ((UN_is j al r).trans z)
   refine⟨some (.int (k:Int)),some (.int (if(L.testBit e.1 ^^ L.testBit e.2)=true then 1 else 0)),?_,rfl⟩;have J:wS B a L (k+1)=wS B a L k:=by
    show(if UN B a L k=true then _ else _)=_;rw[if_neg cu]
   rw[J];rfl
 ·rintro Y u ⟨v4,d,rfl,rfl⟩;rw[EN,ab];exact⟨_,rfl,D⟩
theorem pQ:ax ["grown","kinds"] ["grown","kinds"] (aq iy):=by ac_nf
theorem Bb{f fw:Addr}{fd dw:FuncData} (F:Fun K "_law_costs" "_law_costs" iy f fd) (T:Txt mg) (aa:Cal P w K mg base 1 "_law_worth" ["ends","kinds","laying"] (spWor K) fw dw):FnOk P w K mg base CX0 2 f fd ["grown","kinds"] xI:=by
 refine F.ok pQ (λN H Q E h=>?_) (λy A G s H N Q E L h=>?_)
 ·obtain⟨t,q,pt,O,pk,m,B,b,a,rfl,_⟩:=h;rfl
 obtain⟨t,q,pt,O,pk,m,B,b,a,rfl,Y,⟨⟨v,ab,hE⟩,⟨xs,ac,r⟩,g⟩,⟨l,am,e⟩,kl,e9,an,J⟩:=h;have al:xs.length=m:=by rw[r.1,g.w.len]
 obtain⟨n,c,q3,q4⟩:=yd an;refine⟨_,(ak (aH (a9 rfl rfl rfl rfl (fr:=[("kinds",1),("grown",0)]) (xs:=["laying"]) (bH.of (by rfl) (by decide) (by rfl) (by decide) (by intro p M;simp only[EE,E5,or_false]at M;rcases M with rfl | rfl<;>exact⟨rfl,rfl⟩) (by decide) (by intro p M;simp only[EE,E5,or_false]at M;rcases M with rfl | rfl<;>rfl)) (aN rfl T.n_range (ae (aw cP ai (ay ar (by rfl) T.n_len aY (ae (aB aK (pv 0) ai (λ_ _=>rfl)) ah))) ah)) (λC j s H=>(aC (i:=0) (show(["laying","kinds","grown"]:List Str).Nodup from by decide) rfl (Or.inl rfl))) (λC j s H=>bg) (λC j s H d x=>(az aa.ok (L.mono (by decide)) rfl aa.mg aa.kp aa.bn .nil aL (ae (aB (lK (K:=K) rfl) (pv 2) ai (λ_ _=>rfl)) (ae (pv 1) (ae (pv 0) ah)))))))),?_⟩
 have ap:(1:Int)*2^((xs.length:Int)).toNat=((2^m:Nat):Int):=by rw[al];exact shlN m
 refine⟨_,rfl,t,_,1,_,rfl,rfl,SqT.of Y,at31,pt,xs,rfl,.inl (SqL.of ac),_,_,rfl,rfl,⟨by omega,by omega,by decide⟩,((2^m:Nat):Int),congrArg (λz=>[V.int z]) ap,by omega,by ac_rfl,gc (k:=((2^m:Nat):Int).toNat) (λi o u=>u=H/\o=((EY i).map (wT B a)).map V.int) (by rw[EN];exact FF q3 (by decide)) ⟨rfl,rfl⟩ ?_ ?_ ?_⟩
 ·rintro i o u I ⟨rfl,rfl⟩;rw[F1];refine⟨rfl,yesT ?_⟩;refine⟨_,rfl,t,_,0,_,rfl,rfl,SqT.of Y,at30,_,rfl,_,rfl,q,pk,v,l,B,a,i,rfl,SqL.of ab,hE,SqL.of am,e,kl,e9,rfl,?_⟩;rw[G8,Fv,Fv];rfl
 ·rintro o u ⟨rfl,rfl⟩ D hD;rw[EN];exact J D _ (aj hD _) hD af
 ·rintro i o u ⟨_,rfl⟩;rw[EJ,EJ,Fh];exact EI _
end
theorem om(S T:Nat->Bool):∀ l:List Nat,par (λt=>S t ^^ T t) l=(par S l ^^ par T l)
 |[]=>rfl
 |d::l=>by
  rw[aI,aI,aI,om S T l]
  cases S (d/2)<;>cases T (d/2)<;>cases par S l<;>cases par T l<;>rfl
theorem c9{S T:Nat->Bool}:∀{l:List Nat},(∀ d∈l,S (d/2)=T (d/2))->par S l=par T l
 |[],_=>rfl
 |d::l,h=>by rw[aI,aI,h d (EM ..),c9 λx O=>h x (EK _ O)]
theorem uX:∀ l:List Nat,par (λ_=>false) l=false
 |[]=>rfl
 |d::l=>by rw[aI,uX l];rfl
theorem yt(i:Nat):∀{l:List Nat},l.Nodup->par (λt=>decide (t=i)) l=(decide (2*i∈l) ^^ decide (2*i+1∈l))
 |[],_=>rfl
 |d::l,o=>by
  obtain⟨r,v⟩:=EL.mp o;rw[aI,yt i v];by_cases c0:d=2*i
  ·subst c0;rw[decide_eq_true (show 2*i/2=i by omega),decide_eq_false r,decide_eq_true (EM ..)]
   have:decide (2*i+1∈2*i::l)=decide (2*i+1∈l):=decide_eq_decide.mpr ⟨λz=>(EE.mp z).elim (λy=>by omega) id,EK _⟩
   rw[this]
   cases decide (2*i+1∈l)<;>rfl
  ·have c:decide (2*i∈d::l)=decide (2*i∈l):=decide_eq_decide.mpr ⟨λz=>(EE.mp z).elim (λy=>absurd y.symm c0) id,EK _⟩
   by_cases c1:d=2*i+1
   ·subst c1;rw[decide_eq_true (show(2*i+1)/2=i by omega),c,decide_eq_false r,decide_eq_true (EM ..)]
    cases decide (2*i∈l)<;>rfl
   ·have B:decide (2*i+1∈d::l)=decide (2*i+1∈l):=decide_eq_decide.mpr ⟨λz=>(EE.mp z).elim (λy=>absurd y.symm c1) id,EK _⟩
    rw[decide_eq_false (show ¬ d/2=i by omega),c,B]
    cases decide (2*i∈l)<;>cases decide (2*i+1∈l)<;>rfl
structure Dl(N:Nat)(rs:List (List Nat))(ls:List KF.Lk):Prop where
 nd:rs.flatten.Nodup
 all:∀ d,d<2*N->d∈rs.flatten
 lt:∀ r∈rs,∀ d∈r,d<2*N
 rn:∀ r∈rs,r.Nodup
 ln:ls.length=N
 sd:∀(i:Nat)(l:KF.Lk),ls[i]?=some l->(∃ r,rs[l.1]?=some r/\2*i∈r)/\∃ r,rs[l.2.1]?=some r/\2*i+1∈r
theorem Dl.odd{N:Nat}{rs:List (List Nat)}{ls:List KF.Lk}(D:Dl N rs ls)(u:Nat){a:Nat}{R:List Nat}(k:rs[a]?=some R):∀ i,i<=N->(KF.oddE ls u i).testBit a=par (λt=>u.testBit t&&decide (t<i)) R
 |0,_=>by
  show(0:Nat).testBit a=_;rw[FC];exact((c9 λd _=>by rw[decide_eq_false (FN _),Hn]).trans (uX R)).symm
 |i+1,h=>by
  have Y:=D.odd u k i (by omega)
  obtain⟨l,B⟩:∃ l,ls[i]?=some l:=⟨_,EA (by rw[D.ln];omega)⟩
  obtain⟨⟨r,M,J⟩,⟨O,m,j⟩⟩:=D.sd i l B;have b:=D.rn R (EC k);have I:decide (2*i∈R)=decide (l.1=a):=decide_eq_decide.mpr ⟨λz=>lR D.nd M k J z,λz=>by rw[z,k]at M;cases M;exact J⟩
  have b1:decide (2*i+1∈R)=decide (l.2.1=a):=decide_eq_decide.mpr ⟨λz=>lR D.nd m k j z,λz=>by rw[z,k]at m;cases m;exact j⟩
  unfold KF.oddE;by_cases c:u.testBit i=true
  ·rw[if_pos c,FP,Y,KF.lkA_is B];unfold KF.endX;rw[FP,Fg,Fg,← I,← b1,← yt i b,← om];refine c9 λd _=>?_;by_cases z:d/2=i
   ·rw[z,c,decide_eq_false (FG i),decide_eq_true rfl,decide_eq_true (FV i)];rfl
   ·rw[decide_eq_false z,Hf];congr 1;exact decide_eq_decide.mpr (by omega)
  ·rw[if_neg c,Y];refine c9 λd _=>?_;by_cases z:d/2=i
   ·have C:u.testBit i=false:=by cases y:u.testBit i;rfl;exact absurd y c
    rw[z,C];rfl
   ·congr 1;exact decide_eq_decide.mpr (by omega)
theorem Dl.oddN{N:Nat}{rs:List (List Nat)}{ls:List KF.Lk}(D:Dl N rs ls)(u:Nat){a:Nat}{R:List Nat}(k:rs[a]?=some R):(KF.oddE ls u N).testBit a=par (λt=>u.testBit t) R:=by
 rw[D.odd u k N (EI _)];refine c9 λd hd=>?_;have:=D.lt R (EC k) d hd;rw[decide_eq_true (show d/2<N by omega),Jr]
theorem Dl.rooms{N:Nat}{rs:List (List Nat)}{ls:List KF.Lk}(D:Dl N rs ls):∀ l∈ls,l.1<rs.length/\l.2.1<rs.length:=λl B=>by
 obtain⟨i,I⟩:=Gx B;obtain⟨⟨_,C,_⟩,⟨_,m,_⟩⟩:=D.sd i l I;exact⟨(EB.mp C).1,(EB.mp m).1⟩
theorem qg{n:Nat}{ls:List KF.Lk}(hl:∀ l∈ls,l.1<n/\l.2.1<n)(u:Nat):∀ i,i<=ls.length->KF.oddE ls u i<2^n
 |0,_=>F9 n
 |i+1,h=>by
  unfold KF.oddE;have Y:=qg hl u i (by omega)
  split
  ·obtain⟨l,e⟩:∃ l,ls[i]?=some l:=⟨_,EA (by omega)⟩
   obtain⟨w,t⟩:=hl l (EC e);rw[KF.lkA_is e];exact GG Y (GG (FW (by decide) w) (FW (by decide) t))
  ·exact Y
theorem uy{x y n:Nat}(O:x<2^n)(B:y<2^n)(h:∀ a,a<n->x.testBit a=y.testBit a):x=y:=FA λa=>by
 by_cases c:a<n
 ·exact h a c
 ·rw[G0 (EZ O (FL (by decide) (by omega))),G0 (EZ B (FL (by decide) (by omega)))]
noncomputable def phi(F:Nat->Bool)(x:Nat):Nat->Bool
 |0=>false
 |n+1=>phi F x n ^^ (F n&&x.testBit n)
theorem oh(F:Nat->Bool)(x y:Nat):∀ n,phi F (x^^^y) n=(phi F x n ^^ phi F y n)
 |0=>rfl
 |n+1=>by
  unfold phi;rw[oh F x y n,FP]
  cases phi F x n<;>cases phi F y n<;>cases F n<;>cases x.testBit n<;>cases y.testBit n<;>rfl
theorem og(F:Nat->Bool):∀ n,phi F 0 n=false
 |0=>rfl
 |n+1=>by unfold phi;rw[og F n,FC,Hn];rfl
theorem sf(F:Nat->Bool)(a:Nat):∀ n,phi F (2^a) n=(F a&&decide (a<n))
 |0=>by unfold phi;rw[decide_eq_false (FN _),Hn]
 |n+1=>by
  unfold phi;rw[sf F a n,Fg];by_cases c:a=n
  ·subst c;rw[decide_eq_false (FG _),decide_eq_true rfl,decide_eq_true (FV _),Hn,GZ]
  ·rw[decide_eq_false c,Hn,Hf];congr 1;exact decide_eq_decide.mpr (by omega)
theorem yg{n:Nat}{ls:List KF.Lk}(hl:∀ l∈ls,l.1<n/\l.2.1<n)(F:Nat->Bool)(u t:Nat)(v:∀ (i:Nat) (l:KF.Lk),i≠t->ls[i]?=some l->F l.1=F l.2.1){lt:KF.Lk}(Y:ls[t]?=some lt)(f:u.testBit t=true):∀ i,i<=ls.length->phi F (KF.oddE ls u i) n=(decide (t<i)&&(F lt.1 ^^ F lt.2.1))
 |0,_=>by
  show phi F 0 n=_;rw[og,decide_eq_false (FN _),GO]
 |i+1,h=>by
  have g:=yg hl F u t v Y f i (by omega)
  obtain⟨l,e⟩:∃ l,ls[i]?=some l:=⟨_,EA (by omega)⟩
  obtain⟨w,d⟩:=hl l (EC e);have C:phi F (KF.endX l) n=(F l.1 ^^ F l.2.1):=by
   unfold KF.endX;rw[oh,sf,sf,decide_eq_true w,decide_eq_true d,Jr,Jr]
  unfold KF.oddE;by_cases c:t=i
  ·subst c;rw[if_pos f,oh,g,KF.lkA_is e,C];rw[Y]at e
   cases e
   rw[decide_eq_false (FG _),decide_eq_true (FV _),GO,GZ,FZ]
  ·have O:decide (t<i+1)=decide (t<i):=decide_eq_decide.mpr (by omega)
   rw[O];split
   ·rw[oh,g,KF.lkA_is e,C,v i l (λz=>c z.symm) e,Iw,Hf]
   ·exact g
theorem vi{m:Nat}{es:En}{ts:List (List Nat)}{S Pl:Nat->Bool}(w:bz m es ts)(h:uD es S Pl){r:List Nat}(c:CR (fol es ts) (2*es.length) r):par S r=false:=by
 obtain⟨x,l,rfl,N⟩:=c.ch;have O:=c.lt x (EM ..);have:=o9 w h N O (λt Y=>c.lt t (EK _ Y)) O;rw[oo]at this;rw[aI];have Q:par S [x]=S (x/2):=by rw[aI];exact Hf _
 rw[Q,Iw]at this;rw[Iy];exact this
theorem Dl.last{m N:Nat}{es:En}{ts rs:List (List Nat)}{ls:List KF.Lk}(D:Dl N rs ls)(w:bz m es ts)(o:es.length=N)(cr:∀ r∈rs,CR (fol es ts) (2*es.length) r)(F:Nat->Bool){t:Nat}{lt:KF.Lk}(Y:ls[t]?=some lt)(v:∀ (i:Nat) (l:KF.Lk),i≠t->ls[i]?=some l->F l.1=F l.2.1):F lt.1=F lt.2.1:=by
 have c:t<N:=by rw[← D.ln];exact(EB.mp Y).1
 obtain⟨e,j⟩:∃ e,es[t]?=some e:=⟨_,EA (by omega)⟩
 obtain⟨_,_,ne⟩:=w.ends e (EC j);obtain⟨S,I⟩:∃ S:Nat->Bool,uD es S (λp=>decide (p=e.1)):=⟨λs=>match es[s]? with | some x=>(decide (x.1=e.1) ^^ decide (x.2=e.1)) | none=>false,λs x O=>by show(match es[s]? with | some x=>(decide (x.1=e.1) ^^ decide (x.2=e.1)) | none=>false)=_;rw[O]⟩
 have f:(MK S N).testBit t=true:=by
  rw[bw,decide_eq_true c,I t e j];show(true&&(decide (e.1=e.1) ^^ decide (e.2=e.1)))=true;rw[decide_eq_true rfl,decide_eq_false (Ne.symm ne)];rfl
 have g:KF.oddE ls (MK S N) N=0:=by
  refine uy (n:=rs.length) (by rw[← D.ln];exact qg D.rooms _ _ (EI _)) (F9 _) λa E=>?_
  have k:=EA E;rw[D.oddN _ k,FC,← vi w I (cr _ (EC k))];refine c9 λd hd=>?_;have:=D.lt _ (EC k) d hd;rw[bw,decide_eq_true (show d/2<N by omega),FZ]
 have:=yg D.rooms F (MK S N) t v Y f N (by rw[D.ln];exact EI _)
 rw[g,og,decide_eq_true c,FZ]at this
 cases a:F lt.1<;>cases b:F lt.2.1<;>rw[a,b]at this
 ·cases this
 ·cases this
theorem nU{l:List Nat}(nd:l.Nodup){G:Nat->Bool}(h:∀ s∈l,G (nxt l s)=G s):∀{s s':Nat},s∈l->s'∈l->G s=G s':=by
 have o:∀ j,(E:j<l.length)->G l[j]=G (l[0]'(by omega)):=λj=>by
  induction j with
  |zero=>intro _;rfl
  |succ j Y =>
   intro E;have L:l[j]'(by omega)∈l:=List.getElem_mem _
   have e:=gz L;rw[nd.idxOf_getElem j (by omega),F4 E,EA E]at e
   rw[E8 e,h _ L];exact Y (by omega)
 intro s s' J C;obtain⟨j,E,rfl⟩:=Gj J;obtain⟨i,I,rfl⟩:=Gj C;rw[o j E,o i I]
theorem Dl.whole{m N:Nat}{es:En}{ts rs:List (List Nat)}{ls:List KF.Lk}(D:Dl N rs ls)(g:Gr m es ts)(hN:es.length=N)(cr:∀ r∈rs,CR (fol es ts) (2*es.length) r)(F:Nat->Bool)(hF:∀ (i:Nat) (l:KF.Lk),ls[i]?=some l->F l.1=F l.2.1){a b:Nat}(E:a<rs.length)(j:b<rs.length):F a=F b:=by
 have w:=g.w;obtain⟨G,hG⟩:∃ G:Nat->Bool,∀ s l,ls[s]?=some l->G s=F l.1:=⟨λs=>match ls[s]? with | some l=>F l.1 | none=>false,λs l h=>by show(match ls[s]? with | some l=>F l.1 | none=>false)=_;rw[h]⟩
 have c:∀{a:Nat}{r:List Nat}{d:Nat},rs[a]?=some r->d∈r->F a=G (d/2):=λ{a r d} J C=>by
  have hd:=D.lt r (EC J) d C;obtain⟨l,B⟩:∃ l,ls[d/2]?=some l:=⟨_,EA (by rw[D.ln];omega)⟩
  obtain⟨⟨f,q,I⟩,⟨y,y1,Q⟩⟩:=D.sd _ l B;rw[hG _ l B];by_cases z:d%2=0
  ·rw[show 2*(d/2)=d by omega]at I
   rw[lR D.nd J q C I]
  ·rw[show 2*(d/2)+1=d by omega]at Q
   rw[lR D.nd J y1 C Q,hF _ l B]
 have fl:∀ d,d<2*N->G (fol es ts d/2)=G (d/2):=λd hd=>by
  obtain⟨r,L,al⟩:=Fp.mp (D.all d hd);obtain⟨a,E⟩:=Gx L;rw[← c E al,← c E ((cr r L).closed d al)]
 have ab:∀{p:Nat}{l:List Nat},ts[p]?=some l->∀ s∈l,G (nxt l s)=G s:=λ{p l} B s O=>by
  obtain⟨e,o,M⟩:=(w.mem p l B s).mp O;have sl:=(EB.mp o).1;obtain⟨d,d1,d2,d3⟩:∃ d,d/2=s/\hd es d=p/\d<2*es.length:=by
   rcases M with z | z
   ·refine⟨2*s+1,by omega,?_,by omega⟩
    unfold hd;rw[show(2*s+1)/2=s by omega,o]
    show(if(2*s+1)%2=0 then e.2 else e.1)=p;rw[if_neg (by omega)]
    exact z
   ·refine⟨2*s,by omega,?_,by omega⟩
    unfold hd;rw[show 2*s/2=s by omega,o]
    show(if 2*s%2=0 then e.2 else e.1)=p;rw[if_pos (by omega)]
    exact z
  obtain⟨l',_,x,_,_,_,_,_,_,H,_⟩:=w.foll d3;rw[d2,B]at x
  cases x
  rw[← d1,← H];exact fl d (by omega)
 obtain⟨r0,ac⟩:∃ r,rs[a]?=some r:=⟨_,EA E⟩;obtain⟨f,aa⟩:∃ r,rs[b]?=some r:=⟨_,EA j⟩;obtain⟨d0,am⟩:=(cr r0 (EC ac)).ne;obtain⟨d1,an⟩:=(cr f (EC aa)).ne;rw[c ac am,c aa an];have l0:=D.lt _ (EC ac) _ am;have l1:=D.lt _ (EC aa) _ an;obtain⟨e0,k0,_,_,_,p0,q0,m0⟩:=w.at (d:=d0) (by omega)
 obtain⟨T,k1,_,_,_,p1,n,m1⟩:=w.at (d:=d1) (by omega)
 have:=g.conn (λp=>∃ l s,ts[p]?=some l/\s∈l/\G s=G (d0/2)) (λe o=>by
  obtain⟨t,Y⟩:=Gx o;obtain⟨b1,b2,_⟩:=w.ends e o;obtain⟨u,A⟩:∃ l,ts[e.1]?=some l:=⟨_,EA (by rw[w.len];exact b1)⟩
  obtain⟨v,k⟩:∃ l,ts[e.2]?=some l:=⟨_,EA (by rw[w.len];exact b2)⟩
  have tu:=(w.mem _ u A t).mpr ⟨e,Y,.inl rfl⟩;have tv:=(w.mem _ v k t).mpr ⟨e,Y,.inr rfl⟩;constructor
  ·rintro⟨l,s,q,I,x3⟩;rw[A]at q
   cases q
   exact⟨v,t,k,tv,(nU (w.nd _ _ A) (ab A) tu I).trans x3⟩
  ·rintro⟨l,s,q,I,x3⟩;rw[k]at q
   cases q
   exact⟨u,t,A,tu,(nU (w.nd _ _ k) (ab k) tv I).trans x3⟩) (hd es d0) (hd es d1) p0 p1 ⟨k0,_,q0,m0,rfl⟩
 obtain⟨l,s,q,I,x3⟩:=this;rw[n]at q
 cases q
 rw[nU (w.nd _ _ n) (ab n) m1 I];exact x3.symm
theorem er_at{ls:List KF.Lk}{t i:Nat}{l:KF.Lk}(I:i≠t)(h:ls[i]?=some l):∃ j:Nat,(ls.eraseIdx t)[j]?=some l:=by
 by_cases c:i<t
 ·exact⟨i,by rw[Hz c];exact h⟩
 ·refine⟨i-1,?_⟩;rw[HA (by omega),show i-1+1=i by omega]
  exact h
theorem Dl.conn{m N:Nat}{es:En}{ts rs:List (List Nat)}{ls:List KF.Lk}(D:Dl N rs ls)(g:Gr m es ts)(o:es.length=N)(cr:∀ r∈rs,CR (fol es ts) (2*es.length) r){t:Nat}(Y:t<N):KF.Conn rs.length (ls.eraseIdx t):=λb G=>by
 obtain⟨F,v⟩:∃ F:Nat->Bool,∀ b,F b=true↔∃ x,KF.Wk (ls.eraseIdx t) 0 b x:=⟨λb=>@decide (∃ x,KF.Wk (ls.eraseIdx t) 0 b x) (Jp _),λb=>by rw[@decide_eq_true_iff _ (Jp _)]⟩
 have k:∀(i:Nat)(l:KF.Lk),i≠t->ls[i]?=some l->F l.1=F l.2.1:=λi l I B=>by
  obtain⟨j,E⟩:=er_at I B;have C:F l.1=true->F l.2.1=true:=λz=>by
   obtain⟨x,O⟩:=(v _).mp z;have:=KF.Wk.step O E (.inl rfl);have e:KF.bey l l.1=l.2.1:=by unfold KF.bey;rw[if_pos rfl]
   rw[e]at this;exact(v _).mpr ⟨_,this⟩
  have f:F l.2.1=true->F l.1=true:=λz=>by
   obtain⟨x,O⟩:=(v _).mp z;have:=KF.Wk.step O E (.inr rfl);by_cases q:l.2.1=l.1
   ·rw[← q];exact z
   ·have e:KF.bey l l.2.1=l.1:=by unfold KF.bey;rw[if_neg q]
    rw[e]at this;exact(v _).mpr ⟨_,this⟩
  cases p:F l.1 with
  |true=>rw[C p]
  |false =>
   cases q:F l.2.1 with
   |true=>rw[f q]at p;cases p
   |false=>rfl
 obtain⟨lt,d⟩:∃ l,ls[t]?=some l:=⟨_,EA (by rw[D.ln];exact Y)⟩
 have h:∀(i:Nat)(l:KF.Lk),ls[i]?=some l->F l.1=F l.2.1:=λi l B=>by
  by_cases c:i=t
  ·subst c;exact D.last g.w o cr F B k
  ·exact k i l c B
 have:=D.whole g o cr F h (a:=0) (b:=b) (by omega) G
 rw[(v 0).mpr ⟨0,.nil 0⟩]at this;exact(v b).mp this.symm
theorem er_lk{ls:List KF.Lk}{t i:Nat}:KF.lkA (ls.eraseIdx t) i=if i<t then KF.lkA ls i else KF.lkA ls (i+1):=by
 unfold KF.lkA;rw[Fs];by_cases c:i<t
 ·rw[Hz c,if_pos c,Fs]
 ·rw[HA (by omega),if_neg c,Fs]
structure Ins(t:Nat)(u u':Nat):Prop where
 lo:∀ j,j<t->u'.testBit j=u.testBit j
 hi:∀ j,t<=j->u'.testBit j=u.testBit (j+1)
theorem Ins.odd1{ls:List KF.Lk}{t u g:Nat}(h:Ins t u g):∀ i,i<=t->KF.oddE (ls.eraseIdx t) g i=KF.oddE ls u i/\KF.cstU (ls.eraseIdx t) g i=KF.cstU ls u i
 |0,_=>⟨rfl,rfl⟩
 |i+1,I=>by
  obtain⟨a,b⟩:=h.odd1 (ls:=ls) i (by omega)
  unfold KF.oddE KF.cstU;rw[a,b,h.lo i (by omega),er_lk,if_pos (show i<t by omega)]
  exact⟨rfl,rfl⟩
theorem Ins.odd2{ls:List KF.Lk}{t u g:Nat}(h:Ins t u g):∀ i,KF.oddE ls u (t+i+1)=KF.oddE (ls.eraseIdx t) g (t+i)^^^(if u.testBit t=true then KF.endX (KF.lkA ls t) else 0)/\KF.cstU ls u (t+i+1)=KF.cstU (ls.eraseIdx t) g (t+i)+(if u.testBit t=true then(KF.lkA ls t).2.2 else 0)
 |0=>by
  obtain⟨a,b⟩:=h.odd1 (ls:=ls) t (EI _);show KF.oddE ls u (t+1)=KF.oddE (ls.eraseIdx t) g t^^^_/\KF.cstU ls u (t+1)=KF.cstU (ls.eraseIdx t) g t+_;rw[a,b];show(if u.testBit t=true then KF.oddE ls u t^^^KF.endX (KF.lkA ls t) else KF.oddE ls u t)=_/\(if u.testBit t=true then KF.cstU ls u t+(KF.lkA ls t).2.2 else KF.cstU ls u t)=_;split
  ·exact⟨rfl,rfl⟩
  ·exact⟨(G3 _).symm,(IF _).symm⟩
 |i+1=>by
  obtain⟨a,b⟩:=h.odd2 (ls:=ls) i;have T:KF.oddE ls u (t+(i+1)+1)=if u.testBit (t+i+1)=true then KF.oddE ls u (t+i+1)^^^KF.endX (KF.lkA ls (t+i+1)) else KF.oddE ls u (t+i+1):=rfl;have Q:KF.cstU ls u (t+(i+1)+1)=if u.testBit (t+i+1)=true then KF.cstU ls u (t+i+1)+(KF.lkA ls (t+i+1)).2.2 else KF.cstU ls u (t+i+1):=rfl;have A:KF.oddE (ls.eraseIdx t) g (t+(i+1))=if g.testBit (t+i)=true then KF.oddE (ls.eraseIdx t) g (t+i)^^^KF.endX (KF.lkA (ls.eraseIdx t) (t+i)) else KF.oddE (ls.eraseIdx t) g (t+i):=rfl;have o:KF.cstU (ls.eraseIdx t) g (t+(i+1))=if g.testBit (t+i)=true then KF.cstU (ls.eraseIdx t) g (t+i)+(KF.lkA (ls.eraseIdx t) (t+i)).2.2 else KF.cstU (ls.eraseIdx t) g (t+i):=rfl;rw[T,Q,A,o,a,b,h.hi (t+i) (by omega),er_lk,if_neg (show ¬ t+i<t by omega)]
  by_cases c:u.testBit (t+i+1)=true
  ·rw[if_pos c,if_pos c,if_pos c,if_pos c];refine⟨?_,by omega⟩
   rw[FK,FK];congr 1;exact Ho _ _
  ·rw[if_neg c,if_neg c,if_neg c,if_neg c];exact⟨rfl,rfl⟩
theorem Ins.all{ls:List KF.Lk}{t u g N:Nat}(h:Ins t u g)(o:ls.length=N)(Y:t<N):KF.oddE ls u N=KF.oddE (ls.eraseIdx t) g (ls.eraseIdx t).length^^^(if u.testBit t=true then KF.endX (KF.lkA ls t) else 0)/\KF.cstU ls u N=KF.cstU (ls.eraseIdx t) g (ls.eraseIdx t).length+(if u.testBit t=true then(KF.lkA ls t).2.2 else 0):=by
 obtain⟨i,I⟩:∃ i,N=t+i+1:=⟨N-t-1,by omega⟩
 have a:(ls.eraseIdx t).length=t+i:=by rw[IV (by omega)];omega
 rw[a,I];exact h.odd2 i
noncomputable def AllEv(rs:List (List Nat))(S M:Nat):Prop:=∀(k:Nat)(r:List Nat),rs[k]?=some r->parR S r=parR M r
theorem lx(S:Nat):∀ r:List Nat,par (λt=>S.testBit t) r=decide (parR S r=1)
 |[]=>rfl
 |d::r=>by
  have Y:=lx S r;rw[aI,Y];unfold parR;rw[xM,Er]
  cases S.testBit (d/2) with
  |true =>
   rw[if_pos rfl,Jq];by_cases c:sm r (λd=>bt S (d/2))%2=1
   ·rw[decide_eq_true c,decide_eq_false (by omega)];rfl
   ·rw[decide_eq_false c,decide_eq_true (by omega)];rfl
  |false =>
   rw[if_neg Fd,GZ,Nat.zero_add]
theorem AB{m:Nat}{es:En}{ts:List (List Nat)}{ks:Kn}{rs:List (List Nat)}{S:Nat}(g:Gr m es ts)(l:b9 (fol es ts) (2*es.length) (2*es.length) rs)(i:AllEv rs S (MK (aQ ks) es.length)):∃ Pl:Nat->Bool,Pl 0=false/\uD es (λt=>S.testBit t ^^ aQ ks t) Pl:=by
 obtain⟨Pl,h⟩:=g.cut (λt=>S.testBit t ^^ aQ ks t) λr L=>by
  obtain⟨d,hd⟩:=L.ne;obtain⟨q,n,M⟩:=Fp.mp (l.all d (L.lt d hd));have a:=(l.ring q n).cr;have u:r.Perm q:=(FR L.nd a.nd).mpr λt=>⟨L.same a hd M t,a.same L M hd t⟩;rw[ky _ u,om];have T:par (aQ ks) q=par (λt=>(MK (aQ ks) es.length).testBit t) q:=c9 λx O=>by
   have:=a.lt x O;rw[bw,decide_eq_true (by omega),FZ]
  obtain⟨k,A⟩:=Gx n;rw[T,lx,lx,i k q A];exact Iw _
 refine⟨λp=>Pl p ^^ Pl 0,Iw _,λt e j=>?_⟩;rw[h t e j];show _=((Pl e.1 ^^ Pl 0) ^^ (Pl e.2 ^^ Pl 0))
 cases Pl e.1<;>cases Pl e.2<;>cases Pl 0<;>rfl
noncomputable def UB(es:En)(ks:Kn)(L t:Nat):Bool:=match es[t]? with | some e=>(L.testBit e.1 ^^ L.testBit e.2 ^^ aQ ks t) | none=>false
theorem Ai{es:En}{ks:Kn}{L t:Nat}{e:Nat×Nat}(h:es[t]?=some e):UB es ks L t=(L.testBit e.1 ^^ L.testBit e.2 ^^ aQ ks t):=by unfold UB;rw[h]
noncomputable def oc(st:Nat->Int)(t:Nat)(S:Nat->Bool):Nat->Int
 |0=>0
 |i+1=>if i≠t/\S i=true then oc st t S i+st i else oc st t S i
theorem oy{st:Nat->Int}{t:Nat}{S S':Nat->Bool}:∀{N:Nat},(∀ i,i<N->S i=S' i)->oc st t S N=oc st t S' N
 |0,_=>rfl
 |i+1,h=>by unfold oc;rw[oy λj E=>h j (by omega),h i (by omega)]
theorem zR(ls:List KF.Lk)(t u:Nat):∀ i,KF.cstU ls u i=oc (λk=>(KF.lkA ls k).2.2) t (λk=>u.testBit k) i+(if t<i/\u.testBit t=true then(KF.lkA ls t).2.2 else 0)
 |0=>by
  show(0:Int)=0+_;rw[if_neg λz=>FN _ z.1];rfl
 |i+1=>by
  unfold KF.cstU oc;rw[zR ls t u i];by_cases c:i=t
  ·subst c;rw[if_neg (λz:i≠i/\_=>z.1 rfl),if_neg (λz:i<i/\_=>FG _ z.1)];by_cases b:u.testBit i=true
   ·rw[if_pos b,if_pos ⟨FV _,b⟩];omega
   ·rw[if_neg b,if_neg (λz=>b z.2)]
  ·have e:(t<i+1/\u.testBit t=true)↔(t<i/\u.testBit t=true):=⟨λz=>⟨by omega,z.2⟩,λz=>⟨by omega,z.2⟩⟩
   by_cases b:u.testBit i=true
   ·have I:i≠t/\u.testBit i=true:=⟨c,b⟩
    rw[if_pos b,if_pos I];by_cases q:t<i/\u.testBit t=true
    ·rw[if_pos q,if_pos (e.mpr q)];omega
    ·rw[if_neg q,if_neg (λz=>q (e.mp z))];omega
   ·rw[if_neg b,if_neg (λz:i≠t/\u.testBit i=true=>b z.2)];by_cases q:t<i/\u.testBit t=true
    ·rw[if_pos q,if_pos (e.mpr q)]
    ·rw[if_neg q,if_neg (λz=>q (e.mp z))]
noncomputable def skp(t j:Nat):Nat:=if j<t then j else j+1
theorem ins_mk{N t:Nat}(Y:t<N)(S:Nat->Bool):Ins t (MK S N) (MK (λj=>S (skp t j)) (N-1)) where
 lo j hj:=by
  rw[bw,bw];show(decide (j<N-1)&&S (if j<t then j else j+1))=_;rw[if_pos hj,decide_eq_true (show j<N-1 by omega),decide_eq_true (show j<N by omega)]
 hi j hj:=by
  rw[bw,bw];show(decide (j<N-1)&&S (if j<t then j else j+1))=_;rw[if_neg (by omega)]
  congr 1;exact decide_eq_decide.mpr (by omega)
theorem qC:∀ PL:List (Nat×Nat),(KF.flat PL).length%2=0
 |[]=>rfl
 |p::PL=>by
  rw[KF.flat_cons,E7,E7];have:=qC PL;omega
structure Oth(m:Nat)(es:En)(ts:List (List Nat))(ks:Kn)(rs:List (List Nat))(ls:List KF.Lk):Prop where
 g:Gr m es ts
 ro:b9 (fol es ts) (2*es.length) (2*es.length) rs
 d:Dl es.length rs ls
 kl:ks.length=es.length
 ws:∀(i:Nat)(l:KF.Lk),ls[i]?=some l->∃ k,ks[i]?=some k/\l.2.2=k.2/\0<=k.2/\k.2<=10^(30:Int).toNat
 m2:2<=m
 few:es.length<=8
theorem Oth.cr{m:Nat}{es:En}{ts:List (List Nat)}{ks:Kn}{rs:List (List Nat)}{ls:List KF.Lk}(O:Oth m es ts ks rs ls):∀ r∈rs,CR (fol es ts) (2*es.length) r:=λr L=>(O.ro.ring r L).cr
noncomputable def mkO(ks:Kn)(N:Nat)(ls:List KF.Lk)(t:Nat)(b:Bool):Nat:=KF.oddE ls (MK (aQ ks) N) N^^^(if b=true then KF.endX (KF.lkA ls t) else 0)
theorem Ap{a b c:Nat}(h:a=b^^^c):b=a^^^c:=by rw[h,FK,G4,G3]
theorem Oth.lay{m:Nat}{es:En}{ts:List (List Nat)}{ks:Kn}{rs:List (List Nat)}{ls:List KF.Lk}(O:Oth m es ts ks rs ls)(L:Nat):KF.oddE ls (MK (UB es ks L) es.length) es.length=KF.oddE ls (MK (aQ ks) es.length) es.length:=by
 refine uy (n:=rs.length) (by rw[← O.d.ln];exact qg O.d.rooms _ _ (EI _)) (by rw[← O.d.ln];exact qg O.d.rooms _ _ (EI _)) λa E=>?_
 have k:=EA E;rw[O.d.oddN _ k,O.d.oddN _ k];have lt:=O.d.lt _ (EC k);obtain⟨S,I⟩:∃ S:Nat->Bool,uD es S (λp=>L.testBit p):=⟨λs=>match es[s]? with | some x=>(L.testBit x.1 ^^ L.testBit x.2) | none=>false,λs x f=>by show(match es[s]? with | some x=>(L.testBit x.1 ^^ L.testBit x.2) | none=>false)=_;rw[f]⟩
 have b:=vi O.g.w I (O.cr _ (EC k));have:par (λt=>(MK (UB es ks L) es.length).testBit t) rs[a]=par (λt=>S t ^^ (MK (aQ ks) es.length).testBit t) rs[a]:=c9 λd hd=>by
  have:=lt d hd;obtain⟨e,j⟩:∃ e,es[d/2]?=some e:=⟨_,EA (by omega)⟩
  rw[bw,bw,decide_eq_true (show d/2<es.length by omega),FZ,FZ,Ai j,I _ e j]
 rw[this,om,b,GZ]
theorem Oth.down{m:Nat}{es:En}{ts:List (List Nat)}{ks:Kn}{rs:List (List Nat)}{ls:List KF.Lk}(O:Oth m es ts ks rs ls){t:Nat}(Y:t<es.length)(L:Nat):KF.oddE (ls.eraseIdx t) (MK (λj=>UB es ks L (skp t j)) (es.length-1)) (ls.eraseIdx t).length=mkO ks es.length ls t (UB es ks L t)/\KF.cstU (ls.eraseIdx t) (MK (λj=>UB es ks L (skp t j)) (es.length-1)) (ls.eraseIdx t).length=oc (λk=>(KF.lkA ls k).2.2) t (UB es ks L) es.length:=by
 have bt:(MK (UB es ks L) es.length).testBit t=UB es ks L t:=by rw[bw,decide_eq_true Y,FZ]
 obtain⟨a,b⟩:=(ins_mk Y (UB es ks L)).all (ls:=ls) O.d.ln Y;rw[bt]at a b;rw[O.lay L]at a;refine⟨Ap a,?_⟩;have:=zR ls t (MK (UB es ks L) es.length) es.length;rw[bt]at this;have e:oc (λk=>(KF.lkA ls k).2.2) t (λk=>(MK (UB es ks L) es.length).testBit k) es.length=oc (λk=>(KF.lkA ls k).2.2) t (UB es ks L) es.length:=oy λi I=>by rw[bw,decide_eq_true I,FZ]
 rw[e]at this;by_cases c:UB es ks L t=true
 ·rw[if_pos c]at b;rw[if_pos ⟨Y,c⟩]at this;omega
 ·rw[if_neg c]at b;rw[if_neg (λz=>c z.2)]at this;omega
theorem Oth.lok{m:Nat}{es:En}{ts:List (List Nat)}{ks:Kn}{rs:List (List Nat)}{ls:List KF.Lk}(O:Oth m es ts ks rs ls)(t:Nat)(f:rs.length<=40):KF.Lok rs.length (ls.eraseIdx t) where
 n1:=f
 l9:=by
  have J:=List.length_eraseIdx_le ls t;have C:=O.d.ln;have G:=O.few;omega
 sm l hl:=O.d.rooms l (Ji hl)
 w0 l hl:=by
  obtain⟨i,I⟩:=Gx (Ji hl);obtain⟨k,_,e,a,b⟩:=O.ws i l I;rw[e];refine⟨a,Int.le_trans b ?_⟩;unfold KF.MM;decide
theorem Oth.ways{m:Nat}{es:En}{ts:List (List Nat)}{ks:Kn}{rs:List (List Nat)}{ls:List KF.Lk}(O:Oth m es ts ks rs ls){t:Nat}(Y:t<es.length)(b:Bool):∃ L,UB es ks L t=b:=by
 obtain⟨e,j⟩:∃ e,es[t]?=some e:=⟨_,EA Y⟩;obtain⟨_,_,ne⟩:=O.g.w.ends e (EC j);by_cases c:aQ ks t=b
 ·exact⟨0,by rw[Ai j,FC,FC,c];cases b<;>rfl⟩
 ·refine⟨2^e.1,?_⟩;rw[Ai j,Fg,Fg,decide_eq_true rfl,decide_eq_false ne]
  cases p:aQ ks t<;>cases b<;>first | rfl | (rw[p]at c;exact absurd rfl c)
theorem Oth.even{m:Nat}{es:En}{ts:List (List Nat)}{ks:Kn}{rs:List (List Nat)}{ls:List KF.Lk}(O:Oth m es ts ks rs ls){t:Nat}(Y:t<es.length)(f:rs.length<=40)(b:Bool):mkO ks es.length ls t b<2^rs.length/\(KF.bl (mkO ks es.length ls t b)).length%2=0:=by
 obtain⟨L,a⟩:=O.ways Y b;have ok:=O.lok t f;have i:∀ l∈ls.eraseIdx t,0<=l.2.2:=λl D=>(ok.w0 l D).1;have E:=O.d.conn O.g rfl O.cr Y;obtain⟨J,c,⟨k,I,_⟩,_⟩:=KF.low_join (KF.far_met i E) (MK (λj=>UB es ks L (skp t j)) (es.length-1)) (λl D=>⟨(ok.sm l D).1,(ok.sm l D).2,KF.far_link i D⟩) (ls.eraseIdx t).length (EI _);rw[(O.down Y L).1,a]at J I;refine⟨J,?_⟩;rw[← I.length_eq];exact qC k
theorem Br{n:Nat}{ls:List KF.Lk}(ok:KF.Lok n ls)(E:KF.Conn n ls){mk u:Nat}{cost:Int}(N:KF.Opt (KF.farD ls) (KF.bl mk) cost)(e:KF.oddE ls u ls.length=mk):cost<=KF.cstU ls u ls.length:=by
 have i:∀ l∈ls,0<=l.2.2:=λl D=>(ok.w0 l D).1;obtain⟨_,c,J,C⟩:=KF.low_join (KF.far_met i E) u (λl D=>⟨(ok.sm l D).1,(ok.sm l D).2,KF.far_link i D⟩) ls.length (EI _);rw[e]at J;have:=N.2 c J;omega
structure Lst(m:Nat)(es:En)(ks:Kn)(st:Nat->Int)(t:Nat)(b:Bool)(c:Int):Prop where
 ex:∃ L,L<2^m/\L.testBit 0=false/\UB es ks L t=b/\oc st t (UB es ks L) es.length=c
 lo:∀ L,UB es ks L t=b->c<=oc st t (UB es ks L) es.length
theorem Oth.least{m:Nat}{es:En}{ts:List (List Nat)}{ks:Kn}{rs:List (List Nat)}{ls:List KF.Lk}(O:Oth m es ts ks rs ls){t:Nat}(Y:t<es.length)(a:rs.length<=40){b:Bool}{cost:Int}{u:Nat}(A:u<2^(ls.eraseIdx t).length)(N:KF.Opt (KF.farD (ls.eraseIdx t)) (KF.bl (mkO ks es.length ls t b)) cost)(e:KF.oddE (ls.eraseIdx t) u (ls.eraseIdx t).length=mkO ks es.length ls t b)(le:KF.cstU (ls.eraseIdx t) u (ls.eraseIdx t).length<=cost):Lst m es ks (λk=>(KF.lkA ls k).2.2) t b cost:=by
 have l:=O.d.conn O.g rfl O.cr Y;have ok:=O.lok t a;have lo:∀ L,UB es ks L t=b->cost<=oc (λk=>(KF.lkA ls k).2.2) t (UB es ks L) es.length:=λL y=>by
  obtain⟨J,C⟩:=O.down Y L;rw[← C];exact Br ok l N (by rw[J,y])
 have el:(ls.eraseIdx t).length=es.length-1:=by rw[IV (by rw[O.d.ln];exact Y),O.d.ln]
 obtain⟨S,M,D,o⟩:∃ S:Nat->Bool,(∀ j,j<t->S j=u.testBit j)/\S t=b/\∀ j,t<j->S j=u.testBit (j-1):=⟨λj=>if j<t then u.testBit j else if j=t then b else u.testBit (j-1),λj E=>if_pos E,by show(if t<t then u.testBit t else if t=t then b else u.testBit (t-1))=b;rw[if_neg (FG _),if_pos rfl],λj E=>by show(if j<t then u.testBit j else if j=t then b else u.testBit (j-1))=_;rw[if_neg (by omega),if_neg (by omega)]⟩
 have uh:∀ j,es.length-1<=j->u.testBit j=false:=λj E=>G0 (EZ A (by rw[el];exact FL (by decide) E))
 have I:Ins t (MK S es.length) u:=⟨λj E=>by rw[bw,M j E,decide_eq_true (show j<es.length by omega),FZ],λj E=>by
  rw[bw,o (j+1) (by omega),Nat.add_sub_cancel]
  by_cases c:j+1<es.length
  ·rw[decide_eq_true c,FZ]
  ·rw[decide_eq_false c,GO]
   exact uh j (by omega)⟩
 have bt:(MK S es.length).testBit t=b:=by rw[bw,decide_eq_true Y,FZ,D]
 obtain⟨B,s⟩:=I.all (ls:=ls) O.d.ln Y;rw[bt,e]at B;have G:KF.oddE ls (MK S es.length) es.length=KF.oddE ls (MK (aQ ks) es.length) es.length:=by
  rw[B];unfold mkO;rw[FK,G4,G3]
 have ev:AllEv rs (MK S es.length) (MK (aQ ks) es.length):=λk r v=>by
  have n:=O.d.oddN (MK S es.length) v;have h:=O.d.oddN (MK (aQ ks) es.length) v;rw[G,h,lx,lx]at n;have l1:parR (MK S es.length) r<2:=Jh _ (by decide)
  have H:parR (MK (aQ ks) es.length) r<2:=Jh _ (by decide)
  have:=decide_eq_decide.mp n;omega
 obtain⟨Pl,p0,cb⟩:=AB O.g O.ro ev;have ub:∀ i,i<es.length->UB es ks (MK Pl m) i=S i:=λi p=>by
  obtain⟨x,f⟩:∃ e,es[i]?=some e:=⟨_,EA p⟩;obtain⟨T,Q,_⟩:=O.g.w.ends x (EC f);have q:=cb i x f;have q':((MK S es.length).testBit i ^^ aQ ks i)=(Pl x.1 ^^ Pl x.2):=q;rw[bw,decide_eq_true p,FZ]at q';rw[Ai f,bw,bw,decide_eq_true T,decide_eq_true Q,FZ,FZ,← q']
  cases S i<;>cases aQ ks i<;>rfl
 have aa:UB es ks (MK Pl m) t=b:=by rw[ub t Y,D]
 have co:oc (λk=>(KF.lkA ls k).2.2) t (UB es ks (MK Pl m)) es.length=KF.cstU (ls.eraseIdx t) u (ls.eraseIdx t).length:=by
  rw[oy (S':=λk=>(MK S es.length).testBit k) λi p=>by rw[ub i p,bw,decide_eq_true p,FZ]]
  have:=zR ls t (MK S es.length) es.length;rw[bt]at this s;by_cases c:b=true
  ·rw[if_pos ⟨Y,c⟩]at this;rw[if_pos c]at s;omega
  ·rw[if_neg (λz=>c z.2)]at this;rw[if_neg c]at s;omega
 refine⟨⟨MK Pl m,?_,?_,aa,Int.le_antisymm (by rw[co];exact le) (lo _ aa)⟩,lo⟩
 ·refine GK _ λi p=>?_;rw[bw,decide_eq_false (by omega),GO]
 ·rw[bw,p0,Hn]
theorem Dl.marks{N:Nat}{rs:List (List Nat)}{ls:List KF.Lk}(D:Dl N rs ls)(M:Nat):MK (oddU M rs) rs.length=KF.oddE ls M N:=by
 refine uy (n:=rs.length) (GK _ λi I=>by rw[bw,decide_eq_false (by omega),GO]) (by rw[← D.ln];exact qg D.rooms _ _ (EI _)) λa E=>?_
 have k:=EA E;rw[D.oddN _ k,lx,bw,decide_eq_true E,FZ];unfold oddU;rw[Fs,k];rfl
theorem DC{st r:Nat->Int}{t:Nat}{S:Nat->Bool}:∀{N:Nat},(∀ i,i<N->st i=r i)->oc st t S N=oc r t S N
 |0,_=>rfl
 |i+1,h=>by unfold oc;rw[DC λj E=>h j (by omega),h i (by omega)]
noncomputable def stK(ks:Kn)(t:Nat):Int:=match ks[t]? with | some k=>k.2 | none=>0
theorem B6{ks:Kn}{t:Nat}{k:Int×Int}(h:ks[t]?=some k):stK ks t=k.2:=by unfold stK;rw[h]
theorem Lst.st{m:Nat}{es:En}{ks:Kn}{st r:Nat->Int}{t:Nat}{b:Bool}{c:Int}(h:Lst m es ks st t b c)(e:∀ i,i<es.length->st i=r i):Lst m es ks r t b c:=by
 obtain⟨⟨L,B,s,f,p⟩,lo⟩:=h;exact⟨⟨L,B,s,f,by rw[← DC e];exact p⟩,λL a=>by rw[← DC e];exact lo L a⟩
theorem DP{α:Type}{R:Hp->V->α->Prop}{H:Hp}{ys:List V}{xs:List α}(h:LsAt R H ys xs)(t:Nat):LsAt R H (ys.eraseIdx t) (xs.eraseIdx t):=by
 refine⟨by rw[List.length_eraseIdx,List.length_eraseIdx,h.1],λi x e=>?_⟩
 by_cases c:i<t
 ·rw[Hz c]at e ⊢;exact h.2 i x e
 ·rw[HA (by omega)]at e ⊢
  exact h.2 (i+1) x e
theorem lnk_ls{H:Hp}{ks:Kn}{rs:List (List Nat)}{zs:List V}{N:Nat}(h:wJ H zs N ks rs):∃ ls:List KF.Lk,LsAt KF.LkAt H zs ls/\ls.length=N/\∀(i:Nat)(l:KF.Lk),ls[i]?=some l->((∃ r,rs[l.1]?=some r/\2*i∈r)/\∃ r,rs[l.2.1]?=some r/\2*i+1∈r)/\∃ k,ks[i]?=some k/\l.2.2=k.2:=by
 have go:∀ n,n<=N->∃ ls:List KF.Lk,LsAt KF.LkAt H (zs.take n) ls/\ls.length=n/\∀(i:Nat)(l:KF.Lk),ls[i]?=some l->((∃ r,rs[l.1]?=some r/\2*i∈r)/\∃ r,rs[l.2.1]?=some r/\2*i+1∈r)/\∃ k,ks[i]?=some k/\l.2.2=k.2:=λn=>by
  induction n with
  |zero=>exact λ_=>⟨[],LsAt.nil,rfl,λi l z=>by simp at z⟩
  |succ n Y =>
   intro f;obtain⟨ls,a,b,c⟩:=Y (by omega)
   obtain⟨k,t,x,y,r,O,u,J,C,G,T,v,g⟩:=h.2 n (by omega)
   refine⟨ls++[(x,y,k.2)],?_,by rw[EG,b];rfl,λi l e=>?_⟩
   ·rw[Fj,J];exact a.snoc ⟨t,rfl,C⟩
   ·by_cases q:i<n
    ·rw[EH (by omega)]at e
     exact c i l e
    ·have:i=n:=by
      have:=(EB.mp e).1;rw[EG,b]at this;have:i<n+1:=this;omega
     subst this;rw[EF (by omega),b,EW]at e
     cases e
     exact⟨⟨⟨r,G,T⟩,⟨O,v,g⟩⟩,k,u,rfl⟩
 obtain⟨ls,a,b,c⟩:=go N (EI _);rw[← h.1,Fu]at a;exact⟨ls,a,b,c⟩
theorem kY{m:Nat}{es:En}{ts:List (List Nat)}{rs:List (List Nat)}(g:Gr m es ts)(l:b9 (fol es ts) (2*es.length) (2*es.length) rs):m+rs.length=es.length+2:=by
 obtain⟨a,p,c⟩:=g.part;rw[← p.same l.part];exact c
structure TxtO(mg:Str->Option Value):Prop extends TxtZ mg where
 modd:∃ t,mg "MOST_ODD" = some (.int 12 t)
 n_max:mg "max" = none
noncomputable def xD(PL PS q:Addr):Sp:=λN H Q _=>∃(p:Addr)(B:En)(a:Kn)(x:List (List Nat)),N = [.ref p]/\WebR PL PS q H p B a x/\a.length=B.length/\B.length<=30/\x.length<=12/\(∀ r∈x,r.length<=900)/\∀ j,Same H j->Q (.int ((MK (oddU (MK (aQ a) B.length) x) x.length:Nat):Int)) j
noncomputable def B8(TT PL PS q:Addr):Sp:=λN H Q _=>∃(p:Addr)(t m:Nat)(B:En)(g x:List (List Nat))(a:Kn)(S:Addr->Prop),N = [.ref p,.int (t:Int)]/\WebF S PL PS q H p m B g x a/\Gr m B g/\a.length=B.length/\(∀ k∈a,k.1=0∨k.1=1)/\(∀ k∈a,0<=k.2/\k.2<=10^(30:Int).toNat)/\B.length<=8/\t<B.length/\Tb KF.lqF KF.lpF TT H /\
 ∀(r:Addr)(c0 c1:Int)(j:Hp),KF.SmT H j->Tb KF.lqF KF.lpF TT j->j r=some (.tup [.int c0,.int c1])->Lst m B a (stK a) t (aQ a t) c0->Lst m B a (stK a) t (!aQ a t) c1->Q (.ref r) j
noncomputable def uK(s:Int):Sp:=λN H Q _=>∃ x:Int,N = [.int x]/\Q (.int (if s*x > 0 then s*x else 0)) H
theorem ku{X:Cx}{x:Str}{n:Int}{pos:Pos}(L:Gl X x)(i:∃ t,X.mg x=some (.int n t)) (hd:(x == ("__debug__" : Str))=false:=by decide):PE X (.Name x pos) (tC (.int n)):=by
 obtain⟨t,h⟩:=i;exact lh L h ⟨t,rfl⟩ hd
theorem Ae{mk n:Nat}(h:mk<2^n):(KF.bl mk).length<=n:=dv (KF.bl_nd mk) λx O=>KF.bl_lt h O
section
variable{P:Program}{w:World}{K:ED}{mg:Str->Option Value}{base:Heap}
theorem fz:ax ["web","marks"] ["web"] (aq g9):=by ac_nf
theorem A5{f g t PL PS q:Addr}{fd d1 d2:FuncData} (F:Fun K "marks_of" "marks_of" g9 f fd) (T:TxtO mg) (b:Cal P w K mg base 3 "odd_rounds" ["web"] (xB PL PS q) g d1) (c:Cal P w K mg base 2 "ones" ["mask"] KF.spOnes t d2):FnOk P w K mg base CX0 4 f fd ["web"] (xD PL PS q):=by
 refine F.ok fz (λN H Q E h=>?_) (λy A G s H N Q E L h=>?_)
 ·obtain⟨p,B,a,x,rfl,_⟩:=h;rfl
 obtain⟨p,B,a,x,rfl,v,e,n,C,l,D⟩:=h
 refine⟨_,(ag (au (i:=1) fz.nd rfl (Or.inl rfl) (az b.ok (L.mono (by decide)) rfl b.mg b.kp b.bn .nil aL (ae (pv 0) ah)))
   (ag (bN (aG AQ (az c.ok (L.mono (by decide)) rfl c.mg c.kp c.bn .nil aL (ae (pv 1) ah)) (ku rfl T.modd) (aM _)) (ak cH) aR)
   (ak (aH (pv 1))))),?_⟩
 refine⟨_,rfl,p,B,a,x,rfl,v,e,FF n (by decide),by omega,l,λO m=>?_⟩
 have k:=λu (j:Same O u)=>D u (m.trans j);have lt:MK (oddU (MK (aQ a) B.length) x) x.length<2^x.length:=GK _ λi I=>by rw[bw,decide_eq_false (by omega),GO]
 generalize MK (oddU (MK (aQ a) B.length) x) x.length=d at lt k ⊢;have o:=Ae lt;refine⟨_,rfl,d,rfl,EZ lt (FL (by decide) (by omega)),λu j=>?_⟩
 refine⟨_,_,rfl,rfl,_,rfl,ite2 (λz=>absurd (of_decide_eq_true z) (by omega)) (λ_=>?_)⟩
 exact⟨_,rfl,k _ j⟩
theorem nJ:ax ["pull"] ["pull"] (aq gp):=by ac_nf
theorem ok_pa{f:Addr}{fd:FuncData} (F:Fun K "paid_alike" "paid_alike" gp f fd) (T:TxtO mg):FnOk P w K mg base CX0 1 f fd ["pull"] (uK (-1)):=by
 refine F.ok nJ (λN H Q E h=>?_) (λy A G s H N Q E L h=>?_)
 ·obtain⟨x,rfl,_⟩:=h;rfl
 obtain⟨x,rfl,D⟩:=h;refine⟨_,(ak (aH (ay (mv rfl) (by rfl) T.n_max z8 (ae ai (ae (pe_un BZ (pv 0)) ah))))),?_⟩
 refine⟨_,rfl,_,rfl,_,_,rfl,?_⟩;rw[show(-1:Int)*x = -x by omega]at D
 exact D
theorem mH:ax ["pull"] ["pull"] (aq fH):=by ac_nf
theorem ok_pu{f:Addr}{fd:FuncData} (F:Fun K "paid_unlike" "paid_unlike" fH f fd) (T:TxtO mg):FnOk P w K mg base CX0 1 f fd ["pull"] (uK 1):=by
 refine F.ok mH (λN H Q E h=>?_) (λy A G s H N Q E L h=>?_)
 ·obtain⟨x,rfl,_⟩:=h;rfl
 obtain⟨x,rfl,D⟩:=h;refine⟨_,(ak (aH (ay (mv rfl) (by rfl) T.n_max z8 (ae ai (ae (pv 0) ah))))),?_⟩
 refine⟨_,rfl,_,_,rfl,?_⟩;rw[IS]at D;exact D
theorem fy:ax ["web","number","marks","many","links","link","pleased","displeased"] ["web","number"] (aq uQ):=by ac_nf
theorem Dn{TT f f1 f2 f3 g0 g1 PL PS WC:Addr}{fd d1 d2 d3 e0 e1:FuncData} (F:Fun K "roof" "roof" uQ f fd) (T:TxtO mg) (cw:CW K WC) (TL:CT K PL) (TS:CT K PS) (ac:Cal P w K mg base 4 "marks_of" ["web"] (xD PL PS WC) f1 d1) (aP:Cal P w K mg base 1 "links_of" ["web"] (xE PL PS WC) f2 d2) (an:Cal P w K mg base 11 "paired" ["many","links","marks"] (KF.spPaired TT) f3 d3)
  (u0:Met P w K mg base 1 PL "wish" ["self"] (iY false) g0 e0) (u1:Met P w K mg base 1 PS "wish" ["self"] (iY true) g1 e1):FnOk P w K mg base CX0 12 f fd ["web","number"] (B8 TT PL PS WC):=by
 refine F.ok fy (λN H Q E h=>?_) (λab A aa s H N Q E L h=>?_)
 ·obtain⟨p,t,m,B,ts,rs,ks,S,rfl,_⟩:=h;rfl
 obtain⟨p,t,m,B,ts,rs,ks,S,rfl,wf,g,kl,be,kb,al,Y,tb,kk⟩:=h;have bf:=TL.cl;have bi:=TS.cl;obtain⟨dx,fs,q1,j,M,wg,_,l2,aT,tk⟩:=id wf;obtain⟨q5,z5,l5,a1,r5⟩:=wg.rounds;obtain⟨q6,z6,l6,b7,r6⟩:=wg.sides;have ro:=wg.part;have cnt:=kY g ro;have m2:=g.two (by omega)
 have cq:rs.length<=8:=by omega
 have bR:1<=rs.length:=by
  obtain⟨r,am,_⟩:=Fp.mp (ro.all 0 (by omega))
  have:=FY am;omega
 have bU:∀ r∈rs,r.length<=900:=λr L=>by
  have:=dv (ro.ring r L).nd (ro.ring r L).lt;omega
 have b8:z5.length=rs.length:=r5.1
 refine⟨_,(ag (au (i:=2) fy.nd rfl (Or.inl rfl) (az ac.ok (L.mono (by decide)) rfl ac.mg ac.kp ac.bn .nil aL (ae (pv 0) ah)))
   (ag (au (i:=3) fy.nd rfl (Or.inl rfl) (ay ar (by rfl) T.n_len aY (ae (bW (pv 0) rfl) ah)))
   (ag (au (i:=4) fy.nd rfl (Or.inl rfl) (az aP.ok (L.mono (by decide)) rfl aP.mg aP.kp aP.bn .nil aL (ae (pv 0) ah)))
   (ag (au (i:=5) fy.nd rfl (Or.inl rfl) (dQ EX PySem.F.slot_list_pop PySem.F.type_list_pop Bj (pv 4) (ae (pv 1) ah)))
   (ag (au (i:=6) fy.nd rfl (Or.inl rfl) (aB aK (az an.ok (L.mono (by decide)) rfl an.mg an.kp an.bn .nil aL (ae (pv 3) (ae (pv 4) (ae (pv 2) ah)))) ai (λ_ _=>rfl)))
   (ag (au (i:=7) fy.nd rfl (Or.inl rfl) (aB aK (az an.ok (L.mono (by decide)) rfl an.mg an.kp an.bn .nil aL (ae (pv 3) (ae (pv 4) (ae (aw ib (aw ib (pv 2) (aw cP ai (aB aK (pv 5) ai (λ_ _=>rfl)))) (aw cP ai (aB aK (pv 5) ai (λ_ _=>rfl)))) ah)))) ai (λ_ _=>rfl)))
   (ak (aH (i8 (aG dD (Dh (fQ (aB aD (bW (pv 0) rfl) (pv 1) (λ_ _=>rfl)) bf u0.me u0.ok (L.mono (by decide)) u0.bn .nil aL) (fQ (aB aD (bW (pv 0) rfl) (pv 1) (λ_ _=>rfl)) bi u1.me u1.ok (L.mono (by decide)) u1.bn .nil aL)) ai (aM _)) (cO (ae (pv 6) (ae (pv 7) ah))) (cO (ae (pv 7) (ae (pv 6) ah)))))))))))),?_⟩
 refine⟨_,rfl,p,B,ks,rs,rfl,wf.r,kl,by omega,by omega,bU,λH1 s1=>?_⟩
 refine⟨_,rfl,p,WC,dx,fs,_,rfl,s1 _ _ M,cw.cl,cw.n4,l5,q5,z5,rfl,.inl (SqL.of (s1 _ _ a1)),?_⟩;rw[b8];refine⟨_,rfl,p,B,ks,rs,rfl,⟨dx,fs,q1,j,q6,z6,s1 _ _ M,l2,s1 _ _ aT,tk.mono s1,l6,s1 _ _ b7,r6.mono s1⟩,kl,by omega,λq zs u s2 nq hq lk=>?_⟩
 obtain⟨ls,bB,ln,lp⟩:=lnk_ls lk
 have O:Oth m B ts ks rs ls:=⟨g,ro,⟨ro.nd,ro.all,λr L=>(ro.ring r L).lt,λr L=>(ro.ring r L).nd,ln,λi l D=>(lp i l D).1⟩,kl,λi l D=>by
  obtain⟨k,J,G⟩:=(lp i l D).2
  exact⟨k,J,G,kb k (EC J)⟩,m2,al⟩
 have st:∀ i,i<B.length->(KF.lkA ls i).2.2=stK ks i:=λi I=>by
  obtain⟨l,D⟩:∃ l,ls[i]?=some l:=⟨_,EA (by omega)⟩
  obtain⟨k,J,G⟩:=(lp i l D).2;rw[KF.lkA_is D,B6 J,G]
 have ca:=O.d.marks (MK (aQ ks) B.length);have cb:MK (oddU (MK (aQ ks) B.length) rs) rs.length=mkO ks B.length ls t false:=by rw[ca];exact(G3 _).symm
 obtain⟨l,D⟩:∃ l,ls[t]?=some l:=⟨_,EA (by omega)⟩
 obtain⟨y,hy,tt,rfl,ba⟩:=bB.2 t l D;have zl:zs.length=B.length:=by rw[bB.1,ln]
 have bd:=O.d.rooms l (EC D);have qt:tt≠q:=λz=>by rw[z,hq]at ba;cases ba
 refine⟨_,rfl,.inl ⟨rfl,_,SqL.of hq⟩,_,rfl,q,zs,_,t,_,rfl,rfl,hq,by omega,by omega,(sZ (fZ (show t<zs.length by omega))).1,hy,?_⟩
 have a2:(upd u q (.lst (zs.eraseIdx t))) q=some (.lst (zs.eraseIdx t)):=af;have s3:Same H1 (upd u q (.lst (zs.eraseIdx t))):=aV s2 nq _;have bF:KF.LnAt (upd u q (.lst (zs.eraseIdx t))) (.ref q) (ls.eraseIdx t):=⟨q,_,rfl,a2,(DP bB t).imp λv x ⟨a,b,c⟩=>⟨a,b,by rw[ao (λz=>by rw[z,hq]at c;cases c)];exact c⟩⟩
 have bY:(upd u q (.lst (zs.eraseIdx t))) tt=some (.tup [.int (l.1:Int),.int (l.2.1:Int),.int l.2.2]):=by rw[ao qt];exact ba
 generalize upd u q (.lst (zs.eraseIdx t))=H3 at a2 s3 bF bY;have ap:=s1.trans s3;have a4:=KF.tb_same tb ap;have lok:=O.lok t (by omega)
 have conn:=O.d.conn O.g rfl O.cr Y;obtain⟨e1,e2⟩:=O.even Y (by omega) false
 obtain⟨e3,e4⟩:=O.even Y (by omega) true
 have f1:=Ae e1;have f3:=Ae e3;rw[cb];refine⟨_,rfl,_,rfl,_,rfl,.ref q,rs.length,_,ls.eraseIdx t,rfl,bF,lok,bR,conn,e1,e2,by omega,a4,λr4 c4 u4 H4 a6 a3 bv cc cd ce ch=>?_⟩
 have L0:=(O.least Y (by omega) cc ce cd ch).st st
 refine⟨r4,_,0,_,rfl,rfl,SqT.of bv,at0,?_⟩;have ex:Builtin.bitXor (Builtin.bitXor ((mkO ks B.length ls t false:Nat):Int) (1*2^((l.1:Nat):Int).toNat)) (1*2^((l.2.1:Nat):Int).toNat)=((mkO ks B.length ls t true:Nat):Int):=by
  rw[shlN,shlN,xorN,xorN];congr 1;unfold mkO;rw[if_neg Fd,if_pos rfl,G3,FK,KF.lkA_is D];rfl
 have b0:=a6.tup bY;refine⟨_,rfl,_,rfl,_,rfl,_,rfl,tt,_,0,_,rfl,rfl,SqT.of b0,at30,_,_,rfl,rfl,⟨by omega,by omega,by decide⟩,_,_,rfl,rfl,_,rfl,tt,_,1,_,rfl,rfl,SqT.of b0,at31,_,_,rfl,rfl,⟨by omega,by omega,by decide⟩,_,_,rfl,rfl,?_⟩
 dsimp only;rw[ex];refine⟨.ref q,rs.length,_,ls.eraseIdx t,rfl,bF.smT a6,lok,bR,conn,e3,e4,by omega,a3,λr5 c5 u5 H5 ci b6 cj ck cm co cp=>?_⟩
 have L1:=(O.least Y (by omega) ck co cm cp).st st
 refine⟨r5,_,0,_,rfl,rfl,SqT.of cj,at0,?_⟩;have bm:=a6.trans ci;have ins:∀{b C d:Addr}{fs:List (Str×V)},H b=some (.ins C d fs)->H5 b=some (.ins C d fs):=λz=>bm _ _ (λps y=>by cases y) (ap _ _ z)
 have bA:=bm.lst (ap _ _ aT);obtain⟨e,o⟩:∃ e,B[t]?=some e:=⟨_,EA Y⟩;obtain⟨k,n⟩:∃ k,ks[t]?=some k:=⟨_,EA (by omega)⟩
 obtain⟨p',a0,x1,x2⟩:=tk.2 t e k o n;have x5:=ins x2;have pu:=x9 n;have a5:KF.SmT H H5:=(KF.SmT.of ap).trans bm;by_cases c:k.1=1
 ·rw[decide_eq_true c]at pu x5;refine .inr ⟨_,rfl,p,WC,dx,fs,_,rfl,ins M,cw.cl,cw.n2,l2,_,rfl,q1,j,_,_,rfl,rfl,SqL.of bA,aA x1,p',a0,_,rfl,x5,rH _ _ _ (by decide) (by decide) (by decide),p',rfl,rfl,_,rfl,iteF ?_⟩
  refine⟨_,rfl,_,rfl,(by show 2<=sizeLine;decide),λr6 bQ=>?_⟩
  have s6:=aj bQ (.tup [.int c5,.int c4]);exact kk r6 c5 c4 _ (a5.trans (.of s6)) (KF.tb_same b6 s6) af (by rw[pu];exact L1) (by rw[pu];exact L0)
 ·rw[decide_eq_false c]at pu x5;refine .inl ⟨_,rfl,p,WC,dx,fs,_,rfl,ins M,cw.cl,cw.n2,l2,_,rfl,q1,j,_,_,rfl,rfl,SqL.of bA,aA x1,p',a0,_,rfl,x5,rH _ _ _ (by decide) (by decide) (by decide),p',rfl,rfl,_,rfl,iteT ?_⟩
  refine⟨_,rfl,_,rfl,(by show 2<=sizeLine;decide),λr6 bQ=>?_⟩
  have s6:=aj bQ (.tup [.int c4,.int c5]);exact kk r6 c4 c5 _ (a5.trans (.of s6)) (KF.tb_same b6 s6) af (by rw[pu];exact L0) (by rw[pu];exact L1)
end
noncomputable def sgN(es:En)(n L:Nat):Bool:=match es[n]? with | some e=>(L.testBit e.1 ^^ L.testBit e.2) | none=>false
theorem uO{es:En}{n L:Nat}{e:Nat×Nat}(h:es[n]?=some e):sgN es n L=(L.testBit e.1 ^^ L.testBit e.2):=by unfold sgN;rw[h]
theorem UB_sgN{es:En}{ks:Kn}{n L:Nat}(f:n<es.length):UB es ks L n=(sgN es n L ^^ aQ ks n):=by
 obtain⟨e,j⟩:∃ e,es[n]?=some e:=⟨_,EA f⟩;rw[Ai j,uO j]
structure Way(m:Nat)(es:En)(ks:Kn)(t:Nat)(b:Bool)(v:Int):Prop where
 ex:∃ L,L<2^m/\sgN es t L=b/\wT es ks L=v
 lo:∀ L,L<2^m->sgN es t L=b->v<=wT es ks L
theorem Way.is{m:Nat}{es:En}{ks:Kn}{t:Nat}{b:Bool}{v v':Int}(h:Way m es ks t b v)(h':Way m es ks t b v'):v=v':=by
 obtain⟨L,B,s,f⟩:=h.ex;obtain⟨d,b1,b2,b3⟩:=h'.ex;have c1:=h.lo d b1 b2;have c2:=h'.lo L B s;omega
theorem wS_oc{es:En}{ks:Kn}{L t:Nat}:∀ N:Nat,wS es ks L N=oc (stK ks) t (UB es ks L) N+if t<N/\UB es ks L t=true then stK ks t else 0
 |0=>by rw[if_neg (λz=>FN _ z.1)];rfl
 |i+1=>by
  have Y:=wS_oc (es:=es) (ks:=ks) (L:=L) (t:=t) i;show(if UB es ks L i=true then wS es ks L i+stK ks i else wS es ks L i)=(if i≠t/\UB es ks L i=true then oc (stK ks) t (UB es ks L) i+stK ks i else oc (stK ks) t (UB es ks L) i)+_;by_cases I:i=t
  ·subst I;rw[if_neg (λz=>FG _ z.1),IF]at Y;rw[if_neg (show ¬ (i≠i/\UB es ks L i=true) from λz=>z.1 rfl),Y];by_cases u:UB es ks L i=true
   ·rw[if_pos u,if_pos ⟨FV _,u⟩]
   ·rw[if_neg u,if_neg (λz=>u z.2),IF]
  ·have c1:(t<i+1/\UB es ks L t=true)↔(t<i/\UB es ks L t=true):=⟨λz=>⟨by omega,z.2⟩,λz=>⟨by omega,z.2⟩⟩
   rw[Y];simp only[c1];by_cases u:UB es ks L i=true
   ·rw[if_pos u,if_pos (show i≠t/\UB es ks L i=true from⟨I,u⟩)];exact Int.add_right_comm _ _ _
   ·rw[if_neg u,if_neg (show ¬ (i≠t/\UB es ks L i=true) from λz=>u z.2)]
theorem Lst.way{m:Nat}{es:En}{ks:Kn}{t:Nat}{b:Bool}{c:Int}(Y:t<es.length)(h:Lst m es ks (stK ks) t (b ^^ aQ ks t) c):Way m es ks t b (c+if(b ^^ aQ ks t)=true then stK ks t else 0):=by
 obtain⟨⟨L,B,s,f,p⟩,lo⟩:=h;have j:∀ L,UB es ks L t=(b ^^ aQ ks t)↔sgN es t L=b:=λL=>by
  rw[UB_sgN Y]
  cases sgN es t L<;>cases b<;>cases aQ ks t<;>decide
 have e:∀ L,sgN es t L=b->wT es ks L=oc (stK ks) t (UB es ks L) es.length+if(b ^^ aQ ks t)=true then stK ks t else 0:=λL a=>by
  have T:=(j L).mpr a;show wS es ks L es.length=_;rw[wS_oc (t:=t),T];simp only[Y,true_and]
 refine⟨⟨L,B,(j L).mp f,by rw[e L ((j L).mp f),p]⟩,λd _ a=>?_⟩
 have:=lo d ((j d).mpr a);rw[e d a];omega
theorem Ay{H H':Hp}{z:List V}{n:Nat}{rs:List (List Nat)}(h:gh H z n rs)(s:KF.SmT H H'):gh H' z n rs:=⟨h.1,λi I=>by
 obtain⟨t,a,b,r,O,c,p,G⟩:=h.2 i I
 exact⟨t,a,b,r,O,c,s.tup p,G⟩⟩
theorem xN{H H':Hp}(s:KF.SmT H H'){xs:List V}{ts:List (List Nat)}(h:bS H xs ts):bS H' xs ts:=⟨h.1,λi l e=>by
 obtain⟨p,a,b⟩:=h.2 i l e
 exact⟨p,a,s.lst b⟩⟩
theorem Az{H H':Hp}(s:KF.SmT H H'){ys:List V}{es:En}(h:cR H ys es):cR H' ys es:=⟨h.1,λi l e=>by
 obtain⟨p,a,b⟩:=h.2 i l e
 exact⟨p,a,s.tup b⟩⟩
theorem WebF.smT{S:Addr->Prop}{PL PS Y p:Addr}{H H':Hp}{m:Nat}{es:En}{ts rs:List (List Nat)}{ks:Kn}(h:WebF S PL PS Y H p m es ts rs ks)(s:KF.SmT H H'):WebF S PL PS Y H' p m es ts rs ks:=by
 obtain⟨t,fs,O,M,a,⟨g,⟨q,z,b1,I,b2,b3⟩,⟨J,u,c1,c2,c3⟩,⟨L,v,d1,d2,D⟩,pt⟩,n,c,d,e⟩:=h;have N:∀{b C d:Addr}{fs:List (Str×V)},H b=some (.ins C d fs)->H' b=some (.ins C d fs):=λz=>s _ _ (λE y=>by cases y) z
 refine⟨t,fs,O,M,N a,⟨g,⟨q,z,b1,I,s.lst b2,b3.1,λj l y=>?_⟩,⟨J,u,c1,s.lst c2,xN s c3⟩,⟨L,v,d1,s.lst d2,Ay D s⟩,pt⟩,n,c,s.lst d,e.1,λi x k q r=>?_⟩
 ·obtain⟨r,f,Q,G⟩:=b3.2 j l y;exact⟨r,f,Q,s.lst G⟩
 ·obtain⟨A,o,w,B⟩:=e.2 i x k q r;exact⟨A,o,w,N B⟩
noncomputable def iZ(C:Addr)(push:Bool):Sp:=λN H Q _=>∃ p a b s,N = [.ref p]/\TieAt H p C a b s/\Q (.int (if push=true then -s else s)) H
noncomputable def WebOk(TT PL PS q:Addr)(H:Hp)(p:Addr)(m:Nat)(es:En)(ks:Kn):Prop:=∃(g x:List (List Nat))(S:Addr->Prop),WebF S PL PS q H p m es g x ks/\Gr m es g/\ks.length=es.length/\(∀ k∈ks,k.1=0∨k.1=1)/\(∀ k∈ks,0<=k.2/\k.2<=10^(30:Int).toNat)/\es.length<=8/\Tb KF.lqF KF.lpF TT H
noncomputable def Cg(TT PL PS q:Addr):Sp:=λN H Q _=>∃(p:Addr)(t m:Nat)(B:En)(a:Kn),N = [.ref p,.int (t:Int)]/\WebOk TT PL PS q H p m B a/\t<B.length /\
 ∀(r:Addr)(k i:Int)(j:Hp),KF.SmT H j->Tb KF.lqF KF.lpF TT j->j r=some (.tup [.int k,.int i])->Way m B a t false k->Way m B a t true i->Q (.ref r) j
noncomputable def rB(H:Hp)(zs:List V)(m:Nat)(es:En)(ks:Kn)(n:Nat):Prop:=zs.length=n/\∀ t,t<n->∃ r k i,zs[t]?=some (.ref r)/\H r=some (.tup [.int k,.int i])/\Way m es ks t false k/\Way m es ks t true i
theorem rB.smT{H H':Hp}{zs:List V}{m:Nat}{es:En}{ks:Kn}{n:Nat}(h:rB H zs m es ks n)(s:KF.SmT H H'):rB H' zs m es ks n:=⟨h.1,λt Y=>by
 obtain⟨r,k,i,a,b,c⟩:=h.2 t Y
 exact⟨r,k,i,a,s.tup b,c⟩⟩
noncomputable def spBW(TT PL PS Y:Addr):Sp:=λN H Q _=>∃(p:Addr)(m:Nat)(B:En)(a:Kn),N = [.ref p]/\WebOk TT PL PS Y H p m B a /\
 ∀(q:Addr)(o:List V)(j:Hp),KF.SmT H j->Tb KF.lqF KF.lpF TT j->j q=some (.lst o)->rB j o m B a B.length->Q (.ref q) j
section
variable{P:Program}{w:World}{K:ED}{mg:Str->Option Value}{base:Heap}
theorem nL:ax ["self"] ["self"] (aq cC):=by ac_nf
theorem qd{f C d:Addr}{fd e:FuncData}{push:Bool} (F:Fun K "signed" "Tie.signed" cC f fd) (T:CT K C) (c:Met P w K mg base 1 C "wish" ["self"] (iY push) d e):FnOk P w K mg base CX0 2 f fd ["self"] (iZ C push):=by
 refine F.ok nL (λN H Q E h=>?_) (λy A G s H N Q E L h=>?_)
 ·obtain⟨p,a,b,s,rfl,_⟩:=h;rfl
 obtain⟨p,a,b,st,rfl,⟨l,M⟩,k⟩:=h;have g:=T.cl;refine⟨_,(ak (aH (i8 (aG dD (fQ (pv 0) g c.me c.ok (L.mono (by decide)) c.bn .nil aL) ai (aM _)) (bW (pv 0) rfl) (pe_un BZ (bW (pv 0) rfl))))),?_⟩
 refine⟨_,rfl,p,l,_,rfl,M,rH _ _ _ (by decide) (by decide) (by decide),p,rfl,rfl,_,rfl,?_⟩
 cases push with
 |false=>exact iteT ⟨_,rfl,p,C,l,_,_,rfl,M,T.cl,T.n3,xh _ _ _,k⟩
 |true=>exact iteF ⟨_,rfl,p,C,l,_,_,rfl,M,T.cl,T.n3,xh _ _ _,_,rfl,k⟩
theorem bL:ax ["web","number","pair","pull"] ["web","number"] (aq cY):=by ac_nf
theorem Dz{TT f z f2 f3 g0 g1 PL PS q:Addr}{fd d1 d2 d3 e0 e1:FuncData} (F:Fun K "both_ways_of" "both_ways_of" cY f fd) (cw:CW K q) (C:CT K PL) (TS:CT K PS) (an:Cal P w K mg base 12 "roof" ["web","number"] (B8 TT PL PS q) z d1) (al:Cal P w K mg base 1 "paid_alike" ["pull"] (uK (-1)) f2 d2) (ac:Cal P w K mg base 1 "paid_unlike" ["pull"] (uK 1) f3 d3) (u0:Met P w K mg base 2 PL "signed" ["self"] (iZ PL false) g0 e0) (u1:Met P w K mg base 2 PS "signed" ["self"] (iZ PS true) g1 e1):FnOk P w K mg base CX0 13 f fd ["web","number"] (Cg TT PL PS q):=by
 refine F.ok bL (λN H Q E h=>?_) (λy A G s H N Q E L h=>?_)
 ·obtain⟨p,t,m,B,a,rfl,_⟩:=h;rfl
 obtain⟨p,t,m,B,a,rfl,⟨u,x,S,wf,g,kl,a0,kb,aa,tb⟩,Y,D⟩:=h;have a1:=C.cl;have a2:=TS.cl
 refine⟨_,(ag (au (i:=2) bL.nd rfl (Or.inl rfl) (az an.ok (L.mono (by decide)) rfl an.mg an.kp an.bn .nil aL (ae (pv 0) (ae (pv 1) ah))))
   (ag (au (i:=3) bL.nd rfl (Or.inl rfl) (Dh (fQ (aB aD (bW (pv 0) rfl) (pv 1) (λ_ _=>rfl)) a1 u0.me u0.ok (L.mono (by decide)) u0.bn .nil aL) (fQ (aB aD (bW (pv 0) rfl) (pv 1) (λ_ _=>rfl)) a2 u1.me u1.ok (L.mono (by decide)) u1.bn .nil aL)))
   (ak (aH (cO (ae (aw br (aB aK (pv 2) ai (λ_ _=>rfl)) (az al.ok (L.mono (by decide)) rfl al.mg al.kp al.bn .nil aL (ae (pv 3) ah))) (ae (aw br (aB aK (pv 2) ai (λ_ _=>rfl)) (az ac.ok (L.mono (by decide)) rfl ac.mg ac.kp ac.bn .nil aL (ae (pv 3) ah))) ah))))))),?_⟩
 refine⟨_,rfl,_,rfl,p,t,m,B,u,x,a,S,rfl,wf,g,kl,a0,kb,aa,Y,tb,λr c0 c1 O aT a3 am L0 L1=>?_⟩;obtain⟨l,fs,n,j,M,wg,_,l2,ap,tk⟩:=id (wf.smT aT);obtain⟨e,o⟩:∃ e,B[t]?=some e:=⟨_,EA Y⟩;obtain⟨k,d⟩:∃ k,a[t]?=some k:=⟨_,EA (by omega)⟩
 obtain⟨p',aP,v,I⟩:=tk.2 t e k o d;obtain⟨a4,_⟩:=kb k (EC d);have pu:aQ a t=decide (k.1=1):=nV d;have sk:stK a t=k.2:=B6 d;have W0:=Lst.way (b:=false) Y (by rw[GZ];exact L0)
 have W1:=Lst.way (b:=true) Y (by rw[Jq];exact L1)
 rw[GZ,sk]at W0;rw[Jq,sk]at W1;have fin:∀ sg:Int,sg=(if aQ a t=true then -k.2 else k.2)->∀ T,O T=none->Q (.ref T) (upd O T (.tup [.int (c0+(if -1*sg > 0 then -1*sg else 0)),.int (c1+(if 1*sg > 0 then 1*sg else 0))])):=λsg J T ab=>by
  have s6:=aj ab (.tup [.int (c0+(if -1*sg > 0 then -1*sg else 0)),.int (c1+(if 1*sg > 0 then 1*sg else 0))]);refine D T _ _ _ (aT.trans (.of s6)) (KF.tb_same a3 s6) af ?_ ?_
  ·have:(if -1*sg > 0 then -1*sg else 0)=(if aQ a t=true then k.2 else 0):=by
    rw[J];by_cases c:aQ a t=true
    ·rw[if_pos c,if_pos c];split<;>omega
    ·rw[if_neg c,if_neg c];split<;>omega
   rw[this];exact W0
  ·have:(if 1*sg > 0 then 1*sg else 0)=(if(!aQ a t)=true then k.2 else 0):=by
    rw[J];by_cases c:aQ a t=true
    ·rw[if_pos c,if_neg (show ¬ (!aQ a t)=true by rw[c];decide)];split<;>omega
    ·rw[if_neg c,if_pos (show(!aQ a t)=true by rw[Bool.eq_false_iff.mpr c];rfl)];split<;>omega
   rw[this];exact W1
 by_cases c:k.1=1
 ·rw[decide_eq_true c]at pu I;refine .inr ⟨_,rfl,p,q,l,fs,_,rfl,M,cw.cl,cw.n2,l2,_,rfl,n,j,_,_,rfl,rfl,SqL.of ap,aA v,p',aP,_,rfl,I,rH _ _ _ (by decide) (by decide) (by decide),p',_,_,k.2,rfl,⟨aP,I⟩,?_⟩
  refine⟨_,rfl,r,_,0,_,rfl,rfl,SqT.of am,at0,_,rfl,_,rfl,_,_,rfl,rfl,_,rfl,r,_,1,_,rfl,rfl,SqT.of am,at1,_,rfl,_,rfl,_,_,rfl,rfl,(by show 2<=sizeLine;decide),λT ab=>fin _ (by rw[pu]) T ab⟩
 ·rw[decide_eq_false c]at pu I;refine .inl ⟨_,rfl,p,q,l,fs,_,rfl,M,cw.cl,cw.n2,l2,_,rfl,n,j,_,_,rfl,rfl,SqL.of ap,aA v,p',aP,_,rfl,I,rH _ _ _ (by decide) (by decide) (by decide),p',_,_,k.2,rfl,⟨aP,I⟩,?_⟩
  refine⟨_,rfl,r,_,0,_,rfl,rfl,SqT.of am,at0,_,rfl,_,rfl,_,_,rfl,rfl,_,rfl,r,_,1,_,rfl,rfl,SqT.of am,at1,_,rfl,_,rfl,_,_,rfl,rfl,(by show 2<=sizeLine;decide),λT ab=>fin _ (by rw[pu]) T ab⟩
theorem jR:ax ["web"] ["web"] (aq fM):=by ac_nf
theorem ok_bw{TT f k PL PS q:Addr}{fd d1:FuncData} (F:Fun K "both_ways" "both_ways" fM f fd) (T:Txt mg) (cw:CW K q) (c:Cal P w K mg base 13 "both_ways_of" ["web","number"] (Cg TT PL PS q) k d1):FnOk P w K mg base CX0 14 f fd ["web"] (spBW TT PL PS q):=by
 refine F.ok jR (λN H Q E h=>?_) (λy A G s H N Q E L h=>?_)
 ·obtain⟨p,m,B,a,rfl,_⟩:=h;rfl
 obtain⟨p,m,B,a,rfl,⟨b,x,S,wf,g,kl,an,kb,aa,tb⟩,J⟩:=h;obtain⟨l,fs,O,xs,M,wg,_,l2,ab,tk⟩:=id wf;have xl:xs.length=B.length:=tk.1;refine⟨_,(ak (aH (a9 rfl rfl rfl rfl (fr:=[("web",0)]) (xs:=["number"]) (bH.of (by rfl) (by decide) (by rfl) (by decide) (by intro p M;simp only[EE,E5,or_false]at M;rcases M with rfl<;>exact⟨rfl,rfl⟩) (by decide) (by intro p M;simp only[EE,E5,or_false]at M;rcases M with rfl<;>rfl)) (aN rfl T.n_range (ae (ay ar (by rfl) T.n_len aY (ae (bW (pv 0) rfl) ah)) ah)) (λC j s H=>(aC (i:=0) (show(["number","web"]:List Str).Nodup from by decide) rfl (Or.inl rfl))) (λC j s H=>bg) (λC j s H d XE=>(az c.ok (L.mono (by decide)) rfl c.mg c.kp c.bn .nil aL (ae (pv 1) (ae (pv 0) ah))))))),?_⟩
 refine⟨_,rfl,p,q,l,fs,_,rfl,M,cw.cl,cw.n2,l2,O,xs,rfl,.inl (SqL.of ab),_,rfl,by omega,by omega,cn (n:=(xs.length:Int).toNat) (λi o u=>KF.SmT H u/\Tb KF.lqF KF.lpF TT u/\rB u o m B a i) (by rw[EN];exact Fq (av (by omega))) ⟨KF.SmT.of (λ_ _ z=>z),tb,rfl,λt z=>absurd z (FN _)⟩ ?_ ?_⟩
 ·rintro i o u I ⟨am,ap,wa⟩;rw[EN,xl]at I;rw[F1];refine⟨_,rfl,_,rfl,p,i,m,B,a,rfl,⟨b,x,S,wf.smT am,g,kl,an,kb,aa,ap⟩,I,λr v0 v1 e al ac aP w0 w1=>?_⟩;refine⟨am.trans al,ac,by rw[EG,wa.1];rfl,λt Y=>?_⟩
  by_cases z:t=i
  ·subst z;exact⟨r,v0,v1,by rw[← wa.1,EF (EI _),EW];rfl,aP,w0,w1⟩
  ·obtain⟨v,u0,u1,y1,y2⟩:=(wa.smT al).2 t (by omega)
   exact⟨v,u0,u1,by rw[EH (by rw[wa.1];omega)];exact y1,y2⟩
 rintro o u _ ⟨am,ap,wa⟩ D hD;rw[EN,xl]at wa;have sD:=aj hD (.lst o);exact J D o _ (am.trans (.of sD)) (KF.tb_same ap sD) af (wa.smT (.of sD))
theorem vz:ax ["pair"] ["pair"] (aq kQ):=by ac_nf
theorem rO:ax ["web"] ["web"] (aq jz):=by ac_nf
end
theorem uU{X:Cx}{b:List Stmt}:PSs X b (λ_ _ _=>False):=by
 intro B s Y H D I h;exact h.elim
structure TxtR(mg:Str->Option Value)(TR:Addr):Prop extends TxtO mg where
 g_TooRough:mg "TooRough" = some (.ref TR)
noncomputable def rgh(ks:Kn)(n:Nat)(rs:List (List Nat)):Nat:=(KF.bl (MK (oddU (MK (aQ ks) n) rs) rs.length)).length
structure Rgh(PL PS WC:Addr)(H:Hp)(p:Addr):Prop where
 h:∃(es:En)(ks:Kn)(rs:List (List Nat)),WebR PL PS WC H p es ks rs/\ks.length=es.length/\0<es.length/\es.length<=78/\rs.length<=78/\(∀ r∈rs,r.length<=900)/\12<rgh ks es.length rs
noncomputable def spR1(k PL PS q:Addr):Sp:=λN H _ E=>∃ p:Addr,N = [.ref p]/\Rgh PL PS q H p/\∀ j,Same H j->E (.ref k) none j
noncomputable def spR2(k PL PS q:Addr):Sp:=λN H _ E=>∃(p:Addr)(i:Int),N = [.ref p,.int i]/\Rgh PL PS q H p/\∀ j,Same H j->E (.ref k) none j
section
variable{P:Program}{w:World}{K:ED}{mg:Str->Option Value}{base:Heap}
theorem yC{f g t k PL PS q:Addr}{fd d1 d2:FuncData} (F:Fun K "marks_of" "marks_of" g9 f fd) (T:TxtR mg k) (D:ExC K k) (b:Cal P w K mg base 3 "odd_rounds" ["web"] (xB PL PS q) g d1) (c:Cal P w K mg base 2 "ones" ["mask"] KF.spOnes t d2):FnOk P w K mg base (CXd P w) 4 f fd ["web"] (spR1 k PL PS q):=by
 refine F.okD fz (λN H Q E h=>?_) (λy A G s H N Q E L h=>?_)
 ·obtain⟨p,rfl,_⟩:=h;rfl
 obtain⟨p,rfl,⟨B,a,x,v,e,C,n,J,l,r⟩,o⟩:=h
 refine⟨_,(ag (au (i:=1) fz.nd rfl (Or.inl rfl) (az b.ok (L.mono (by decide)) rfl b.mg b.kp b.bn .nil aL (ae (pv 0) ah)))
   (ag (bN (aG AQ (az c.ok (L.mono (by decide)) rfl c.mg c.kp c.bn .nil aL (ae (pv 1) ah)) (ku rfl T.modd) (aM _)) (ak (yb D T.g_TooRough rfl fj rfl rfl (ae pe_str ah))) aR)
   (ak (aH (pv 1))))),?_⟩
 refine⟨_,rfl,p,B,a,x,rfl,v,e,n,J,l,λO m=>?_⟩;have lt:MK (oddU (MK (aQ a) B.length) x) x.length<2^x.length:=GK _ λi I=>by rw[bw,decide_eq_false (by omega),GO]
 unfold rgh at r;generalize MK (oddU (MK (aQ a) B.length) x) x.length=d at lt r ⊢;refine⟨_,rfl,d,rfl,EZ lt (FL (by decide) (by omega)),λu j=>?_⟩
 exact⟨_,_,rfl,rfl,_,rfl,ite2 (λz=>⟨(by decide:1<=sizeLine),o _ (m.trans j)⟩) (λz=>absurd (decide_eq_true (by omega)) z)⟩
theorem Bd{f g k PL PS q:Addr}{fd d1:FuncData} (F:Fun K "roof" "roof" uQ f fd) (a:CalD P w K mg base 4 "marks_of" ["web"] (spR1 k PL PS q) g d1):FnOk P w K mg base (CXd P w) 12 f fd ["web","number"] (spR2 k PL PS q):=by
 refine F.okD fy (λN H Q E h=>?_) (λy A G s H N Q E L h=>?_)
 ·obtain⟨p,i,rfl,_⟩:=h;rfl
 obtain⟨p,i,rfl,r,o⟩:=h
 refine⟨_,(ag (au (i:=2) fy.nd rfl (Or.inl rfl) (d9 a.ok (L.mono (by decide)) rfl a.mg a.kp a.bn .nil fj rfl (ae (pv 0) ah)))
   uU),?_⟩
 exact⟨_,rfl,p,rfl,r,o⟩
theorem Be{f g k PL PS q:Addr}{fd d1:FuncData} (F:Fun K "both_ways_of" "both_ways_of" cY f fd) (a:CalD P w K mg base 12 "roof" ["web","number"] (spR2 k PL PS q) g d1):FnOk P w K mg base (CXd P w) 13 f fd ["web","number"] (spR2 k PL PS q):=by
 refine F.okD bL (λN H Q E h=>?_) (λy A G s H N Q E L h=>?_)
 ·obtain⟨p,i,rfl,_⟩:=h;rfl
 obtain⟨p,i,rfl,r,o⟩:=h
 refine⟨_,(ag (au (i:=2) bL.nd rfl (Or.inl rfl) (d9 a.ok (L.mono (by decide)) rfl a.mg a.kp a.bn .nil fj rfl (ae (pv 0) (ae (pv 1) ah))))
   uU),?_⟩
 exact⟨_,rfl,_,rfl,p,i,rfl,r,o⟩
theorem okR_bw{f g TR PL PS q:Addr}{fd d1:FuncData} (F:Fun K "both_ways" "both_ways" fM f fd) (T:Txt mg) (j:CW K q) (c:CalD P w K mg base 13 "both_ways_of" ["web","number"] (spR2 TR PL PS q) g d1):FnOk P w K mg base (CXd P w) 14 f fd ["web"] (spR1 TR PL PS q):=by
 refine F.okD jR (λN H Q E h=>?_) (λy A G s H N Q E L h=>?_)
 ·obtain⟨p,rfl,_⟩:=h;rfl
 obtain⟨p,rfl,r,kx⟩:=h;refine⟨_,(ak (aH (pZ CJ rfl rfl rfl rfl (fr:=[("web",0)]) (xs:=["number"]) (bH.of (by rfl) (by decide) (by rfl) (by decide) (by intro p M;simp only[EE,E5,or_false]at M;rcases M with rfl<;>exact⟨rfl,rfl⟩) (by decide) (by intro p M;simp only[EE,E5,or_false]at M;rcases M with rfl<;>rfl)) (aN rfl T.n_range (ae (ay ar (by rfl) T.n_len aY (ae (bW (pv 0) rfl) ah)) ah)) (λC b s H=>(aC (i:=0) (show(["number","web"]:List Str).Nodup from by decide) rfl (Or.inl rfl))) (λC b s H=>bg) (λC b s H d O Wi hP m=>(yp c.ok (L.mono (by decide)) rfl c.mg c.kp c.bn .nil m hP (ae (pv 1) (ae (pv 0) ah))))))),?_⟩
 obtain⟨B,a,x,⟨l,fs,n,xs,q5,z5,M,l2,aa,Y,_⟩,kl,t,J,_⟩:=id r;have xl:xs.length=B.length:=Y.1;refine⟨_,rfl,p,q,l,fs,_,rfl,M,j.cl,j.n2,l2,n,xs,rfl,.inl (SqL.of aa),_,rfl,by omega,by omega,gc (λi o u=>u=H/\i=0/\o = []) (by rw[EN];exact Fq (av (by omega))) ⟨rfl,rfl,rfl⟩ ?_ ?_ ?_⟩
 ·rintro i o u I ⟨rfl,rfl,rfl⟩;exact⟨rfl,yesT ⟨_,rfl,_,rfl,p,_,rfl,r,λe k D v hD=>kx _ (k.trans (aj hD _))⟩⟩
 ·rintro o u ⟨rfl,z,_⟩;rw[EN]at z;omega
 ·rintro i o u ⟨_,rfl,rfl⟩;exact EI _
noncomputable def spNo:Sp:=λ_ _ _ _=>False
theorem AX{f:Addr}{fd:FuncData} (F:Fun K "setting" "setting" kQ f fd):FnOk P w K mg base CX0 1 f fd ["pair"] spNo:=by
 refine F.ok vz (λN H Q E h=>h.elim) (λy A G s H N Q E L h=>h.elim)
theorem Bc{f g t k PL PS q:Addr}{fd d1 d2:FuncData} (F:Fun K "set_ties" "set_ties" jz f fd) (a:CalD P w K mg base 14 "both_ways" ["web"] (spR1 k PL PS q) g d1) (c:Cal P w K mg base 1 "setting" ["pair"] spNo t d2):FnOk P w K mg base (CXd P w) 15 f fd ["web"] (spR1 k PL PS q):=by
 refine F.okD rO (λN H Q E h=>?_) (λy A G s H N Q E L h=>?_)
 ·obtain⟨p,rfl,_⟩:=h;rfl
 obtain⟨p,rfl,r,o⟩:=h;refine⟨_,(ak (aH (a9 rfl rfl rfl rfl (fr:=[]) (xs:=["pair"]) (bH.of (by rfl) (by decide) (by rfl) (by decide) (λp M=>nomatch M) (by decide) (λp M=>nomatch M)) (a8 (d9 a.ok (L.mono (by decide)) rfl a.mg a.kp a.bn .nil fj rfl (ae (pv 0) ah))) (λC b s H=>(aC (i:=0) (show(["pair"]:List Str).Nodup from by decide) rfl (Or.inl rfl))) (λC b s H=>bg) (λC b s H d n=>(az c.ok (L.mono (by decide)) rfl c.mg c.kp c.bn .nil aL (ae (pv 0) ah)))))),?_⟩
 exact⟨_,rfl,p,rfl,r,o⟩
theorem uP:ax ["web","marks","many","links","found"] ["web"] (aq rX):=by ac_nf
theorem yD{f g k PL PS q:Addr}{fd d1:FuncData} (F:Fun K "least" "least" rX f fd) (a:CalD P w K mg base 4 "marks_of" ["web"] (spR1 k PL PS q) g d1):FnOk P w K mg base (CXd P w) 5 f fd ["web"] (spR1 k PL PS q):=by
 refine F.okD uP (λN H Q E h=>?_) (λy A G s H N Q E L h=>?_)
 ·obtain⟨p,rfl,_⟩:=h;rfl
 obtain⟨p,rfl,r,o⟩:=h
 refine⟨_,(ag (au (i:=1) uP.nd rfl (Or.inl rfl) (d9 a.ok (L.mono (by decide)) rfl a.mg a.kp a.bn .nil fj rfl (ae (pv 0) ah)))
   uU),?_⟩
 exact⟨_,rfl,p,rfl,r,o⟩
end
theorem BB{P:Program}{w:World}{K:ED}{mg:Str->Option Value}{base:Heap}{x m:Str}{st:Stmt}{f:Addr}{fd:FuncData}{items:Array Value}{N ps:List Str}{k:Nat}{sp:Sp}(F:FunD K x m st f fd items)(S:ax N ps (aq st))(len:∀ vs H Q E,sp vs H Q E->vs.length=ps.length)
  (a:∀(y:Value)(A:Around)(outer:List Env)(s:Shared)(H:Hp)(vs:List V)(Q:VK)(E:XK),Room k (A.deeper (PyProof.Rows.envOfC m (aq st) s.heap.objs.size f y))->sp vs H Q E ->
   ∃ t,PSs (cxOf (CXd P w) P w K mg base N m (aq st) f y A outer s H E) (bp st) t/\t { nx:=λ_ H'=>Q .non H',rt:=Q } (L2.start N vs) H):FnOk P w K mg base (CXd P w) (k+1) f fd ps sp:=by
 obtain⟨oc,G,d,kV,M,u,i,y,j,b,rfl,v,O,_⟩:=F.ex;exact BC v O S len λA outer s H vs Q E L B=>a y A outer s H vs Q E L B
noncomputable def spR64(k PL PS q:Addr):Sp:=λN H _ E=>∃ p:Addr,N = [.ref p,.int 64]/\Rgh PL PS q H p/\∀ j,Same H j->E (.ref k) none j
structure RoF(K:ED)(TR FE TM TW:Addr):Prop where
 er:ErC K TR
 up:Gy K TR (.ref FE)=some true
 kr:FQ K (.ref TR) (.ref TR)=some true
 kv:FQ K (.ref TR) (.type "ValueError")=some true
 km:FQ K (.ref TR) (.ref TM)=some false
 kw:FQ K (.ref TR) (.ref TW)=some false
structure TxtQ(mg:Str->Option Value)(TR FE TM TW:Addr):Prop extends TxtR mg TR where
 n_ValueError:mg "ValueError" = none
 g_FloorError:mg "FloorError" = some (.ref FE)
 g_TooMany:mg "TooMany" = some (.ref TM)
 g_TooWide:mg "TooWide" = some (.ref TW)
theorem pA:bootBuiltins "ValueError" = some (.type "ValueError"):=by decide
noncomputable def xu(PL PS q:Addr):Sp:=λN H Q _=>∃(p:Addr)(i:Int),N = [.ref p,.int i]/\Rgh PL PS q H p/\∀ j,Same H j->Q (.bl true) j
section
variable{P:Program}{w:World}{K:ED}{mg:Str->Option Value}{base:Heap}
theorem jS:ax ["web","most","paper","begun","best","longer","laying","signs"] ["web","most"] (aq cS):=by ac_nf
theorem DA{f g k PL PS q:Addr}{fd d1:FuncData}{items:Array Value} (F:FunD K "all_least" "all_least" cS f fd items) (a:CalD P w K mg base 5 "least" ["web"] (spR1 k PL PS q) g d1):FnOk P w K mg base (CXd P w) 6 f fd ["web","most"] (spR64 k PL PS q):=by
 refine BB F jS (λN H Q E h=>?_) (λy A G s H N Q E L h=>?_)
 ·obtain⟨p,rfl,_⟩:=h;rfl
 obtain⟨p,rfl,r,o⟩:=h
 refine⟨_,(ag (au (i:=2) jS.nd rfl (Or.inl rfl) (aB aK (d9 a.ok (L.mono (by decide)) rfl a.mg a.kp a.bn .nil fj rfl (ae (pv 0) ah)) ai (λ_ _=>rfl)))
   uU),?_⟩
 exact⟨_,rfl,p,rfl,r,o⟩
theorem pR:ax ["web","which"] ["web","which"] (aq iz):=by ac_nf
theorem yE{f g t C k PL PS q:Addr}{fd d1 d2 D:FuncData}{c:Tok} (F:Fun K "_law_asked" "_law_asked" iz f fd) (a:CalD P w K mg base 14 "both_ways" ["web"] (spR1 k PL PS q) g d1) (b:CalD P w K mg base 15 "set_ties" ["web"] (spR1 k PL PS q) t d2) (d:FnOk P w K mg base (CXd P w) 6 C D ["web","most"] (spR64 k PL PS q)) (e:cW K D ["web","most"] [.int 64 c]) (j:mg "all_least" = some (.ref C)) (l:Ft K (.ref C)=true):FnOk P w K mg base (CXd P w) 16 f fd ["web","which"] (spR2 k PL PS q):=by
 refine F.okD pR (λN H Q E h=>?_) (λy A G s H N Q E L h=>?_)
 ·obtain⟨p,i,rfl,_⟩:=h;rfl
 obtain⟨p,i,rfl,r,o⟩:=h
 refine⟨_,(ag (bN (aG dD (pv 1) ai (aM _)) (ak (aH (d9 a.ok (L.mono (by decide)) rfl a.mg a.kp a.bn .nil fj rfl (ae (pv 0) ah)))) aR)
   (ag (bN (aG dD (pv 1) ai (aM _)) (ak (aH (d9 b.ok (L.mono (by decide)) rfl b.mg b.kp b.bn .nil fj rfl (ae (pv 0) ah)))) aR)
   (ak (aH (d9 d (L.mono (by decide)) rfl j l e (dvs:=[.int 64]) (.cons ⟨_,rfl⟩ .nil) fj rfl (ae (pv 0) ah)))))),?_⟩
 refine⟨_,rfl,rfl,_,rfl,ite2 (λz=>⟨_,rfl,p,rfl,r,o⟩) (λz=>?_)⟩;refine⟨_,rfl,rfl,_,rfl,ite2 (λz=>⟨_,rfl,p,rfl,r,o⟩) (λz=>?_)⟩;exact⟨_,rfl,p,rfl,r,o⟩
theorem cf:ax ["web","which","found","e"] ["web","which"] (aq dM):=by ac_nf
theorem AZ{f g k t o u PL PS q:Addr}{fd d1:FuncData} (F:Fun K "_law_too_rough" "_law_too_rough" dM f fd) (T:TxtQ mg k t o u) (z:ExC K t) (d:RoF K k t o u) (a:CalD P w K mg base 16 "_law_asked" ["web","which"] (spR2 k PL PS q) g d1):FnOk P w K mg base CX0 17 f fd ["web","which"] (xu PL PS q):=by
 have j:∀ x,x=k->Gy K x (.ref t)=some true:=λx e=>by subst e;exact d.up
 refine F.ok cf (λN H Q E h=>?_) (λy A G s H N Q E L h=>?_)
 ·obtain⟨p,i,rfl,_⟩:=h;rfl
 obtain⟨p,i,rfl,r,D⟩:=h
 refine⟨_,(ag (au (i:=2) cf.nd rfl (Or.inl rfl) lg)
   (ag (ya (ie:=3) (Cs:=(λc=>c=k)) rfl rfl rfl cf.nd rfl rfl rfl T.g_FloorError z j (λB n W l=>(ak (aW (yo a.ok (L.mono (by decide)) rfl a.mg a.kp a.bn .nil l rfl (ae (pv 0) (ae (pv 1) ah)))))) (λv=>(ak (au (i:=2) cf.nd rfl (Or.inl rfl) (pv 3)))))
   (ag (bN (PW.pt (rZ (i7 (i6 (ay mw (by rfl) T.n_isinstance bu (ae (pv 2) (ae (lh (v:=.ref _) rfl T.g_TooRough rfl) ah))))) (kZ (i7 (i6 (ay wG (by rfl) T.n_isinstance bu (ae (pv 2) (ae (lu (v:=.ty "ValueError") rfl T.n_ValueError pA rfl) ah)))))))) (ak (aH mI)) aR)
   (ak (aH (yq (yj (ay mw (by rfl) T.n_isinstance bu (ae (pv 2) (ae (lh (v:=.ref _) rfl T.g_TooMany rfl) ah)))) (yi (yj (ay mw (by rfl) T.n_isinstance bu (ae (pv 2) (ae (lh (v:=.ref _) rfl T.g_TooWide rfl) ah))))))))))),?_⟩
 refine⟨_,rfl,_,rfl,p,i,rfl,r,λM m=>⟨k,rfl,rfl,λx O=>⟨_,rfl,?_⟩⟩⟩;have b:=aj O (excD x k none);refine⟨_,rfl,x,k,none,k,_,rfl,af,d.er,d.kr,_,rfl,iteF ?_⟩;refine⟨_,rfl,x,k,none,"ValueError",_,rfl,af,d.er,d.kv,_,rfl,iteF ?_⟩;refine⟨_,rfl,x,k,none,o,_,rfl,af,d.er,d.km,_,rfl,_,rfl,iteT ?_⟩;exact⟨_,rfl,x,k,none,u,_,rfl,af,d.er,d.kw,_,rfl,D _ (m.trans b)⟩
end
noncomputable def FanE(es:En):Prop:=∀(k:Nat)(e:Nat×Nat),es[k]?=some e->e=(0,1)∨e=(1,0)
theorem FanE.init{es:En}{e:Nat×Nat}(h:FanE (es++[e])):FanE es/\(e=(0,1)∨e=(1,0)) :=
 ⟨λk x O=>h k x (by rw[EH (EB.mp O).1];exact O),h es.length e (by rw[EF (EI _),EW];rfl)⟩
theorem cK{es:En}(h:FanE es){k:Nat}(g:k<es.length):leave es k 0/2=k/\leave es k 1/2=k/\hd es (leave es k 0)=1/\hd es (leave es k 1)=0/\∀ d,d/2=k->d=leave es k 0∨d=leave es k 1:=by
 have T:=EA g;unfold leave;rw[T];rcases h k _ T with e | e
 ·rw[e]at T ⊢;dsimp only;rw[if_pos rfl,if_neg (by decide)]
  refine⟨by omega,by omega,?_,?_,λd hd=>by omega⟩
  ·unfold hd;rw[show 2*k/2=k by omega,T]
   dsimp only;rw[if_pos (by omega)]
  ·unfold hd;rw[show(2*k+1)/2=k by omega,T]
   dsimp only;rw[if_neg (by omega)]
 ·rw[e]at T ⊢;dsimp only;rw[if_neg (by decide),if_pos rfl]
  refine⟨by omega,by omega,?_,?_,λd hd=>by omega⟩
  ·unfold hd;rw[show(2*k+1)/2=k by omega,T]
   dsimp only;rw[if_neg (by omega)]
  ·unfold hd;rw[show 2*k/2=k by omega,T]
   dsimp only;rw[if_pos (by omega)]
theorem y7{n k:Nat}(h:k<n):(EY n).idxOf k=k:=by
 have a:=lP (F8.mpr h);have b:(EY n).idxOf k<n:=by
  have:=GU.mpr (F8.mpr h);rwa[Fh]at this
 rw[FU b]at a;exact E8 a
theorem xZ{n i:Nat}(h:i<n):(EY n).reverse[i]?=some (n-1-i):=by
 rw[HY (by rw[Fh];exact h),Fh,FU (by omega)]
theorem DX{n k:Nat}(h:k<n):(EY n).reverse.idxOf k=n-1-k:=by
 have m:k∈(EY n).reverse:=II.mpr (F8.mpr h);have a:=lP m;have b:(EY n).reverse.idxOf k<n:=by
  have:=GU.mpr m;rwa[Gi,Fh]at this
 rw[xZ b]at a;have:=E8 a;omega
noncomputable def prv(n k:Nat):Nat:=if k=0 then n-1 else k-1
theorem jV{n k:Nat}(h:k<n):prv n k<n:=by unfold prv;split<;>omega
theorem DE{n k:Nat}(h:k<n):nxt (EY n).reverse k=prv n k:=by
 unfold nxt prv;rw[DX h,Gi,Fh];split
 ·rw[show n-1-k+1=n by omega,Hr,xZ (by omega)]
  show n-1-0=n-1;omega
 ·rw[F4 (by omega),xZ (by omega)]
  show n-1-(n-1-k+1)=k-1;omega
theorem yH{n k:Nat}(h:k<n):nxt (EY n) (prv n k)=k:=by
 unfold nxt;rw[y7 (jV h),Fh];unfold prv;split
 ·rw[show n-1+1=n by omega,Hr,FU (by omega)]
  show 0=k;omega
 ·rw[show k-1+1=k by omega,F4 h,FU h]
  rfl
theorem zh{es:En}(h:FanE es){k:Nat}(g:k<es.length):fol es [EY es.length,(EY es.length).reverse] (leave es k 0)=leave es (prv es.length k) 1/\fol es [EY es.length,(EY es.length).reverse] (leave es (prv es.length k) 1)=leave es k 0:=by
 obtain⟨B,_,f,_,_⟩:=cK h g;obtain⟨_,b2,_,b4,_⟩:=cK h (jV g);constructor
 ·rw[cV (l:=(EY es.length).reverse) (by rw[f];rfl),B,f,DE g]
 ·rw[cV (l:=EY es.length) (by rw[b4];rfl),b2,b4,yH g]
theorem DY:Gr 2 [(1,0)] [[0],[0]]:=by
 refine Ren.gr (es:=[(0,1)]) (ts:=[[0],[0]]) (π:=λp=>if p=0 then 1 else 0) (σ:=λt=>t) ⟨⟨λk g=>?_,λa b E G e=>?_,λy B=>?_⟩,⟨λk g=>g,λa b _ _ e=>e,λy B=>⟨y,B,rfl⟩⟩,rfl,rfl,λk e j=>?_,λp l D=>?_⟩ ze
 ·show(if k=0 then 1 else 0)<2;split<;>omega
 ·have u:(if a=0 then 1 else 0)=(if b=0 then(1:Nat) else 0):=e
  by_cases c:a=0
  ·by_cases d:b=0
   ·omega
   ·rw[if_pos c,if_neg d]at u;cases u
  ·by_cases d:b=0
   ·rw[if_neg c,if_pos d]at u;cases u
   ·omega
 ·by_cases c:y=0
  ·exact⟨1,by omega,by rw[c];rfl⟩
  ·exact⟨0,by omega,by show(if(0:Nat)=0 then 1 else 0)=y;rw[if_pos rfl];omega⟩
 ·match k,j with
  |0,j=>cases j;rfl
  |k+1,j=>cases j
 ·match p,D with
  |0,D=>cases D;exact⟨[0],[],rfl,rfl⟩
  |1,D=>cases D;exact⟨[0],[],rfl,rfl⟩
  |p+2,D=>cases D
theorem Cw(n:Nat):Bij (λx=>x) n:=⟨λk g=>g,λa b _ _ e=>e,λy B=>⟨y,B,rfl⟩⟩
theorem Gr.rot2{es:En}{X Y X' Y':List Nat}(g:Gr 2 es [X++Y,X'++Y']):Gr 2 es [Y++X,Y'++X']:=by
 refine Ren.gr (π:=λp=>p) (σ:=λt=>t) ⟨Cw _,Cw _,rfl,rfl,λk e j=>j,λp l D=>?_⟩ g;match p,D with
 |0,D=>cases D;exact⟨X,Y,rfl,by rw[List.map_id'];rfl⟩
 |1,D=>cases D;exact⟨X',Y',rfl,by rw[List.map_id'];rfl⟩
 |p+2,D=>cases D
theorem zg:∀{n:Nat}{es:En},es.length=n+1->FanE es->Gr 2 es [EY (n+1),(EY (n+1)).reverse]
 |0,es,D,h=>by
  match es,D,h with
  |[e],_,h =>
   rcases h 0 e rfl with z | z
   ·rw[z];exact ze
   ·rw[z];exact DY
 |n+1,es,D,h=>by
  have ne:es≠[]:=λz=>by rw[z]at D;cases D
  obtain⟨a,e,rfl⟩:∃ a e,es=a++[e]:=⟨es.dropLast,es.getLast ne,(List.dropLast_concat_getLast ne).symm⟩;have E:a.length=n+1:=by rw[EG,ES]at D;omega
  obtain⟨u,j⟩:=h.init;have g:=zg E u;obtain⟨c1,c2⟩:=zh u (k:=0) (by omega)
  obtain⟨B,s,f,p,_⟩:=cK u (k:=0) (by omega)
  obtain⟨b1,b2,b3,b4,_⟩:=cK u (k:=prv a.length 0) (jV (by omega))
  have pv:prv a.length 0=n:=by show a.length-1=n;omega
  have c:leave a (prv a.length 0) 1≠leave a 0 0:=λz=>by rw[z,f]at b4;cases b4
  have C:chain (fol a [EY (n+1),(EY (n+1)).reverse]) (leave a (prv a.length 0) 1) [leave a 0 0] (leave a (prv a.length 0) 1):=by rw[← E];exact⟨c2,c1⟩
  have q:=g.join (left:=leave a (prv a.length 0) 1) (right:=leave a 0 0) (tail:=[leave a 0 0]) (one:=0) (two:=1) (e:=e) (l:=EY (n+1)) (l':=(EY (n+1)).reverse) (by omega) ⟨⟨_,_,rfl,C⟩,λd hd=>by
   rcases EE.mp hd with z | z
   ·omega
   ·have:=Fi.mp z;omega,by simp[c]⟩ C (by simp) b4 f (by decide) j rfl rfl
  rw[b2,B,pv,E]at q;have w:ins (EY (n+1)) ((EY (n+1)).idxOf n+1) (n+1)=EY (n+1+1):=by
   rw[G8,lM (by simp),G8,G8,Gk]
   rfl
  have b:ins (EY (n+1)).reverse ((EY (n+1)).reverse.idxOf 0+1) (n+1)=(EY (n+1)).reverse++[n+1]:=by
   have A:(EY (n+1)).reverse=((EY n).map Nat.succ).reverse++[0]:=by rw[List.range_succ_eq_map,IC]
   rw[A,lM (by simp),Gk]
   rfl
  rw[w,b]at q;have M:=Gr.rot2 (X:=[]) (Y:=EY (n+1+1)) (X':=(EY (n+1)).reverse) (Y':=[n+1]) q;rw[GV]at M;have o:(EY (n+1+1)).reverse = [n+1]++(EY (n+1)).reverse:=by rw[G8,List.reverse_append];rfl
  rw[o];exact M
theorem x8{R:Nat->Nat->Prop}(inj:∀ a Y b,R a b->R Y b->a=Y):∀{A B:List Nat},A.Nodup->(∀ a∈A,∃ b∈B,R a b)->A.length<=B.length
 |[],B,_,_=>FT _
 |a::A,B,o,h=>by
  obtain⟨C,v⟩:=EL.mp o;obtain⟨b,G,r⟩:=h a (EM ..);have:=x8 inj (A:=A) (B:=B.erase b) v λY d=>by
   obtain⟨N,c,O⟩:=h Y (EK _ d);refine⟨N,(List.mem_erase_of_ne λz=>?_).mpr c,O⟩;subst z;exact C (inj _ _ _ r O▸d)
  rw[HL G]at this;have:=FY G;rw[E7];omega
noncomputable def oddK(ks:Kn)(n k:Nat):Bool:=aQ ks k ^^ aQ ks (prv n k)
theorem Eb{es:En}{rs:List (List Nat)}{ks:Kn}(h:FanE es)(l:b9 (fol es [EY es.length,(EY es.length).reverse]) (2*es.length) (2*es.length) rs)(G:∀ k,k<es.length->oddK ks es.length k=true):es.length<=rgh ks es.length rs:=by
 have ne:∀{k j},k<es.length->j<es.length->leave es k 0≠leave es j 1:=λ{k j} g E z=>by
  have a:=(cK h g).2.2.1;rw[z,(cK h E).2.2.2.1]at a
  cases a
 have two:∀{k i:Nat}{r:List Nat},k<es.length->rs[i]?=some r->leave es k 0∈r->(∀ d,d∈r↔d∈[leave es k 0,leave es (prv es.length k) 1])/\oddU (MK (aQ ks) es.length) rs i=oddK ks es.length k:=λ{k i r} g I L=>by
  have cr:=(l.ring r (EC I)).cr;obtain⟨x,t⟩:=zh h g
  have sub:=cr.sub (S:=λd=>d∈[leave es k 0,leave es (prv es.length k) 1]) (λd _ hd=>by
   rcases EE.mp hd with z | z
   ·rw[z,x];simp
   ·rw[Fi.mp z,t];simp) L (by simp)
  have c:∀ d,d∈r↔d∈[leave es k 0,leave es (prv es.length k) 1]:=λd=>⟨sub d,λhd=>by
   rcases EE.mp hd with z | z
   ·rw[z];exact L
   ·rw[Fi.mp z,← x];exact cr.closed _ L⟩
  refine⟨c,?_⟩;have u:r.Perm [leave es k 0,leave es (prv es.length k) 1]:=(FR cr.nd (by simp[ne g (jV g)])).mpr c
  unfold oddU;rw[vf I,← lx,ky _ u,aI,aI,(cK h g).1,(cK h (jV g)).2.1,bw,bw,decide_eq_true g,decide_eq_true (jV g)];show(aQ ks k ^^ (aQ ks (prv es.length k) ^^ false))=_;rw[Hf];rfl
 have q:=x8 (R:=λk i=>k<es.length/\∃ r,rs[i]?=some r/\leave es k 0∈r) (A:=EY es.length) (B:=KF.bl (MK (oddU (MK (aQ ks) es.length) rs) rs.length)) (λk m i ⟨J,r,a,b⟩ ⟨C,O,Y,N⟩=>?_) List.nodup_range λk g=>?_
 ·rwa[Fh]at q
 ·rw[a]at Y
  cases Y
  have:=((two J a b).1 _).mp N;rcases EE.mp this with z | z
  ·rw[← (cK h J).1,← (cK h C).1,z]
  ·exact absurd (Fi.mp z) (ne C (jV J))
 ·have f:=F8.mp g
  obtain⟨i,r,a,b⟩:=l.at (d:=leave es k 0) (by have:=(cK h f).1;omega)
  refine⟨i,?_,f,r,a,b⟩;rw[KF.mem_bl,bw,IK,decide_eq_true_iff];exact⟨(EB.mp a).1,by rw[(two f a b).2];exact G k f⟩
theorem gg.push{PL PS:Addr}{H:Hp}{us:List V}{es:En}{ks:Kn}{x l:Addr}{e:Nat×Nat}{k:Int×Int}(t:gg PL PS H us es ks)(d:ks.length=es.length)(O:H x=some (.ins (cls PL PS (decide (k.1=1))) l (tf (e.1:Int) (e.2:Int) k.2))):gg PL PS H (us++[.ref x]) (es++[e]) (ks++[k]):=by
 have f:=t.1;refine⟨by rw[EG,EG,f];rfl,λi u m j g=>?_⟩
 by_cases c:i<es.length
 ·rw[EH c]at j;rw[EH (by omega)]at g
  obtain⟨p,o,a,b⟩:=t.2 i u m j g;exact⟨p,o,by rw[EH (by omega)];exact a,b⟩
 ·have h:=(EB.mp j).1
  rw[EG,ES]at h;have z:i=es.length:=by omega
  subst z;rw[EF (EI _),EW]at j;rw[← d,EF (EI _),EW]at g
  cases j;cases g
  exact⟨x,l,by rw[← f,EF (EI _),EW];rfl,O⟩
theorem gg.put{PL PS:Addr}{H:Hp}{us zs:List V}{es:En}{ks:Kn}{q:Addr}{o:HO}(t:gg PL PS H us es ks)(h:H q=some (.lst zs)):gg PL PS (upd H q o) us es ks:=⟨t.1,λi e k j g=>by
 obtain⟨p,l,a,b⟩:=t.2 i e k j g
 exact⟨p,l,a,by rw[ao (λz=>by rw[z,h]at b;cases b)];exact b⟩⟩
noncomputable def fnE(c:Int)(i:Nat):Nat×Nat:=if(i:Int)%2=c%2 then(0,1) else(1,0)
noncomputable def fnK(c:Int)(i:Nat):Int×Int:=if(i:Int)%2=c%2 then(1,(c+(i:Int))%5) else(0,(c+3*(i:Int))%4)
noncomputable def fE(c:Int)(n:Nat):En:=(EY n).map (fnE c)
noncomputable def fK(c:Int)(n:Nat):Kn:=(EY n).map (fnK c)
theorem vg{c:Int}{n:Nat}:(fE c n).length=n:=by unfold fE;rw[EJ,Fh]
theorem Cq{c:Int}{n:Nat}:(fK c n).length=n:=by unfold fK;rw[EJ,Fh]
theorem fE_fan(c:Int)(n:Nat):FanE (fE c n):=λk e o=>by
 unfold fE at o;rw[EO]at o;obtain⟨j,_,rfl⟩:=Fm.mp o;unfold fnE;split
 ·exact .inl rfl
 ·exact .inr rfl
theorem zt{c:Int}{n k:Nat}(g:k<n):aQ (fK c n) k=decide ((k:Int)%2=c%2):=by
 rw[nV (k:=fnK c k) (by unfold fK;rw[EO,FU g];rfl)]
 unfold fnK;by_cases z:(k:Int)%2=c%2
 ·rw[if_pos z,decide_eq_true z];rfl
 ·rw[if_neg z,decide_eq_false z];rfl
theorem fK_odd{c:Int}{n k:Nat}(i:n%2=0)(g:k<n):oddK (fK c n) n k=true:=by
 have p:prv n k%2≠k%2:=by unfold prv;split<;>omega
 unfold oddK;rw[zt g,zt (jV g)];by_cases z:(k:Int)%2=c%2
 ·rw[decide_eq_true z,decide_eq_false (by omega)];rfl
 ·rw[decide_eq_false z,decide_eq_true (by omega)];rfl
structure TxtV(mg:Str->Option Value):Prop extends Txt mg where
 n_reversed:mg "reversed" = none
theorem up2{H:Hp}{x l:Addr}{o1 o2:HO}(nx:H x=none)(a:H l=none):Same H (upd (upd H l o1) x o2):=λb o z=>by rw[ao (aE z nx),ao (aE z a)];exact z
noncomputable def spFan(PL PS q:Addr):Sp:=λN H Q _=>∃(n:Nat)(c:Int),N = [.int (n:Int),.int c]/\14<=n/\n<=78/\n%2=0/\∀(p:Addr)(j:Hp),Same H j->Rgh PL PS q j p->Q (.ref p) j
section
variable{P:Program}{w:World}{K:ED}{mg:Str->Option Value}{base:Heap}
theorem jw:ax ["many","cell","ties","k"] ["many","cell"] (aq kX):=by ac_nf
theorem ok_fan{f fI PL PS WC fW:Addr}{fd aT a2:FuncData} (F:Fun K "_law_fan" "_law_fan" kX f fd) (T:TxtV mg) (ab:Mak P w K mg base 1 "Pull" ["self","one","two","strength"] (jQ K) PL fI aT) (ac:Mak P w K mg base 1 "Push" ["self","one","two","strength"] (jQ K) PS fI aT) (TL:CT K PL) (TS:CT K PS)
  (al:Mak P w K mg base 5 "Web" ["self","many","ties","turns"] (kL K) WC fW a2) (cw:CW K WC):FnOk P w K mg base CX0 7 f fd ["many","cell"] (spFan PL PS WC):=by
 refine F.ok jw (λN H Q E h=>?_) (λM A G s H N Q E L h=>?_)
 ·obtain⟨n,c,rfl,_⟩:=h;rfl
 obtain⟨n,c,rfl,a3,a4,ev,kk⟩:=h
 refine⟨_,(ag (au (i:=2) jw.nd rfl (Or.inl rfl) (bO ah))
   (ag (bK PassesOwn.never rfl (aN rfl T.n_range (ae (pv 0) ah)) (aC (i:=3) jw.nd rfl (Or.inl rfl)) (ak (bN (aG dD (aw bh (pv 3) ai) (aw bh (pv 1) ai) (aM _)) (ak (aW (dQ EX Ff Fe aZ (pv 2) (ae (jH ac.mkc ac.ok (L.mono (by decide)) rfl ac.mg ac.bn .nil aL (ae ai (ae ai (ae (aw bh (aw br (pv 1) (pv 3)) ai) ah)))) ah)))) (ak (aW (dQ EX Ff Fe aZ (pv 2) (ae (jH ab.mkc ab.ok (L.mono (by decide)) rfl ab.mg ab.bn .nil aL (ae ai (ae ai (ae (aw bh (aw br (pv 1) (aw du ai (pv 3))) ai) ah)))) ah)))))))
   (ak (aH (jH al.mkc al.ok (L.mono (by decide)) rfl al.mg al.bn .nil aL (ae ai (ae (pv 2) (ae (bO (ae (pY rfl rfl T.n_list rfl T.n_range (pv 0)) (ae (yk rfl rfl T.n_list rfl T.n_reversed rfl T.n_range (pv 0)) ah))) ah)))))))),?_⟩
 refine⟨(by show 0<=sizeLine;decide),λq v=>?_⟩
 have m:=aj v (.lst []);refine⟨_,rfl,_,rfl,by omega,by omega,bZ (n:=(n:Int).toNat) (λi Y u=>∃ v3 us,Y = [some (.int (n:Int)),some (.int c),some (.ref q),v3]/\Same H u/\u q=some (.lst us)/\gg PL PS u us (fE c i) (fK c i)) ⟨_,[],rfl,m,af,⟨rfl,λi e k z=>by cases z⟩⟩ ?_ ?_⟩
 ·rintro i Y u I ⟨v3,us,rfl,j,aa,tt⟩;rw[EN]at I;rw[F1];have ul:us.length=i:=by rw[tt.1,vg]
  have fin:∀(x t:Addr)(H':Hp),Same u H'->H' x=some (.ins (cls PL PS (decide ((fnK c i).1=1))) t (tf ((fnE c i).1:Int) ((fnE c i).2:Int) (fnK c i).2))->∃ v3 p,([some (.int (n:Int)),some (.int c),some (.ref q),some (.int (i:Int))]:St) = [some (.int (n:Int)),some (.int c),some (.ref q),v3]/\Same H (upd H' q (.lst (us++[.ref x])))/\(upd H' q (.lst (us++[.ref x]))) q=some (.lst p)/\gg PL PS (upd H' q (.lst (us++[.ref x]))) p (fE c (i+1)) (fK c (i+1)):=λx t H' s4 J=>by
   refine⟨_,_,rfl,aV (j.trans s4) v _,af,?_⟩;unfold fE fK at tt ⊢;rw[G8,Fv,Fv];exact(gg.push (tt.mono s4) (by rw[EJ,EJ]) J).put (s4 _ _ aa)
  refine⟨_,rfl,_,_,rfl,rfl,(by decide:(0:Int)<2),_,rfl,_,_,rfl,rfl,(by decide:(0:Int)<2),rfl,_,rfl,ite2 (λz=>?_) (λz=>?_)⟩
  ·have c':(i:Int)%2=c%2:=V.int.inj (of_decide_eq_true z)
   refine⟨_,rfl,.inl ⟨rfl,_,SqL.of aa⟩,_,rfl,_,rfl,_,_,rfl,rfl,_,_,rfl,rfl,(by decide:(0:Int)<5),?_⟩
   intro x t nx an a0;refine⟨x,PS,t,_,_,_,rfl,af,TS,by omega,by omega,by omega,by omega,λH' J C=>?_⟩
   have s4:Same u H':=λb o z=>C b o (by rw[ao (aE z nx),ao (aE z an)];exact z) (aE z nx)
   refine⟨rfl,q,us,_,rfl,rfl,s4 _ _ aa,av (by omega),fin x t H' s4 ?_⟩
   unfold fnK fnE;rw[if_pos c',if_pos c'];exact J
  ·have c':¬ (i:Int)%2=c%2:=λy=>z (decide_eq_true (congrArg V.int y))
   refine⟨_,rfl,.inl ⟨rfl,_,SqL.of aa⟩,_,rfl,_,rfl,_,_,rfl,rfl,.inl ⟨by decide,by omega⟩,_,_,rfl,rfl,_,_,rfl,rfl,(by decide:(0:Int)<4),?_⟩
   intro x t nx an a0;refine⟨x,PL,t,_,_,_,rfl,af,TL,by omega,by omega,by omega,by omega,λH' J C=>?_⟩
   have s4:Same u H':=λb o z=>C b o (by rw[ao (aE z nx),ao (aE z an)];exact z) (aE z nx)
   refine⟨rfl,q,us,_,rfl,rfl,s4 _ _ aa,av (by omega),fin x t H' s4 ?_⟩
   unfold fnK fnE;rw[if_neg c',if_neg c'];exact J
 rintro Y u ⟨v3,us,rfl,j,aa,tt⟩;rw[EN]at tt;refine⟨_,rfl,_,rfl,n,rfl,by omega,λb3 ap=>⟨_,rfl,n,rfl,by omega,λb4 aP=>⟨(by show 2<=sizeLine;decide),λD hD x t nx an a0=>?_⟩⟩⟩
 have s3:=aj ap (.lst ((EY n).map iV));have s4:=aj aP (.lst ((EY n).reverse.map iV));have sD:=aj hD (.lst [.ref b3,.ref b4]);have up:=up2 (o1:=.own x) (o2:=.ins WC t []) nx an;have s9:=((s3.trans s4).trans sD).trans up;have g3:=(s4.trans (sD.trans up)) b3 _ af;have g4:=(sD.trans up) b4 _ af;have el:(fE c n).length=n:=vg;have fe:=fE_fan c n;have g:Gr 2 (fE c n) [EY n,(EY n).reverse]:=by
  obtain⟨k,d⟩:∃ k,n=k+1:=⟨n-1,by omega⟩
  rw[d]at el fe ⊢;exact zg el fe
 refine⟨x,WC,t,q,D,2,us,[.ref b3,.ref b4],fE c n,_,rfl,af,cw,s9 _ _ aa,(tt.at (by rw[Cq,vg]) TL TS).mono s9,up _ _ af,⟨rfl,λi l B=>?_⟩,g,by omega,by omega,by decide,λl B=>?_,λfs O rs H' J hg a C h3 h4=>⟨rfl,?_⟩⟩
 ·match i,B with
  |0,B=>cases B;exact⟨b3,rfl,g3⟩
  |1,B=>cases B;exact⟨b4,rfl,g4⟩
  |i+2,B=>cases B
 ·have lt:=List.pairwise_lt_range (n:=n)
  rcases EE.mp B with z | z
  ·rw[z];exact .inr ⟨by rw[Fh];omega,.inl lt⟩
  ·rw[Fi.mp z];exact .inr ⟨by rw[Gi,Fh];omega,.inr (List.pairwise_reverse.mpr lt)⟩
 have a1:Same u H':=λb o z=>h4 b o (s9 _ _ z) (aE (((s3.trans s4).trans sD) _ _ z) nx);have ro:=hg.part;refine kk x H' (j.trans a1) ⟨fE c n,fK c n,rs,?_⟩;obtain⟨q5,z5,l5,am,r5⟩:=hg.rounds;have cnt:=kY g ro;have rg:=Eb (ks:=fK c n) fe (by rw[el];rw[el]at ro;exact ro) (λk d=>by rw[el]at d ⊢;exact fK_odd ev d)
 exact⟨⟨t,fs,O,us,q5,z5,J,C,h3,tt.mono a1,l5,am,r5⟩,by rw[Cq,vg],by omega,by omega,by omega,λr L=>by
  have:=dv (ro.ring r L).nd (ro.ring r L).lt
  omega,by omega⟩
end
noncomputable def Cs(es:En)(ks:Kn)(n:Nat)(b:Bool)(i:Nat)(cs:List Int):Prop:=(∀ h,h<i->sgN es n h=b->wT es ks h∈cs)/\(∀ c∈cs,∃ h,h<i/\sgN es n h=b/\wT es ks h=c)/\cs.length<=i
theorem Cs.skip{es:En}{ks:Kn}{n:Nat}{b:Bool}{i:Nat}{cs:List Int}(h:Cs es ks n b i cs)(J:sgN es n i≠b):Cs es ks n b (i+1) cs :=
 ⟨λj E e=>h.1 j (by
  by_cases c:j=i
  ·subst c;exact absurd e J
  ·omega) e,λc l=>by
  obtain⟨j,a,r⟩:=h.2.1 c l
  exact⟨j,by omega,r⟩,Nat.le_succ_of_le h.2.2⟩
theorem Cs.put{es:En}{ks:Kn}{n:Nat}{b:Bool}{i:Nat}{cs:List Int}(h:Cs es ks n b i cs)(J:sgN es n i=b):Cs es ks n b (i+1) (cs++[wT es ks i]) :=
 ⟨λj E e=>by
  by_cases c:j=i
  ·subst c;simp
  ·exact Fw _ (h.1 j (by omega) e),λc l=>by
  rcases ER.mp l with z | z
  ·obtain⟨j,a,r⟩:=h.2.1 c z;exact⟨j,by omega,r⟩
  ·rw[Fi.mp z];exact⟨i,by omega,J,rfl⟩,by rw[EG,ES];exact Nat.succ_le_succ h.2.2⟩
theorem Cs.way{m:Nat}{es:En}{ks:Kn}{n:Nat}{b:Bool}{cs:List Int}{v:Int}(h:Cs es ks n b (2^m) cs)(J:v∈cs)(h2:∀ x∈cs,v<=x):Way m es ks n b v:=⟨h.2.1 v J,λL a e=>h2 _ (h.1 L a e)⟩
theorem Ab{m:Nat}{es:En}{n:Nat}{e:Nat×Nat}(j:es[n]?=some e)(J:e.1<m)(h2:e.1≠e.2)(b:Bool):∃ L,L<2^m/\sgN es n L=b:=by
 cases b with
 |false=>exact⟨0,F9 m,by rw[uO j,FC,FC];rfl⟩
 |true=>exact⟨2^e.1,FW (by decide) J,by rw[uO j,Fg,Fg,decide_eq_true rfl,decide_eq_false h2];rfl⟩
theorem Rgh.mono{PL PS q p:Addr}{H H':Hp}(h:Rgh PL PS q H p)(s:Same H H'):Rgh PL PS q H' p:=by
 obtain⟨B,a,x,v,r⟩:=h;exact⟨B,a,x,v.mono s,r⟩
noncomputable def Cc:Sp:=λN H Q _=>∃(r:Addr)(a b:Int),N = [.ref r,.int a,.int b]/\H r=some (.tup [.int a,.int b])/\Q (.bl true) H
theorem BR(ns:List Int)(a b:Nat):∃ cs:List Int,cutV (ns.map V.int) (some (a:Int)) (some (b:Int))=cs.map V.int/\cs.length<=b-a:=by
 refine⟨(ns.drop (min a ns.length)).take (min b ns.length-min a ns.length),?_,?_⟩
 ·unfold cutV;rw[HT.sIx_nat,HT.sIx_nat,EJ,Hx,Hy]
 ·rw[Fy];refine Nat.le_trans (Nat.min_le_left _ _) ?_
  rcases Nat.le_total a ns.length with h | h
  ·rw[Nat.min_eq_left h];exact Nat.sub_le_sub_right (Nat.min_le_left _ _) _
  ·rw[Nat.min_eq_right h,Nat.sub_eq_zero_of_le (Nat.min_le_right _ _)];exact Nat.zero_le _
noncomputable def uL(K:ED)(TT:Addr):Sp:=λN H Q _=>∃(a:Addr)(t:List Int),N = [.ref a]/\SqL K H a (t.map V.int)/\t.length<=63/\Tb KF.lqF KF.lpF TT H/\∀ j,Q (.bl true) j
noncomputable def tailL(K:ED)(TT:Addr):TS:=λD Y H=>∃(a:Addr)(t:List Int)(c:Int)(v g:Option V),Y = [some (.ref a),some (.int c),v,g,none,none,none,none,none,none,none,none,none]/\SqL K H a (t.map V.int)/\t.length<=63/\Tb KF.lqF KF.lpF TT H/\∀ j,D.rt (.bl true) j
section
variable{P:Program}{w:World}{K:ED}{mg:Str->Option Value}{base:Heap}
theorem zS{H:Hp}{d:Addr}{m n k:Nat}{es:En}{ks:Kn}{e:Nat×Nat}{b:Bool}{f:Int}{QQ:List V->Hp->Prop}(T:SqL K H d ((ma es ks m).map V.int))(o:es[n]?=some e)(a:m<=10)(g:k=2^m)(G:f=if b=true then 1 else 0)(D:∀ cs:List Int,Cs es ks n b (2^m) cs->QQ (cs.map V.int) H) :
  eO (vN 0) (tTest (tOp rEq (tOp (rI0 λi j=>V.int (Builtin.bitAnd i j)) (tOp (rI0 λi j=>V.int (Builtin.bitXor i j)) (tOp (rI (λ_ j=>0<=j) λi j=>V.int (i/2^j.toNat)) (tVar 0) (tVar 2)) (tOp (rI (λ_ j=>0<=j) λi j=>V.int (i/2^j.toNat)) (tVar 0) (tVar 1))) (tC (V.int 1))) (tC (V.int f)))) (tOp (rIxL K) (tVar 3) (tVar 0)) 1 [some (iV e.2),some (iV e.1),some (.ref d)] (Itr 0 k) H QQ:=by
 obtain⟨O,M,t,s⟩:=yd a;refine gc (λi p u=>u=H/\∃ cs:List Int,p=cs.map V.int/\Cs es ks n b i cs) (FF (by rw[g];exact t) (by decide)) ⟨rfl,[],rfl,λh z=>absurd z (FN _),λc z=>absurd z E5,EI _⟩ ?_ ?_ ?_
 ·rintro i p u I ⟨rfl,cs,rfl,h⟩;rw[g]at I;rw[F1];refine⟨rfl,⟨_,rfl,_,rfl,_,_,rfl,rfl,(show(0:Int)<=(e.1:Int) by omega),_,rfl,_,rfl,_,_,rfl,rfl,(show(0:Int)<=(e.2:Int) by omega),_,_,rfl,rfl,_,_,rfl,rfl,rfl,?_⟩⟩
  have B:decide (V.int (Builtin.bitAnd (Builtin.bitXor ((i:Int)/2^(e.1:Int).toNat) ((i:Int)/2^(e.2:Int).toNat)) 1)=V.int f)=decide (sgN es n i=b):=by
   rw[xorI,uO o,G]
   cases (i.testBit e.1 ^^ i.testBit e.2)<;>cases b<;>rfl
  refine⟨_,rfl,?_⟩;show if decide (V.int (Builtin.bitAnd (Builtin.bitXor ((i:Int)/2^(e.1:Int).toNat) ((i:Int)/2^(e.2:Int).toNat)) 1)=V.int f)=true then _ else _;rw[B];refine ite2 (λz=>?_) (λz=>?_)
  ·exact⟨_,rfl,_,rfl,d,_,_,_,rfl,rfl,T,aA (by rw[EO,zT I];rfl),rfl,cs++[wT es ks i],by rw[Fv];rfl,h.put (of_decide_eq_true z)⟩
  ·exact⟨rfl,cs,rfl,h.skip λy=>z (decide_eq_true y)⟩
 ·rintro p u ⟨rfl,cs,rfl,h⟩;rw[g]at h;exact D cs h
 ·rintro i p u ⟨_,cs,rfl,h⟩;rw[EJ];exact h.2.2
theorem rQ:ax ["found","alike","unlike"] ["found","alike","unlike"] (aq jC):=by ac_nf
theorem Dr{f fn:Addr}{fd k:FuncData} (F:Fun K "_law_pair" "_law_pair" jC f fd) (T:Txt mg) (c:Cal P w K mg base 1 "_law_number" ["found"] spNum fn k):FnOk P w K mg base CX0 2 f fd ["found","alike","unlike"] Cc:=by
 refine F.ok rQ (λN H Q E h=>?_) (λy A G s H N Q E L h=>?_)
 ·obtain⟨r,a,b,rfl,_⟩:=h;rfl
 obtain⟨r,a,b,rfl,d,D⟩:=h
 refine⟨_,(ag (bN (PW.pt (rZ (i7 (i6 (ay kH (by rfl) T.n_isinstance bu (ae (pv 0) (ae (lu (v:=.ty "tuple") rfl T.n_tuple BW rfl) ah))))) (kZ (aG lB (ay ar (by rfl) T.n_len aY (ae (pv 0) ah)) ai (aM _))))) (ak (aH mI)) aR)
   (ag (bN (PW.pt (rZ (i7 (i6 (az c.ok (L.mono (by decide)) rfl c.mg c.kp c.bn .nil aL (ae (aB aK (pv 0) ai (λ_ _=>rfl)) ah)))) (kZ (i7 (i6 (az c.ok (L.mono (by decide)) rfl c.mg c.kp c.bn .nil aL (ae (aB aK (pv 0) ai (λ_ _=>rfl)) ah))))))) (ak (aH mI)) aR)
   (ak (aH (yq (sA dD (aB aK (pv 0) ai (λ_ _=>rfl)) (pv 1) (aM _)) (yi (sA dD (aB aK (pv 0) ai (λ_ _=>rfl)) (pv 2) (aM _)))))))),?_⟩
 refine⟨_,rfl,_,_,_,_,_,rfl,TyOf.tup d,Or.inl ⟨_,rfl,rfl⟩,kit_tt K,_,rfl,iteF ?_⟩;refine⟨_,rfl,r,_,rfl,.inr (SqT.of d),rfl,_,rfl,tj rfl ?_⟩;refine⟨_,rfl,r,_,0,_,rfl,rfl,SqT.of d,at0,a,rfl,_,rfl,iteF ?_⟩;refine⟨_,rfl,r,_,1,_,rfl,rfl,SqT.of d,at1,b,rfl,_,rfl,iteF ?_⟩;refine⟨_,rfl,r,_,0,_,rfl,rfl,SqT.of d,at0,_,rfl,rfl,_,rfl,ite2 (λ_=>?_) (λz=>absurd (decide_eq_true rfl) z)⟩;refine⟨_,rfl,r,_,1,_,rfl,rfl,SqT.of d,at1,_,rfl,rfl,?_⟩;rw[decide_eq_true rfl];exact D
theorem eP:ax ["script","cell","fan","which","grown","kinds","costs","found","k","one","two","alike","unlike"] ["script"] (aq nQ):=by ac_nf
theorem ok_law{TT f fG fR fC fK fW fS fP fF fT fO PL PS WC:Addr}{fd dG dR dC dK dW dS dP dF dT dO:FuncData} (F:Fun K "law" "law" nQ f fd) (T:Txt mg) (ap:Cal P w K mg base 3 "_law_grown" ["cells","places"] (uM K) fG dG) (al:Cal P w K mg base 2 "_law_renumbered" ["grown","cell"] B9 fR dR) (ac:Cal P w K mg base 1 "_law_cell" ["script","k"] (xJ K) fC dC) (aP:Cal P w K mg base 2 "_law_kinds" ["script","many","limits"] (xH K) fK dK) (aT:Cal P w K mg base 2 "_law_costs" ["grown","kinds"] xI fO dO) (a3:Cal P w K mg base 7 "_law_web" ["grown","kinds"] (xF PL PS WC) fW dW) (ab:Cal P w K mg base 14 "both_ways" ["web"] (spBW TT PL PS WC) fS dS) (a0:Cal P w K mg base 2 "_law_pair" ["found","alike","unlike"] Cc fP dP) (a4:Cal P w K mg base 7 "_law_fan" ["many","cell"] (spFan PL PS WC) fF dF) (am:Cal P w K mg base 17 "_law_too_rough" ["web","which"] (xu PL PS WC) fT dT):FnOk P w K mg base CX0 18 f fd ["script"] (uL K TT):=by
 refine F.ok eP (λj H Q E h=>?_) (λaa A q s H j Q E L h=>?_)
 ·obtain⟨a,ns,rfl,_⟩:=h;rfl
 obtain⟨a,ns,rfl,hS,bR,tb,kk⟩:=h
 refine⟨_,(ag (au (i:=1) eP.nd rfl (Or.inl rfl) (az ac.ok (L.mono (by decide)) rfl ac.mg ac.kp ac.bn .nil aL (ae (pv 0) (ae ai ah))))
   (ag (bN (aG dD (aw bh (pv 1) ai) ai (aM _)) (ag (au (i:=2) eP.nd rfl (Or.inl rfl) (az a4.ok (L.mono (by decide)) rfl a4.mg a4.kp a4.bn .nil aL (ae (aw br ai (aw du ai (aw bh (aw bX (pv 1) ai) ai))) (ae (aw bX (pv 1) ai) ah))))
   (ak (bK PassesOwn.never rfl (aN rfl T.n_range (ae ai ah)) (aC (i:=3) eP.nd rfl (Or.inl rfl)) (ak (bN (i7 (i6 (az am.ok (L.mono (by decide)) rfl am.mg am.kp am.bn .nil aL (ae (pv 2) (ae (pv 3) ah))))) (ak (aH mI)) aR))))) aR)
   (jG (t2:=tailL K TT) (ag (au (i:=4) eP.nd rfl (Or.inl rfl) (az al.ok (L.mono (by decide)) rfl al.mg al.kp al.bn .nil aL (ae (az ap.ok (L.mono (by decide)) rfl ap.mg ap.kp ap.bn .nil aL (ae (dB fx (pv 0) (dN ai) (dN ai)) (ae ai ah))) (ae (pv 1) ah))))
   (ag (au (i:=5) eP.nd rfl (Or.inl rfl) (az aP.ok (L.mono (by decide)) rfl aP.mg aP.kp aP.bn .nil aL (ae (pv 0) (ae (ay ar (by rfl) T.n_len aY (ae (aB aK (pv 4) ai (λ_ _=>rfl)) ah)) (ae (bO (ae ai (ae ai (ae (aw br (aw op_pow ai ai) ai) ah)))) ah)))))
   (ag (au (i:=6) eP.nd rfl (Or.inr rfl) (az aT.ok (L.mono (by decide)) rfl aT.mg aT.kp aT.bn .nil aL (ae (pv 4) (ae (pv 5) ah))))
   (ag (au (i:=7) eP.nd rfl (Or.inl rfl) (az ab.ok (L.mono (by decide)) rfl ab.mg ab.kp ab.bn .nil aL (ae (az a3.ok (L.mono (by decide)) rfl a3.mg a3.kp a3.bn .nil aL (ae (pv 4) (ae (pv 5) ah))) ah)))
   (ag (bN (PW.pt (rZ (i7 (i6 (ay kH (by rfl) T.n_isinstance bu (ae (pv 7) (ae (lu (v:=.ty "list") rfl T.n_list gd rfl) ah))))) (kZ (aG lB (ay ar (by rfl) T.n_len aY (ae (pv 7) ah)) (ay ar (by rfl) T.n_len aY (ae (pv 5) ah)) (aM _))))) (ak (aH mI)) aR)
   (ag (bK PassesOwn.never rfl (aN rfl T.n_range (ae (ay ar (by rfl) T.n_len aY (ae (pv 5) ah)) ah)) (aC (i:=8) eP.nd rfl (Or.inl rfl)) (ag (au (i:=9) eP.nd rfl (Or.inr rfl) (aB aK (aB aD (aB aK (pv 4) ai (λ_ _=>rfl)) (pv 8) (λ_ _=>rfl)) ai (λ_ _=>rfl)))
   (ag (au (i:=10) eP.nd rfl (Or.inr rfl) (aB aK (aB aD (aB aK (pv 4) ai (λ_ _=>rfl)) (pv 8) (λ_ _=>rfl)) ai (λ_ _=>rfl)))
   (ag (au (i:=11) eP.nd rfl (Or.inl rfl) (ay (qV rfl) (by rfl) T.n_min qW (ae (a9 rfl rfl rfl rfl (fr:=[("two",10),("one",9),("costs",6)]) (xs:=["mask"]) (bH.of (by rfl) (by decide) (by rfl) (by decide) (by intro p M;simp only[EE,E5,or_false]at M;rcases M with rfl | rfl | rfl<;>exact⟨rfl,rfl⟩) (by decide) (by intro p M;simp only[EE,E5,or_false]at M;rcases M with rfl | rfl | rfl<;>rfl)) (aN rfl T.n_range (ae (ay ar (by rfl) T.n_len aY (ae (pv 6) ah)) ah)) (λC ex s H=>(aC (i:=0) (show(["mask","two","one","costs"]:List Str).Nodup from by decide) rfl (Or.inl rfl))) (λC ex s H=>(nW (aG dD (aw mY (aw ib (aw lA (pv 0) (pv 2)) (aw lA (pv 0) (pv 1))) ai) ai (aM _)))) (λC ex s H ps XE=>(aB (jd (K:=K) rfl) (pv 3) (pv 0) (λ_ _=>rfl)))) ah)))
   (ag (au (i:=12) eP.nd rfl (Or.inl rfl) (ay (qV rfl) (by rfl) T.n_min qW (ae (a9 rfl rfl rfl rfl (fr:=[("two",10),("one",9),("costs",6)]) (xs:=["mask"]) (bH.of (by rfl) (by decide) (by rfl) (by decide) (by intro p M;simp only[EE,E5,or_false]at M;rcases M with rfl | rfl | rfl<;>exact⟨rfl,rfl⟩) (by decide) (by intro p M;simp only[EE,E5,or_false]at M;rcases M with rfl | rfl | rfl<;>rfl)) (aN rfl T.n_range (ae (ay ar (by rfl) T.n_len aY (ae (pv 6) ah)) ah)) (λC ex s H=>(aC (i:=0) (show(["mask","two","one","costs"]:List Str).Nodup from by decide) rfl (Or.inl rfl))) (λC ex s H=>(nW (aG dD (aw mY (aw ib (aw lA (pv 0) (pv 2)) (aw lA (pv 0) (pv 1))) ai) ai (aM _)))) (λC ex s H ps XE=>(aB (jd (K:=K) rfl) (pv 3) (pv 0) (λ_ _=>rfl)))) ah)))
   (ak (bN (i7 (i6 (az a0.ok (L.mono (by decide)) rfl a0.mg a0.kp a0.bn .nil aL (ae (aB aD (pv 7) (pv 8) (λ_ _=>rfl)) (ae (pv 11) (ae (pv 12) ah)))))) (ak (aH mI)) aR)))))))
   (ak (aH mI)))))))) (λD0 S0 H0 h0=>?tl)))),?_⟩
 case tl =>
  obtain⟨a,ns,c,v2,v3,rfl,hS,bR,tb,kk⟩:=h0;obtain⟨cs,ci,dd⟩:=BR ns 2 9;refine⟨_,rfl,_,rfl,_,rfl,a,_,rfl,hS,λb G=>?_⟩;have sb:=aj G (.lst (cs.map V.int));rw[show cutV (ns.map V.int) (some 2) (some 9)=cs.map V.int from ci];refine⟨b,6,cs,rfl,SqL.of af,by omega,by decide,λt pe pt pr m B ts rg y s1 l ⟨⟨J,xs,zs,C⟩,g,part⟩ e0 el mP=>?_⟩
  have cj:=sb.trans s1;refine⟨_,rfl,t,pe,pt,pr,_,m,B,ts,rg,rfl,l,⟨⟨J,C.he,C.en⟩,⟨xs,C.ht,C.rx.off⟩,g⟩,⟨zs,C.hr,C.rz.off⟩,part,g.two e0,by omega,λt' be bF bQ es' ts' bi u s2 bd wp rp ck de=>?_⟩
  have cm:=cj.trans s2;obtain⟨⟨b0,b6,cc⟩,⟨df,dc,dg⟩,g'⟩:=id wp;have co:b0.length=es'.length:=cc.1;refine⟨_,rfl,_,rfl,t',_,0,_,rfl,rfl,SqT.of bd,at30,be,b0,rfl,.inl (SqL.of b6),_,_,rfl,rfl,⟨by decide,by decide,by decide⟩,_,_,rfl,rfl,(by show 3<=sizeLine;decide),λlm cp=>?_⟩
  have sl:=aj cp (.lst [V.int 2,V.int 4,V.int (10^(30:Int).toNat+1)]);have cd:=cm.trans sl;refine⟨a,lm,es'.length,ns,[2,4,10^(30:Int).toNat+1],(by rw[co];rfl),cd.seq hS,bR,SqL.of af,by decide,by decide,λx O=>?_,by omega,by omega,λpk ws ks H4 s4 a6 tk kl kb=>?_⟩
  ·rcases EE.mp O with z | z
   ·rw[z];decide
   ·rcases EE.mp z with z | z
    ·rw[z];decide
    ·rw[Fi.mp z];exact⟨by decide,F6 _⟩
  have ba:=sl.trans s4;have cq:=cd.trans s4;have mE:m<=10:=by omega
  refine⟨_,rfl,_,rfl,t',be,bF,bQ,pk,m,es',ts',ks,rfl,ba _ _ bd,wp.mono ba,⟨ws,a6,tk⟩,kl,by omega,mE,λqc H5 s5 dh ct=>?_⟩
  have bU:=ba.trans s5;have cu:=cq.trans s5;have cv:=wp.mono bU;refine⟨_,rfl,_,rfl,t',be,bF,bQ,pk,m,es',ts',ks,rfl,bU _ _ bd,cv,⟨ws,s5 _ _ a6,tk.mono s5⟩,by omega,kl,by omega,λp rs H6 s6 wf=>?_⟩
  have cw:=cu.trans s6;have bA:∀ k∈ks,k.1=0∨k.1=1:=λk d=>by
   obtain⟨i,I⟩:=Gx d;exact(tk.2 i k I).1
  have cx:∀ k∈ks,0<=k.2/\k.2<=10^(30:Int).toNat:=λk d=>by
   obtain⟨i,I⟩:=Gx d;exact⟨(tk.2 i k I).2.1,kb k d⟩
  refine⟨p,m,es',ks,rfl,⟨ts',rs,_,wf,g',kl,bA,cx,by omega,KF.tb_same tb cw⟩,λqf zf H7 cB _ cb sa=>?_⟩
  have bf:KF.SmT H5 H7:=(KF.SmT.of s6).trans cB;have bm:=bf.lst ct;have ce:=bf.tup (bU _ _ bd);have b7:=bf.lst (bU _ _ b6);have cE:=Az bf (cc.mono bU);have b8:=bf.lst (s5 _ _ a6);have bv:ws.length=es'.length:=by rw[tk.1,kl]
  obtain⟨q1,q2,q3,q4⟩:=yd mE;have cl:=wB es' ks m;have ch:((ma es' ks m).map V.int).length=2^m:=by rw[EJ,cl]
  refine⟨_,rfl,_,_,_,_,_,rfl,TyOf.lst cb,Or.inl ⟨_,rfl,rfl⟩,kit_ll K,_,rfl,iteF ?_⟩;refine⟨_,rfl,qf,zf,rfl,.inl (SqL.of cb),_,rfl,pk,ws,rfl,.inl (SqL.of b8),rfl,_,rfl,tj (by rw[sa.1,bv]) ?_⟩
  refine⟨_,rfl,pk,ws,rfl,.inl (SqL.of b8),_,rfl,by omega,by ac_rfl,bZ (n:=(ws.length:Int).toNat) (λi Y H8=>∃(v8 v9 an a5 bB:Option V),Y = [some (.ref a),some (.int c),v2,v3,some (.ref t'),some (.ref pk),some (.ref qc),some (.ref qf),v8,v9,an,a5,bB]/\Same H7 H8) ⟨_,_,_,_,_,rfl,λ_ _ z=>z⟩ ?_ ?_⟩
  ·rintro i Y H8 I ⟨v8,v9,an,a5,bB,rfl,s8⟩;rw[EN,bv]at I;rw[F1];obtain⟨r,v0,v1,a1,a2,w0,w1⟩:=sa.2 i I;obtain⟨e,o⟩:∃ e,es'[i]?=some e:=⟨_,EA I⟩;obtain⟨x,x1,x2⟩:=(cE.mono s8).2 i e o;obtain⟨y1,y2,y3⟩:=g'.w.ends e (EC o);refine⟨_,rfl,t',_,0,_,rfl,rfl,SqT.of (s8 _ _ ce),at30,_,rfl,be,b0,_,_,rfl,rfl,SqL.of (s8 _ _ b7),aA x1,x,_,0,_,rfl,rfl,SqT.of x2,at0,?_⟩;refine⟨_,rfl,t',_,0,_,rfl,rfl,SqT.of (s8 _ _ ce),at30,_,rfl,be,b0,_,_,rfl,rfl,SqL.of (s8 _ _ b7),aA x1,x,_,1,_,rfl,rfl,SqT.of x2,at1,?_⟩;refine⟨_,rfl,qc,_,rfl,.inl (SqL.of (s8 _ _ bm)),?_⟩;refine⟨_,rfl,by omega,by ac_rfl,zS (b:=false) (SqL.of (s8 _ _ bm)) o mE (by rw[EN,ch]) rfl λc0 k0 D hD=>?_⟩
   obtain⟨L0,l0,bY⟩:=Ab o y1 y3 false;obtain⟨L1,l1,cM⟩:=Ab o y1 y3 true;have sD:=aj hD (.lst (c0.map V.int));refine⟨D,c0,rfl,SqL.of af,FY (k0.1 L0 l0 bY),λf0 cN cT=>?_⟩;refine⟨_,rfl,qc,_,rfl,.inl (SqL.of (sD _ _ (s8 _ _ bm))),_,rfl,by omega,by ac_rfl,zS (b:=true) (SqL.of (sD _ _ (s8 _ _ bm))) o mE (by rw[EN,ch]) rfl λc1 k1 D' ca=>?_⟩
   have sE:=sD.trans (aj ca (.lst (c1.map V.int)));refine⟨D',c1,rfl,SqL.of af,FY (k1.1 L1 l1 cM),λf1 da db=>?_⟩;have q0:=(k0.way cN cT).is w0;have q1:=(k1.way da db).is w1;subst q0 q1;have s9:=s8.trans sE;exact⟨_,rfl,_,rfl,qf,zf,_,_,rfl,rfl,SqL.of (s9 _ _ cb),aA a1,_,rfl,_,rfl,r,_,_,rfl,s9 _ _ a2,_,rfl,iteF ⟨_,_,_,_,_,rfl,s9⟩⟩
  ·rintro Y H8 ⟨_,_,_,_,_,rfl,s8⟩;exact kk _
 refine⟨_,rfl,a,0,ns,rfl,hS,?_⟩;generalize pq ns 0=c;refine⟨_,rfl,_,_,rfl,rfl,(by decide:(0:Int)<5),rfl,_,rfl,ite2 (λz=>?_) (λz=>⟨a,ns,c,_,_,rfl,hS,bR,tb,kk⟩)⟩
 obtain⟨N,hN⟩:∃ N:Nat,14+2*(c/5%33)=(N:Int):=⟨(14+2*(c/5%33)).toNat,by omega⟩
 refine⟨_,rfl,_,_,rfl,rfl,⟨by decide,by decide⟩,_,_,rfl,rfl,(by decide:(0:Int)<33),_,_,rfl,rfl,.inl ⟨by decide,by omega⟩,_,_,rfl,rfl,_,rfl,_,_,rfl,rfl,⟨by decide,by decide⟩,N,c/7,(by show[V.int (14+2*(c/5%33)),V.int (c/7)]=_;rw[hN]),by omega,by omega,by omega,λp y s1 rg=>?_⟩
 refine⟨_,rfl,by decide,by decide,bZ (n:=(3:Int).toNat) (λi Y u=>∃ v3,Y = [some (.ref a),some (.int c),some (.ref p),v3,none,none,none,none,none,none,none,none,none]/\Same y u) ⟨_,rfl,λ_ _ z=>z⟩ ?_ ?_⟩
 ·rintro i Y u I ⟨v3,rfl,s2⟩;refine⟨_,rfl,_,rfl,p,_,rfl,rg.mono s2,λH3 s3=>⟨_,rfl,iteF ⟨_,rfl,s2.trans s3⟩⟩⟩
 ·rintro Y u ⟨v3,rfl,s2⟩;exact⟨a,ns,c,_,_,rfl,(s1.trans s2).seq hS,bR,KF.tb_same tb (s1.trans s2),kk⟩
end
open KF (ko hO gu ki nN uS uR AE cX fL bM fJ kj)
structure GF(K:ED)(x:Str)(st:Stmt)(f:Addr)(fd:FuncData):Prop where
 a:Fn K mainGlobals x=some (some (.ref f))
 F:Fun K x x st f fd
structure Wr(P:Program)(w:World)(K:ED)(mg:Str->Option Value)(base:Heap):Prop where
 g:∀{x:Str}{v:Value},Fn K mainGlobals x=some (some v)->mg x=some v
section
variable{P:Program}{w:World}{K:ED}{mg:Str->Option Value}{base:Heap}{x p p2 p3 p4 p5:Str}{ps:List Str}{st:Stmt}{f:Addr}{fd:FuncData}{k:Nat}{sp:Sp}
noncomputable def Bn(x:Str)(st:Stmt)(us:List Value)(r:List (Str×Value)):Prop:=∀ kV M u i y j,bindArgs (FO x x (bG st) (bp st) (aq st) .none kV M u i y j) ⟨us,[]⟩=pure r
theorem GF.b(g:GF K x st f fd)(h:∀ us:List Value,us.length=ps.length->Bn x st us (ps.zip us)):cW K fd ps []:=g.F.binds λkV M u i y j us D=>h us D kV M u i y j
theorem Wr.c(W:Wr P w K mg base)(g:GF K x st f fd)(b:cW K fd ps [])(o:FnOk P w K mg base CX0 k f fd ps sp):Cal P w K mg base k x ps sp f fd:=⟨o,b,W.g g.a,g.F.kp⟩
theorem Wr.c0(W:Wr P w K mg base)(g:GF K x st f fd)(o:FnOk P w K mg base CX0 k f fd [] sp)(h:Bn x st [] []:=by intros _ _ _ _ _ _;rfl):Cal P w K mg base k x [] sp f fd:=W.c g (g.b λd l=>match d,l with | [],_=>h) o
theorem GF.b1(g:GF K x st f fd)(h:∀ u,Bn x st [u] [(p,u)]):cW K fd [p] []:=g.b λd l=>by obtain⟨_,rfl⟩:=Bs l;exact h _
theorem GF.b2(g:GF K x st f fd)(h:∀ u v,Bn x st [u,v] [(p,u),(p2,v)]):cW K fd [p,p2] []:=g.b λd l=>by obtain⟨_,_,rfl⟩:=len_2 l;exact h _ _
theorem GF.b3(g:GF K x st f fd)(h:∀ u v y,Bn x st [u,v,y] [(p,u),(p2,v),(p3,y)]):cW K fd [p,p2,p3] []:=g.b λd l=>by obtain⟨_,_,_,rfl⟩:=len_3 l;exact h _ _ _
theorem GF.b4(g:GF K x st f fd)(h:∀ u v y z,Bn x st [u,v,y,z] [(p,u),(p2,v),(p3,y),(p4,z)]):cW K fd [p,p2,p3,p4] []:=g.b λd l=>by obtain⟨_,_,_,_,rfl⟩:=DQ l;exact h _ _ _ _
theorem GF.b5(g:GF K x st f fd)(h:∀ u v y z t,Bn x st [u,v,y,z,t] [(p,u),(p2,v),(p3,y),(p4,z),(p5,t)]):cW K fd [p,p2,p3,p4,p5] []:=g.b λd l=>by obtain⟨_,_,_,_,_,rfl⟩:=len_5 l;exact h _ _ _ _ _
theorem Wr.c1(W:Wr P w K mg base)(g:GF K x st f fd)(o:FnOk P w K mg base CX0 k f fd [p] sp)(h:∀ u,Bn x st [u] [(p,u)]:=by intros _ _ _ _ _ _ _;rfl):Cal P w K mg base k x [p] sp f fd:=W.c g (g.b1 h) o
theorem Wr.c2(W:Wr P w K mg base)(g:GF K x st f fd)(o:FnOk P w K mg base CX0 k f fd [p,p2] sp)(h:∀ u v,Bn x st [u,v] [(p,u),(p2,v)]:=by intros _ _ _ _ _ _ _ _;rfl):Cal P w K mg base k x [p,p2] sp f fd:=W.c g (g.b2 h) o
theorem Wr.c3(W:Wr P w K mg base)(g:GF K x st f fd)(o:FnOk P w K mg base CX0 k f fd [p,p2,p3] sp)(h:∀ u v y,Bn x st [u,v,y] [(p,u),(p2,v),(p3,y)]:=by intros _ _ _ _ _ _ _ _ _;rfl):Cal P w K mg base k x [p,p2,p3] sp f fd:=W.c g (g.b3 h) o
theorem Wr.c4(W:Wr P w K mg base)(g:GF K x st f fd)(o:FnOk P w K mg base CX0 k f fd [p,p2,p3,p4] sp)(h:∀ u v y z,Bn x st [u,v,y,z] [(p,u),(p2,v),(p3,y),(p4,z)]:=by intros _ _ _ _ _ _ _ _ _ _;rfl):Cal P w K mg base k x [p,p2,p3,p4] sp f fd:=W.c g (g.b4 h) o
theorem Wr.c5(W:Wr P w K mg base)(g:GF K x st f fd)(o:FnOk P w K mg base CX0 k f fd [p,p2,p3,p4,p5] sp)(h:∀ u v y z t,Bn x st [u,v,y,z,t] [(p,u),(p2,v),(p3,y),(p4,z),(p5,t)]:=by intros _ _ _ _ _ _ _ _ _ _ _;rfl):Cal P w K mg base k x [p,p2,p3,p4,p5] sp f fd:=W.c g (g.b5 h) o
theorem Wr.d1(W:Wr P w K mg base)(g:GF K x st f fd)(o:FnOk P w K mg base (CXd P w) k f fd [p] sp)(h:∀ u,Bn x st [u] [(p,u)]:=by intros _ _ _ _ _ _ _;rfl):CalD P w K mg base k x [p] sp f fd:=⟨o,g.b1 h,W.g g.a,g.F.kp⟩
theorem Wr.d2(W:Wr P w K mg base)(g:GF K x st f fd)(o:FnOk P w K mg base (CXd P w) k f fd [p,p2] sp)(h:∀ u v,Bn x st [u,v] [(p,u),(p2,v)]:=by intros _ _ _ _ _ _ _ _;rfl):CalD P w K mg base k x [p,p2] sp f fd:=⟨o,g.b2 h,W.g g.a,g.F.kp⟩
end
theorem Aw{K:ED}{x:Str}{f c T:Addr}{o1 d:Value}{o2 b:Option Addr}{g h:Array (Option Value)}{fd:FuncData}{vs:Array Value}(a:Fn K mainGlobals x=some (some (.ref f)))(l:K.lookup f=some ⟨o1,o2,.func fd,g⟩)(e:fd.code=.ref c)(i:K.lookup c=some ⟨d,b,.fields vs,h⟩)(v:vs[11]?=some (.ref T)):G9 K x=some (c,T):=by
 unfold G9;rw[a];simp only[l,e,i,v]
theorem all_mk{l:IP}{w:World}{K:ED}{h:Heap}{mg:Str->Option Value}{p dj js jr aP cN cM h9 ab ac bd zk zj BH vS oS BD Ec mK tQ gQ tH BF BE BG qF vR vQ bA eY bQ dY al zm vZ qD tG vO oQ mJ lS cE am qE oR mL tR zi vP vY vX zp vU tL tJ kd tK zo tI tO qG Ed iP tP lT zr vV Ee:Addr}{cT TT:Addr}{L:Value}{dT:Option Addr}{vT:Array Value}{q:Array (Option Value)}(X:K.In h)(G:h.Ns mainGlobals mg) (ba:mg "law" = some (.ref p))
  {Bf BX ox pF sI uA ow pE qj rA ot pD qi rj an Cy:Option Addr} {AA nI rM nH pN nG pM ap:Array (Option Value)} {Bg Bx BK AK pz BS oB oK oY n8 jo ph sJ sY tZ se mq ur oA oJ oX nZ jn pf ql qy qJ pX j4 qT oz oI oW nY jj pd qk qx qI pW jZ qS aT Co Ct Ck zX Cu:Value}
  {C E:Tok}
  {aa:Tok}
  {l7:Addr} {qR:Value} {qQ:Option Addr} {qP:Nat} {qO:Array (Option Value)}
  {a0 a1 be zJ zI BP wq BL Eh mQ uk lZ uc BN BM BO qM wo wm a2 zK wA qK ua we o7 mO lX a3 qL o8 mR uo zG wj wy wx zM wt ug ue kf uf zL ud ui qN Ej uj lY zN wu:FuncData}
  (gf:Fn K mainGlobals "FloorError" = some (some (.ref dj)))
  (jO:Fn K mainGlobals "TooMany" = some (some (.ref js)))
  (jN:Fn K mainGlobals "TooWide" = some (some (.ref jr)))
  (iW:Fn K mainGlobals "TooRough" = some (some (.ref aP)))
  (uC:Fn K mainGlobals "Pull" = some (some (.ref cN)))
  (uB:Fn K mainGlobals "Push" = some (some (.ref cM)))
  (Ag:Fn K mainGlobals "Web" = some (some (.ref h9)))
  (gF:E3 K (.ref cN) "__init__" = some (some (.ref bA)))
  (gE:E3 K (.ref cN) "wish" = some (some (.ref eY)))
  (eK:E3 K (.ref cN) "signed" = some (some (.ref bQ)))
  (gD:E3 K (.ref cM) "__init__" = some (some (.ref bA)))
  (gC:E3 K (.ref cM) "wish" = some (some (.ref dY)))
  (eJ:E3 K (.ref cM) "signed" = some (some (.ref bQ)))
  (iI:E3 K (.ref h9) "__init__" = some (some (.ref cE)))
  (g_bits:GF K "bits" uS ab a0)
  (g_ones:GF K "ones" uR ac a1)
  (g_odd:GF K "odd" AE bd be)
  (g_mask_of:GF K "mask_of" eU zk zJ)
  (g_reached:GF K "reached" eQ zj zI)
  (g_beyond:GF K "beyond" ko BH BP)
  (g_links_at:GF K "links_at" hO vS wq)
  (g_row_to:GF K "row_to" ki BD BL)
  (g_whole:GF K "whole" nN Ec Eh)
  (g_refuse_marks:GF K "refuse_marks" cX mK mQ)
  (g_chosen_of:GF K "chosen_of" fL tQ uk)
  (g_laid_in_pairs:GF K "laid_in_pairs" bM gQ lZ)
  (g_new_table:GF K "new_table" fJ tH uc)
  (g_paired:GF K "paired" kj BF BN)
  (g_pushes:GF K "pushes" nO BE BM)
  (g_odd_at:GF K "odd_at" nP BG BO)
  (g_odd_rounds:GF K "odd_rounds" gq qF qM)
  (g_links_of:GF K "links_of" jA vR wo)
  (g_marks_of:GF K "marks_of" g9 vQ wm)
  (g_head:GF K "head" xV al a2)
  (g_leaving:GF K "leaving" kS zm zK)
  (g_follower:GF K "follower" jF vZ wA)
  (g_round_from:GF K "round_from" gn qD qK)
  (g_rounds_of:GF K "rounds_of" ip tG ua)
  (g_sides_of:GF K "sides_of" jy vO we)
  (g_refuse_ends:GF K "refuse_ends" fD oQ o7)
  (g_refuse_turns:GF K "refuse_turns" eI mJ mO)
  (g_refuse_parted:GF K "refuse_parted" dJ lS lX)
  (g_roof:GF K "roof" uQ am a3)
  (g_paid_alike:GF K "paid_alike" gp qE qL)
  (g_paid_unlike:GF K "paid_unlike" fH oR o8)
  (g_both_ways_of:GF K "both_ways_of" cY mL mR)
  (g_both_ways:GF K "both_ways" fM tR uo)
  (g_setting:GF K "setting" kQ zi zG)
  (g_set_ties:GF K "set_ties" jz vP wj)
  (g_law_cell:GF K "_law_cell" jE vY wy)
  (g_law_head:GF K "_law_head" jD vX wx)
  (g_law_put:GF K "_law_put" kW zp zM)
  (g_law_step:GF K "_law_step" jB vU wt)
  (g_law_grown:GF K "_law_grown" iw tL ug)
  (g_law_order:GF K "_law_order" ir tJ ue)
  (g_law_renumbered:GF K "_law_renumbered" dm kd kf)
  (g_law_kinds:GF K "_law_kinds" iu tK uf)
  (g_law_web:GF K "_law_web" kU zo zL)
  (g_law_worth:GF K "_law_worth" iq tI ud)
  (g_law_costs:GF K "_law_costs" iy tO ui)
  (g_law_number:GF K "_law_number" gs qG qN)
  (g_least:GF K "least" rX Ed Ej)
  (g_law_asked:GF K "_law_asked" iz tP uj)
  (g_law_too_rough:GF K "_law_too_rough" dM lT lY)
  (g_law_fan:GF K "_law_fan" kX zr zN)
  (g_law_pair:GF K "_law_pair" jC vV wu)
  (mB:Fn K mainGlobals "fares" = some (some (.ref oS)))
  (oG:K.lookup oS=some ⟨Bg,Bf,.func (FO "fares" "fares" (bG gu) (bp gu) (aq gu) .none Bx BK AK BX pz BS),AA⟩)
  (uw:F2 K pz "fares" = true)
  (oH:Ft K (.ref oS)=true)
  (gM:K.lookup bA=some ⟨oB,ox,.func (FO "__init__" "Tie.__init__" (bG cD) (bp cD) (aq cD) .none oK oY n8 pF jo ph),nI⟩)
  (gX:F2 K jo "Tie.__init__" = true)
  (gO:Ft K (.ref bA)=true)
  (eB:Hi K (.ref bA)=true)
  (jI:K.lookup eY=some ⟨sJ,sI,.func (FO "wish" "Tie.wish" (bG dH) (bp dH) (aq dH) .none sY tZ se uA mq ur),rM⟩)
  (jM:F2 K mq "Tie.wish" = true)
  (h7:Ft K (.ref eY)=true)
  (jJ:Hi K (.ref eY)=true)
  (gL:K.lookup bQ=some ⟨oA,ow,.func (FO "signed" "Tie.signed" (bG cC) (bp cC) (aq cC) .none oJ oX nZ pE jn pf),nH⟩)
  (gW:F2 K jn "Tie.signed" = true)
  (de:Ft K (.ref bQ)=true)
  (eu:Hi K (.ref bQ)=true)
  (iK:K.lookup dY=some ⟨ql,qj,.func (FO "wish" "Push.wish" (bG cU) (bp cU) (aq cU) .none qy qJ pX rA j4 qT),pN⟩)
  (iT:F2 K j4 "Push.wish" = true)
  (fY:Ft K (.ref dY)=true)
  (iL:Hi K (.ref dY)=true)
  (gK:K.lookup cE=some ⟨oz,ot,.func (FO "__init__" "Web.__init__" (bG cA) (bp cA) (aq cA) .none oI oW nY pD jj pd),nG⟩)
  (gU:F2 K jj "Web.__init__" = true)
  (gN:Ft K (.ref cE)=true)
  (gP:Hi K (.ref cE)=true)
  (iU:Fn K mainGlobals "all_least" = some (some (.ref iP)))
  (iJ:K.lookup iP=some ⟨qk,qi,.func (FO "all_least" "all_least" (bG cS) (bp cS) (aq cS) (.ref l7) qx qI pW rj jZ qS),pM⟩)
  (gI:K.lookup l7=some ⟨qR,qQ,.seq #[.int 64 aa] qP,qO⟩)
  (iS:F2 K jZ "all_least" = true)
  (fX:Ft K (.ref iP)=true)
  (BY:Fn K mainGlobals "law" = some (some (.ref Ee)))
  (DS:K.lookup Ee=some ⟨aT,an,.func (FO "law" "law" (bG nQ) (bp nQ) (aq nQ) .none Co Ct Ck Cy zX Cu),ap⟩)
  (Ep:F2 K zX "law" = true)
  (DV:Ft K (.ref Ee)=true)
  (eZ:Ip K dj veM "ValueError.__new__" = true)
  (ik:Ip K aP veM "ValueError.__new__" = true)
  (bF:Gy K aP (.ref dj)=some true)
  (ga_TooRough:E3 K (.ref aP) "__getattribute__" = some (some (.builtin "BaseException.__getattribute__")))
  (gt_TooRough:E3 K (.ref aP) "__getattr__" = some none)
  (hb_TooRough:Gy K aP (.type "BaseException")=some true)
  (iN:Gz K aP=true)
  (iO:E3 K (.ref aP) "__class__" = some (some (.builtin "object.__class__")))
  (iM:Gy K aP (.type "object")=some true)
  (bY:FQ K (.ref aP) (.ref aP)=some true)
  (cm:FQ K (.ref aP) (.ref js)=some false)
  (cj:FQ K (.ref aP) (.ref jr)=some false)
  (so:GX K cN Str.empty=true)
  (tE:Gz K cN=true)
  (r9:Hm K cN=true)
  (rW:E3 K (.ref cN) "__setattr__" = some (some (.builtin "object.__setattr__")))
  (sO:HB K cN=true)
  (sX:Ft K (.ref cN)=true)
  (iH:E3 K (.ref cN) "one" = some none)
  (iG:E3 K (.ref cN) "two" = some none)
  (dt:E3 K (.ref cN) "strength" = some none)
  (sj:GX K cM Str.empty=true)
  (tD:Gz K cM=true)
  (r8:Hm K cM=true)
  (rV:E3 K (.ref cM) "__setattr__" = some (some (.builtin "object.__setattr__")))
  (sN:HB K cM=true)
  (sW:Ft K (.ref cM)=true)
  (iF:E3 K (.ref cM) "one" = some none)
  (iE:E3 K (.ref cM) "two" = some none)
  (dq:E3 K (.ref cM) "strength" = some none)
  (yh:GX K h9 Str.empty=true)
  (zb:Gz K h9=true)
  (yf:Hm K h9=true)
  (xU:E3 K (.ref h9) "__setattr__" = some (some (.builtin "object.__setattr__")))
  (yJ:HB K h9=true)
  (yT:Ft K (.ref h9)=true)
  (iD:E3 K (.ref h9) "many" = some none)
  (iC:E3 K (.ref h9) "ties" = some none)
  (gA:E3 K (.ref h9) "turns" = some none)
  (fU:E3 K (.ref h9) "rounds" = some none)
  (gB:E3 K (.ref h9) "sides" = some none)
  (hn_:IA K (.builtin "object.__class__") "__get__" = some (some (.builtin "getset_descriptor.__get__")))
  (htk_:IL K (.builtin "object.__class__")=some true)
  (gi_most:Fn K mainGlobals "MOST_MARKS" = some (some (.int 14 C)))
  (gi_modd:Fn K mainGlobals "MOST_ODD" = some (some (.int 12 E)))
  (kv_:FQ K (.ref aP) (.type "ValueError")=some true)
  (CF:Fn K mainGlobals "len" = some none)
  (CG:Fn K mainGlobals "int" = some none)
  (wQ:Fn K mainGlobals "bool" = some none)
  (wN:Fn K mainGlobals "list" = some none)
  (rC:Fn K mainGlobals "tuple" = some none)
  (rD:Fn K mainGlobals "range" = some none)
  (ij:Fn K mainGlobals "enumerate" = some none)
  (gj:Fn K mainGlobals "isinstance" = some none)
  (CC:Fn K mainGlobals "min" = some none)
  (CB:Fn K mainGlobals "sum" = some none)
  (nu:Fn K mainGlobals "sorted" = some none)
  (CD:Fn K mainGlobals "max" = some none)
  (CA:Fn K mainGlobals "zip" = some none)
  (CH:Fn K mainGlobals "abs" = some none)
  (wO:Fn K mainGlobals "dict" = some none)
  (jt:Fn K mainGlobals "reversed" = some none)
  (gk:Fn K mainGlobals "ValueError" = some none)
  (tbc:pz=.ref cT) (tbl:K.lookup cT=some ⟨L,dT,.fields vT,q⟩) (tbv:vT[11]?=some (.ref TT)) (tbn:K.lookup TT=none)
  : ∃ fd:FuncData,(∀(s:Shared)(v:Value),BindsTo s fd ⟨[v],[]⟩ [("script",v)])/\∃ c T,G9 K "fares" = some (c,T)/\K.lookup T=none/\∀ base:Heap,K.In base->base.Ns mainGlobals mg->GY base c T->Bm mg base->FnOk l.prog w K mg base CX0 18 p fd ["script"] (uL K T):=by
 have bB:=Aw mB oG tbc tbl tbv;have e:=ba.symm.trans (F3 X G BY)
 cases e
 have Ao:=fun_mk (st:=gu) oG uw oH;have Et:=Ao.binds (ps:=["many","links","start"]) λ_ _ _ _ _ _ d B=>by obtain⟨N,n,I,rfl⟩:=len_3 B;rfl
 have j9:=fun_mk (st:=cD) gM gX gO;have j7:=j9.binds (ps:=["self","one","two","strength"]) λ_ _ _ _ _ _ d B=>by obtain⟨N,n,I,u,rfl⟩:=DQ B;rfl
 have nt:=fun_mk (st:=dH) jI jM h7;have wH:=nt.binds (ps:=["self"]) λ_ _ _ _ _ _ d B=>by obtain⟨N,rfl⟩:=Bs B;rfl
 have gZ:=fun_mk (st:=cC) gL gW de;have j6:=gZ.binds (ps:=["self"]) λ_ _ _ _ _ _ d B=>by obtain⟨N,rfl⟩:=Bs B;rfl
 have mG:=fun_mk (st:=cU) iK iT fY;have uz:=mG.binds (ps:=["self"]) λ_ _ _ _ _ _ d B=>by obtain⟨N,rfl⟩:=Bs B;rfl
 have j8:=fun_mk (st:=cA) gK gU gN;have rb:=j8.binds (ps:=["self","many","ties","turns"]) λ_ _ _ _ _ _ d B=>by obtain⟨N,n,I,u,rfl⟩:=DQ B;rfl
 have iX:=Ea (st:=cS) iJ iS fX gI rfl;have Eu:=iX.binds (ps:=["web","most"]) (ds:=[]) λ_ _ _ _ _ _ _ d B=>match d,B with | [_,_],_=>⟨_,rfl,rfl⟩
 have rh:=iX.binds (ps:=["web","most"]) (ds:=[.int 64 aa]) λ_ _ _ _ _ _ _ d B=>by
  have J:d.length=1:=by simpa using B
  match d,J with | [_],_=>exact⟨_,rfl,rfl⟩
 have bf:=fun_mk (st:=nQ) DS Ep DV;refine⟨FO "law" "law" (bG nQ) (bp nQ) (aq nQ) .none Co Ct Ck Cy zX Cu,λs v=>.of_eq rfl,cT,TT,bB,tbn,λbase _ _ O A=>?_⟩;have DO:=F3 X G mB;have sR:=F3 X G iU;have b6:=F3 X G BY;have qq:=F3 X G gf;have yN:=F3 X G jO;have yM:=F3 X G jN;have vH:=F3 X G iW;have a4:=F3 X G uC;have a5:=F3 X G uB;have bi:=F3 X G Ag;have bR:=F3 X G gi_most;have modd:=F3 X G gi_modd;have M:=Fz X G CF;have Q:=Fz X G CG;have y:=Fz X G wQ;have r:=Fz X G wN;have t:=Fz X G rC;have x:=Fz X G rD;have o:=Fz X G ij;have i:=Fz X G gj;have Y:=Fz X G CC;have bm:=Fz X G CB;have z:=Fz X G nu;have n_max:=Fz X G CD;have n_zip:=Fz X G CA;have bn:=Fz X G CH;have b0:=Fz X G wO;have n_reversed:=Fz X G jt;have n_ValueError:=Fz X G gk;have W:Wr l.prog w K mg base:=⟨λe=>F3 X G e⟩;have f:CT K cN:=⟨⟨so,tE,r9,rW⟩,iH,iG,dt⟩;have TS:CT K cM:=⟨⟨sj,tD,r8,rV⟩,iF,iE,dq⟩;have j:CW K h9:=⟨⟨yh,zb,yf,xU⟩,iD,iC,gA,fU,gB⟩;have T:Txt mg:=⟨M,Q,y,r,t,x,o,i,Y,bm,z⟩;have GI:FnOk l.prog w K mg base CX0 1 bA _ _ (jQ K):=Dv j9;have ML:Mak l.prog w K mg base 1 "Pull" _ (jQ K) cN bA _:=⟨⟨sO,gF,eB,sX⟩,GI,j7,a4⟩;have MS:Mak l.prog w K mg base 1 "Push" _ (jQ K) cM bA _:=⟨⟨sN,gD,eB,sW⟩,GI,j7,a5⟩;have Gh:=W.c2 g_head (Dw g_head.F);have Gl:=W.c3 g_leaving (vD g_leaving.F);have Gf:=W.c3 g_follower (sG g_follower.F T Gh Gl);have Gr:=W.c3 g_round_from (Dx g_round_from.F Gf);have GR:=W.c2 g_rounds_of (yA g_rounds_of.F T Gr);have GS:=W.c2 g_sides_of (AW g_sides_of.F T);have wL:Met l.prog w K mg base 1 cN "wish" _ (iY false) eY _:=⟨⟨gE,jJ,h7⟩,AU nt,wH⟩;have wS:Met l.prog w K mg base 1 cM "wish" _ (iY true) dY _:=⟨⟨gC,iL,fY⟩,AS mG,uz⟩;have Gm:=W.c1 g_mask_of (ok_mask g_mask_of.F);have Gp:=W.c1 g_pushes (Dp g_pushes.F T j f TS Gm wL wS);have Go:=W.c3 (sp:=(rK cN cM h9)) g_odd_at (A4 g_odd_at.F T j);have Gq:=W.c1 g_odd_rounds (Dt g_odd_rounds.F T j Gm Gp Go);have Ga:=W.c2 g_reached (ok_reached g_reached.F);have R1:=W.c2 g_refuse_ends (A0 g_refuse_ends.F);have R2:=W.c3 g_refuse_turns (yz g_refuse_turns.F T);have R3:=W.c2 g_refuse_parted (AY g_refuse_parted.F Ga);have WI:FnOk l.prog w K mg base CX0 5 cE _ _ (kL K):=AV j8 T R1 R2 R3 GR GS;have MW:Mak l.prog w K mg base 5 "Web" _ (kL K) h9 cE _:=⟨⟨yJ,iI,gP,yT⟩,WI,rb,bi⟩;have Gc:=W.c2 g_law_cell (Dy g_law_cell.F T);have H:=W.c2 g_law_head (A7 g_law_head.F);have L5:=W.c2 g_law_order (A3 g_law_order.F T);have kT:KF.Txt mg:=⟨M,Q,y,r,t,x,Y,bn,o,i⟩;have bU:=W.c2 g_beyond (KF.ok_bey g_beyond.F);have b7:=W.c2 g_links_at (KF.ok_at g_links_at.F kT);have b8:Cal l.prog w K mg base 2 "fares" _ (KF.spFares TT) oS _:=⟨KF.ok_fares Ao kT bB mB O A b7 bU,Et,DO,oH⟩;have ca:=W.c2 g_reached (KF.ok_reached g_reached.F);have cb:=W.c2 g_whole (KF.ok_whl g_whole.F ca);have cc:=W.c3 g_row_to (KF.ok_row g_row_to.F ⟨r,n_reversed⟩ bU);have bv:=W.c1 g_bits (KF.ok_bits g_bits.F);have a6:=W.c1 g_ones (KF.ok_ones g_ones.F kT bv);have cd:=W.c1 g_odd (KF.ok_odd g_odd.F a6);have ce:=W.c1 g_mask_of (KF.ok_mask g_mask_of.F);have ch:=W.c3 g_refuse_marks (KF.ok_ref g_refuse_marks.F ⟨⟨_,bR⟩⟩ cd cb a6);have ci:=W.c2 g_chosen_of (KF.ok_chosen g_chosen_of.F);have ck:=W.c0 g_new_table (KF.ok_table g_new_table.F);have cl:∀(D:Nat->Nat->Int)(m:Nat),(∀ a b,D a b=D b a)->Cal l.prog w K mg base 10 "laid_in_pairs" _ (KF.spLaid D m 8) gQ _:=λD m sy=>⟨KF.ok_laid sy g_laid_in_pairs.F kT bv (g_laid_in_pairs.b3 λ_ _ _=>by intros _ _ _ _ _ _;rfl) (W.g g_laid_in_pairs.a) g_laid_in_pairs.F.kp 8,(g_laid_in_pairs.b3 λ_ _ _=>by intros _ _ _ _ _ _;rfl),(W.g g_laid_in_pairs.a),g_laid_in_pairs.F.kp⟩
 have co:=W.c3 g_paired (KF.ok_paired g_paired.F kT ch bv b8 ci ck cl ce cc);have TO:TxtO mg:={ T with n_zip:=n_zip,modd:=⟨_,modd⟩,n_max:=n_max };have TZ:TxtZ mg:={ T with n_zip:=n_zip };have cp:=W.c1 g_marks_of (A5 g_marks_of.F TO Gq a6);have cq:=W.c1 g_links_of (A6 g_links_of.F TZ j f TS);have cs:=W.c2 g_roof (Dn g_roof.F TO j f TS cp cq co wL wS);have ct:=W.c1 g_paid_alike (ok_pa g_paid_alike.F TO);have cu:=W.c1 g_paid_unlike (ok_pu g_paid_unlike.F TO);have TM:TxtM mg:={ T with n_max:=n_max };have N1:=W.c4 g_law_put (ok_put g_law_put.F);have N2:=W.c5 g_law_step (Dm g_law_step.F T H N1);have N3:=W.c2 g_law_grown (Ba g_law_grown.F N2);have N4:=W.c2 g_law_renumbered (ok_ren g_law_renumbered.F TM L5);have N5:=W.c3 g_law_kinds (A9 g_law_kinds.F T Gc);have N6:=W.c2 g_law_web (Du g_law_web.F T ML MS f TS MW j);have N7:=W.c1 g_law_number (yB g_law_number.F T);have N8:=W.c3 g_law_worth (AR g_law_worth.F T);have N9:=W.c2 g_law_costs (Bb g_law_costs.F T N8);have sL:Met l.prog w K mg base 2 cN "signed" _ (iZ cN false) bQ _:=⟨⟨eK,eu,de⟩,qd gZ f wL,j6⟩;have sS:Met l.prog w K mg base 2 cM "signed" _ (iZ cM true) bQ _:=⟨⟨eJ,eu,de⟩,qd gZ TS wS,j6⟩;have B1:=W.c2 g_both_ways_of (Dz g_both_ways_of.F j f TS cs ct cu sL sS);have B2:=W.c1 g_both_ways (ok_bw g_both_ways.F T j B1);have k:TxtR mg aP:={ TO with g_TooRough:=vH };have TQ:TxtQ mg aP dj js jr:={ k with n_ValueError:=n_ValueError,g_FloorError:=qq,g_TooMany:=yN,g_TooWide:=yM };have eR:ErC K aP:=⟨ga_TooRough,gt_TooRough,hb_TooRough,iN,iO,hn_,htk_,iM⟩;have rF:RoF K aP dj js jr:=⟨eR,bF,bY,kv_,cm,cj⟩;have D1:=W.d1 g_marks_of (yC g_marks_of.F k ik Gq a6);have D2:=W.d2 g_roof (Bd g_roof.F D1);have D3:=W.d2 g_both_ways_of (Be g_both_ways_of.F D2);have D4:=W.d1 g_both_ways (okR_bw g_both_ways.F T j D3);have D5:=W.c1 g_setting (AX g_setting.F);have D6:=W.d1 g_set_ties (Bc g_set_ties.F D4 D5);have D7:=W.d1 g_least (yD g_least.F D1);have D8:=W.d2 g_law_asked (yE g_law_asked.F D4 D6 (DA iX D7) rh sR fX);have D9:=W.c2 g_law_too_rough (AZ g_law_too_rough.F TQ eZ rF D8);have TV:TxtV mg:={ T with n_reversed:=n_reversed };have E1:=W.c2 g_law_fan (ok_fan g_law_fan.F TV ML MS f TS MW j);have E2:=W.c3 g_law_pair (Dr g_law_pair.F T N7);exact ok_law bf T N3 N4 Gc N5 N9 N6 B2 E2 E1 D9
theorem walk{l:IP}{q:Program}{A:List Str}{H:(Str->Option Value)->Heap->Prop}{B:World->Heap->Prop}{d:DefRec}{K:Params->ED}(r:l.most=some 63)(v:d.params.defaults = [])
  (b:∀(w:World)(h:Heap),B w h->(K w.params).In h) (y:((PyProof.Rows.recsOf q).find? (λe=>e.name == ("fares" : Str))).isSome=true)
  (F:∀(w:World)(mg:Str->Option Value)(p:Addr)(h:Heap),(K w.params).In h->h.Ns mainGlobals mg->mg d.name=some (.ref p) ->
   ∃ fd:FuncData,(∀(s:Shared)(u:Value),BindsTo s fd ⟨[u],[]⟩ [("script",u)])/\∃ c T,G9 (K w.params) "fares" = some (c,T)/\(K w.params).lookup T=none/\∀ base:Heap,(K w.params).In base->base.Ns mainGlobals mg->GY base c T->Bm mg base->FnOk l.prog w (K w.params) mg base CX0 18 p fd ["script"] (uL (K w.params) T)) :
  PySem.W.WalkO q A H B l.row.toRowW d [] (λf vs=>PySem.call f vs) :=
 L2.walk_ofT (n:=63) (k:=18) (x:="script") (CX:=CX0) (sp:=λK T=>uL K T) r (by decide) v ⟨rfl,by decide,by decide⟩ b (Option.some_get y).symm F (λ_ _ _ a t D M I=>⟨a,t,rfl,I,D,.inl M,λ_=>rfl⟩) λ_ _ _ _ z=>z
end K8
def PySem.W.Fast.tw14632412614797142816:Nat:=0
def PySem.W.Fast.tw15459669727282471204:Nat:=0
def PySem.W.Fast.tw627907433274885509:Nat:=0
def PySem.W.Fast.tw10881082945087230757:Nat:=0
def PySem.W.Fast.tw3405081267747850503:Nat:=0
def PySem.W.Fast.tw816776363205596903:Nat:=0
def PySem.W.Fast.tw4982149802267256904:Nat:=0
def PySem.W.Fast.tw4440619000387713961:Nat:=0
def PySem.W.Fast.tw17365860576512853386:Nat:=0
def PySem.W.Fast.tw11303431830979492266:Nat:=0
def PySem.W.Fast.tw16129054371412954700:Nat:=0
def PySem.W.Fast.tw9713008069399657196:Nat:=0
def PySem.W.Fast.tw1556096258653426508:Nat:=0
def PySem.W.Fast.tw2108481747955506254:Nat:=0
def PySem.W.Fast.tw862133902103572014:Nat:=0
def PySem.W.Fast.tw14470242537772562991:Nat:=0
def PySem.W.Fast.tw1837257396849927727:Nat:=0
def PySem.W.Fast.tw11304967746592987184:Nat:=0
def PySem.W.Fast.tw11550986874193167667:Nat:=0
def PySem.W.Fast.tw8215334174106136403:Nat:=0
def PySem.W.Fast.tw4573473190129391956:Nat:=0
def PySem.W.Fast.tw14384699752332075701:Nat:=0
def PySem.W.Fast.tw16233951733453553270:Nat:=0
def PySem.W.Fast.tw14459638403986252281:Nat:=0
def PySem.W.Fast.tw14979864249543712699:Nat:=0
def PySem.W.Fast.tw647978212857743742:Nat:=0
namespace PySem.W.Fast
def tw12785199306857709600:=Nat
def tw11811879016726840384:=Nat
def tw11274405489374300448:=Nat
def tw4503382385801260352:=Nat
def tw11054027845671994752:=Nat
def tw3225152244658204096:=Nat
def tw15069894694156244448:=Nat
def tw7668986465535370720:=Nat
def tw14974147477785342464:=Nat
def tw4561909630557197824:=Nat
def tw3631453872061295168:=Nat
def tw16460774365263529568:=Nat
def tw17375272329614909088:=Nat
def tw15096508642105336512:=Nat
def tw15576523782630526720:=Nat
def tw5374115748919998240:=Nat
def tw204426299280772992:=Nat
def tw8055156873812690912:=Nat
def tw16547137026689704961:=Nat
def tw13567086656210084961:=Nat
def tw2991571030178195617:=Nat
def tw15774094067685764321:=Nat
def tw16499614339985238241:=Nat
def tw5226251901437792513:=Nat
def tw1196510321997432097:=Nat
def tw9503610230098018721:=Nat
def tw1152220000604939777:=Nat
def tw9322959039782840833:=Nat
def tw14672745238232519233:=Nat
def tw15016986824988284673:=Nat
def tw349344748438129537:=Nat
def tw15721667205589516354:=Nat
def tw4007851136415467618:=Nat
def tw16219407770312680674:=Nat
def tw14649259331144496386:=Nat
def tw13384811671147627778:=Nat
def tw12905795250048144674:=Nat
def tw4748711084140116322:=Nat
def tw12765202037994260866:=Nat
def tw8057608517056602530:=Nat
def tw15016394921079033282:=Nat
def tw17929698923074218434:=Nat
def tw10523548979011088866:=Nat
def tw17841382747416336898:=Nat
def tw4317631863071139490:=Nat
def tw1745190559617735362:=Nat
def tw5163931212421588706:=Nat
def tw3058522431616466690:=Nat
def tw495582564853196578:=Nat
def tw16396141715192138626:=Nat
def tw1802439738650245155:=Nat
def tw6255292558874351715:=Nat
def tw18316484628799383715:=Nat
def tw3371175744943751459:=Nat
def tw2495321545235149155:=Nat
def tw6826640707932552707:=Nat
def tw8718425823144221187:=Nat
def tw12716748480661906051:=Nat
def tw7557379988195597955:=Nat
def tw10980810153677817507:=Nat
def tw15654470386415951523:=Nat
def tw5022230684303578819:=Nat
def tw10100833825972269827:=Nat
def tw11057799011798592323:=Nat
def tw5174506748962687811:=Nat
def tw14635493250685685603:=Nat
def tw1952628085468814179:=Nat
def tw14547525587583099811:=Nat
def tw5888375184430561219:=Nat
def tw11521278490965661667:=Nat
def tw8283793366265024516:=Nat
def tw17108261242909712388:=Nat
def tw6357544889767516196:=Nat
def tw1082217226473603140:=Nat
def tw11970720423781401668:=Nat
def tw4924263789003660356:=Nat
def tw4784401168390901860:=Nat
def tw3705575304570537092:=Nat
def tw15369272237569011844:=Nat
def tw8505236341481992324:=Nat
def tw6806566209164297540:=Nat
def tw404926328203887940:=Nat
def tw10520630261596724612:=Nat
def tw11235782839333346788:=Nat
def tw13804273280227975652:=Nat
def tw16974297530332257796:=Nat
def tw2173277547359582756:=Nat
def tw2323364283482463780:=Nat
def tw2158123005784674884:=Nat
def tw2150239317410477636:=Nat
def tw6131595013915089508:=Nat
def tw13341291898568999588:=Nat
def tw7460466254316218052:=Nat
def tw16925593286827095748:=Nat
def tw7699339326513849124:=Nat
def tw11884929933116281700:=Nat
def tw2237009868948908900:=Nat
def tw12399714530637825988:=Nat
def tw15535188410847661253:=Nat
def tw3641547542358600933:=Nat
def tw7890119978323285477:=Nat
def tw18222929094233573861:=Nat
def tw3731720557592563205:=Nat
def tw4686890156698893893:=Nat
def tw11183892157464890949:=Nat
def tw14275209200196385477:=Nat
def tw17268575236077441797:=Nat
def tw18135678122784811781:=Nat
def tw17622330698446529317:=Nat
def tw12057895750624509765:=Nat
def tw14790247112538440645:=Nat
def tw15148145192864907237:=Nat
def tw4206072807592546406:=Nat
def tw12752587986887955558:=Nat
def tw7738978784525619334:=Nat
def tw664819995339255014:=Nat
def tw11182217495346080006:=Nat
def tw7750217936775866662:=Nat
def tw13581640089001040230:=Nat
def tw4026330123999478150:=Nat
def tw9034174571901438342:=Nat
def tw6053907742651752934:=Nat
def tw14516135085948623366:=Nat
def tw3233924332855713318:=Nat
def tw12911772729083299398:=Nat
def tw893544514344564294:=Nat
def tw11065876687903921766:=Nat
def tw16328709233819824806:=Nat
def tw16558593034363345606:=Nat
def tw9636858301010539334:=Nat
def tw13664736237950919590:=Nat
def tw10834861812529499078:=Nat
def tw5268384727283903430:=Nat
def tw11302092166746684455:=Nat
def tw2328292109085772039:=Nat
def tw8318349488989060359:=Nat
def tw2121141619015376199:=Nat
def tw15680497077870821863:=Nat
def tw930329296230317575:=Nat
def tw7299262734093237799:=Nat
def tw7439750536824691271:=Nat
def tw16325798172999235143:=Nat
def tw13013992347131263591:=Nat
def tw17265485297591645799:=Nat
def tw6518037460467766023:=Nat
def tw79866431844345639:=Nat
def tw7762148749004047175:=Nat
def tw1415494124200317799:=Nat
def tw7622320865535534088:=Nat
def tw9782183315834639400:=Nat
def tw134805899696402504:=Nat
def tw16827983207276852328:=Nat
def tw6363208509045978216:=Nat
def tw16179451251954149512:=Nat
def tw427446459440686248:=Nat
def tw11505956423604568264:=Nat
def tw6351601452652811528:=Nat
def tw6240692654604764424:=Nat
def tw10090452307605223752:=Nat
def tw11441030004246110568:=Nat
def tw4044917561593703816:=Nat
def tw12883022948468270536:=Nat
def tw4440033690094611944:=Nat
def tw13223429165775264296:=Nat
def tw8290303679143798376:=Nat
def tw10253969154327147304:=Nat
def tw13896337137867703144:=Nat
def tw3779472520041035624:=Nat
def tw6827833691339985800:=Nat
def tw10941184512791474056:=Nat
def tw13209152052688756648:=Nat
def tw10795697013999629224:=Nat
def tw2769477498653165512:=Nat
def tw10990071174893410280:=Nat
def tw10883149986600791016:=Nat
def tw2300117529956632617:=Nat
def tw6999499975845846089:=Nat
def tw1105667872899561609:=Nat
def tw7019960796228639945:=Nat
def tw11184653065566847209:=Nat
def tw2274244492896709929:=Nat
def tw11938305403993016617:=Nat
def tw14091212740923030825:=Nat
def tw9450692850066223433:=Nat
def tw15198077832899695049:=Nat
def tw9854448800124757481:=Nat
def tw6586841736615232041:=Nat
def tw7201055449732383305:=Nat
def tw4599501200669485705:=Nat
def tw6188095961980552873:=Nat
def tw10769084924297937673:=Nat
def tw18118592956272454473:=Nat
def tw16229326663479075689:=Nat
def tw4677519902246754185:=Nat
def tw5663109752954955721:=Nat
def tw14924138535362577385:=Nat
def tw3277638719699076073:=Nat
def tw3958293171174799370:=Nat
def tw16036119266019400778:=Nat
def tw8577332298828467402:=Nat
def tw11203212825904732362:=Nat
def tw7880487673428645130:=Nat
def tw11923445789444014410:=Nat
def tw12060158670984132010:=Nat
def tw17110794708277245354:=Nat
def tw13010228274820212234:=Nat
def tw16728617428909434474:=Nat
def tw3083896716588351082:=Nat
def tw4399451805013201546:=Nat
def tw3450424101258990282:=Nat
def tw10761117770775409418:=Nat
def tw10892650984148263690:=Nat
def tw13714125829926823722:=Nat
def tw3915545921779682090:=Nat
def tw6188443798519777098:=Nat
def tw13505431728214507338:=Nat
def tw14994609659920082794:=Nat
def tw7628572429627435946:=Nat
def tw5144781003265372171:=Nat
def tw11074016457647597579:=Nat
def tw13676850922765892651:=Nat
def tw18100689439156894795:=Nat
def tw16224718650909252747:=Nat
def tw8510417085338037419:=Nat
def tw1075653571256929451:=Nat
def tw17809335494465263883:=Nat
def tw17887954099651769675:=Nat
def tw18055100248597469547:=Nat
def tw3491886225260639723:=Nat
def tw7365379967923965483:=Nat
def tw11515973083462933099:=Nat
def tw5348339104597761675:=Nat
def tw6767530522350264971:=Nat
def tw10121910213788276395:=Nat
def tw3665947272202500779:=Nat
def tw13168483766874293963:=Nat
def tw3847851422183870219:=Nat
def tw7404323476074319659:=Nat
def tw4892428853486450603:=Nat
def tw3609708858830371819:=Nat
def tw15656802544066461740:=Nat
def tw3739472278221276204:=Nat
def tw3937637886960280652:=Nat
def tw468643190226292812:=Nat
def tw7151518542627907692:=Nat
def tw17703790578069819500:=Nat
def tw8276184926172176524:=Nat
def tw804975929564070220:=Nat
def tw3111811898449826124:=Nat
def tw15527685843262003596:=Nat
def tw17930261364925621676:=Nat
def tw17085339177345611244:=Nat
def tw10608270745112566284:=Nat
def tw15425908170593095244:=Nat
def tw16880410887936413292:=Nat
def tw15032251655861159564:=Nat
def tw12303008687847494284:=Nat
def tw6720594805107381932:=Nat
def tw12072222365380722476:=Nat
def tw3449858700794813228:=Nat
def tw17411127013761092524:=Nat
def tw7602037019439407020:=Nat
def tw16257356262005030989:=Nat
def tw810993439889674381:=Nat
def tw2150890426644663501:=Nat
def tw6867047190057264333:=Nat
def tw10838928100083695949:=Nat
def tw11050671266775696717:=Nat
def tw493142733267498317:=Nat
def tw15843945381336570221:=Nat
def tw9506055649266908525:=Nat
def tw4636139524925786541:=Nat
def tw3594442955209334253:=Nat
def tw12473691583015145997:=Nat
def tw17150549360083052109:=Nat
def tw8480733868814459469:=Nat
def tw3833939705442395725:=Nat
def tw8757316779018449549:=Nat
def tw5578009970522855117:=Nat
def tw14414410481467457229:=Nat
def tw6404982809763090157:=Nat
def tw17458922891684114317:=Nat
def tw8982127322967151533:=Nat
def tw4441249093399976877:=Nat
def tw1436866453959500717:=Nat
def tw4149481641102123981:=Nat
def tw11026213426955598829:=Nat
def tw14913071959023642605:=Nat
def tw11916638138860239853:=Nat
def tw10181792445043999758:=Nat
def tw6234734814559271982:=Nat
def tw10481711972181656686:=Nat
def tw12891242712947274894:=Nat
def tw5592054374582507758:=Nat
def tw11824055071136905486:=Nat
def tw3660477617664351502:=Nat
def tw3620820558906438958:=Nat
def tw4302341828292690222:=Nat
def tw5564929415086401838:=Nat
def tw14190355023763013966:=Nat
def tw14530688872175400270:=Nat
def tw12904655580529118702:=Nat
def tw5559262305813501422:=Nat
def tw2739636835331214926:=Nat
def tw8583365045830642286:=Nat
def tw9196517794547237550:=Nat
def tw3384737674722808494:=Nat
def tw8374073278448352942:=Nat
def tw1003938546189956910:=Nat
def tw6792486530058868526:=Nat
def tw15369698071455009614:=Nat
def tw12326657227970725806:=Nat
def tw15245411084917917743:=Nat
def tw12135557000728009775:=Nat
def tw7739755130407886991:=Nat
def tw11037555976512610479:=Nat
def tw7712923246585663695:=Nat
def tw16519983223086597327:=Nat
def tw16765477391240090863:=Nat
def tw17625072895915857167:=Nat
def tw8303911774809187599:=Nat
def tw2405333869412514063:=Nat
def tw14972577302295593295:=Nat
def tw17332550869708790095:=Nat
def tw11045520110221084015:=Nat
def tw9403597007861768559:=Nat
def tw14496695044056361359:=Nat
def tw2498576688586347919:=Nat
def tw884958889725892015:=Nat
def tw6005007840441686575:=Nat
def tw11509396734315011663:=Nat
def tw9602126804882153135:=Nat
def tw5461150155979134671:=Nat
def tw14906901617625917135:=Nat
def tw14870351191482373967:=Nat
def tw8397428995909806991:=Nat
def tw11759830625520288687:=Nat
def tw12110478652147238831:=Nat
def tw13698921167521814447:=Nat
def tw9380688467662993327:=Nat
def tw5748223356311217135:=Nat
def tw3987204649735099504:=Nat
def tw3179136958825065584:=Nat
def tw6036189681514313904:=Nat
def tw5682643487791355088:=Nat
def tw10497866917658654000:=Nat
def tw1146133956524346704:=Nat
def tw9556869928962377072:=Nat
def tw15786628057512343088:=Nat
def tw9807632911592212048:=Nat
def tw2207542338985097808:=Nat
def tw9393562313423312464:=Nat
def tw8616542701810470576:=Nat
def tw11690354943900720816:=Nat
def tw12658388642687050448:=Nat
def tw9925799462517075664:=Nat
def tw16402218433716213520:=Nat
def tw17744440492422380304:=Nat
def tw7311361297651371920:=Nat
def tw13141639703398816688:=Nat
def tw2848195815854139344:=Nat
def tw17833575480582582289:=Nat
def tw16386777285295616049:=Nat
def tw7657795576371114065:=Nat
def tw10883830045385060465:=Nat
def tw4542727264844649649:=Nat
def tw7591932039898645745:=Nat
def tw15581934733492475121:=Nat
def tw2347323050391722289:=Nat
def tw11860059625507239313:=Nat
def tw14505234818755660241:=Nat
def tw16548146647154507217:=Nat
def tw17049158932945283601:=Nat
def tw6676652313416839825:=Nat
def tw6663577319595218641:=Nat
def tw15134826929864603377:=Nat
def tw2630882957425021713:=Nat
def tw1971416166876220209:=Nat
def tw7115029975514493777:=Nat
def tw2634462833896699793:=Nat
def tw7333354323922020273:=Nat
def tw7201814560726635505:=Nat
def tw9673249137170473010:=Nat
def tw2866264955455299634:=Nat
def tw10823617450729095410:=Nat
def tw17648018815178311922:=Nat
def tw7243608459805763858:=Nat
def tw16484639735852089650:=Nat
def tw12240614125974587730:=Nat
def tw8723703630018718066:=Nat
def tw1270018639534909810:=Nat
def tw2884324408081914258:=Nat
def tw14095863254532385170:=Nat
def tw8280046432056455634:=Nat
def tw10936588542181085682:=Nat
def tw3592042028493955570:=Nat
def tw16733891638497511090:=Nat
def tw17128418326047005458:=Nat
def tw9919979377606275858:=Nat
def tw15049539464765305618:=Nat
def tw5139418584725090098:=Nat
def tw11335548493595756338:=Nat
def tw9949780748392786802:=Nat
def tw6189015132444915602:=Nat
def tw12827120628159086546:=Nat
def tw773591888728129522:=Nat
def tw16032869704000110611:=Nat
def tw14297044323528567859:=Nat
def tw4024040420894474323:=Nat
def tw17530428248904579187:=Nat
def tw4851598105447955699:=Nat
def tw14328562877285133619:=Nat
def tw12522354625388311859:=Nat
def tw12116287371714780499:=Nat
def tw193752641447765331:=Nat
def tw13487148856197247347:=Nat
def tw3194381723633137075:=Nat
def tw11730363128853653971:=Nat
def tw1088771362696380883:=Nat
def tw38378325589699059:=Nat
def tw9282770425441698291:=Nat
def tw3769203687720843795:=Nat
def tw894960435263973011:=Nat
def tw8820133844848583347:=Nat
def tw12432998290752902835:=Nat
def tw5185342781599042323:=Nat
def tw15251366294518462291:=Nat
def tw1247578449681732467:=Nat
def tw14187267205406215091:=Nat
def tw16175011577981138996:=Nat
def tw16784574378329757780:=Nat
def tw5451033964807252052:=Nat
def tw17719560426609182868:=Nat
def tw16909776047697458324:=Nat
def tw8665904460372753652:=Nat
def tw9108718665803028788:=Nat
def tw8440596277015561556:=Nat
def tw11498325372111293812:=Nat
def tw6341384651328001396:=Nat
def tw5144436480175161716:=Nat
def tw16512219038430780852:=Nat
def tw14490087023677312436:=Nat
def tw11088574364364535284:=Nat
def tw2406643508218798612:=Nat
def tw14757009540934511124:=Nat
def tw17901798731289147956:=Nat
def tw2926071216810655284:=Nat
def tw5624914832410082932:=Nat
def tw462761735877951156:=Nat
def tw12456676243530274548:=Nat
def tw1235074238654931732:=Nat
def tw2767962920725425972:=Nat
def tw7249970377076140948:=Nat
def tw5125332701947472820:=Nat
def tw5114008506465444852:=Nat
def tw8725786693291834613:=Nat
def tw7549087984556616981:=Nat
def tw506095389087095093:=Nat
def tw4705363739753253269:=Nat
def tw827028784404174229:=Nat
def tw16199659393321557397:=Nat
def tw558010052097566101:=Nat
def tw14423738959842763189:=Nat
def tw7426859518115716565:=Nat
def tw16816728629598668245:=Nat
def tw8647072306609083957:=Nat
def tw7898519980341952053:=Nat
def tw9187250383835210357:=Nat
def tw8593233569390890645:=Nat
def tw8534441962593905333:=Nat
def tw8032376428916405941:=Nat
def tw13019108145836040949:=Nat
def tw2100629620582263669:=Nat
def tw11577525830141392789:=Nat
def tw3912780205847586741:=Nat
def tw10744131849469785013:=Nat
def tw2672000258371513301:=Nat
def tw10604359771953506293:=Nat
def tw638789317500823541:=Nat
def tw9263796254465786902:=Nat
def tw3198658203668111382:=Nat
def tw17016367859141115990:=Nat
def tw5350048231757970550:=Nat
def tw5605475821972180118:=Nat
def tw9089498163940427030:=Nat
def tw3887303509818627350:=Nat
def tw15613253536067576086:=Nat
def tw12279106274534695318:=Nat
def tw12969899141746057622:=Nat
def tw5976682902761715286:=Nat
def tw10840439629180049014:=Nat
def tw4016471531308717718:=Nat
def tw2456488040454397654:=Nat
def tw10461767212777663222:=Nat
def tw3126458426370751286:=Nat
def tw14235367477961517014:=Nat
def tw4485704617878698039:=Nat
def tw11108093521615108215:=Nat
def tw4379759103941690519:=Nat
def tw1025995755320492183:=Nat
def tw14084745502201274551:=Nat
def tw7249251932137213111:=Nat
def tw8629667815321967895:=Nat
def tw17613266275562289463:=Nat
def tw11269133486714727735:=Nat
def tw13869013391972921847:=Nat
def tw17177861736182078007:=Nat
def tw14178588288617839159:=Nat
def tw15610731557201184375:=Nat
def tw9558411990987953847:=Nat
def tw10818614795441490615:=Nat
def tw16463371777199822743:=Nat
def tw2988782978567448471:=Nat
def tw5461670150238749623:=Nat
def tw12775499053378095063:=Nat
def tw3477435446492641336:=Nat
def tw2575750451269389368:=Nat
def tw18314315383904129080:=Nat
def tw16785482674841252952:=Nat
def tw10156817927502812280:=Nat
def tw5591267495133314296:=Nat
def tw12564719487739707672:=Nat
def tw4702405342514072856:=Nat
def tw9749180317602402584:=Nat
def tw2896175597204035896:=Nat
def tw17029267987492404568:=Nat
def tw4072634981143171608:=Nat
def tw597324696162063896:=Nat
def tw15007926603588747896:=Nat
def tw18258987110121665144:=Nat
def tw15545891547928172440:=Nat
def tw14119082317525854136:=Nat
def tw7719091313073557529:=Nat
def tw4588208923483093145:=Nat
def tw8749934627087795449:=Nat
def tw10851999244731261273:=Nat
def tw17210759979851155833:=Nat
def tw7648078225880465785:=Nat
def tw9418054469230934489:=Nat
def tw11070962618580739577:=Nat
def tw4607019871613813273:=Nat
def tw17426092654344729:=Nat
def tw3954276746770001465:=Nat
def tw10722819582367602297:=Nat
def tw16553421872528706201:=Nat
def tw7721234055300107929:=Nat
def tw14351389428600658585:=Nat
def tw2654581502654318265:=Nat
def tw15502501713859776217:=Nat
def tw10267477162578168569:=Nat
def tw2853369953144552249:=Nat
def tw6145668859683441593:=Nat
def tw4220294679788258330:=Nat
def tw5598206896031165498:=Nat
def tw6510473742236715130:=Nat
def tw2579853731677127866:=Nat
def tw4220435721875212570:=Nat
def tw9196704380355386682:=Nat
def tw14445185945602268474:=Nat
def tw17629920496302835002:=Nat
def tw4946322701918964090:=Nat
def tw17609665246532904346:=Nat
def tw1412532280488466842:=Nat
def tw7421963009486163482:=Nat
def tw15675374277290724890:=Nat
def tw17363959774678426138:=Nat
def tw7951403924766867994:=Nat
def tw18341135541611912762:=Nat
def tw14639370863181768282:=Nat
def tw9358695370476963418:=Nat
def tw16714241613743118938:=Nat
def tw15863303641478016666:=Nat
def tw7249422282311613082:=Nat
def tw3467212671677644442:=Nat
def tw4378788617404314266:=Nat
def tw12488303082798810842:=Nat
def tw12936606040175884026:=Nat
def tw7269753654110523130:=Nat
def tw13409805076179238682:=Nat
def tw17423124324702161722:=Nat
def tw3137950577843178362:=Nat
def tw15953307461167110042:=Nat
def tw14361632325405739994:=Nat
def tw10069725250431267834:=Nat
def tw1032000944017740794:=Nat
def tw6566551493084910683:=Nat
def tw12260273651963456635:=Nat
def tw15548386489212557467:=Nat
def tw14447373508057791675:=Nat
def tw2229263143294780667:=Nat
def tw16139300656707738011:=Nat
def tw6149743145165375963:=Nat
def tw2552139328987537947:=Nat
def tw16877905515179882043:=Nat
def tw7463585017586740795:=Nat
def tw5757996784268082747:=Nat
def tw12197739514381236827:=Nat
def tw10794289615453097659:=Nat
def tw18158594645780730555:=Nat
def tw13301494595002656443:=Nat
def tw6765642597643596635:=Nat
def tw5306084046239735643:=Nat
def tw5265157783032271803:=Nat
def tw13785478357795115100:=Nat
def tw2992844338442650716:=Nat
def tw17515290852943004828:=Nat
def tw10404465205107731612:=Nat
def tw1023569334201482396:=Nat
def tw5435115796889593084:=Nat
def tw17266716990445796636:=Nat
def tw11749958755230781724:=Nat
def tw14821698549085095356:=Nat
def tw17540022738798620156:=Nat
def tw6494477956358922844:=Nat
def tw8851916177230571100:=Nat
def tw17574895371116124828:=Nat
def tw13472393117539316380:=Nat
def tw5826409153712741084:=Nat
def tw3052538127426965212:=Nat
def tw778409199306339068:=Nat
def tw14182986114262336284:=Nat
def tw12153691037190583068:=Nat
def tw18107003373601296252:=Nat
def tw12976899224344721276:=Nat
def tw16334728364425501628:=Nat
def tw7639090229772763100:=Nat
def tw6947920468567112700:=Nat
def tw3266391258468611133:=Nat
def tw15740138375887295613:=Nat
def tw6859066179556315261:=Nat
def tw13525626317741288605:=Nat
def tw4735135404112416957:=Nat
def tw5315902756738415805:=Nat
def tw2906063623686105309:=Nat
def tw2370779166862613821:=Nat
def tw946700053297274205:=Nat
def tw17039452834685867389:=Nat
def tw15479466922762856861:=Nat
def tw4710650192973134269:=Nat
def tw17819423451670178269:=Nat
def tw9051846021816591933:=Nat
def tw8484149442418125437:=Nat
def tw786805660393676413:=Nat
def tw9269584861229321885:=Nat
def tw16887035518730542749:=Nat
def tw15143510475298765501:=Nat
def tw10288264334608666301:=Nat
def tw3617726045827158717:=Nat
def tw2429014229540032253:=Nat
def tw6328035913612665629:=Nat
def tw9256991472675416957:=Nat
def tw18157105303224062046:=Nat
def tw16283617756540603646:=Nat
def tw8698670441446782:=Nat
def tw907344715466344862:=Nat
def tw15083437552165170590:=Nat
def tw14871401539755715006:=Nat
def tw7320041646646798846:=Nat
def tw16828568539352185406:=Nat
def tw6900964201959088798:=Nat
def tw11637463674127616798:=Nat
def tw7670192769054502686:=Nat
def tw1112319503004010334:=Nat
def tw7721966572434284446:=Nat
def tw5427187466385225630:=Nat
def tw1587642262064940063:=Nat
def tw3052402700355824703:=Nat
def tw65715380545496223:=Nat
def tw16260706104993304863:=Nat
def tw9625906144541788479:=Nat
def tw900716204526072127:=Nat
def tw17626721433905104223:=Nat
def tw9229060788064915807:=Nat
def tw14482267335911716191:=Nat
def tw17620771216376355167:=Nat
def tw14400688620495131071:=Nat
def tw16251980796101626335:=Nat
def tw2581407190259143231:=Nat
def tw15183245684019317343:=Nat
def tw11836709694658003583:=Nat
def tw14572463015750792831:=Nat
def tw6951480708496127615:=Nat
def tw2421579387525007039:=Nat
def tw15033848067794244287:=Nat
def tw16638214540741493471:=Nat
def tw10705076759080199935:=Nat
def tw7983215953306363839:=Nat
def tw4830695670962858943:=Nat
def tw9379197797636659135:=Nat
def tw16864488600877097919:=Nat
def tw18164672656669818847:=Nat
def tw12123450809175621631:=Nat
def tw616481082483103743:=Nat
def tw2587236463350127644:=Nat
end PySem.W.Fast
open PySem PySem.W PyProof.Rows
set_option maxRecDepth 100000 in
set_option maxHeartbeats 0 in
theorem PySem.Challenge.cw_spinfloor_k36_both_ways_holds : PySem.Challenge.rw_spinfloor_k36_both_ways.Holds := by
 w_on;o_law;k_head;(case hw=>w_witness2);k_fill;refine K8.walk (l:=PySem.Challenge.rw_spinfloor_k36_both_ways) rfl rfl (λw h Y=>PySem.W.km_in_of Y) ?R ?F;(case R=>kernel_rfl)
 case F =>
  intro w mg fa h KX G hmg;refine' K8.all_mk KX G hmg ?gf ?jO ?jN ?iW ?uC ?uB ?Ag ?gF ?gE ?eK ?gD ?gC ?eJ ?iI ?g_bits ?g_ones ?g_odd ?g_mask_of ?g_reached ?g_beyond ?g_links_at ?g_row_to ?g_whole ?g_refuse_marks ?g_chosen_of ?g_laid_in_pairs ?g_new_table ?g_paired ?g_pushes ?g_odd_at ?g_odd_rounds ?g_links_of ?g_marks_of ?g_head ?g_leaving ?g_follower ?g_round_from ?g_rounds_of ?g_sides_of ?g_refuse_ends ?g_refuse_turns ?g_refuse_parted ?g_roof ?g_paid_alike ?g_paid_unlike ?g_both_ways_of ?g_both_ways ?g_setting ?g_set_ties ?g_law_cell ?g_law_head ?g_law_put ?g_law_step ?g_law_grown ?g_law_order ?g_law_renumbered ?g_law_kinds ?g_law_web ?g_law_worth ?g_law_costs ?g_law_number ?g_least ?g_law_asked ?g_law_too_rough ?g_law_fan ?g_law_pair ?mB ?oG ?uw ?oH ?gM ?gX ?gO ?eB ?jI ?jM ?h7 ?jJ ?gL ?gW ?de ?eu ?iK ?iT ?fY ?iL ?gK ?gU ?gN ?gP ?iU ?iJ ?gI ?iS ?fX ?BY ?DS ?Ep ?DV ?eZ ?ik ?bF ?ga_TooRough ?gt_TooRough ?hb_TooRough ?iN ?iO ?iM ?bY ?cm ?cj ?so ?tE ?r9 ?rW ?sO ?sX ?iH ?iG ?dt ?sj ?tD ?r8 ?rV ?sN ?sW ?iF ?iE ?dq ?yh ?zb ?yf ?xU ?yJ ?yT ?iD ?iC ?gA ?fU ?gB ?hn_ ?htk_ ?gi_most ?gi_modd ?kv_ ?CF ?CG ?wQ ?wN ?rC ?rD ?ij ?gj ?CC ?CB ?nu ?CD ?CA ?CH ?wO ?jt ?gk ?tbc ?tbl ?tbv ?tbn;(case gf|jO|jN|iW|uC|uB|Ag|gF|gE|eK|gD|gC|eJ|iI=>k_is)
  (case g_bits|g_ones|g_odd|g_mask_of|g_reached|g_beyond|g_links_at|g_row_to|g_whole|g_refuse_marks|g_chosen_of|g_laid_in_pairs|g_new_table|g_paired|g_pushes|g_odd_at|g_odd_rounds|g_links_of|g_marks_of|g_head|g_leaving|g_follower|g_round_from|g_rounds_of|g_sides_of|g_refuse_ends|g_refuse_turns|g_refuse_parted|g_roof|g_paid_alike|g_paid_unlike|g_both_ways_of|g_both_ways|g_setting|g_set_ties|g_law_cell|g_law_head|g_law_put|g_law_step|g_law_grown|g_law_order|g_law_renumbered|g_law_kinds|g_law_web|g_law_worth|g_law_costs|g_law_number|g_least|g_law_asked|g_law_too_rough|g_law_fan|g_law_pair=>refine' ⟨?ja,L2.fun_mk ?jl ?jc ?jk⟩;(case ja=>k_is);(case jl=>k_is);(case jc=>k_is);(case jk=>k_is));(case mB|oG|uw|oH|gM|gX|gO|eB|jI|jM|h7|jJ|gL|gW|de|eu|iK|iT|fY|iL|gK|gU|gN|gP|iU|iJ|gI|iS|fX|BY|DS|Ep|DV=>k_is)
  (case eZ|ik=>k_exc)
  (case bF|ga_TooRough|gt_TooRough|hb_TooRough|iN|iO|iM=>k_is)
  (case bY|cm|cj=>kit_is)
  (case so|tE|r9|rW|sO|sX|iH|iG|dt|sj|tD|r8|rV|sN|sW|iF|iE|dq|yh|zb|yf|xU|yJ|yT|iD|iC|gA|fU|gB|hn_|htk_|gi_most|gi_modd=>k_is)
  (case kv_=>kernel_rfl);(case CF|CG|wQ|wN|rC|rD|ij|gj|CC|CB|nu|CD|CA|CH|wO|jt|gk=>k_is)
  (case tbc=>rfl);(case tbl=>k_is);(case tbv=>rfl);(case tbn=>kernel_rfl)
